/- at: what keys were at a version. -/
import Derived.Test.YtpfhkijnaiopoaaPUp
namespace Go.Proofs.Ytpfhkijnaiopoaa
open Go.RowKit

theorem info_chgE : ∃ i0, Try.prog.info? 67 = some i0 ∧ i0.zero = some (.agg #[.int .i64 0, .string ⟨#[]⟩, .string ⟨#[]⟩]) ∧ i0.size = 3 ∧ i0.bytes = 40 := info_parts info_chg
theorem RdC.one (w : World) (c : Chg) : RdC (w.alloc (.cells #[.int .i64 c.kind, .string c.key, .string c.val] 67)) (w.heap.size + 1) (.slice (some ⟨w.heap.size, 0, none⟩) 1 1) [c] := by
  refine ⟨_, 1, rfl, Nat.le_refl _, fun i hi => ⟨w.heap.size, 0, rfl, Nat.lt_succ_self _, fun j u hu => ?_⟩⟩
  obtain rfl : i = 0 := by simp at hi; omega
  match j, hu with
  | 0, hu =>
    simp only [encC, List.getElem_cons_zero, List.getElem?_cons_zero, Option.some.injEq] at hu
    subst hu
    exact World.cell?_alloc_at _ _ _ _ rfl
  | 1, hu =>
    simp only [encC, List.getElem_cons_zero, List.getElem?_cons_succ, List.getElem?_cons_zero, Option.some.injEq] at hu
    subst hu
    exact World.cell?_alloc_at _ _ _ _ rfl
  | 2, hu =>
    simp only [encC, List.getElem_cons_zero, List.getElem?_cons_succ, List.getElem?_cons_zero, Option.some.injEq] at hu
    subst hu
    exact World.cell?_alloc_at _ _ _ _ rfl
  | j + 3, hu => simp [encC] at hu
section
variable {ops : Array Oper} {rest : List Oper} {o : Oper} {a : Act} {Q : Exit → Act → World → Prop} {w : World}
theorem wpList_addC (hgd : Region.wanted o (yielded ops a.tmps) = true) (s x : Operand) (ho : o.op = .call { callee := .builtin .append, args := #[s, x], argTypes := #[34, 34] })
    (base : Nat) (v : Value) (l : List Chg) (hs : a.eval s = v) (hown : OwnC w base v l) (B : Nat) (v2 : Value) (p : List Chg) (hx : a.eval x = v2) (hp : RdC w B v2 p) (hl : l.length + p.length ≤ 3000001) (hbase : base ≤ w.heap.size)
    (h : ∀ A' c' w', Hid (OwnC w' base (.slice A' (l ++ p).length c') (l ++ p)) → Hid (w.grownBy w' v.ownBlock) → wpList Try.prog ops Q rest (a.put o.dst (.slice A' (l ++ p).length c')) w') : wpList Try.prog ops Q (o :: rest) a w := by
  obtain ⟨i0, hi, hz0, hz1, hz2⟩ := info_chgE
  exact BigFrame.wpList_want hgd fun K2 hK => wp_addAny (enc := encC) (k := 3) 34 67 40 i0 _ Try.underlying34 hi hz0 hz1 hz2 rfl (by decide) encC_len encC_one s x ho base v l hs hown B v2 p hx hp (by unfold maxLen; omega) (by omega) hbase fun A' c' w' h1 h2 => hK _ _ (h A' c' w' (Lib.hid h1) (Lib.hid h2))
end

set_option maxHeartbeats 8000000 in
set_option maxRecDepth 100000 in
theorem at_any (base q n : Nat) (G : Nat → Prop) (p : Pa) (v : Int) (w : World) (h : PaAt w base q G n p) (h1 : p.first ≤ v) :
    Calls Try.prog 41 #[.pointer (some ⟨q, 0, none⟩), .int .i64 v] w fun e w' => ∃ v', e = .returned v' ∧ OwnP w' w.heap.size v' (p.at_ v) ∧ Below w.heap.size w w' := by
  obtain ⟨⟨bv, dv, bs, ds, hb, hob, hod, hgh, _⟩, _, hlow⟩ := h
  have hlen := hgh.len
  have hfew := hgh.few
  unfold many at hfew
  have hup := upTo_any q _ _ bv dv ds v w hb (hod.rd encD_len) hgh.rise (by omega)
  rw [hgh.link v h1, ← (cnt_take hgh.rise v).1]
  have hoks := hgh.oks v
  rw [← (cnt_take hgh.rise v).1] at hoks
  have hkl := cnt_le ds v
  have htl : (ds.take (cnt ds v)).length = cnt ds v := by rw [List.length_take]; omega
  generalize ds.take (cnt ds v) = us at hup hoks htl ⊢
  generalize cnt ds v = k at hup htl hkl
  subst htl
  have HUP := Lib.hid hup; clear hup
  have hap := fun vc W (h1 : RdP W W.heap.size bv bs) (h2 : RdC W W.heap.size vc (chgs us)) => papply_any bs (chgs us) (fun p hp => by have := (soundP_spec hgh.sound).2 p hp; omega) (fun c hc => by have := check_size (hoks c hc); unfold smallC; omega) bv vc W h1 h2 (by rw [chgs_len]; omega)
  have HAP := Lib.hid hap; clear hap
  have HALL := Lib.hid (allAns_ok hoks)
  have HSND := Lib.hid hgh.sound
  have q2 := fun W (hW : Below w.heap.size w W) => (hb.below hW hb.size).cell 2 _ rfl
  have HQ2 := Lib.hid q2; clear q2
  have HBV := Lib.hid (hob.rd cellsS_len)
  have HL := Lib.hid hkl
  have hul : us.length ≤ 3000000 := by omega
  clear hb hob hod hgh hoks hlow hkl hlen hfew h1
  obtain ⟨g, hg⟩ : ∃ g, g = w.heap.size := ⟨_, rfl⟩
  have HG := Lib.hid hg
  have hsz : g ≤ w.heap.size := by omega
  clear hg
  go_enter Try.func41, Try.ntmps41
  go_wp2_with fail
  refine HUP.out.mono ?_
  rintro e w1 ⟨A, c, rfl, hrd, hb1⟩
  have HB1 := Lib.hid (show Below g w w1 by rw [HG.out]; exact hb1); clear hb1
  obtain ⟨A', c', hv, hcl, hi⟩ := hrd.at
  injection hv with hv1 _ hv3
  subst hv1 hv3
  have HI := Lib.hid hi; clear hi
  have HS1 := Lib.hid (show g ≤ w1.heap.size from Nat.le_trans hsz HB1.out.size)
  clear hrd HUP
  go_wp2_with fail
  go_loopw [5, 14] (fun ov iv wr => ∃ (i : Nat) (A' : Option Addr) (c' : Nat), i ≤ us.length ∧ iv = .int .i64 i ∧ ov = .slice A' i c' ∧ Hid (OwnC wr w1.heap.size ov (chgs (us.take i))) ∧ Hid (Below w1.heap.size w1 wr)) (fun _ iv _ => us.length - (intOf iv).toNat)
  case atStart => exact ⟨0, none, 0, Nat.zero_le _, rfl, rfl, Lib.hid (Own.nil _ _), Lib.hid (Below.refl _ _)⟩
  case round =>
    obtain ⟨i, A2, c2, hil, rfl, rfl, HO, HBW⟩ := hrel
    have HBG := Lib.hid (show Below g w wr from HB1.out.trans (HBW.out.mono HS1.out))
    have hgs : g ≤ wr.heap.size := Nat.le_trans hsz HBG.out.size
    have hws : w1.heap.size ≤ wr.heap.size := HBW.out.size
    by_cases hlt : i < us.length
    · obtain ⟨b, o, rfl, hbB, k0, k1, k2, k3⟩ := HI.out i hlt
      rw [← HBW.out.cell (p := ⟨b, _, none⟩) hbB] at k0 k1 k2 k3
      have hnext : chgs (us.take (i + 1)) = chgs (us.take i) ++ [us[i].2] := by
        unfold chgs
        rw [List.take_succ_eq_append_getElem hlt, List.map_append]; rfl
      have hll : (chgs (us.take i)).length = i := by rw [chgs_len, List.length_take]; omega
      generalize chgs (us.take i) = out at HO hnext hll
      generalize us[i] = z at k0 k1 k2 k3 hnext
      obtain ⟨vz, kz, xz, yz⟩ := z
      simp only at k0 k1 k2 k3 hnext
      have HN := Lib.hid hnext; clear hnext
      have HLL := Lib.hid hll
      go_wp2_with (at_builtin; go_must (refine wpList_addC rfl _ _ rfl w1.heap.size (.slice A2 i c2) out rfl ?f1 (wr.heap.size + 1 + 1) _ [⟨kz, xz, yz⟩] rfl ?f3 ?f4 ?f2 ?_))
      case f1 => exact (HO.out.alloc _).alloc _
      case f2 => simp; omega
      case f3 => have := RdC.one (wr.alloc (.cells #[.int .i64 vz, .int .i64 kz, .string xz, .string yz] 72)) ⟨kz, xz, yz⟩; rw [World.size_alloc] at this; exact this
      case f4 => rw [hll]; simp; omega
      intro A3 c3 w4 ho4 hg4
      have hb5 : Below w1.heap.size w1 w4 := ((HO.out.alloc _).alloc _).grown ((HBW.out.alloc hws _).alloc (by simp; omega) _) hg4.out (Nat.le_refl _) (by simp; omega)
      have HB5 := Lib.hid hb5; clear hb5
      go_wp2_with fail
      go_roundw
      case rel => exact ⟨i + 1, A3, c3, by omega, by go_num, by simp [hll], by rw [HN.out]; exact ho4, HB5⟩
      case measure => simp [intOf]; omega
    · obtain rfl : i = us.length := by omega
      rw [List.take_length] at HO
      have q2 := HQ2.out wr (by rw [← HG.out]; exact HBG.out)
      have hrc : RdC wr wr.heap.size (.slice A2 us.length c2) (chgs us) := HO.out.rd encC_len
      have hrp : RdP wr wr.heap.size bv bs := (HBV.out.below (show Below w.heap.size w wr by rw [← HG.out]; exact HBG.out) (Nat.le_refl _)).mono HBG.out.size
      have HC := Lib.hid (HAP.out _ wr hrp hrc)
      clear hrc hrp
      go_wp2_with fail
      refine HC.out.mono ?_
      rintro e w5 ⟨v', qe, rfl, hb5, hai⟩
      have hq0 : qe = 0 ∧ OwnP w5 wr.heap.size v' (applyP bs (chgs us)) := by
        rcases hai with ⟨h1, h2, _⟩ | ⟨_, h2, _⟩ | ⟨_, _, h3, h4⟩
        · rw [HALL.out] at h1; exact absurd h1 h2
        · rw [HSND.out] at h2; cases h2
        · exact ⟨h3, h4⟩
      obtain ⟨rfl, ho5⟩ := hq0
      have HO5 := Lib.hid (ho5.lower hgs)
      have HB5 := Lib.hid (HBG.out.trans (hb5.mono hgs))
      clear hai hb5 ho5
      go_wp2_with fail
      go_ret
      exact ⟨_, rfl, by have h := HO5.out; rwa [HG.out] at h, by have h := HB5.out; rwa [HG.out] at h⟩
end Go.Proofs.Ytpfhkijnaiopoaa
