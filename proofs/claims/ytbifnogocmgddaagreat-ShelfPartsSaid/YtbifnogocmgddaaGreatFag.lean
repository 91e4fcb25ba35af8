/- at: what keys were at a version. slices.Delete over deeds. An append to a slice of the call's own that says of its block: the old one or a new one. A region whose last operation waits for all others and may write what the others have read: an order laid down beforehand, as in Plan, where the condition on the worlds need not outlive that last operation. Add. -/
import Derived.Test.YtbifnogocmgddaaGreatFaf
import Derived.Test.YtbifnogocmgddaaGreatFab
namespace Go.Proofs.YtbifnogocmgddaaGreat
open Go.RowKit

theorem info_chgE : ∃ i0, Tryz.prog.info? 67 = some i0 ∧ i0.zero = some (.agg #[.int .i64 0, .string ⟨#[]⟩, .string ⟨#[]⟩]) ∧ i0.size = 3 ∧ i0.bytes = 40 := info_parts info_chg
theorem RdC.one (w : World) (c : Chg) : RdC (w.alloc (.cells #[.int .i64 c.kind, .string c.key, .string c.val] 67)) (w.heap.size + 1) (.slice (some ⟨w.heap.size, 0, none⟩) 1 1) [c] := by
  refine ⟨_, 1, rfl, Nat.le_refl _, fun i hi => ⟨w.heap.size, 0, rfl, Nat.lt_succ_self _, fun j u hu => ?_⟩⟩
  obtain rfl : i = 0 := by simp at hi; omega
  match j, hu with
  | 0, hu =>
    simp only [encC, List.getElem_cons_zero, List.getElem?_cons_zero, Option.some.injEq] at hu
    subst hu
    exact World.cell?_alloc_at _ _ _ _ rfl
  | 1, hu =>
    simp only [encC, List.getElem_cons_zero, List.getElem?_cons_succ, List.getElem?_cons_zero, Option.some.injEq] at hu
    subst hu
    exact World.cell?_alloc_at _ _ _ _ rfl
  | 2, hu =>
    simp only [encC, List.getElem_cons_zero, List.getElem?_cons_succ, List.getElem?_cons_zero, Option.some.injEq] at hu
    subst hu
    exact World.cell?_alloc_at _ _ _ _ rfl
  | j + 3, hu => simp [encC] at hu
section
variable {ops : Array Oper} {rest : List Oper} {o : Oper} {a : Act} {Q : Exit → Act → World → Prop} {w : World}
theorem wpList_addC (hgd : Region.wanted o (yielded ops a.tmps) = true) (s x : Operand) (ho : o.op = .call { callee := .builtin .append, args := #[s, x], argTypes := #[22, 22] })
    (base : Nat) (v : Value) (l : List Chg) (hs : a.eval s = v) (hown : OwnC w base v l) (B : Nat) (v2 : Value) (p : List Chg) (hx : a.eval x = v2) (hp : RdC w B v2 p) (hl : l.length + p.length ≤ 3000001) (hbase : base ≤ w.heap.size)
    (h : ∀ A' c' w', Hid (OwnC w' base (.slice A' (l ++ p).length c') (l ++ p)) → Hid (w.grownBy w' v.ownBlock) → wpList Tryz.prog ops Q rest (a.put o.dst (.slice A' (l ++ p).length c')) w') : wpList Tryz.prog ops Q (o :: rest) a w := by
  obtain ⟨i0, hi, hz0, hz1, hz2⟩ := info_chgE
  exact BigFrame.wpList_want hgd fun K2 hK => wp_addAny (enc := encC) (k := 3) 22 67 40 i0 _ Tryz.underlying22 hi hz0 hz1 hz2 rfl (by decide) encC_len encC_one s x ho base v l hs hown B v2 p hx hp (by unfold maxLen; omega) (by omega) hbase fun A' c' w' h1 h2 => hK _ _ (h A' c' w' (Lib.hid h1) (Lib.hid h2))
end

set_option maxHeartbeats 8000000 in
set_option maxRecDepth 100000 in
theorem at_any (base q n : Nat) (G : Nat → Prop) (p : Pa) (v : Int) (w : World) (h : PaAt w base q G n p) (h1 : p.first ≤ v) :
    Calls Tryz.prog 51 #[.pointer (some ⟨q, 0, none⟩), .int .i64 v] w fun e w' => ∃ v', e = .returned v' ∧ OwnP w' w.heap.size v' (p.at_ v) ∧ Below w.heap.size w w' := by
  obtain ⟨⟨bv, dv, bs, ds, hb, hob, hod, hgh, _⟩, _, hlow⟩ := h
  have hlen := hgh.len
  have hfew := hgh.few
  unfold many at hfew
  have hup := upTo_any q _ _ bv dv ds v w hb (hod.rd encD_len) hgh.rise (by omega)
  rw [hgh.link v h1, ← (cnt_take hgh.rise v).1]
  have hoks := hgh.oks v
  rw [← (cnt_take hgh.rise v).1] at hoks
  have hkl := cnt_le ds v
  have htl : (ds.take (cnt ds v)).length = cnt ds v := by rw [List.length_take]; omega
  generalize ds.take (cnt ds v) = us at hup hoks htl ⊢
  generalize cnt ds v = k at hup htl hkl
  subst htl
  have HUP := Lib.hid hup; clear hup
  have hap := fun vc W (h1 : RdP W W.heap.size bv bs) (h2 : RdC W W.heap.size vc (chgs us)) => papply_any bs (chgs us) (fun p hp => by have := (soundP_spec hgh.sound).2 p hp; omega) (fun c hc => by have := check_size (hoks c hc); unfold smallC; omega) bv vc W h1 h2 (by rw [chgs_len]; omega)
  have HAP := Lib.hid hap; clear hap
  have HALL := Lib.hid (allAns_ok hoks)
  have HSND := Lib.hid hgh.sound
  have q2 := fun W (hW : Below w.heap.size w W) => (hb.below hW hb.size).cell 2 _ rfl
  have HQ2 := Lib.hid q2; clear q2
  have HBV := Lib.hid (hob.rd cellsS_len)
  have HL := Lib.hid hkl
  have hul : us.length ≤ 3000000 := by omega
  clear hb hob hod hgh hoks hlow hkl hlen hfew h1
  obtain ⟨g, hg⟩ : ∃ g, g = w.heap.size := ⟨_, rfl⟩
  have HG := Lib.hid hg
  have hsz : g ≤ w.heap.size := by omega
  clear hg
  go_enter Tryz.func51, Tryz.ntmps51
  go_wp2_with fail
  refine HUP.out.mono ?_
  rintro e w1 ⟨A, c, rfl, hrd, hb1⟩
  have HB1 := Lib.hid (show Below g w w1 by rw [HG.out]; exact hb1); clear hb1
  obtain ⟨A', c', hv, hcl, hi⟩ := hrd.at
  injection hv with hv1 _ hv3
  subst hv1 hv3
  have HI := Lib.hid hi; clear hi
  have HS1 := Lib.hid (show g ≤ w1.heap.size from Nat.le_trans hsz HB1.out.size)
  clear hrd HUP
  go_wp2_with fail
  go_loopw [5, 14] (fun ov iv wr => ∃ (i : Nat) (A' : Option Addr) (c' : Nat), i ≤ us.length ∧ iv = .int .i64 i ∧ ov = .slice A' i c' ∧ Hid (OwnC wr w1.heap.size ov (chgs (us.take i))) ∧ Hid (Below w1.heap.size w1 wr)) (fun _ iv _ => us.length - (intOf iv).toNat)
  case atStart => exact ⟨0, none, 0, Nat.zero_le _, rfl, rfl, Lib.hid (Own.nil _ _), Lib.hid (Below.refl _ _)⟩
  case round =>
    obtain ⟨i, A2, c2, hil, rfl, rfl, HO, HBW⟩ := hrel
    have HBG := Lib.hid (show Below g w wr from HB1.out.trans (HBW.out.mono HS1.out))
    have hgs : g ≤ wr.heap.size := Nat.le_trans hsz HBG.out.size
    have hws : w1.heap.size ≤ wr.heap.size := HBW.out.size
    by_cases hlt : i < us.length
    · obtain ⟨b, o, rfl, hbB, k0, k1, k2, k3⟩ := HI.out i hlt
      rw [← HBW.out.cell (p := ⟨b, _, none⟩) hbB] at k0 k1 k2 k3
      have hnext : chgs (us.take (i + 1)) = chgs (us.take i) ++ [us[i].2] := by
        unfold chgs
        rw [List.take_succ_eq_append_getElem hlt, List.map_append]; rfl
      have hll : (chgs (us.take i)).length = i := by rw [chgs_len, List.length_take]; omega
      generalize chgs (us.take i) = out at HO hnext hll
      generalize us[i] = z at k0 k1 k2 k3 hnext
      obtain ⟨vz, kz, xz, yz⟩ := z
      simp only at k0 k1 k2 k3 hnext
      have HN := Lib.hid hnext; clear hnext
      have HLL := Lib.hid hll
      go_wp2_with (at_builtin; go_must (refine wpList_addC rfl _ _ rfl w1.heap.size (.slice A2 i c2) out rfl ?f1 (wr.heap.size + 1 + 1) _ [⟨kz, xz, yz⟩] rfl ?f3 ?f4 ?f2 ?_))
      case f1 => exact (HO.out.alloc _).alloc _
      case f2 => simp; omega
      case f3 => have := RdC.one (wr.alloc (.cells #[.int .i64 vz, .int .i64 kz, .string xz, .string yz] 101)) ⟨kz, xz, yz⟩; rw [World.size_alloc] at this; exact this
      case f4 => rw [hll]; simp; omega
      intro A3 c3 w4 ho4 hg4
      have hb5 : Below w1.heap.size w1 w4 := ((HO.out.alloc _).alloc _).grown ((HBW.out.alloc hws _).alloc (by simp; omega) _) hg4.out (Nat.le_refl _) (by simp; omega)
      have HB5 := Lib.hid hb5; clear hb5
      go_wp2_with fail
      go_roundw
      case rel => exact ⟨i + 1, A3, c3, by omega, by go_num, by simp [hll], by rw [HN.out]; exact ho4, HB5⟩
      case measure => simp [intOf]; omega
    · obtain rfl : i = us.length := by omega
      rw [List.take_length] at HO
      have q2 := HQ2.out wr (by rw [← HG.out]; exact HBG.out)
      have hrc : RdC wr wr.heap.size (.slice A2 us.length c2) (chgs us) := HO.out.rd encC_len
      have hrp : RdP wr wr.heap.size bv bs := (HBV.out.below (show Below w.heap.size w wr by rw [← HG.out]; exact HBG.out) (Nat.le_refl _)).mono HBG.out.size
      have HC := Lib.hid (HAP.out _ wr hrp hrc)
      clear hrc hrp
      go_wp2_with fail
      refine HC.out.mono ?_
      rintro e w5 ⟨v', qe, rfl, hb5, hai⟩
      have hq0 : qe = 0 ∧ OwnP w5 wr.heap.size v' (applyP bs (chgs us)) := by
        rcases hai with ⟨h1, h2, _⟩ | ⟨_, h2, _⟩ | ⟨_, _, h3, h4⟩
        · rw [HALL.out] at h1; exact absurd h1 h2
        · rw [HSND.out] at h2; cases h2
        · exact ⟨h3, h4⟩
      obtain ⟨rfl, ho5⟩ := hq0
      have HO5 := Lib.hid (ho5.lower hgs)
      have HB5 := Lib.hid (HBG.out.trans (hb5.mono hgs))
      clear hai hb5 ho5
      go_wp2_with fail
      go_ret
      exact ⟨_, rfl, by have h := HO5.out; rwa [HG.out] at h, by have h := HB5.out; rwa [HG.out] at h⟩
end Go.Proofs.YtbifnogocmgddaaGreat
namespace Go.Proofs.YtbifnogocmgddaaGreat
open Go.RowKit

theorem info_deedE : ∃ i0, Tryz.prog.info? 101 = some i0 ∧ i0.zero = some (.agg #[.int .i64 0, .int .i64 0, .string ⟨#[]⟩, .string ⟨#[]⟩]) ∧ i0.size = 4 ∧ i0.bytes = 48 := info_parts info_deed
section
variable {ops : Array Oper} {rest : List Oper} {o : Oper} {a : Act} {Q : Exit → Act → World → Prop} {K1 : Act → World → Prop} {w : World}
theorem wp_roomD (d s : Operand) (ho : o.op = .call { callee := .builtin .append, args := #[d, s], argTypes := #[85, 85] })
    (g i cap : Nat) (cur cs : List Value) (sp : Option Addr) (m mc : Nat) (hd : a.eval d = .slice (some ⟨g, 0, none⟩) i cap) (hs : a.eval s = .slice sp m mc) (hg : Whole w g 101 cur) (hn : cs.length = m * 4)
    (hsrc : Srcs w sp cs) (hroom : i + m ≤ cap) (hfit : i * 4 + cs.length ≤ cur.length) (h1 : ∀ v ∈ cs, v.oneCell' = true)
    (h : ∀ w', Hid (Moved w w' g 101 (splice cur (i * 4) cs)) → K1 (a.put o.dst (.slice (some ⟨g, 0, none⟩) (i + m) cap)) w') : Oper.wp Tryz.prog o a w K1 Q := by
  obtain ⟨i0, hi, hz0, hz1, hz2⟩ := info_deedE
  obtain ⟨w', hr, hm⟩ := run_roomK (P := Tryz.prog) w 85 o.type 101 i0 4 Tryz.underlying85 hi hz1 g i cap sp m mc _ cur hg cs hn hsrc hroom hfit h1
  exact wp_call2 .append (.inr rfl) d s _ _ ho _ _ hd hs hr (h w' (Lib.hid hm))
theorem wpList_clearD (hgd : Region.wanted o (yielded ops a.tmps) = true) (d : Operand) (ho : o.op = .call { callee := .builtin .clear, args := #[d], argTypes := #[85] })
    (g off : Nat) (cur : List Value) (dp : Option Addr) (n c : Nat) (hd : a.eval d = .slice dp n c) (hg : Whole w g 101 cur) (hp : 0 < n → dp = some ⟨g, off, none⟩) (hfit : off + n * 4 ≤ cur.length)
    (h : ∀ w' zs, zs.length = n * 4 → Hid (Moved w w' g 101 (splice cur off zs)) → wpList Tryz.prog ops Q rest (a.put o.dst (.tuple #[])) w') : wpList Tryz.prog ops Q (o :: rest) a w := by
  obtain ⟨w', zs, hr, hl, hm⟩ := run_clearK (P := Tryz.prog) w 85 o.type 101 (.agg #[.int .i64 0, .int .i64 0, .string ⟨#[]⟩, .string ⟨#[]⟩]) 4 Tryz.underlying85 Tryz.zeroValue101 rfl (by intro v hv; simp [Value.cells] at hv; rcases hv with rfl | rfl <;> rfl) g off n c dp _ cur hg hp hfit
  exact BigFrame.wpList_want hgd fun K2 hK => wp_clearK d _ ho _ hd hr (hK _ _ (h w' zs hl (Lib.hid hm)))
end

set_option maxHeartbeats 8000000 in
set_option maxRecDepth 100000 in
/-- the part from i to j is taken out of a row -/
theorem delete_row (i j n q cap g : Nat) (cur ds : List Value) (w : World) (hg : Whole w g 101 cur) (hij : i < j) (hjq : j + q = n) (hnc : n ≤ cap) (hcm : cap ≤ maxLen)
    (hcl : cur.length = cap * 4) (hds : ds.length = q * 4) (hd : ∀ t v, ds[t]? = some v → cur[j * 4 + t]? = some v) (h2 : ∀ v ∈ ds, v.oneCell' = true) :
    Calls Tryz.prog 58 #[.slice (some ⟨g, 0, none⟩) n cap, .int .i64 i, .int .i64 j] w fun e w' =>
      e = .returned (.slice (some ⟨g, 0, none⟩) (i + q) cap) ∧ ∃ cur', Whole w' g 101 cur' ∧ cur'.length = cap * 4 ∧ cur'.take ((i + q) * 4) = cur.take (i * 4) ++ ds ∧ w.grownBy w' (some g) := by
  unfold maxLen at hcm
  have hb0 : (i : Int) ≤ (j : Int) := by omega
  have hb1 : (j : Int) ≤ (n : Int) := by omega
  have hb2 : ¬ ((i : Int) = (j : Int)) := by omega
  have hb2b : ((i : Int) == (j : Int)) = false := by simpa using hb2
  have hb3 : (n : Int) ≤ (cap : Int) := by omega
  have hb4 : (i : Int) ≤ (cap : Int) := by omega
  have hb5 : (j : Int) ≤ (cap : Int) := by omega
  have hb7 : ¬ (cap = i) := by omega
  have hb9 : ¬ (cap = i + q) := by omega
  have hq : n - j = q := by omega
  have hb10 : (i : Int) + (q : Int) ≤ (n : Int) := by omega
  have hb11 : (0 : Int) ≤ (i : Int) + (q : Int) := by omega
  have hb12 : ((i : Int) + (q : Int)).toNat = i + q := by omega
  have hsrc : ∀ W, Whole W g 101 cur → ∀ sp, (0 < ds.length → sp = some ⟨g, j * 4, none⟩) → Srcs W sp ds := fun W hW sp h h0 => ⟨_, h h0, hW.srcs _ _ hd⟩
  have HG := Lib.hid hg; clear hg
  have HDS := Lib.hid hds; clear hds
  have HSRC := Lib.hid hsrc; clear hsrc
  have HL := Lib.hid hcl; clear hcl
  have H2 := Lib.hid h2; clear h2 hd
  go_enter Tryz.func58, Tryz.ntmps58
  by_cases hc : cap = j
  · have hq0 : q = 0 := by omega
    subst hc
    have hnj : n = cap := by omega
    subst hnj
    subst hq0
    have HD0 := Lib.hid (show ds = [] from List.eq_nil_of_length_eq_zero (by rw [HDS.out, Nat.zero_mul]))
    go_wp2_with fail
    refine wp_region_plan (S := fun _ => True) [(true, 0), (true, 1), (true, 2), (true, 3), (true, 4), (true, 5), (false, 6), (true, 7)] (by kernel_rfl) (by kernel_rfl) (fun _ _ d _ _ h => by cases d <;> exact h) trivial ?_
    repeat (refine Plan.take (v := ?_) rfl rfl ?_ ?_; rotate_left; (focus (intro W hW; go_simp; (try with_reducible rfl); done)); (try simp only [Act.put, List.setIfInBounds_toArray, List.set_cons_zero, List.set_cons_succ]))
    refine Plan.step rfl rfl (fun Kk hK => ?_)
    refine wp_roomD _ _ rfl g i n cur ds _ _ _ rfl rfl HG.out.drew HDS.out (HSRC.out _ HG.out.drew _ (fun h => by rw [HDS.out] at h; simp at h)) (by omega) (by rw [HDS.out, HL.out]; omega) H2.out ?_
    intro w1 hm1
    obtain ⟨Y, hY⟩ : ∃ Y, Y = splice cur (i * 4) ds := ⟨_, rfl⟩
    rw [← hY] at hm1
    have hYl : Y.length = n * 4 := by rw [hY, length_splice _ _ _ (by rw [HDS.out, HL.out]; omega), HL.out]
    have hYt : Y.take (i * 4) = cur.take (i * 4) ++ ds := by rw [hY, take_splice_end cur _ (i * 4) _ (by rw [HL.out]; omega) (by rw [HDS.out]; omega)]
    have HYL := Lib.hid hYl; clear hYl
    have HYT := Lib.hid hYt; clear hYt
    clear hY
    refine hK.out _ _ trivial ?_
    clear hK Kk
    (try simp only [Act.put, List.setIfInBounds_toArray, List.set_cons_zero, List.set_cons_succ])
    repeat (refine Plan.take (v := ?_) rfl rfl ?_ ?_; rotate_left; (focus (intro W hW; go_simp; (try with_reducible rfl); done)); (try simp only [Act.put, List.setIfInBounds_toArray, List.set_cons_zero, List.set_cons_succ]))
    simp only [Plan]
    go_wp2_with (with_reducible show wpList _ _ _ (⟨none, _, _, _, _, _⟩ :: _) _ _; go_must (refine wpList_clearD rfl _ rfl g (i * 4) Y _ _ _ rfl hm1.out.whole (fun _ => rfl) ?d1 ?_))
    case d1 => rw [HYL.out]; omega
    intro w2 zs hz hm2
    have HZ := Lib.hid hz; clear hz
    go_wp2_with fail
    go_ret
    refine ⟨rfl, _, hm2.out.whole, ?_, ?_, grown_trans (grown_drew _ _) (grown_trans hm1.out.grown hm2.out.grown)⟩
    · rw [length_splice _ _ _ (by rw [HZ.out, HYL.out]; omega), HYL.out]
    · rw [Nat.add_zero, take_splice_lt Y _ _ _ (Nat.le_refl _) (by rw [HYL.out]; omega), HYT.out]
  · have hc' : ¬ (cap : Int) = (j : Int) := by omega
    go_wp2_with fail
    refine wp_region_plan (S := fun _ => True) [(true, 0), (true, 1), (true, 2), (true, 3), (true, 4), (true, 5), (false, 6), (true, 7)] (by kernel_rfl) (by kernel_rfl) (fun _ _ d _ _ h => by cases d <;> exact h) trivial ?_
    repeat (refine Plan.take (v := ?_) rfl rfl ?_ ?_; rotate_left; (focus (intro W hW; go_simp; (try with_reducible rfl); done)); (try simp only [Act.put, List.setIfInBounds_toArray, List.set_cons_zero, List.set_cons_succ]))
    refine Plan.step rfl rfl (fun Kk hK => ?_)
    refine wp_roomD _ _ rfl g i cap cur ds _ _ _ rfl rfl HG.out.drew HDS.out (HSRC.out _ HG.out.drew _ (fun _ => rfl)) (by omega) (by rw [HDS.out, HL.out]; omega) H2.out ?_
    intro w1 hm1
    obtain ⟨Y, hY⟩ : ∃ Y, Y = splice cur (i * 4) ds := ⟨_, rfl⟩
    rw [← hY] at hm1
    have hYl : Y.length = cap * 4 := by rw [hY, length_splice _ _ _ (by rw [HDS.out, HL.out]; omega), HL.out]
    have hYt : Y.take ((i + q) * 4) = cur.take (i * 4) ++ ds := by rw [hY, take_splice_end cur _ (i * 4) _ (by rw [HL.out]; omega) (by rw [HDS.out]; omega)]
    have HYL := Lib.hid hYl; clear hYl
    have HYT := Lib.hid hYt; clear hYt
    clear hY
    refine hK.out _ _ trivial ?_
    clear hK Kk
    (try simp only [Act.put, List.setIfInBounds_toArray, List.set_cons_zero, List.set_cons_succ])
    repeat (refine Plan.take (v := ?_) rfl rfl ?_ ?_; rotate_left; (focus (intro W hW; go_simp; (try with_reducible rfl); done)); (try simp only [Act.put, List.setIfInBounds_toArray, List.set_cons_zero, List.set_cons_succ]))
    simp only [Plan]
    go_wp2_with (with_reducible show wpList _ _ _ (⟨none, _, _, _, _, _⟩ :: _) _ _; go_must (refine wpList_clearD rfl _ rfl g ((i + q) * 4) Y _ _ _ rfl hm1.out.whole (fun _ => rfl) ?d1 ?_))
    case d1 => rw [HYL.out]; omega
    intro w2 zs hz hm2
    have HZ := Lib.hid hz; clear hz
    go_wp2_with fail
    go_ret
    refine ⟨rfl, _, hm2.out.whole, ?_, ?_, grown_trans (grown_drew _ _) (grown_trans hm1.out.grown hm2.out.grown)⟩
    · rw [length_splice _ _ _ (by rw [HZ.out, HYL.out]; omega), HYL.out]
    · rw [take_splice_lt Y _ _ _ (Nat.le_refl _) (by rw [HYL.out]; omega), HYT.out]

theorem delete_any (i j : Nat) (base : Nat) (l : List Dd) (v : Value) (w : World) (hij : i ≤ j) (hjl : j ≤ l.length) (h : OwnD w base v l) :
    Calls Tryz.prog 58 #[v, .int .i64 i, .int .i64 j] w fun e w' => ∃ A c, e = .returned (.slice A (l.take i ++ l.drop j).length c) ∧
      OwnD w' base (.slice A (l.take i ++ l.drop j).length c) (l.take i ++ l.drop j) ∧ w.grownBy w' v.ownBlock ∧ Value.ownBlock (.slice A (l.take i ++ l.drop j).length c) = v.ownBlock := by
  by_cases he : i = j
  · subst he
    rw [List.take_append_drop]
    have hv : ∃ A c, v = .slice A l.length c ∧ l.length ≤ c := by
      obtain ⟨A, c, h1, h2, _⟩ := h.rd encD_len
      exact ⟨A, c, h1, h2⟩
    obtain ⟨A, c, rfl, hc⟩ := hv
    have HO := Lib.hid h; clear h
    have hb0 : (i : Int) ≤ (l.length : Int) := by omega
    have hb1 : (l.length : Int) ≤ (c : Int) := by omega
    have hb2 : (i : Int) ≤ (c : Int) := by omega
    have hbi : ((i : Int) == (i : Int)) = true := by simp
    by_cases hci : i = l.length
    · subst hci
      go_enter Tryz.func58, Tryz.ntmps58
      go_wp2_with fail
      go_ret
      exact ⟨A, c, rfl, HO.out, ⟨rfl, rfl, rfl, Nat.le_refl _, fun _ _ _ => rfl⟩, rfl⟩
    · have hci2 : ¬ l.length = i := fun e => hci e.symm
      go_enter Tryz.func58, Tryz.ntmps58
      go_wp2_with fail
      go_ret
      exact ⟨A, c, rfl, HO.out, ⟨rfl, rfl, rfl, Nat.le_refl _, fun _ _ _ => rfl⟩, rfl⟩
  · rcases h.row with ⟨rfl, rfl⟩ | ⟨g, cap, cur, rfl, hbg, hg, hlc, hcm, hcl, hct⟩
    · simp at hjl; omega
    · have hd : ∀ t v, (flatG encD (l.drop j))[t]? = some v → cur[j * 4 + t]? = some v := by
        have h5 : cur.take (l.length * 4) = flatG encD (l.take j) ++ flatG encD (l.drop j) := by rw [hct, ← flatG_append, List.take_append_drop]
        have h6 := cells_at h5
        rw [flatG_length encD_len, List.length_take, Nat.min_eq_left hjl] at h6
        exact h6
      have hL : (l.take i ++ l.drop j).length = i + (l.length - j) := by rw [List.length_append, List.length_take, List.length_drop]; omega
      refine (delete_row i j l.length (l.length - j) cap g cur (flatG encD (l.drop j)) w hg (by omega) (by omega) hlc hcm hcl (by rw [flatG_length encD_len, List.length_drop]) hd (encD_one' _)).mono ?_
      rintro e w' ⟨rfl, cur', k1, k2, k3, k4⟩
      refine ⟨some ⟨g, 0, none⟩, cap, by rw [hL], Own.ofRow encD_len _ hbg k1 (by rw [hL]; omega) hcm k2 ?_, k4, rfl⟩
      have hti : cur.take (i * 4) = flatG encD (l.take i) := by
        rw [flatG_take encD_len, ← hct, List.take_take, Nat.min_eq_left (Nat.mul_le_mul_right _ (by omega))]
      rw [hL, k3, flatG_append, hti]
end Go.Proofs.YtbifnogocmgddaaGreat
namespace Go.Proofs.YtbifnogocmgddaaGreat
open Go.RowKit

section
variable {α : Type} {enc : α → List Value} {k : Nat} {P : Program}
theorem run_append_new (w : World) (base : Nat) (t ty e : TypeId) (i : TypeInfo) (z : Value) (size bytes : Nat) (ht : P.underlying t = some (.slice e)) (hi : P.info? e = some i) (hz : i.zero = some z)
    (hsize : i.size = size) (hby : i.bytes = bytes) (hzs : z.cells.size = size) (hsz : 0 < size)
    (v : Value) (n : Nat) (xs : List Value) (hown : w.ownsRow base e size v n xs)
    (a : Addr) (m c : Nat) (news : List Value) (hl : news.length = m * size) (hnews : ∀ j u, news[j]? = some u → w.cell? (a.add j) = some u) (h1 : ∀ u ∈ news, u.oneCell' = true)
    (h63 : n + m ≤ maxLen) (hbytes : ((n + m) + (n + m) / 4 + 192) * bytes ≤ 281474976710656) (v' : Value) (w' : World) (hrun : (Builtin.append_ #[t, t] ty #[v, .slice (some a) m c]).run P w = .ok v' w') : NewRow w v.ownBlock v'.ownBlock := by
  subst hsize
  subst hby
  have hsmall : n + m ≤ 9223372036854775807 := by simp only [maxLen] at h63; omega
  rcases hown.2 with ⟨rfl, rfl⟩ | ⟨g, cap, cur, rfl, hbg, hg, hnc, hcm, hcs, htake⟩
  · by_cases hm : m = 0
    · subst hm
      have hn : news = [] := List.eq_nil_of_length_eq_zero (by simpa using hl)
      subst hn
      have hr : (Builtin.append_ #[t, t] ty #[.slice none 0 0, .slice (some a) 0 c]).run P w = .ok (.slice none 0 0) w := by
        simp [Builtin.append_, run_underlying ht, sizeOf, typeInfo, hi, Builtin.lenOf, Builtin.firstCells, loadCells, loadCellsFrom]
      rw [hr] at hrun
      injection hrun with h1 h2
      subst h1
      exact NewRow.refl _ _
    · have hr := run_append_nil (P := P) w t ty e i z ht hi hz a m c news hl hnews (by omega) (by omega) (by have hb := hbytes; simp only [Nat.zero_add] at hb; exact Nat.le_trans (Nat.mul_le_mul_right _ (by omega)) hb)
      rw [hr] at hrun
      injection hrun with h1 h2
      subst h1
      intro g hg
      injection hg with hg
      exact .inr (by simp only at hg; omega)
  · by_cases hroom : n + m ≤ cap
    · have hfit : n * i.size + news.length ≤ cur.size := by rw [hl, hcs, ← Nat.add_mul]; exact Nat.mul_le_mul_right _ hroom
      have hr := run_append_room (P := P) w t ty e i ht hi g n cap cur hg a m c news hl hnews h1 hroom hfit
      rw [hr] at hrun
      injection hrun with h1 h2
      subst h1
      exact fun _ h => .inl h
    · have holds : ∀ j u, xs[j]? = some u → w.cell? ((⟨g, 0, none⟩ : Addr).add j) = some u := hown.cells (g := g) rfl
      have hr := run_append_grow (P := P) w t ty e i z ht hi hz ⟨g, 0, none⟩ n cap xs hown.1 holds a m c news hl hnews (by omega) (by omega) (growslice_fits_wide (by omega) hbytes)
      rw [hr] at hrun
      injection hrun with h1 h2
      subst h1
      intro g2 hg2
      injection hg2 with hg2
      exact .inr (by simp only at hg2; omega)

/-- append to a slice of the call's own; its block is the old one or a new one -/
theorem wp_addAnyN (t e : TypeId) (bytes : Nat) (i0 : TypeInfo) (z : Value) (ht : P.underlying t = some (.slice e)) (hi : P.info? e = some i0) (hz0 : i0.zero = some z) (hz1 : i0.size = k) (hz2 : i0.bytes = bytes) (hzs : z.cells.size = k) (hk0 : 0 < k)
    (hk : ∀ x, (enc x).length = k) (hone : ∀ x, ∀ u ∈ enc x, u.oneCell' = true) {o : Oper} {a : Act} {K : Act → World → Prop} {Q : Exit → Act → World → Prop} {w : World} (s x : Operand)
    (ho : o.op = .call { callee := .builtin .append, args := #[s, x], argTypes := #[t, t] })
    (base : Nat) (v : Value) (l : List α) (hs : a.eval s = v) (hown : Own enc k e w base v l) (B : Nat) (v2 : Value) (p : List α) (hx : a.eval x = v2) (hp : Rd enc k w B v2 p)
    (h63 : l.length + p.length ≤ maxLen) (hbytes : ((l.length + p.length) + (l.length + p.length) / 4 + 192) * bytes ≤ 281474976710656) (hbase : base ≤ w.heap.size)
    (h : ∀ A' c' w', Own enc k e w' base (.slice A' (l ++ p).length c') (l ++ p) → w.grownBy w' v.ownBlock → NewRow w v.ownBlock (Value.ownBlock (.slice A' (l ++ p).length c')) → K (a.put o.dst (.slice A' (l ++ p).length c')) w') : o.wp P a w K Q := by
  obtain ⟨A, c, rfl, hc, hi2⟩ := hp
  have main : ∃ v' w', (Builtin.append_ #[t, t] o.type #[v, .slice A p.length c]).run P w = .ok v' w' ∧ w'.ownsRow base e k v' (l ++ p).length (flatG enc (l ++ p)) ∧ w.grownBy w' v.ownBlock ∧ NewRow w v.ownBlock v'.ownBlock := by
    cases A with
    | none =>
      have hp0 : p = [] := by
        cases p with
        | nil => rfl
        | cons y r =>
          obtain ⟨b, o', hA, _⟩ := hi2 0 (by simp)
          cases hA
      subst hp0
      refine ⟨v, w, ?_, by rw [List.append_nil]; exact hown, ⟨rfl, rfl, rfl, Nat.le_refl _, fun _ _ _ => rfl⟩, NewRow.refl _ _⟩
      rcases hown.2 with ⟨rfl, _⟩ | ⟨g, cap, cur, rfl, _, _, hnc, _⟩
      · simp [Builtin.append_, run_underlying ht, sizeOf, typeInfo, hi, Builtin.lenOf, Builtin.firstCells]
      · simp [Builtin.append_, run_underlying ht, sizeOf, typeInfo, hi, Builtin.lenOf, Builtin.firstCells, hnc, storeCells]
    | some ad =>
      have hcells : ∀ j u, (flatG enc p)[j]? = some u → w.cell? (ad.add j) = some u := by
        intro j u hu
        have hjl : j < p.length * k := by
          rcases Nat.lt_or_ge j (p.length * k) with h' | h'
          · exact h'
          · rw [List.getElem?_eq_none (by rw [flatG_length hk]; exact h')] at hu; cases hu
        have hil : j / k < p.length := by rw [Nat.div_lt_iff_lt_mul hk0]; exact hjl
        obtain ⟨b, o', hA, _, h1⟩ := hi2 (j / k) hil
        have hm : j % k < k := Nat.mod_lt _ hk0
        have e1 : j / k * k + j % k = j := Nat.div_add_mod' j k
        have hg := flatG_get hk p (j / k) hil (j % k) hm
        rw [e1, hu] at hg
        have := h1 (j % k) u hg.symm
        injection hA with hA
        rw [hA]
        have hadd : (⟨b, o', none⟩ : Addr).add j = ⟨b, o' + j, none⟩ := by unfold Addr.add; split <;> simp_all
        rw [hadd, ← this]
        congr 2
        omega
      obtain ⟨v', w', hrun, h2, h3, _⟩ := run_append_own_wide (P := P) w base t o.type e i0 z k bytes ht hi hz0 hz1 hz2 hzs hk0 v l.length (flatG enc l) hown ad p.length c (flatG enc p) (flatG_length hk p) hcells
        (fun u hu => by obtain ⟨y, _, hy⟩ := List.mem_flatMap.1 hu; exact hone y u hy) h63 hbytes hbase
      have h9 := run_append_new (P := P) w base t o.type e i0 z k bytes ht hi hz0 hz1 hz2 hzs hk0 v l.length (flatG enc l) hown ad p.length c (flatG enc p) (flatG_length hk p) hcells
        (fun u hu => by obtain ⟨y, _, hy⟩ := List.mem_flatMap.1 hu; exact hone y u hy) h63 hbytes v' w' hrun
      exact ⟨v', w', hrun, by rw [List.length_append, flatG_append]; exact h2, h3, h9⟩
  obtain ⟨v', w', hrun, h2, h3, h9⟩ := main
  have h4 : Own enc k e w' base v' (l ++ p) := h2
  have hv : ∃ A' c', v' = .slice A' (l ++ p).length c' := by
    rcases h4.form with ⟨hv, h0⟩ | ⟨g, cap, hv, _⟩
    · exact ⟨none, 0, by rw [h0]; exact hv⟩
    · exact ⟨_, _, hv⟩
  obtain ⟨A', c', rfl⟩ := hv
  unfold Oper.wp execOp
  simp only [ho, resolve, invoke, builtin, Sem.run_bind, Sem.run_pure, Result.andThen_ok, List.map_toArray, List.map_cons, List.map_nil, hs, hx, hrun]
  exact h A' c' w' h4 h3 h9

end
end Go.Proofs.YtbifnogocmgddaaGreat
namespace Go.Proofs.YtbifnogocmgddaaGreat
open Go.RowKit
section
variable {P : Program} {ops : Array Oper} {Q : Exit → Act → World → Prop} {S : World → Prop} {f : Nat}

/-- whatever order is picked: behind each operation but the last one S holds -/
def RestF (P : Program) (ops : Array Oper) (Q : Exit → Act → World → Prop) (S : World → Prop) (f : Nat) : Nat → Array Bool → Act → World → Prop
  | 0, L, a, w => Region.ready .any ops L = [] ∧ Q .normal a w
  | n + 1, L, a, w => (Region.ready .any ops L = [] → Q .normal a w) ∧ ∀ i ∈ Region.ready .any ops L, wpOp P ops Q i (fun a' w' => (i = f ∨ S w') ∧ RestF P ops Q S f n (L.setIfInBounds i true) a' w') a w
theorem RestF.plain : ∀ (n : Nat) (L : Array Bool) (a : Act) (w : World), RestF P ops Q S f n L a w → wpAny P .any ops Q n L a w
  | 0, _, _, _, h => h
  | n + 1, _, _, _, h => ⟨h.1, fun i hi => wpOp_mono (fun a' w' h' => RestF.plain n _ a' w' h'.2) (h.2 i hi)⟩
/-- the last operation waits for number i -/
def waits (ops : Array Oper) (f i : Nat) : Bool := ((ops[f]?).map fun o => o.after.any fun e => Region.binds .any e && e.on == i).getD false
theorem waits.of {i : Nat} (h1 : waits ops f i = true) : ∃ o, ops[f]? = some o ∧ ∃ e ∈ o.after, Region.binds .any e = true ∧ e.on = i := by
  unfold waits at h1
  cases ho : ops[f]? with
  | none => rw [ho] at h1; simp at h1
  | some o =>
    rw [ho] at h1
    simp only [Option.map_some, Option.getD_some] at h1
    obtain ⟨e, he, hb⟩ := Array.any_eq_true'.1 h1
    simp only [Bool.and_eq_true, beq_iff_eq] at hb
    exact ⟨o, rfl, e, he, hb.1, hb.2⟩

theorem RestF.early {i : Nat} {oi : Oper} {v : Value} (hi : ops[i]? = some oi) (hs : Region.noSelect ops = true) (hf : waits ops f i = true)
    (hQ : ∀ c a w, Q (.panic c) (a.put oi.dst v) w → Q (.panic c) a w) : ∀ (n : Nat) (L : Array Bool) (a : Act) (w : World), Region.free .any ops L i = true → i ∈ Region.ready .any ops L → YieldsIf P ops S oi v a → S w →
      RestF P ops Q S f n (L.setIfInBounds i true) (a.put oi.dst v) w → RestF P ops Q S f (n + 1) L a w := by
  have go : ∀ (n : Nat) (L : Array Bool) (a : Act) (w : World), (∀ j oj, ops[j]? = some oj → j ≠ i → L.getD j true = false → (∀ e ∈ oj.after, Region.binds .any e = true → e.on ≠ i) → oi.apart ops oj = true) →
      i ∈ Region.ready .any ops L → YieldsIf P ops S oi v a → S w → RestF P ops Q S f n (L.setIfInBounds i true) (a.put oi.dst v) w → RestF P ops Q S f (n + 1) L a w := by
    intro n
    induction n with
    | zero =>
      intro L a w _ hr hy hS H
      refine ⟨fun h0 => by (rw [h0] at hr; simp at hr), fun j hj => ?_⟩
      by_cases hji : j = i
      · rw [hji]
        exact hy.wpOp hi hS ⟨.inr hS, H⟩
      · have := ready_mono hj hji
        rw [H.1] at this
        simp at this
    | succ n ih =>
      intro L a w hfr hr hy hS H
      refine ⟨fun h0 => by (rw [h0] at hr; simp at hr), fun j hj => ?_⟩
      by_cases hji : j = i
      · rw [hji]
        exact hy.wpOp hi hS ⟨.inr hS, H⟩
      · obtain ⟨hun, oj, hoj, hall⟩ := mem_ready.1 hj
        have hi0 := (mem_ready.1 hr).1
        have hno : ∀ e ∈ oj.after, Region.binds .any e = true → e.on ≠ i := fun e he hb heq => by
          have h1 := hall e he hb
          rw [heq] at h1
          by_cases hL : i < L.size
          · simp [hL] at hi0 h1; rw [hi0] at h1; cases h1
          · simp [Array.getElem?_eq_none (Nat.le_of_not_lt hL)] at h1
        have hjf : j ≠ f := fun e => by
          subst e
          obtain ⟨o, ho, e, he, hb, hon⟩ := waits.of hf
          rw [hoj] at ho
          cases ho
          exact hno e he hb hon
        have h2 := wpOp_putIf hoj (hfr j oj hoj hji hun hno) (fun cs b => Region.noSelect_spec hs i oi cs b hi) (fun cs b => Region.noSelect_spec hs j oj cs b hoj) hQ hy (H.2 j (ready_mono hj hji))
        refine wpOp_mono (fun a' w' h3 => ?_) h2
        obtain ⟨hy', hS', H'⟩ := h3
        have hSw : S w' := hS'.resolve_left hjf
        refine ⟨.inr hSw, ih _ a' w' (fun k ok hk hki hku hkn => hfr k ok hk hki ?_ hkn) (ready_mono hr (Ne.symm hji)) hy' hSw ?_⟩
        · by_cases hjk : j = k
          · subst hjk; exact hun
          · rwa [getD_set_ne true hjk] at hku
        · rw [Array.setIfInBounds_comm _ _ hji]
          exact H'
  intro n L a w hfree hr hy hS H
  exact go n L a w (Region.free_spec hi hfree) hr hy hS H

/-- true: number i is taken; false: number i comes up alone, and is carried out -/
def planOkF (ops : Array Oper) (f : Nat) : List (Bool × Nat) → Array Bool → Bool
  | [], L => (Region.ready .any ops L).isEmpty
  | (true, i) :: r, L => waits ops f i && Region.free .any ops L i && (Region.ready .any ops L).contains i && planOkF ops f r (L.setIfInBounds i true)
  | (false, i) :: r, L => Region.ready .any ops L == [i] && (i != f || r.isEmpty) && planOkF ops f r (L.setIfInBounds i true)
def PlanF (P : Program) (ops : Array Oper) (S : World → Prop) (f : Nat) (Q : Exit → Act → World → Prop) : List (Bool × Nat) → Act → World → Prop
  | [], a, w => Q .normal a w
  | (true, i) :: r, a, w => ∃ o v, ops[i]? = some o ∧ YieldsIf P ops S o v a ∧ PlanF P ops S f Q r (a.put o.dst v) w
  | (false, i) :: r, a, w => wpOp P ops Q i (fun a' w' => (i = f ∨ S w') ∧ PlanF P ops S f Q r a' w') a w
theorem PlanF.any (hs : Region.noSelect ops = true) (hQ : ∀ c a d v w, Q (.panic c) (Act.put a d v) w → Q (.panic c) a w) : ∀ (plan : List (Bool × Nat)) (n : Nat) (L : Array Bool) (a : Act) (w : World),
    plan.length ≤ n → planOkF ops f plan L = true → (plan = [] ∨ S w) → PlanF P ops S f Q plan a w → RestF P ops Q S f n L a w
  | [], n, L, a, w, _, hp, _, h => by
    have hr : Region.ready .any ops L = [] := by simpa [planOkF] using hp
    cases n with
    | zero => exact ⟨hr, h⟩
    | succ n => exact ⟨fun _ => h, by rw [hr]; simp⟩
  | (true, i) :: r, n + 1, L, a, w, hn, hp, hS, h => by
    obtain ⟨o, v, ho, hy, hr⟩ := h
    simp only [planOkF, Bool.and_eq_true] at hp
    obtain ⟨⟨⟨h1, h2⟩, h3⟩, h4⟩ := hp
    have hSw := hS.resolve_left (by simp)
    exact RestF.early ho hs h1 (fun c a w => hQ c a _ _ w) n L a w h2 (by simpa using h3) hy hSw (PlanF.any hs hQ r n _ _ _ (by simpa using hn) h4 (.inr hSw) hr)
  | (false, i) :: r, n + 1, L, a, w, hn, hp, _, h => by
    simp only [planOkF, Bool.and_eq_true, beq_iff_eq, Bool.or_eq_true, bne_iff_ne, List.isEmpty_iff] at hp
    obtain ⟨⟨h1, h2⟩, h3⟩ := hp
    refine ⟨fun h0 => by rw [h1] at h0; simp at h0, fun j hj => ?_⟩
    rw [h1] at hj
    obtain rfl : j = i := by simpa using hj
    refine wpOp_mono (fun a' w' h' => ⟨h'.1, PlanF.any hs hQ r n _ _ _ (by simpa using hn) h3 (h'.1.imp (fun e => h2.resolve_left (fun hne => hne e)) id) h'.2⟩) h
  | (true, _) :: _, 0, _, _, _, hn, _, _, _ => by simp at hn
  | (false, _) :: _, 0, _, _, _, hn, _, _, _ => by simp at hn

theorem wp_region_planF (S : World → Prop) (f : Nat) (plan : List (Bool × Nat)) {id : Nat} {a : Act} {w : World} (hm : P.follows .mixedOrders = true) (hs : (Region.noSelect ops && planOkF ops f plan (Array.replicate ops.size false) && decide (plan.length ≤ ops.size)) = true)
    (hQ : ∀ c a d v w, Q (.panic c) (Act.put a d v) w → Q (.panic c) a w) (hS : S w.drew) (h : PlanF P ops S f Q plan a w.drew) : (Code.region id ops true).wp P Q a w := by
  simp only [Bool.and_eq_true, decide_eq_true_eq] at hs
  exact wp_region_any hm (RestF.plain _ _ _ _ (PlanF.any hs.1.1 hQ plan _ _ _ _ hs.2 hs.1.2 (.inr hS) h))

theorem PlanF.take {i : Nat} {o : Oper} {v : Value} {r : List (Bool × Nat)} {a : Act} {w : World} (hi : ops.toList[i]? = some o) (hw : Region.wanted o (yielded ops a.tmps) = true)
    (hy : ∀ W, S W → (execOp a.eval o).run P W = .ok (.value v) W) (h : PlanF P ops S f Q r (a.put o.dst v) w) : PlanF P ops S f Q ((true, i) :: r) a w :=
  ⟨o, v, by simpa using hi, .inl ⟨hw, hy⟩, h⟩
theorem PlanF.step {i : Nat} {o : Oper} {r : List (Bool × Nat)} {a : Act} {w : World} (hi : ops.toList[i]? = some o) (hw : Region.wanted o (yielded ops a.tmps) = true)
    (h : ∀ K : Act → World → Prop, Shut (∀ a w, S w → PlanF P ops S f Q r a w → K a w) → Oper.wp P o a w K Q) : PlanF P ops S f Q ((false, i) :: r) a w := by
  show wpOp P ops Q i _ a w
  refine wpOp_step (o := o) (by simpa using hi) fun K' hK => ?_
  rw [if_pos hw]
  exact h K' fun a w h1 h2 => hK a w ⟨.inr h1, h2⟩
/-- the last one: nothing is asked of the world behind it -/
theorem PlanF.last {o : Oper} {a : Act} {w : World} (hi : ops.toList[f]? = some o) (hw : Region.wanted o (yielded ops a.tmps) = true)
    (h : ∀ K : Act → World → Prop, Shut (∀ a w, Q .normal a w → K a w) → Oper.wp P o a w K Q) : PlanF P ops S f Q [(false, f)] a w := by
  show wpOp P ops Q f _ a w
  refine wpOp_step (o := o) (by simpa using hi) fun K' hK => ?_
  rw [if_pos hw]
  exact h K' fun a w h2 => hK a w ⟨.inl rfl, h2⟩
end
end Go.Proofs.YtbifnogocmgddaaGreat
namespace Go.Proofs.YtbifnogocmgddaaGreat
open Go.RowKit

theorem RdD.one (w : World) (d : Dd) : RdD (w.alloc (.cells #[.int .i64 d.1, .int .i64 d.2.kind, .string d.2.key, .string d.2.val] 101)) (w.heap.size + 1) (.slice (some ⟨w.heap.size, 0, none⟩) 1 1) [d] := by
  refine ⟨_, 1, rfl, Nat.le_refl _, fun i hi => ⟨w.heap.size, 0, rfl, Nat.lt_succ_self _, fun j u hu => ?_⟩⟩
  obtain rfl : i = 0 := by simp at hi; omega
  match j, hu with
  | 0, hu =>
    simp only [encD, List.getElem_cons_zero, List.getElem?_cons_zero, Option.some.injEq] at hu
    subst hu
    exact World.cell?_alloc_at _ _ _ _ rfl
  | 1, hu =>
    simp only [encD, List.getElem_cons_zero, List.getElem?_cons_succ, List.getElem?_cons_zero, Option.some.injEq] at hu
    subst hu
    exact World.cell?_alloc_at _ _ _ _ rfl
  | 2, hu =>
    simp only [encD, List.getElem_cons_zero, List.getElem?_cons_succ, List.getElem?_cons_zero, Option.some.injEq] at hu
    subst hu
    exact World.cell?_alloc_at _ _ _ _ rfl
  | 3, hu =>
    simp only [encD, List.getElem_cons_zero, List.getElem?_cons_succ, List.getElem?_cons_zero, Option.some.injEq] at hu
    subst hu
    exact World.cell?_alloc_at _ _ _ _ rfl
  | j + 4, hu => simp [encD] at hu
theorem wp_addD {o : Oper} {a : Act} {K : Act → World → Prop} {Q : Exit → Act → World → Prop} {w : World} (s x : Operand) (ho : o.op = .call { callee := .builtin .append, args := #[s, x], argTypes := #[85, 85] })
    (base : Nat) (v : Value) (l : List Dd) (hs : a.eval s = v) (hown : OwnD w base v l) (B : Nat) (v2 : Value) (p : List Dd) (hx : a.eval x = v2) (hp : RdD w B v2 p) (hl : l.length + p.length ≤ 3000001) (hbase : base ≤ w.heap.size)
    (h : ∀ A' c' w', Hid (OwnD w' base (.slice A' (l ++ p).length c') (l ++ p)) → Hid (w.grownBy w' v.ownBlock) → Hid (NewRow w v.ownBlock (Value.ownBlock (.slice A' (l ++ p).length c'))) → K (a.put o.dst (.slice A' (l ++ p).length c')) w') : o.wp Tryz.prog a w K Q := by
  obtain ⟨i0, hi, hz0, hz1, hz2⟩ := info_deedE
  exact wp_addAnyN (enc := encD) (k := 4) 85 101 48 i0 _ Tryz.underlying85 hi hz0 hz1 hz2 rfl (by decide) encD_len encD_one s x ho base v l hs hown B v2 p hx hp (by unfold maxLen; omega) (by omega) hbase fun A' c' w' h1 h2 h3 => h A' c' w' (Lib.hid h1) (Lib.hid h2) (Lib.hid h3)

theorem Own.two {α β : Type} {enc : α → List Value} {enc' : β → List Value} {k k' : Nat} {e e' : TypeId} {w : World} {b b' : Nat} {v v' : Value} {l : List α} {l' : List β} (h : Own enc k e w b v l) (h' : Own enc' k' e' w b' v' l') (hne : e' ≠ e) : v.ownBlock = none ∨ v.ownBlock ≠ v'.ownBlock := by
  rcases h.row with ⟨rfl, _⟩ | ⟨g, cap, cur, rfl, _, hg, _⟩
  · exact .inl rfl
  · exact .inr (h'.apart hg hne)

/-- the Past's blocks while changes are laid down: the first i of cs are among what was done -/
def AddAt (w0 w : World) (base q : Nat) (G : Nat → Prop) (f l : Int) (bv : Value) (bs : Prs) (ds : List Dd) : Prop :=
  ∃ A c, Whole w q 87 [.int .i64 f, .int .i64 l, bv, .slice A ds.length c] ∧ OwnP w base bv bs ∧ OwnD w base (.slice A ds.length c) ds ∧ (∀ i, Value.ownBlock (.slice A ds.length c) = some i → G i ∨ w0.heap.size ≤ i) ∧ Mv G w0 w

set_option maxHeartbeats 8000000 in
set_option maxRecDepth 100000 in
theorem padd_any (base q n : Nat) (G : Nat → Prop) (p : Pa) (v : Int) (cs : List Chg) (vc : Value) (w : World) (h : PaAt w base q G n p) (hv : I64 v) (hr : RdG encC 3 w w.heap.size G vc cs) (hsm : ∀ c ∈ cs, smallC c) (hn : n + cs.length ≤ many) :
    Calls Tryz.prog 25 #[.pointer (some ⟨q, 0, none⟩), .int .i64 v, vc] w fun e w' => e = .returned (.int .i64 (p.add v cs).1) ∧ ∃ G', PaAt w' base q G' (n + cs.length) (p.add v cs).2 ∧ (∀ i, G' i → G i ∨ w.heap.size ≤ i) ∧ Mv G w w' := by
  have H0 := Lib.hid h
  obtain ⟨⟨bv, dv, bs, ds, hb, hob, hod, hgh, hbg, hdg⟩, hq, hlow⟩ := h
  have c1 := hb.cell 1 _ rfl
  have hkeep : ∀ w', Below w.heap.size w w' → ∃ G', PaAt w' base q G' (n + cs.length) p ∧ (∀ i, G' i → G i ∨ w.heap.size ≤ i) ∧ Mv G w w' := fun w' hb' => by
    obtain ⟨⟨bv, dv, bs, ds, h1, h2, h3, h4, h5, h6⟩, h7, h8⟩ := H0.out.new hb'
    exact ⟨G, ⟨⟨bv, dv, bs, ds, h1, h2, h3, ⟨h4.link, h4.ver, h4.rise, h4.ok, h4.sound, h4.fl, h4.i1, h4.i2, by have := h4.len; omega, hn⟩, h5, h6⟩, h7, h8⟩, fun i hi => .inl hi, Mv.of_new hb' _⟩
  have HK := Lib.hid hkeep; clear hkeep
  by_cases hvl : v ≤ p.last
  · have hadd : p.add v cs = (9, p) := by unfold Pa.add; rw [if_pos hvl]
    rw [hadd]
    clear hb hob hod hgh hbg hdg hlow hq hr hsm
    go_enter Tryz.func25, Tryz.ntmps25
    go_wp2_with fail
    go_ret
    exact ⟨rfl, HK.out _ (Below.refl _ _)⟩
  · obtain ⟨A, cc, rfl, hcc, hi⟩ := id hr
    have hcell : ∀ (W : World) (D : Nat → Prop), Mv D w W → (∀ b, D b → G b) → ∀ i (_ : i < cs.length), ∃ b o, A = some ⟨b, o, none⟩ ∧ W.cell? ⟨b, o + i * 3, none⟩ = some (.int .i64 cs[i].kind) ∧ W.cell? ⟨b, o + i * 3 + 1, none⟩ = some (.string cs[i].key) ∧ W.cell? ⟨b, o + i * 3 + 2, none⟩ = some (.string cs[i].val) := fun W D hW hD i hs => by
      obtain ⟨b, o, hA, hB, hG, h1⟩ := hi i hs
      have hbl := hW.block b hB (fun h => hG (hD b h))
      exact ⟨b, o, hA, (World.cell?_of_block hbl).trans (h1 0 _ rfl), (World.cell?_of_block hbl).trans (h1 1 _ rfl), (World.cell?_of_block hbl).trans (h1 2 _ rfl)⟩
    have HC := Lib.hid hcell; clear hcell hi hr
    have HSM := Lib.hid hsm; clear hsm
    have hcl : cs.length ≤ 3000000 := by unfold many at hn; omega
    have hdl : ds.length + cs.length ≤ 3000000 := by have := hgh.len; unfold many at hn; omega
    have hans : p.add v cs = if allAns cs ≠ 0 then (allAns cs, p) else p.add v cs := by
      unfold Pa.add
      rw [if_neg hvl]
      split <;> rfl
    have HGH := Lib.hid hgh; clear hgh
    have HBG := Lib.hid hbg; clear hbg
    have HDG := Lib.hid hdg; clear hdg
    have HQ := Lib.hid hq; clear hq
    have HLOW := Lib.hid hlow; clear hlow
    have HOB := Lib.hid hob; clear hob
    have HOD := Lib.hid hod; clear hod
    have HB := Lib.hid hb; clear hb
    obtain ⟨R, hR⟩ : ∃ R, R = p.add v cs := ⟨_, rfl⟩
    rw [← hR] at hans ⊢
    have HANS := Lib.hid hans; clear hans
    have HRR := Lib.hid hR; clear hR
    go_enter Tryz.func25, Tryz.ntmps25
    go_wp2_with fail
    go_loopw [24] (fun iv wr => ∃ i : Nat, i ≤ cs.length ∧ iv = .int .i64 i ∧ Hid (Below w.heap.size w wr) ∧ Hid (allAns cs = allAns (cs.drop i))) (fun iv _ => cs.length - (intOf iv).toNat)
    case atStart => exact ⟨0, Nat.zero_le _, rfl, Lib.hid (Below.refl _ _), Lib.hid rfl⟩
    case round =>
      obtain ⟨i, hil, rfl, HBW, HAL⟩ := hrel
      by_cases hlt : i < cs.length
      · obtain ⟨b, o, rfl, k0, k1, k2⟩ := HC.out wr (fun _ => False) (Mv.of_new HBW.out _) (fun _ h => h.elim) i hlt
        have hck := fun W => pcheck_any cs[i] W (by have := HSM.out _ (List.getElem_mem hlt); unfold smallC at this; omega) (by have := HSM.out _ (List.getElem_mem hlt); unfold smallC at this; omega)
        have hal := HAL.out
        rw [List.drop_eq_getElem_cons hlt, allAns] at hal
        generalize cs[i] = z at k0 k1 k2 hck hal
        obtain ⟨r, hr⟩ : ∃ r, r = checkAns z := ⟨_, rfl⟩
        rw [← hr] at hck hal
        clear hr
        obtain ⟨kz, xz, yz⟩ := z
        unfold cval at hck
        simp only at k0 k1 k2 hck
        have HCK := Lib.hid hck; clear hck
        have hws := HBW.out.size
        by_cases hr0 : r = 0
        · subst hr0
          rw [if_pos rfl] at hal
          have HAL2 := Lib.hid hal; clear hal
          go_wp2_with fail
          refine (HCK.out _).mono ?_
          rintro e w2 ⟨rfl, hb2⟩
          have HB2 := Lib.hid ((HBW.out.alloc hws (.cells #[.int .i64 kz, .string xz, .string yz] 67)).trans (hb2.mono (by simp; omega)))
          clear hb2 k0 k1 k2
          go_wp2_with fail
          go_roundw
          case rel => exact ⟨i + 1, by omega, by go_num, HB2, HAL2⟩
          case measure => simp [intOf]; omega
        · rw [if_neg hr0] at hal
          have HAL2 := Lib.hid hal; clear hal
          have hr1 : (r == 0) = false := by simpa using hr0
          go_wp2_with fail
          refine (HCK.out _).mono ?_
          rintro e w2 ⟨rfl, hb2⟩
          have HB2 := Lib.hid ((HBW.out.alloc hws (.cells #[.int .i64 kz, .string xz, .string yz] 67)).trans (hb2.mono (by simp; omega)))
          clear hb2 k0 k1 k2
          go_wp2_with fail
          go_ret
          have hh := HANS.out
          rw [HAL2.out, if_pos hr0] at hh
          rw [hh]
          exact ⟨rfl, HK.out _ HB2.out⟩
      · obtain rfl : i = cs.length := by omega
        have hz : allAns cs = 0 := by rw [HAL.out, List.drop_length]; rfl
        have HZ := Lib.hid hz; clear hz
        have hB := HB.out.below HBW.out HB.out.size
        have hob := HOB.out.below HBW.out (Nat.le_refl _)
        have hod := HOD.out.below HBW.out (Nat.le_refl _)
        have hrow : ∃ A' c', dv = .slice A' ds.length c' := by
          rcases hod.form with ⟨h, h0⟩ | ⟨x, y, h, _⟩
          · exact ⟨none, 0, by rw [h, h0]; rfl⟩
          · exact ⟨_, _, h⟩
        obtain ⟨A1, c1', rfl⟩ := hrow
        have HA0 := Lib.hid (show AddAt w wr base q G p.first p.last bv bs (ds ++ (cs.take 0).map (fun c => (v, c))) by
          simp only [List.take_zero, List.map_nil, List.append_nil]
          exact ⟨A1, c1', hB, hob, hod, fun i hi => .inl (HDG.out i hi), Mv.of_new HBW.out _⟩)
        clear hB hob hod
        go_wp2_with fail
        go_loopw [36] (fun iv wt => ∃ i : Nat, i ≤ cs.length ∧ iv = .int .i64 i ∧ Hid (AddAt w wt base q G p.first p.last bv bs (ds ++ (cs.take i).map (fun c => (v, c))))) (fun iv _ => cs.length - (intOf iv).toNat)
        case atStart => exact ⟨0, Nat.zero_le _, rfl, HA0⟩
        case round =>
          obtain ⟨i, hil2, rfl, HA⟩ := hrel
          obtain ⟨A2, c2, a1, a2, a3, a4, a5⟩ := HA.out
          have hbw : base ≤ wr.heap.size := Nat.le_trans HLOW.out.1 a5.size
          by_cases hlt : i < cs.length
          · obtain ⟨b, o, rfl, k0, k1, k2⟩ := HC.out wr G a5 (fun _ h => h) i hlt
            have hnext : ds ++ (cs.take (i + 1)).map (fun c => (v, c)) = (ds ++ (cs.take i).map (fun c => (v, c))) ++ [(v, cs[i])] := by
              rw [List.take_succ_eq_append_getElem hlt, List.map_append, List.append_assoc]; rfl
            have hll : (ds ++ (cs.take i).map (fun c => (v, c))).length ≤ 3000000 := by simp; omega
            generalize ds ++ (cs.take i).map (fun c => (v, c)) = L at hnext hll a1 a3 a4
            generalize cs[i] = z at k0 k1 k2 hnext
            obtain ⟨kz, xz, yz⟩ := z
            simp only at k0 k1 k2
            have HN := Lib.hid hnext; clear hnext
            have hqs := a1.size
            have A1H := Lib.hid a1; clear a1
            have A2H := Lib.hid a2; clear a2
            have A3H := Lib.hid a3; clear a3
            have A4H := Lib.hid a4; clear a4
            have A5H := Lib.hid a5; clear a5
            go_wp2_with fail
            obtain ⟨w3, hw3⟩ : ∃ w3, w3 = (wr.alloc (.cells #[.int .i64 kz, .string xz, .string yz] 67)).drew := ⟨_, rfl⟩
            have hgr : ∀ (W : World), W = (wr.alloc (.cells #[.int .i64 kz, .string xz, .string yz] 67)).drew → Whole W q 87 [.int .i64 p.first, .int .i64 p.last, bv, .slice A2 L.length c2] ∧ Whole W wr.heap.size 67 [.int .i64 kz, .string xz, .string yz] ∧ OwnP W base bv bs ∧ OwnD W base (.slice A2 L.length c2) L ∧ Mv G w W ∧ wr.heap.size < W.heap.size := fun W hW => by
              rw [hW]
              exact ⟨(A1H.out.alloc _).drew, (Whole.fresh wr 67 [_, _, _]).drew, (A2H.out.alloc _).drew, (A3H.out.alloc _).drew, (A5H.out.alloc _).drew, by show _ < (wr.alloc _).heap.size; simp⟩
            obtain ⟨g1, g2, g3, g4, g5, g6⟩ := hgr w3 hw3
            clear hgr
            refine wp_region_planF (fun W => Whole W q 87 [.int .i64 p.first, .int .i64 p.last, bv, .slice A2 L.length c2] ∧ Whole W wr.heap.size 67 [.int .i64 kz, .string xz, .string yz]) 12 [(true, 0), (true, 1), (true, 2), (true, 3), (true, 4), (true, 5), (true, 6), (true, 7), (false, 8), (false, 9), (false, 10), (true, 11), (false, 12)] (by kernel_rfl) (by kernel_rfl) (fun _ _ d _ _ h => by cases d <;> exact h) (by rw [← hw3]; exact ⟨g1, g2⟩) ?_
            rw [← hw3]
            clear hw3 k0 k1 k2
            iterate 8 (refine PlanF.take (v := ?_) rfl rfl ?_ ?_; rotate_left; (focus (intro W hW; have m0 := hW.1.cell 3 _ rfl; have m1 := hW.2.cell 0 _ rfl; have m2 := hW.2.cell 1 _ rfl; have m3 := hW.2.cell 2 _ rfl; go_simp; (try with_reducible rfl); done)); (try simp only [Act.put, List.setIfInBounds_toArray, List.set_cons_zero, List.set_cons_succ]))
            refine PlanF.step rfl rfl (fun Kk hK => ?_)
            go_simp
            have g1' := g1.alloc (.cells #[.int .i64 v, .int .i64 kz, .string xz, .string yz] 101)
            have g2' := g2.alloc (.cells #[.int .i64 v, .int .i64 kz, .string xz, .string yz] 101)
            have g3' := g3.alloc (.cells #[.int .i64 v, .int .i64 kz, .string xz, .string yz] 101)
            have g4' := g4.alloc (.cells #[.int .i64 v, .int .i64 kz, .string xz, .string yz] 101)
            have g5' := g5.alloc (.cells #[.int .i64 v, .int .i64 kz, .string xz, .string yz] 101)
            have hrd := RdD.one w3 (v, ⟨kz, xz, yz⟩)
            have hsz3 : (w3.alloc (.cells #[.int .i64 v, .int .i64 kz, .string xz, .string yz] 101)).heap.size = w3.heap.size + 1 := by simp
            obtain ⟨w4, hw4⟩ : ∃ w4, w4 = w3.alloc (.cells #[.int .i64 v, .int .i64 kz, .string xz, .string yz] 101) := ⟨_, rfl⟩
            simp only at hrd
            rw [← hw4] at g1' g2' g3' g4' g5' hrd hsz3 ⊢
            clear hw4
            refine hK.out _ _ ⟨g1', g2'⟩ ?_
            clear hK Kk
            (try simp only [Act.put, List.setIfInBounds_toArray, List.set_cons_zero, List.set_cons_succ])
            refine PlanF.step rfl rfl (fun Kk hK => ?_)
            refine wp_addD _ _ rfl base (.slice A2 L.length c2) L rfl g4' _ _ [(v, ⟨kz, xz, yz⟩)] rfl hrd (by simp; omega) (by omega) ?_
            intro A5 c5 w5 ho5 hg5 hn5
            have hne := g4'.apart g1' (by decide)
            have g1'' := g1'.grown hg5.out hne
            have g2'' := g2'.grown hg5.out (g4'.apart g2' (by decide))
            have g3'' := g3'.kept hg5.out (g3'.two g4' (by decide))
            have g5'' := g5'.grown hg5.out (fun i hi he => (A4H.out i he.symm).resolve_right (by omega))
            have hown5 : ∀ i, Value.ownBlock (.slice A5 (L ++ [(v, (⟨kz, xz, yz⟩ : Chg))]).length c5) = some i → G i ∨ w.heap.size ≤ i := fun i hi => by
              rcases hn5.out i hi with h | h
              · exact A4H.out i h
              · exact .inr (Nat.le_trans g5'.size h)
            have HN2 := HN.out
            rw [← HN2] at ho5 hown5 ⊢
            generalize hLL : ds ++ (cs.take (i + 1)).map (fun c => (v, c)) = L2 at ho5 hown5 ⊢
            have HLL := Lib.hid hLL; clear hLL HN2
            have HOW := Lib.hid hown5; clear hown5
            refine hK.out _ _ ⟨g1'', g2''⟩ ?_
            clear hK Kk
            (try simp only [Act.put, List.setIfInBounds_toArray, List.set_cons_zero, List.set_cons_succ])
            refine PlanF.step rfl rfl (fun Kk hK => ?_)
            go_simp
            refine hK.out _ _ ⟨g1'', g2''⟩ ?_
            clear hK Kk
            (try simp only [Act.put, List.setIfInBounds_toArray, List.set_cons_zero, List.set_cons_succ])
            iterate 1 (refine PlanF.take (v := ?_) rfl rfl ?_ ?_; rotate_left; (focus (intro W hW; go_simp; (try with_reducible rfl); done)); (try simp only [Act.put, List.setIfInBounds_toArray, List.set_cons_zero, List.set_cons_succ]))
            refine PlanF.last rfl rfl (fun Kk hK => ?_)
            have q3 := g1''.cell 3 _ rfl
            have q3f := g1''.frozen 3
            go_simp
            refine hK.out _ _ ?_
            clear hK Kk
            (try simp only [Act.put, List.setIfInBounds_toArray, List.set_cons_zero, List.set_cons_succ])
            have hAd : AddAt w (w5.setCell ⟨q, 3, none⟩ (.slice A5 L2.length c5)) base q G p.first p.last bv bs L2 := by
              refine ⟨A5, c5, g1''.put 3 _, ?_, ?_, HOW.out, g5''.setCell (p := ⟨q, 3, none⟩) (fun _ => HQ.out) _⟩
              · exact g3''.put g1'' (by decide) 3 _
              · exact ho5.out.put g1'' (by decide) 3 _
            have HAD := Lib.hid hAd; clear hAd
            clear q3 q3f
            go_wp2_with fail
            go_roundw
            case rel => exact ⟨i + 1, by omega, by go_num, by rw [HLL.out]; exact HAD⟩
            case measure => simp [intOf]; omega
          · obtain rfl : i = cs.length := by omega
            rw [List.take_length] at a1 a3 a4
            have hqs := a1.size
            have hfz := a1.frozen 1
            have hc1 := a1.cell 1 _ rfl
            generalize hL : ds ++ cs.map (fun c => (v, c)) = L at a1 a3 a4
            have A1H := Lib.hid a1; clear a1
            have A2H := Lib.hid a2; clear a2
            have A3H := Lib.hid a3; clear a3
            have A4H := Lib.hid a4; clear a4
            have A5H := Lib.hid a5; clear a5
            go_wp2_with fail
            go_ret
            have hoks := allAnsP_all HZ.out
            obtain ⟨p', e1, e2, e3, e4⟩ := HGH.out.add hv (by omega) hoks hn
            have hRR := HRR.out
            rw [e1] at hRR
            rw [hRR]
            refine ⟨rfl, fun i => G i ∨ Value.ownBlock (.slice A2 L.length c2) = some i, ⟨⟨bv, .slice A2 L.length c2, bs, L, ?_, ?_, ?_, by rw [← hL]; exact e4, fun i hi => .inl (HBG.out i hi), fun i hi => .inr hi⟩, .inl HQ.out, ?_, ?_⟩, fun i hi => ?_, ?_⟩
            · have := A1H.out.put 1 (.int .i64 v)
              rw [e2, e3]
              exact this
            · exact A2H.out.put A1H.out (by decide) 1 _
            · exact A3H.out.put A1H.out (by decide) 1 _
            · simp only [World.size_setCell]; exact hbw
            · intro i hi
              simp only [World.size_setCell]
              rcases hi with hi | hi
              · exact ⟨(HLOW.out.2 i hi).1, Nat.lt_of_lt_of_le (HLOW.out.2 i hi).2 A5H.out.size⟩
              · exact A3H.out.low hi
            · rcases hi with hi | hi
              · exact .inl hi
              · exact A4H.out i hi
            · exact A5H.out.setCell (p := ⟨q, 1, none⟩) (fun _ => HQ.out) _
end Go.Proofs.YtbifnogocmgddaaGreat
