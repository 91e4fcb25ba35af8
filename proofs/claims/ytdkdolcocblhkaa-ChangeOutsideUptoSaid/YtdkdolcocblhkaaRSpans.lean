/- Appends of spans and of changes; what the reference's Spans answers. -/
import Derived.Test.YtdkdolcocblhkaaRApply
namespace Go.Proofs.Ytdkdolcocblhkaa
open Go.RowKit

theorem RdC.one (w : World) (s : Chg) : RdC (w.alloc (.cells #[.int .i64 s.kind, .string s.key, .string s.val] 23)) (w.heap.size + 1) (.slice (some ⟨w.heap.size, 0, none⟩) 1 1) [s] := by
  refine ⟨_, 1, rfl, Nat.le_refl _, fun i hi => ⟨w.heap.size, 0, rfl, Nat.lt_succ_self _, fun j u hu => ?_⟩⟩
  obtain rfl : i = 0 := by simp at hi; omega
  match j, hu with
  | 0, hu =>
    simp only [encC, List.getElem_cons_zero, List.getElem?_cons_zero, Option.some.injEq] at hu
    subst hu
    exact World.cell?_alloc_at _ _ _ _ rfl
  | 1, hu =>
    simp only [encC, List.getElem_cons_zero, List.getElem?_cons_succ, List.getElem?_cons_zero, Option.some.injEq] at hu
    subst hu
    exact World.cell?_alloc_at _ _ _ _ rfl
  | 2, hu =>
    simp only [encC, List.getElem_cons_zero, List.getElem?_cons_succ, List.getElem?_cons_zero, Option.some.injEq] at hu
    subst hu
    exact World.cell?_alloc_at _ _ _ _ rfl
  | j + 3, hu => simp [encC] at hu
theorem wpList_addT {ops : Array Oper} {rest : List Oper} {o : Oper} {a : Act} {Q : Exit → Act → World → Prop} {w : World} (hgd : Region.wanted o (yielded ops a.tmps) = true) (s x : Operand)
    (ho : o.op = .call { callee := .builtin .append, args := #[s, x], argTypes := #[36, 36] })
    (base : Nat) (v : Value) (l : List (K × K)) (hs : a.eval s = v) (hown : OwnS w base v l) (B : Nat) (v2 : Value) (p : List (K × K)) (hx : a.eval x = v2) (hp : Rd cellsS 2 w B v2 p)
    (hlen : l.length + p.length ≤ 7036874417000) (hbase : base ≤ w.heap.size) (C : Nat) (w0 : World) (hb : Below C w0 w) (hC : C ≤ base)
    (h : ∀ A' c' w', Hid (OwnS w' base (.slice A' (l ++ p).length c') (l ++ p)) → Hid (Below C w0 w') → Hid (base ≤ w'.heap.size) → wpList Try.prog ops Q rest (a.put o.dst (.slice A' (l ++ p).length c')) w') : wpList Try.prog ops Q (o :: rest) a w := by
  obtain ⟨i0, hi, hz0, hz1, hz2⟩ := info_parts info_spans
  refine BigFrame.wpList_want hgd fun K hK => ?_
  refine wp_addAny (enc := cellsS) (k := 2) 36 48 32 i0 _ Try.underlying36 hi hz0 hz1 hz2 rfl (by decide) cellsS_len cellsS_one s x ho base v l hs hown B v2 p hx hp (by unfold maxLen; omega) (by omega) hbase fun A' c' w' h1 h2 => ?_
  have hown2 : Own cellsS 2 48 w base v l := hown
  exact hK _ _ (h A' c' w' (Lib.hid h1) (Lib.hid (hown2.grown hb h2 hC (Nat.le_trans hC hbase))) (Lib.hid (Nat.le_trans hbase h2.size)))
theorem wpList_addC {ops : Array Oper} {rest : List Oper} {o : Oper} {a : Act} {Q : Exit → Act → World → Prop} {w : World} (hgd : Region.wanted o (yielded ops a.tmps) = true) (s x : Operand)
    (ho : o.op = .call { callee := .builtin .append, args := #[s, x], argTypes := #[24, 24] })
    (base : Nat) (v : Value) (l : List Chg) (hs : a.eval s = v) (hown : OwnC w base v l) (B : Nat) (v2 : Value) (p : List Chg) (hx : a.eval x = v2) (hp : RdC w B v2 p)
    (hlen : l.length + p.length ≤ 5629499533000) (hbase : base ≤ w.heap.size) (C : Nat) (w0 : World) (hb : Below C w0 w) (hC : C ≤ base)
    (h : ∀ A' c' w', Hid (OwnC w' base (.slice A' (l ++ p).length c') (l ++ p)) → Hid (Below C w0 w') → Hid (base ≤ w'.heap.size) → wpList Try.prog ops Q rest (a.put o.dst (.slice A' (l ++ p).length c')) w') : wpList Try.prog ops Q (o :: rest) a w := by
  obtain ⟨i0, hi, hz0, hz1, hz2⟩ := info_parts info_chg
  refine BigFrame.wpList_want hgd fun K hK => ?_
  refine wp_addAny (enc := encC) (k := 3) 24 23 40 i0 _ Try.underlying24 hi hz0 hz1 hz2 rfl (by decide) encC_len encC_one s x ho base v l hs hown B v2 p hx hp (by unfold maxLen; omega) (by omega) hbase fun A' c' w' h1 h2 => ?_
  exact hK _ _ (h A' c' w' (Lib.hid h1) (Lib.hid (hown.grown hb h2 hC (Nat.le_trans hC hbase))) (Lib.hid (Nat.le_trans hbase h2.size)))

set_option maxHeartbeats 2000000 in
set_option maxRecDepth 100000 in
theorem rspans_any (l : List Chg) (hs : ∀ c ∈ l, smallC c) (v : Value) (w : World) (hv : RdC w w.heap.size v l) (hl : l.length ≤ 100) :
    Calls Try.prog 22 #[v] w fun e w' => ∃ v' R, e = .returned v' ∧ OwnS w' w.heap.size v' R ∧ Below w.heap.size w w' ∧ Fits R (fun k => mem (l.map cspan) k) ∧ R.length ≤ 200 := by
  obtain ⟨A, cc, rfl, hcc, hi⟩ := hv.at
  have HI := Lib.hid hi; clear hi
  have HS := Lib.hid hs; clear hs
  obtain ⟨g, hg⟩ : ∃ g, g = w.heap.size := ⟨_, rfl⟩
  have HG := Lib.hid hg
  have hsz : g ≤ w.heap.size := by omega
  clear hv hg
  go_enter Try.func22, Try.ntmps22
  go_wp2_with fail
  go_loopw [3, 4] (fun ov iv wr => ∃ (i : Nat) (A' : Option Addr) (c' : Nat), i ≤ l.length ∧ iv = .int .i64 i ∧ ov = .slice A' i c' ∧ OwnS wr g ov ((l.take i).map cspan) ∧ Below g w wr ∧ g ≤ wr.heap.size) (fun _ iv _ => l.length - (intOf iv).toNat)
  case atStart =>
    refine ⟨0, some ⟨w.heap.size, 0, none⟩, 0, Nat.zero_le _, rfl, rfl, ?_, ?_, ?_⟩
    · rw [HG.out]; exact Own.empty _ _ (Nat.le_refl _)
    · rw [HG.out]; exact (Below.refl _ w).alloc (Nat.le_refl _) _
    · rw [HG.out]; simp
  case round =>
    obtain ⟨i, A', c', hil, rfl, rfl, ho, hbw, hbs⟩ := hrel
    have HBW := Lib.hid hbw; clear hbw
    have HBS := Lib.hid hbs; clear hbs
    have HO := Lib.hid ho; clear ho
    have hlm : ((l.take i).map cspan).length = i := by simp; omega
    by_cases hlt : i < l.length
    · obtain ⟨b, o, rfl, hbB, k0, k1, k2⟩ := HI.out i hlt
      rw [← HBW.out.cell (p := ⟨b, o + i * 3, none⟩) (by rw [HG.out]; exact hbB)] at k0
      rw [← HBW.out.cell (p := ⟨b, o + i * 3 + 1, none⟩) (by rw [HG.out]; exact hbB)] at k1
      rw [← HBW.out.cell (p := ⟨b, o + i * 3 + 2, none⟩) (by rw [HG.out]; exact hbB)] at k2
      have h1 := rspan_any l[i] wr (HS.out _ (List.getElem_mem hlt)).1
      have hnext : (l.take (i + 1)).map cspan = (l.take i).map cspan ++ [cspan l[i]] := by
        rw [List.take_succ_eq_append_getElem hlt, List.map_append]; rfl
      generalize (l.take i).map cspan = out at HO hlm hnext
      generalize cspan l[i] = sp at h1 hnext
      generalize l[i] = z at k0 k1 k2 h1
      obtain ⟨kz, xz, yz⟩ := z
      unfold cval spv at h1
      simp only at k0 k1 k2 h1
      have H1 := Lib.hid h1; clear h1
      have HN := Lib.hid hnext; clear hnext
      have HLM := Lib.hid hlm
      go_wp2_with fail
      refine H1.out.mono ?_
      rintro e w3 ⟨rfl, hb3⟩
      have HB3 := Lib.hid (show Below g w w3 from HBW.out.trans (hb3.mono HBS.out))
      have HS3 := Lib.hid (show g ≤ w3.heap.size from Nat.le_trans HBS.out hb3.size)
      have HO3 := Lib.hid (show OwnS w3 g _ _ from HO.out.below hb3 (Nat.le_refl _))
      clear hb3 k0 k1 k2
      go_wp2_with (at_builtin; go_must (refine wpList_addT rfl _ _ rfl g (.slice A' i c') out rfl ?f1 (w3.heap.size + 1) _ [sp] rfl (RdS.one w3 sp) (by simp; omega) ?f2 g w ?f3 (Nat.le_refl _) ?f4))
      case f1 => exact HO3.out.alloc _
      case f2 => have := HS3.out; simp; omega
      case f3 => exact HB3.out.alloc HS3.out _
      intro A2 c2 w4 ho4 hb4 hz4
      go_wp2_with fail
      go_roundw
      case rel => exact ⟨i + 1, A2, c2, by omega, by go_num, by simp [hlm], by rw [HN.out]; exact ho4.out, hb4.out, hz4.out⟩
      case measure => simp [intOf]; omega
    · obtain rfl : i = l.length := by omega
      have ho := HO.out
      rw [List.take_length] at ho
      have HO2 := Lib.hid (show RdS wr wr.heap.size _ _ from ho.rd)
      clear ho
      have hj := rjoin_any (l.map cspan) _ wr HO2.out (by simpa using hl)
      have HJ := Lib.hid hj; clear hj
      go_wp2_with fail
      refine HJ.out.mono ?_
      rintro e w5 ⟨v5, R, rfl, ho5, hb5, hf5, hl5⟩
      have HO5 := Lib.hid ho5; clear ho5
      have HB5 := Lib.hid hb5; clear hb5
      have HF5 := Lib.hid hf5; clear hf5
      have HL5 := Lib.hid hl5; clear hl5
      go_wp2_with fail
      have hgz : w.heap.size ≤ wr.heap.size := by rw [← HG.out]; exact HBS.out
      refine bodyPost_ret (v := v5) ?_ rfl ⟨_, _, rfl, HO5.out.lower hgz, (by have h := HBW.out; rwa [HG.out] at h : Below w.heap.size w wr).trans (HB5.out.mono hgz), HF5.out, HL5.out⟩
      simp [results, Try.results22, go_sem]
end Go.Proofs.Ytdkdolcocblhkaa
