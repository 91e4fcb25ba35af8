/- The frame layer's reader: spans, changes, and so many of them. -/
import Derived.Test.YtiijcikdlemndaaFRd
namespace Go.Proofs.Ytiijcikdlemndaa
open Go.RowKit
attribute [local go_sem] less_eq same_eq le_eq ge_eq gt_eq

section
variable {α : Type} {enc : α → List Value} {k : Nat}
/-- append of what another slice holds; what grew is told -/
theorem wpList_addG {P : Program} {ops : Array Oper} {rest : List Oper} {o : Oper} {a : Act} {Q : Exit → Act → World → Prop} {w : World} (hgd : Region.wanted o (yielded ops a.tmps) = true) (t e : TypeId) (bytes : Nat) (i0 : TypeInfo) (z : Value) (ht : P.underlying t = some (.slice e)) (hi : P.info? e = some i0) (hz0 : i0.zero = some z) (hz1 : i0.size = k) (hz2 : i0.bytes = bytes) (hzs : z.cells.size = k) (hk0 : 0 < k)
    (hk : ∀ x, (enc x).length = k) (hone : ∀ x, ∀ u ∈ enc x, u.oneCell' = true) (s x : Operand)
    (ho : o.op = .call { callee := .builtin .append, args := #[s, x], argTypes := #[t, t] })
    (base : Nat) (v : Value) (l : List α) (hs : a.eval s = v) (hown : Own enc k e w base v l) (B : Nat) (v2 : Value) (p : List α) (hx : a.eval x = v2) (hp : Rd enc k w B v2 p)
    (h63 : l.length + p.length ≤ maxLen) (hbytes : ((l.length + p.length) + (l.length + p.length) / 4 + 192) * bytes ≤ 281474976710656) (hbase : base ≤ w.heap.size)
    (h : ∀ A' c' w', Hid (Own enc k e w' base (.slice A' (l ++ p).length c') (l ++ p)) → Hid (w.grownBy w' v.ownBlock) → wpList P ops Q rest (a.put o.dst (.slice A' (l ++ p).length c')) w') : wpList P ops Q (o :: rest) a w := by
  refine BigFrame.wpList_want hgd fun K hK => ?_
  refine wp_addAny t e bytes i0 z ht hi hz0 hz1 hz2 hzs hk0 hk hone s x ho base v l hs hown B v2 p hx hp h63 hbytes hbase fun A' c' w' h1 h2 => ?_
  exact hK _ _ (h A' c' w' (Lib.hid h1) (Lib.hid h2))
end

/-- what was owned from B on is so behind a reading whose reader lies below B -/
theorem Own.only {α : Type} {enc : α → List Value} {k : Nat} {e : TypeId} {w w' : World} {B p : Nat} {v : Value} {l : List α} (h : Own enc k e w B v l) (ho : Only p w w') (hp : p < B) : Own enc k e w' B v l := by
  refine Own.kept (row := some p) h ho ?_
  cases hb : v.ownBlock with
  | none => exact .inl rfl
  | some i => exact .inr fun e => by have := (h.low hb).1; injection e with e; omega

set_option maxHeartbeats 1000000 in
set_option maxRecDepth 100000 in
theorem fspan_any (S : Rest) (base p : Nat) (w : World) (hw : FR w base p S) :
    Calls Try.prog 52 #[.pointer (some ⟨p, 0, none⟩)] w fun x w' => x = .returned (.agg #[.string (rdSpan S).1.1, .string (rdSpan S).1.2]) ∧ FR w' base p (rdSpan S).2 ∧ Only p w w' := by
  unfold rdSpan
  simp only
  obtain ⟨w1, hw1⟩ : ∃ w1, w1 = w.alloc (.cells #[.string ⟨#[]⟩, .string ⟨#[]⟩] 83) := ⟨_, rfl⟩
  have hb1 : Below w.heap.size w w1 := by rw [hw1]; exact (Below.refl _ _).alloc (Nat.le_refl _) _
  have hV1 : Whole w1 w.heap.size 83 [.string ⟨#[]⟩, .string ⟨#[]⟩] := by rw [hw1]; exact Whole.fresh _ _ _
  have hT := ftext_any S base p w1 (hw.more hb1)
  have hT2 := fun W h => ftext_any (rdT S).2 base p W h
  have hO1 := (Only.refl p w).below hb1
  have hpw := hw.size
  generalize strB (rdT S).1 = x at hT ⊢
  generalize rdT (rdT S).2 = r2 at hT2 ⊢
  generalize (rdT S).2 = S1 at hT hT2 ⊢
  generalize strB r2.1 = y at hT2 ⊢
  generalize r2.2 = S2 at hT2 ⊢
  have HT := Lib.hid hT; clear hT hw
  have HT2 := Lib.hid hT2; clear hT2
  have HW1 := Lib.hid hw1; clear hw1 hb1
  have HV1 := Lib.hid hV1; clear hV1
  have HO1 := Lib.hid hO1; clear hO1
  go_enter Try.func52, Try.ntmps52
  go_wp2_with fail
  rw [← HW1.out]
  refine HT.out.mono ?_
  rintro e w2 ⟨rfl, hf, ho⟩
  have HT3 := Lib.hid (HT2.out w2 hf); clear hf
  have HO2 := Lib.hid (HO1.out.trans ho)
  have HV2 := Lib.hid (HV1.out.grown (row := some p) ho (fun e => by injection e with e; omega)); clear ho
  go_wp2_with fail
  refine HT3.out.mono ?_
  rintro e w3 ⟨rfl, hf, ho⟩
  have HF := Lib.hid hf; clear hf
  have HO3 := Lib.hid (HO2.out.trans ho)
  have hV3 := (HV2.out.grown (row := some p) ho (fun e => by injection e with e; omega)); clear ho
  have q0 := hV3.cell 0 _ rfl
  have q1 := hV3.cell 1 _ rfl
  have g0 := hV3.frozen 0
  have g1 := hV3.frozen 1
  have hne : p < w.heap.size := hpw
  have hV4 := (hV3.put 0 (.string x)).put 1 (.string y)
  have j0 := hV4.cell 0 _ rfl
  have j1 := hV4.cell 1 _ rfl
  have HV3 := Lib.hid hV3; clear hV3 hV4
  go_wp2_with fail
  refine bodyPost_ret (v := .agg #[.string x, .string y]) (by simp [results, Try.results52, go_sem, j0, j1]) rfl ⟨rfl, ?_, ?_⟩
  · refine HF.out.kept (row := some w.heap.size) (B := w.heap.size) ?_ (fun k hk => by injection hk with hk; omega) hne
    exact (((Only.refl w.heap.size w3).put 0 _).put 1 _)
  · exact (HO3.out.fresh (Nat.le_refl _) 0 _).fresh (Nat.le_refl _) 1 _

set_option maxHeartbeats 1000000 in
set_option maxRecDepth 100000 in
theorem fchange_any (S : Rest) (base p : Nat) (w : World) (hw : FR w base p S) :
    Calls Try.prog 54 #[.pointer (some ⟨p, 0, none⟩)] w fun x w' => x = .returned (cval (rdChg S).1) ∧ FR w' base p (rdChg S).2 ∧ Only p w w' := by
  unfold rdChg cval
  simp only
  obtain ⟨w1, hw1⟩ : ∃ w1, w1 = w.alloc (.cells #[.int .i64 0, .string ⟨#[]⟩, .string ⟨#[]⟩] 89) := ⟨_, rfl⟩
  have hb1 : Below w.heap.size w w1 := by rw [hw1]; exact (Below.refl _ _).alloc (Nat.le_refl _) _
  have hV1 : Whole w1 w.heap.size 89 [.int .i64 0, .string ⟨#[]⟩, .string ⟨#[]⟩] := by rw [hw1]; exact Whole.fresh _ _ _
  have hT0 := fnum_any S base p w1 (hw.more hb1)
  have hT := fun W h => ftext_any (rdN S).2 base p W h
  have hT2 := fun W h => ftext_any (rdT (rdN S).2).2 base p W h
  have hO1 := (Only.refl p w).below hb1
  have hpw := hw.size
  generalize (rdN S).1 = n at hT0 ⊢
  generalize strB (rdT (rdN S).2).1 = x at hT ⊢
  generalize rdT (rdT (rdN S).2).2 = r2 at hT2 ⊢
  generalize (rdT (rdN S).2).2 = S1 at hT hT2 ⊢
  generalize (rdN S).2 = S0 at hT0 hT ⊢
  generalize strB r2.1 = y at hT2 ⊢
  generalize r2.2 = S2 at hT2 ⊢
  have HT0 := Lib.hid hT0; clear hT0 hw
  have HT := Lib.hid hT; clear hT
  have HT2 := Lib.hid hT2; clear hT2
  have HW1 := Lib.hid hw1; clear hw1 hb1
  have HV1 := Lib.hid hV1; clear hV1
  have HO1 := Lib.hid hO1; clear hO1
  go_enter Try.func54, Try.ntmps54
  go_wp2_with fail
  rw [← HW1.out]
  refine HT0.out.mono ?_
  rintro e w5 ⟨rfl, hf, ho⟩
  have HT4 := Lib.hid (HT.out w5 hf); clear hf
  have HO5 := Lib.hid (HO1.out.trans ho)
  have HV5 := Lib.hid (HV1.out.grown (row := some p) ho (fun e => by injection e with e; omega)); clear ho
  go_wp2_with fail
  refine HT4.out.mono ?_
  rintro e w2 ⟨rfl, hf, ho⟩
  have HT3 := Lib.hid (HT2.out w2 hf); clear hf
  have HO2 := Lib.hid (HO5.out.trans ho)
  have HV2 := Lib.hid (HV5.out.grown (row := some p) ho (fun e => by injection e with e; omega)); clear ho
  go_wp2_with fail
  refine HT3.out.mono ?_
  rintro e w3 ⟨rfl, hf, ho⟩
  have HF := Lib.hid hf; clear hf
  have HO3 := Lib.hid (HO2.out.trans ho)
  have hV3 := (HV2.out.grown (row := some p) ho (fun e => by injection e with e; omega)); clear ho
  have q0 := hV3.cell 0 _ rfl
  have q1 := hV3.cell 1 _ rfl
  have q2 := hV3.cell 2 _ rfl
  have g0 := hV3.frozen 0
  have g1 := hV3.frozen 1
  have g2 := hV3.frozen 2
  have hV4 := ((hV3.put 0 (.int .i64 n)).put 1 (.string x)).put 2 (.string y)
  have j0 := hV4.cell 0 _ rfl
  have j1 := hV4.cell 1 _ rfl
  have j2 := hV4.cell 2 _ rfl
  have HV3 := Lib.hid hV3; clear hV3 hV4
  go_wp2_with fail
  refine bodyPost_ret (v := .agg #[.int .i64 n, .string x, .string y]) (by simp [results, Try.results54, go_sem, j0, j1, j2]) rfl ⟨rfl, ?_, ?_⟩
  · refine HF.out.kept (row := some w.heap.size) (B := w.heap.size) ?_ (fun k hk => by injection hk with hk; omega) hpw
    exact ((((Only.refl w.heap.size w3).put 0 _).put 1 _).put 2 _)
  · exact ((HO3.out.fresh (Nat.le_refl _) 0 _).fresh (Nat.le_refl _) 1 _).fresh (Nat.le_refl _) 2 _

set_option maxHeartbeats 4000000 in
set_option maxRecDepth 100000 in
theorem fspans_rd (most : Nat) (hm : most ≤ 4096) (S : Rest) (base p : Nat) (w : World) (hw : FR w base p S) :
    Calls Try.prog 51 #[.pointer (some ⟨p, 0, none⟩), .int .i64 (most : Int), .func (.func 52) #[.pointer (some ⟨p, 0, none⟩)] #[]] w fun x w' => ∃ A c, x = .returned (.slice A (rdList rdSpan most S).1.length c) ∧ Own cellsS 2 83 w' w.heap.size (.slice A (rdList rdSpan most S).1.length c) (rdList rdSpan most S).1 ∧ FR w' base p (rdList rdSpan most S).2 ∧ Only p w w' := by
  obtain ⟨i0, hi, hz0, hz1, hz2⟩ := info_parts info_span
  have hC := fcount_any most S base p w hw
  have hle := rdCount_le most S
  have hpw := hw.size
  unfold rdList
  simp only
  generalize rdCount most S = r at hC hle ⊢
  obtain ⟨n, S1⟩ := r
  simp only at hC hle ⊢
  obtain ⟨N, rfl⟩ : ∃ N : Nat, n = (N : Int) := ⟨n.toNat, by omega⟩
  rw [Int.toNat_natCast]
  have hN : N ≤ most := by omega
  have HC := Lib.hid hC; clear hC hw hle
  have HI0 := Lib.hid hi; clear hi
  have HZ0 := Lib.hid hz0; clear hz0
  have HZ1 := Lib.hid hz1; clear hz1
  have HZ2 := Lib.hid hz2; clear hz2
  obtain ⟨g, hg⟩ : ∃ g, g = w.heap.size := ⟨_, rfl⟩
  rw [← hg] at hpw ⊢
  have HG := Lib.hid hg; clear hg
  go_enter Try.func51, Try.ntmps51
  go_wp2_with fail
  refine HC.out.mono ?_
  rintro e w1 ⟨rfl, hf, ho⟩
  have HF1 := Lib.hid hf; clear hf
  have HO1 := Lib.hid ho; clear ho
  go_wp2_with fail
  go_loopw [7, 11] (fun sv iv wr => ∃ (i : Nat) (A : Option Addr) (c : Nat) (L : List (K × K)), i ≤ N ∧ iv = .int .i64 i ∧ sv = .slice A i c ∧ L.length = i ∧ L = repL rdSpan i S1 ∧ Own cellsS 2 83 wr g (.slice A i c) L ∧ FR wr base p (repS rdSpan i S1) ∧ Only p w wr) (fun _ iv _ => N - (intOf iv).toNat)
  case atStart => exact ⟨0, _, _, [], Nat.zero_le _, rfl, rfl, rfl, rfl, Own.nil _ _, HF1.out, HO1.out⟩
  case round =>
    obtain ⟨i, A, c, L, hil, rfl, rfl, hLl, hL, hown, hfr, honly⟩ := hrel
    have HO := Lib.hid hown; clear hown
    have HLL := Lib.hid hLl
    have HL := Lib.hid hL; clear hL
    have HON := Lib.hid honly
    have hsz : g ≤ wr.heap.size := by rw [HG.out]; exact honly.size
    clear honly
    by_cases hlt : i < N
    · have hone := fspan_any (repS rdSpan i S1) base p wr hfr
      have hL2 : repL rdSpan (i + 1) S1 = L ++ [(rdSpan (repS rdSpan i S1)).1] := by rw [repL, HL.out]
      have hS2 : repS rdSpan (i + 1) S1 = (rdSpan (repS rdSpan i S1)).2 := rfl
      generalize rdSpan (repS rdSpan i S1) = r at hone hL2 hS2
      obtain ⟨x, S2⟩ := r
      simp only at hone hL2 hS2
      obtain ⟨x, y⟩ := x; simp only at hone
      have HONE := Lib.hid hone; clear hone
      have HL2 := Lib.hid hL2; clear hL2
      have HS2 := Lib.hid hS2; clear hS2 hfr
      go_wp2_with fail
      refine HONE.out.mono ?_
      rintro e w2 ⟨rfl, hf2, ho2⟩
      have hsz2 : g ≤ w2.heap.size := Nat.le_trans hsz ho2.size
      have HF2 := Lib.hid hf2; clear hf2
      have HO2 := Lib.hid (HO.out.only ho2 hpw)
      have HON2 := Lib.hid (HON.out.trans ho2); clear ho2
      go_wp2_with (at_builtin; go_must (refine wpList_addG rfl 33 83 32 i0 _ Try.underlying33 HI0.out HZ0.out HZ1.out HZ2.out rfl (by decide) cellsS_len cellsS_one _ _ rfl g (.slice A i c) L rfl ?c0 (w2.heap.size + 1) _ [(x, y)] rfl ?c1 (by simp only [List.length_cons, List.length_nil]; unfold maxLen; omega) (by simp only [List.length_cons, List.length_nil]; omega) ?c2 ?_))
      case c0 => exact HO2.out.alloc _
      case c1 => exact Whole.rd (enc := cellsS) (k := 2) cellsS_len (l := [(x, y)]) (Whole.fresh w2 83 (flatG cellsS [(x, y)]))
      case c2 => simp; omega
      intro A3 c3 w3 ho3 hg3
      have hfa := (HF2.out.more ((Below.refl _ w2).alloc (Nat.le_refl _) (.cells (flatG cellsS [(x, y)]).toArray 83)))
      have hob := fun k hk => (HO2.out.low (i := k) hk).1
      have HF3 := Lib.hid (hfa.kept (B := g) hg3.out hob hpw)
      have HON3 := Lib.hid (show Only p w w3 from by
        have h1 := HON2.out.alloc (.cells (flatG cellsS [(x, y)]).toArray 83)
        have h2 := hg3.out
        refine ⟨h2.os.trans h1.os, h2.tape.trans h1.tape, h2.output.trans h1.output, Nat.le_trans h1.size h2.size, fun j hj hne => ?_⟩
        refine (h2.block j (Nat.lt_of_lt_of_le hj h1.size) fun e => ?_).trans (h1.block j hj hne)
        have := hob j e.symm
        rw [HG.out] at this
        omega)
      clear hfa hob hg3
      clear hLl
      go_wp2_with fail
      go_roundw
      case rel => exact ⟨i + 1, A3, c3, L ++ [(x, y)], by omega, by go_num, rfl, by rw [List.length_append, HLL.out]; rfl, by rw [HL2.out], ho3.out, by rw [HS2.out]; exact HF3.out, HON3.out⟩
      case measure => simp [intOf]; omega
    · obtain rfl : i = N := by omega
      have HF := Lib.hid hfr; clear hfr hLl
      go_wp2_with fail
      go_ret
      exact ⟨A, c, by rw [← HL.out, HLL.out]; rfl, by rw [← HL.out, HLL.out]; exact HO.out, HF.out, HON.out⟩

set_option maxHeartbeats 4000000 in
set_option maxRecDepth 100000 in
theorem fchgs_rd (most : Nat) (hm : most ≤ 4096) (S : Rest) (base p : Nat) (w : World) (hw : FR w base p S) :
    Calls Try.prog 53 #[.pointer (some ⟨p, 0, none⟩), .int .i64 (most : Int), .func (.func 54) #[.pointer (some ⟨p, 0, none⟩)] #[]] w fun x w' => ∃ A c, x = .returned (.slice A (rdList rdChg most S).1.length c) ∧ Own encC 3 89 w' w.heap.size (.slice A (rdList rdChg most S).1.length c) (rdList rdChg most S).1 ∧ FR w' base p (rdList rdChg most S).2 ∧ Only p w w' := by
  obtain ⟨i0, hi, hz0, hz1, hz2⟩ := info_parts info_chg
  have hC := fcount_any most S base p w hw
  have hle := rdCount_le most S
  have hpw := hw.size
  unfold rdList
  simp only
  generalize rdCount most S = r at hC hle ⊢
  obtain ⟨n, S1⟩ := r
  simp only at hC hle ⊢
  obtain ⟨N, rfl⟩ : ∃ N : Nat, n = (N : Int) := ⟨n.toNat, by omega⟩
  rw [Int.toNat_natCast]
  have hN : N ≤ most := by omega
  have HC := Lib.hid hC; clear hC hw hle
  have HI0 := Lib.hid hi; clear hi
  have HZ0 := Lib.hid hz0; clear hz0
  have HZ1 := Lib.hid hz1; clear hz1
  have HZ2 := Lib.hid hz2; clear hz2
  obtain ⟨g, hg⟩ : ∃ g, g = w.heap.size := ⟨_, rfl⟩
  rw [← hg] at hpw ⊢
  have HG := Lib.hid hg; clear hg
  go_enter Try.func53, Try.ntmps53
  go_wp2_with fail
  refine HC.out.mono ?_
  rintro e w1 ⟨rfl, hf, ho⟩
  have HF1 := Lib.hid hf; clear hf
  have HO1 := Lib.hid ho; clear ho
  go_wp2_with fail
  go_loopw [7, 11] (fun sv iv wr => ∃ (i : Nat) (A : Option Addr) (c : Nat) (L : List Chg), i ≤ N ∧ iv = .int .i64 i ∧ sv = .slice A i c ∧ L.length = i ∧ L = repL rdChg i S1 ∧ Own encC 3 89 wr g (.slice A i c) L ∧ FR wr base p (repS rdChg i S1) ∧ Only p w wr) (fun _ iv _ => N - (intOf iv).toNat)
  case atStart => exact ⟨0, _, _, [], Nat.zero_le _, rfl, rfl, rfl, rfl, Own.nil _ _, HF1.out, HO1.out⟩
  case round =>
    obtain ⟨i, A, c, L, hil, rfl, rfl, hLl, hL, hown, hfr, honly⟩ := hrel
    have HO := Lib.hid hown; clear hown
    have HLL := Lib.hid hLl
    have HL := Lib.hid hL; clear hL
    have HON := Lib.hid honly
    have hsz : g ≤ wr.heap.size := by rw [HG.out]; exact honly.size
    clear honly
    by_cases hlt : i < N
    · have hone := fchange_any (repS rdChg i S1) base p wr hfr
      have hL2 : repL rdChg (i + 1) S1 = L ++ [(rdChg (repS rdChg i S1)).1] := by rw [repL, HL.out]
      have hS2 : repS rdChg (i + 1) S1 = (rdChg (repS rdChg i S1)).2 := rfl
      generalize rdChg (repS rdChg i S1) = r at hone hL2 hS2
      obtain ⟨x, S2⟩ := r
      simp only at hone hL2 hS2
      obtain ⟨n, x, y⟩ := x; unfold cval at hone; simp only at hone
      have HONE := Lib.hid hone; clear hone
      have HL2 := Lib.hid hL2; clear hL2
      have HS2 := Lib.hid hS2; clear hS2 hfr
      go_wp2_with fail
      refine HONE.out.mono ?_
      rintro e w2 ⟨rfl, hf2, ho2⟩
      have hsz2 : g ≤ w2.heap.size := Nat.le_trans hsz ho2.size
      have HF2 := Lib.hid hf2; clear hf2
      have HO2 := Lib.hid (HO.out.only ho2 hpw)
      have HON2 := Lib.hid (HON.out.trans ho2); clear ho2
      go_wp2_with (at_builtin; go_must (refine wpList_addG rfl 34 89 40 i0 _ Try.underlying34 HI0.out HZ0.out HZ1.out HZ2.out rfl (by decide) encC_len encC_one _ _ rfl g (.slice A i c) L rfl ?c0 (w2.heap.size + 1) _ [⟨n, x, y⟩] rfl ?c1 (by simp only [List.length_cons, List.length_nil]; unfold maxLen; omega) (by simp only [List.length_cons, List.length_nil]; omega) ?c2 ?_))
      case c0 => exact HO2.out.alloc _
      case c1 => exact Whole.rd (enc := encC) (k := 3) encC_len (l := [⟨n, x, y⟩]) (Whole.fresh w2 89 (flatG encC [⟨n, x, y⟩]))
      case c2 => simp; omega
      intro A3 c3 w3 ho3 hg3
      have hfa := (HF2.out.more ((Below.refl _ w2).alloc (Nat.le_refl _) (.cells (flatG encC [⟨n, x, y⟩]).toArray 89)))
      have hob := fun k hk => (HO2.out.low (i := k) hk).1
      have HF3 := Lib.hid (hfa.kept (B := g) hg3.out hob hpw)
      have HON3 := Lib.hid (show Only p w w3 from by
        have h1 := HON2.out.alloc (.cells (flatG encC [⟨n, x, y⟩]).toArray 89)
        have h2 := hg3.out
        refine ⟨h2.os.trans h1.os, h2.tape.trans h1.tape, h2.output.trans h1.output, Nat.le_trans h1.size h2.size, fun j hj hne => ?_⟩
        refine (h2.block j (Nat.lt_of_lt_of_le hj h1.size) fun e => ?_).trans (h1.block j hj hne)
        have := hob j e.symm
        rw [HG.out] at this
        omega)
      clear hfa hob hg3
      clear hLl
      go_wp2_with fail
      go_roundw
      case rel => exact ⟨i + 1, A3, c3, L ++ [⟨n, x, y⟩], by omega, by go_num, rfl, by rw [List.length_append, HLL.out]; rfl, by rw [HL2.out], ho3.out, by rw [HS2.out]; exact HF3.out, HON3.out⟩
      case measure => simp [intOf]; omega
    · obtain rfl : i = N := by omega
      have HF := Lib.hid hfr; clear hfr hLl
      go_wp2_with fail
      go_ret
      exact ⟨A, c, by rw [← HL.out, HLL.out]; rfl, by rw [← HL.out, HLL.out]; exact HO.out, HF.out, HON.out⟩

set_option maxHeartbeats 4000000 in
set_option maxRecDepth 100000 in
theorem fnums_rd (most : Nat) (hm : most ≤ 4096) (S : Rest) (base p : Nat) (w : World) (hw : FR w base p S) :
    Calls Try.prog 61 #[.pointer (some ⟨p, 0, none⟩), .int .i64 (most : Int), .func (.func 40) #[.pointer (some ⟨p, 0, none⟩)] #[]] w fun x w' => ∃ A c, x = .returned (.slice A (rdList rdN most S).1.length c) ∧ Own encI 1 3 w' w.heap.size (.slice A (rdList rdN most S).1.length c) (rdList rdN most S).1 ∧ FR w' base p (rdList rdN most S).2 ∧ Only p w w' := by
  obtain ⟨i0, hi, hz0, hz1, hz2⟩ := info_parts info_int
  have hC := fcount_any most S base p w hw
  have hle := rdCount_le most S
  have hpw := hw.size
  unfold rdList
  simp only
  generalize rdCount most S = r at hC hle ⊢
  obtain ⟨n, S1⟩ := r
  simp only at hC hle ⊢
  obtain ⟨N, rfl⟩ : ∃ N : Nat, n = (N : Int) := ⟨n.toNat, by omega⟩
  rw [Int.toNat_natCast]
  have hN : N ≤ most := by omega
  have HC := Lib.hid hC; clear hC hw hle
  have HI0 := Lib.hid hi; clear hi
  have HZ0 := Lib.hid hz0; clear hz0
  have HZ1 := Lib.hid hz1; clear hz1
  have HZ2 := Lib.hid hz2; clear hz2
  obtain ⟨g, hg⟩ : ∃ g, g = w.heap.size := ⟨_, rfl⟩
  rw [← hg] at hpw ⊢
  have HG := Lib.hid hg; clear hg
  go_enter Try.func61, Try.ntmps61
  go_wp2_with fail
  refine HC.out.mono ?_
  rintro e w1 ⟨rfl, hf, ho⟩
  have HF1 := Lib.hid hf; clear hf
  have HO1 := Lib.hid ho; clear ho
  go_wp2_with fail
  go_loopw [7, 11] (fun sv iv wr => ∃ (i : Nat) (A : Option Addr) (c : Nat) (L : List Int), i ≤ N ∧ iv = .int .i64 i ∧ sv = .slice A i c ∧ L.length = i ∧ L = repL rdN i S1 ∧ Own encI 1 3 wr g (.slice A i c) L ∧ FR wr base p (repS rdN i S1) ∧ Only p w wr) (fun _ iv _ => N - (intOf iv).toNat)
  case atStart => exact ⟨0, _, _, [], Nat.zero_le _, rfl, rfl, rfl, rfl, Own.nil _ _, HF1.out, HO1.out⟩
  case round =>
    obtain ⟨i, A, c, L, hil, rfl, rfl, hLl, hL, hown, hfr, honly⟩ := hrel
    have HO := Lib.hid hown; clear hown
    have HLL := Lib.hid hLl
    have HL := Lib.hid hL; clear hL
    have HON := Lib.hid honly
    have hsz : g ≤ wr.heap.size := by rw [HG.out]; exact honly.size
    clear honly
    by_cases hlt : i < N
    · have hone := fnum_any (repS rdN i S1) base p wr hfr
      have hL2 : repL rdN (i + 1) S1 = L ++ [(rdN (repS rdN i S1)).1] := by rw [repL, HL.out]
      have hS2 : repS rdN (i + 1) S1 = (rdN (repS rdN i S1)).2 := rfl
      generalize rdN (repS rdN i S1) = r at hone hL2 hS2
      obtain ⟨x, S2⟩ := r
      simp only at hone hL2 hS2
      skip
      have HONE := Lib.hid hone; clear hone
      have HL2 := Lib.hid hL2; clear hL2
      have HS2 := Lib.hid hS2; clear hS2 hfr
      go_wp2_with fail
      refine HONE.out.mono ?_
      rintro e w2 ⟨rfl, hf2, ho2⟩
      have hsz2 : g ≤ w2.heap.size := Nat.le_trans hsz ho2.size
      have HF2 := Lib.hid hf2; clear hf2
      have HO2 := Lib.hid (HO.out.only ho2 hpw)
      have HON2 := Lib.hid (HON.out.trans ho2); clear ho2
      go_wp2_with (at_builtin; go_must (refine wpList_addG rfl 49 3 8 i0 _ Try.underlying49 HI0.out HZ0.out HZ1.out HZ2.out rfl (by decide) encI_len encI_one _ _ rfl g (.slice A i c) L rfl ?c0 (w2.heap.size + 1) _ [x] rfl ?c1 (by simp only [List.length_cons, List.length_nil]; unfold maxLen; omega) (by simp only [List.length_cons, List.length_nil]; omega) ?c2 ?_))
      case c0 => exact HO2.out.alloc _
      case c1 => exact Whole.rd (enc := encI) (k := 1) encI_len (l := [x]) (Whole.fresh w2 3 (flatG encI [x]))
      case c2 => simp; omega
      intro A3 c3 w3 ho3 hg3
      have hfa := (HF2.out.more ((Below.refl _ w2).alloc (Nat.le_refl _) (.cells (flatG encI [x]).toArray 3)))
      have hob := fun k hk => (HO2.out.low (i := k) hk).1
      have HF3 := Lib.hid (hfa.kept (B := g) hg3.out hob hpw)
      have HON3 := Lib.hid (show Only p w w3 from by
        have h1 := HON2.out.alloc (.cells (flatG encI [x]).toArray 3)
        have h2 := hg3.out
        refine ⟨h2.os.trans h1.os, h2.tape.trans h1.tape, h2.output.trans h1.output, Nat.le_trans h1.size h2.size, fun j hj hne => ?_⟩
        refine (h2.block j (Nat.lt_of_lt_of_le hj h1.size) fun e => ?_).trans (h1.block j hj hne)
        have := hob j e.symm
        rw [HG.out] at this
        omega)
      clear hfa hob hg3
      clear hLl
      go_wp2_with fail
      go_roundw
      case rel => exact ⟨i + 1, A3, c3, L ++ [x], by omega, by go_num, rfl, by rw [List.length_append, HLL.out]; rfl, by rw [HL2.out], ho3.out, by rw [HS2.out]; exact HF3.out, HON3.out⟩
      case measure => simp [intOf]; omega
    · obtain rfl : i = N := by omega
      have HF := Lib.hid hfr; clear hfr hLl
      go_wp2_with fail
      go_ret
      exact ⟨A, c, by rw [← HL.out, HLL.out]; rfl, by rw [← HL.out, HLL.out]; exact HO.out, HF.out, HON.out⟩
end Go.Proofs.Ytiijcikdlemndaa
