/- What the reference builds of the ends: the fewest spans of some keys. -/
import Derived.Test.YtdkdolcocblhkaaEndsAll
import Derived.Test.YtdkdolcocblhkaaEqual
import Derived.BigQuiet
import Derived.Deep.QuietTactic
namespace Go.Proofs.Ytdkdolcocblhkaa
open Go.RowKit
attribute [local go_sem] less_eq same_eq le_eq ge_eq gt_eq

theorem cellsS_len (x : K × K) : (cellsS x).length = 2 := rfl
theorem cellsS_one (x : K × K) : ∀ u ∈ cellsS x, u.oneCell' = true := by intro u hu; simp [cellsS] at hu; rcases hu with rfl | rfl <;> rfl
theorem RdS.gen {w : World} {B : Nat} {v : Value} {l : List (K × K)} (h : RdS w B v l) : Rd cellsS 2 w B v l := by
  obtain ⟨A, c, hv, hc, hi⟩ := h
  refine ⟨A, c, hv, hc, fun i hl => ?_⟩
  obtain ⟨b, o, hA, hB, h1, h2⟩ := hi i l[i] (List.getElem?_eq_getElem hl)
  refine ⟨b, o, hA, hB, fun j u hu => ?_⟩
  match j, hu with
  | 0, hu => simp [cellsS] at hu; subst hu; exact h1
  | 1, hu => simp [cellsS] at hu; subst hu; exact h2

def bstep (hv gn : List (K × K)) (out : List (K × K)) (a b : K) : List (K × K) :=
  if (hv.any fun s => hasB s a) = false ∨ (gn.any fun s => hasB s a) = true then out else
    match out.getLast? with
    | none => out ++ [(a, b)]
    | some l => if l.2 = a then out.dropLast ++ [(l.1, b)] else out ++ [(a, b)]
def bgo (hv gn : List (K × K)) : List (K × K) → List K → List (K × K)
  | out, a :: b :: r => bgo hv gn (bstep hv gn out a b) (b :: r)
  | out, [_] => out
  | out, [] => out
theorem bstep_out (hv gn out : List (K × K)) (a b : K) (h : (hv.any fun s => hasB s a) = false ∨ (gn.any fun s => hasB s a) = true) : bstep hv gn out a b = out := by rw [bstep, if_pos h]
theorem bstep_new (hv gn : List (K × K)) (a b : K) (h1 : (hv.any fun s => hasB s a) = true) (h2 : (gn.any fun s => hasB s a) = false) : bstep hv gn [] a b = [(a, b)] := by simp [bstep, h1, h2]
theorem bstep_snoc (hv gn p : List (K × K)) (l : K × K) (a b : K) (h1 : (hv.any fun s => hasB s a) = true) (h2 : (gn.any fun s => hasB s a) = false) : bstep hv gn (p ++ [l]) a b = if l.2 = a then p ++ [(l.1, b)] else p ++ [l] ++ [(a, b)] := by
  simp [bstep, h1, h2]

theorem RdS.one (w : World) (s : K × K) : Rd cellsS 2 (w.alloc (.cells #[.string s.1, .string s.2] 48)) (w.heap.size + 1) (.slice (some ⟨w.heap.size, 0, none⟩) 1 1) [s] := by
  refine ⟨_, 1, rfl, Nat.le_refl _, fun i hi => ⟨w.heap.size, 0, rfl, by omega, fun j u hu => ?_⟩⟩
  obtain rfl : i = 0 := by simpa using hi
  rw [World.cell?_alloc_at _ _ _ _ rfl]
  match j, hu with
  | 0, hu => simpa [cellsS] using hu
  | 1, hu => simpa [cellsS] using hu
/-- two ends that stand in memory, in whatever world the statement comes to -/
def HeldB (z : World) (b o1 o2 : Nat) (x y : K) (W : World) : Prop := W.cell? ⟨b, o1, none⟩ = some (.string x) ∧ W.cell? ⟨b, o2, none⟩ = some (.string y) ∧ Below z.heap.size z W ∧ b < z.heap.size
theorem HeldB.alloc {z : World} {b o1 o2 : Nat} {x y : K} {W : World} (h : HeldB z b o1 o2 x y W) (o : Obj) : HeldB z b o1 o2 x y (W.alloc o) :=
  ⟨(World.cell?_alloc_past _ _ _ (Nat.lt_of_lt_of_le h.2.2.2 h.2.2.1.size)).trans h.1, (World.cell?_alloc_past _ _ _ (Nat.lt_of_lt_of_le h.2.2.2 h.2.2.1.size)).trans h.2.1, h.2.2.1.alloc h.2.2.1.size _, h.2.2.2⟩
theorem HeldB.grown {z : World} {b o1 o2 : Nat} {x y : K} {W W' : World} {row : Option Nat} (h : HeldB z b o1 o2 x y W) (hg : W.grownBy W' row) (hr : ∀ k, row = some k → z.heap.size ≤ k) : HeldB z b o1 o2 x y W' := by
  have hb := h.2.2.1.grown hg h.2.2.1.size hr
  have hs : W'.heap[b]? = W.heap[b]? := (hb.block b h.2.2.2).trans (h.2.2.1.block b h.2.2.2).symm
  exact ⟨(World.cell?_of_block (a := ⟨b, o1, none⟩) hs).trans h.1, (World.cell?_of_block (a := ⟨b, o2, none⟩) hs).trans h.2.1, hb, h.2.2.2⟩

set_option maxHeartbeats 4000000 in
set_option maxRecDepth 100000 in
theorem build_any (hv gn : List (K × K)) (va vb : Value) (w : World) (h1 : RdS w w.heap.size va hv) (h2 : RdS w w.heap.size vb gn) (hl : hv.length + gn.length ≤ 100) : Calls Try.prog 52 #[va, vb] w fun e w' =>
    ∃ v', e = .returned v' ∧ OwnS w' w.heap.size v' (bgo hv gn [] ((hv ++ gn).foldl ends2 [])) ∧ Below w.heap.size w w' ∧ (bgo hv gn [] ((hv ++ gn).foldl ends2 [])).length ≤ 200 := by
  obtain ⟨i0, hi0, hz0, hz1, hz2⟩ := info_parts info_spans
  obtain ⟨R, hR⟩ : ∃ R, R = bgo hv gn [] ((hv ++ gn).foldl ends2 []) := ⟨_, rfl⟩
  rw [← hR]
  have HR := Lib.hid hR; clear hR
  have H1 := Lib.hid h1; clear h1
  have H2 := Lib.hid h2; clear h2
  have HI0 := Lib.hid hi0; clear hi0
  have HZ0 := Lib.hid hz0; clear hz0
  have HZ1 := Lib.hid hz1; clear hz1
  have HZ2 := Lib.hid hz2; clear hz2
  go_enter Try.func52, Try.ntmps52
  go_wp2_with (at_builtin; go_must (refine wpList_addAny (enc := cellsS) (k := 2) 36 48 32 i0 _ Try.underlying36 HI0.out HZ0.out HZ1.out HZ2.out rfl (by decide) cellsS_len cellsS_one rfl _ _ rfl w.heap.size (.slice (some ⟨w.heap.size, 0, none⟩) 0 0) [] rfl ?_ w.heap.size va hv rfl ?_ (by simp; unfold maxLen; omega) (by simp; omega) ?_ ?_))
  · exact Own.empty _ _ (Nat.le_refl _)
  · exact (H1.out.gen).below ((Below.refl _ _).alloc (Nat.le_refl _) _) (Nat.le_refl _)
  · simp
  intro A1 c1 w1 ho1 hg1
  have hb1 : Below w.heap.size w w1 := (Own.empty (enc := cellsS) (k := 2) (e := 48) w w.heap.size (Nat.le_refl _)).grown ((Below.refl _ w).alloc (Nat.le_refl _) _) hg1 (Nat.le_refl _) (by simp)
  have hs1 := hb1.size
  have HO1 := Lib.hid ho1; clear ho1
  have HB1 := Lib.hid hb1; clear hb1 hg1
  go_wp2_with (at_builtin; go_must (refine wpList_addAny (enc := cellsS) (k := 2) 36 48 32 i0 _ Try.underlying36 HI0.out HZ0.out HZ1.out HZ2.out rfl (by decide) cellsS_len cellsS_one rfl _ _ rfl w.heap.size (.slice A1 hv.length c1) hv rfl ?_ w.heap.size vb gn rfl ?_ (by unfold maxLen; omega) (by omega) ?_ ?_))
  · exact HO1.out
  · exact (H2.out.gen).below HB1.out (Nat.le_refl _)
  · exact hs1
  intro A2 c2 w2 ho2 hg2
  have hb2 : Below w.heap.size w w2 := HO1.out.grown HB1.out hg2 (Nat.le_refl _) hs1
  have hs2 := hb2.size
  have hr2 : RdS w2 w2.heap.size (.slice A2 (hv.length + gn.length) c2) (hv ++ gn) := OwnS.rd (base := w.heap.size) ho2
  have hends := ends_any (hv ++ gn) _ w2 hr2 (by simp; omega)
  have HE := Lib.hid hends; clear hends hr2 ho2
  have HB2 := Lib.hid hb2; clear hb2 hg2
  go_wp2_with fail
  refine HE.out.mono ?_
  obtain ⟨E, hE⟩ : ∃ E, E = (hv ++ gn).foldl ends2 [] := ⟨_, rfl⟩
  rw [← hE]
  have HEE := Lib.hid hE; clear hE
  rintro e w3 ⟨A3, c3, rfl, hr3, hb3, hel⟩
  have hbw : Below w.heap.size w w3 := HB2.out.trans (hb3.mono hs2)
  have hs3 := hb3.size
  have HR3 := Lib.hid hr3; clear hr3 hb3
  have HBW := Lib.hid hbw; clear hbw
  have ho3 : OwnS (w3.alloc (.cells #[] 48)) w3.heap.size (.slice (some ⟨w3.heap.size, 0, none⟩) 0 0) [] := Own.empty _ _ (Nat.le_refl _)
  have hb3 : Below w3.heap.size w3 (w3.alloc (.cells #[] 48)) := (Below.refl _ _).alloc (Nat.le_refl _) _
  have HO3 := Lib.hid ho3; clear ho3
  have HB3 := Lib.hid hb3; clear hb3
  have heq := eql_span
  have hgd := span_guard
  go_wp2_with fail
  go_loopw [6, 7] (fun ov i wr => ∃ (j : Nat) (out : List (K × K)) (A : Option Addr) (c : Nat), 1 ≤ j ∧ (j ≤ E.length ∨ j = 1) ∧ i = .int .i64 j ∧ ov = .slice A out.length c ∧ Below w3.heap.size w3 wr ∧ OwnS wr w3.heap.size (.slice A out.length c) out ∧ R = bgo hv gn out (E.drop (j - 1)) ∧ out.length ≤ j) (fun _ i _ => E.length - (intOf i).toNat)
  case atStart => exact ⟨1, [], _, _, Nat.le_refl _, .inr rfl, rfl, rfl, HB3.out, HO3.out, by rw [HR.out, HEE.out]; rfl, by simp⟩
  case round =>
    obtain ⟨j, out, A, c, hj1, hj, rfl, rfl, hb, ho, hRR, hlen⟩ := hrel
    have HRR := Lib.hid hRR; clear hRR
    have hz := hb.size
    have hwz := HBW.out.size
    have HB := Lib.hid hb; clear hb
    have HO := Lib.hid ho; clear ho
    by_cases hlt : j < E.length
    · obtain ⟨k, rfl⟩ : ∃ k, j = k + 1 := ⟨j - 1, by omega⟩
      have hdrop : E.drop k = E[k] :: E[k + 1] :: E.drop (k + 2) := by rw [List.drop_eq_getElem_cons (by omega), List.drop_eq_getElem_cons hlt]
      have hdrop' : E.drop (k + 1) = E[k + 1] :: E.drop (k + 2) := List.drop_eq_getElem_cons hlt
      have hR2 : R = bgo hv gn (bstep hv gn out E[k] E[k + 1]) (E.drop (k + 1)) := by rw [HRR.out, Nat.add_sub_cancel, hdrop, hdrop', bgo]
      have HR2 := Lib.hid hR2; clear hR2 hdrop hdrop'
      obtain ⟨eb, eo, rfl, heb, ec0⟩ := HR3.out.cell (show k < E.length by omega)
      obtain ⟨eb', eo', hee, _, ec1⟩ := HR3.out.cell hlt
      simp only [Option.some.injEq, Addr.mk.injEq, and_true] at hee
      obtain ⟨rfl, rfl⟩ := hee
      have d0 := (HB.out.cell (p := ⟨eb, _, none⟩) heb).trans ec0
      have d1 := (HB.out.cell (p := ⟨eb, _, none⟩) heb).trans ec1
      clear ec0 ec1
      have hbr : Below w.heap.size w wr := HBW.out.trans (HB.out.mono hwz)
      have hin := in_any hv va E[k] wr ((H1.out.below hbr (Nat.le_refl _)).mono hbr.size) (by omega)
      have HIN := Lib.hid hin; clear hin
      have HBR := Lib.hid hbr; clear hbr
      cases hx : (hv.any fun s => hasB s E[k])
      · have hst := bstep_out hv gn out E[k] E[k + 1] (.inl hx)
        have HS := Lib.hid hst; clear hst
        have HIN2 := HIN.out
        rw [hx] at HIN2
        have HI2 := Lib.hid HIN2; clear HIN2 hx HIN
        go_wp2_with fail
        refine HI2.out.mono ?_
        rintro e w4 ⟨rfl, hb4⟩
        have HB4 := Lib.hid hb4; clear hb4
        go_wp2_with fail
        go_roundw
        case rel => exact ⟨k + 2, out, A, c, by omega, .inl (by omega), by go_num, rfl, HB.out.trans (HB4.out.mono hz), HO.out.below HB4.out (Nat.le_refl _), by rw [HR2.out, HS.out]; rfl, by omega⟩
        case measure => simp [intOf]; omega
      · have HIN2 := HIN.out
        rw [hx] at HIN2
        have HI2 := Lib.hid HIN2; clear HIN2 HIN
        cases hy : (gn.any fun s => hasB s E[k])
        · have HXX := Lib.hid hx; clear hx
          have HYY := Lib.hid hy; clear hy
          go_wp2_with fail
          refine HI2.out.mono ?_
          rintro e w4 ⟨rfl, hb4⟩
          have k0 := (hb4.cell (p := ⟨eb, eo + k, none⟩) (by show eb < wr.heap.size; omega)).trans d0
          have k1 := (hb4.cell (p := ⟨eb, eo + (k + 1), none⟩) (by show eb < wr.heap.size; omega)).trans d1
          clear d0 d1
          have hb4w : Below w.heap.size w w4 := HBR.out.trans (hb4.mono HBR.out.size)
          have hg := in_any gn vb E[k] w4 ((H2.out.below hb4w (Nat.le_refl _)).mono hb4w.size) (by omega)
          rw [HYY.out] at hg
          have HG2 := Lib.hid hg; clear hg hb4w
          have HB4 := Lib.hid hb4; clear hb4
          go_wp2_with fail
          refine HG2.out.mono ?_
          rintro e w5 ⟨rfl, hb5⟩
          have e0 := (hb5.cell (p := ⟨eb, eo + k, none⟩) (by show eb < w4.heap.size; have := HB4.out.size; omega)).trans k0
          have e1 := (hb5.cell (p := ⟨eb, eo + (k + 1), none⟩) (by show eb < w4.heap.size; have := HB4.out.size; omega)).trans k1
          clear k0 k1
          have hz4 := HB4.out.size
          have hz5 := hb5.size
          have ho5 : OwnS w5 w3.heap.size (.slice A out.length c) out := (HO.out.below HB4.out (Nat.le_refl _)).below hb5 (Nat.le_refl _)
          have hb35 : Below w3.heap.size w3 w5 := (HB.out.trans (HB4.out.mono hz)).trans (hb5.mono (Nat.le_trans hz hz4))
          have HO5 := Lib.hid ho5; clear ho5
          have HB35 := Lib.hid hb35; clear hb35 hb5
          rcases List.eq_nil_or_concat out with rfl | ⟨p, l, rfl⟩
          · have hst := bstep_new hv gn E[k] E[k + 1] HXX.out HYY.out
            have HS := Lib.hid hst; clear hst
            go_wp2_with fail
            go_quiet (fail)
            go_wp2_with fail
            have wr1 : IntKind.i64.wrap (k : Int) = (k : Int) := by rw [IntKind.wrap_i64]; omega
            have wr2 : (0 : Int) ≤ (k : Int) := by omega
            have wr3 : (k : Int) < (E.length : Int) := by omega
            have wr4 : (k : Int) + 1 < (E.length : Int) := by omega
            have wr5 : (0 : Int) ≤ (k : Int) + 1 := by omega
            have wr6 : ((k : Int) + 1).toNat = k + 1 := by omega
            have hold : HeldB w3 eb (eo + k) (eo + (k + 1)) E[k] E[k + 1] (w5.drewN nq).drew := ⟨e0, e1, ⟨HB35.out.os, HB35.out.tape, HB35.out.output, HB35.out.size, HB35.out.block⟩, heb⟩
            have ho6 : OwnS (w5.drewN nq).drew w3.heap.size (.slice A 0 c) [] := HO5.out
            have HO6 := Lib.hid ho6; clear ho6
            refine wp_region_plan (S := HeldB w3 eb (eo + k) (eo + (k + 1)) E[k] E[k + 1]) [(true, 0), (true, 1), (true, 2), (true, 3), (true, 4), (true, 5), (true, 6), (true, 7), (true, 8), (true, 9), (true, 10), (false, 11), (false, 12), (true, 13)] (by kernel_rfl) (by kernel_rfl) (fun _ _ d _ _ h => by cases d <;> exact h) hold ?_
            repeat (refine Plan.take (v := ?_) rfl rfl ?_ ?_; rotate_left; (focus (intro W hW; obtain ⟨c1, c2, _, _⟩ := hW; go_simp; (try with_reducible rfl); done)); (try simp only [Act.put, List.setIfInBounds_toArray, List.set_cons_zero, List.set_cons_succ]))
            refine Plan.step rfl rfl (fun Kk hK => ?_)
            go_simp
            refine hK.out _ _ (hold.alloc _) ?_
            clear hK Kk
            refine Plan.step rfl rfl (fun Kk hK => ?_)
            refine wp_addAny (enc := cellsS) (k := 2) 36 48 32 i0 _ Try.underlying36 HI0.out HZ0.out HZ1.out HZ2.out rfl (by decide) cellsS_len cellsS_one _ _ rfl w3.heap.size (.slice A 0 c) [] rfl (Own.alloc HO6.out _) _ _ [(E[k], E[k + 1])] rfl (RdS.one _ (E[k], E[k + 1])) (by simp only [List.length_append, List.length_cons, List.length_nil]; unfold maxLen; omega) (by simp only [List.length_append, List.length_cons, List.length_nil]; omega) (by simp; have := HB35.out.size; omega) ?_
            intro A6 c6 w6 ho6 hg6
            have hlow : ∀ i, (Value.slice A 0 c).ownBlock = some i → w3.heap.size ≤ i := fun i hi => (HO6.out.lt i hi).1
            have hold2 := (hold.alloc (.cells #[.string E[k], .string E[k + 1]] 48)).grown hg6 hlow
            (try simp only [Act.put, List.setIfInBounds_toArray, List.set_cons_zero, List.set_cons_succ])
            refine hK.out _ _ hold2 ?_
            clear hK Kk hold
            have HO7 := Lib.hid ho6; clear ho6 hg6 hlow
            have hold := hold2
            repeat (refine Plan.take (v := ?_) rfl rfl ?_ ?_; rotate_left; (focus (intro W hW; obtain ⟨c1, c2, _, _⟩ := hW; go_simp; (try with_reducible rfl); done)); (try simp only [Act.put, List.setIfInBounds_toArray, List.set_cons_zero, List.set_cons_succ]))
            simp only [Plan]
            go_wp2_with fail
            go_roundw
            case rel => exact ⟨k + 2, [(E[k], E[k + 1])], A6, c6, by omega, .inl (by omega), by go_num, rfl, hold.2.2.1, HO7.out, by rw [HR2.out, HS.out]; rfl, by simp⟩
            case measure => simp [intOf]; omega
          · rw [List.concat_eq_append] at *
            have hlen2 : p.length ≤ k := by simpa using hlen
            have hfm : ∃ g, A = some ⟨g, 0, none⟩ ∧ w3.heap.size ≤ g ∧ g < w5.heap.size ∧ p.length + 1 ≤ c := by
              rcases HO5.out.form with ⟨_, h0⟩ | ⟨g, cap, hv, q1, q2, q3⟩
              · simp at h0
              · injection hv with e1 e2 e3
                subst e3
                exact ⟨g, e1, q1, q2, by simpa using q3⟩
            obtain ⟨g, rfl, hg0, hgl, hgc⟩ := hfm
            have ho5 := HO5.out
            unfold OwnS at ho5
            have hl2 : w5.cell? ⟨g, p.length * 2 + 1, none⟩ = some (.string l.2) := by
              rw [ho5.cellAt _ (by simp; omega), flat_append, List.getElem?_append_right (by rw [flat_length]; omega), flat_length, Nat.add_sub_cancel_left]; rfl
            have hfg : w5.frozen? ⟨g, p.length * 2 + 1, none⟩ = false := ho5.frozenAt _
            clear ho5
            have hpl : p.length ≤ 1000 := by simp at hlen; omega
            have hcs := bstep_snoc hv gn p l E[k] E[k + 1] HXX.out HYY.out
            obtain ⟨l1, l2⟩ := l
            simp only at hcs hl2
            by_cases hl : l2 = E[k]
            · rw [if_pos hl] at hcs
              have HS := Lib.hid hcs; clear hcs
              rw [hl] at hl2
              clear hl
              go_wp2_with fail
              go_quiet (fail)
              go_wp2_with fail
              go_roundw
              case rel =>
                have hset := (HO5.out.drewN nq).setLast E[k + 1]
                refine ⟨k + 2, p ++ [(l1, E[k + 1])], some ⟨g, 0, none⟩, c, by omega, .inl (by omega), by go_num, by simp, ?_, by simpa using hset, by rw [HR2.out, HS.out]; rfl, by simp; omega⟩
                have hbd : Below w3.heap.size w3 (w5.drewN nq) := ⟨HB35.out.os, HB35.out.tape, HB35.out.output, HB35.out.size, HB35.out.block⟩
                exact hbd.setCell (p := ⟨g, p.length * 2 + 1, none⟩) hg0 _
              case measure => simp [intOf]; omega
            · rw [if_neg hl] at hcs
              have HS := Lib.hid hcs; clear hcs
              go_wp2_with fail
              go_quiet (fail)
              go_wp2_with fail
              have wr1 : IntKind.i64.wrap (k : Int) = (k : Int) := by rw [IntKind.wrap_i64]; omega
              have wr2 : (0 : Int) ≤ (k : Int) := by omega
              have wr3 : (k : Int) < (E.length : Int) := by omega
              have wr4 : (k : Int) + 1 < (E.length : Int) := by omega
              have wr5 : (0 : Int) ≤ (k : Int) + 1 := by omega
              have wr6 : ((k : Int) + 1).toNat = k + 1 := by omega
              have hold : HeldB w3 eb (eo + k) (eo + (k + 1)) E[k] E[k + 1] (w5.drewN nq).drew := ⟨e0, e1, ⟨HB35.out.os, HB35.out.tape, HB35.out.output, HB35.out.size, HB35.out.block⟩, heb⟩
              have ho6 : OwnS (w5.drewN nq).drew w3.heap.size (.slice (some ⟨g, 0, none⟩) (p.length + 1) c) (p ++ [(l1, l2)]) := (show OwnS w5 w3.heap.size (.slice (some ⟨g, 0, none⟩) (p.length + 1) c) (p ++ [(l1, l2)]) by simpa using HO5.out)
              have HO6 := Lib.hid ho6; clear ho6
              refine wp_region_plan (S := HeldB w3 eb (eo + k) (eo + (k + 1)) E[k] E[k + 1]) [(true, 0), (true, 1), (true, 2), (true, 3), (true, 4), (true, 5), (true, 6), (true, 7), (true, 8), (true, 9), (true, 10), (false, 11), (false, 12), (true, 13)] (by kernel_rfl) (by kernel_rfl) (fun _ _ d _ _ h => by cases d <;> exact h) hold ?_
              repeat (refine Plan.take (v := ?_) rfl rfl ?_ ?_; rotate_left; (focus (intro W hW; obtain ⟨c1, c2, _, _⟩ := hW; go_simp; (try with_reducible rfl); done)); (try simp only [Act.put, List.setIfInBounds_toArray, List.set_cons_zero, List.set_cons_succ]))
              refine Plan.step rfl rfl (fun Kk hK => ?_)
              go_simp
              refine hK.out _ _ (hold.alloc _) ?_
              clear hK Kk
              refine Plan.step rfl rfl (fun Kk hK => ?_)
              refine wp_addAny (enc := cellsS) (k := 2) 36 48 32 i0 _ Try.underlying36 HI0.out HZ0.out HZ1.out HZ2.out rfl (by decide) cellsS_len cellsS_one _ _ rfl w3.heap.size (.slice (some ⟨g, 0, none⟩) (p.length + 1) c) (p ++ [(l1, l2)]) rfl (Own.alloc HO6.out _) _ _ [(E[k], E[k + 1])] rfl (RdS.one _ (E[k], E[k + 1])) (by simp only [List.length_append, List.length_cons, List.length_nil]; unfold maxLen; omega) (by simp only [List.length_append, List.length_cons, List.length_nil]; omega) (by simp; have := HB35.out.size; omega) ?_
              intro A6 c6 w6 ho6 hg6
              have hlow : ∀ i, (Value.slice (some ⟨g, 0, none⟩) (p.length + 1) c).ownBlock = some i → w3.heap.size ≤ i := fun i hi => (HO6.out.lt i hi).1
              have hold2 := (hold.alloc (.cells #[.string E[k], .string E[k + 1]] 48)).grown hg6 hlow
              (try simp only [Act.put, List.setIfInBounds_toArray, List.set_cons_zero, List.set_cons_succ])
              refine hK.out _ _ hold2 ?_
              clear hK Kk hold
              have HO7 := Lib.hid ho6; clear ho6 hg6 hlow
              have hold := hold2
              repeat (refine Plan.take (v := ?_) rfl rfl ?_ ?_; rotate_left; (focus (intro W hW; obtain ⟨c1, c2, _, _⟩ := hW; go_simp; (try with_reducible rfl); done)); (try simp only [Act.put, List.setIfInBounds_toArray, List.set_cons_zero, List.set_cons_succ]))
              simp only [Plan]
              go_wp2_with fail
              go_roundw
              case rel => exact ⟨k + 2, p ++ [(l1, l2)] ++ [(E[k], E[k + 1])], A6, c6, by omega, .inl (by omega), by go_num, by simp, hold.2.2.1, (by have h : OwnS w6 w3.heap.size _ _ := HO7.out; simpa using h), by rw [HR2.out, HS.out]; rfl, by simp; omega⟩
              case measure => simp [intOf]; omega
        · have hst := bstep_out hv gn out E[k] E[k + 1] (.inr hy)
          have HS := Lib.hid hst; clear hst
          have HYY := Lib.hid hy; clear hy hx
          go_wp2_with fail
          refine HI2.out.mono ?_
          rintro e w4 ⟨rfl, hb4⟩
          have k0 := (hb4.cell (p := ⟨eb, eo + k, none⟩) (by show eb < wr.heap.size; omega)).trans d0
          have k1 := (hb4.cell (p := ⟨eb, eo + (k + 1), none⟩) (by show eb < wr.heap.size; omega)).trans d1
          clear d0 d1
          have hb4w : Below w.heap.size w w4 := HBR.out.trans (hb4.mono HBR.out.size)
          have hg := in_any gn vb E[k] w4 ((H2.out.below hb4w (Nat.le_refl _)).mono hb4w.size) (by omega)
          rw [HYY.out] at hg
          have HG2 := Lib.hid hg; clear hg hb4w
          have HB4 := Lib.hid hb4; clear hb4
          go_wp2_with fail
          refine HG2.out.mono ?_
          rintro e w5 ⟨rfl, hb5⟩
          have HB5 := Lib.hid hb5; clear hb5
          go_wp2_with fail
          go_roundw
          case rel => exact ⟨k + 2, out, A, c, by omega, .inl (by omega), by go_num, rfl, (HB.out.trans (HB4.out.mono hz)).trans (HB5.out.mono (Nat.le_trans hz HB4.out.size)), (HO.out.below HB4.out (Nat.le_refl _)).below HB5.out (Nat.le_refl _), by rw [HR2.out, HS.out]; rfl, by omega⟩
          case measure => simp [intOf]; omega
    · go_wp2_with fail
      have hE2 : E.drop (j - 1) = [] ∨ ∃ x, E.drop (j - 1) = [x] := by
        rcases hd : E.drop (j - 1) with _ | ⟨x, r⟩
        · exact .inl rfl
        · have hl2 := congrArg List.length hd
          rw [List.length_drop, List.length_cons] at hl2
          have : r = [] := List.eq_nil_of_length_eq_zero (by omega)
          exact .inr ⟨x, by rw [this]⟩
      have hfin : R = out := by
        rw [HRR.out]
        rcases hE2 with h0 | ⟨x, h0⟩ <;> rw [h0] <;> rfl
      subst hfin
      refine bodyPost_ret (v := .slice A R.length c) ?_ rfl ⟨_, rfl, HO.out.lower hwz, HBW.out.trans (HB.out.mono hwz), by omega⟩
      simp [results, Try.results52, go_sem]
end Go.Proofs.Ytdkdolcocblhkaa
