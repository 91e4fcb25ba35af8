/- What the reference builds of the ends: the fewest spans of some keys. What the reference builds are the fewest spans of just those keys: plain. Same, Join and Without of the reference. A region whose operations may come in more than one order, walked in one order that is laid down beforehand; whatever is taken yields the same in every world that keeps what stands now. (For seats without pairs.) Changes: their cells, slices of them; what the reference's Check, All and Span answer. What the reference's Span, All and Sound answer. -/
import Derived.Test.YtgppgecglkellaaGreatFab
import Derived.BigQuiet
import Derived.Deep.QuietTactic
namespace Go.Proofs.YtgppgecglkellaaGreat
open Go.RowKit
attribute [local go_sem] less_eq same_eq le_eq ge_eq gt_eq

theorem cellsS_len (x : K × K) : (cellsS x).length = 2 := rfl
theorem cellsS_one (x : K × K) : ∀ u ∈ cellsS x, u.oneCell' = true := by intro u hu; simp [cellsS] at hu; rcases hu with rfl | rfl <;> rfl
theorem RdS.gen {w : World} {B : Nat} {v : Value} {l : List (K × K)} (h : RdS w B v l) : Rd cellsS 2 w B v l := by
  obtain ⟨A, c, hv, hc, hi⟩ := h
  refine ⟨A, c, hv, hc, fun i hl => ?_⟩
  obtain ⟨b, o, hA, hB, h1, h2⟩ := hi i l[i] (List.getElem?_eq_getElem hl)
  refine ⟨b, o, hA, hB, fun j u hu => ?_⟩
  match j, hu with
  | 0, hu => simp [cellsS] at hu; subst hu; exact h1
  | 1, hu => simp [cellsS] at hu; subst hu; exact h2

def bstep (hv gn : List (K × K)) (out : List (K × K)) (a b : K) : List (K × K) :=
  if (hv.any fun s => hasB s a) = false ∨ (gn.any fun s => hasB s a) = true then out else
    match out.getLast? with
    | none => out ++ [(a, b)]
    | some l => if l.2 = a then out.dropLast ++ [(l.1, b)] else out ++ [(a, b)]
def bgo (hv gn : List (K × K)) : List (K × K) → List K → List (K × K)
  | out, a :: b :: r => bgo hv gn (bstep hv gn out a b) (b :: r)
  | out, [_] => out
  | out, [] => out
theorem bstep_out (hv gn out : List (K × K)) (a b : K) (h : (hv.any fun s => hasB s a) = false ∨ (gn.any fun s => hasB s a) = true) : bstep hv gn out a b = out := by rw [bstep, if_pos h]
theorem bstep_new (hv gn : List (K × K)) (a b : K) (h1 : (hv.any fun s => hasB s a) = true) (h2 : (gn.any fun s => hasB s a) = false) : bstep hv gn [] a b = [(a, b)] := by simp [bstep, h1, h2]
theorem bstep_snoc (hv gn p : List (K × K)) (l : K × K) (a b : K) (h1 : (hv.any fun s => hasB s a) = true) (h2 : (gn.any fun s => hasB s a) = false) : bstep hv gn (p ++ [l]) a b = if l.2 = a then p ++ [(l.1, b)] else p ++ [l] ++ [(a, b)] := by
  simp [bstep, h1, h2]

theorem RdS.one (w : World) (s : K × K) : Rd cellsS 2 (w.alloc (.cells #[.string s.1, .string s.2] 52)) (w.heap.size + 1) (.slice (some ⟨w.heap.size, 0, none⟩) 1 1) [s] := by
  refine ⟨_, 1, rfl, Nat.le_refl _, fun i hi => ⟨w.heap.size, 0, rfl, by omega, fun j u hu => ?_⟩⟩
  obtain rfl : i = 0 := by simpa using hi
  rw [World.cell?_alloc_at _ _ _ _ rfl]
  match j, hu with
  | 0, hu => simpa [cellsS] using hu
  | 1, hu => simpa [cellsS] using hu
/-- two ends that stand in memory, in whatever world the statement comes to -/
def HeldB (z : World) (b o1 o2 : Nat) (x y : K) (W : World) : Prop := W.cell? ⟨b, o1, none⟩ = some (.string x) ∧ W.cell? ⟨b, o2, none⟩ = some (.string y) ∧ Below z.heap.size z W ∧ b < z.heap.size
theorem HeldB.alloc {z : World} {b o1 o2 : Nat} {x y : K} {W : World} (h : HeldB z b o1 o2 x y W) (o : Obj) : HeldB z b o1 o2 x y (W.alloc o) :=
  ⟨(World.cell?_alloc_past _ _ _ (Nat.lt_of_lt_of_le h.2.2.2 h.2.2.1.size)).trans h.1, (World.cell?_alloc_past _ _ _ (Nat.lt_of_lt_of_le h.2.2.2 h.2.2.1.size)).trans h.2.1, h.2.2.1.alloc h.2.2.1.size _, h.2.2.2⟩
theorem HeldB.grown {z : World} {b o1 o2 : Nat} {x y : K} {W W' : World} {row : Option Nat} (h : HeldB z b o1 o2 x y W) (hg : W.grownBy W' row) (hr : ∀ k, row = some k → z.heap.size ≤ k) : HeldB z b o1 o2 x y W' := by
  have hb := h.2.2.1.grown hg h.2.2.1.size hr
  have hs : W'.heap[b]? = W.heap[b]? := (hb.block b h.2.2.2).trans (h.2.2.1.block b h.2.2.2).symm
  exact ⟨(World.cell?_of_block (a := ⟨b, o1, none⟩) hs).trans h.1, (World.cell?_of_block (a := ⟨b, o2, none⟩) hs).trans h.2.1, hb, h.2.2.2⟩

set_option maxHeartbeats 4000000 in
set_option maxRecDepth 100000 in
theorem build_any (hv gn : List (K × K)) (va vb : Value) (w : World) (h1 : RdS w w.heap.size va hv) (h2 : RdS w w.heap.size vb gn) (hl : hv.length + gn.length ≤ 100000) : Calls Tryz.prog 55 #[va, vb] w fun e w' =>
    ∃ v', e = .returned v' ∧ OwnS w' w.heap.size v' (bgo hv gn [] ((hv ++ gn).foldl ends2 [])) ∧ Below w.heap.size w w' ∧ (bgo hv gn [] ((hv ++ gn).foldl ends2 [])).length ≤ 200000 := by
  obtain ⟨i0, hi0, hz0, hz1, hz2⟩ := info_parts info_spans
  obtain ⟨R, hR⟩ : ∃ R, R = bgo hv gn [] ((hv ++ gn).foldl ends2 []) := ⟨_, rfl⟩
  rw [← hR]
  have HR := Lib.hid hR; clear hR
  have H1 := Lib.hid h1; clear h1
  have H2 := Lib.hid h2; clear h2
  have HI0 := Lib.hid hi0; clear hi0
  have HZ0 := Lib.hid hz0; clear hz0
  have HZ1 := Lib.hid hz1; clear hz1
  have HZ2 := Lib.hid hz2; clear hz2
  go_enter Tryz.func55, Tryz.ntmps55
  go_wp2_with (at_builtin; go_must (refine wpList_addAny (enc := cellsS) (k := 2) 44 52 32 i0 _ Tryz.underlying44 HI0.out HZ0.out HZ1.out HZ2.out rfl (by decide) cellsS_len cellsS_one rfl _ _ rfl w.heap.size (.slice (some ⟨w.heap.size, 0, none⟩) 0 0) [] rfl ?_ w.heap.size va hv rfl ?_ (by simp; unfold maxLen; omega) (by simp; omega) ?_ ?_))
  · exact Own.empty _ _ (Nat.le_refl _)
  · exact (H1.out.gen).below ((Below.refl _ _).alloc (Nat.le_refl _) _) (Nat.le_refl _)
  · simp
  intro A1 c1 w1 ho1 hg1
  have hb1 : Below w.heap.size w w1 := (Own.empty (enc := cellsS) (k := 2) (e := 52) w w.heap.size (Nat.le_refl _)).grown ((Below.refl _ w).alloc (Nat.le_refl _) _) hg1 (Nat.le_refl _) (by simp)
  have hs1 := hb1.size
  have HO1 := Lib.hid ho1; clear ho1
  have HB1 := Lib.hid hb1; clear hb1 hg1
  go_wp2_with (at_builtin; go_must (refine wpList_addAny (enc := cellsS) (k := 2) 44 52 32 i0 _ Tryz.underlying44 HI0.out HZ0.out HZ1.out HZ2.out rfl (by decide) cellsS_len cellsS_one rfl _ _ rfl w.heap.size (.slice A1 hv.length c1) hv rfl ?_ w.heap.size vb gn rfl ?_ (by unfold maxLen; omega) (by omega) ?_ ?_))
  · exact HO1.out
  · exact (H2.out.gen).below HB1.out (Nat.le_refl _)
  · exact hs1
  intro A2 c2 w2 ho2 hg2
  have hb2 : Below w.heap.size w w2 := HO1.out.grown HB1.out hg2 (Nat.le_refl _) hs1
  have hs2 := hb2.size
  have hr2 : RdS w2 w2.heap.size (.slice A2 (hv.length + gn.length) c2) (hv ++ gn) := OwnS.rd (base := w.heap.size) ho2
  have hends := ends_any (hv ++ gn) _ w2 hr2 (by simp; omega)
  have HE := Lib.hid hends; clear hends hr2 ho2
  have HB2 := Lib.hid hb2; clear hb2 hg2
  go_wp2_with fail
  refine HE.out.mono ?_
  obtain ⟨E, hE⟩ : ∃ E, E = (hv ++ gn).foldl ends2 [] := ⟨_, rfl⟩
  rw [← hE]
  have HEE := Lib.hid hE; clear hE
  rintro e w3 ⟨A3, c3, rfl, hr3, hb3, hel⟩
  have hbw : Below w.heap.size w w3 := HB2.out.trans (hb3.mono hs2)
  have hs3 := hb3.size
  have HR3 := Lib.hid hr3; clear hr3 hb3
  have HBW := Lib.hid hbw; clear hbw
  have ho3 : OwnS (w3.alloc (.cells #[] 52)) w3.heap.size (.slice (some ⟨w3.heap.size, 0, none⟩) 0 0) [] := Own.empty _ _ (Nat.le_refl _)
  have hb3 : Below w3.heap.size w3 (w3.alloc (.cells #[] 52)) := (Below.refl _ _).alloc (Nat.le_refl _) _
  have HO3 := Lib.hid ho3; clear ho3
  have HB3 := Lib.hid hb3; clear hb3
  have heq := eql_span
  have hgd := span_guard
  go_wp2_with fail
  go_loopw [6, 7] (fun ov i wr => ∃ (j : Nat) (out : List (K × K)) (A : Option Addr) (c : Nat), 1 ≤ j ∧ (j ≤ E.length ∨ j = 1) ∧ i = .int .i64 j ∧ ov = .slice A out.length c ∧ Below w3.heap.size w3 wr ∧ OwnS wr w3.heap.size (.slice A out.length c) out ∧ R = bgo hv gn out (E.drop (j - 1)) ∧ out.length ≤ j) (fun _ i _ => E.length - (intOf i).toNat)
  case atStart => exact ⟨1, [], _, _, Nat.le_refl _, .inr rfl, rfl, rfl, HB3.out, HO3.out, by rw [HR.out, HEE.out]; rfl, by simp⟩
  case round =>
    obtain ⟨j, out, A, c, hj1, hj, rfl, rfl, hb, ho, hRR, hlen⟩ := hrel
    have HRR := Lib.hid hRR; clear hRR
    have hz := hb.size
    have hwz := HBW.out.size
    have HB := Lib.hid hb; clear hb
    have HO := Lib.hid ho; clear ho
    by_cases hlt : j < E.length
    · obtain ⟨k, rfl⟩ : ∃ k, j = k + 1 := ⟨j - 1, by omega⟩
      have hdrop : E.drop k = E[k] :: E[k + 1] :: E.drop (k + 2) := by rw [List.drop_eq_getElem_cons (by omega), List.drop_eq_getElem_cons hlt]
      have hdrop' : E.drop (k + 1) = E[k + 1] :: E.drop (k + 2) := List.drop_eq_getElem_cons hlt
      have hR2 : R = bgo hv gn (bstep hv gn out E[k] E[k + 1]) (E.drop (k + 1)) := by rw [HRR.out, Nat.add_sub_cancel, hdrop, hdrop', bgo]
      have HR2 := Lib.hid hR2; clear hR2 hdrop hdrop'
      obtain ⟨eb, eo, rfl, heb, ec0⟩ := HR3.out.cell (show k < E.length by omega)
      obtain ⟨eb', eo', hee, _, ec1⟩ := HR3.out.cell hlt
      simp only [Option.some.injEq, Addr.mk.injEq, and_true] at hee
      obtain ⟨rfl, rfl⟩ := hee
      have d0 := (HB.out.cell (p := ⟨eb, _, none⟩) heb).trans ec0
      have d1 := (HB.out.cell (p := ⟨eb, _, none⟩) heb).trans ec1
      clear ec0 ec1
      have hbr : Below w.heap.size w wr := HBW.out.trans (HB.out.mono hwz)
      have hin := in_any hv va E[k] wr ((H1.out.below hbr (Nat.le_refl _)).mono hbr.size) (by omega)
      have HIN := Lib.hid hin; clear hin
      have HBR := Lib.hid hbr; clear hbr
      cases hx : (hv.any fun s => hasB s E[k])
      · have hst := bstep_out hv gn out E[k] E[k + 1] (.inl hx)
        have HS := Lib.hid hst; clear hst
        have HIN2 := HIN.out
        rw [hx] at HIN2
        have HI2 := Lib.hid HIN2; clear HIN2 hx HIN
        go_wp2_with fail
        refine HI2.out.mono ?_
        rintro e w4 ⟨rfl, hb4⟩
        have HB4 := Lib.hid hb4; clear hb4
        go_wp2_with fail
        go_roundw
        case rel => exact ⟨k + 2, out, A, c, by omega, .inl (by omega), by go_num, rfl, HB.out.trans (HB4.out.mono hz), HO.out.below HB4.out (Nat.le_refl _), by rw [HR2.out, HS.out]; rfl, by omega⟩
        case measure => simp [intOf]; omega
      · have HIN2 := HIN.out
        rw [hx] at HIN2
        have HI2 := Lib.hid HIN2; clear HIN2 HIN
        cases hy : (gn.any fun s => hasB s E[k])
        · have HXX := Lib.hid hx; clear hx
          have HYY := Lib.hid hy; clear hy
          go_wp2_with fail
          refine HI2.out.mono ?_
          rintro e w4 ⟨rfl, hb4⟩
          have k0 := (hb4.cell (p := ⟨eb, eo + k, none⟩) (by show eb < wr.heap.size; omega)).trans d0
          have k1 := (hb4.cell (p := ⟨eb, eo + (k + 1), none⟩) (by show eb < wr.heap.size; omega)).trans d1
          clear d0 d1
          have hb4w : Below w.heap.size w w4 := HBR.out.trans (hb4.mono HBR.out.size)
          have hg := in_any gn vb E[k] w4 ((H2.out.below hb4w (Nat.le_refl _)).mono hb4w.size) (by omega)
          rw [HYY.out] at hg
          have HG2 := Lib.hid hg; clear hg hb4w
          have HB4 := Lib.hid hb4; clear hb4
          go_wp2_with fail
          refine HG2.out.mono ?_
          rintro e w5 ⟨rfl, hb5⟩
          have e0 := (hb5.cell (p := ⟨eb, eo + k, none⟩) (by show eb < w4.heap.size; have := HB4.out.size; omega)).trans k0
          have e1 := (hb5.cell (p := ⟨eb, eo + (k + 1), none⟩) (by show eb < w4.heap.size; have := HB4.out.size; omega)).trans k1
          clear k0 k1
          have hz4 := HB4.out.size
          have hz5 := hb5.size
          have ho5 : OwnS w5 w3.heap.size (.slice A out.length c) out := (HO.out.below HB4.out (Nat.le_refl _)).below hb5 (Nat.le_refl _)
          have hb35 : Below w3.heap.size w3 w5 := (HB.out.trans (HB4.out.mono hz)).trans (hb5.mono (Nat.le_trans hz hz4))
          have HO5 := Lib.hid ho5; clear ho5
          have HB35 := Lib.hid hb35; clear hb35 hb5
          rcases List.eq_nil_or_concat out with rfl | ⟨p, l, rfl⟩
          · have hst := bstep_new hv gn E[k] E[k + 1] HXX.out HYY.out
            have HS := Lib.hid hst; clear hst
            go_wp2_with fail
            go_quiet (fail)
            go_wp2_with fail
            have wr1 : IntKind.i64.wrap (k : Int) = (k : Int) := by rw [IntKind.wrap_i64]; omega
            have wr2 : (0 : Int) ≤ (k : Int) := by omega
            have wr3 : (k : Int) < (E.length : Int) := by omega
            have wr4 : (k : Int) + 1 < (E.length : Int) := by omega
            have wr5 : (0 : Int) ≤ (k : Int) + 1 := by omega
            have wr6 : ((k : Int) + 1).toNat = k + 1 := by omega
            have hold : HeldB w3 eb (eo + k) (eo + (k + 1)) E[k] E[k + 1] (w5.drewN nq).drew := ⟨e0, e1, ⟨HB35.out.os, HB35.out.tape, HB35.out.output, HB35.out.size, HB35.out.block⟩, heb⟩
            have ho6 : OwnS (w5.drewN nq).drew w3.heap.size (.slice A 0 c) [] := HO5.out
            have HO6 := Lib.hid ho6; clear ho6
            refine wp_region_plan (S := HeldB w3 eb (eo + k) (eo + (k + 1)) E[k] E[k + 1]) [(true, 0), (true, 1), (true, 2), (true, 3), (true, 4), (true, 5), (true, 6), (true, 7), (true, 8), (true, 9), (true, 10), (false, 11), (false, 12), (true, 13)] (by kernel_rfl) (by kernel_rfl) (fun _ _ d _ _ h => by cases d <;> exact h) hold ?_
            repeat (refine Plan.take (v := ?_) rfl rfl ?_ ?_; rotate_left; (focus (intro W hW; obtain ⟨c1, c2, _, _⟩ := hW; go_simp; (try with_reducible rfl); done)); (try simp only [Act.put, List.setIfInBounds_toArray, List.set_cons_zero, List.set_cons_succ]))
            refine Plan.step rfl rfl (fun Kk hK => ?_)
            go_simp
            refine hK.out _ _ (hold.alloc _) ?_
            clear hK Kk
            refine Plan.step rfl rfl (fun Kk hK => ?_)
            refine wp_addAny (enc := cellsS) (k := 2) 44 52 32 i0 _ Tryz.underlying44 HI0.out HZ0.out HZ1.out HZ2.out rfl (by decide) cellsS_len cellsS_one _ _ rfl w3.heap.size (.slice A 0 c) [] rfl (Own.alloc HO6.out _) _ _ [(E[k], E[k + 1])] rfl (RdS.one _ (E[k], E[k + 1])) (by simp only [List.length_append, List.length_cons, List.length_nil]; unfold maxLen; omega) (by simp only [List.length_append, List.length_cons, List.length_nil]; omega) (by simp; have := HB35.out.size; omega) ?_
            intro A6 c6 w6 ho6 hg6
            have hlow : ∀ i, (Value.slice A 0 c).ownBlock = some i → w3.heap.size ≤ i := fun i hi => (HO6.out.lt i hi).1
            have hold2 := (hold.alloc (.cells #[.string E[k], .string E[k + 1]] 52)).grown hg6 hlow
            (try simp only [Act.put, List.setIfInBounds_toArray, List.set_cons_zero, List.set_cons_succ])
            refine hK.out _ _ hold2 ?_
            clear hK Kk hold
            have HO7 := Lib.hid ho6; clear ho6 hg6 hlow
            have hold := hold2
            repeat (refine Plan.take (v := ?_) rfl rfl ?_ ?_; rotate_left; (focus (intro W hW; obtain ⟨c1, c2, _, _⟩ := hW; go_simp; (try with_reducible rfl); done)); (try simp only [Act.put, List.setIfInBounds_toArray, List.set_cons_zero, List.set_cons_succ]))
            simp only [Plan]
            go_wp2_with fail
            go_roundw
            case rel => exact ⟨k + 2, [(E[k], E[k + 1])], A6, c6, by omega, .inl (by omega), by go_num, rfl, hold.2.2.1, HO7.out, by rw [HR2.out, HS.out]; rfl, by simp⟩
            case measure => simp [intOf]; omega
          · rw [List.concat_eq_append] at *
            have hlen2 : p.length ≤ k := by simpa using hlen
            have hfm : ∃ g, A = some ⟨g, 0, none⟩ ∧ w3.heap.size ≤ g ∧ g < w5.heap.size ∧ p.length + 1 ≤ c := by
              rcases HO5.out.form with ⟨_, h0⟩ | ⟨g, cap, hv, q1, q2, q3⟩
              · simp at h0
              · injection hv with e1 e2 e3
                subst e3
                exact ⟨g, e1, q1, q2, by simpa using q3⟩
            obtain ⟨g, rfl, hg0, hgl, hgc⟩ := hfm
            have ho5 := HO5.out
            unfold OwnS at ho5
            have hl2 : w5.cell? ⟨g, p.length * 2 + 1, none⟩ = some (.string l.2) := by
              rw [ho5.cellAt _ (by simp; omega), flat_append, List.getElem?_append_right (by rw [flat_length]; omega), flat_length, Nat.add_sub_cancel_left]; rfl
            have hfg : w5.frozen? ⟨g, p.length * 2 + 1, none⟩ = false := ho5.frozenAt _
            clear ho5
            have hpl : p.length ≤ 1000000 := by simp at hlen; omega
            have hcs := bstep_snoc hv gn p l E[k] E[k + 1] HXX.out HYY.out
            obtain ⟨l1, l2⟩ := l
            simp only at hcs hl2
            by_cases hl : l2 = E[k]
            · rw [if_pos hl] at hcs
              have HS := Lib.hid hcs; clear hcs
              rw [hl] at hl2
              clear hl
              go_wp2_with fail
              go_quiet (fail)
              go_wp2_with fail
              go_roundw
              case rel =>
                have hset := (HO5.out.drewN nq).setLast E[k + 1]
                refine ⟨k + 2, p ++ [(l1, E[k + 1])], some ⟨g, 0, none⟩, c, by omega, .inl (by omega), by go_num, by simp, ?_, by simpa using hset, by rw [HR2.out, HS.out]; rfl, by simp; omega⟩
                have hbd : Below w3.heap.size w3 (w5.drewN nq) := ⟨HB35.out.os, HB35.out.tape, HB35.out.output, HB35.out.size, HB35.out.block⟩
                exact hbd.setCell (p := ⟨g, p.length * 2 + 1, none⟩) hg0 _
              case measure => simp [intOf]; omega
            · rw [if_neg hl] at hcs
              have HS := Lib.hid hcs; clear hcs
              go_wp2_with fail
              go_quiet (fail)
              go_wp2_with fail
              have wr1 : IntKind.i64.wrap (k : Int) = (k : Int) := by rw [IntKind.wrap_i64]; omega
              have wr2 : (0 : Int) ≤ (k : Int) := by omega
              have wr3 : (k : Int) < (E.length : Int) := by omega
              have wr4 : (k : Int) + 1 < (E.length : Int) := by omega
              have wr5 : (0 : Int) ≤ (k : Int) + 1 := by omega
              have wr6 : ((k : Int) + 1).toNat = k + 1 := by omega
              have hold : HeldB w3 eb (eo + k) (eo + (k + 1)) E[k] E[k + 1] (w5.drewN nq).drew := ⟨e0, e1, ⟨HB35.out.os, HB35.out.tape, HB35.out.output, HB35.out.size, HB35.out.block⟩, heb⟩
              have ho6 : OwnS (w5.drewN nq).drew w3.heap.size (.slice (some ⟨g, 0, none⟩) (p.length + 1) c) (p ++ [(l1, l2)]) := (show OwnS w5 w3.heap.size (.slice (some ⟨g, 0, none⟩) (p.length + 1) c) (p ++ [(l1, l2)]) by simpa using HO5.out)
              have HO6 := Lib.hid ho6; clear ho6
              refine wp_region_plan (S := HeldB w3 eb (eo + k) (eo + (k + 1)) E[k] E[k + 1]) [(true, 0), (true, 1), (true, 2), (true, 3), (true, 4), (true, 5), (true, 6), (true, 7), (true, 8), (true, 9), (true, 10), (false, 11), (false, 12), (true, 13)] (by kernel_rfl) (by kernel_rfl) (fun _ _ d _ _ h => by cases d <;> exact h) hold ?_
              repeat (refine Plan.take (v := ?_) rfl rfl ?_ ?_; rotate_left; (focus (intro W hW; obtain ⟨c1, c2, _, _⟩ := hW; go_simp; (try with_reducible rfl); done)); (try simp only [Act.put, List.setIfInBounds_toArray, List.set_cons_zero, List.set_cons_succ]))
              refine Plan.step rfl rfl (fun Kk hK => ?_)
              go_simp
              refine hK.out _ _ (hold.alloc _) ?_
              clear hK Kk
              refine Plan.step rfl rfl (fun Kk hK => ?_)
              refine wp_addAny (enc := cellsS) (k := 2) 44 52 32 i0 _ Tryz.underlying44 HI0.out HZ0.out HZ1.out HZ2.out rfl (by decide) cellsS_len cellsS_one _ _ rfl w3.heap.size (.slice (some ⟨g, 0, none⟩) (p.length + 1) c) (p ++ [(l1, l2)]) rfl (Own.alloc HO6.out _) _ _ [(E[k], E[k + 1])] rfl (RdS.one _ (E[k], E[k + 1])) (by simp only [List.length_append, List.length_cons, List.length_nil]; unfold maxLen; omega) (by simp only [List.length_append, List.length_cons, List.length_nil]; omega) (by simp; have := HB35.out.size; omega) ?_
              intro A6 c6 w6 ho6 hg6
              have hlow : ∀ i, (Value.slice (some ⟨g, 0, none⟩) (p.length + 1) c).ownBlock = some i → w3.heap.size ≤ i := fun i hi => (HO6.out.lt i hi).1
              have hold2 := (hold.alloc (.cells #[.string E[k], .string E[k + 1]] 52)).grown hg6 hlow
              (try simp only [Act.put, List.setIfInBounds_toArray, List.set_cons_zero, List.set_cons_succ])
              refine hK.out _ _ hold2 ?_
              clear hK Kk hold
              have HO7 := Lib.hid ho6; clear ho6 hg6 hlow
              have hold := hold2
              repeat (refine Plan.take (v := ?_) rfl rfl ?_ ?_; rotate_left; (focus (intro W hW; obtain ⟨c1, c2, _, _⟩ := hW; go_simp; (try with_reducible rfl); done)); (try simp only [Act.put, List.setIfInBounds_toArray, List.set_cons_zero, List.set_cons_succ]))
              simp only [Plan]
              go_wp2_with fail
              go_roundw
              case rel => exact ⟨k + 2, p ++ [(l1, l2)] ++ [(E[k], E[k + 1])], A6, c6, by omega, .inl (by omega), by go_num, by simp, hold.2.2.1, (by have h : OwnS w6 w3.heap.size _ _ := HO7.out; simpa using h), by rw [HR2.out, HS.out]; rfl, by simp; omega⟩
              case measure => simp [intOf]; omega
        · have hst := bstep_out hv gn out E[k] E[k + 1] (.inr hy)
          have HS := Lib.hid hst; clear hst
          have HYY := Lib.hid hy; clear hy hx
          go_wp2_with fail
          refine HI2.out.mono ?_
          rintro e w4 ⟨rfl, hb4⟩
          have k0 := (hb4.cell (p := ⟨eb, eo + k, none⟩) (by show eb < wr.heap.size; omega)).trans d0
          have k1 := (hb4.cell (p := ⟨eb, eo + (k + 1), none⟩) (by show eb < wr.heap.size; omega)).trans d1
          clear d0 d1
          have hb4w : Below w.heap.size w w4 := HBR.out.trans (hb4.mono HBR.out.size)
          have hg := in_any gn vb E[k] w4 ((H2.out.below hb4w (Nat.le_refl _)).mono hb4w.size) (by omega)
          rw [HYY.out] at hg
          have HG2 := Lib.hid hg; clear hg hb4w
          have HB4 := Lib.hid hb4; clear hb4
          go_wp2_with fail
          refine HG2.out.mono ?_
          rintro e w5 ⟨rfl, hb5⟩
          have HB5 := Lib.hid hb5; clear hb5
          go_wp2_with fail
          go_roundw
          case rel => exact ⟨k + 2, out, A, c, by omega, .inl (by omega), by go_num, rfl, (HB.out.trans (HB4.out.mono hz)).trans (HB5.out.mono (Nat.le_trans hz HB4.out.size)), (HO.out.below HB4.out (Nat.le_refl _)).below HB5.out (Nat.le_refl _), by rw [HR2.out, HS.out]; rfl, by omega⟩
          case measure => simp [intOf]; omega
    · go_wp2_with fail
      have hE2 : E.drop (j - 1) = [] ∨ ∃ x, E.drop (j - 1) = [x] := by
        rcases hd : E.drop (j - 1) with _ | ⟨x, r⟩
        · exact .inl rfl
        · have hl2 := congrArg List.length hd
          rw [List.length_drop, List.length_cons] at hl2
          have : r = [] := List.eq_nil_of_length_eq_zero (by omega)
          exact .inr ⟨x, by rw [this]⟩
      have hfin : R = out := by
        rw [HRR.out]
        rcases hE2 with h0 | ⟨x, h0⟩ <;> rw [h0] <;> rfl
      subst hfin
      refine bodyPost_ret (v := .slice A R.length c) ?_ rfl ⟨_, rfl, HO.out.lower hwz, HBW.out.trans (HB.out.mono hwz), by omega⟩
      simp [results, Tryz.results55, go_sem]
end Go.Proofs.YtgppgecglkellaaGreat
namespace Go.Proofs.YtgppgecglkellaaGreat

theorem lead_le (s : K) : ∀ l : List K, lead s l ≤ l.length
  | [] => Nat.le_refl _
  | x :: r => by rw [lead]; split <;> simp [lead_le s r]
theorem lead_below (s : K) : ∀ (l : List K) (x : K), x ∈ l.take (lead s l) → x < s
  | [], x, h => by simp at h
  | y :: r, x, h => by
    rw [lead] at h
    split at h
    · rename_i hy
      simp only [List.take_succ_cons, List.mem_cons] at h
      rcases h with rfl | h
      · exact hy
      · exact lead_below s r x h
    · simp at h
theorem lead_above (s : K) : ∀ (l : List K), l.Pairwise (· < ·) → ∀ x ∈ l.drop (lead s l), s ≤ x
  | [], _, x, h => by simp at h
  | y :: r, hp, x, h => by
    rw [List.pairwise_cons] at hp
    rw [lead] at h
    split at h
    · exact lead_above s r hp.2 x (by simpa using h)
    · rename_i hy
      simp only [List.drop_zero, List.mem_cons] at h
      rcases h with rfl | h
      · grind
      · have := hp.1 x h; grind
theorem ins_ok (l : List K) (s : K) (hp : l.Pairwise (· < ·)) : (ins l s).Pairwise (· < ·) ∧ ∀ x, x ∈ ins l s ↔ x ∈ l ∨ x = s := by
  have e0 := List.take_append_drop (lead s l) l
  unfold ins
  split
  · rename_i h
    have hs : s ∈ l := List.mem_of_getElem? h
    exact ⟨hp, fun x => ⟨.inl, fun h => by rcases h with h | rfl; · exact h
                                           · exact hs⟩⟩
  · rename_i h
    have hne : ∀ x ∈ l.drop (lead s l), s < x := by
      intro x hx
      have h1 := lead_above s l hp x hx
      have h2 : x ≠ s := by
        rintro rfl
        rcases hd : l.drop (lead x l) with _ | ⟨y, r⟩
        · rw [hd] at hx; cases hx
        · have hy : l[lead x l]? = some y := by rw [← List.head?_drop, hd]; rfl
          rw [hd] at hx
          rcases List.mem_cons.1 hx with rfl | hx
          · exact h hy
          · have hpd : (y :: r).Pairwise (· < ·) := by rw [← hd]; exact hp.sublist (List.drop_sublist _ _)
            have h3 := (List.pairwise_cons.1 hpd).1 x hx
            have h4 := lead_above x l hp y (by rw [hd]; simp)
            grind
      grind
    constructor
    · rw [List.pairwise_append]
      refine ⟨hp.sublist (List.take_sublist _ _), List.pairwise_cons.2 ⟨hne, hp.sublist (List.drop_sublist _ _)⟩, fun x hx y hy => ?_⟩
      have h1 := lead_below s l x hx
      rcases List.mem_cons.1 hy with rfl | hy
      · exact h1
      · have := hne y hy; grind
    · intro x
      rw [List.mem_append, List.mem_cons]
      constructor
      · rintro (h1 | rfl | h1)
        · exact .inl (List.mem_of_mem_take h1)
        · exact .inr rfl
        · exact .inl (List.mem_of_mem_drop h1)
      · rintro (h1 | rfl)
        · rw [← e0, List.mem_append] at h1
          rcases h1 with h1 | h1
          · exact .inl h1
          · exact .inr (.inr h1)
        · exact .inr (.inl rfl)
theorem ends_ok : ∀ (l : List (K × K)) (E : List K), E.Pairwise (· < ·) → (l.foldl ends2 E).Pairwise (· < ·) ∧ ∀ x, x ∈ l.foldl ends2 E ↔ x ∈ E ∨ ∃ s ∈ l, x = s.1 ∨ x = s.2
  | [], E, h => ⟨h, fun x => by simp⟩
  | s :: r, E, h => by
    obtain ⟨a1, a2⟩ := ins_ok E s.1 h
    obtain ⟨b1, b2⟩ := ins_ok (ins E s.1) s.2 a1
    obtain ⟨c1, c2⟩ := ends_ok r (ends2 E s) b1
    refine ⟨c1, fun x => ?_⟩
    rw [List.foldl_cons, c2, show ends2 E s = ins (ins E s.1) s.2 from rfl, b2, a2]
    simp only [List.mem_cons, exists_eq_or_imp]
    constructor
    · intro h; rcases h with ((h | h) | h) | h
      · exact .inl h
      · exact .inr (.inl (.inl h))
      · exact .inr (.inl (.inr h))
      · exact .inr (.inr h)
    · intro h; rcases h with h | (h | h) | h
      · exact .inl (.inl (.inl h))
      · exact .inl (.inl (.inr h))
      · exact .inl (.inr h)
      · exact .inr h

theorem any_mem (l : List (K × K)) (k : K) : (l.any fun s => hasB s k) = true ↔ mem l k := by
  simp [List.any_eq_true, mem, has, hasB]
/-- nothing turns between two ends that follow each other -/
theorem any_same (l : List (K × K)) (a b k : K) (he : ∀ s ∈ l, (s.1 ≤ a ∨ b ≤ s.1) ∧ (s.2 ≤ a ∨ b ≤ s.2)) (h1 : a ≤ k) (h2 : k < b) : (l.any fun s => hasB s k) = (l.any fun s => hasB s a) := by
  rw [Bool.eq_iff_iff, any_mem, any_mem]
  constructor
  · rintro ⟨s, hs, h3, h4⟩
    have := he s hs
    exact ⟨s, hs, by unfold has; grind⟩
  · rintro ⟨s, hs, h3, h4⟩
    have := he s hs
    exact ⟨s, hs, by unfold has; grind⟩

theorem bgo_ok (hv gn : List (K × K)) : ∀ (r : List K) (a : K) (out : List (K × K)), (a :: r).Pairwise (· < ·) → (∀ s ∈ hv ++ gn, (s.1 ≤ a ∨ s.1 ∈ r) ∧ (s.2 ≤ a ∨ s.2 ∈ r)) → Normal out → (∀ s ∈ out, s.2 ≤ a) →
    (∀ k, mem out k ↔ k < a ∧ mem hv k ∧ ¬ mem gn k) → Normal (bgo hv gn out (a :: r)) ∧ ∀ k, mem (bgo hv gn out (a :: r)) k ↔ mem hv k ∧ ¬ mem gn k
  | [], a, out, _, he, hn, _, hm => by
    refine ⟨hn, fun k => ?_⟩
    rw [bgo, hm]
    constructor
    · rintro ⟨_, h⟩; exact h
    · intro h
      refine ⟨?_, h⟩
      obtain ⟨⟨s, hs, h1, h2⟩, _⟩ := h
      have := (he s (by simp [hs])).2
      simp at this
      grind
  | b :: r, a, out, hp, he, hn, hlast, hm => by
    rw [bgo]
    have hab : a < b := (List.pairwise_cons.1 hp).1 b (by simp)
    have hbr := (List.pairwise_cons.1 (List.pairwise_cons.1 hp).2).1
    have hgap : ∀ s ∈ hv ++ gn, (s.1 ≤ a ∨ b ≤ s.1) ∧ (s.2 ≤ a ∨ b ≤ s.2) := by
      intro s hs
      obtain ⟨h1, h2⟩ := he s hs
      constructor
      · rcases h1 with h1 | h1
        · exact .inl h1
        · rcases List.mem_cons.1 h1 with h1 | h1
          · exact .inr (by rw [h1]; exact Std.IsPreorder.le_refl _)
          · have := hbr _ h1; exact .inr (by grind)
      · rcases h2 with h2 | h2
        · exact .inl h2
        · rcases List.mem_cons.1 h2 with h2 | h2
          · exact .inr (by rw [h2]; exact Std.IsPreorder.le_refl _)
          · have := hbr _ h2; exact .inr (by grind)
    have he' : ∀ s ∈ hv ++ gn, (s.1 ≤ b ∨ s.1 ∈ r) ∧ (s.2 ≤ b ∨ s.2 ∈ r) := by
      intro s hs
      obtain ⟨h1, h2⟩ := he s hs
      simp only [List.mem_cons] at h1 h2
      constructor
      · rcases h1 with h1 | h1 | h1
        · exact .inl (by grind)
        · exact .inl (by rw [h1]; exact Std.IsPreorder.le_refl _)
        · exact .inr h1
      · rcases h2 with h2 | h2 | h2
        · exact .inl (by grind)
        · exact .inl (by rw [h2]; exact Std.IsPreorder.le_refl _)
        · exact .inr h2
    have hH : ∀ k, a ≤ k → k < b → (mem hv k ↔ mem hv a) := fun k h1 h2 => by rw [← any_mem, ← any_mem, any_same hv a b k (fun s hs => hgap s (by simp [hs])) h1 h2]
    have hG : ∀ k, a ≤ k → k < b → (mem gn k ↔ mem gn a) := fun k h1 h2 => by rw [← any_mem, ← any_mem, any_same gn a b k (fun s hs => hgap s (by simp [hs])) h1 h2]
    by_cases hc : (hv.any fun s => hasB s a) = false ∨ (gn.any fun s => hasB s a) = true
    · rw [bstep_out hv gn out a b hc]
      refine bgo_ok hv gn r b out (List.pairwise_cons.1 hp).2 he' hn (fun s hs => by have := hlast s hs; grind) fun k => ?_
      have hno : ¬ (mem hv a ∧ ¬ mem gn a) := by
        rw [← any_mem, ← any_mem]
        rcases hc with h | h <;> simp [h]
      rw [hm k]
      constructor
      · rintro ⟨h1, h2⟩; exact ⟨by grind, h2⟩
      · rintro ⟨h1, h2⟩
        refine ⟨?_, h2⟩
        rcases Std.le_total (a := a) (b := k) with h3 | h3
        · exact absurd ⟨(hH k h3 h1).1 h2.1, fun h => h2.2 ((hG k h3 h1).2 h)⟩ hno
        · by_cases h4 : k = a
          · subst h4; exact absurd h2 hno
          · grind
    · have hh : (hv.any fun s => hasB s a) = true := by
        cases h : (hv.any fun s => hasB s a)
        · exact absurd (.inl h) hc
        · rfl
      have hg : (gn.any fun s => hasB s a) = false := by
        cases h : (gn.any fun s => hasB s a)
        · rfl
        · exact absurd (.inr h) hc
      have hin : mem hv a ∧ ¬ mem gn a := ⟨(any_mem _ _).1 hh, fun h => by rw [(any_mem _ _).2 h] at hg; cases hg⟩
      have hkey : ∀ k, (k < b ∧ mem hv k ∧ ¬ mem gn k) ↔ (mem out k ∨ (a ≤ k ∧ k < b)) := fun k => by
        rw [hm k]
        constructor
        · rintro ⟨h1, h2⟩
          rcases Std.le_total (a := a) (b := k) with h3 | h3
          · exact .inr ⟨h3, h1⟩
          · by_cases h4 : k = a
            · exact .inr ⟨by rw [h4]; exact Std.IsPreorder.le_refl _, h1⟩
            · exact .inl ⟨by grind, h2⟩
        · rintro (⟨h1, h2⟩ | ⟨h1, h2⟩)
          · exact ⟨by grind, h2⟩
          · exact ⟨h2, (hH k h1 h2).2 hin.1, fun h => hin.2 ((hG k h1 h2).1 h)⟩
      rcases List.eq_nil_or_concat out with rfl | ⟨p, l, rfl⟩
      · rw [bstep_new hv gn a b hh hg]
        refine bgo_ok hv gn r b _ (List.pairwise_cons.1 hp).2 he' ⟨hab, by simp, trivial⟩ (by simp) fun k => ?_
        rw [hkey k]
        simp [mem, has]
      · rw [List.concat_eq_append] at *
        rw [bstep_snoc hv gn p l a b hh hg]
        obtain ⟨n1, n2, n3⟩ := normal_append.1 hn
        have hl0 : l.2 ≤ a := hlast l (by simp)
        have hl1 : l.1 < l.2 := n2.1
        by_cases hla : l.2 = a
        · rw [if_pos hla]
          refine bgo_ok hv gn r b _ (List.pairwise_cons.1 hp).2 he' (normal_append.2 ⟨n1, ⟨by show l.1 < b; grind, by simp, trivial⟩, fun u hu t ht => ?_⟩) (fun s hs => ?_) fun k => ?_
          · simp only [List.mem_singleton] at ht; subst ht; exact n3 u hu l (by simp)
          · rcases List.mem_append.1 hs with hs | hs
            · have := hlast s (by simp [hs]); grind
            · simp only [List.mem_singleton] at hs; subst hs; exact Std.IsPreorder.le_refl _
          · rw [hkey k]
            simp only [mem_append, mem_cons, mem_nil, or_false, has]
            have e : (l.1 ≤ k ∧ k < l.2 ∨ a ≤ k ∧ k < b) ↔ (l.1 ≤ k ∧ k < b) := by grind
            constructor
            · rintro (h | h)
              · exact .inl (.inl h)
              · rcases e.2 h with h | h
                · exact .inl (.inr h)
                · exact .inr h
            · rintro ((h | h) | h)
              · exact .inl h
              · exact .inr (e.1 (.inl h))
              · exact .inr (e.1 (.inr h))
        · rw [if_neg hla]
          refine bgo_ok hv gn r b _ (List.pairwise_cons.1 hp).2 he' (normal_append.2 ⟨hn, ⟨hab, by simp, trivial⟩, fun u hu t ht => ?_⟩) (fun s hs => ?_) fun k => ?_
          · simp only [List.mem_singleton] at ht; subst ht
            rcases List.mem_append.1 hu with hu | hu
            · have := n3 u hu l (by simp); show u.2 < a; grind
            · simp only [List.mem_singleton] at hu; subst hu; show u.2 < a; grind
          · rcases List.mem_append.1 hs with hs | hs
            · have := hlast s hs; grind
            · simp only [List.mem_singleton] at hs; subst hs; exact Std.IsPreorder.le_refl _
          · rw [hkey k]
            simp only [mem_append, mem_cons, mem_nil, or_false, has]
theorem build_ok (hv gn : List (K × K)) : Normal (bgo hv gn [] ((hv ++ gn).foldl ends2 [])) ∧ ∀ k, mem (bgo hv gn [] ((hv ++ gn).foldl ends2 [])) k ↔ mem hv k ∧ ¬ mem gn k := by
  obtain ⟨h1, h2⟩ := ends_ok (hv ++ gn) [] .nil
  rcases hE : (hv ++ gn).foldl ends2 [] with _ | ⟨a, r⟩
  · refine ⟨trivial, fun k => ?_⟩
    rw [bgo]
    refine ⟨fun h => absurd h (mem_nil k), fun h => ?_⟩
    obtain ⟨⟨s, hs, _⟩, _⟩ := h
    have := (h2 s.1).2 (.inr ⟨s, by simp [hs], .inl rfl⟩)
    rw [hE] at this; cases this
  · rw [hE] at h1 h2
    have hall : ∀ s ∈ hv ++ gn, (s.1 = a ∨ s.1 ∈ r) ∧ (s.2 = a ∨ s.2 ∈ r) := fun s hs =>
      ⟨List.mem_cons.1 ((h2 s.1).2 (.inr ⟨s, hs, .inl rfl⟩)), List.mem_cons.1 ((h2 s.2).2 (.inr ⟨s, hs, .inr rfl⟩))⟩
    refine bgo_ok hv gn r a [] h1 (fun s hs => ?_) trivial (by simp) fun k => ?_
    · obtain ⟨q1, q2⟩ := hall s hs
      exact ⟨q1.imp (fun h => by rw [h]; exact Std.IsPreorder.le_refl _) id, q2.imp (fun h => by rw [h]; exact Std.IsPreorder.le_refl _) id⟩
    · refine ⟨fun h => absurd h (mem_nil k), fun h => ?_⟩
      obtain ⟨hk, ⟨s, hs, h3, _⟩, _⟩ := h
      have hge : a ≤ s.1 := by
        rcases (hall s (by simp [hs])).1 with h | h
        · rw [h]; exact Std.IsPreorder.le_refl _
        · have := (List.pairwise_cons.1 h1).1 _ h; grind
      grind
end Go.Proofs.YtgppgecglkellaaGreat
namespace Go.Proofs.YtgppgecglkellaaGreat
open Go.RowKit
attribute [local go_sem] less_eq same_eq le_eq ge_eq gt_eq

def Fits (l : List (K × K)) (P : K → Prop) : Prop := Normal l ∧ ∀ k, mem l k ↔ P k
theorem Fits.eq {a b : List (K × K)} {P : K → Prop} (h1 : Fits a P) (h2 : Fits b P) : a = b := normal_ext a b h1.1 h2.1 fun k => (h1.2 k).trans (h2.2 k).symm

set_option maxHeartbeats 400000 in
theorem rjoin_any (l : List (K × K)) (v : Value) (w : World) (hv : RdS w w.heap.size v l) (hl : l.length ≤ 100000) : Calls Tryz.prog 38 #[v] w fun e w' =>
    ∃ v' R, e = .returned v' ∧ OwnS w' w.heap.size v' R ∧ Below w.heap.size w w' ∧ Fits R (fun k => mem l k) ∧ R.length ≤ 200000 := by
  have hb := build_any l [] v (.slice none 0 0) w hv ⟨none, 0, rfl, Nat.le_refl _, fun i s hs => by simp at hs⟩ (by simpa using hl)
  have hf := build_ok l []
  generalize bgo l [] [] ((l ++ []).foldl ends2 []) = R at hb hf
  have HB := Lib.hid hb; clear hb
  have HF := Lib.hid hf; clear hf
  go_enter Tryz.func38, Tryz.ntmps38
  go_wp2_with fail
  refine HB.out.mono ?_
  rintro e w1 ⟨v1, rfl, ho, hb, hlen⟩
  have HO := Lib.hid ho; clear ho
  have HB1 := Lib.hid hb; clear hb
  go_wp2_with fail
  go_ret
  exact ⟨v1, R, rfl, HO.out, HB1.out, ⟨HF.out.1, fun k => by rw [HF.out.2 k]; simp [mem_nil]⟩, hlen⟩

set_option maxHeartbeats 400000 in
theorem rwithout_any (s : K × K) (l : List (K × K)) (v : Value) (w : World) (hv : RdS w w.heap.size v l) (hl : l.length ≤ 99000) : Calls Tryz.prog 75 #[.agg #[.string s.1, .string s.2], v] w fun e w' =>
    ∃ v' R, e = .returned v' ∧ OwnS w' w.heap.size v' R ∧ Below w.heap.size w w' ∧ Fits R (fun k => has s k ∧ ¬ mem l k) ∧ R.length ≤ 200000 := by
  have hb2 : Below w.heap.size w ((w.alloc (.cells #[.string s.1, .string s.2] 52)).alloc (.cells #[.string s.1, .string s.2] 52)) := ((Below.refl _ w).alloc (Nat.le_refl _) _).alloc (by simp) _
  have h1 : RdS ((w.alloc (.cells #[.string s.1, .string s.2] 52)).alloc (.cells #[.string s.1, .string s.2] 52)) (w.heap.size + 2) (.slice (some ⟨w.heap.size + 1, 0, none⟩) 1 1) [s] := by
    refine ⟨_, 1, rfl, Nat.le_refl _, fun i t ht => ⟨w.heap.size + 1, 0, rfl, by omega, ?_, ?_⟩⟩
    all_goals
      rw [World.cell?_alloc_at _ _ _ _ (by simp)]
      match i, ht with
      | 0, ht => simp at ht; subst ht; rfl
  have hb := build_any [s] l (.slice (some ⟨w.heap.size + 1, 0, none⟩) 1 1) v _ (by simpa using h1) ((hv.below hb2 (Nat.le_refl _)).mono hb2.size) (by simp; omega)
  have hf := build_ok [s] l
  generalize bgo [s] l [] (([s] ++ l).foldl ends2 []) = R at hb hf
  have HB := Lib.hid hb; clear hb
  have HF := Lib.hid hf; clear hf
  have HB2 := Lib.hid hb2; clear hb2 h1
  go_enter Tryz.func75, Tryz.ntmps75
  go_wp2_with fail
  refine HB.out.mono ?_
  rintro e w1 ⟨v1, rfl, ho, hb, hlen⟩
  have HO := Lib.hid ho; clear ho
  have HB1 := Lib.hid hb; clear hb
  go_wp2_with fail
  go_ret
  exact ⟨v1, R, rfl, HO.out.lower (by simp; omega), HB2.out.trans (HB1.out.mono (by simp; omega)), ⟨HF.out.1, fun k => by rw [HF.out.2 k]; simp [mem]⟩, hlen⟩
end Go.Proofs.YtgppgecglkellaaGreat
namespace Go.Proofs.YtgppgecglkellaaGreat
open Go.RowKit
section
variable {P : Program} {ops : Array Oper} {Q : Exit → Act → World → Prop}

theorem wpAnyH_weaken {S S' : World → Prop} (h : ∀ W, S' W → S W) {md : Region.Mode} : ∀ (fuel : Nat) (listed : Array Bool) (a : Act) (w : World), wpAnyH P md ops Q S' fuel listed a w → wpAnyH P md ops Q S fuel listed a w
  | 0, _, _, _, hh => hh
  | fuel + 1, _, _, _, hh => ⟨hh.1, fun i hi => wpOp_mono (fun a' w' h' => ⟨h _ h'.1, wpAnyH_weaken h fuel _ a' w' h'.2⟩) (hh.2 i hi)⟩

def PlanB (P : Program) (ops : Array Oper) (Q : Exit → Act → World → Prop) : List (Bool × Nat) → Act → World → Prop
  | [], a, w => Q .normal a w
  | (true, i) :: r, a, w => ∃ o v, ops[i]? = some o ∧ YieldsIf P ops (fun W => Below w.heap.size w W) o v a ∧ PlanB P ops Q r (a.put o.dst v) w
  | (false, i) :: r, a, w => wpOp P ops Q i (fun a' w' => Below w.heap.size w w' ∧ PlanB P ops Q r a' w') a w

theorem PlanB.any (hs : Region.noSelect ops = true) (hQ : ∀ c a d v w, Q (.panic c) (Act.put a d v) w → Q (.panic c) a w) : ∀ (plan : List (Bool × Nat)) (fuel : Nat) (listed : Array Bool) (a : Act) (w : World),
    plan.length ≤ fuel → planOk ops plan listed = true → PlanB P ops Q plan a w → wpAnyH P .any ops Q (fun W => Below w.heap.size w W) fuel listed a w
  | [], fuel, listed, a, w, _, hp, h => wpAnyH_done (by simpa [planOk] using hp) h fuel
  | (true, i) :: r, fuel + 1, listed, a, w, hf, hp, h => by
    obtain ⟨o, v, ho, hy, hr⟩ := h
    simp only [planOk, Bool.and_eq_true] at hp
    exact wpAnyH_take ho hs hp.1.1 hp.1.2 (fun c a w => hQ c a _ _ w) hy (Below.refl _ _) (PlanB.any hs hQ r fuel _ _ _ (by simpa using hf) hp.2 hr)
  | (false, i) :: r, fuel + 1, listed, a, w, hf, hp, h => by
    simp only [planOk, Bool.and_eq_true, beq_iff_eq] at hp
    refine wpAnyH_all hp.1 (by simp) fun j hj => ?_
    obtain rfl : j = i := by simpa using hj
    refine wpOp_mono (fun a' w' h' => ⟨h'.1, ?_⟩) h
    exact wpAnyH_weaken (fun W hW => h'.1.trans (hW.mono h'.1.size)) _ _ _ _ (PlanB.any hs hQ r fuel _ _ _ (by simpa using hf) hp.2 h'.2)
  | (true, _) :: _, 0, _, _, _, hf, _, _ => by simp at hf
  | (false, _) :: _, 0, _, _, _, hf, _, _ => by simp at hf

theorem wp_region_planB (plan : List (Bool × Nat)) {id : Nat} {a : Act} {w : World} (hm : P.follows .mixedOrders = true) (hs : (Region.noSelect ops && planOk ops plan (Array.replicate ops.size false) && decide (plan.length ≤ ops.size)) = true)
    (hQ : ∀ c a d v w, Q (.panic c) (Act.put a d v) w → Q (.panic c) a w) (h : PlanB P ops Q plan a w.drew) : (Code.region id ops true).wp P Q a w := by
  simp only [Bool.and_eq_true, decide_eq_true_eq] at hs
  exact wp_region_held hm (PlanB.any hs.1.1 hQ plan _ _ _ _ hs.2 hs.1.2 h)

theorem PlanB.take {i : Nat} {o : Oper} {v : Value} {r : List (Bool × Nat)} {a : Act} {w : World} (hi : ops.toList[i]? = some o) (hw : Region.wanted o (yielded ops a.tmps) = true)
    (hy : ∀ W, Below w.heap.size w W → (execOp a.eval o).run P W = .ok (.value v) W) (h : PlanB P ops Q r (a.put o.dst v) w) : PlanB P ops Q ((true, i) :: r) a w :=
  ⟨o, v, by simpa using hi, .inl ⟨hw, hy⟩, h⟩
theorem PlanB.skip {i : Nat} {o : Oper} {r : List (Bool × Nat)} {a : Act} {w : World} (hi : ops.toList[i]? = some o) (hw : Region.wanted o (yielded ops a.tmps) = false)
    (h : PlanB P ops Q r (a.put o.dst undef) w) : PlanB P ops Q ((true, i) :: r) a w :=
  ⟨o, undef, by simpa using hi, .inr ⟨hw, rfl⟩, h⟩
theorem PlanB.step {i : Nat} {o : Oper} {r : List (Bool × Nat)} {a : Act} {w : World} (hi : ops.toList[i]? = some o) (hw : Region.wanted o (yielded ops a.tmps) = true)
    (h : ∀ K : Act → World → Prop, Shut (∀ a w', Below w.heap.size w w' → PlanB P ops Q r a w' → K a w') → Oper.wp P o a w K Q) : PlanB P ops Q ((false, i) :: r) a w := by
  show wpOp P ops Q i _ a w
  refine wpOp_step (o := o) (by simpa using hi) fun K' hK => ?_
  rw [if_pos hw]
  exact h K' fun a w h1 h2 => hK a w ⟨h1, h2⟩
end
end Go.Proofs.YtgppgecglkellaaGreat
namespace Go.Proofs.YtgppgecglkellaaGreat
open Go.RowKit
attribute [local go_sem] less_eq same_eq le_eq ge_eq gt_eq

structure Chg where
  kind : Int
  key : K
  val : K
instance : DecidableEq Chg := fun a b => decidable_of_iff (a.kind = b.kind ∧ a.key = b.key ∧ a.val = b.val) ⟨fun h => by cases a; cases b; simp only at h; obtain ⟨rfl, rfl, rfl⟩ := h; rfl, fun h => by subst h; exact ⟨rfl, rfl, rfl⟩⟩
def cval (c : Chg) : Value := .agg #[.int .i64 c.kind, .string c.key, .string c.val]
def encC (c : Chg) : List Value := [.int .i64 c.kind, .string c.key, .string c.val]
theorem encC_len (c : Chg) : (encC c).length = 3 := rfl
theorem encC_one (c : Chg) : ∀ u ∈ encC c, u.oneCell' = true := by
  intro u hu
  simp [encC] at hu
  rcases hu with rfl | rfl | rfl <;> rfl
abbrev RdC (w : World) (B : Nat) (v : Value) (l : List Chg) : Prop := Rd encC 3 w B v l
abbrev OwnC (w : World) (base : Nat) (v : Value) (l : List Chg) : Prop := Own encC 3 58 w base v l
abbrev RdP (w : World) (B : Nat) (v : Value) (l : List (K × K)) : Prop := Rd cellsS 2 w B v l
theorem info_chg : (Tryz.prog.info? 58).map (fun i => (i.zero, i.size, i.bytes)) = some (some (.agg #[.int .i64 0, .string ⟨#[]⟩, .string ⟨#[]⟩]), 3, 40) := by kernel_rfl

theorem RdC.at {w : World} {B : Nat} {v : Value} {l : List Chg} (h : RdC w B v l) : ∃ A c, v = .slice A l.length c ∧ l.length ≤ c ∧ ∀ i (_ : i < l.length), ∃ b o, A = some ⟨b, o, none⟩ ∧ b < B ∧
    w.cell? ⟨b, o + i * 3, none⟩ = some (.int .i64 l[i].kind) ∧ w.cell? ⟨b, o + i * 3 + 1, none⟩ = some (.string l[i].key) ∧ w.cell? ⟨b, o + i * 3 + 2, none⟩ = some (.string l[i].val) := by
  obtain ⟨A, c, hv, hc, hi⟩ := h
  refine ⟨A, c, hv, hc, fun i hs => ?_⟩
  obtain ⟨b, o, hA, hB, h1⟩ := hi i hs
  exact ⟨b, o, hA, hB, h1 0 _ rfl, h1 1 _ rfl, h1 2 _ rfl⟩
theorem RdP.at {w : World} {B : Nat} {v : Value} {l : List (K × K)} (h : RdP w B v l) : ∃ A c, v = .slice A l.length c ∧ l.length ≤ c ∧ ∀ i (_ : i < l.length), ∃ b o, A = some ⟨b, o, none⟩ ∧ b < B ∧
    w.cell? ⟨b, o + i * 2, none⟩ = some (.string l[i].1) ∧ w.cell? ⟨b, o + i * 2 + 1, none⟩ = some (.string l[i].2) := by
  obtain ⟨A, c, hv, hc, hi⟩ := h
  refine ⟨A, c, hv, hc, fun i hs => ?_⟩
  obtain ⟨b, o, hA, hB, h1⟩ := hi i hs
  exact ⟨b, o, hA, hB, h1 0 _ rfl, h1 1 _ rfl⟩

/-- what Check answers -/
def checkAns (c : Chg) : Int :=
  if c.kind = 1 then (if c.key.size > 16 ∨ c.val.size > 64 then 6 else 0)
  else if c.kind = 2 then (if c.key.size > 16 ∨ c.val.size > 0 then 6 else 0)
  else if c.kind = 3 then (if c.key.size > 17 ∨ c.val.size > 17 then 6 else if c.val < c.key then 5 else 0)
  else 1
/-- the keys that a change names -/
def cspan (c : Chg) : K × K := if c.kind = 3 then (c.key, c.val) else (c.key, c.key ++ ⟨#[0]⟩)

set_option maxHeartbeats 4000000 in
set_option maxRecDepth 100000 in
theorem rcheck_any (c : Chg) (w : World) (hk : c.key.size < 9223372036854775807) (hv : c.val.size < 9223372036854775807) : Calls Tryz.prog 30 #[cval c] w fun e w' => e = .returned (.int .i64 (checkAns c)) ∧ Below w.heap.size w w' := by
  obtain ⟨k, x, y⟩ := c
  obtain ⟨R, hR⟩ : ∃ R, R = checkAns ⟨k, x, y⟩ := ⟨_, rfl⟩
  rw [← hR]
  unfold checkAns at hR
  unfold cval
  simp only at hR hk hv ⊢
  go_enter Tryz.func30, Tryz.ntmps30
  go_wp2_with fail
  have HB := Lib.hid (((Below.refl _ w).alloc (Nat.le_refl _) (.cells #[.int .i64 k, .string x, .string y] 58)).drew)
  have HC := Lib.hid (show ∀ W, Below (w.alloc (.cells #[.int .i64 k, .string x, .string y] 58)).drew.heap.size (w.alloc (.cells #[.int .i64 k, .string x, .string y] 58)).drew W →
      W.cell? ⟨w.heap.size, 0, none⟩ = some (.int .i64 k) ∧ W.cell? ⟨w.heap.size, 1, none⟩ = some (.string x) ∧ W.cell? ⟨w.heap.size, 2, none⟩ = some (.string y) from fun W hW => by
    have hlt : w.heap.size < (w.alloc (.cells #[.int .i64 k, .string x, .string y] 58)).drew.heap.size := by show _ < (w.alloc _).heap.size; simp
    exact ⟨(hW.cell (p := ⟨w.heap.size, 0, none⟩) hlt).trans (World.cell?_alloc_at _ _ _ _ rfl), (hW.cell (p := ⟨w.heap.size, 1, none⟩) hlt).trans (World.cell?_alloc_at _ _ _ _ rfl), (hW.cell (p := ⟨w.heap.size, 2, none⟩) hlt).trans (World.cell?_alloc_at _ _ _ _ rfl)⟩)
  refine wp_region_planB [(true, 0), (true, 1), (true, 2), (true, 3), (true, 4), (true, 5), (true, 6), (true, 7)] (by kernel_rfl) (by kernel_rfl) (fun _ _ d _ _ h => by cases d <;> exact h) ?_
  generalize (w.alloc (.cells #[.int .i64 k, .string x, .string y] 58)).drew = w1 at HB HC ⊢
  obtain ⟨g, hg⟩ : ∃ g, g = w.heap.size := ⟨_, rfl⟩
  rw [← hg] at HC ⊢
  clear hg
  repeat (refine PlanB.take (v := ?_) rfl rfl ?_ ?_; rotate_left; (focus (intro W hW; obtain ⟨k0, k1, k2⟩ := HC.out W hW; go_simp; (try with_reducible rfl); done)); (try simp only [Act.put, List.setIfInBounds_toArray, List.set_cons_zero, List.set_cons_succ]))
  simp only [PlanB]
  obtain ⟨k0, k1, k2⟩ := HC.out w1 (Below.refl _ _)
  by_cases h1 : k = 1
  · rw [if_pos h1] at hR
    subst h1
    by_cases ha : x.size > 16
    · rw [if_pos (.inl ha)] at hR
      have HR := Lib.hid hR; clear hR
      have ha1 : (16 : Int) < (x.size : Int) := by omega
      go_wp2_with fail
      go_ret
      exact ⟨by rw [HR.out]; rfl, HB.out⟩
    by_cases hb : y.size > 64
    · rw [if_pos (.inr hb)] at hR
      have HR := Lib.hid hR; clear hR
      have ha1 : ¬ (16 : Int) < (x.size : Int) := by omega
      have hb1 : (64 : Int) < (y.size : Int) := by omega
      go_wp2_with fail
      go_ret
      exact ⟨by rw [HR.out]; rfl, HB.out⟩
    rw [if_neg (by omega)] at hR
    have ha1 : ¬ (16 : Int) < (x.size : Int) := by omega
    have hb1 : ¬ (64 : Int) < (y.size : Int) := by omega
    have HR := Lib.hid hR; clear hR
    go_wp2_with fail
    go_ret
    exact ⟨by rw [HR.out]; rfl, HB.out⟩
  by_cases h2 : k = 2
  · rw [if_neg h1, if_pos h2] at hR
    subst h2
    clear h1
    by_cases ha : x.size > 16
    · rw [if_pos (.inl ha)] at hR
      have HR := Lib.hid hR; clear hR
      have ha1 : (16 : Int) < (x.size : Int) := by omega
      go_wp2_with fail
      go_ret
      exact ⟨by rw [HR.out]; rfl, HB.out⟩
    by_cases hb : y.size > 0
    · rw [if_pos (.inr hb)] at hR
      have HR := Lib.hid hR; clear hR
      have ha1 : ¬ (16 : Int) < (x.size : Int) := by omega
      have hb1 : (0 : Int) < (y.size : Int) := by omega
      go_wp2_with fail
      go_ret
      exact ⟨by rw [HR.out]; rfl, HB.out⟩
    rw [if_neg (by omega)] at hR
    have ha1 : ¬ (16 : Int) < (x.size : Int) := by omega
    have hb1 : ¬ (0 : Int) < (y.size : Int) := by omega
    have HR := Lib.hid hR; clear hR
    go_wp2_with fail
    go_ret
    exact ⟨by rw [HR.out]; rfl, HB.out⟩
  by_cases h3 : k = 3
  · rw [if_neg h1, if_neg h2, if_pos h3] at hR
    subst h3
    clear h1 h2
    by_cases ha : x.size > 17
    · rw [if_pos (.inl ha)] at hR
      have HR := Lib.hid hR; clear hR
      have ha1 : (17 : Int) < (x.size : Int) := by omega
      go_wp2_with fail
      go_ret
      exact ⟨by rw [HR.out]; rfl, HB.out⟩
    by_cases hb : y.size > 17
    · rw [if_pos (.inr hb)] at hR
      have HR := Lib.hid hR; clear hR
      have ha1 : ¬ (17 : Int) < (x.size : Int) := by omega
      have hb1 : (17 : Int) < (y.size : Int) := by omega
      go_wp2_with fail
      go_ret
      exact ⟨by rw [HR.out]; rfl, HB.out⟩
    rw [if_neg (by omega)] at hR
    have ha1 : ¬ (17 : Int) < (x.size : Int) := by omega
    have hb1 : ¬ (17 : Int) < (y.size : Int) := by omega
    by_cases hl : y < x
    · rw [if_pos hl] at hR
      have HR := Lib.hid hR; clear hR
      go_wp2_with fail
      go_ret
      exact ⟨by rw [HR.out]; rfl, HB.out⟩
    rw [if_neg hl] at hR
    have HR := Lib.hid hR; clear hR
    go_wp2_with fail
    go_ret
    exact ⟨by rw [HR.out]; rfl, HB.out⟩
  rw [if_neg h1, if_neg h2, if_neg h3] at hR
  have HR := Lib.hid hR; clear hR
  go_wp2_with fail
  go_ret
  exact ⟨by rw [HR.out]; rfl, HB.out⟩
end Go.Proofs.YtgppgecglkellaaGreat
namespace Go.Proofs.YtgppgecglkellaaGreat
open Go.RowKit
attribute [local go_sem] less_eq same_eq le_eq ge_eq gt_eq

set_option maxHeartbeats 1000000 in
set_option maxRecDepth 100000 in
theorem rspan_any (c : Chg) (w : World) (hk : c.key.size < 4611686018427387904) : Calls Tryz.prog 37 #[cval c] w fun e w' => e = .returned (spv (cspan c)) ∧ Below w.heap.size w w' := by
  obtain ⟨k, x, y⟩ := c
  unfold cval cspan spv
  simp only at hk ⊢
  have hb : Below w.heap.size w ((w.alloc (.cells #[.int .i64 k, .string x, .string y] 58)).alloc (.cells #[.string ⟨#[]⟩, .string ⟨#[]⟩] 52)) := ((Below.refl _ w).alloc (Nat.le_refl _) _).alloc (by simp) _
  have HB := Lib.hid hb; clear hb
  clear HB
  by_cases h3 : k = 3
  · subst h3
    rw [if_pos rfl]
    go_enter Tryz.func37, Tryz.ntmps37
    go_wp2_with fail
    refine bodyPost_ret (v := .agg #[.string x, .string y]) (by simp [results, Tryz.results37, go_sem]) rfl ⟨rfl, ?_⟩
    ((repeat' (first | exact Below.refl _ _ | refine Below.alloc ?_ ?_ _ | refine Below.setCell ?_ ?_ _ | refine Below.drew ?_)); all_goals ((try simp only [World.size_alloc]); omega))
  · rw [if_neg h3]
    go_enter Tryz.func37, Tryz.ntmps37
    go_wp2_with fail
    refine bodyPost_ret (v := .agg #[.string x, .string (x ++ ⟨#[0]⟩)]) (by simp [results, Tryz.results37, go_sem]) rfl ⟨rfl, ?_⟩
    ((repeat' (first | exact Below.refl _ _ | refine Below.alloc ?_ ?_ _ | refine Below.setCell ?_ ?_ _ | refine Below.drew ?_)); all_goals ((try simp only [World.size_alloc]); omega))

def smallC (c : Chg) : Prop := c.key.size < 4611686018427387904 ∧ c.val.size < 4611686018427387904
/-- the first error -/
def allAns : List Chg → Int
  | [] => 0
  | c :: r => if checkAns c = 0 then allAns r else checkAns c

set_option maxHeartbeats 1000000 in
set_option maxRecDepth 100000 in
theorem rall_any (l : List Chg) (hs : ∀ c ∈ l, smallC c) (v : Value) (w : World) (hv : RdC w w.heap.size v l) (hl : l.length < 4611686018427387904) :
    Calls Tryz.prog 21 #[v] w fun e w' => e = .returned (.int .i64 (allAns l)) ∧ Below w.heap.size w w' := by
  obtain ⟨A, c, rfl, hc, hi⟩ := hv.at
  obtain ⟨R, hR⟩ : ∃ R, R = allAns l := ⟨_, rfl⟩
  rw [← hR]
  have HR := Lib.hid hR; clear hR
  have HI := Lib.hid hi; clear hi
  have HS := Lib.hid hs; clear hs
  clear hv
  obtain ⟨g, hg⟩ : ∃ g, g = w.heap.size := ⟨_, rfl⟩
  have HG := Lib.hid hg; clear hg
  go_enter Tryz.func21, Tryz.ntmps21
  go_wp2_with fail
  go_loopw [3] (fun iv wr => ∃ i : Nat, i ≤ l.length ∧ iv = .int .i64 i ∧ Below g w wr ∧ R = allAns (l.drop i)) (fun iv _ => l.length - (intOf iv).toNat)
  case atStart => exact ⟨0, Nat.zero_le _, rfl, Below.refl _ _, HR.out⟩
  case round =>
    obtain ⟨i, hil, rfl, hbw, he⟩ := hrel
    have HBW := Lib.hid hbw; clear hbw
    have HE := Lib.hid he; clear he
    by_cases hlt : i < l.length
    · obtain ⟨b, o, rfl, hbB, k0, k1, k2⟩ := HI.out i hlt
      have hsm := HS.out l[i] (List.getElem_mem hlt)
      have hd := HE.out
      rw [List.drop_eq_getElem_cons hlt, allAns] at hd
      rw [← HBW.out.cell (p := ⟨b, o + i * 3, none⟩) (by rw [HG.out]; exact hbB)] at k0
      rw [← HBW.out.cell (p := ⟨b, o + i * 3 + 1, none⟩) (by rw [HG.out]; exact hbB)] at k1
      rw [← HBW.out.cell (p := ⟨b, o + i * 3 + 2, none⟩) (by rw [HG.out]; exact hbB)] at k2
      generalize l[i] = z at k0 k1 k2 hsm hd
      have hck := rcheck_any z wr (by have := hsm.1; omega) (by have := hsm.2; omega)
      unfold cval at hck
      generalize checkAns z = q at hck hd
      obtain ⟨kz, xz, yz⟩ := z
      simp only at k0 k1 k2 hck
      have HD := Lib.hid hd
      have HK := Lib.hid hck
      clear hd hck hsm
      go_wp2_with fail
      refine HK.out.mono ?_
      rintro e w2 ⟨rfl, hb2⟩
      have HW2 := Lib.hid (show Below g w w2 from HBW.out.trans (hb2.mono (by rw [HG.out]; exact HBW.out.size)))
      clear hb2 k0 k1 k2
      by_cases hq : q = 0
      · subst hq
        have hd := HD.out
        rw [if_pos rfl] at hd
        have HD2 := Lib.hid hd; clear hd
        go_wp2_with fail
        go_roundw
        case rel => exact ⟨i + 1, by omega, by go_num, HW2.out, HD2.out⟩
        case measure => simp [intOf]; omega
      · have hd := HD.out
        rw [if_neg hq] at hd
        have HD2 := Lib.hid hd; clear hd
        go_wp2_with fail
        go_ret
        exact ⟨by rw [HD2.out]; rfl, by have h := HW2.out; rwa [HG.out] at h⟩
    · have hd := HE.out
      rw [List.drop_eq_nil_of_le (by omega), allAns] at hd
      have HD := Lib.hid hd; clear hd
      go_wp2_with fail
      go_ret
      exact ⟨by rw [HD.out]; rfl, by have h := HBW.out; rwa [HG.out] at h⟩
end Go.Proofs.YtgppgecglkellaaGreat
