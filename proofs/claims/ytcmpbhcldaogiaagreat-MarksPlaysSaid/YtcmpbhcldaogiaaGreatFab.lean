/- What the reference builds of the ends: the fewest spans of some keys. What the reference builds are the fewest spans of just those keys: plain. Same, Join and Without of the reference. A region whose operations may come in more than one order, walked in one order that is laid down beforehand; whatever is taken yields the same in every world that keeps what stands now. (For seats without pairs.) Changes: their cells, slices of them; what the reference's Check, All and Span answer. What the reference's Span, All and Sound answer. A region whose operations may come in more than one order, walked along a tree of orders that is laid down beforehand. Transactions: what is known of them, and whether the reference finds them sound (for seats that have no more of frame). When keys were written last, as a state: pure. Marks as a state: what each call answers; pure. What the reference's Spans answers (for seats without pairs). (For seats without bytes; others have it in Hold.) What moves and what stays. -/
import Derived.Test.YtcmpbhcldaogiaaGreatFaa
import Derived.BigQuiet
import Derived.Deep.QuietTactic
namespace Go.Proofs.YtcmpbhcldaogiaaGreat
open Go.RowKit
attribute [local go_sem] less_eq same_eq le_eq ge_eq gt_eq

theorem cellsS_len (x : K × K) : (cellsS x).length = 2 := rfl
theorem cellsS_one (x : K × K) : ∀ u ∈ cellsS x, u.oneCell' = true := by intro u hu; simp [cellsS] at hu; rcases hu with rfl | rfl <;> rfl
theorem RdS.gen {w : World} {B : Nat} {v : Value} {l : List (K × K)} (h : RdS w B v l) : Rd cellsS 2 w B v l := by
  obtain ⟨A, c, hv, hc, hi⟩ := h
  refine ⟨A, c, hv, hc, fun i hl => ?_⟩
  obtain ⟨b, o, hA, hB, h1, h2⟩ := hi i l[i] (List.getElem?_eq_getElem hl)
  refine ⟨b, o, hA, hB, fun j u hu => ?_⟩
  match j, hu with
  | 0, hu => simp [cellsS] at hu; subst hu; exact h1
  | 1, hu => simp [cellsS] at hu; subst hu; exact h2

def bstep (hv gn : List (K × K)) (out : List (K × K)) (a b : K) : List (K × K) :=
  if (hv.any fun s => hasB s a) = false ∨ (gn.any fun s => hasB s a) = true then out else
    match out.getLast? with
    | none => out ++ [(a, b)]
    | some l => if l.2 = a then out.dropLast ++ [(l.1, b)] else out ++ [(a, b)]
def bgo (hv gn : List (K × K)) : List (K × K) → List K → List (K × K)
  | out, a :: b :: r => bgo hv gn (bstep hv gn out a b) (b :: r)
  | out, [_] => out
  | out, [] => out
theorem bstep_out (hv gn out : List (K × K)) (a b : K) (h : (hv.any fun s => hasB s a) = false ∨ (gn.any fun s => hasB s a) = true) : bstep hv gn out a b = out := by rw [bstep, if_pos h]
theorem bstep_new (hv gn : List (K × K)) (a b : K) (h1 : (hv.any fun s => hasB s a) = true) (h2 : (gn.any fun s => hasB s a) = false) : bstep hv gn [] a b = [(a, b)] := by simp [bstep, h1, h2]
theorem bstep_snoc (hv gn p : List (K × K)) (l : K × K) (a b : K) (h1 : (hv.any fun s => hasB s a) = true) (h2 : (gn.any fun s => hasB s a) = false) : bstep hv gn (p ++ [l]) a b = if l.2 = a then p ++ [(l.1, b)] else p ++ [l] ++ [(a, b)] := by
  simp [bstep, h1, h2]

theorem RdS.one (w : World) (s : K × K) : Rd cellsS 2 (w.alloc (.cells #[.string s.1, .string s.2] 29)) (w.heap.size + 1) (.slice (some ⟨w.heap.size, 0, none⟩) 1 1) [s] := by
  refine ⟨_, 1, rfl, Nat.le_refl _, fun i hi => ⟨w.heap.size, 0, rfl, by omega, fun j u hu => ?_⟩⟩
  obtain rfl : i = 0 := by simpa using hi
  rw [World.cell?_alloc_at _ _ _ _ rfl]
  match j, hu with
  | 0, hu => simpa [cellsS] using hu
  | 1, hu => simpa [cellsS] using hu
/-- two ends that stand in memory, in whatever world the statement comes to -/
def HeldB (z : World) (b o1 o2 : Nat) (x y : K) (W : World) : Prop := W.cell? ⟨b, o1, none⟩ = some (.string x) ∧ W.cell? ⟨b, o2, none⟩ = some (.string y) ∧ Below z.heap.size z W ∧ b < z.heap.size
theorem HeldB.alloc {z : World} {b o1 o2 : Nat} {x y : K} {W : World} (h : HeldB z b o1 o2 x y W) (o : Obj) : HeldB z b o1 o2 x y (W.alloc o) :=
  ⟨(World.cell?_alloc_past _ _ _ (Nat.lt_of_lt_of_le h.2.2.2 h.2.2.1.size)).trans h.1, (World.cell?_alloc_past _ _ _ (Nat.lt_of_lt_of_le h.2.2.2 h.2.2.1.size)).trans h.2.1, h.2.2.1.alloc h.2.2.1.size _, h.2.2.2⟩
theorem HeldB.grown {z : World} {b o1 o2 : Nat} {x y : K} {W W' : World} {row : Option Nat} (h : HeldB z b o1 o2 x y W) (hg : W.grownBy W' row) (hr : ∀ k, row = some k → z.heap.size ≤ k) : HeldB z b o1 o2 x y W' := by
  have hb := h.2.2.1.grown hg h.2.2.1.size hr
  have hs : W'.heap[b]? = W.heap[b]? := (hb.block b h.2.2.2).trans (h.2.2.1.block b h.2.2.2).symm
  exact ⟨(World.cell?_of_block (a := ⟨b, o1, none⟩) hs).trans h.1, (World.cell?_of_block (a := ⟨b, o2, none⟩) hs).trans h.2.1, hb, h.2.2.2⟩

set_option maxHeartbeats 4000000 in
set_option maxRecDepth 100000 in
theorem build_any (hv gn : List (K × K)) (va vb : Value) (w : World) (h1 : RdS w w.heap.size va hv) (h2 : RdS w w.heap.size vb gn) (hl : hv.length + gn.length ≤ 100000) : Calls Tryz.prog 53 #[va, vb] w fun e w' =>
    ∃ v', e = .returned v' ∧ OwnS w' w.heap.size v' (bgo hv gn [] ((hv ++ gn).foldl ends2 [])) ∧ Below w.heap.size w w' ∧ (bgo hv gn [] ((hv ++ gn).foldl ends2 [])).length ≤ 200000 := by
  obtain ⟨i0, hi0, hz0, hz1, hz2⟩ := info_parts info_spans
  obtain ⟨R, hR⟩ : ∃ R, R = bgo hv gn [] ((hv ++ gn).foldl ends2 []) := ⟨_, rfl⟩
  rw [← hR]
  have HR := Lib.hid hR; clear hR
  have H1 := Lib.hid h1; clear h1
  have H2 := Lib.hid h2; clear h2
  have HI0 := Lib.hid hi0; clear hi0
  have HZ0 := Lib.hid hz0; clear hz0
  have HZ1 := Lib.hid hz1; clear hz1
  have HZ2 := Lib.hid hz2; clear hz2
  go_enter Tryz.func53, Tryz.ntmps53
  go_wp2_with (at_builtin; go_must (refine wpList_addAny (enc := cellsS) (k := 2) 50 29 32 i0 _ Tryz.underlying50 HI0.out HZ0.out HZ1.out HZ2.out rfl (by decide) cellsS_len cellsS_one rfl _ _ rfl w.heap.size (.slice (some ⟨w.heap.size, 0, none⟩) 0 0) [] rfl ?_ w.heap.size va hv rfl ?_ (by simp; unfold maxLen; omega) (by simp; omega) ?_ ?_))
  · exact Own.empty _ _ (Nat.le_refl _)
  · exact (H1.out.gen).below ((Below.refl _ _).alloc (Nat.le_refl _) _) (Nat.le_refl _)
  · simp
  intro A1 c1 w1 ho1 hg1
  have hb1 : Below w.heap.size w w1 := (Own.empty (enc := cellsS) (k := 2) (e := 29) w w.heap.size (Nat.le_refl _)).grown ((Below.refl _ w).alloc (Nat.le_refl _) _) hg1 (Nat.le_refl _) (by simp)
  have hs1 := hb1.size
  have HO1 := Lib.hid ho1; clear ho1
  have HB1 := Lib.hid hb1; clear hb1 hg1
  go_wp2_with (at_builtin; go_must (refine wpList_addAny (enc := cellsS) (k := 2) 50 29 32 i0 _ Tryz.underlying50 HI0.out HZ0.out HZ1.out HZ2.out rfl (by decide) cellsS_len cellsS_one rfl _ _ rfl w.heap.size (.slice A1 hv.length c1) hv rfl ?_ w.heap.size vb gn rfl ?_ (by unfold maxLen; omega) (by omega) ?_ ?_))
  · exact HO1.out
  · exact (H2.out.gen).below HB1.out (Nat.le_refl _)
  · exact hs1
  intro A2 c2 w2 ho2 hg2
  have hb2 : Below w.heap.size w w2 := HO1.out.grown HB1.out hg2 (Nat.le_refl _) hs1
  have hs2 := hb2.size
  have hr2 : RdS w2 w2.heap.size (.slice A2 (hv.length + gn.length) c2) (hv ++ gn) := OwnS.rd (base := w.heap.size) ho2
  have hends := ends_any (hv ++ gn) _ w2 hr2 (by simp; omega)
  have HE := Lib.hid hends; clear hends hr2 ho2
  have HB2 := Lib.hid hb2; clear hb2 hg2
  go_wp2_with fail
  refine HE.out.mono ?_
  obtain ⟨E, hE⟩ : ∃ E, E = (hv ++ gn).foldl ends2 [] := ⟨_, rfl⟩
  rw [← hE]
  have HEE := Lib.hid hE; clear hE
  rintro e w3 ⟨A3, c3, rfl, hr3, hb3, hel⟩
  have hbw : Below w.heap.size w w3 := HB2.out.trans (hb3.mono hs2)
  have hs3 := hb3.size
  have HR3 := Lib.hid hr3; clear hr3 hb3
  have HBW := Lib.hid hbw; clear hbw
  have ho3 : OwnS (w3.alloc (.cells #[] 29)) w3.heap.size (.slice (some ⟨w3.heap.size, 0, none⟩) 0 0) [] := Own.empty _ _ (Nat.le_refl _)
  have hb3 : Below w3.heap.size w3 (w3.alloc (.cells #[] 29)) := (Below.refl _ _).alloc (Nat.le_refl _) _
  have HO3 := Lib.hid ho3; clear ho3
  have HB3 := Lib.hid hb3; clear hb3
  have heq := eql_span
  have hgd := span_guard
  go_wp2_with fail
  go_loopw [6, 7] (fun ov i wr => ∃ (j : Nat) (out : List (K × K)) (A : Option Addr) (c : Nat), 1 ≤ j ∧ (j ≤ E.length ∨ j = 1) ∧ i = .int .i64 j ∧ ov = .slice A out.length c ∧ Below w3.heap.size w3 wr ∧ OwnS wr w3.heap.size (.slice A out.length c) out ∧ R = bgo hv gn out (E.drop (j - 1)) ∧ out.length ≤ j) (fun _ i _ => E.length - (intOf i).toNat)
  case atStart => exact ⟨1, [], _, _, Nat.le_refl _, .inr rfl, rfl, rfl, HB3.out, HO3.out, by rw [HR.out, HEE.out]; rfl, by simp⟩
  case round =>
    obtain ⟨j, out, A, c, hj1, hj, rfl, rfl, hb, ho, hRR, hlen⟩ := hrel
    have HRR := Lib.hid hRR; clear hRR
    have hz := hb.size
    have hwz := HBW.out.size
    have HB := Lib.hid hb; clear hb
    have HO := Lib.hid ho; clear ho
    by_cases hlt : j < E.length
    · obtain ⟨k, rfl⟩ : ∃ k, j = k + 1 := ⟨j - 1, by omega⟩
      have hdrop : E.drop k = E[k] :: E[k + 1] :: E.drop (k + 2) := by rw [List.drop_eq_getElem_cons (by omega), List.drop_eq_getElem_cons hlt]
      have hdrop' : E.drop (k + 1) = E[k + 1] :: E.drop (k + 2) := List.drop_eq_getElem_cons hlt
      have hR2 : R = bgo hv gn (bstep hv gn out E[k] E[k + 1]) (E.drop (k + 1)) := by rw [HRR.out, Nat.add_sub_cancel, hdrop, hdrop', bgo]
      have HR2 := Lib.hid hR2; clear hR2 hdrop hdrop'
      obtain ⟨eb, eo, rfl, heb, ec0⟩ := HR3.out.cell (show k < E.length by omega)
      obtain ⟨eb', eo', hee, _, ec1⟩ := HR3.out.cell hlt
      simp only [Option.some.injEq, Addr.mk.injEq, and_true] at hee
      obtain ⟨rfl, rfl⟩ := hee
      have d0 := (HB.out.cell (p := ⟨eb, _, none⟩) heb).trans ec0
      have d1 := (HB.out.cell (p := ⟨eb, _, none⟩) heb).trans ec1
      clear ec0 ec1
      have hbr : Below w.heap.size w wr := HBW.out.trans (HB.out.mono hwz)
      have hin := in_any hv va E[k] wr ((H1.out.below hbr (Nat.le_refl _)).mono hbr.size) (by omega)
      have HIN := Lib.hid hin; clear hin
      have HBR := Lib.hid hbr; clear hbr
      cases hx : (hv.any fun s => hasB s E[k])
      · have hst := bstep_out hv gn out E[k] E[k + 1] (.inl hx)
        have HS := Lib.hid hst; clear hst
        have HIN2 := HIN.out
        rw [hx] at HIN2
        have HI2 := Lib.hid HIN2; clear HIN2 hx HIN
        go_wp2_with fail
        refine HI2.out.mono ?_
        rintro e w4 ⟨rfl, hb4⟩
        have HB4 := Lib.hid hb4; clear hb4
        go_wp2_with fail
        go_roundw
        case rel => exact ⟨k + 2, out, A, c, by omega, .inl (by omega), by go_num, rfl, HB.out.trans (HB4.out.mono hz), HO.out.below HB4.out (Nat.le_refl _), by rw [HR2.out, HS.out]; rfl, by omega⟩
        case measure => simp [intOf]; omega
      · have HIN2 := HIN.out
        rw [hx] at HIN2
        have HI2 := Lib.hid HIN2; clear HIN2 HIN
        cases hy : (gn.any fun s => hasB s E[k])
        · have HXX := Lib.hid hx; clear hx
          have HYY := Lib.hid hy; clear hy
          go_wp2_with fail
          refine HI2.out.mono ?_
          rintro e w4 ⟨rfl, hb4⟩
          have k0 := (hb4.cell (p := ⟨eb, eo + k, none⟩) (by show eb < wr.heap.size; omega)).trans d0
          have k1 := (hb4.cell (p := ⟨eb, eo + (k + 1), none⟩) (by show eb < wr.heap.size; omega)).trans d1
          clear d0 d1
          have hb4w : Below w.heap.size w w4 := HBR.out.trans (hb4.mono HBR.out.size)
          have hg := in_any gn vb E[k] w4 ((H2.out.below hb4w (Nat.le_refl _)).mono hb4w.size) (by omega)
          rw [HYY.out] at hg
          have HG2 := Lib.hid hg; clear hg hb4w
          have HB4 := Lib.hid hb4; clear hb4
          go_wp2_with fail
          refine HG2.out.mono ?_
          rintro e w5 ⟨rfl, hb5⟩
          have e0 := (hb5.cell (p := ⟨eb, eo + k, none⟩) (by show eb < w4.heap.size; have := HB4.out.size; omega)).trans k0
          have e1 := (hb5.cell (p := ⟨eb, eo + (k + 1), none⟩) (by show eb < w4.heap.size; have := HB4.out.size; omega)).trans k1
          clear k0 k1
          have hz4 := HB4.out.size
          have hz5 := hb5.size
          have ho5 : OwnS w5 w3.heap.size (.slice A out.length c) out := (HO.out.below HB4.out (Nat.le_refl _)).below hb5 (Nat.le_refl _)
          have hb35 : Below w3.heap.size w3 w5 := (HB.out.trans (HB4.out.mono hz)).trans (hb5.mono (Nat.le_trans hz hz4))
          have HO5 := Lib.hid ho5; clear ho5
          have HB35 := Lib.hid hb35; clear hb35 hb5
          rcases List.eq_nil_or_concat out with rfl | ⟨p, l, rfl⟩
          · have hst := bstep_new hv gn E[k] E[k + 1] HXX.out HYY.out
            have HS := Lib.hid hst; clear hst
            go_wp2_with fail
            go_quiet (fail)
            go_wp2_with fail
            have wr1 : IntKind.i64.wrap (k : Int) = (k : Int) := by rw [IntKind.wrap_i64]; omega
            have wr2 : (0 : Int) ≤ (k : Int) := by omega
            have wr3 : (k : Int) < (E.length : Int) := by omega
            have wr4 : (k : Int) + 1 < (E.length : Int) := by omega
            have wr5 : (0 : Int) ≤ (k : Int) + 1 := by omega
            have wr6 : ((k : Int) + 1).toNat = k + 1 := by omega
            have hold : HeldB w3 eb (eo + k) (eo + (k + 1)) E[k] E[k + 1] (w5.drewN nq).drew := ⟨e0, e1, ⟨HB35.out.os, HB35.out.tape, HB35.out.output, HB35.out.size, HB35.out.block⟩, heb⟩
            have ho6 : OwnS (w5.drewN nq).drew w3.heap.size (.slice A 0 c) [] := HO5.out
            have HO6 := Lib.hid ho6; clear ho6
            refine wp_region_plan (S := HeldB w3 eb (eo + k) (eo + (k + 1)) E[k] E[k + 1]) [(true, 0), (true, 1), (true, 2), (true, 3), (true, 4), (true, 5), (true, 6), (true, 7), (true, 8), (true, 9), (true, 10), (false, 11), (false, 12), (true, 13)] (by kernel_rfl) (by kernel_rfl) (fun _ _ d _ _ h => by cases d <;> exact h) hold ?_
            repeat (refine Plan.take (v := ?_) rfl rfl ?_ ?_; rotate_left; (focus (intro W hW; obtain ⟨c1, c2, _, _⟩ := hW; go_simp; (try with_reducible rfl); done)); (try simp only [Act.put, List.setIfInBounds_toArray, List.set_cons_zero, List.set_cons_succ]))
            refine Plan.step rfl rfl (fun Kk hK => ?_)
            go_simp
            refine hK.out _ _ (hold.alloc _) ?_
            clear hK Kk
            refine Plan.step rfl rfl (fun Kk hK => ?_)
            refine wp_addAny (enc := cellsS) (k := 2) 50 29 32 i0 _ Tryz.underlying50 HI0.out HZ0.out HZ1.out HZ2.out rfl (by decide) cellsS_len cellsS_one _ _ rfl w3.heap.size (.slice A 0 c) [] rfl (Own.alloc HO6.out _) _ _ [(E[k], E[k + 1])] rfl (RdS.one _ (E[k], E[k + 1])) (by simp only [List.length_append, List.length_cons, List.length_nil]; unfold maxLen; omega) (by simp only [List.length_append, List.length_cons, List.length_nil]; omega) (by simp; have := HB35.out.size; omega) ?_
            intro A6 c6 w6 ho6 hg6
            have hlow : ∀ i, (Value.slice A 0 c).ownBlock = some i → w3.heap.size ≤ i := fun i hi => (HO6.out.lt i hi).1
            have hold2 := (hold.alloc (.cells #[.string E[k], .string E[k + 1]] 29)).grown hg6 hlow
            (try simp only [Act.put, List.setIfInBounds_toArray, List.set_cons_zero, List.set_cons_succ])
            refine hK.out _ _ hold2 ?_
            clear hK Kk hold
            have HO7 := Lib.hid ho6; clear ho6 hg6 hlow
            have hold := hold2
            repeat (refine Plan.take (v := ?_) rfl rfl ?_ ?_; rotate_left; (focus (intro W hW; obtain ⟨c1, c2, _, _⟩ := hW; go_simp; (try with_reducible rfl); done)); (try simp only [Act.put, List.setIfInBounds_toArray, List.set_cons_zero, List.set_cons_succ]))
            simp only [Plan]
            go_wp2_with fail
            go_roundw
            case rel => exact ⟨k + 2, [(E[k], E[k + 1])], A6, c6, by omega, .inl (by omega), by go_num, rfl, hold.2.2.1, HO7.out, by rw [HR2.out, HS.out]; rfl, by simp⟩
            case measure => simp [intOf]; omega
          · rw [List.concat_eq_append] at *
            have hlen2 : p.length ≤ k := by simpa using hlen
            have hfm : ∃ g, A = some ⟨g, 0, none⟩ ∧ w3.heap.size ≤ g ∧ g < w5.heap.size ∧ p.length + 1 ≤ c := by
              rcases HO5.out.form with ⟨_, h0⟩ | ⟨g, cap, hv, q1, q2, q3⟩
              · simp at h0
              · injection hv with e1 e2 e3
                subst e3
                exact ⟨g, e1, q1, q2, by simpa using q3⟩
            obtain ⟨g, rfl, hg0, hgl, hgc⟩ := hfm
            have ho5 := HO5.out
            unfold OwnS at ho5
            have hl2 : w5.cell? ⟨g, p.length * 2 + 1, none⟩ = some (.string l.2) := by
              rw [ho5.cellAt _ (by simp; omega), flat_append, List.getElem?_append_right (by rw [flat_length]; omega), flat_length, Nat.add_sub_cancel_left]; rfl
            have hfg : w5.frozen? ⟨g, p.length * 2 + 1, none⟩ = false := ho5.frozenAt _
            clear ho5
            have hpl : p.length ≤ 1000000 := by simp at hlen; omega
            have hcs := bstep_snoc hv gn p l E[k] E[k + 1] HXX.out HYY.out
            obtain ⟨l1, l2⟩ := l
            simp only at hcs hl2
            by_cases hl : l2 = E[k]
            · rw [if_pos hl] at hcs
              have HS := Lib.hid hcs; clear hcs
              rw [hl] at hl2
              clear hl
              go_wp2_with fail
              go_quiet (fail)
              go_wp2_with fail
              go_roundw
              case rel =>
                have hset := (HO5.out.drewN nq).setLast E[k + 1]
                refine ⟨k + 2, p ++ [(l1, E[k + 1])], some ⟨g, 0, none⟩, c, by omega, .inl (by omega), by go_num, by simp, ?_, by simpa using hset, by rw [HR2.out, HS.out]; rfl, by simp; omega⟩
                have hbd : Below w3.heap.size w3 (w5.drewN nq) := ⟨HB35.out.os, HB35.out.tape, HB35.out.output, HB35.out.size, HB35.out.block⟩
                exact hbd.setCell (p := ⟨g, p.length * 2 + 1, none⟩) hg0 _
              case measure => simp [intOf]; omega
            · rw [if_neg hl] at hcs
              have HS := Lib.hid hcs; clear hcs
              go_wp2_with fail
              go_quiet (fail)
              go_wp2_with fail
              have wr1 : IntKind.i64.wrap (k : Int) = (k : Int) := by rw [IntKind.wrap_i64]; omega
              have wr2 : (0 : Int) ≤ (k : Int) := by omega
              have wr3 : (k : Int) < (E.length : Int) := by omega
              have wr4 : (k : Int) + 1 < (E.length : Int) := by omega
              have wr5 : (0 : Int) ≤ (k : Int) + 1 := by omega
              have wr6 : ((k : Int) + 1).toNat = k + 1 := by omega
              have hold : HeldB w3 eb (eo + k) (eo + (k + 1)) E[k] E[k + 1] (w5.drewN nq).drew := ⟨e0, e1, ⟨HB35.out.os, HB35.out.tape, HB35.out.output, HB35.out.size, HB35.out.block⟩, heb⟩
              have ho6 : OwnS (w5.drewN nq).drew w3.heap.size (.slice (some ⟨g, 0, none⟩) (p.length + 1) c) (p ++ [(l1, l2)]) := (show OwnS w5 w3.heap.size (.slice (some ⟨g, 0, none⟩) (p.length + 1) c) (p ++ [(l1, l2)]) by simpa using HO5.out)
              have HO6 := Lib.hid ho6; clear ho6
              refine wp_region_plan (S := HeldB w3 eb (eo + k) (eo + (k + 1)) E[k] E[k + 1]) [(true, 0), (true, 1), (true, 2), (true, 3), (true, 4), (true, 5), (true, 6), (true, 7), (true, 8), (true, 9), (true, 10), (false, 11), (false, 12), (true, 13)] (by kernel_rfl) (by kernel_rfl) (fun _ _ d _ _ h => by cases d <;> exact h) hold ?_
              repeat (refine Plan.take (v := ?_) rfl rfl ?_ ?_; rotate_left; (focus (intro W hW; obtain ⟨c1, c2, _, _⟩ := hW; go_simp; (try with_reducible rfl); done)); (try simp only [Act.put, List.setIfInBounds_toArray, List.set_cons_zero, List.set_cons_succ]))
              refine Plan.step rfl rfl (fun Kk hK => ?_)
              go_simp
              refine hK.out _ _ (hold.alloc _) ?_
              clear hK Kk
              refine Plan.step rfl rfl (fun Kk hK => ?_)
              refine wp_addAny (enc := cellsS) (k := 2) 50 29 32 i0 _ Tryz.underlying50 HI0.out HZ0.out HZ1.out HZ2.out rfl (by decide) cellsS_len cellsS_one _ _ rfl w3.heap.size (.slice (some ⟨g, 0, none⟩) (p.length + 1) c) (p ++ [(l1, l2)]) rfl (Own.alloc HO6.out _) _ _ [(E[k], E[k + 1])] rfl (RdS.one _ (E[k], E[k + 1])) (by simp only [List.length_append, List.length_cons, List.length_nil]; unfold maxLen; omega) (by simp only [List.length_append, List.length_cons, List.length_nil]; omega) (by simp; have := HB35.out.size; omega) ?_
              intro A6 c6 w6 ho6 hg6
              have hlow : ∀ i, (Value.slice (some ⟨g, 0, none⟩) (p.length + 1) c).ownBlock = some i → w3.heap.size ≤ i := fun i hi => (HO6.out.lt i hi).1
              have hold2 := (hold.alloc (.cells #[.string E[k], .string E[k + 1]] 29)).grown hg6 hlow
              (try simp only [Act.put, List.setIfInBounds_toArray, List.set_cons_zero, List.set_cons_succ])
              refine hK.out _ _ hold2 ?_
              clear hK Kk hold
              have HO7 := Lib.hid ho6; clear ho6 hg6 hlow
              have hold := hold2
              repeat (refine Plan.take (v := ?_) rfl rfl ?_ ?_; rotate_left; (focus (intro W hW; obtain ⟨c1, c2, _, _⟩ := hW; go_simp; (try with_reducible rfl); done)); (try simp only [Act.put, List.setIfInBounds_toArray, List.set_cons_zero, List.set_cons_succ]))
              simp only [Plan]
              go_wp2_with fail
              go_roundw
              case rel => exact ⟨k + 2, p ++ [(l1, l2)] ++ [(E[k], E[k + 1])], A6, c6, by omega, .inl (by omega), by go_num, by simp, hold.2.2.1, (by have h : OwnS w6 w3.heap.size _ _ := HO7.out; simpa using h), by rw [HR2.out, HS.out]; rfl, by simp; omega⟩
              case measure => simp [intOf]; omega
        · have hst := bstep_out hv gn out E[k] E[k + 1] (.inr hy)
          have HS := Lib.hid hst; clear hst
          have HYY := Lib.hid hy; clear hy hx
          go_wp2_with fail
          refine HI2.out.mono ?_
          rintro e w4 ⟨rfl, hb4⟩
          have k0 := (hb4.cell (p := ⟨eb, eo + k, none⟩) (by show eb < wr.heap.size; omega)).trans d0
          have k1 := (hb4.cell (p := ⟨eb, eo + (k + 1), none⟩) (by show eb < wr.heap.size; omega)).trans d1
          clear d0 d1
          have hb4w : Below w.heap.size w w4 := HBR.out.trans (hb4.mono HBR.out.size)
          have hg := in_any gn vb E[k] w4 ((H2.out.below hb4w (Nat.le_refl _)).mono hb4w.size) (by omega)
          rw [HYY.out] at hg
          have HG2 := Lib.hid hg; clear hg hb4w
          have HB4 := Lib.hid hb4; clear hb4
          go_wp2_with fail
          refine HG2.out.mono ?_
          rintro e w5 ⟨rfl, hb5⟩
          have HB5 := Lib.hid hb5; clear hb5
          go_wp2_with fail
          go_roundw
          case rel => exact ⟨k + 2, out, A, c, by omega, .inl (by omega), by go_num, rfl, (HB.out.trans (HB4.out.mono hz)).trans (HB5.out.mono (Nat.le_trans hz HB4.out.size)), (HO.out.below HB4.out (Nat.le_refl _)).below HB5.out (Nat.le_refl _), by rw [HR2.out, HS.out]; rfl, by omega⟩
          case measure => simp [intOf]; omega
    · go_wp2_with fail
      have hE2 : E.drop (j - 1) = [] ∨ ∃ x, E.drop (j - 1) = [x] := by
        rcases hd : E.drop (j - 1) with _ | ⟨x, r⟩
        · exact .inl rfl
        · have hl2 := congrArg List.length hd
          rw [List.length_drop, List.length_cons] at hl2
          have : r = [] := List.eq_nil_of_length_eq_zero (by omega)
          exact .inr ⟨x, by rw [this]⟩
      have hfin : R = out := by
        rw [HRR.out]
        rcases hE2 with h0 | ⟨x, h0⟩ <;> rw [h0] <;> rfl
      subst hfin
      refine bodyPost_ret (v := .slice A R.length c) ?_ rfl ⟨_, rfl, HO.out.lower hwz, HBW.out.trans (HB.out.mono hwz), by omega⟩
      simp [results, Tryz.results53, go_sem]
end Go.Proofs.YtcmpbhcldaogiaaGreat
namespace Go.Proofs.YtcmpbhcldaogiaaGreat

theorem lead_le (s : K) : ∀ l : List K, lead s l ≤ l.length
  | [] => Nat.le_refl _
  | x :: r => by rw [lead]; split <;> simp [lead_le s r]
theorem lead_below (s : K) : ∀ (l : List K) (x : K), x ∈ l.take (lead s l) → x < s
  | [], x, h => by simp at h
  | y :: r, x, h => by
    rw [lead] at h
    split at h
    · rename_i hy
      simp only [List.take_succ_cons, List.mem_cons] at h
      rcases h with rfl | h
      · exact hy
      · exact lead_below s r x h
    · simp at h
theorem lead_above (s : K) : ∀ (l : List K), l.Pairwise (· < ·) → ∀ x ∈ l.drop (lead s l), s ≤ x
  | [], _, x, h => by simp at h
  | y :: r, hp, x, h => by
    rw [List.pairwise_cons] at hp
    rw [lead] at h
    split at h
    · exact lead_above s r hp.2 x (by simpa using h)
    · rename_i hy
      simp only [List.drop_zero, List.mem_cons] at h
      rcases h with rfl | h
      · grind
      · have := hp.1 x h; grind
theorem ins_ok (l : List K) (s : K) (hp : l.Pairwise (· < ·)) : (ins l s).Pairwise (· < ·) ∧ ∀ x, x ∈ ins l s ↔ x ∈ l ∨ x = s := by
  have e0 := List.take_append_drop (lead s l) l
  unfold ins
  split
  · rename_i h
    have hs : s ∈ l := List.mem_of_getElem? h
    exact ⟨hp, fun x => ⟨.inl, fun h => by rcases h with h | rfl; · exact h
                                           · exact hs⟩⟩
  · rename_i h
    have hne : ∀ x ∈ l.drop (lead s l), s < x := by
      intro x hx
      have h1 := lead_above s l hp x hx
      have h2 : x ≠ s := by
        rintro rfl
        rcases hd : l.drop (lead x l) with _ | ⟨y, r⟩
        · rw [hd] at hx; cases hx
        · have hy : l[lead x l]? = some y := by rw [← List.head?_drop, hd]; rfl
          rw [hd] at hx
          rcases List.mem_cons.1 hx with rfl | hx
          · exact h hy
          · have hpd : (y :: r).Pairwise (· < ·) := by rw [← hd]; exact hp.sublist (List.drop_sublist _ _)
            have h3 := (List.pairwise_cons.1 hpd).1 x hx
            have h4 := lead_above x l hp y (by rw [hd]; simp)
            grind
      grind
    constructor
    · rw [List.pairwise_append]
      refine ⟨hp.sublist (List.take_sublist _ _), List.pairwise_cons.2 ⟨hne, hp.sublist (List.drop_sublist _ _)⟩, fun x hx y hy => ?_⟩
      have h1 := lead_below s l x hx
      rcases List.mem_cons.1 hy with rfl | hy
      · exact h1
      · have := hne y hy; grind
    · intro x
      rw [List.mem_append, List.mem_cons]
      constructor
      · rintro (h1 | rfl | h1)
        · exact .inl (List.mem_of_mem_take h1)
        · exact .inr rfl
        · exact .inl (List.mem_of_mem_drop h1)
      · rintro (h1 | rfl)
        · rw [← e0, List.mem_append] at h1
          rcases h1 with h1 | h1
          · exact .inl h1
          · exact .inr (.inr h1)
        · exact .inr (.inl rfl)
theorem ends_ok : ∀ (l : List (K × K)) (E : List K), E.Pairwise (· < ·) → (l.foldl ends2 E).Pairwise (· < ·) ∧ ∀ x, x ∈ l.foldl ends2 E ↔ x ∈ E ∨ ∃ s ∈ l, x = s.1 ∨ x = s.2
  | [], E, h => ⟨h, fun x => by simp⟩
  | s :: r, E, h => by
    obtain ⟨a1, a2⟩ := ins_ok E s.1 h
    obtain ⟨b1, b2⟩ := ins_ok (ins E s.1) s.2 a1
    obtain ⟨c1, c2⟩ := ends_ok r (ends2 E s) b1
    refine ⟨c1, fun x => ?_⟩
    rw [List.foldl_cons, c2, show ends2 E s = ins (ins E s.1) s.2 from rfl, b2, a2]
    simp only [List.mem_cons, exists_eq_or_imp]
    constructor
    · intro h; rcases h with ((h | h) | h) | h
      · exact .inl h
      · exact .inr (.inl (.inl h))
      · exact .inr (.inl (.inr h))
      · exact .inr (.inr h)
    · intro h; rcases h with h | (h | h) | h
      · exact .inl (.inl (.inl h))
      · exact .inl (.inl (.inr h))
      · exact .inl (.inr h)
      · exact .inr h

theorem any_mem (l : List (K × K)) (k : K) : (l.any fun s => hasB s k) = true ↔ mem l k := by
  simp [List.any_eq_true, mem, has, hasB]
/-- nothing turns between two ends that follow each other -/
theorem any_same (l : List (K × K)) (a b k : K) (he : ∀ s ∈ l, (s.1 ≤ a ∨ b ≤ s.1) ∧ (s.2 ≤ a ∨ b ≤ s.2)) (h1 : a ≤ k) (h2 : k < b) : (l.any fun s => hasB s k) = (l.any fun s => hasB s a) := by
  rw [Bool.eq_iff_iff, any_mem, any_mem]
  constructor
  · rintro ⟨s, hs, h3, h4⟩
    have := he s hs
    exact ⟨s, hs, by unfold has; grind⟩
  · rintro ⟨s, hs, h3, h4⟩
    have := he s hs
    exact ⟨s, hs, by unfold has; grind⟩

theorem bgo_ok (hv gn : List (K × K)) : ∀ (r : List K) (a : K) (out : List (K × K)), (a :: r).Pairwise (· < ·) → (∀ s ∈ hv ++ gn, (s.1 ≤ a ∨ s.1 ∈ r) ∧ (s.2 ≤ a ∨ s.2 ∈ r)) → Normal out → (∀ s ∈ out, s.2 ≤ a) →
    (∀ k, mem out k ↔ k < a ∧ mem hv k ∧ ¬ mem gn k) → Normal (bgo hv gn out (a :: r)) ∧ ∀ k, mem (bgo hv gn out (a :: r)) k ↔ mem hv k ∧ ¬ mem gn k
  | [], a, out, _, he, hn, _, hm => by
    refine ⟨hn, fun k => ?_⟩
    rw [bgo, hm]
    constructor
    · rintro ⟨_, h⟩; exact h
    · intro h
      refine ⟨?_, h⟩
      obtain ⟨⟨s, hs, h1, h2⟩, _⟩ := h
      have := (he s (by simp [hs])).2
      simp at this
      grind
  | b :: r, a, out, hp, he, hn, hlast, hm => by
    rw [bgo]
    have hab : a < b := (List.pairwise_cons.1 hp).1 b (by simp)
    have hbr := (List.pairwise_cons.1 (List.pairwise_cons.1 hp).2).1
    have hgap : ∀ s ∈ hv ++ gn, (s.1 ≤ a ∨ b ≤ s.1) ∧ (s.2 ≤ a ∨ b ≤ s.2) := by
      intro s hs
      obtain ⟨h1, h2⟩ := he s hs
      constructor
      · rcases h1 with h1 | h1
        · exact .inl h1
        · rcases List.mem_cons.1 h1 with h1 | h1
          · exact .inr (by rw [h1]; exact Std.IsPreorder.le_refl _)
          · have := hbr _ h1; exact .inr (by grind)
      · rcases h2 with h2 | h2
        · exact .inl h2
        · rcases List.mem_cons.1 h2 with h2 | h2
          · exact .inr (by rw [h2]; exact Std.IsPreorder.le_refl _)
          · have := hbr _ h2; exact .inr (by grind)
    have he' : ∀ s ∈ hv ++ gn, (s.1 ≤ b ∨ s.1 ∈ r) ∧ (s.2 ≤ b ∨ s.2 ∈ r) := by
      intro s hs
      obtain ⟨h1, h2⟩ := he s hs
      simp only [List.mem_cons] at h1 h2
      constructor
      · rcases h1 with h1 | h1 | h1
        · exact .inl (by grind)
        · exact .inl (by rw [h1]; exact Std.IsPreorder.le_refl _)
        · exact .inr h1
      · rcases h2 with h2 | h2 | h2
        · exact .inl (by grind)
        · exact .inl (by rw [h2]; exact Std.IsPreorder.le_refl _)
        · exact .inr h2
    have hH : ∀ k, a ≤ k → k < b → (mem hv k ↔ mem hv a) := fun k h1 h2 => by rw [← any_mem, ← any_mem, any_same hv a b k (fun s hs => hgap s (by simp [hs])) h1 h2]
    have hG : ∀ k, a ≤ k → k < b → (mem gn k ↔ mem gn a) := fun k h1 h2 => by rw [← any_mem, ← any_mem, any_same gn a b k (fun s hs => hgap s (by simp [hs])) h1 h2]
    by_cases hc : (hv.any fun s => hasB s a) = false ∨ (gn.any fun s => hasB s a) = true
    · rw [bstep_out hv gn out a b hc]
      refine bgo_ok hv gn r b out (List.pairwise_cons.1 hp).2 he' hn (fun s hs => by have := hlast s hs; grind) fun k => ?_
      have hno : ¬ (mem hv a ∧ ¬ mem gn a) := by
        rw [← any_mem, ← any_mem]
        rcases hc with h | h <;> simp [h]
      rw [hm k]
      constructor
      · rintro ⟨h1, h2⟩; exact ⟨by grind, h2⟩
      · rintro ⟨h1, h2⟩
        refine ⟨?_, h2⟩
        rcases Std.le_total (a := a) (b := k) with h3 | h3
        · exact absurd ⟨(hH k h3 h1).1 h2.1, fun h => h2.2 ((hG k h3 h1).2 h)⟩ hno
        · by_cases h4 : k = a
          · subst h4; exact absurd h2 hno
          · grind
    · have hh : (hv.any fun s => hasB s a) = true := by
        cases h : (hv.any fun s => hasB s a)
        · exact absurd (.inl h) hc
        · rfl
      have hg : (gn.any fun s => hasB s a) = false := by
        cases h : (gn.any fun s => hasB s a)
        · rfl
        · exact absurd (.inr h) hc
      have hin : mem hv a ∧ ¬ mem gn a := ⟨(any_mem _ _).1 hh, fun h => by rw [(any_mem _ _).2 h] at hg; cases hg⟩
      have hkey : ∀ k, (k < b ∧ mem hv k ∧ ¬ mem gn k) ↔ (mem out k ∨ (a ≤ k ∧ k < b)) := fun k => by
        rw [hm k]
        constructor
        · rintro ⟨h1, h2⟩
          rcases Std.le_total (a := a) (b := k) with h3 | h3
          · exact .inr ⟨h3, h1⟩
          · by_cases h4 : k = a
            · exact .inr ⟨by rw [h4]; exact Std.IsPreorder.le_refl _, h1⟩
            · exact .inl ⟨by grind, h2⟩
        · rintro (⟨h1, h2⟩ | ⟨h1, h2⟩)
          · exact ⟨by grind, h2⟩
          · exact ⟨h2, (hH k h1 h2).2 hin.1, fun h => hin.2 ((hG k h1 h2).1 h)⟩
      rcases List.eq_nil_or_concat out with rfl | ⟨p, l, rfl⟩
      · rw [bstep_new hv gn a b hh hg]
        refine bgo_ok hv gn r b _ (List.pairwise_cons.1 hp).2 he' ⟨hab, by simp, trivial⟩ (by simp) fun k => ?_
        rw [hkey k]
        simp [mem, has]
      · rw [List.concat_eq_append] at *
        rw [bstep_snoc hv gn p l a b hh hg]
        obtain ⟨n1, n2, n3⟩ := normal_append.1 hn
        have hl0 : l.2 ≤ a := hlast l (by simp)
        have hl1 : l.1 < l.2 := n2.1
        by_cases hla : l.2 = a
        · rw [if_pos hla]
          refine bgo_ok hv gn r b _ (List.pairwise_cons.1 hp).2 he' (normal_append.2 ⟨n1, ⟨by show l.1 < b; grind, by simp, trivial⟩, fun u hu t ht => ?_⟩) (fun s hs => ?_) fun k => ?_
          · simp only [List.mem_singleton] at ht; subst ht; exact n3 u hu l (by simp)
          · rcases List.mem_append.1 hs with hs | hs
            · have := hlast s (by simp [hs]); grind
            · simp only [List.mem_singleton] at hs; subst hs; exact Std.IsPreorder.le_refl _
          · rw [hkey k]
            simp only [mem_append, mem_cons, mem_nil, or_false, has]
            have e : (l.1 ≤ k ∧ k < l.2 ∨ a ≤ k ∧ k < b) ↔ (l.1 ≤ k ∧ k < b) := by grind
            constructor
            · rintro (h | h)
              · exact .inl (.inl h)
              · rcases e.2 h with h | h
                · exact .inl (.inr h)
                · exact .inr h
            · rintro ((h | h) | h)
              · exact .inl h
              · exact .inr (e.1 (.inl h))
              · exact .inr (e.1 (.inr h))
        · rw [if_neg hla]
          refine bgo_ok hv gn r b _ (List.pairwise_cons.1 hp).2 he' (normal_append.2 ⟨hn, ⟨hab, by simp, trivial⟩, fun u hu t ht => ?_⟩) (fun s hs => ?_) fun k => ?_
          · simp only [List.mem_singleton] at ht; subst ht
            rcases List.mem_append.1 hu with hu | hu
            · have := n3 u hu l (by simp); show u.2 < a; grind
            · simp only [List.mem_singleton] at hu; subst hu; show u.2 < a; grind
          · rcases List.mem_append.1 hs with hs | hs
            · have := hlast s hs; grind
            · simp only [List.mem_singleton] at hs; subst hs; exact Std.IsPreorder.le_refl _
          · rw [hkey k]
            simp only [mem_append, mem_cons, mem_nil, or_false, has]
theorem build_ok (hv gn : List (K × K)) : Normal (bgo hv gn [] ((hv ++ gn).foldl ends2 [])) ∧ ∀ k, mem (bgo hv gn [] ((hv ++ gn).foldl ends2 [])) k ↔ mem hv k ∧ ¬ mem gn k := by
  obtain ⟨h1, h2⟩ := ends_ok (hv ++ gn) [] .nil
  rcases hE : (hv ++ gn).foldl ends2 [] with _ | ⟨a, r⟩
  · refine ⟨trivial, fun k => ?_⟩
    rw [bgo]
    refine ⟨fun h => absurd h (mem_nil k), fun h => ?_⟩
    obtain ⟨⟨s, hs, _⟩, _⟩ := h
    have := (h2 s.1).2 (.inr ⟨s, by simp [hs], .inl rfl⟩)
    rw [hE] at this; cases this
  · rw [hE] at h1 h2
    have hall : ∀ s ∈ hv ++ gn, (s.1 = a ∨ s.1 ∈ r) ∧ (s.2 = a ∨ s.2 ∈ r) := fun s hs =>
      ⟨List.mem_cons.1 ((h2 s.1).2 (.inr ⟨s, hs, .inl rfl⟩)), List.mem_cons.1 ((h2 s.2).2 (.inr ⟨s, hs, .inr rfl⟩))⟩
    refine bgo_ok hv gn r a [] h1 (fun s hs => ?_) trivial (by simp) fun k => ?_
    · obtain ⟨q1, q2⟩ := hall s hs
      exact ⟨q1.imp (fun h => by rw [h]; exact Std.IsPreorder.le_refl _) id, q2.imp (fun h => by rw [h]; exact Std.IsPreorder.le_refl _) id⟩
    · refine ⟨fun h => absurd h (mem_nil k), fun h => ?_⟩
      obtain ⟨hk, ⟨s, hs, h3, _⟩, _⟩ := h
      have hge : a ≤ s.1 := by
        rcases (hall s (by simp [hs])).1 with h | h
        · rw [h]; exact Std.IsPreorder.le_refl _
        · have := (List.pairwise_cons.1 h1).1 _ h; grind
      grind
end Go.Proofs.YtcmpbhcldaogiaaGreat
namespace Go.Proofs.YtcmpbhcldaogiaaGreat
open Go.RowKit
attribute [local go_sem] less_eq same_eq le_eq ge_eq gt_eq

def Fits (l : List (K × K)) (P : K → Prop) : Prop := Normal l ∧ ∀ k, mem l k ↔ P k
theorem Fits.eq {a b : List (K × K)} {P : K → Prop} (h1 : Fits a P) (h2 : Fits b P) : a = b := normal_ext a b h1.1 h2.1 fun k => (h1.2 k).trans (h2.2 k).symm

set_option maxHeartbeats 400000 in
theorem rjoin_any (l : List (K × K)) (v : Value) (w : World) (hv : RdS w w.heap.size v l) (hl : l.length ≤ 100000) : Calls Tryz.prog 35 #[v] w fun e w' =>
    ∃ v' R, e = .returned v' ∧ OwnS w' w.heap.size v' R ∧ Below w.heap.size w w' ∧ Fits R (fun k => mem l k) ∧ R.length ≤ 200000 := by
  have hb := build_any l [] v (.slice none 0 0) w hv ⟨none, 0, rfl, Nat.le_refl _, fun i s hs => by simp at hs⟩ (by simpa using hl)
  have hf := build_ok l []
  generalize bgo l [] [] ((l ++ []).foldl ends2 []) = R at hb hf
  have HB := Lib.hid hb; clear hb
  have HF := Lib.hid hf; clear hf
  go_enter Tryz.func35, Tryz.ntmps35
  go_wp2_with fail
  refine HB.out.mono ?_
  rintro e w1 ⟨v1, rfl, ho, hb, hlen⟩
  have HO := Lib.hid ho; clear ho
  have HB1 := Lib.hid hb; clear hb
  go_wp2_with fail
  go_ret
  exact ⟨v1, R, rfl, HO.out, HB1.out, ⟨HF.out.1, fun k => by rw [HF.out.2 k]; simp [mem_nil]⟩, hlen⟩

set_option maxHeartbeats 400000 in
theorem rwithout_any (s : K × K) (l : List (K × K)) (v : Value) (w : World) (hv : RdS w w.heap.size v l) (hl : l.length ≤ 99000) : Calls Tryz.prog 40 #[.agg #[.string s.1, .string s.2], v] w fun e w' =>
    ∃ v' R, e = .returned v' ∧ OwnS w' w.heap.size v' R ∧ Below w.heap.size w w' ∧ Fits R (fun k => has s k ∧ ¬ mem l k) ∧ R.length ≤ 200000 := by
  have hb2 : Below w.heap.size w ((w.alloc (.cells #[.string s.1, .string s.2] 29)).alloc (.cells #[.string s.1, .string s.2] 29)) := ((Below.refl _ w).alloc (Nat.le_refl _) _).alloc (by simp) _
  have h1 : RdS ((w.alloc (.cells #[.string s.1, .string s.2] 29)).alloc (.cells #[.string s.1, .string s.2] 29)) (w.heap.size + 2) (.slice (some ⟨w.heap.size + 1, 0, none⟩) 1 1) [s] := by
    refine ⟨_, 1, rfl, Nat.le_refl _, fun i t ht => ⟨w.heap.size + 1, 0, rfl, by omega, ?_, ?_⟩⟩
    all_goals
      rw [World.cell?_alloc_at _ _ _ _ (by simp)]
      match i, ht with
      | 0, ht => simp at ht; subst ht; rfl
  have hb := build_any [s] l (.slice (some ⟨w.heap.size + 1, 0, none⟩) 1 1) v _ (by simpa using h1) ((hv.below hb2 (Nat.le_refl _)).mono hb2.size) (by simp; omega)
  have hf := build_ok [s] l
  generalize bgo [s] l [] (([s] ++ l).foldl ends2 []) = R at hb hf
  have HB := Lib.hid hb; clear hb
  have HF := Lib.hid hf; clear hf
  have HB2 := Lib.hid hb2; clear hb2 h1
  go_enter Tryz.func40, Tryz.ntmps40
  go_wp2_with fail
  refine HB.out.mono ?_
  rintro e w1 ⟨v1, rfl, ho, hb, hlen⟩
  have HO := Lib.hid ho; clear ho
  have HB1 := Lib.hid hb; clear hb
  go_wp2_with fail
  go_ret
  exact ⟨v1, R, rfl, HO.out.lower (by simp; omega), HB2.out.trans (HB1.out.mono (by simp; omega)), ⟨HF.out.1, fun k => by rw [HF.out.2 k]; simp [mem]⟩, hlen⟩
end Go.Proofs.YtcmpbhcldaogiaaGreat
namespace Go.Proofs.YtcmpbhcldaogiaaGreat
open Go.RowKit
section
variable {P : Program} {ops : Array Oper} {Q : Exit → Act → World → Prop}

theorem wpAnyH_weaken {S S' : World → Prop} (h : ∀ W, S' W → S W) {md : Region.Mode} : ∀ (fuel : Nat) (listed : Array Bool) (a : Act) (w : World), wpAnyH P md ops Q S' fuel listed a w → wpAnyH P md ops Q S fuel listed a w
  | 0, _, _, _, hh => hh
  | fuel + 1, _, _, _, hh => ⟨hh.1, fun i hi => wpOp_mono (fun a' w' h' => ⟨h _ h'.1, wpAnyH_weaken h fuel _ a' w' h'.2⟩) (hh.2 i hi)⟩

def PlanB (P : Program) (ops : Array Oper) (Q : Exit → Act → World → Prop) : List (Bool × Nat) → Act → World → Prop
  | [], a, w => Q .normal a w
  | (true, i) :: r, a, w => ∃ o v, ops[i]? = some o ∧ YieldsIf P ops (fun W => Below w.heap.size w W) o v a ∧ PlanB P ops Q r (a.put o.dst v) w
  | (false, i) :: r, a, w => wpOp P ops Q i (fun a' w' => Below w.heap.size w w' ∧ PlanB P ops Q r a' w') a w

theorem PlanB.any (hs : Region.noSelect ops = true) (hQ : ∀ c a d v w, Q (.panic c) (Act.put a d v) w → Q (.panic c) a w) : ∀ (plan : List (Bool × Nat)) (fuel : Nat) (listed : Array Bool) (a : Act) (w : World),
    plan.length ≤ fuel → planOk ops plan listed = true → PlanB P ops Q plan a w → wpAnyH P .any ops Q (fun W => Below w.heap.size w W) fuel listed a w
  | [], fuel, listed, a, w, _, hp, h => wpAnyH_done (by simpa [planOk] using hp) h fuel
  | (true, i) :: r, fuel + 1, listed, a, w, hf, hp, h => by
    obtain ⟨o, v, ho, hy, hr⟩ := h
    simp only [planOk, Bool.and_eq_true] at hp
    exact wpAnyH_take ho hs hp.1.1 hp.1.2 (fun c a w => hQ c a _ _ w) hy (Below.refl _ _) (PlanB.any hs hQ r fuel _ _ _ (by simpa using hf) hp.2 hr)
  | (false, i) :: r, fuel + 1, listed, a, w, hf, hp, h => by
    simp only [planOk, Bool.and_eq_true, beq_iff_eq] at hp
    refine wpAnyH_all hp.1 (by simp) fun j hj => ?_
    obtain rfl : j = i := by simpa using hj
    refine wpOp_mono (fun a' w' h' => ⟨h'.1, ?_⟩) h
    exact wpAnyH_weaken (fun W hW => h'.1.trans (hW.mono h'.1.size)) _ _ _ _ (PlanB.any hs hQ r fuel _ _ _ (by simpa using hf) hp.2 h'.2)
  | (true, _) :: _, 0, _, _, _, hf, _, _ => by simp at hf
  | (false, _) :: _, 0, _, _, _, hf, _, _ => by simp at hf

theorem wp_region_planB (plan : List (Bool × Nat)) {id : Nat} {a : Act} {w : World} (hm : P.follows .mixedOrders = true) (hs : (Region.noSelect ops && planOk ops plan (Array.replicate ops.size false) && decide (plan.length ≤ ops.size)) = true)
    (hQ : ∀ c a d v w, Q (.panic c) (Act.put a d v) w → Q (.panic c) a w) (h : PlanB P ops Q plan a w.drew) : (Code.region id ops true).wp P Q a w := by
  simp only [Bool.and_eq_true, decide_eq_true_eq] at hs
  exact wp_region_held hm (PlanB.any hs.1.1 hQ plan _ _ _ _ hs.2 hs.1.2 h)

theorem PlanB.take {i : Nat} {o : Oper} {v : Value} {r : List (Bool × Nat)} {a : Act} {w : World} (hi : ops.toList[i]? = some o) (hw : Region.wanted o (yielded ops a.tmps) = true)
    (hy : ∀ W, Below w.heap.size w W → (execOp a.eval o).run P W = .ok (.value v) W) (h : PlanB P ops Q r (a.put o.dst v) w) : PlanB P ops Q ((true, i) :: r) a w :=
  ⟨o, v, by simpa using hi, .inl ⟨hw, hy⟩, h⟩
theorem PlanB.skip {i : Nat} {o : Oper} {r : List (Bool × Nat)} {a : Act} {w : World} (hi : ops.toList[i]? = some o) (hw : Region.wanted o (yielded ops a.tmps) = false)
    (h : PlanB P ops Q r (a.put o.dst undef) w) : PlanB P ops Q ((true, i) :: r) a w :=
  ⟨o, undef, by simpa using hi, .inr ⟨hw, rfl⟩, h⟩
theorem PlanB.step {i : Nat} {o : Oper} {r : List (Bool × Nat)} {a : Act} {w : World} (hi : ops.toList[i]? = some o) (hw : Region.wanted o (yielded ops a.tmps) = true)
    (h : ∀ K : Act → World → Prop, Shut (∀ a w', Below w.heap.size w w' → PlanB P ops Q r a w' → K a w') → Oper.wp P o a w K Q) : PlanB P ops Q ((false, i) :: r) a w := by
  show wpOp P ops Q i _ a w
  refine wpOp_step (o := o) (by simpa using hi) fun K' hK => ?_
  rw [if_pos hw]
  exact h K' fun a w h1 h2 => hK a w ⟨h1, h2⟩
end
end Go.Proofs.YtcmpbhcldaogiaaGreat
namespace Go.Proofs.YtcmpbhcldaogiaaGreat
open Go.RowKit
attribute [local go_sem] less_eq same_eq le_eq ge_eq gt_eq

structure Chg where
  kind : Int
  key : K
  val : K
instance : DecidableEq Chg := fun a b => decidable_of_iff (a.kind = b.kind ∧ a.key = b.key ∧ a.val = b.val) ⟨fun h => by cases a; cases b; simp only at h; obtain ⟨rfl, rfl, rfl⟩ := h; rfl, fun h => by subst h; exact ⟨rfl, rfl, rfl⟩⟩
def cval (c : Chg) : Value := .agg #[.int .i64 c.kind, .string c.key, .string c.val]
def encC (c : Chg) : List Value := [.int .i64 c.kind, .string c.key, .string c.val]
theorem encC_len (c : Chg) : (encC c).length = 3 := rfl
theorem encC_one (c : Chg) : ∀ u ∈ encC c, u.oneCell' = true := by
  intro u hu
  simp [encC] at hu
  rcases hu with rfl | rfl | rfl <;> rfl
abbrev RdC (w : World) (B : Nat) (v : Value) (l : List Chg) : Prop := Rd encC 3 w B v l
abbrev OwnC (w : World) (base : Nat) (v : Value) (l : List Chg) : Prop := Own encC 3 48 w base v l
abbrev RdP (w : World) (B : Nat) (v : Value) (l : List (K × K)) : Prop := Rd cellsS 2 w B v l
theorem info_chg : (Tryz.prog.info? 48).map (fun i => (i.zero, i.size, i.bytes)) = some (some (.agg #[.int .i64 0, .string ⟨#[]⟩, .string ⟨#[]⟩]), 3, 40) := by kernel_rfl

theorem RdC.at {w : World} {B : Nat} {v : Value} {l : List Chg} (h : RdC w B v l) : ∃ A c, v = .slice A l.length c ∧ l.length ≤ c ∧ ∀ i (_ : i < l.length), ∃ b o, A = some ⟨b, o, none⟩ ∧ b < B ∧
    w.cell? ⟨b, o + i * 3, none⟩ = some (.int .i64 l[i].kind) ∧ w.cell? ⟨b, o + i * 3 + 1, none⟩ = some (.string l[i].key) ∧ w.cell? ⟨b, o + i * 3 + 2, none⟩ = some (.string l[i].val) := by
  obtain ⟨A, c, hv, hc, hi⟩ := h
  refine ⟨A, c, hv, hc, fun i hs => ?_⟩
  obtain ⟨b, o, hA, hB, h1⟩ := hi i hs
  exact ⟨b, o, hA, hB, h1 0 _ rfl, h1 1 _ rfl, h1 2 _ rfl⟩
theorem RdP.at {w : World} {B : Nat} {v : Value} {l : List (K × K)} (h : RdP w B v l) : ∃ A c, v = .slice A l.length c ∧ l.length ≤ c ∧ ∀ i (_ : i < l.length), ∃ b o, A = some ⟨b, o, none⟩ ∧ b < B ∧
    w.cell? ⟨b, o + i * 2, none⟩ = some (.string l[i].1) ∧ w.cell? ⟨b, o + i * 2 + 1, none⟩ = some (.string l[i].2) := by
  obtain ⟨A, c, hv, hc, hi⟩ := h
  refine ⟨A, c, hv, hc, fun i hs => ?_⟩
  obtain ⟨b, o, hA, hB, h1⟩ := hi i hs
  exact ⟨b, o, hA, hB, h1 0 _ rfl, h1 1 _ rfl⟩

/-- what Check answers -/
def checkAns (c : Chg) : Int :=
  if c.kind = 1 then (if c.key.size > 16 ∨ c.val.size > 64 then 6 else 0)
  else if c.kind = 2 then (if c.key.size > 16 ∨ c.val.size > 0 then 6 else 0)
  else if c.kind = 3 then (if c.key.size > 17 ∨ c.val.size > 17 then 6 else if c.val < c.key then 5 else 0)
  else 1
/-- the keys that a change names -/
def cspan (c : Chg) : K × K := if c.kind = 3 then (c.key, c.val) else (c.key, c.key ++ ⟨#[0]⟩)

set_option maxHeartbeats 4000000 in
set_option maxRecDepth 100000 in
theorem rcheck_any (c : Chg) (w : World) (hk : c.key.size < 9223372036854775807) (hv : c.val.size < 9223372036854775807) : Calls Tryz.prog 52 #[cval c] w fun e w' => e = .returned (.int .i64 (checkAns c)) ∧ Below w.heap.size w w' := by
  obtain ⟨k, x, y⟩ := c
  obtain ⟨R, hR⟩ : ∃ R, R = checkAns ⟨k, x, y⟩ := ⟨_, rfl⟩
  rw [← hR]
  unfold checkAns at hR
  unfold cval
  simp only at hR hk hv ⊢
  go_enter Tryz.func52, Tryz.ntmps52
  go_wp2_with fail
  have HB := Lib.hid (((Below.refl _ w).alloc (Nat.le_refl _) (.cells #[.int .i64 k, .string x, .string y] 48)).drew)
  have HC := Lib.hid (show ∀ W, Below (w.alloc (.cells #[.int .i64 k, .string x, .string y] 48)).drew.heap.size (w.alloc (.cells #[.int .i64 k, .string x, .string y] 48)).drew W →
      W.cell? ⟨w.heap.size, 0, none⟩ = some (.int .i64 k) ∧ W.cell? ⟨w.heap.size, 1, none⟩ = some (.string x) ∧ W.cell? ⟨w.heap.size, 2, none⟩ = some (.string y) from fun W hW => by
    have hlt : w.heap.size < (w.alloc (.cells #[.int .i64 k, .string x, .string y] 48)).drew.heap.size := by show _ < (w.alloc _).heap.size; simp
    exact ⟨(hW.cell (p := ⟨w.heap.size, 0, none⟩) hlt).trans (World.cell?_alloc_at _ _ _ _ rfl), (hW.cell (p := ⟨w.heap.size, 1, none⟩) hlt).trans (World.cell?_alloc_at _ _ _ _ rfl), (hW.cell (p := ⟨w.heap.size, 2, none⟩) hlt).trans (World.cell?_alloc_at _ _ _ _ rfl)⟩)
  refine wp_region_planB [(true, 0), (true, 1), (true, 2), (true, 3), (true, 4), (true, 5), (true, 6), (true, 7)] (by kernel_rfl) (by kernel_rfl) (fun _ _ d _ _ h => by cases d <;> exact h) ?_
  generalize (w.alloc (.cells #[.int .i64 k, .string x, .string y] 48)).drew = w1 at HB HC ⊢
  obtain ⟨g, hg⟩ : ∃ g, g = w.heap.size := ⟨_, rfl⟩
  rw [← hg] at HC ⊢
  clear hg
  repeat (refine PlanB.take (v := ?_) rfl rfl ?_ ?_; rotate_left; (focus (intro W hW; obtain ⟨k0, k1, k2⟩ := HC.out W hW; go_simp; (try with_reducible rfl); done)); (try simp only [Act.put, List.setIfInBounds_toArray, List.set_cons_zero, List.set_cons_succ]))
  simp only [PlanB]
  obtain ⟨k0, k1, k2⟩ := HC.out w1 (Below.refl _ _)
  by_cases h1 : k = 1
  · rw [if_pos h1] at hR
    subst h1
    by_cases ha : x.size > 16
    · rw [if_pos (.inl ha)] at hR
      have HR := Lib.hid hR; clear hR
      have ha1 : (16 : Int) < (x.size : Int) := by omega
      go_wp2_with fail
      go_ret
      exact ⟨by rw [HR.out]; rfl, HB.out⟩
    by_cases hb : y.size > 64
    · rw [if_pos (.inr hb)] at hR
      have HR := Lib.hid hR; clear hR
      have ha1 : ¬ (16 : Int) < (x.size : Int) := by omega
      have hb1 : (64 : Int) < (y.size : Int) := by omega
      go_wp2_with fail
      go_ret
      exact ⟨by rw [HR.out]; rfl, HB.out⟩
    rw [if_neg (by omega)] at hR
    have ha1 : ¬ (16 : Int) < (x.size : Int) := by omega
    have hb1 : ¬ (64 : Int) < (y.size : Int) := by omega
    have HR := Lib.hid hR; clear hR
    go_wp2_with fail
    go_ret
    exact ⟨by rw [HR.out]; rfl, HB.out⟩
  by_cases h2 : k = 2
  · rw [if_neg h1, if_pos h2] at hR
    subst h2
    clear h1
    by_cases ha : x.size > 16
    · rw [if_pos (.inl ha)] at hR
      have HR := Lib.hid hR; clear hR
      have ha1 : (16 : Int) < (x.size : Int) := by omega
      go_wp2_with fail
      go_ret
      exact ⟨by rw [HR.out]; rfl, HB.out⟩
    by_cases hb : y.size > 0
    · rw [if_pos (.inr hb)] at hR
      have HR := Lib.hid hR; clear hR
      have ha1 : ¬ (16 : Int) < (x.size : Int) := by omega
      have hb1 : (0 : Int) < (y.size : Int) := by omega
      go_wp2_with fail
      go_ret
      exact ⟨by rw [HR.out]; rfl, HB.out⟩
    rw [if_neg (by omega)] at hR
    have ha1 : ¬ (16 : Int) < (x.size : Int) := by omega
    have hb1 : ¬ (0 : Int) < (y.size : Int) := by omega
    have HR := Lib.hid hR; clear hR
    go_wp2_with fail
    go_ret
    exact ⟨by rw [HR.out]; rfl, HB.out⟩
  by_cases h3 : k = 3
  · rw [if_neg h1, if_neg h2, if_pos h3] at hR
    subst h3
    clear h1 h2
    by_cases ha : x.size > 17
    · rw [if_pos (.inl ha)] at hR
      have HR := Lib.hid hR; clear hR
      have ha1 : (17 : Int) < (x.size : Int) := by omega
      go_wp2_with fail
      go_ret
      exact ⟨by rw [HR.out]; rfl, HB.out⟩
    by_cases hb : y.size > 17
    · rw [if_pos (.inr hb)] at hR
      have HR := Lib.hid hR; clear hR
      have ha1 : ¬ (17 : Int) < (x.size : Int) := by omega
      have hb1 : (17 : Int) < (y.size : Int) := by omega
      go_wp2_with fail
      go_ret
      exact ⟨by rw [HR.out]; rfl, HB.out⟩
    rw [if_neg (by omega)] at hR
    have ha1 : ¬ (17 : Int) < (x.size : Int) := by omega
    have hb1 : ¬ (17 : Int) < (y.size : Int) := by omega
    by_cases hl : y < x
    · rw [if_pos hl] at hR
      have HR := Lib.hid hR; clear hR
      go_wp2_with fail
      go_ret
      exact ⟨by rw [HR.out]; rfl, HB.out⟩
    rw [if_neg hl] at hR
    have HR := Lib.hid hR; clear hR
    go_wp2_with fail
    go_ret
    exact ⟨by rw [HR.out]; rfl, HB.out⟩
  rw [if_neg h1, if_neg h2, if_neg h3] at hR
  have HR := Lib.hid hR; clear hR
  go_wp2_with fail
  go_ret
  exact ⟨by rw [HR.out]; rfl, HB.out⟩
end Go.Proofs.YtcmpbhcldaogiaaGreat
namespace Go.Proofs.YtcmpbhcldaogiaaGreat
open Go.RowKit
attribute [local go_sem] less_eq same_eq le_eq ge_eq gt_eq

set_option maxHeartbeats 1000000 in
set_option maxRecDepth 100000 in
theorem rspan_any (c : Chg) (w : World) (hk : c.key.size < 4611686018427387904) : Calls Tryz.prog 34 #[cval c] w fun e w' => e = .returned (spv (cspan c)) ∧ Below w.heap.size w w' := by
  obtain ⟨k, x, y⟩ := c
  unfold cval cspan spv
  simp only at hk ⊢
  have hb : Below w.heap.size w ((w.alloc (.cells #[.int .i64 k, .string x, .string y] 48)).alloc (.cells #[.string ⟨#[]⟩, .string ⟨#[]⟩] 29)) := ((Below.refl _ w).alloc (Nat.le_refl _) _).alloc (by simp) _
  have HB := Lib.hid hb; clear hb
  clear HB
  by_cases h3 : k = 3
  · subst h3
    rw [if_pos rfl]
    go_enter Tryz.func34, Tryz.ntmps34
    go_wp2_with fail
    refine bodyPost_ret (v := .agg #[.string x, .string y]) (by simp [results, Tryz.results34, go_sem]) rfl ⟨rfl, ?_⟩
    ((repeat' (first | exact Below.refl _ _ | refine Below.alloc ?_ ?_ _ | refine Below.setCell ?_ ?_ _ | refine Below.drew ?_)); all_goals ((try simp only [World.size_alloc]); omega))
  · rw [if_neg h3]
    go_enter Tryz.func34, Tryz.ntmps34
    go_wp2_with fail
    refine bodyPost_ret (v := .agg #[.string x, .string (x ++ ⟨#[0]⟩)]) (by simp [results, Tryz.results34, go_sem]) rfl ⟨rfl, ?_⟩
    ((repeat' (first | exact Below.refl _ _ | refine Below.alloc ?_ ?_ _ | refine Below.setCell ?_ ?_ _ | refine Below.drew ?_)); all_goals ((try simp only [World.size_alloc]); omega))

def smallC (c : Chg) : Prop := c.key.size < 4611686018427387904 ∧ c.val.size < 4611686018427387904
/-- the first error -/
def allAns : List Chg → Int
  | [] => 0
  | c :: r => if checkAns c = 0 then allAns r else checkAns c

set_option maxHeartbeats 1000000 in
set_option maxRecDepth 100000 in
theorem rall_any (l : List Chg) (hs : ∀ c ∈ l, smallC c) (v : Value) (w : World) (hv : RdC w w.heap.size v l) (hl : l.length < 4611686018427387904) :
    Calls Tryz.prog 33 #[v] w fun e w' => e = .returned (.int .i64 (allAns l)) ∧ Below w.heap.size w w' := by
  obtain ⟨A, c, rfl, hc, hi⟩ := hv.at
  obtain ⟨R, hR⟩ : ∃ R, R = allAns l := ⟨_, rfl⟩
  rw [← hR]
  have HR := Lib.hid hR; clear hR
  have HI := Lib.hid hi; clear hi
  have HS := Lib.hid hs; clear hs
  clear hv
  obtain ⟨g, hg⟩ : ∃ g, g = w.heap.size := ⟨_, rfl⟩
  have HG := Lib.hid hg; clear hg
  go_enter Tryz.func33, Tryz.ntmps33
  go_wp2_with fail
  go_loopw [3] (fun iv wr => ∃ i : Nat, i ≤ l.length ∧ iv = .int .i64 i ∧ Below g w wr ∧ R = allAns (l.drop i)) (fun iv _ => l.length - (intOf iv).toNat)
  case atStart => exact ⟨0, Nat.zero_le _, rfl, Below.refl _ _, HR.out⟩
  case round =>
    obtain ⟨i, hil, rfl, hbw, he⟩ := hrel
    have HBW := Lib.hid hbw; clear hbw
    have HE := Lib.hid he; clear he
    by_cases hlt : i < l.length
    · obtain ⟨b, o, rfl, hbB, k0, k1, k2⟩ := HI.out i hlt
      have hsm := HS.out l[i] (List.getElem_mem hlt)
      have hd := HE.out
      rw [List.drop_eq_getElem_cons hlt, allAns] at hd
      rw [← HBW.out.cell (p := ⟨b, o + i * 3, none⟩) (by rw [HG.out]; exact hbB)] at k0
      rw [← HBW.out.cell (p := ⟨b, o + i * 3 + 1, none⟩) (by rw [HG.out]; exact hbB)] at k1
      rw [← HBW.out.cell (p := ⟨b, o + i * 3 + 2, none⟩) (by rw [HG.out]; exact hbB)] at k2
      generalize l[i] = z at k0 k1 k2 hsm hd
      have hck := rcheck_any z wr (by have := hsm.1; omega) (by have := hsm.2; omega)
      unfold cval at hck
      generalize checkAns z = q at hck hd
      obtain ⟨kz, xz, yz⟩ := z
      simp only at k0 k1 k2 hck
      have HD := Lib.hid hd
      have HK := Lib.hid hck
      clear hd hck hsm
      go_wp2_with fail
      refine HK.out.mono ?_
      rintro e w2 ⟨rfl, hb2⟩
      have HW2 := Lib.hid (show Below g w w2 from HBW.out.trans (hb2.mono (by rw [HG.out]; exact HBW.out.size)))
      clear hb2 k0 k1 k2
      by_cases hq : q = 0
      · subst hq
        have hd := HD.out
        rw [if_pos rfl] at hd
        have HD2 := Lib.hid hd; clear hd
        go_wp2_with fail
        go_roundw
        case rel => exact ⟨i + 1, by omega, by go_num, HW2.out, HD2.out⟩
        case measure => simp [intOf]; omega
      · have hd := HD.out
        rw [if_neg hq] at hd
        have HD2 := Lib.hid hd; clear hd
        go_wp2_with fail
        go_ret
        exact ⟨by rw [HD2.out]; rfl, by have h := HW2.out; rwa [HG.out] at h⟩
    · have hd := HE.out
      rw [List.drop_eq_nil_of_le (by omega), allAns] at hd
      have HD := Lib.hid hd; clear hd
      go_wp2_with fail
      go_ret
      exact ⟨by rw [HD.out]; rfl, by have h := HBW.out; rwa [HG.out] at h⟩
end Go.Proofs.YtcmpbhcldaogiaaGreat
namespace Go.Proofs.YtcmpbhcldaogiaaGreat
open Go.RowKit

/-- take i: number i yields the same whenever it comes up; step i: it comes up alone; fork: one of two comes up -/
inductive PT
  | done
  | take (i : Nat) (n : PT)
  | step (i : Nat) (n : PT)
  | fork (i : Nat) (n : PT) (j : Nat) (m : PT)
  | fork3 (i : Nat) (n : PT) (j : Nat) (m : PT) (k : Nat) (q : PT)
def PT.depth : PT → Nat
  | .done => 0
  | .take _ n => n.depth + 1
  | .step _ n => n.depth + 1
  | .fork _ n _ m => max n.depth m.depth + 1
  | .fork3 _ n _ m _ q => max n.depth (max m.depth q.depth) + 1
def ptOk (ops : Array Oper) : PT → Array Bool → Bool
  | .done, listed => (Region.ready .any ops listed).isEmpty
  | .take i n, listed => Region.free .any ops listed i && (Region.ready .any ops listed).contains i && ptOk ops n (listed.setIfInBounds i true)
  | .step i n, listed => Region.ready .any ops listed == [i] && ptOk ops n (listed.setIfInBounds i true)
  | .fork i n j m, listed => Region.ready .any ops listed == [i, j] && (ptOk ops n (listed.setIfInBounds i true) && ptOk ops m (listed.setIfInBounds j true))
  | .fork3 i n j m k q, listed => Region.ready .any ops listed == [i, j, k] && (ptOk ops n (listed.setIfInBounds i true) && (ptOk ops m (listed.setIfInBounds j true) && ptOk ops q (listed.setIfInBounds k true)))
section
variable {P : Program} {ops : Array Oper} {Q : Exit → Act → World → Prop} {S : World → Prop}
def PlanT (P : Program) (ops : Array Oper) (S : World → Prop) (Q : Exit → Act → World → Prop) : PT → Act → World → Prop
  | .done, a, w => Q .normal a w
  | .take i n, a, w => ∃ o v, ops[i]? = some o ∧ YieldsIf P ops S o v a ∧ PlanT P ops S Q n (a.put o.dst v) w
  | .step i n, a, w => wpOp P ops Q i (fun a' w' => S w' ∧ PlanT P ops S Q n a' w') a w
  | .fork i n j m, a, w => wpOp P ops Q i (fun a' w' => S w' ∧ PlanT P ops S Q n a' w') a w ∧ wpOp P ops Q j (fun a' w' => S w' ∧ PlanT P ops S Q m a' w') a w
  | .fork3 i n j m k q, a, w => wpOp P ops Q i (fun a' w' => S w' ∧ PlanT P ops S Q n a' w') a w ∧ wpOp P ops Q j (fun a' w' => S w' ∧ PlanT P ops S Q m a' w') a w ∧ wpOp P ops Q k (fun a' w' => S w' ∧ PlanT P ops S Q q a' w') a w

theorem PlanT.any (hs : Region.noSelect ops = true) (hQ : ∀ c a d v w, Q (.panic c) (Act.put a d v) w → Q (.panic c) a w) : ∀ (plan : PT) (fuel : Nat) (listed : Array Bool) (a : Act) (w : World),
    plan.depth ≤ fuel → ptOk ops plan listed = true → S w → PlanT P ops S Q plan a w → wpAnyH P .any ops Q S fuel listed a w
  | .done, fuel, listed, a, w, _, hp, _, h => wpAnyH_done (by simpa [ptOk] using hp) h fuel
  | .take i r, fuel + 1, listed, a, w, hf, hp, hS, h => by
    obtain ⟨o, v, ho, hy, hr⟩ := h
    simp only [ptOk, Bool.and_eq_true] at hp
    exact wpAnyH_take ho hs hp.1.1 hp.1.2 (fun c a w => hQ c a _ _ w) hy hS (PlanT.any hs hQ r fuel _ _ _ (by simpa [PT.depth] using hf) hp.2 hS hr)
  | .step i r, fuel + 1, listed, a, w, hf, hp, _, h => by
    simp only [ptOk, Bool.and_eq_true, beq_iff_eq] at hp
    refine wpAnyH_all hp.1 (by simp) fun j hj => ?_
    obtain rfl : j = i := by simpa using hj
    exact wpOp_mono (fun a' w' h' => ⟨h'.1, PlanT.any hs hQ r fuel _ _ _ (by simpa [PT.depth] using hf) hp.2 h'.1 h'.2⟩) h
  | .fork i r j m, fuel + 1, listed, a, w, hf, hp, _, h => by
    simp only [ptOk, Bool.and_eq_true, beq_iff_eq] at hp
    simp only [PT.depth] at hf
    refine wpAnyH_all hp.1 (by simp) fun k hk => ?_
    rcases (by simpa using hk : k = i ∨ k = j) with rfl | rfl
    · exact wpOp_mono (fun a' w' h' => ⟨h'.1, PlanT.any hs hQ r fuel _ _ _ (by omega) hp.2.1 h'.1 h'.2⟩) h.1
    · exact wpOp_mono (fun a' w' h' => ⟨h'.1, PlanT.any hs hQ m fuel _ _ _ (by omega) hp.2.2 h'.1 h'.2⟩) h.2
  | .fork3 i r j m l q, fuel + 1, listed, a, w, hf, hp, _, h => by
    simp only [ptOk, Bool.and_eq_true, beq_iff_eq] at hp
    simp only [PT.depth] at hf
    refine wpAnyH_all hp.1 (by simp) fun k hk => ?_
    rcases (by simpa using hk : k = i ∨ k = j ∨ k = l) with rfl | rfl | rfl
    · exact wpOp_mono (fun a' w' h' => ⟨h'.1, PlanT.any hs hQ r fuel _ _ _ (by omega) hp.2.1 h'.1 h'.2⟩) h.1
    · exact wpOp_mono (fun a' w' h' => ⟨h'.1, PlanT.any hs hQ m fuel _ _ _ (by omega) hp.2.2.1 h'.1 h'.2⟩) h.2.1
    · exact wpOp_mono (fun a' w' h' => ⟨h'.1, PlanT.any hs hQ q fuel _ _ _ (by omega) hp.2.2.2 h'.1 h'.2⟩) h.2.2
  | .take _ _, 0, _, _, _, hf, _, _, _ => by simp [PT.depth] at hf
  | .step _ _, 0, _, _, _, hf, _, _, _ => by simp [PT.depth] at hf
  | .fork _ _ _ _, 0, _, _, _, hf, _, _, _ => by simp [PT.depth] at hf
  | .fork3 _ _ _ _ _ _, 0, _, _, _, hf, _, _, _ => by simp [PT.depth] at hf

theorem wp_region_planT (S : World → Prop) (plan : PT) {id : Nat} {a : Act} {w : World} (hm : P.follows .mixedOrders = true) (hs : (Region.noSelect ops && ptOk ops plan (Array.replicate ops.size false) && decide (plan.depth ≤ ops.size)) = true)
    (hQ : ∀ c a d v w, Q (.panic c) (Act.put a d v) w → Q (.panic c) a w) (hS : S w.drew) (h : PlanT P ops S Q plan a w.drew) : (Code.region id ops true).wp P Q a w := by
  simp only [Bool.and_eq_true, decide_eq_true_eq] at hs
  exact wp_region_held hm (PlanT.any hs.1.1 hQ plan _ _ _ _ hs.2 hs.1.2 hS h)

theorem PlanT.takeI {i : Nat} {o : Oper} {v : Value} {r : PT} {a : Act} {w : World} (hi : ops.toList[i]? = some o) (hw : Region.wanted o (yielded ops a.tmps) = true)
    (hy : ∀ W, S W → (execOp a.eval o).run P W = .ok (.value v) W) (h : PlanT P ops S Q r (a.put o.dst v) w) : PlanT P ops S Q (.take i r) a w :=
  ⟨o, v, by simpa using hi, .inl ⟨hw, hy⟩, h⟩
theorem PlanT.skip {i : Nat} {o : Oper} {r : PT} {a : Act} {w : World} (hi : ops.toList[i]? = some o) (hw : Region.wanted o (yielded ops a.tmps) = false)
    (h : PlanT P ops S Q r (a.put o.dst undef) w) : PlanT P ops S Q (.take i r) a w :=
  ⟨o, undef, by simpa using hi, .inr ⟨hw, rfl⟩, h⟩
theorem wpOp_stepT {i : Nat} {o : Oper} {r : PT} {a : Act} {w : World} (hi : ops.toList[i]? = some o) (hw : Region.wanted o (yielded ops a.tmps) = true)
    (h : ∀ K : Act → World → Prop, Shut (∀ a w, S w → PlanT P ops S Q r a w → K a w) → Oper.wp P o a w K Q) : wpOp P ops Q i (fun a' w' => S w' ∧ PlanT P ops S Q r a' w') a w := by
  refine wpOp_step (o := o) (by simpa using hi) fun K' hK => ?_
  rw [if_pos hw]
  exact h K' fun a w h1 h2 => hK a w ⟨h1, h2⟩
end
end Go.Proofs.YtcmpbhcldaogiaaGreat
namespace Go.Proofs.YtcmpbhcldaogiaaGreat
open Go.RowKit
attribute [local go_sem] less_eq same_eq le_eq ge_eq gt_eq

structure Txn where
  read : Int
  reads : List (K × K)
  chgs : List Chg
instance : DecidableEq Txn := fun x y => decidable_of_iff (x.read = y.read ∧ x.reads = y.reads ∧ x.chgs = y.chgs) ⟨fun h => by cases x; cases y; simp only at h; obtain ⟨rfl, rfl, rfl⟩ := h; rfl, fun h => by subst h; simp⟩
def zeroT : Txn := ⟨0, [], []⟩
def okSpan (s : K × K) : Prop := s.1.size ≤ 17 ∧ s.2.size ≤ 17 ∧ ¬ s.2 < s.1
instance (s : K × K) : Decidable (okSpan s) := by unfold okSpan; exact inferInstance
def soundT (t : Txn) : Prop := 0 ≤ t.read ∧ t.reads.length ≤ 24 ∧ (∀ s ∈ t.reads, okSpan s) ∧ t.chgs.length ≤ 24 ∧ allAns t.chgs = 0
instance (t : Txn) : Decidable (soundT t) := by unfold soundT; exact inferInstance
def tval (t : Txn) (v1 v2 : Value) : Value := .agg #[.int .i64 t.read, v1, v2]
/-- lengths that a walk needs -/
def fitT (t : Txn) : Prop := t.reads.length < 4611686018427387904 ∧ (∀ s ∈ t.reads, s.1.size < 4611686018427387904 ∧ s.2.size < 4611686018427387904) ∧ t.chgs.length < 4611686018427387904 ∧ ∀ c ∈ t.chgs, smallC c
theorem box_cell {w W : World} {cs : List Value} {t : TypeId} (h : Below (w.heap.size + 1) (w.alloc (.cells cs.toArray t)) W) (i : Nat) (v : Value) (hv : cs[i]? = some v) : W.cell? ⟨w.heap.size, i, none⟩ = some v :=
  (h.cell (p := ⟨w.heap.size, i, none⟩) (Nat.lt_succ_self _)).trans ((Whole.fresh w t cs).cell i v hv)


set_option maxHeartbeats 4000000 in
set_option maxRecDepth 100000 in
theorem rsoundT_any (t : Txn) (hft : fitT t) (v1 v2 : Value) (w : World) (hv1 : RdP w w.heap.size v1 t.reads) (hv2 : RdC w w.heap.size v2 t.chgs) :
    Calls Tryz.prog 20 #[tval t v1 v2] w fun e w' => e = .returned (.bool (decide (soundT t))) ∧ Below w.heap.size w w' := by
  obtain ⟨h1, h2, h3, h4⟩ := hft
  obtain ⟨read, reads, chgs⟩ := t
  obtain ⟨R, hR⟩ : ∃ R, R = decide (soundT ⟨read, reads, chgs⟩) := ⟨_, rfl⟩
  rw [← hR]
  unfold soundT at hR
  unfold tval
  simp only at hR h1 h2 h3 h4 hv1 hv2 ⊢
  obtain ⟨A1, c1, rfl, _, hi⟩ := hv1.at
  obtain ⟨A2, c2, rfl, _, _⟩ := hv2.at
  have hno : ¬ (0 ≤ read ∧ reads.length ≤ 24 ∧ (∀ s ∈ reads, okSpan s) ∧ chgs.length ≤ 24 ∧ allAns chgs = 0) → R = false := fun h => by rw [hR]; exact decide_eq_false h
  have hyes : 0 ≤ read ∧ reads.length ≤ 24 ∧ (∀ s ∈ reads, okSpan s) ∧ chgs.length ≤ 24 ∧ allAns chgs = 0 → R = true := fun h => by rw [hR]; exact decide_eq_true h
  have HNO := Lib.hid hno; clear hno
  have HYES := Lib.hid hyes; clear hyes
  have hb1 : Below w.heap.size w (w.alloc (.cells #[.int .i64 read, .slice A1 reads.length c1, .slice A2 chgs.length c2] 52)) := (Below.refl _ _).alloc (Nat.le_refl _) _
  have hA := rall_any chgs h4 (.slice A2 chgs.length c2) _ (hv2.next hb1) h3
  have HA := Lib.hid hA; clear hA
  have HB1 := Lib.hid hb1; clear hb1
  have HI := Lib.hid hi; clear hi
  have HS := Lib.hid h2; clear h2
  clear hR hv1 hv2 h4
  by_cases g1 : read < 0
  · go_enter Tryz.func20, Tryz.ntmps20
    go_wp2_with fail
    go_ret
    exact ⟨by rw [HNO.out (by omega)]; rfl, HB1.out⟩
  by_cases g2 : (24 : Int) < (reads.length : Int)
  · go_enter Tryz.func20, Tryz.ntmps20
    go_wp2_with fail
    go_ret
    exact ⟨by rw [HNO.out (by omega)]; rfl, HB1.out⟩
  by_cases g3 : (24 : Int) < (chgs.length : Int)
  · go_enter Tryz.func20, Tryz.ntmps20
    go_wp2_with fail
    go_ret
    exact ⟨by rw [HNO.out (by omega)]; rfl, HB1.out⟩
  generalize allAns chgs = q at HA HNO HYES
  go_enter Tryz.func20, Tryz.ntmps20
  go_wp2_with fail
  refine HA.out.mono ?_
  rintro e w2 ⟨rfl, hb2⟩
  rw [World.size_alloc] at hb2
  have HB2 := Lib.hid hb2; clear hb2
  have HBW := Lib.hid (show Below w.heap.size w w2 from HB1.out.trans (HB2.out.mono (by omega)))
  by_cases g4 : q = 0
  · subst g4
    go_wp2_with fail
    go_loopw [3] (fun iv wr => ∃ i : Nat, i ≤ reads.length ∧ iv = .int .i64 i ∧ Below (w.heap.size + 1) (w.alloc (.cells #[.int .i64 read, .slice A1 reads.length c1, .slice A2 chgs.length c2] 52)) wr ∧ Hid (∀ s ∈ reads.take i, okSpan s)) (fun iv _ => reads.length - (intOf iv).toNat)
    case atStart => exact ⟨0, Nat.zero_le _, rfl, HB2.out, Lib.hid (by simp)⟩
    case round =>
      obtain ⟨i, hil, rfl, hbw, HALL⟩ := hrel
      have hBw : Below w.heap.size w wr := HB1.out.trans (hbw.mono (by omega))
      have p1 := box_cell hbw 1 _ rfl
      have HBR := Lib.hid hbw; clear hbw
      have HBW2 := Lib.hid hBw; clear hBw
      by_cases hlt : i < reads.length
      · obtain ⟨b, o, rfl, hbB, k0, k1⟩ := HI.out i hlt
        rw [← HBW2.out.cell (p := ⟨b, _, none⟩) hbB] at k0 k1
        have hsm := HS.out reads[i] (List.getElem_mem hlt)
        have hyes : okSpan reads[i] → ∀ s ∈ reads.take (i + 1), okSpan s := fun h n hn => by
          rw [List.take_add_one, List.getElem?_eq_getElem hlt, List.mem_append] at hn
          rcases hn with hn | hn
          · exact HALL.out n hn
          · simp only [Option.toList_some, List.mem_singleton] at hn; rw [hn]; exact h
        have hno : ¬ okSpan reads[i] → R = false := fun h => HNO.out fun hall => h (hall.2.2.1 _ (List.getElem_mem hlt))
        generalize reads[i] = z at k0 k1 hyes hno hsm
        obtain ⟨x, y⟩ := z
        unfold okSpan at hyes hno
        simp only at k0 k1 hsm hyes hno
        have HY := Lib.hid hyes; clear hyes
        have HN := Lib.hid hno; clear hno
        have hwr : wr.heap.size ≤ wr.drew.heap.size := Nat.le_refl _
        have hbs2 : b < wr.heap.size := by have := HBW2.out.size; omega
        have hws2 : w.heap.size < wr.heap.size := by have := HBR.out.size; simp at this; omega
        have HK0 := Lib.hid (fun W (hW : Below wr.heap.size wr W) => (hW.cell (p := ⟨b, o + i * 2, none⟩) hbs2).trans k0)
        have HK1 := Lib.hid (fun W (hW : Below wr.heap.size wr W) => (hW.cell (p := ⟨b, o + i * 2 + 1, none⟩) hbs2).trans k1)
        have HK2 := Lib.hid (fun W (hW : Below wr.heap.size wr W) => (hW.cell (p := ⟨w.heap.size, 1, none⟩) hws2).trans p1)
        have hi1 : (i : Int) < (reads.length : Int) := by omega
        have hi0 : (0 : Int) ≤ (i : Int) := by omega
        clear hbs2 hws2 hwr
        have HBD := Lib.hid (show Below w.heap.size w wr.drew from HBW2.out.drew)
        have HBRD := Lib.hid (HBR.out.drew)
        by_cases ha : (17 : Int) < (x.size : Int)
        · have hf := HN.out (fun h => by omega)
          have HF := Lib.hid hf; clear hf
          go_wp2_with fail
          clear k0 k1 p1
          refine wp_region_planT (fun W => Below wr.heap.size wr W) (.take 0 (.take 1 (.take 2 (.take 3 (.take 4 (.take 5 (.take 6 (.take 7 (.take 8 (.take 9 (.take 10 (.take 11 (.take 12 (.take 13 (.take 14 (.take 15 (.take 16 (.take 17 (.take 18 (.take 19 (.take 20 (.take 21 (.take 22 (.take 23 (.take 24 (.take 25 (.take 26 (.take 27 (.take 28 (.take 29 (.take 30 (.take 31 (.take 32 .done))))))))))))))))))))))))))))))))) (by kernel_rfl) (by kernel_rfl) (fun _ _ d _ _ h => by cases d <;> exact h) ((Below.refl _ _).drew) ?_
          repeat (first | (refine PlanT.takeI (v := ?_) rfl rfl ?_ ?_; rotate_left; (focus (intro W hW; have k0 := HK0.out W hW; have k1 := HK1.out W hW; have k2 := HK2.out W hW; go_simp; (try with_reducible rfl); done)); (try simp only [Act.put, List.setIfInBounds_toArray, List.set_cons_zero, List.set_cons_succ])) | (refine PlanT.skip rfl rfl ?_; (try simp only [Act.put, List.setIfInBounds_toArray, List.set_cons_zero, List.set_cons_succ])))
          simp only [PlanT]
          go_wp2_with fail
          go_ret
          exact ⟨by rw [HF.out]; rfl, HBD.out⟩
        have HDA := Lib.hid (show decide ((17 : Int) < (x.size : Int)) = false from decide_eq_false ha)
        by_cases hb : (17 : Int) < (y.size : Int)
        · have hf := HN.out (fun h => by omega)
          have HF := Lib.hid hf; clear hf
          go_wp2_with fail
          clear k0 k1 p1
          refine wp_region_planT (fun W => Below wr.heap.size wr W) (.take 0 (.take 1 (.take 2 (.take 3 (.take 4 (.take 5 (.take 6 (.take 7 (.take 8 (.take 9 (.take 10 (.take 11 (.take 12 (.take 13 (.take 14 (.take 15 (.take 16 (.take 17 (.take 18 (.take 19 (.take 20 (.take 21 (.take 22 (.take 23 (.take 24 (.take 25 (.take 26 (.take 27 (.take 28 (.take 29 (.take 30 (.take 31 (.take 32 .done))))))))))))))))))))))))))))))))) (by kernel_rfl) (by kernel_rfl) (fun _ _ d _ _ h => by cases d <;> exact h) ((Below.refl _ _).drew) ?_
          repeat (first | (refine PlanT.takeI (v := ?_) rfl rfl ?_ ?_; rotate_left; (focus (intro W hW; have k0 := HK0.out W hW; have k1 := HK1.out W hW; have k2 := HK2.out W hW; have kda := HDA.out; go_simp; (try with_reducible rfl); done)); (try simp only [Act.put, List.setIfInBounds_toArray, List.set_cons_zero, List.set_cons_succ])) | (refine PlanT.skip rfl rfl ?_; (try simp only [Act.put, List.setIfInBounds_toArray, List.set_cons_zero, List.set_cons_succ])))
          simp only [PlanT]
          go_wp2_with fail
          go_ret
          exact ⟨by rw [HF.out]; rfl, HBD.out⟩
        have HDB := Lib.hid (show decide ((17 : Int) < (y.size : Int)) = false from decide_eq_false hb)
        by_cases hxy : y < x
        · have hf := HN.out (fun h => h.2.2 hxy)
          have HF := Lib.hid hf; clear hf
          go_wp2_with fail
          clear k0 k1 p1
          refine wp_region_planT (fun W => Below wr.heap.size wr W) (.take 0 (.take 1 (.take 2 (.take 3 (.take 4 (.take 5 (.take 6 (.take 7 (.take 8 (.take 9 (.take 10 (.take 11 (.take 12 (.take 13 (.take 14 (.take 15 (.take 16 (.take 17 (.take 18 (.take 19 (.take 20 (.take 21 (.take 22 (.take 23 (.take 24 (.take 25 (.take 26 (.take 27 (.take 28 (.take 29 (.take 30 (.take 31 (.take 32 .done))))))))))))))))))))))))))))))))) (by kernel_rfl) (by kernel_rfl) (fun _ _ d _ _ h => by cases d <;> exact h) ((Below.refl _ _).drew) ?_
          repeat (first | (refine PlanT.takeI (v := ?_) rfl rfl ?_ ?_; rotate_left; (focus (intro W hW; have k0 := HK0.out W hW; have k1 := HK1.out W hW; have k2 := HK2.out W hW; have kda := HDA.out; have kdb := HDB.out; go_simp; (try with_reducible rfl); done)); (try simp only [Act.put, List.setIfInBounds_toArray, List.set_cons_zero, List.set_cons_succ])) | (refine PlanT.skip rfl rfl ?_; (try simp only [Act.put, List.setIfInBounds_toArray, List.set_cons_zero, List.set_cons_succ])))
          simp only [PlanT]
          go_wp2_with fail
          go_ret
          exact ⟨by rw [HF.out]; rfl, HBD.out⟩
        · have HDC := Lib.hid (show decide (y < x) = false from decide_eq_false hxy)
          have hok := HY.out ⟨by omega, by omega, hxy⟩
          have HOK := Lib.hid hok; clear hok
          go_wp2_with fail
          clear k0 k1 p1
          refine wp_region_planT (fun W => Below wr.heap.size wr W) (.take 0 (.take 1 (.take 2 (.take 3 (.take 4 (.take 5 (.take 6 (.take 7 (.take 8 (.take 9 (.take 10 (.take 11 (.take 12 (.take 13 (.take 14 (.take 15 (.take 16 (.take 17 (.take 18 (.take 19 (.take 20 (.take 21 (.take 22 (.take 23 (.take 24 (.take 25 (.take 26 (.take 27 (.take 28 (.take 29 (.take 30 (.take 31 (.take 32 .done))))))))))))))))))))))))))))))))) (by kernel_rfl) (by kernel_rfl) (fun _ _ d _ _ h => by cases d <;> exact h) ((Below.refl _ _).drew) ?_
          repeat (first | (refine PlanT.takeI (v := ?_) rfl rfl ?_ ?_; rotate_left; (focus (intro W hW; have k0 := HK0.out W hW; have k1 := HK1.out W hW; have k2 := HK2.out W hW; have kda := HDA.out; have kdb := HDB.out; have kdc := HDC.out; go_simp; (try with_reducible rfl); done)); (try simp only [Act.put, List.setIfInBounds_toArray, List.set_cons_zero, List.set_cons_succ])) | (refine PlanT.skip rfl rfl ?_; (try simp only [Act.put, List.setIfInBounds_toArray, List.set_cons_zero, List.set_cons_succ])))
          simp only [PlanT]
          go_wp2_with fail
          go_roundw
          case rel => exact ⟨i + 1, by omega, by go_num, HBRD.out, Lib.hid HOK.out⟩
          case measure => simp [intOf]; omega
      · have hd : R = true := HYES.out ⟨by omega, by omega, by
          have := HALL.out
          rwa [List.take_of_length_le (by omega)] at this, by omega, trivial⟩
        have HD2 := Lib.hid hd; clear hd
        go_wp2_with fail
        go_ret
        exact ⟨by rw [HD2.out]; rfl, HBW2.out⟩
  · have hf := HNO.out (fun h => g4 h.2.2.2.2)
    have HF := Lib.hid hf; clear hf
    go_wp2_with fail
    go_ret
    exact ⟨by rw [HF.out]; rfl, HBW.out⟩
end Go.Proofs.YtcmpbhcldaogiaaGreat
namespace Go.Proofs.YtcmpbhcldaogiaaGreat

/-- a span that was written at a version -/
structure Wr where
  s : K × K
  v : Int
instance : Inhabited Wr := ⟨⟨(⟨#[]⟩, ⟨#[]⟩), 0⟩⟩
instance (s : K × K) (k : K) : Decidable (has s k) := by unfold has; exact inferInstance
/-- when a key was written last; 0: never -/
def ver (L : List Wr) (k : K) : Int := L.foldl (fun n x => if has x.s k then x.v else n) 0
theorem ver_nil (k : K) : ver [] k = 0 := rfl
theorem ver_snoc (L : List Wr) (x : Wr) (k : K) : ver (L ++ [x]) k = if has x.s k then x.v else ver L k := by simp [ver]
theorem ver_pass : ∀ (B A : List Wr) (k : K), (∀ y ∈ B, ¬ has y.s k) → ver (A ++ B) k = ver A k
  | [], A, k, _ => by simp
  | y :: B, A, k, h => by
    rw [show A ++ y :: B = (A ++ [y]) ++ B by simp, ver_pass B _ k (fun z hz => h z (by simp [hz])), ver_snoc, if_neg (h y (by simp))]
/-- the j-th one is the last that has the key -/
def Left (L : List Wr) (j : Nat) (k : K) : Prop := ∃ x, L[j]? = some x ∧ has x.s k ∧ ∀ y ∈ L.drop (j + 1), ¬ has y.s k
theorem ver_left {L : List Wr} {j : Nat} {k : K} {x : Wr} (h : Left L j k) (hx : L[j]? = some x) : ver L k = x.v := by
  obtain ⟨x', hx', hk, hn⟩ := h
  rw [hx] at hx'
  injection hx' with hx'
  subst hx'
  have hj := (List.getElem?_eq_some_iff.1 hx).1
  have h1 := ver_pass (L.drop (j + 1)) (L.take (j + 1)) k hn
  rw [List.take_append_drop] at h1
  rw [h1, List.take_add_one, hx, Option.toList_some, ver_snoc, if_pos hk]
theorem left_of : ∀ (n : Nat) (L : List Wr) (k : K), L.length = n → (∃ y ∈ L, has y.s k) → ∃ j, Left L j k
  | 0, L, k, hn, ⟨y, hy, _⟩ => by rw [List.eq_nil_of_length_eq_zero hn] at hy; simp at hy
  | n + 1, L, k, hn, ⟨y, hy, hk⟩ => by
    rcases List.eq_nil_or_concat L with rfl | ⟨A, x, rfl⟩
    · simp at hn
    · rw [List.concat_eq_append] at *
      by_cases hx : has x.s k
      · exact ⟨A.length, x, by simp, hx, by simp⟩
      · have hyA : y ∈ A := by
          rcases List.mem_append.1 hy with hy | hy
          · exact hy
          · rw [List.mem_singleton] at hy; subst hy; exact absurd hk hx
        obtain ⟨j, z, hz, hzk, hzn⟩ := left_of n A k (by simpa using hn) ⟨y, hyA, hk⟩
        have hj := (List.getElem?_eq_some_iff.1 hz).1
        refine ⟨j, z, by rw [List.getElem?_append_left hj]; exact hz, hzk, fun u hu => ?_⟩
        rw [List.drop_append_of_le_length (by omega)] at hu
        rcases List.mem_append.1 hu with hu | hu
        · exact hzn u hu
        · rw [List.mem_singleton] at hu; subst hu; exact hx
theorem ver_cases (L : List Wr) (k : K) : (ver L k = 0 ∧ ∀ j, ¬ Left L j k) ∨ ∃ j x, L[j]? = some x ∧ Left L j k ∧ ver L k = x.v := by
  by_cases h : ∃ y ∈ L, has y.s k
  · obtain ⟨j, hj⟩ := left_of _ L k rfl h
    obtain ⟨x, hx, _⟩ := id hj
    exact .inr ⟨j, x, hx, hj, ver_left hj hx⟩
  · refine .inl ⟨?_, ?_⟩
    · have := ver_pass L [] k (fun y hy hk => h ⟨y, hy, hk⟩)
      simpa [ver_nil] using this
    · rintro j ⟨x, hx, hk, _⟩
      exact h ⟨x, List.mem_of_getElem? hx, hk⟩

/-! ### where what was written at one version begins -/
/-- a key is the first of those that were written at its version, above b -/
def isStart (f : K → Int) (b : Int) (k : K) : Prop := b < f k ∧ ∀ j, j < k → ∃ x, j ≤ x ∧ x < k ∧ f x ≠ f k
/-- as many such keys there are -/
def SizeIs (f : K → Int) (b : Int) (n : Nat) : Prop := ∃ l : List K, l.Nodup ∧ l.length = n ∧ ∀ k, k ∈ l ↔ isStart f b k
theorem nodup_len {α : Type} [DecidableEq α] : ∀ (l r : List α), l.Nodup → (∀ x ∈ l, x ∈ r) → l.length ≤ r.length
  | [], r, _, _ => Nat.zero_le _
  | x :: l, r, hn, h => by
    obtain ⟨h1, h2⟩ := List.nodup_cons.1 hn
    have hx := h x (by simp)
    have ih := nodup_len l (r.erase x) h2 (fun y hy => (List.mem_erase_of_ne (fun e => h1 (by rw [← e]; exact hy))).2 (h y (by simp [hy])))
    rw [List.length_erase_of_mem hx] at ih
    have := List.length_pos_of_mem hx
    simp only [List.length_cons]
    omega
theorem SizeIs.eq {f : K → Int} {b : Int} {n m : Nat} (h : SizeIs f b n) (h2 : SizeIs f b m) : n = m := by
  obtain ⟨l, hn, rfl, hl⟩ := h
  obtain ⟨r, hm, rfl, hr⟩ := h2
  have h1 := nodup_len l r hn (fun x hx => (hr x).2 ((hl x).1 hx))
  have h2 := nodup_len r l hm (fun x hx => (hl x).2 ((hr x).1 hx))
  omega
/-- pieces that say of all keys above b when they were written last -/
structure Pieces (f : K → Int) (b : Int) (A : List Wr) : Prop where
  ne : ∀ x ∈ A, x.s.1 < x.s.2 ∧ b < x.v
  all : ∀ k, b < f k → ∃ x ∈ A, has x.s k
  says : ∀ x ∈ A, ∀ k, has x.s k → f k = x.v
  apart : A.Pairwise fun x y => ∀ k, has x.s k → ¬ has y.s k
theorem Pieces.one {f : K → Int} {b : Int} {A : List Wr} (h : Pieces f b A) {x y : Wr} (hx : x ∈ A) (hy : y ∈ A) {k : K} (h1 : has x.s k) (h2 : has y.s k) : x = y := by
  by_cases e : x = y
  · exact e
  · obtain ⟨i, hi, rfl⟩ := List.mem_iff_getElem.1 hx
    obtain ⟨j, hj, rfl⟩ := List.mem_iff_getElem.1 hy
    have hp := List.pairwise_iff_getElem.1 h.apart
    rcases Nat.lt_trichotomy i j with hij | hij | hij
    · exact absurd h2 (hp i j hi hj hij k h1)
    · subst hij; rfl
    · exact absurd h1 (hp j i hj hi hij k h2)
/-- the one that reaches furthest of those that do not reach behind k -/
theorem furthest : ∀ (A : List Wr) (j k : K), (∀ x ∈ A, x.s.1 < x.s.2) → (∃ x ∈ A, ∃ u, has x.s u ∧ j ≤ u ∧ x.s.2 ≤ k) → ∃ x ∈ A, x.s.2 ≤ k ∧ j < x.s.2 ∧ ∀ y ∈ A, y.s.2 ≤ k → y.s.2 ≤ x.s.2
  | [], _, _, _, ⟨x, hx, _⟩ => by simp at hx
  | z :: A, j, k, hne, hex => by
    by_cases hA : ∃ x ∈ A, ∃ u, has x.s u ∧ j ≤ u ∧ x.s.2 ≤ k
    · obtain ⟨x, hx, h1, h2, h3⟩ := furthest A j k (fun x hx => hne x (by simp [hx])) hA
      by_cases hz : z.s.2 ≤ k ∧ x.s.2 < z.s.2
      · refine ⟨z, by simp, hz.1, by have := hz.2; grind, fun y hy hyk => ?_⟩
        rcases List.mem_cons.1 hy with rfl | hy
        · exact Std.IsPreorder.le_refl _
        · have := h3 y hy hyk; have := hz.2; grind
      · refine ⟨x, by simp [hx], h1, h2, fun y hy hyk => ?_⟩
        rcases List.mem_cons.1 hy with rfl | hy
        · by_cases hc : x.s.2 < y.s.2
          · exact absurd ⟨hyk, hc⟩ hz
          · grind
        · exact h3 y hy hyk
    · obtain ⟨x, hx, u, h1, h2, h3⟩ := hex
      rcases List.mem_cons.1 hx with rfl | hx
      · refine ⟨x, by simp, h3, by unfold has at h1; grind, fun y hy hyk => ?_⟩
        rcases List.mem_cons.1 hy with rfl | hy
        · exact Std.IsPreorder.le_refl _
        · by_cases hc : x.s.2 < y.s.2
          · have hy1 := hne y (by simp [hy])
            exact absurd ⟨y, hy, mx y.s.1 j, by rcases mx_cases y.s.1 j with ⟨e1, e2⟩ | ⟨e1, e2⟩ <;> rw [e2] <;> unfold has at * <;> grind, by rcases mx_cases y.s.1 j with ⟨e1, e2⟩ | ⟨e1, e2⟩ <;> rw [e2] <;> grind, hyk⟩ hA
          · grind
      · exact absurd ⟨x, hx, u, h1, h2, h3⟩ hA
theorem Pieces.start {f : K → Int} {b : Int} {A : List Wr} (h : Pieces f b A) (k : K) : isStart f b k ↔ ∃ x ∈ A, x.s.1 = k ∧ ∀ y ∈ A, ¬ (y.s.2 = k ∧ y.v = x.v) := by
  constructor
  · rintro ⟨hb, hj⟩
    obtain ⟨x, hx, hxk⟩ := h.all k hb
    have hfx := h.says x hx k hxk
    have e : x.s.1 = k := by
      by_cases hlt : x.s.1 < k
      · obtain ⟨u, h1, h2, h3⟩ := hj x.s.1 hlt
        refine absurd ?_ h3
        rw [hfx, h.says x hx u ⟨h1, by unfold has at hxk; grind⟩]
      · unfold has at hxk; grind
    refine ⟨x, hx, e, fun y hy hyk => ?_⟩
    have hy1 := (h.ne y hy).1
    obtain ⟨u, h1, h2, h3⟩ := hj y.s.1 (by rw [← hyk.1]; exact hy1)
    refine h3 ?_
    rw [hfx, h.says y hy u ⟨h1, by rw [hyk.1]; exact h2⟩, hyk.2]
  · rintro ⟨x, hx, rfl, hno⟩
    have hx1 := (h.ne x hx).1
    have hxk : has x.s x.s.1 := ⟨Std.IsPreorder.le_refl _, hx1⟩
    have hfx := h.says x hx _ hxk
    refine ⟨by rw [hfx]; exact (h.ne x hx).2, fun j hj => Classical.byContradiction fun hcon => ?_⟩
    have hall : ∀ u, j ≤ u → u < x.s.1 → f u = x.v := fun u h1 h2 => Classical.byContradiction fun hne => hcon ⟨u, h1, h2, by rw [hfx]; exact hne⟩
    have hreach : ∀ u, j ≤ u → u < x.s.1 → ∃ y ∈ A, has y.s u ∧ y.s.2 ≤ x.s.1 := fun u h1 h2 => by
      obtain ⟨y, hy, hyu⟩ := h.all u (by rw [hall u h1 h2]; exact (h.ne x hx).2)
      refine ⟨y, hy, hyu, ?_⟩
      by_cases hc : x.s.1 < y.s.2
      · have := h.one hx hy hxk ⟨by unfold has at hyu; grind, hc⟩
        subst this
        unfold has at hyu
        grind
      · grind
    obtain ⟨y0, hy0, hyu0, hyk0⟩ := hreach j (Std.IsPreorder.le_refl _) hj
    obtain ⟨z, hz, hz1, hz2, hz3⟩ := furthest A j x.s.1 (fun x hx => (h.ne x hx).1) ⟨y0, hy0, j, hyu0, Std.IsPreorder.le_refl _, hyk0⟩
    by_cases he : z.s.2 = x.s.1
    · have hzne := (h.ne z hz).1
      have hzu : has z.s (mx z.s.1 j) ∧ j ≤ mx z.s.1 j ∧ mx z.s.1 j < x.s.1 := by
        rcases mx_cases z.s.1 j with ⟨e1, e2⟩ | ⟨e1, e2⟩ <;> rw [e2] <;> unfold has <;> grind
      have h1 := h.says z hz _ hzu.1
      rw [hall _ hzu.2.1 hzu.2.2] at h1
      exact hno z hz ⟨he, h1.symm⟩
    · have hlt : z.s.2 < x.s.1 := by
        rcases Std.le_iff_lt_or_eq.1 hz1 with h1 | h1
        · exact h1
        · exact absurd h1 he
      obtain ⟨y, hy, hyu, hyk⟩ := hreach z.s.2 (Std.le_of_lt hz2) hlt
      have := hz3 y hy hyk
      unfold has at hyu
      grind

/-! ### how the reference counts them -/
def touch (x y : Wr) : Bool := decide (x.s.2 = y.s.1) && decide (x.v = y.v)
def pairsOf (A B : List Wr) : Nat := (A.map fun x => (B.filter (touch x)).length).sum
theorem pairs_swap (p : Wr → Wr → Bool) : ∀ A B : List Wr, (A.map fun x => (B.filter (p x)).length).sum = (B.map fun y => (A.filter fun x => p x y).length).sum
  | [], B => by
    induction B with
    | nil => rfl
    | cons y B ih => simpa using ih
  | x :: A, B => by
    rw [List.map_cons, List.sum_cons, pairs_swap p A B]
    induction B with
    | nil => simp
    | cons y B ih =>
      rw [List.map_cons, List.map_cons, List.sum_cons, List.sum_cons, ← ih]
      by_cases h : p x y = true
      · rw [List.filter_cons_of_pos h, List.filter_cons_of_pos (by exact h)]
        simp only [List.length_cons]
        omega
      · rw [List.filter_cons_of_neg h, List.filter_cons_of_neg (by exact h)]
        omega
theorem sum_ind (q : Wr → Bool) (g : Wr → Nat) : ∀ A : List Wr, (∀ x ∈ A, g x = if q x then 1 else 0) → (A.map g).sum = (A.filter q).length
  | [], _ => rfl
  | x :: A, h => by
    rw [List.map_cons, List.sum_cons, sum_ind q g A (fun y hy => h y (by simp [hy])), h x (by simp)]
    by_cases hq : q x = true
    · rw [if_pos hq, List.filter_cons_of_pos hq, List.length_cons]; omega
    · rw [if_neg hq, List.filter_cons_of_neg hq]; omega
theorem Pieces.ends {f : K → Int} {b : Int} {A : List Wr} (h : Pieces f b A) (y : Wr) : (A.filter fun x => touch x y).length = if (A.any fun x => touch x y) then 1 else 0 := by
  have hp := h.apart.sublist (List.filter_sublist (p := fun x => touch x y) (l := A))
  have hm : ∀ x ∈ A.filter (fun x => touch x y), x.s.2 = y.s.1 ∧ x.s.1 < x.s.2 := fun x hx => by
    obtain ⟨h1, h2⟩ := List.mem_filter.1 hx
    simp only [touch, Bool.and_eq_true, decide_eq_true_eq] at h2
    exact ⟨h2.1, (h.ne x h1).1⟩
  by_cases ha : (A.any fun x => touch x y) = true
  · rw [if_pos ha]
    obtain ⟨x, hx, hxt⟩ := List.any_eq_true.1 ha
    have hmem : x ∈ A.filter (fun x => touch x y) := List.mem_filter.2 ⟨hx, hxt⟩
    generalize A.filter (fun x => touch x y) = F at hp hm hmem
    match F, hp, hm, hmem with
    | [_], _, _, _ => rfl
    | u :: v :: F, hp, hm, _ =>
      exfalso
      have h1 := hm u (by simp)
      have h2 := hm v (by simp)
      have h3 := (List.pairwise_cons.1 hp).1 v (by simp) (mx u.s.1 v.s.1)
      rcases mx_cases u.s.1 v.s.1 with ⟨e1, e2⟩ | ⟨e1, e2⟩ <;> rw [e2] at h3 <;> unfold has at h3 <;> grind
  · rw [if_neg ha]
    have : A.filter (fun x => touch x y) = [] := List.filter_eq_nil_iff.2 (fun x hx hxt => ha (List.any_eq_true.2 ⟨x, hx, hxt⟩))
    rw [this]
    rfl
theorem Pieces.size {f : K → Int} {b : Int} {A : List Wr} (h : Pieces f b A) : pairsOf A A ≤ A.length ∧ SizeIs f b (A.length - pairsOf A A) := by
  have hc : pairsOf A A = (A.filter fun y => A.any fun x => touch x y).length := by
    unfold pairsOf
    rw [pairs_swap touch A A]
    exact sum_ind _ _ A (fun y _ => h.ends y)
  have hsplit : ∀ (q : Wr → Bool) (A : List Wr), (A.filter q).length + (A.filter fun x => !q x).length = A.length := fun q A => by
    induction A with
    | nil => rfl
    | cons x A ih =>
      by_cases hq : q x = true
      · rw [List.filter_cons_of_pos hq, List.filter_cons_of_neg (by simp [hq])]; simp only [List.length_cons]; omega
      · rw [List.filter_cons_of_neg hq, List.filter_cons_of_pos (by simpa using hq)]; simp only [List.length_cons]; omega
  have hs := hsplit (fun y => A.any fun x => touch x y) A
  rw [← hc] at hs
  refine ⟨by omega, (A.filter fun y => !(A.any fun x => touch x y)).map (·.s.1), ?_, by rw [List.length_map]; omega, fun k => ?_⟩
  · rw [List.nodup_iff_pairwise_ne, List.pairwise_map]
    refine (h.apart.sublist List.filter_sublist).imp_of_mem ?_
    intro x y hx hy hxy he
    have h1 := (h.ne x (List.mem_filter.1 hx).1).1
    have h2 := (h.ne y (List.mem_filter.1 hy).1).1
    exact hxy x.s.1 ⟨Std.IsPreorder.le_refl _, h1⟩ ⟨by rw [he]; exact Std.IsPreorder.le_refl _, by rw [he]; exact h2⟩
  · rw [h.start, List.mem_map]
    constructor
    · rintro ⟨x, hx, rfl⟩
      obtain ⟨h1, h2⟩ := List.mem_filter.1 hx
      refine ⟨x, h1, rfl, fun y hy hyx => ?_⟩
      have : (A.any fun x' => touch x' x) = true := List.any_eq_true.2 ⟨y, hy, by simp [touch, hyx.1, hyx.2]⟩
      rw [this] at h2
      cases h2
    · rintro ⟨x, hx, rfl, hno⟩
      refine ⟨x, List.mem_filter.2 ⟨hx, ?_⟩, rfl⟩
      rw [Bool.not_eq_true', Bool.eq_false_iff]
      intro ha
      obtain ⟨y, hy, hyt⟩ := List.any_eq_true.1 ha
      simp only [touch, Bool.and_eq_true, decide_eq_true_eq] at hyt
      exact hno y hy ⟨hyt.1, hyt.2⟩
end Go.Proofs.YtcmpbhcldaogiaaGreat
namespace Go.Proofs.YtcmpbhcldaogiaaGreat

structure Mk where
  floor : Int
  most : Int
  f : K → Int
/-- what Last answers of a span -/
def LastIs (m : Mk) (s : K × K) (n : Int) : Prop := (n = 0 ∧ ∀ k, has s k → m.f k ≤ m.floor) ∨ (m.floor < n ∧ (∃ k, has s k ∧ m.f k = n) ∧ ∀ k, has s k → m.f k ≤ n)
/-- a key of what it read was written above its Read -/
def clash (m : Mk) (t : Txn) : Prop := ∃ s ∈ t.reads, ∃ k, has s k ∧ m.floor < m.f k ∧ t.read < m.f k
open Classical in
noncomputable def verd (m : Mk) (t : Txn) : Int := if t.reads ≠ [] ∧ t.read < m.floor then 3 else if clash m t then 2 else 1
/-- the keys that a transaction changes -/
def keysOf (t : Txn) (k : K) : Prop := mem (t.chgs.map cspan) k
open Classical in
noncomputable def wrote (m : Mk) (v : Int) (t : Txn) : Mk := ⟨m.floor, if ∃ k, keysOf t k then v else m.most, fun k => if keysOf t k then v else m.f k⟩
noncomputable def judge1 (m : Mk) (v : Int) (t : Txn) : Mk := if verd m t = 1 then wrote m v t else m
noncomputable def judgeL : Mk → Int → List Txn → List Int
  | _, _, [] => []
  | m, v, t :: r => verd m t :: judgeL (judge1 m v t) v r
noncomputable def judgeM : Mk → Int → List Txn → Mk
  | m, _, [] => m
  | m, v, t :: r => judgeM (judge1 m v t) v r
/-- the error of a Judge -/
def jerr (m : Mk) (v : Int) (ts : List Txn) : Int := if v ≤ m.floor ∨ v ≤ m.most then 9 else if 4 < ts.length ∨ ∃ t ∈ ts, ¬ soundT t then 2 else 0
noncomputable def jout (m : Mk) (v : Int) (ts : List Txn) : List Int := if jerr m v ts = 0 then judgeL m v ts else []
noncomputable def jnext (m : Mk) (v : Int) (ts : List Txn) : Mk := if jerr m v ts = 0 then judgeM m v ts else m
def ferr (m : Mk) (v : Int) : Int := if v < m.floor then 7 else 0
def fnext (m : Mk) (v : Int) : Mk := if v < m.floor then m else { m with floor := v }
def mnew (v : Int) : Mk := ⟨if v < 0 then 0 else v, 0, fun _ => 0⟩
structure Mk.Ok (m : Mk) : Prop where
  low : 0 ≤ m.floor
  most : 0 ≤ m.most
  high : m.floor < 9223372036854775808 ∧ m.most < 9223372036854775808
  f : ∀ k, 0 ≤ m.f k ∧ m.f k ≤ m.most
theorem LastIs.eq {m : Mk} (h : m.Ok) {s : K × K} {n n' : Int} (h1 : LastIs m s n) (h2 : LastIs m s n') : n = n' := by
  have := h.low
  rcases h1 with ⟨rfl, h1⟩ | ⟨h1, ⟨k, hk, hk2⟩, h3⟩ <;> rcases h2 with ⟨rfl, h2⟩ | ⟨h2, ⟨k', hk', hk2'⟩, h3'⟩
  · rfl
  · have := h1 k' hk'; omega
  · have := h2 k hk; omega
  · have := h3 k' hk'; have := h3' k hk; omega
theorem LastIs.clash {m : Mk} {s : K × K} {n : Int} (h : m.Ok) (h1 : LastIs m s n) (r : Int) (hr : 0 ≤ r) : (∃ k, has s k ∧ m.floor < m.f k ∧ r < m.f k) ↔ r < n := by
  have := h.low
  rcases h1 with ⟨rfl, h1⟩ | ⟨h1, ⟨k, hk, hk2⟩, h3⟩
  · constructor
    · rintro ⟨k, hk, h2, h4⟩
      have := h1 k hk; omega
    · intro h; omega
  · constructor
    · rintro ⟨u, hu, h2, h4⟩
      have := h3 u hu; omega
    · intro h5
      exact ⟨k, hk, by omega, by omega⟩
theorem verd_cases (m : Mk) (t : Txn) : verd m t = 1 ∨ verd m t = 2 ∨ verd m t = 3 := by
  unfold verd
  split
  · exact .inr (.inr rfl)
  · split
    · exact .inr (.inl rfl)
    · exact .inl rfl
theorem Mk.Ok.new {v : Int} (hv : v < 9223372036854775808) : (mnew v).Ok := by
  unfold mnew
  refine ⟨?_, Int.le_refl _, ⟨?_, by simp⟩, fun k => ⟨Int.le_refl _, Int.le_refl _⟩⟩
  · simp only; split <;> omega
  · simp only; split <;> omega
theorem Mk.Ok.forget {m : Mk} (h : m.Ok) {v : Int} (hv : v < 9223372036854775808) : (fnext m v).Ok := by
  unfold fnext
  split
  · exact h
  · have := h.low
    exact ⟨by simp only; omega, h.most, ⟨hv, h.high.2⟩, h.f⟩
theorem Mk.Ok.wrote {m : Mk} (h : m.Ok) {v : Int} (t : Txn) (hv : m.most ≤ v) (hv2 : v < 9223372036854775808) : (wrote m v t).Ok := by
  have h0 := h.most
  unfold Go.Proofs.YtcmpbhcldaogiaaGreat.wrote
  refine ⟨h.low, ?_, ⟨h.high.1, ?_⟩, fun k => ?_⟩
  · simp only; split <;> omega
  · simp only; split
    · exact hv2
    · exact h.high.2
  · have := h.f k
    simp only
    split
    · rename_i hk
      rw [if_pos ⟨k, hk⟩]
      omega
    · split <;> omega
theorem Mk.Ok.judge1 {m : Mk} (h : m.Ok) {v : Int} (t : Txn) (hv : m.most ≤ v) (hv2 : v < 9223372036854775808) : (judge1 m v t).Ok ∧ (judge1 m v t).most ≤ v ∧ (judge1 m v t).floor = m.floor := by
  unfold Go.Proofs.YtcmpbhcldaogiaaGreat.judge1
  split
  · refine ⟨h.wrote t hv hv2, ?_, rfl⟩
    unfold Go.Proofs.YtcmpbhcldaogiaaGreat.wrote
    simp only
    split <;> omega
  · exact ⟨h, hv, rfl⟩
theorem Mk.Ok.judgeM : ∀ (ts : List Txn) {m : Mk} {v : Int}, m.Ok → m.most ≤ v → v < 9223372036854775808 → (judgeM m v ts).Ok ∧ (judgeM m v ts).most ≤ v ∧ (judgeM m v ts).floor = m.floor
  | [], m, v, h, hv, _ => ⟨h, hv, rfl⟩
  | t :: ts, m, v, h, hv, hv2 => by
    obtain ⟨h1, h2, h3⟩ := h.judge1 t hv hv2
    obtain ⟨h4, h5, h6⟩ := Mk.Ok.judgeM ts h1 h2 hv2
    exact ⟨h4, h5, h6.trans h3⟩
theorem jerr_ok {m : Mk} {v : Int} {ts : List Txn} (h : jerr m v ts = 0) : m.floor < v ∧ m.most < v ∧ ts.length ≤ 4 ∧ ∀ t ∈ ts, soundT t := by
  unfold jerr at h
  split at h
  · cases h
  · split at h
    · cases h
    · rename_i h1 h2
      exact ⟨by omega, by omega, by omega, fun t ht => Classical.byContradiction fun hn => h2 (.inr ⟨t, ht, hn⟩)⟩
theorem Mk.Ok.jnext {m : Mk} (h : m.Ok) {v : Int} (ts : List Txn) (hv : v < 9223372036854775808) : (jnext m v ts).Ok := by
  unfold Go.Proofs.YtcmpbhcldaogiaaGreat.jnext
  split
  · rename_i he
    exact (Mk.Ok.judgeM ts h (by have := (jerr_ok he).2.1; omega) hv).1
  · exact h
theorem judgeL_len : ∀ (ts : List Txn) (m : Mk) (v : Int), (judgeL m v ts).length = ts.length
  | [], _, _ => rfl
  | t :: ts, m, v => by simp [judgeL, judgeL_len ts]
theorem judge_snoc : ∀ (ts : List Txn) (m : Mk) (v : Int) (t : Txn), judgeL m v (ts ++ [t]) = judgeL m v ts ++ [verd (judgeM m v ts) t] ∧ judgeM m v (ts ++ [t]) = judge1 (judgeM m v ts) v t
  | [], m, v, t => ⟨rfl, rfl⟩
  | x :: ts, m, v, t => by
    obtain ⟨h1, h2⟩ := judge_snoc ts (judge1 m v x) v t
    exact ⟨by simp [judgeL, judgeM, h1], by simp [judgeM, h2]⟩
end Go.Proofs.YtcmpbhcldaogiaaGreat
namespace Go.Proofs.YtcmpbhcldaogiaaGreat
open Go.RowKit

theorem wpList_addT {ops : Array Oper} {rest : List Oper} {o : Oper} {a : Act} {Q : Exit → Act → World → Prop} {w : World} (hgd : Region.wanted o (yielded ops a.tmps) = true) (s x : Operand)
    (ho : o.op = .call { callee := .builtin .append, args := #[s, x], argTypes := #[50, 50] })
    (base : Nat) (v : Value) (l : List (K × K)) (hs : a.eval s = v) (hown : OwnS w base v l) (B : Nat) (v2 : Value) (p : List (K × K)) (hx : a.eval x = v2) (hp : Rd cellsS 2 w B v2 p)
    (hlen : l.length + p.length ≤ 7036874417000) (hbase : base ≤ w.heap.size) (C : Nat) (w0 : World) (hb : Below C w0 w) (hC : C ≤ base)
    (h : ∀ A' c' w', Hid (OwnS w' base (.slice A' (l ++ p).length c') (l ++ p)) → Hid (Below C w0 w') → Hid (base ≤ w'.heap.size) → wpList Tryz.prog ops Q rest (a.put o.dst (.slice A' (l ++ p).length c')) w') : wpList Tryz.prog ops Q (o :: rest) a w := by
  obtain ⟨i0, hi, hz0, hz1, hz2⟩ := info_parts info_spans
  refine BigFrame.wpList_want hgd fun K hK => ?_
  refine wp_addAny (enc := cellsS) (k := 2) 50 29 32 i0 _ Tryz.underlying50 hi hz0 hz1 hz2 rfl (by decide) cellsS_len cellsS_one s x ho base v l hs hown B v2 p hx hp (by unfold maxLen; omega) (by omega) hbase fun A' c' w' h1 h2 => ?_
  have hown2 : Own cellsS 2 29 w base v l := hown
  exact hK _ _ (h A' c' w' (Lib.hid h1) (Lib.hid (hown2.grown hb h2 hC (Nat.le_trans hC hbase))) (Lib.hid (Nat.le_trans hbase h2.size)))
set_option maxHeartbeats 2000000 in
set_option maxRecDepth 100000 in
theorem rspans_any (l : List Chg) (hs : ∀ c ∈ l, smallC c) (v : Value) (w : World) (hv : RdC w w.heap.size v l) (hl : l.length ≤ 100000) :
    Calls Tryz.prog 22 #[v] w fun e w' => ∃ v' R, e = .returned v' ∧ OwnS w' w.heap.size v' R ∧ Below w.heap.size w w' ∧ Fits R (fun k => mem (l.map cspan) k) ∧ R.length ≤ 200000 := by
  obtain ⟨A, cc, rfl, hcc, hi⟩ := hv.at
  have HI := Lib.hid hi; clear hi
  have HS := Lib.hid hs; clear hs
  obtain ⟨g, hg⟩ : ∃ g, g = w.heap.size := ⟨_, rfl⟩
  have HG := Lib.hid hg
  have hsz : g ≤ w.heap.size := by omega
  clear hv hg
  go_enter Tryz.func22, Tryz.ntmps22
  go_wp2_with fail
  go_loopw [3, 4] (fun ov iv wr => ∃ (i : Nat) (A' : Option Addr) (c' : Nat), i ≤ l.length ∧ iv = .int .i64 i ∧ ov = .slice A' i c' ∧ OwnS wr g ov ((l.take i).map cspan) ∧ Below g w wr ∧ g ≤ wr.heap.size) (fun _ iv _ => l.length - (intOf iv).toNat)
  case atStart =>
    refine ⟨0, some ⟨w.heap.size, 0, none⟩, 0, Nat.zero_le _, rfl, rfl, ?_, ?_, ?_⟩
    · rw [HG.out]; exact Own.empty _ _ (Nat.le_refl _)
    · rw [HG.out]; exact (Below.refl _ w).alloc (Nat.le_refl _) _
    · rw [HG.out]; simp
  case round =>
    obtain ⟨i, A', c', hil, rfl, rfl, ho, hbw, hbs⟩ := hrel
    have HBW := Lib.hid hbw; clear hbw
    have HBS := Lib.hid hbs; clear hbs
    have HO := Lib.hid ho; clear ho
    have hlm : ((l.take i).map cspan).length = i := by simp; omega
    by_cases hlt : i < l.length
    · obtain ⟨b, o, rfl, hbB, k0, k1, k2⟩ := HI.out i hlt
      rw [← HBW.out.cell (p := ⟨b, o + i * 3, none⟩) (by rw [HG.out]; exact hbB)] at k0
      rw [← HBW.out.cell (p := ⟨b, o + i * 3 + 1, none⟩) (by rw [HG.out]; exact hbB)] at k1
      rw [← HBW.out.cell (p := ⟨b, o + i * 3 + 2, none⟩) (by rw [HG.out]; exact hbB)] at k2
      have h1 := rspan_any l[i] wr (HS.out _ (List.getElem_mem hlt)).1
      have hnext : (l.take (i + 1)).map cspan = (l.take i).map cspan ++ [cspan l[i]] := by
        rw [List.take_succ_eq_append_getElem hlt, List.map_append]; rfl
      generalize (l.take i).map cspan = out at HO hlm hnext
      generalize cspan l[i] = sp at h1 hnext
      generalize l[i] = z at k0 k1 k2 h1
      obtain ⟨kz, xz, yz⟩ := z
      unfold cval spv at h1
      simp only at k0 k1 k2 h1
      have H1 := Lib.hid h1; clear h1
      have HN := Lib.hid hnext; clear hnext
      have HLM := Lib.hid hlm
      go_wp2_with fail
      refine H1.out.mono ?_
      rintro e w3 ⟨rfl, hb3⟩
      have HB3 := Lib.hid (show Below g w w3 from HBW.out.trans (hb3.mono HBS.out))
      have HS3 := Lib.hid (show g ≤ w3.heap.size from Nat.le_trans HBS.out hb3.size)
      have HO3 := Lib.hid (show OwnS w3 g _ _ from HO.out.below hb3 (Nat.le_refl _))
      clear hb3 k0 k1 k2
      go_wp2_with (at_builtin; go_must (refine wpList_addT rfl _ _ rfl g (.slice A' i c') out rfl ?f1 (w3.heap.size + 1) _ [sp] rfl (RdS.one w3 sp) (by simp; omega) ?f2 g w ?f3 (Nat.le_refl _) ?f4))
      case f1 => exact HO3.out.alloc _
      case f2 => have := HS3.out; simp; omega
      case f3 => exact HB3.out.alloc HS3.out _
      intro A2 c2 w4 ho4 hb4 hz4
      go_wp2_with fail
      go_roundw
      case rel => exact ⟨i + 1, A2, c2, by omega, by go_num, by simp [hlm], by rw [HN.out]; exact ho4.out, hb4.out, hz4.out⟩
      case measure => simp [intOf]; omega
    · obtain rfl : i = l.length := by omega
      have ho := HO.out
      rw [List.take_length] at ho
      have HO2 := Lib.hid (show RdS wr wr.heap.size _ _ from ho.rd)
      clear ho
      have hj := rjoin_any (l.map cspan) _ wr HO2.out (by simpa using hl)
      have HJ := Lib.hid hj; clear hj
      go_wp2_with fail
      refine HJ.out.mono ?_
      rintro e w5 ⟨v5, R, rfl, ho5, hb5, hf5, hl5⟩
      have HO5 := Lib.hid ho5; clear ho5
      have HB5 := Lib.hid hb5; clear hb5
      have HF5 := Lib.hid hf5; clear hf5
      have HL5 := Lib.hid hl5; clear hl5
      go_wp2_with fail
      have hgz : w.heap.size ≤ wr.heap.size := by rw [← HG.out]; exact HBS.out
      refine bodyPost_ret (v := v5) ?_ rfl ⟨_, _, rfl, HO5.out.lower hgz, (by have h := HBW.out; rwa [HG.out] at h : Below w.heap.size w wr).trans (HB5.out.mono hgz), HF5.out, HL5.out⟩
      simp [results, Tryz.results22, go_sem]
end Go.Proofs.YtcmpbhcldaogiaaGreat
namespace Go.Proofs.YtcmpbhcldaogiaaGreat
open Go.RowKit

/-- of the blocks that were there those of D alone have moved -/
structure Mv (D : Nat → Prop) (w w' : World) : Prop where
  os : w'.os = w.os
  tape : w'.tape = w.tape
  output : w'.output = w.output
  size : w.heap.size ≤ w'.heap.size
  block : ∀ i, i < w.heap.size → ¬ D i → w'.heap[i]? = w.heap[i]?
namespace Mv
variable {D D' : Nat → Prop} {w w' w2 : World}
theorem refl (D : Nat → Prop) (w : World) : Mv D w w := ⟨rfl, rfl, rfl, Nat.le_refl _, fun _ _ _ => rfl⟩
theorem mono (h : Mv D w w') (hD : ∀ i, i < w.heap.size → D i → D' i) : Mv D' w w' := ⟨h.os, h.tape, h.output, h.size, fun i hi hn => h.block i hi fun hd => hn (hD i hi hd)⟩
theorem trans (h : Mv D w w') (h2 : Mv D' w' w2) (hD : ∀ i, i < w.heap.size → D' i → D i) : Mv D w w2 :=
  ⟨h2.os.trans h.os, h2.tape.trans h.tape, h2.output.trans h.output, Nat.le_trans h.size h2.size, fun i hi hn => (h2.block i (Nat.lt_of_lt_of_le hi h.size) fun hd => hn (hD i hi hd)).trans (h.block i hi hn)⟩
theorem of_grown {row : Option Nat} (h : w.grownBy w' row) : Mv (fun i => some i = row) w w' := ⟨h.os, h.tape, h.output, h.size, fun i hi hn => h.block i hi hn⟩
theorem grown {row : Option Nat} (h : Mv D w w') (h2 : w'.grownBy w2 row) (hD : ∀ i, i < w.heap.size → some i = row → D i) : Mv D w w2 := h.trans (of_grown h2) hD
theorem alloc (h : Mv D w w') (o : Obj) : Mv D w (w'.alloc o) :=
  h.trans (D' := fun _ => False) ⟨rfl, rfl, rfl, by simp, fun i hi _ => Below.heap_alloc w' o i hi⟩ (fun _ _ h => h.elim)
theorem setCell (h : Mv D w w') {p : Addr} (hp : p.block < w.heap.size → D p.block) (u : Value) : Mv D w (w'.setCell p u) := by
  refine h.trans (D' := fun i => i = p.block) ⟨rfl, rfl, rfl, by simp, fun i hi hn => Below.heap_setCell w' p u i hn⟩ ?_
  rintro i hi rfl
  exact hp hi
theorem drew (h : Mv D w w') : Mv D w w'.drew := ⟨h.os, h.tape, h.output, h.size, h.block⟩
theorem below {B : Nat} (h : Mv D w w') (hB : B ≤ w.heap.size) (hD : ∀ i, D i → B ≤ i) : Below B w w' :=
  ⟨h.os, h.tape, h.output, h.size, fun k hk => h.block k (Nat.lt_of_lt_of_le hk hB) fun hd => by have := hD k hd; omega⟩
theorem of_below {B : Nat} (h : Below B w w') : Mv (fun i => B ≤ i) w w' := ⟨h.os, h.tape, h.output, h.size, fun i _ hn => h.block i (by omega)⟩
theorem of_new (h : Below w.heap.size w w') (D : Nat → Prop) : Mv D w w' := ⟨h.os, h.tape, h.output, h.size, fun i hi _ => h.block i hi⟩
theorem whole {g : Nat} {t : TypeId} {cs : List Value} (hg : Whole w g t cs) (h : Mv D w w') (hn : ¬ D g) : Whole w' g t cs := (h.block g hg.size hn).trans hg
end Mv

/-- the row is the same, or a new one, or none -/
def NewRow (w : World) (o o' : Option Nat) : Prop := ∀ g, o' = some g → o = some g ∨ w.heap.size ≤ g
theorem NewRow.refl (w : World) (o : Option Nat) : NewRow w o o := fun _ h => .inl h
theorem NewRow.out {w : World} {o o' : Option Nat} (h : NewRow w o o') {r : Nat} (hr : r < w.heap.size) (hn : o ≠ some r) : o' ≠ some r := by
  intro he
  rcases h r he with h1 | h1
  · exact hn h1
  · omega
theorem NewRow.low {w : World} {base : Nat} {o o' : Option Nat} (h : NewRow w o o') (hb : base ≤ w.heap.size) (hl : ∀ g, o = some g → base ≤ g) : ∀ g, o' = some g → base ≤ g := by
  intro g he
  rcases h g he with h1 | h1
  · exact hl g h1
  · omega
theorem NewRow.trans {w w' : World} {o o' o2 : Option Nat} (h : NewRow w o o') (h2 : NewRow w' o' o2) (hs : w.heap.size ≤ w'.heap.size) : NewRow w o o2 := by
  intro g he
  rcases h2 g he with h1 | h1
  · exact h g h1
  · exact .inr (Nat.le_trans hs h1)
end Go.Proofs.YtcmpbhcldaogiaaGreat
