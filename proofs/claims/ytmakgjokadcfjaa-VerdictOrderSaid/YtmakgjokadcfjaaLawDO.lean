/- VerdictOrder's walk. -/
import Derived.Test.YtmakgjokadcfjaaLawDB
namespace Go.Proofs.Ytmakgjokadcfjaa
open Go.RowKit
attribute [local go_sem] less_eq same_eq le_eq ge_eq gt_eq

theorem lls_three (a b c : List Int) (A B C : Option Addr) (p q r : Nat) : lls [⟨a, A, p⟩, ⟨b, B, q⟩, ⟨c, C, r⟩] = [a, b, c] := rfl
/-- what Both answers for lists that lie anywhere -/
theorem pbothL (ls : List LI) (w : World) (h : ∀ e ∈ ls, RdI w w.heap.size e.v e.l) (hl : ls.length < 4611686018427387904) (hs : ∀ e ∈ ls, e.l.length ≤ 17592186043904) :
    Calls Try.prog 9 #[.slice (some ⟨w.heap.size, 0, none⟩) ls.length ls.length] (w.alloc (.cells (ls.map LI.v).toArray 23)) fun e w' => ∃ A c, e = .returned (.tuple #[.slice A (bothAns (lls ls)).1.length c, .int .i64 (bothAns (lls ls)).2]) ∧ RdI w' w'.heap.size (.slice A (bothAns (lls ls)).1.length c) (bothAns (lls ls)).1 ∧ Below w.heap.size w w' := by
  have hb := (Below.refl _ w).alloc (Nat.le_refl _) (.cells (ls.map LI.v).toArray 23)
  refine (pboth_any ls _ _ (by rw [World.size_alloc]; exact RdLL.lit w ls h) hl hs).mono ?_
  rintro e w' ⟨v', rfl, hr, h2⟩
  obtain ⟨A, c, rfl, -, -⟩ := hr.at
  exact ⟨A, c, rfl, hr, hb.trans (h2.mono (by simp))⟩

set_option maxHeartbeats 4000000 in
set_option maxRecDepth 100000 in
theorem verdictOrder_walk (l0 l1 l2 : List Int) (v0 v1 v2 : Value) (w : World) (h0 : RdI w w.heap.size v0 l0) (h1 : RdI w w.heap.size v1 l1) (h2 : RdI w w.heap.size v2 l2) (g0 : l0.length ≤ 17592186043904) (g1 : l1.length ≤ 17592186043904) (g2 : l2.length ≤ 17592186043904) :
    Calls Try.prog 6 #[v0, v1, v2] w fun e w' => e = .returned (.bool true) ∧ Below w.heap.size w w' := by
  obtain ⟨A0, c0, rfl, -, -⟩ := h0.at
  obtain ⟨A1, c1, rfl, -, -⟩ := h1.at
  obtain ⟨A2, c2, rfl, -, -⟩ := h2.at
  have hsame : bothAns [l2, l0, l1, l0] = bothAns [l0, l1, l2] := both_same (fun l => by simp only [List.mem_cons, List.not_mem_nil, or_false]; exact ⟨fun h => by rcases h with h | h | h | h <;> simp [h], fun h => by rcases h with h | h | h <;> simp [h]⟩)
  have hA := fun W (h : Below w.heap.size w W) => pbothL [⟨l0, A0, c0⟩, ⟨l1, A1, c1⟩, ⟨l2, A2, c2⟩] W (by
    intro e he
    simp only [List.mem_cons, List.not_mem_nil, or_false] at he
    rcases he with rfl | rfl | rfl
    · exact h0.next h
    · exact h1.next h
    · exact h2.next h) (by simp) (by
    intro e he
    simp only [List.mem_cons, List.not_mem_nil, or_false] at he
    rcases he with rfl | rfl | rfl <;> assumption)
  have hB := fun W (h : Below w.heap.size w W) => pbothL [⟨l2, A2, c2⟩, ⟨l0, A0, c0⟩, ⟨l1, A1, c1⟩, ⟨l0, A0, c0⟩] W (by
    intro e he
    simp only [List.mem_cons, List.not_mem_nil, or_false] at he
    rcases he with rfl | rfl | rfl | rfl
    · exact h2.next h
    · exact h0.next h
    · exact h1.next h
    · exact h0.next h) (by simp) (by
    intro e he
    simp only [List.mem_cons, List.not_mem_nil, or_false] at he
    rcases he with rfl | rfl | rfl | rfl <;> assumption)
  have hC := fun W (h : Below w.heap.size w W) => pbothL [⟨l0, A0, c0⟩, ⟨l1, A1, c1⟩] W (by
    intro e he
    simp only [List.mem_cons, List.not_mem_nil, or_false] at he
    rcases he with rfl | rfl
    · exact h0.next h
    · exact h1.next h) (by simp) (by
    intro e he
    simp only [List.mem_cons, List.not_mem_nil, or_false] at he
    rcases he with rfl | rfl <;> assumption)
  rw [show lls [⟨l0, A0, c0⟩, ⟨l1, A1, c1⟩, ⟨l2, A2, c2⟩] = [l0, l1, l2] from rfl] at hA
  rw [show lls [⟨l2, A2, c2⟩, ⟨l0, A0, c0⟩, ⟨l1, A1, c1⟩, ⟨l0, A0, c0⟩] = [l2, l0, l1, l0] from rfl, hsame] at hB
  rw [show lls [⟨l0, A0, c0⟩, ⟨l1, A1, c1⟩] = [l0, l1] from rfl] at hC
  have hlX : (bothAns [l0, l1, l2]).1.length ≤ 17592186043904 := bothAns_len (ls := [⟨l0, A0, c0⟩, ⟨l1, A1, c1⟩, ⟨l2, A2, c2⟩]) (by
    intro e he
    simp only [List.mem_cons, List.not_mem_nil, or_false] at he
    rcases he with rfl | rfl | rfl <;> assumption)
  have hlZ : (bothAns [l0, l1]).1.length ≤ 17592186043904 := bothAns_len (ls := [⟨l0, A0, c0⟩, ⟨l1, A1, c1⟩]) (by
    intro e he
    simp only [List.mem_cons, List.not_mem_nil, or_false] at he
    rcases he with rfl | rfl <;> assumption)
  have hstep : (bothAns [l0, l1, l2]).2 = 0 → (bothAns [l0, l1]).2 = 0 ∧ bothAns [(bothAns [l0, l1]).1, l2] = ((bothAns [l0, l1, l2]).1, 0) := both_again
  simp only [List.map_cons, List.map_nil, LI.v, List.length_cons, List.length_nil, Nat.zero_add, Nat.reduceAdd] at hA hB hC
  obtain ⟨Z, hZ⟩ : ∃ Z, Z = (bothAns [l0, l1]).1 := ⟨_, rfl⟩
  have hD := fun W (h : Below w.heap.size w W) A3 c3 (hz : RdI W W.heap.size (.slice A3 Z.length c3) Z) => pbothL [⟨Z, A3, c3⟩, ⟨l2, A2, c2⟩] W (by
    intro e he
    simp only [List.mem_cons, List.not_mem_nil, or_false] at he
    rcases he with rfl | rfl
    · exact hz
    · exact h2.next h) (by simp) (by
    intro e he
    simp only [List.mem_cons, List.not_mem_nil, or_false] at he
    rcases he with rfl | rfl
    · show Z.length ≤ _; rw [hZ]; exact hlZ
    · exact g2)
  simp only [List.map_cons, List.map_nil, LI.v, List.length_cons, List.length_nil, Nat.zero_add, Nat.reduceAdd] at hD
  rw [← hZ] at hC hstep
  have hD2 := fun (e : (bothAns [l0, l1, l2]).2 = 0) => (hstep e).2
  have hq : ∀ A3 c3, lls [⟨Z, A3, c3⟩, ⟨l2, A2, c2⟩] = [Z, l2] := fun _ _ => rfl
  simp only [hq] at hD
  have hz2 := fun e => (hstep e).1
  generalize (bothAns [l0, l1]).2 = ez at hC hz2
  generalize bothAns [l0, l1, l2] = R at hA hB hlX hD2 hz2
  generalize bothAns [Z, l2] = R2 at hD hD2
  obtain ⟨X, ex⟩ := R
  obtain ⟨Y, ey⟩ := R2
  simp only at hA hB hC hD hlX hD2 hz2
  have HA := Lib.hid hA
  have HB := Lib.hid hB
  have HC := Lib.hid hC
  have HD := Lib.hid hD
  have HD2 := Lib.hid hD2
  have HZ2 := Lib.hid hz2
  have HI := Lib.hid (fun va vb W (g1 : RdI W W.heap.size va X) (g2 : RdI W W.heap.size vb X) => ints_any X X va vb W g1 g2 (by omega) (by omega))
  rw [show decide (X = X) = true from decide_eq_true rfl] at HI
  clear hA hB hC hD hD2 hz2 hstep hsame hq hZ hlX hlZ h0 h1 h2 g0 g1 g2
  go_enter Try.func6, Try.ntmps6
  go_wp2_with fail
  refine (HA.out w (Below.refl _ _)).mono ?_
  rintro e w1 ⟨A3, c3, rfl, hr1, hb1⟩
  have HB1 := Lib.hid hb1
  have HR1 := Lib.hid hr1
  clear hb1 hr1
  go_wp2_with fail
  refine (HB.out w1 HB1.out).mono ?_
  rintro e w2 ⟨A4, c4, rfl, hr2, hb2⟩
  have HB2 := Lib.hid (HB1.out.trans (hb2.mono HB1.out.size))
  have HR12 := Lib.hid (HR1.out.next hb2)
  have HR2 := Lib.hid hr2
  clear hb2 hr2
  go_wp2_with fail
  refine (awakeD_any w2).mono ?_
  rintro e w3 ⟨rfl, hb3⟩
  have HB3 := Lib.hid (HB2.out.trans (hb3.mono HB2.out.size))
  have HR13 := Lib.hid (HR12.out.next hb3)
  have HE := Lib.hid (HI.out _ _ w3 (HR12.out.next hb3) (HR2.out.next hb3))
  clear hb3
  go_wp2_with fail
  refine HE.out.mono ?_
  rintro e w4 ⟨rfl, hb4⟩
  have HB4 := Lib.hid (HB3.out.trans (hb4.mono HB3.out.size))
  have HR14 := Lib.hid (HR13.out.next hb4)
  clear hb4
  by_cases hx : ex = 0
  case neg =>
    have hxb : (ex == 0) = false := by simpa using hx
    go_wp2_with fail
    go_ret
    exact ⟨rfl, HB4.out⟩
  have hez := HZ2.out hx
  have hey := HD2.out hx
  injection hey with hy1 hy2
  subst hx hez hy1 hy2
  go_wp2_with fail
  refine (HC.out w4 HB4.out).mono ?_
  rintro e w5 ⟨A5, c5, rfl, hr5, hb5⟩
  have HB5 := Lib.hid (HB4.out.trans (hb5.mono HB4.out.size))
  have HR15 := Lib.hid (HR14.out.next hb5)
  have HDD := Lib.hid (HD.out w5 HB5.out A5 c5 hr5)
  clear hr5 hb5
  go_wp2_with fail
  refine HDD.out.mono ?_
  rintro e w6 ⟨A6, c6, rfl, hr6, hb6⟩
  have HB6 := Lib.hid (HB5.out.trans (hb6.mono HB5.out.size))
  have HE6 := Lib.hid (HI.out _ _ w6 hr6 (HR15.out.next hb6))
  clear hr6 hb6
  go_wp2_with fail
  refine HE6.out.mono ?_
  rintro e w7 ⟨rfl, hb7⟩
  have HB7 := Lib.hid (HB6.out.trans (hb7.mono HB6.out.size))
  clear hb7
  go_wp2_with fail
  go_ret
  exact ⟨rfl, HB7.out⟩
end Go.Proofs.Ytmakgjokadcfjaa
