/- What Apply answers, told alike of the program and of the reference; the walk of ChangeApplies. -/
import Derived.Test.YtdkdolcocblhkaaAwk
import Derived.Test.YtdkdolcocblhkaaRSame
namespace Go.Proofs.Ytdkdolcocblhkaa
open Go.RowKit
attribute [local go_sem] less_eq same_eq le_eq ge_eq gt_eq

/-- Apply's error, and what it answers beside it -/
noncomputable def applyErr (l : List (K × K)) (cs : List Chg) : Int := if allAns cs ≠ 0 then allAns cs else if soundP l = true then 0 else 2
noncomputable def applyRes (l : List (K × K)) (cs : List Chg) : List (K × K) := if applyErr l cs = 0 then applyP l cs else []
theorem applyErr_zero {l : List (K × K)} {cs : List Chg} : applyErr l cs = 0 ↔ allAns cs = 0 ∧ soundP l = true := by
  unfold applyErr
  by_cases h : allAns cs = 0
  · rw [if_neg (by simpa using h)]
    by_cases h2 : soundP l = true
    · rw [if_pos h2]; simp [h, h2]
    · rw [if_neg h2]; simp [h, h2]
  · rw [if_pos h]; simp [h]
theorem applyRes_len (l : List (K × K)) (cs : List Chg) : (applyRes l cs).length ≤ l.length + cs.length := by
  unfold applyRes
  split
  · exact applyP_length l cs
  · simp
theorem ApplyIs.rd {w : World} {base : Nat} {v' : Value} {q : Int} {l : List (K × K)} {cs : List Chg} (h : ApplyIs w base v' q (allAns cs) (soundP l) (applyP l cs)) : q = applyErr l cs ∧ RdP w w.heap.size v' (applyRes l cs) := by
  rcases h with ⟨h1, h2, rfl⟩ | ⟨h1, h2, rfl, rfl⟩ | ⟨h1, h2, rfl, ho⟩
  · have e : applyErr l cs = q := by unfold applyErr; rw [if_pos (by rw [← h1]; exact h2), h1]
    refine ⟨e.symm, ?_⟩
    unfold applyRes; rw [e, if_neg h2]; exact Rd.nil _ _
  · have e : applyErr l cs = 2 := by unfold applyErr; rw [if_neg (by simpa using h1), if_neg (by simp [h2])]
    refine ⟨e.symm, ?_⟩
    unfold applyRes; rw [e, if_neg (by decide)]; exact Rd.nil _ _
  · have e : applyErr l cs = 0 := applyErr_zero.2 ⟨h1, h2⟩
    refine ⟨e.symm, ?_⟩
    unfold applyRes; rw [if_pos e]; exact ho.rd cellsS_len
theorem Rd.slice {α : Type} {enc : α → List Value} {k : Nat} {w : World} {B : Nat} {v : Value} {l : List α} (h : Rd enc k w B v l) : ∃ A c, v = .slice A l.length c := by
  obtain ⟨A, c, rfl, _⟩ := h
  exact ⟨A, c, rfl⟩

def ApplyRd (L : List (K × K)) (q : Int) (w : World) (e : Ending) (w' : World) : Prop := ∃ A' c', e = .returned (.tuple #[.slice A' L.length c', .int .i64 q]) ∧ RdP w' w'.heap.size (.slice A' L.length c') L ∧ Below w.heap.size w w'
theorem papply_rd (l : List (K × K)) (cs : List Chg) (hs : ∀ p ∈ l, p.1.size < 4611686018427387904 ∧ p.2.size < 4611686018427387904) (hcs : ∀ c ∈ cs, smallC c) (v vc : Value) (w : World) (hv : RdP w w.heap.size v l) (hvc : RdC w w.heap.size vc cs) (hl : l.length + cs.length ≤ 7036874416000) :
    Calls Try.prog 16 #[v, vc] w (ApplyRd (applyRes l cs) (applyErr l cs) w) :=
  (papply_any l cs hs hcs v vc w hv hvc hl).mono fun e w' h => by
    obtain ⟨v', q, rfl, hb, ha⟩ := h
    obtain ⟨rfl, hr⟩ := ha.rd
    obtain ⟨A, c, rfl⟩ := Rd.slice hr
    exact ⟨A, c, rfl, hr, hb⟩
theorem rapply_rd (l : List (K × K)) (cs : List Chg) (hs : ∀ p ∈ l, p.1.size < 4611686018427387904 ∧ p.2.size < 4611686018427387904) (hcs : ∀ c ∈ cs, smallC c) (v vc : Value) (w : World) (hv : RdP w w.heap.size v l) (hvc : RdC w w.heap.size vc cs) (hl : l.length + cs.length ≤ 7036874416000) :
    Calls Try.prog 17 #[v, vc] w (ApplyRd (applyRes l cs) (applyErr l cs) w) :=
  (rapply_any l cs hs hcs v vc w hv hvc hl).mono fun e w' h => by
    obtain ⟨v', q, rfl, hb, ha⟩ := h
    have hr : q = applyErr l cs ∧ RdP w' w'.heap.size v' (applyRes l cs) := by
      rcases ha with ⟨h1, h2, rfl⟩ | ⟨h1, h2, rfl, rfl⟩ | ⟨h1, h2, rfl, ho⟩
      · have e : applyErr l cs = q := by unfold applyErr; rw [if_pos (by rw [← h1]; exact h2), h1]
        refine ⟨e.symm, ?_⟩
        unfold applyRes; rw [e, if_neg h2]; exact Rd.nil _ _
      · have e : applyErr l cs = 2 := by unfold applyErr; rw [if_neg (by simpa using h1), if_neg (by simp [h2])]
        refine ⟨e.symm, ?_⟩
        unfold applyRes; rw [e, if_neg (by decide)]; exact Rd.nil _ _
      · have e : applyErr l cs = 0 := applyErr_zero.2 ⟨h1, h2⟩
        refine ⟨e.symm, ?_⟩
        unfold applyRes; rw [if_pos e]; exact ho
    obtain ⟨rfl, hr⟩ := hr
    obtain ⟨A, c, rfl⟩ := Rd.slice hr
    exact ⟨A, c, rfl, hr, hb⟩
theorem pairs_true (a b : List (K × K)) (hab : a = b) (va vb : Value) (w : World) (hva : RdP w w.heap.size va a) (hvb : RdP w w.heap.size vb b) (hla : a.length < 4611686018427387904) :
    Calls Try.prog 18 #[va, vb] w fun e w' => e = .returned (.bool true) ∧ Below w.heap.size w w' := by
  have h := pairs_any a b va vb w hva hvb hla (by rw [← hab]; exact hla)
  rwa [show decide (a = b) = true from decide_eq_true hab] at h
theorem chgs_true (a b : List Chg) (hab : a = b) (va vb : Value) (w : World) (hva : RdC w w.heap.size va a) (hvb : RdC w w.heap.size vb b) (hla : a.length < 4611686018427387904) :
    Calls Try.prog 24 #[va, vb] w fun e w' => e = .returned (.bool true) ∧ Below w.heap.size w w' := by
  have h := chgs_any a b va vb w hva hvb hla (by rw [← hab]; exact hla)
  rwa [show decide (a = b) = true from decide_eq_true hab] at h

set_option maxHeartbeats 8000000 in
set_option maxRecDepth 100000 in
theorem changeApplies_walk (l : List (K × K)) (cs : List Chg) (hs : ∀ p ∈ l, p.1.size < 4611686018427387904 ∧ p.2.size < 4611686018427387904) (hcs : ∀ c ∈ cs, smallC c) (v vc : Value) (w : World) (hv : RdP w w.heap.size v l) (hvc : RdC w w.heap.size vc cs) (hl : l.length + cs.length ≤ 7036874416000) :
    Calls Try.prog 4 #[v, vc] w fun e w' => e = .returned (.bool true) ∧ Below w.heap.size w w' := by
  have hp := fun W h1 h2 => papply_rd l cs hs hcs v vc W h1 h2 hl
  have hr := fun W h1 h2 => rapply_rd l cs hs hcs v vc W h1 h2 hl
  have hlen := applyRes_len l cs
  generalize applyRes l cs = L at hp hr hlen
  generalize applyErr l cs = q at hp hr
  have HP := Lib.hid hp; clear hp
  have HR := Lib.hid hr; clear hr
  have HV := Lib.hid hv; clear hv
  have HC := Lib.hid hvc; clear hvc
  clear hs hcs
  go_enter Try.func4, Try.ntmps4
  go_wp2_with fail
  refine (HP.out w HV.out HC.out).mono ?_
  rintro e w1 ⟨A1, c1, rfl, hr1, hb1⟩
  have HR1 := Lib.hid hr1; clear hr1
  have HV1 := Lib.hid (HV.out.next hb1)
  have HC1 := Lib.hid (HC.out.next hb1)
  have HB1 := Lib.hid hb1; clear hb1
  go_wp2_with fail
  refine (HR.out w1 HV1.out HC1.out).mono ?_
  rintro e w2 ⟨A2, c2, rfl, hr2, hb2⟩
  have HR2 := Lib.hid hr2; clear hr2
  have HR12 := Lib.hid (HR1.out.next hb2)
  have HB2 := Lib.hid (HB1.out.trans (hb2.mono HB1.out.size)); clear hb2
  go_wp2_with fail
  refine (awake_any _).mono ?_
  rintro e w3 ⟨rfl, hb3⟩
  have hpt := pairs_true L L rfl _ _ w3 (HR12.out.next hb3) (HR2.out.next hb3) (by omega)
  have HPT := Lib.hid hpt; clear hpt
  have HB3 := Lib.hid (HB2.out.trans (hb3.mono HB2.out.size)); clear hb3
  go_wp2_with fail
  refine HPT.out.mono ?_
  rintro e w4 ⟨rfl, hb4⟩
  have HB4 := Lib.hid (HB3.out.trans (hb4.mono HB3.out.size)); clear hb4
  go_wp2_with fail
  go_ret
  exact ⟨rfl, HB4.out⟩
end Go.Proofs.Ytdkdolcocblhkaa
