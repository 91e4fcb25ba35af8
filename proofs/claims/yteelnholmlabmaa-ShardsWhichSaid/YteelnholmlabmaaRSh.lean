/- The reference's Sound, Which and Piece of bounds. -/
import Derived.Test.YteelnholmlabmaaSh
import Derived.Test.YteelnholmlabmaaGen
import Derived.Test.YteelnholmlabmaaSmall
import Derived.Test.YteelnholmlabmaaPlanB
import Derived.Test.YteelnholmlabmaaWhole
namespace Go.Proofs.Yteelnholmlabmaa
open Go.RowKit
attribute [local go_sem] less_eq same_eq le_eq ge_eq gt_eq

def encK (k : K) : List Value := [.string k]
theorem encK_len (k : K) : (encK k).length = 1 := rfl
abbrev RdK (w : World) (B : Nat) (v : Value) (l : List K) : Prop := Rd encK 1 w B v l
theorem RdK.at {w : World} {B : Nat} {v : Value} {l : List K} (h : RdK w B v l) : ∃ A c, v = .slice A l.length c ∧ l.length ≤ c ∧ ∀ i (_ : i < l.length), ∃ b o, A = some ⟨b, o, none⟩ ∧ b < B ∧ w.cell? ⟨b, o + i, none⟩ = some (.string l[i]) := by
  obtain ⟨A, c, hv, hc, hi⟩ := h
  refine ⟨A, c, hv, hc, fun i hs => ?_⟩
  obtain ⟨b, o, hA, hB, h1⟩ := hi i hs
  have := h1 0 _ rfl
  simp only [Nat.mul_one, Nat.add_zero] at this
  exact ⟨b, o, hA, hB, this⟩
/-- a bound is sound behind the one ahead of it -/
def okAt (b : List K) (j : Nat) (h : j < b.length) : Prop := (1 ≤ b[j].size ∧ b[j].size ≤ 16) ∧ ∀ i (_ : i + 1 = j), b[i] < b[j]
theorem okB_at {b : List K} : okB b ↔ b.length ≤ 7 ∧ ∀ j (h : j < b.length), okAt b j h := by
  unfold okB okAt
  constructor
  · rintro ⟨h1, h2, h3⟩
    exact ⟨h1, fun j h => ⟨h2 _ (List.getElem_mem h), fun i e => by subst e; exact h3 i h⟩⟩
  · rintro ⟨h1, h2⟩
    refine ⟨h1, fun x hx => ?_, fun i h => (h2 (i + 1) h).2 i rfl⟩
    obtain ⟨j, hj, rfl⟩ := List.getElem_of_mem hx
    exact (h2 j hj).1

set_option maxHeartbeats 8000000 in
set_option maxRecDepth 100000 in
theorem rsoundB_any (l : List K) (v : Value) (w : World) (hv : RdK w w.heap.size v l) :
    Calls Try.prog 11 #[v] w fun e w' => e = .returned (.bool (decide (okB l))) ∧ Below w.heap.size w w' := by
  obtain ⟨A, c, rfl, hc, hi⟩ := hv.at
  have HI := Lib.hid hi
  clear hi hv
  have HB0 := Lib.hid (Below.refl w.heap.size w)
  go_enter Try.func11, Try.ntmps11
  by_cases h7 : l.length ≤ 7
  case neg =>
    have hno := decide_eq_false (show ¬ okB l from fun h => h7 h.1)
    have h7i : (7 : Int) < (l.length : Int) := by omega
    have HNO := Lib.hid hno
    clear hno
    go_wp2_with fail
    go_ret
    exact ⟨by rw [HNO.out]; rfl, HB0.out⟩
  have h7i : ¬ (7 : Int) < (l.length : Int) := by omega
  go_wp2_with fail
  go_loopw [3] (fun iv wr => ∃ i : Nat, i ≤ l.length ∧ iv = .int .i64 (i : Int) ∧ (∀ j (h : j < l.length), j < i → okAt l j h) ∧ Below w.heap.size w wr) (fun iv _ => l.length - (intOf iv).toNat)
  case atStart => exact ⟨0, Nat.zero_le _, rfl, fun j _ hj => by omega, HB0.out⟩
  case round =>
    obtain ⟨i, hil, rfl, hok, hbw⟩ := hrel
    have HOK := Lib.hid hok
    have HBW := Lib.hid hbw
    clear hok hbw
    have hd0 : Below wr.heap.size wr wr.drew := (Below.refl _ wr).drew
    by_cases hlt : i < l.length
    · obtain ⟨b, o, rfl, hB, k0⟩ := HI.out i hlt
      have hC : ∀ W, Below wr.heap.size wr W → W.cell? ⟨b, o + i, none⟩ = some (.string l[i]) := fun W hW => ((HBW.out.trans (hW.mono HBW.out.size)).cell (p := ⟨b, o + i, none⟩) hB).trans k0
      have hno : (¬ 1 ≤ l[i].size ∨ ¬ l[i].size ≤ 16) → ¬ okB l := fun h1 h2 => by have := ((okB_at.1 h2).2 i hlt).1; omega
      have hno2 : ∀ j (e : j + 1 = i), ¬ l[j] < l[i] → ¬ okB l := fun j e h1 h2 => h1 (((okB_at.1 h2).2 i hlt).2 j e)
      have hyes : 1 ≤ l[i].size → l[i].size ≤ 16 → (∀ j (e : j + 1 = i), l[j] < l[i]) → ∀ j (h : j < l.length), j < i + 1 → okAt l j h := fun h1 h2 h3 j h hj => by
        rcases Nat.lt_or_ge j i with h4 | h4
        · exact HOK.out j h h4
        · have e : j = i := by omega
          subst e
          exact ⟨⟨h1, h2⟩, h3⟩
      have h0 : (0 : Int) ≤ (i : Int) := by omega
      have h1 : (i : Int) < (l.length : Int) := by omega
      have h3 : IntKind.i64.wrap ((i : Int) + 1) = ((i + 1 : Nat) : Int) := by rw [IntKind.wrap_i64]; omega
      have hC0 := HI
      by_cases hi0 : i = 0
      · have HNO1 := Lib.hid hno
        have HY := Lib.hid hyes
        clear hno hno2 hyes
        subst hi0
        simp only [Nat.add_zero] at hC
        generalize hx : l[0] = x at hC
        have HX := Lib.hid hx
        clear hx k0 HOK
        have HC := Lib.hid hC
        clear hC hC0
        have h1 : (0 : Int) < (l.length : Int) := by omega
        by_cases ha : x.size < 1
        · have HNO := Lib.hid (HNO1.out (.inl (by rw [HX.out]; omega)))
          have k3 : (x.size : Int) < 1 := by omega
          go_wp2_with fail
          refine wp_region_planB [(true, 0), (true, 1), (true, 2), (true, 3), (true, 4), (true, 5), (true, 6), (true, 7), (true, 8), (true, 9), (true, 10), (true, 11), (true, 12), (true, 13), (true, 14), (true, 15), (true, 16), (true, 17), (true, 18), (true, 19), (true, 20), (true, 21), (true, 22), (true, 23), (true, 24), (true, 25), (true, 26), (true, 27), (true, 28), (true, 29)] (by kernel_rfl) (by kernel_rfl) (fun _ _ d _ _ h => by cases d <;> exact h) ?_
          repeat (first | (refine PlanB.take (v := ?_) rfl rfl ?_ ?_; rotate_left; (focus (intro W hW; have k0 := HC.out W (hd0.trans hW); go_simp; (try with_reducible rfl); done)); (try simp only [Act.put, List.setIfInBounds_toArray, List.set_cons_zero, List.set_cons_succ])) | (refine PlanB.skip rfl rfl ?_; (try simp only [Act.put, List.setIfInBounds_toArray, List.set_cons_zero, List.set_cons_succ])))
          simp only [PlanB]
          go_wp2_with fail
          go_ret
          exact ⟨by rw [decide_eq_false HNO.out]; rfl, HBW.out.drew⟩
        have k3 : ¬ (x.size : Int) < 1 := by omega
        have k3b := decide_eq_false k3
        have k3d : ¬ x.size = 0 := by omega
        have k3e : (x.size == 0) = false := by simpa using k3d
        by_cases hb : 16 < x.size
        · have HNO := Lib.hid (HNO1.out (.inr (by rw [HX.out]; omega)))
          have k4 : (16 : Int) < (x.size : Int) := by omega
          go_wp2_with fail
          refine wp_region_planB [(true, 0), (true, 1), (true, 2), (true, 3), (true, 4), (true, 5), (true, 6), (true, 7), (true, 8), (true, 9), (true, 10), (true, 11), (true, 12), (true, 13), (true, 14), (true, 15), (true, 16), (true, 17), (true, 18), (true, 19), (true, 20), (true, 21), (true, 22), (true, 23), (true, 24), (true, 25), (true, 26), (true, 27), (true, 28), (true, 29)] (by kernel_rfl) (by kernel_rfl) (fun _ _ d _ _ h => by cases d <;> exact h) ?_
          repeat (first | (refine PlanB.take (v := ?_) rfl rfl ?_ ?_; rotate_left; (focus (intro W hW; have k0 := HC.out W (hd0.trans hW); go_simp; (try with_reducible rfl); done)); (try simp only [Act.put, List.setIfInBounds_toArray, List.set_cons_zero, List.set_cons_succ])) | (refine PlanB.skip rfl rfl ?_; (try simp only [Act.put, List.setIfInBounds_toArray, List.set_cons_zero, List.set_cons_succ])))
          simp only [PlanB]
          go_wp2_with fail
          go_ret
          exact ⟨by rw [decide_eq_false HNO.out]; rfl, HBW.out.drew⟩
        have k4 : ¬ (16 : Int) < (x.size : Int) := by omega
        have k4b := decide_eq_false k4
        have k4d : ¬ 16 < x.size := hb
        have k4e := decide_eq_false k4d
        have HYES := Lib.hid (HY.out (by rw [HX.out]; omega) (by rw [HX.out]; omega) (fun j e => by omega))
        go_wp2_with fail
        refine wp_region_planB [(true, 0), (true, 1), (true, 2), (true, 3), (true, 4), (true, 5), (true, 6), (true, 7), (true, 8), (true, 9), (true, 10), (true, 11), (true, 12), (true, 13), (true, 14), (true, 15), (true, 16), (true, 17), (true, 18), (true, 19), (true, 20), (true, 21), (true, 22), (true, 23), (true, 24), (true, 25), (true, 26), (true, 27), (true, 28), (true, 29)] (by kernel_rfl) (by kernel_rfl) (fun _ _ d _ _ h => by cases d <;> exact h) ?_
        repeat (first | (refine PlanB.take (v := ?_) rfl rfl ?_ ?_; rotate_left; (focus (intro W hW; have k0 := HC.out W (hd0.trans hW); go_simp; (try with_reducible rfl); done)); (try simp only [Act.put, List.setIfInBounds_toArray, List.set_cons_zero, List.set_cons_succ])) | (refine PlanB.skip rfl rfl ?_; (try simp only [Act.put, List.setIfInBounds_toArray, List.set_cons_zero, List.set_cons_succ])))
        simp only [PlanB]
        go_wp2_with fail
        go_roundw
        case rel => exact ⟨0 + 1, by omega, rfl, HYES.out, HBW.out.drew⟩
        case measure => simp [intOf]; omega
      · obtain ⟨b2, o2, eA, hB2, k1⟩ := HI.out (i - 1) (by omega)
        obtain ⟨rfl, rfl⟩ : b = b2 ∧ o = o2 := by simpa using eA
        have hP : ∀ W, Below wr.heap.size wr W → W.cell? ⟨b, o + (i - 1), none⟩ = some (.string (l[i - 1]'(by omega))) := fun W hW => ((HBW.out.trans (hW.mono HBW.out.size)).cell (p := ⟨b, o + (i - 1), none⟩) hB2).trans k1
        have hno3 : ¬ l[i - 1]'(by omega) < l[i] → ¬ okB l := hno2 (i - 1) (by omega)
        have hyes2 : 1 ≤ l[i].size → l[i].size ≤ 16 → l[i - 1]'(by omega) < l[i] → ∀ j (h : j < l.length), j < i + 1 → okAt l j h := fun e1 e2 e3 => hyes e1 e2 (fun j e => by
          have e4 : j = i - 1 := by omega
          subst e4
          exact e3)
        obtain ⟨m, hm⟩ : ∃ m, i - 1 = m := ⟨_, rfl⟩
        have hmi : m + 1 = i := by omega
        have hml : m < l.length := by omega
        have eqm : l[i - 1]'(by omega) = l[m] := by simp only [hm]
        rw [eqm, hm] at hP
        rw [eqm] at hno3 hyes2
        generalize l[i] = x at hC hno hno3 hyes2
        generalize l[m] = y at hP hno3 hyes2
        have HNO1 := Lib.hid hno
        have HNO2 := Lib.hid hno3
        have HY := Lib.hid hyes2
        have HC := Lib.hid hC
        have HP := Lib.hid hP
        clear hno hno2 hno3 hyes hyes2 hC hC0 hP k0 k1 eqm hm HOK eA
        have hw1 : IntKind.i64.wrap ((i : Int) - 1) = (m : Int) := by rw [IntKind.wrap_i64]; omega
        have h4 : (0 : Int) < (i : Int) := by omega
        have h5 : (0 : Int) ≤ (m : Int) := by omega
        have h6 : (m : Int) < (l.length : Int) := by omega
        have h7 : 0 < i := by omega
        have HMI := Lib.hid hmi
        clear hmi hi0
        by_cases ha : x.size < 1
        · have HNO := Lib.hid (HNO1.out (.inl (by omega)))
          have k3 : (x.size : Int) < 1 := by omega
          go_wp2_with fail
          refine wp_region_planB [(true, 0), (true, 1), (true, 2), (true, 3), (true, 4), (true, 5), (true, 6), (true, 7), (true, 8), (true, 9), (true, 10), (true, 11), (true, 12), (true, 13), (true, 14), (true, 15), (true, 16), (true, 17), (true, 18), (true, 19), (true, 20), (true, 21), (true, 22), (true, 23), (true, 24), (true, 25), (true, 26), (true, 27), (true, 28), (true, 29)] (by kernel_rfl) (by kernel_rfl) (fun _ _ d _ _ h => by cases d <;> exact h) ?_
          repeat (first | (refine PlanB.take (v := ?_) rfl rfl ?_ ?_; rotate_left; (focus (intro W hW; have k0 := HC.out W (hd0.trans hW); have kp := HP.out W (hd0.trans hW); go_simp; (try with_reducible rfl); done)); (try simp only [Act.put, List.setIfInBounds_toArray, List.set_cons_zero, List.set_cons_succ])) | (refine PlanB.skip rfl rfl ?_; (try simp only [Act.put, List.setIfInBounds_toArray, List.set_cons_zero, List.set_cons_succ])))
          simp only [PlanB]
          go_wp2_with fail
          go_ret
          exact ⟨by rw [decide_eq_false HNO.out]; rfl, HBW.out.drew⟩
        have k3 : ¬ (x.size : Int) < 1 := by omega
        have k3b := decide_eq_false k3
        have k3d : ¬ x.size = 0 := by omega
        have k3e : (x.size == 0) = false := by simpa using k3d
        by_cases hb : 16 < x.size
        · have HNO := Lib.hid (HNO1.out (.inr (by omega)))
          have k4 : (16 : Int) < (x.size : Int) := by omega
          go_wp2_with fail
          refine wp_region_planB [(true, 0), (true, 1), (true, 2), (true, 3), (true, 4), (true, 5), (true, 6), (true, 7), (true, 8), (true, 9), (true, 10), (true, 11), (true, 12), (true, 13), (true, 14), (true, 15), (true, 16), (true, 17), (true, 18), (true, 19), (true, 20), (true, 21), (true, 22), (true, 23), (true, 24), (true, 25), (true, 26), (true, 27), (true, 28), (true, 29)] (by kernel_rfl) (by kernel_rfl) (fun _ _ d _ _ h => by cases d <;> exact h) ?_
          repeat (first | (refine PlanB.take (v := ?_) rfl rfl ?_ ?_; rotate_left; (focus (intro W hW; have k0 := HC.out W (hd0.trans hW); have kp := HP.out W (hd0.trans hW); go_simp; (try with_reducible rfl); done)); (try simp only [Act.put, List.setIfInBounds_toArray, List.set_cons_zero, List.set_cons_succ])) | (refine PlanB.skip rfl rfl ?_; (try simp only [Act.put, List.setIfInBounds_toArray, List.set_cons_zero, List.set_cons_succ])))
          simp only [PlanB]
          go_wp2_with fail
          go_ret
          exact ⟨by rw [decide_eq_false HNO.out]; rfl, HBW.out.drew⟩
        have k4 : ¬ (16 : Int) < (x.size : Int) := by omega
        have k4b := decide_eq_false k4
        have k4d : ¬ 16 < x.size := hb
        have k4e := decide_eq_false k4d
        by_cases hq : x ≤ y
        · have HNO := Lib.hid (HNO2.out (by grind))
          have k5 := decide_eq_true hq
          go_wp2_with fail
          refine wp_region_planB [(true, 0), (true, 1), (true, 2), (true, 3), (true, 4), (true, 5), (true, 6), (true, 7), (true, 8), (true, 9), (true, 10), (true, 11), (true, 12), (true, 13), (true, 14), (true, 15), (true, 16), (true, 17), (true, 18), (true, 19), (true, 20), (true, 21), (true, 22), (true, 23), (true, 24), (true, 25), (true, 26), (true, 27), (true, 28), (true, 29)] (by kernel_rfl) (by kernel_rfl) (fun _ _ d _ _ h => by cases d <;> exact h) ?_
          repeat (first | (refine PlanB.take (v := ?_) rfl rfl ?_ ?_; rotate_left; (focus (intro W hW; have k0 := HC.out W (hd0.trans hW); have kp := HP.out W (hd0.trans hW); go_simp; (try with_reducible rfl); done)); (try simp only [Act.put, List.setIfInBounds_toArray, List.set_cons_zero, List.set_cons_succ])) | (refine PlanB.skip rfl rfl ?_; (try simp only [Act.put, List.setIfInBounds_toArray, List.set_cons_zero, List.set_cons_succ])))
          simp only [PlanB]
          go_wp2_with fail
          go_ret
          exact ⟨by rw [decide_eq_false HNO.out]; rfl, HBW.out.drew⟩
        have k5 := decide_eq_false hq
        have HYES := Lib.hid (HY.out (by omega) (by omega) (by grind))
        go_wp2_with fail
        refine wp_region_planB [(true, 0), (true, 1), (true, 2), (true, 3), (true, 4), (true, 5), (true, 6), (true, 7), (true, 8), (true, 9), (true, 10), (true, 11), (true, 12), (true, 13), (true, 14), (true, 15), (true, 16), (true, 17), (true, 18), (true, 19), (true, 20), (true, 21), (true, 22), (true, 23), (true, 24), (true, 25), (true, 26), (true, 27), (true, 28), (true, 29)] (by kernel_rfl) (by kernel_rfl) (fun _ _ d _ _ h => by cases d <;> exact h) ?_
        repeat (first | (refine PlanB.take (v := ?_) rfl rfl ?_ ?_; rotate_left; (focus (intro W hW; have k0 := HC.out W (hd0.trans hW); have kp := HP.out W (hd0.trans hW); go_simp; (try with_reducible rfl); done)); (try simp only [Act.put, List.setIfInBounds_toArray, List.set_cons_zero, List.set_cons_succ])) | (refine PlanB.skip rfl rfl ?_; (try simp only [Act.put, List.setIfInBounds_toArray, List.set_cons_zero, List.set_cons_succ])))
        simp only [PlanB]
        go_wp2_with fail
        go_roundw
        case rel => exact ⟨i + 1, by omega, rfl, HYES.out, HBW.out.drew⟩
        case measure => simp [intOf]; omega
    · have h1 : ¬ (i : Int) < (l.length : Int) := by omega
      have HYES := Lib.hid (show okB l from okB_at.2 ⟨h7, fun j h => HOK.out j h (by omega)⟩)
      go_wp2_with fail
      go_ret
      exact ⟨by rw [decide_eq_true HYES.out]; rfl, HBW.out⟩
set_option maxHeartbeats 8000000 in
set_option maxRecDepth 100000 in
theorem rwhichB_any (l : List K) (k : K) (v : Value) (w : World) (hv : RdK w w.heap.size v l) (hl : l.length ≤ 140737488351232) :
    Calls Try.prog 13 #[v, .string k] w fun e w' => e = .returned (.int .i64 (whichB l k : Int)) ∧ Below w.heap.size w w' := by
  obtain ⟨A, c, rfl, hc, hi⟩ := hv.at
  have HI := Lib.hid hi
  clear hi hv
  have HB0 := Lib.hid (Below.refl w.heap.size w)
  obtain ⟨n, hn⟩ : ∃ n, whichB l k = n := ⟨_, rfl⟩
  have hnl : n ≤ l.length := hn ▸ whichB_le l k
  have HLOW := Lib.hid (fun i (h : i < n) (hb : i < l.length) => whichB_low l k i (hn.symm ▸ h) hb)
  have HHIGH := Lib.hid (show ∀ h : n < l.length, ¬ l[n] ≤ k from by subst hn; exact whichB_high l k)
  rw [hn]
  clear hn
  go_enter Try.func13, Try.ntmps13
  go_wp2_with fail
  go_loopw [5] (fun iv wr => ∃ i : Nat, i ≤ n ∧ iv = .int .i64 (i : Int) ∧ Below w.heap.size w wr) (fun iv _ => l.length - (intOf iv).toNat)
  case atStart => exact ⟨0, Nat.zero_le _, rfl, HB0.out⟩
  case round =>
    obtain ⟨i, hin, rfl, hbw⟩ := hrel
    have HBW := Lib.hid hbw
    clear HB0
    have h0 : (0 : Int) ≤ (i : Int) := by omega
    have h3 : IntKind.i64.wrap ((i : Int) + 1) = ((i + 1 : Nat) : Int) := by rw [IntKind.wrap_i64]; omega
    by_cases hlt : i < l.length
    · obtain ⟨b, o, rfl, hB, k0⟩ := HI.out i hlt
      rw [← hbw.cell (p := ⟨b, o + i, none⟩) hB] at k0
      have h1 : (i : Int) < (l.length : Int) := by omega
      have hlow := fun h => HLOW.out i h hlt
      have hhigh : i = n → ¬ l[i] ≤ k := fun e => by subst e; exact HHIGH.out hlt
      generalize l[i] = x at k0 hlow hhigh
      have HL1 := Lib.hid hlow
      have HH1 := Lib.hid hhigh
      clear hlow hhigh hbw
      by_cases hx : x ≤ k
      · have k3 := decide_eq_true hx
        have HIN := Lib.hid (show i + 1 ≤ n from by
          rcases Nat.lt_or_ge i n with h | h
          · exact h
          · exact absurd hx (HH1.out (by omega)))
        go_wp2_with fail
        go_roundw
        case rel => exact ⟨i + 1, HIN.out, rfl, HBW.out⟩
        case measure => simp [intOf]; omega
      · have k3 := decide_eq_false hx
        have HIN := Lib.hid (show (i : Int) = (n : Int) from by
          rcases Nat.lt_or_ge i n with h | h
          · exact absurd (HL1.out h) hx
          · omega)
        go_wp2_with fail
        go_ret
        exact ⟨by rw [← HIN.out]; rfl, HBW.out⟩
    · have h1 : ¬ (i : Int) < (l.length : Int) := by omega
      have HIN := Lib.hid (show (i : Int) = (n : Int) by omega)
      clear hbw
      go_wp2_with fail
      go_ret
      exact ⟨by rw [← HIN.out]; rfl, HBW.out⟩
theorem topK_lit : topK = ⟨#[255, 255, 255, 255, 255, 255, 255, 255, 255, 255, 255, 255, 255, 255, 255, 255, 255]⟩ := rfl
set_option maxHeartbeats 8000000 in
set_option maxRecDepth 100000 in
theorem rpieceB_any (l : List K) (n : Nat) (v : Value) (w : World) (hv : RdK w w.heap.size v l) (hn : n ≤ l.length) (hl : l.length ≤ 140737488351232) :
    Calls Try.prog 15 #[v, .int .i64 (n : Int)] w fun e w' => e = .returned (.agg #[.string (pieceB l n).1, .string (pieceB l n).2]) ∧ Below w.heap.size w w' := by
  obtain ⟨A, c, rfl, hc, hi⟩ := hv.at
  have HI := Lib.hid hi
  clear hi hv
  have hE : (pieceB l n).2 = (if h : n < l.length then l[n] else topK) := by
    unfold pieceB
    simp only
    split
    · rename_i h; rw [List.getElem?_eq_getElem h]; rfl
    · rename_i h; rw [List.getElem?_eq_none (by omega)]; rfl
  have hF : (pieceB l n).1 = (if h : n = 0 then ⟨#[]⟩ else l[n - 1]'(by omega)) := by
    unfold pieceB
    simp only
    by_cases h : n = 0
    · simp [h]
    · rw [if_neg h, dif_neg h, List.getElem?_eq_getElem (by omega)]; rfl
  rw [hE, hF]
  have hcell : ∀ i (h : i < l.length), ∃ b o, A = some ⟨b, o, none⟩ ∧ ∀ o1 o2, ((w.alloc o1).alloc o2).cell? ⟨b, o + i, none⟩ = some (.string l[i]) := fun i h => by
    obtain ⟨b, o, hA, hB, hk⟩ := HI.out i h
    exact ⟨b, o, hA, fun o1 o2 => ((((Below.refl _ w).alloc (Nat.le_refl _) o1).alloc (by simp) o2).cell (p := ⟨b, o + i, none⟩) hB).trans hk⟩
  have HC := Lib.hid hcell
  clear hcell hE hF HI
  by_cases h0 : n = 0
  · by_cases h1 : n < l.length
    · rw [dif_pos h0, dif_pos h1]
      subst h0
      obtain ⟨b, o, rfl, hk⟩ := HC.out 0 h1
      have k0 := hk (.cells #[.string ⟨#[]⟩, .string ⟨#[]⟩] 31) (.cells #[.string ⟨#[]⟩, .string ⟨#[255, 255, 255, 255, 255, 255, 255, 255, 255, 255, 255, 255, 255, 255, 255, 255, 255]⟩] 31)
      simp only [Nat.add_zero] at k0
      generalize l[0] = x at k0
      clear hk
      go_enter Try.func15, Try.ntmps15
      have h2 : (0 : Int) < (l.length : Int) := by omega
      go_wp2_with fail
      exact bodyPost_ret (v := .agg #[.string ⟨#[]⟩, .string x]) (by simp [results, Try.results15, go_sem]) rfl ⟨rfl, ((Below.refl _ w).alloc (Nat.le_refl _) _).alloc (by simp) _⟩
    · rw [dif_pos h0, dif_neg h1, topK_lit]
      subst h0
      go_enter Try.func15, Try.ntmps15
      go_wp2_with fail
      exact bodyPost_ret (v := .agg #[.string ⟨#[]⟩, .string ⟨#[255, 255, 255, 255, 255, 255, 255, 255, 255, 255, 255, 255, 255, 255, 255, 255, 255]⟩]) (by simp [results, Try.results15, go_sem]) rfl ⟨rfl, ((Below.refl _ w).alloc (Nat.le_refl _) _).alloc (by simp) _⟩
  · obtain ⟨m, rfl⟩ : ∃ m, n = m + 1 := ⟨n - 1, by omega⟩
    obtain ⟨b, o, rfl, hk⟩ := HC.out m (by omega)
    have k0 := hk (.cells #[.string ⟨#[]⟩, .string ⟨#[]⟩] 31) (.cells #[.string ⟨#[]⟩, .string ⟨#[255, 255, 255, 255, 255, 255, 255, 255, 255, 255, 255, 255, 255, 255, 255, 255, 255]⟩] 31)
    have h3 : IntKind.i64.wrap (((m + 1 : Nat) : Int) - 1) = (m : Int) := by rw [IntKind.wrap_i64]; omega
    have h4 : (0 : Int) < ((m + 1 : Nat) : Int) := by omega
    have h5 : (m : Int) < (l.length : Int) := by omega
    have h6 : (0 : Int) ≤ (m : Int) := by omega
    by_cases h1 : m + 1 < l.length
    · rw [dif_neg h0, dif_pos h1]
      obtain ⟨b2, o2, eA, hk2⟩ := HC.out (m + 1) h1
      obtain ⟨rfl, rfl⟩ : b = b2 ∧ o = o2 := by simpa using eA
      have e1 : l[m + 1 - 1]'(by omega) = l[m] := rfl
      rw [e1]
      have k1 := hk2 (.cells #[.string ⟨#[]⟩, .string ⟨#[]⟩] 31) (.cells #[.string l[m], .string ⟨#[255, 255, 255, 255, 255, 255, 255, 255, 255, 255, 255, 255, 255, 255, 255, 255, 255]⟩] 31)
      generalize l[m + 1] = y at k1 ⊢
      generalize l[m] = x at k0 k1 ⊢
      clear hk hk2 e1 eA
      have h7 : ((m + 1 : Nat) : Int) < (l.length : Int) := by omega
      obtain ⟨j, hj⟩ : ∃ j, m + 1 = j := ⟨_, rfl⟩
      rw [hj] at h3 h4 h7 k1 ⊢
      have h8 : (0 : Int) ≤ (j : Int) := by omega
      clear hj h0 h1 hn
      go_enter Try.func15, Try.ntmps15
      go_wp2_with fail
      exact bodyPost_ret (v := .agg #[.string x, .string y]) (by simp [results, Try.results15, go_sem]) rfl ⟨rfl, ((Below.refl _ w).alloc (Nat.le_refl _) _).alloc (by simp) _⟩
    · rw [dif_neg h0, dif_neg h1, topK_lit]
      have e1 : l[m + 1 - 1]'(by omega) = l[m] := rfl
      rw [e1]
      generalize l[m] = x at k0 ⊢
      clear hk e1
      have h7 : ¬ ((m + 1 : Nat) : Int) < (l.length : Int) := by omega
      obtain ⟨j, hj⟩ : ∃ j, m + 1 = j := ⟨_, rfl⟩
      rw [hj] at h3 h4 h7 ⊢
      clear hj h0 h1 hn
      go_enter Try.func15, Try.ntmps15
      go_wp2_with fail
      exact bodyPost_ret (v := .agg #[.string x, .string ⟨#[255, 255, 255, 255, 255, 255, 255, 255, 255, 255, 255, 255, 255, 255, 255, 255, 255]⟩]) (by simp [results, Try.results15, go_sem]) rfl ⟨rfl, ((Below.refl _ w).alloc (Nat.le_refl _) _).alloc (by simp) _⟩
end Go.Proofs.Yteelnholmlabmaa
