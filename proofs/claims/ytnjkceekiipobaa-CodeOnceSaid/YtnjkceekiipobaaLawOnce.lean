/- The walk of the law CodeOnce. -/
import Derived.Test.YtnjkceekiipobaaAwk
namespace Go.Proofs.Ytnjkceekiipobaa
open Go.RowKit
attribute [local go_sem] same_str

set_option maxHeartbeats 4000000 in
set_option maxRecDepth 100000 in
theorem codeOnce_walk (b : List UInt8) (vb : Value) (w : World) (hvb : RdB w w.heap.size vb b) (hlb : b.length ≤ 140737488351232) :
    Calls Try.prog 7 #[vb] w fun e w' => e = .returned (.bool true) ∧ Below w.heap.size w w' := by
  have h1 := num_any b vb w hvb (by omega)
  obtain ⟨A, c, rfl, hc, _⟩ := hvb.at
  have herr := numAns_err b
  have honce := fun (m u : Nat) (h : numAns b = (m, u, 0)) => numAns_once h
  generalize numAns b = x at h1 herr honce
  obtain ⟨n, u, e⟩ := x
  simp only at herr
  simp only [numVal] at h1
  by_cases he : e = 0
  · subst he
    obtain ⟨hu, hu9, hu1, s, hs⟩ := honce n u rfl
    have hn := enc_lt (n := n) (by omega)
    have hub : u ≤ b.length := by rw [hu, hs]; simp
    have htk : b.take u = enc n := by rw [hu, hs]; simp
    have hput := fun W => put_any [] (.slice none 0 0) (n : Int) W (by omega) (Rd.nil _ _) (by simp)
    simp only [putAns, if_neg (show ¬ ((n : Int) < 0) by omega), List.nil_append, Int.toNat_natCast] at hput
    have htake := hvb.take u hub
    rw [htk] at htake
    generalize enc n = y at hput htake
    have HP := Lib.hid hput
    have HT := Lib.hid htake
    have H1 := Lib.hid h1
    clear herr honce hu hu9 hu1 hs htk hput htake h1 hvb
    have hui : (u : Int) ≤ (b.length : Int) := by omega
    have huc : (u : Int) ≤ (c : Int) := by omega
    have hu0 : (0 : Int) ≤ (u : Int) := by omega
    have hn0 : (0 : Int) ≤ (n : Int) := by omega
    go_enter Try.func7, Try.ntmps7
    go_wp2_with fail
    refine H1.out.mono ?_
    rintro e w1 ⟨rfl, hb1⟩
    have HW1 := Lib.hid hb1
    clear hb1
    go_wp2_with fail
    refine (awake_any _).mono ?_
    rintro e w2 ⟨rfl, hb2⟩
    have HW2 := Lib.hid (HW1.out.trans (hb2.mono HW1.out.size))
    clear hb2
    go_wp2_with fail
    refine (HP.out w2).mono ?_
    rintro e w3 ⟨v3, rfl, hr3, hb3⟩
    have HW3 := Lib.hid (HW2.out.trans (hb3.mono HW2.out.size))
    have HR3 := Lib.hid hr3
    clear hb3 hr3
    go_wp2_with fail
    have HD := Lib.hid (show Below w.heap.size w w3.drew from HW3.out.drew)
    have HC1 := Lib.hid (fun W (hW : Below w3.drew.heap.size w3.drew W) => run_convB ((show RdB w3.drew w3.drew.heap.size v3 y from HR3.out).next hW))
    have HC2 := Lib.hid (fun W (hW : Below w3.drew.heap.size w3.drew W) => run_convB (HT.out.below (HD.out.trans (hW.mono HD.out.size)) (Nat.le_refl _)))
    refine wp_region_planB [(true, 0), (true, 1), (true, 2), (true, 3), (true, 4), (true, 5), (true, 6), (true, 7), (true, 8), (true, 9), (true, 10), (true, 11), (true, 12), (true, 13), (true, 14), (true, 15), (true, 16), (true, 17), (true, 18), (true, 19), (true, 20), (true, 21)] (by kernel_rfl) (by kernel_rfl) (fun _ _ d _ _ h => by cases d <;> exact h) ?_
    repeat (refine PlanB.take (v := ?_) rfl rfl ?_ ?_; rotate_left; (focus (intro W hW; have k1 := HC1.out W hW; have k2 := HC2.out W hW; go_simp; (try with_reducible rfl); done)); (try simp only [Act.put, List.setIfInBounds_toArray, List.set_cons_zero, List.set_cons_succ]))
    simp only [PlanB]
    go_wp2_with fail
    go_ret
    exact ⟨rfl, HD.out⟩
  · rcases herr with h | h | h
    · exact absurd h he
    all_goals
      simp only [Prod.mk.injEq] at h
      obtain ⟨rfl, rfl, rfl⟩ := h
      have H1 := Lib.hid h1
      clear h1 honce hvb
      go_enter Try.func7, Try.ntmps7
      go_wp2_with fail
      refine H1.out.mono ?_
      rintro e w1 ⟨rfl, hb1⟩
      have HW1 := Lib.hid hb1
      clear hb1
      go_wp2_with fail
      refine (awake_any _).mono ?_
      rintro e w2 ⟨rfl, hb2⟩
      have HW2 := Lib.hid (HW1.out.trans (hb2.mono HW1.out.size))
      clear hb2
      go_wp2_with fail
      refine (awake_any _).mono ?_
      rintro e w3 ⟨rfl, hb3⟩
      have HW3 := Lib.hid (HW2.out.trans (hb3.mono HW2.out.size))
      clear hb3
      go_wp2_with fail
      go_ret
      exact ⟨rfl, HW3.out⟩
end Go.Proofs.Ytnjkceekiipobaa
