/- Numbers held against numbers, as the reference does. -/
import Derived.Test.YtcmpbhcldaogiaaGreatFac
import Derived.Test.YtcmpbhcldaogiaaGreatFab
namespace Go.Proofs.YtcmpbhcldaogiaaGreat
open Go.RowKit


set_option maxHeartbeats 1000000 in
set_option maxRecDepth 100000 in
theorem ints_any (a b : List Int) (va vb : Value) (w : World) (hva : RdI w w.heap.size va a) (hvb : RdI w w.heap.size vb b) (hla : a.length < 4611686018427387904) (hlb : b.length < 4611686018427387904) :
    Calls Tryz.prog 9 #[va, vb] w fun e w' => e = .returned (.bool (decide (a = b))) ∧ Below w.heap.size w w' := by
  obtain ⟨A1, c1, rfl, hc1, hia⟩ := hva.at
  obtain ⟨A2, c2, rfl, hc2, hib⟩ := hvb.at
  obtain ⟨D, hD⟩ : ∃ D, D = decide (a = b) := ⟨_, rfl⟩
  rw [← hD]
  have HD := Lib.hid hD; clear hD
  clear hva hvb
  by_cases hlen : a.length = b.length
  · have HA := Lib.hid hia; clear hia
    have HB := Lib.hid hib; clear hib
    have HL := Lib.hid hlen
    rw [← hlen]
    rw [← hlen] at hlb hc2
    clear hlen
    obtain ⟨g, hg⟩ : ∃ g, g = w.heap.size := ⟨_, rfl⟩
    have HG := Lib.hid hg; clear hg
    go_enter Tryz.func9, Tryz.ntmps9
    go_wp2_with fail
    go_loopw [5] (fun iv wr => ∃ j : Nat, j ≤ a.length ∧ iv = .int .i64 j ∧ Below g w wr ∧ ∀ k (h1 : k < a.length) (h2 : k < b.length), k < j → a[k] = b[k]) (fun iv _ => a.length - (intOf iv).toNat)
    case atStart => exact ⟨0, Nat.zero_le _, rfl, Below.refl _ _, fun k _ _ h => by omega⟩
    case round =>
      obtain ⟨j, hj, rfl, hbw, hall⟩ := hrel
      have HBW := Lib.hid hbw; clear hbw
      have HALL := Lib.hid hall; clear hall
      by_cases hlt : j < a.length
      · have hlt2 : j < b.length := by rw [← HL.out]; exact hlt
        obtain ⟨b1, o1, rfl, hb1, hx⟩ := HA.out j hlt
        obtain ⟨b2, o2, rfl, hb2, hy⟩ := HB.out j hlt2
        have hbd : Below w.heap.size w wr.drew := by have h := HBW.out.drew; rwa [HG.out] at h
        have hx2 : ∀ W, Below wr.drew.heap.size wr.drew W → W.cell? ⟨b1, o1 + j, none⟩ = some (.int .i64 a[j]) := fun W hW => ((hbd.trans (hW.mono hbd.size)).cell (p := ⟨b1, _, none⟩) hb1).trans hx
        have hy2 : ∀ W, Below wr.drew.heap.size wr.drew W → W.cell? ⟨b2, o2 + j, none⟩ = some (.int .i64 b[j]) := fun W hW => ((hbd.trans (hW.mono hbd.size)).cell (p := ⟨b2, _, none⟩) hb2).trans hy
        have hne : a[j] ≠ b[j] → D = false := fun h => by rw [HD.out]; exact decide_eq_false fun e => h (by subst e; rfl)
        have heq : a[j] = b[j] → ∀ k (h1 : k < a.length) (h2 : k < b.length), k < j + 1 → a[k] = b[k] := fun h k h1 h2 hk => by
          rcases Nat.lt_or_ge k j with h' | h'
          · exact HALL.out k h1 h2 h'
          · obtain rfl : k = j := by omega
            exact h
        generalize a[j] = x at hx2 hx hne heq
        generalize b[j] = y at hy2 hy hne heq
        have HX := Lib.hid hx2
        have HY := Lib.hid hy2
        have HNE := Lib.hid hne
        have HEQ := Lib.hid heq
        have hj0 : (0 : Int) ≤ (j : Int) := by omega
        have hj1 : (j : Int) < (a.length : Int) := by omega
        have HBD := Lib.hid hbd
        clear hx hy hx2 hy2 hne heq hbd hlt2
        by_cases hxy : x = y
        all_goals
          go_wp2_with fail
          refine wp_region_planB [(true, 0), (true, 1), (true, 2), (true, 3), (true, 4), (true, 5), (true, 6), (true, 7), (true, 8)] (by kernel_rfl) (by kernel_rfl) (fun _ _ d _ _ h => by cases d <;> exact h) ?_
          repeat (refine PlanB.take (v := ?_) rfl rfl ?_ ?_; rotate_left; (focus (intro W hW; have k1 := HX.out W hW; have k2 := HY.out W hW; go_simp; (try with_reducible rfl); done)); (try simp only [Act.put, List.setIfInBounds_toArray, List.set_cons_zero, List.set_cons_succ]))
          simp only [PlanB]
          go_wp2_with fail
        · go_roundw
          case rel => exact ⟨j + 1, by omega, by go_num, HBW.out.drew, HEQ.out hxy⟩
          case measure => simp [intOf]; omega
        · go_ret
          exact ⟨by rw [HNE.out hxy]; rfl, HBD.out⟩
      · go_wp2_with fail
        go_ret
        refine ⟨?_, by have h := HBW.out; rwa [HG.out] at h⟩
        have : D = true := by
          rw [HD.out]
          refine decide_eq_true (List.ext_getElem HL.out fun k h1 h2 => HALL.out k h1 h2 (by omega))
        rw [this]; rfl
  · have hd : D = false := by rw [HD.out]; exact decide_eq_false fun e => hlen (by rw [e])
    have HD2 := Lib.hid hd
    have hli : ¬ ((a.length : Int) = (b.length : Int)) := by omega
    clear hd hia hib
    go_enter Tryz.func9, Tryz.ntmps9
    go_wp2_with fail
    go_ret
    exact ⟨by rw [HD2.out]; rfl, Below.refl _ _⟩
end Go.Proofs.YtcmpbhcldaogiaaGreat
