/- BallotBest's walk. -/
import Derived.Test.YtjmojlhebjbgaaaFak
namespace Go.Proofs.Ytjmojlhebjbgaaa
open Go.RowKit
attribute [local go_sem] less_eq same_eq le_eq ge_eq gt_eq

set_option maxHeartbeats 4000000 in
set_option maxRecDepth 100000 in
theorem ballotBest_walk (l : List Ew) (v : Value) (w : World) (hv : RdEw w w.heap.size v l) (hr : ∀ e ∈ l, RdI w w.heap.size e.v e.x.took.chests) (hl : l.length < 4611686018427387904) (hm : ∀ e ∈ l, e.x.took.chests.length ≤ 17592186043904) :
    Calls Try.prog 5 #[v] w fun e w' => e = .returned (.bool true) ∧ Below w.heap.size w w' := by
  have HV := Lib.hid hv
  have HE := Lib.hid hr
  have HA := Lib.hid awakeV_any
  obtain ⟨E, hE⟩ : ∃ E, E = bestE zeroE l := ⟨_, rfl⟩
  have hEx : (bestV zeroV (l.map (·.x))).took = E.x.took := by rw [hE, bestE_x]; rfl
  have HP := Lib.hid (fun W (h1 : RdEw W W.heap.size v l) (h2 : ∀ e ∈ l, RdI W W.heap.size e.v e.x.took.chests) => pbest_at l v W h1 h2 hl hm E.x.took hEx)
  have HQ := Lib.hid (fun W (h1 : RdEw W W.heap.size v l) => rbest_any l v W h1 hl)
  rw [← hE] at HQ
  have HEl := Lib.hid (show E.x.took.chests.length < 4611686018427387904 from by
    rcases bestE_mem zeroE l with h | h
    · rw [hE, h]; simp [zeroE, zeroV, zeroS]
    · have := hm _ h; rw [hE]; omega)
  have HER := Lib.hid (fun W (h2 : ∀ e ∈ l, RdI W W.heap.size e.v e.x.took.chests) => (show RdI W W.heap.size E.v E.x.took.chests from by
    rcases bestE_mem zeroE l with h | h
    · rw [hE, h]; exact Rd.nil _ _
    · rw [hE]; exact h2 _ h))
  obtain ⟨A, c, rfl, _, _⟩ := hv.at
  clear hv hr hE hEx hm
  obtain ⟨E, EA, Ec⟩ := E
  unfold Ew.v at HQ HER
  simp only at HP HQ HEl HER
  have HSM := Lib.hid (fun v1 v2 W h1 h2 => sameS_eq E.took HEl.out v1 v2 W h1 h2)
  unfold sval at HP HQ HSM
  go_enter Try.func5, Try.ntmps5
  go_wp2_with fail
  refine (HA.out w).mono ?_
  rintro e w1 ⟨rfl, hb1⟩
  have HV1 := Lib.hid (HV.out.next hb1)
  have HE1 := Lib.hid (fun e he => (HE.out e he).next hb1)
  have HB1 := Lib.hid hb1
  clear hb1
  go_wp2_with fail
  refine (HP.out w1 HV1.out HE1.out).mono ?_
  rintro e w2 ⟨A', c', rfl, hr2, hb2⟩
  have HV2 := Lib.hid (HV1.out.next hb2)
  have HE2 := Lib.hid (fun e he => (HE1.out e he).next hb2)
  have HB2 := Lib.hid (HB1.out.trans (hb2.mono HB1.out.size))
  have HR2 := Lib.hid hr2
  clear hb2 hr2
  go_wp2_with fail
  refine (HQ.out w2 HV2.out).mono ?_
  rintro e w3 ⟨rfl, hb3⟩
  have HR3 := Lib.hid (HR2.out.next hb3)
  have HE3 := Lib.hid (HER.out w3 (fun e he => (HE2.out e he).next hb3))
  have HB3 := Lib.hid (HB2.out.trans (hb3.mono HB2.out.size))
  clear hb3
  go_wp2_with fail
  refine (HSM.out _ _ w3 HR3.out HE3.out).mono ?_
  rintro e w4 ⟨rfl, hb4⟩
  have HB4 := Lib.hid (HB3.out.trans (hb4.mono HB3.out.size))
  clear hb4
  go_wp2_with fail
  go_ret
  exact ⟨rfl, HB4.out⟩
end Go.Proofs.Ytjmojlhebjbgaaa
