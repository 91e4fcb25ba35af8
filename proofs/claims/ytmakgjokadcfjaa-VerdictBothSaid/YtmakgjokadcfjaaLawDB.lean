/- VerdictBoth's walk. -/
import Derived.Test.YtmakgjokadcfjaaFag
import Derived.Test.YtmakgjokadcfjaaFac
namespace Go.Proofs.Ytmakgjokadcfjaa
open Go.RowKit
attribute [local go_sem] less_eq same_eq le_eq ge_eq gt_eq

theorem bothAns_len {ls : List LI} (hs : ∀ e ∈ ls, e.l.length ≤ 17592186043904) : (bothAns (lls ls)).1.length ≤ 17592186043904 := by
  unfold bothAns
  by_cases h : bothE (lls ls) = 0
  · rw [if_pos h]
    show (bothL (lls ls)).length ≤ _
    rw [bothL_length]
    cases ls with
    | nil => simp [lls, lenV]
    | cons e r => exact hs e (List.mem_cons_self ..)
  · rw [if_neg h]; simp

set_option maxHeartbeats 2000000 in
set_option maxRecDepth 100000 in
theorem verdictBoth_walk (ls : List LI) (v : Value) (w : World) (hv : RdLL w w.heap.size v ls) (hl : ls.length < 4611686018427387904) (hs : ∀ e ∈ ls, e.l.length ≤ 17592186043904 ∧ ∀ n ∈ e.l, I64 n) :
    Calls Try.prog 3 #[v] w fun e w' => e = .returned (.bool true) ∧ Below w.heap.size w w' := by
  have hs2 : ∀ e ∈ ls, e.l.length ≤ 17592186043904 := fun e he => (hs e he).1
  have hP := pboth_any ls v w hv hl hs2
  have hR := fun W (h : Below w.heap.size w W) => rboth_any ls v W (hv.next h) hl hs2
  have hln := bothAns_len hs2
  obtain ⟨A, c, rfl, _, _⟩ := hv.at
  generalize bothAns (lls ls) = R at hP hR hln
  obtain ⟨L, E⟩ := R
  simp only at hP hR hln
  have HP := Lib.hid hP
  have HR := Lib.hid hR
  have HI := Lib.hid (fun va vb W (h1 : RdI W W.heap.size va L) (h2 : RdI W W.heap.size vb L) => ints_any L L va vb W h1 h2 (by omega) (by omega))
  rw [show decide (L = L) = true from decide_eq_true rfl] at HI
  clear hP hR hln hv hs hs2 hl
  go_enter Try.func3, Try.ntmps3
  go_wp2_with fail
  refine HP.out.mono ?_
  rintro e w1 ⟨v1, rfl, hr1, hb1⟩
  obtain ⟨A1, c1, rfl, -, -⟩ := hr1.at
  have HB1 := Lib.hid hb1
  have HR1 := Lib.hid hr1
  clear hb1 hr1
  go_wp2_with fail
  refine (HR.out w1 HB1.out).mono ?_
  rintro e w2 ⟨v2, rfl, hr2, hb2⟩
  obtain ⟨A2, c2, rfl, -, -⟩ := hr2.at
  have HB2 := Lib.hid (HB1.out.trans (hb2.mono HB1.out.size))
  have HR12 := Lib.hid (HR1.out.next hb2)
  have HR2 := Lib.hid hr2
  clear hb2 hr2
  go_wp2_with fail
  refine (awakeD_any w2).mono ?_
  rintro e w3 ⟨rfl, hb3⟩
  have HB3 := Lib.hid (HB2.out.trans (hb3.mono HB2.out.size))
  have HC := Lib.hid (HI.out _ _ w3 (HR12.out.next hb3) (HR2.out.next hb3))
  clear hb3
  go_wp2_with fail
  refine HC.out.mono ?_
  rintro e w4 ⟨rfl, hb4⟩
  have HB4 := Lib.hid (HB3.out.trans (hb4.mono HB3.out.size))
  clear hb4
  go_wp2_with fail
  go_ret
  exact ⟨rfl, HB4.out⟩
end Go.Proofs.Ytmakgjokadcfjaa
