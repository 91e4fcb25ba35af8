/- The walks of the laws CodeLists and CodeSplits. -/
import Derived.Test.YtnjkceekiipobaaAwk
namespace Go.Proofs.Ytnjkceekiipobaa
open Go.RowKit
attribute [local go_sem] same_str

set_option maxHeartbeats 2000000 in
set_option maxRecDepth 100000 in
theorem codeLists_walk (l : List Int) (hr : ∀ n ∈ l, n < 9223372036854775808) (b : List UInt8) (vl vb : Value) (count : Int) (w : World) (hvl : RdI w w.heap.size vl l) (hvb : RdB w w.heap.size vb b)
    (hll : l.length ≤ 17592186043904) (hlb : b.length ≤ 140737488351232) :
    Calls Try.prog 5 #[vl, vb, .int .i64 count] w fun e w' => e = .returned (.bool true) ∧ Below w.heap.size w w' := by
  obtain ⟨A, c, rfl, hc, _⟩ := hvl.at
  obtain ⟨A2, c2, rfl, hc2, _⟩ := hvb.at
  have HL := Lib.hid hvl; clear hvl
  have HB := Lib.hid hvb; clear hvb
  have h1 := fun W (h : RdI W W.heap.size (.slice A l.length c) l) => nums_any l hr _ W h (by omega)
  have h2 := fun W (h : RdI W W.heap.size (.slice A l.length c) l) => rnums_any l hr _ W h (by omega)
  have h3 := fun W (h : RdB W W.heap.size (.slice A2 b.length c2) b) => split_any b _ count W h (by omega)
  have h4 := fun W (h : RdB W W.heap.size (.slice A2 b.length c2) b) => rsplit_any b _ count W h (by omega)
  have hsl : ∀ (k : Nat) (x : List UInt8) (acc : List Int), (splitGo k x acc).1.length ≤ acc.length + k := by
    intro k
    induction k with
    | zero => intro x acc; rw [splitGo]; split <;> simp
    | succ k ih =>
      intro x acc
      rw [splitGo]
      split
      · simp
      · have := ih (x.drop (numAns x).2.1) (acc ++ [((numAns x).1 : Int)])
        simp only [List.length_append, List.length_singleton] at this
        omega
  have hsb : (splitAns b count).1.length ≤ 4096 := by
    unfold splitAns
    split
    · simp
    · have := hsl count.toNat b []
      simp only [List.length_nil] at this
      omega
  clear hsl
  generalize numsAns l = x at h1 h2
  generalize splitAns b count = y at h3 h4 hsb
  obtain ⟨x, ex⟩ := x
  obtain ⟨y, ey⟩ := y
  simp only at hsb
  have H1 := Lib.hid h1; clear h1
  have H2 := Lib.hid h2; clear h2
  have H3 := Lib.hid h3; clear h3
  have H4 := Lib.hid h4; clear h4
  clear hr
  go_enter Try.func5, Try.ntmps5
  go_wp2_with fail
  refine (H1.out w HL.out).mono ?_
  rintro e w1 ⟨v1, rfl, hr1, hb1⟩
  have HW1 := Lib.hid hb1
  have HR1 := Lib.hid hr1
  have HL1 := Lib.hid (HL.out.next hb1)
  have HB1 := Lib.hid (HB.out.next hb1)
  clear hb1 hr1 HL HB
  go_wp2_with fail
  refine (H2.out w1 HL1.out).mono ?_
  rintro e w2 ⟨v2, rfl, hr2, hb2⟩
  have HW2 := Lib.hid (HW1.out.trans (hb2.mono HW1.out.size))
  have HR12 := Lib.hid (HR1.out.next hb2)
  have HR2 := Lib.hid hr2
  have HB2 := Lib.hid (HB1.out.next hb2)
  clear hb2 hr2 HL1 HB1 HR1 HW1
  go_wp2_with fail
  refine (H3.out w2 HB2.out).mono ?_
  rintro e w3 ⟨v3, rfl, hr3, hb3⟩
  have HW3 := Lib.hid (HW2.out.trans (hb3.mono HW2.out.size))
  have HR13 := Lib.hid (HR12.out.next hb3)
  have HR23 := Lib.hid (HR2.out.next hb3)
  have HR3 := Lib.hid hr3
  have HB3 := Lib.hid (HB2.out.next hb3)
  clear hb3 hr3 HB2 HR12 HR2 HW2
  go_wp2_with fail
  refine (H4.out w3 HB3.out).mono ?_
  rintro e w4 ⟨v4, rfl, hr4, hb4⟩
  have HW4 := Lib.hid (HW3.out.trans (hb4.mono HW3.out.size))
  have HR14 := Lib.hid (HR13.out.next hb4)
  have HR24 := Lib.hid (HR23.out.next hb4)
  have HR34 := Lib.hid (HR3.out.next hb4)
  have HR4 := Lib.hid hr4
  clear hb4 hr4 HR13 HR23 HR3 HB3 HW3
  go_wp2_with fail
  refine (awake_any _).mono ?_
  rintro e w5 ⟨rfl, hb5⟩
  have HW5 := Lib.hid (HW4.out.trans (hb5.mono HW4.out.size))
  have hc1 := run_convB (HR14.out.next hb5)
  have hc3 := run_convB (HR24.out.next hb5)
  have HI := Lib.hid (ints_any y y v3 v4 w5 (HR34.out.next hb5) (HR4.out.next hb5) (by omega) (by omega))
  clear hb5 HR14 HR24 HR34 HR4 HW4
  go_wp2_with fail
  refine HI.out.mono ?_
  rintro e w6 ⟨rfl, hb6⟩
  have HW6 := Lib.hid (HW5.out.trans (hb6.mono HW5.out.size))
  clear hb6
  go_wp2_with fail
  go_ret
  exact ⟨by simp, HW6.out⟩
end Go.Proofs.Ytnjkceekiipobaa
