/- The simplest facts, which each statement of the code layer asks first: they hold in every world. -/
import Derived.Test.YtnjkceekiipobaaCode
namespace Go.Proofs.Ytnjkceekiipobaa
open Go.RowKit

theorem enc300 : enc 300 = [172, 2] := by
  rw [enc_big (by omega), enc_small (by omega)]; rfl
theorem enc2 : enc 2 = [2] := by rw [enc_small (by omega)]; rfl

set_option maxHeartbeats 1000000 in
set_option maxRecDepth 100000 in
theorem awake_any (w : World) : Calls Try.prog 13 #[] w fun e w' => e = .returned (.bool true) ∧ Below w.heap.size w w' := by
  have h1 := put_any [] (.slice none 0 0) 300 w (by omega) (Rd.nil _ _) (by simp)
  rw [show putAns [] 300 = ([172, 2], 0) by rw [putAns, if_neg (by omega)]; rw [show (300 : Int).toNat = 300 from rfl, enc300]; rfl] at h1
  have H1 := Lib.hid h1; clear h1
  go_enter Try.func13, Try.ntmps13
  go_wp2_with fail
  refine H1.out.mono ?_
  rintro e w1 ⟨v1, rfl, hr1, hb1⟩
  have h2 := num_any [172, 2] v1 w1 hr1 (by simp)
  rw [show numAns [172, 2] = (300, 2, 0) by have := numAns_enc (n := 300) (by omega) []; rw [enc300] at this; exact this] at h2
  simp only [numVal] at h2
  have H2 := Lib.hid h2; clear h2
  have HB1 := Lib.hid hb1; clear hb1
  have HR1 := Lib.hid hr1; clear hr1
  go_wp2_with fail
  refine H2.out.mono ?_
  rintro e w2 ⟨rfl, hb2⟩
  have hr2 := HR1.out.next hb2
  have h3 := putText_any [172, 2] v1 ⟨#[97, 98]⟩ w2 hr2 (by simp) (by decide)
  rw [show putTAns [172, 2] ⟨#[97, 98]⟩ = ([172, 2, 2, 97, 98], 0) by rw [putTAns, if_neg (by decide), encT]; rw [show (ByteArray.mk #[97, 98]).data.toList = [97, 98] from rfl, show ([97, 98] : List UInt8).length = 2 from rfl, enc2]; rfl] at h3
  have H3 := Lib.hid h3; clear h3
  have HB2 := Lib.hid (HB1.out.trans (hb2.mono HB1.out.size))
  clear hb2 hr2
  go_wp2_with fail
  refine H3.out.mono ?_
  rintro e w3 ⟨v3, rfl, hr3, hb3⟩
  have hcv := run_convB hr3
  have HB3 := Lib.hid (HB2.out.trans (hb3.mono HB2.out.size))
  clear hr3 hb3
  go_wp2_with fail
  go_ret
  refine ⟨?_, HB3.out⟩
  show Ending.returned (Value.bool ((strB [172, 2, 2, 97, 98]).toList == [172, 2, 2, 97, 98])) = _
  rw [Lib.toList_data]
  rfl
end Go.Proofs.Ytnjkceekiipobaa
