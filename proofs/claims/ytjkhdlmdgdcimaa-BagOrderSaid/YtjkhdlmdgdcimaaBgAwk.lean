/- The simplest facts, which each statement of the bag layer asks first. -/
import Derived.Test.YtjkhdlmdgdcimaaBag
namespace Go.Proofs.Ytjkhdlmdgdcimaa
open Go.RowKit

theorem awk8_send : (Bg.mk 2 []).send 3 [120] = (0, ⟨2, [⟨3, [120], false⟩]⟩) := by
  unfold Bg.send
  rw [if_neg (by decide), if_neg (by decide), if_neg (by decide)]
  rfl

set_option maxHeartbeats 4000000 in
set_option maxRecDepth 100000 in
theorem awake_any (w : World) : Calls Try.prog 9 #[] w fun e w' => e = .returned (.bool true) ∧ Below w.heap.size w w' := by
  have HN := Lib.hid (bnew_any 2 (by decide) (by decide) w)
  go_enter Try.func9, Try.ntmps9
  go_wp2_with fail
  refine HN.out.mono ?_
  rintro e w1 ⟨q, G, rfl, hk, hb⟩
  rw [show (2 : Int).toNat = 2 from rfl] at hk
  obtain ⟨w2, hw2⟩ : ∃ w2, w2 = w1.alloc (.cells #[.int .u8 120] 5 (1, 2)) := ⟨_, rfl⟩
  have hB2 : Below w1.heap.size w1 w2 := by rw [hw2]; exact (Below.refl _ w1).alloc (Nat.le_refl _) _
  have hz2 : w2.heap.size = w1.heap.size + 1 := by rw [hw2]; simp
  have hlit : RdB w2 (w1.heap.size + 1) (.slice (some ⟨w1.heap.size, 0, none⟩) 1 1) [120] := by rw [hw2]; exact RdB.lit w1 [120] (1, 2)
  have hk2 := hk.mv (Mv.of_new hB2 (fun _ => False)) (fun _ _ h => h)
  have hrd : RdBG w2 w2.heap.size G (.slice (some ⟨w1.heap.size, 0, none⟩) 1 1) [120] := by
    obtain ⟨A, c, e, hc, hi⟩ := hlit.at
    injection e with e1 e2 e3
    subst e1 e3
    refine ⟨_, _, rfl, hc, fun i hs => ?_⟩
    obtain ⟨b, o, hA, hbb, h1⟩ := hi i hs
    injection hA with hA
    injection hA with e4 e5 _
    subst e4 e5
    exact ⟨_, _, rfl, by omega, fun hg => by have := (hk.low.2 _ hg).2; omega, h1⟩
  have hsend := bsend_any w.heap.size q G _ 3 [120] _ w2 hk2 hrd (by simp)
  rw [awk8_send] at hsend
  have HSD := Lib.hid hsend
  have HB2 := Lib.hid (hb.trans (hB2.mono hb.size))
  have HW2 := Lib.hid hw2
  have HK2 := Lib.hid hk2
  have hs1 := hb.size
  have kc := fun (w : World) (C : Array Value) (n c : Nat) => Lib.run_convert_bytes_const (P := Try.prog) w 32 5 C n c Try.underlying32 Try.underlying5
  clear hk hb hw2 hB2 hlit hk2 hrd hsend hz2 HN
  go_wp2_with fail
  rw [← HW2.out]
  refine HSD.out.mono ?_
  rintro e w3 ⟨rfl, G3, hk3, hG3, hm3⟩
  have HB3 := Lib.hid (HB2.out.trans (hm3.below HK2.out.low.1 (fun i hi => (HK2.out.low.2 i hi).1)))
  have hlook := blook_any w.heap.size q G3 _ 0 w3 hk3
  rw [Bg.first_look] at hlook
  have HL := Lib.hid hlook
  have HK3 := Lib.hid hk3
  clear hk3 hG3 hm3 hlook kc HSD
  go_wp2_with fail
  refine HL.out.mono ?_
  rintro e w4 ⟨A, c, rfl, hr4, hb4⟩
  replace hr4 := hr4.rdB
  have HB4 := Lib.hid (HB3.out.trans (hb4.mono HB3.out.size))
  have hk4 := HK3.out.mv (Mv.of_new hb4 (fun _ => False)) (fun _ _ h => h)
  have HLN := Lib.hid (blen_any w.heap.size q G3 _ w4 hk4)
  have hcv := run_convB hr4
  rw [show ([120] : List UInt8).length = 1 from rfl] at hcv
  have e1 : (strB [120]).toList = [120] := by rw [Lib.toList_data]; rfl
  clear hb4 hk4 hr4 HL
  go_wp2_with fail
  refine HLN.out.mono ?_
  rintro e w5 ⟨rfl, hb5⟩
  have HB5 := Lib.hid (HB4.out.trans (hb5.mono HB4.out.size))
  clear hb5 HLN
  go_wp2_with fail
  go_ret
  exact ⟨rfl, HB5.out⟩
end Go.Proofs.Ytjkhdlmdgdcimaa
