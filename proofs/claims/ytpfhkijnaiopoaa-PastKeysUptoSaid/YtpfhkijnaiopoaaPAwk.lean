/- The simplest facts, which each statement of the past layer asks first. -/
import Derived.Test.YtpfhkijnaiopoaaPst
namespace Go.Proofs.Ytpfhkijnaiopoaa
open Go.RowKit
attribute [local go_sem] less_eq same_eq le_eq ge_eq gt_eq

def awkC : Chg := ⟨1, ⟨#[97]⟩, ⟨#[49]⟩⟩
theorem awk_all : allAns [awkC] = 0 := by decide +kernel
theorem awk_apply : applyP [] [awkC] = [(⟨#[97]⟩, ⟨#[49]⟩)] := by decide +kernel
theorem awk_add : Pa.new.add 5 [awkC] = (0, ⟨0, 5, [(5, [(⟨#[97]⟩, ⟨#[49]⟩)])]⟩) := by
  unfold Pa.add
  rw [if_neg (by decide), if_neg (by rw [awk_all]; decide), show Pa.new.at_ Pa.new.last = [] from rfl, awk_apply]
  rfl
theorem awk_get5 : (Pa.mk 0 5 [(5, [(⟨#[97]⟩, ⟨#[49]⟩)])]).get ⟨#[97]⟩ 5 = ((⟨#[49]⟩, true), 0) := by decide +kernel
theorem awk_get4 : (Pa.mk 0 5 [(5, [(⟨#[97]⟩, ⟨#[49]⟩)])]).get ⟨#[97]⟩ 4 = ((⟨#[]⟩, false), 0) := by decide +kernel
theorem pv_below {base q n : Nat} {G : Nat → Prop} {p : Pa} {w w' : World} (h : PaAt w base q G n p) (hm : Mv G w w') : Below base w w' := hm.below h.low.1 fun i hi => (h.low.2 i hi).1
theorem PaAt.same {base q n : Nat} {G : Nat → Prop} {p : Pa} {w w' : World} (h : PaAt w base q G n p) (hb : Below w.heap.size w w') : PaAt w' base q G n p := h.mv (Mv.of_new hb (fun _ => False)) (fun _ _ h => h)
/-- a literal of one change -/
theorem RdC.lit (w : World) (x : Chg) : RdC (w.alloc (.cells #[.int .i64 x.kind, .string x.key, .string x.val] 67)) (w.heap.size + 1) (.slice (some ⟨w.heap.size, 0, none⟩) 1 1) [x] := by
  have hW : Whole (w.alloc (.cells #[.int .i64 x.kind, .string x.key, .string x.val] 67)) w.heap.size 67 [.int .i64 x.kind, .string x.key, .string x.val] := Whole.fresh w _ [_, _, _]
  refine ⟨_, 1, rfl, Nat.le_refl _, fun i hi => ⟨w.heap.size, 0, rfl, Nat.lt_succ_self _, fun j u hu => ?_⟩⟩
  obtain rfl : i = 0 := by simp at hi; omega
  have h1 := hW.cell j u
  simp only [encC, List.getElem_cons_zero] at hu
  simpa using h1 hu

set_option maxHeartbeats 4000000 in
set_option maxRecDepth 100000 in
theorem awake_any (w : World) : Calls Try.prog 12 #[] w fun e w' => e = .returned (.bool true) ∧ Below w.heap.size w w' := by
  have HN := Lib.hid (pnew_any w)
  go_enter Try.func12, Try.ntmps12
  go_wp2_with fail
  refine HN.out.mono ?_
  rintro e w1 ⟨q, G, rfl, hk, hb⟩
  obtain ⟨w2, hw2⟩ : ∃ w2, w2 = w1.alloc (.cells #[.int .i64 1, .string ⟨#[97]⟩, .string ⟨#[49]⟩] 67) := ⟨_, rfl⟩
  have hB2 : Below w1.heap.size w1 w2 := by rw [hw2]; exact (Below.refl _ w1).alloc (Nat.le_refl _) _
  have hlit : RdC w2 w2.heap.size (.slice (some ⟨w1.heap.size, 0, none⟩) 1 1) [awkC] := by
    rw [hw2]
    exact (RdC.lit w1 awkC).mono (by simp)
  have hk2 := hk.same hB2
  have hlow := hk.low
  have hs := padd_any w.heap.size q 0 G Pa.new 5 [awkC] _ w2 hk2 (by unfold I64; omega) (show RdG encC 3 w2 w2.heap.size G (.slice (some ⟨w1.heap.size, 0, none⟩) 1 1) [awkC] from by
    obtain ⟨A, c, e, hc, hi⟩ := hlit
    refine ⟨A, c, e, hc, fun i hs => ?_⟩
    obtain ⟨b, o, hA, hbb, h1⟩ := hi i hs
    injection e with e1 _ _
    rw [hA] at e1
    injection e1 with e1
    injection e1 with e1 _ _
    exact ⟨b, o, hA, hbb, fun hg => by have := (hlow.2 _ hg).2; omega, h1⟩) (fun c hc => by rw [List.mem_singleton.1 hc]; exact ⟨by decide, by decide⟩) (by simp [many])
  rw [awk_add] at hs
  have HS := Lib.hid hs
  have HB := Lib.hid (hb.trans (hB2.mono hb.size))
  have HK := Lib.hid hk2
  have HW2 := Lib.hid hw2
  clear hk hb hs HN hw2 hB2 hlit hk2 hlow
  go_wp2_with fail
  rw [← HW2.out]
  refine HS.out.mono ?_
  rintro e w3 ⟨rfl, G3, hk3, hG3, hm3⟩
  have hg := pget_any w.heap.size q _ G3 _ ⟨#[97]⟩ 5 w3 hk3 (by unfold I64; omega) (by decide)
  rw [awk_get5] at hg
  have HG := Lib.hid hg
  have HB3 := Lib.hid (HB.out.trans (pv_below HK.out hm3))
  have HK3 := Lib.hid hk3
  clear hk3 hG3 hm3 hg HS HB HK HW2
  go_wp2_with fail
  refine HG.out.mono ?_
  rintro e w4 ⟨rfl, hb4⟩
  have hk4 := HK3.out.same hb4
  have hg := pget_any w.heap.size q _ G3 _ ⟨#[97]⟩ 4 w4 hk4 (by unfold I64; omega) (by decide)
  rw [awk_get4] at hg
  have HG2 := Lib.hid hg
  have HB4 := Lib.hid (HB3.out.trans (hb4.mono HB3.out.size))
  clear hb4 hk4 hg HG HB3 HK3
  go_wp2_with fail
  refine HG2.out.mono ?_
  rintro e w5 ⟨rfl, hb5⟩
  have HB5 := Lib.hid (HB4.out.trans (hb5.mono HB4.out.size))
  clear hb5 HG2
  go_wp2_with fail
  go_ret
  exact ⟨rfl, HB5.out⟩
end Go.Proofs.Ytpfhkijnaiopoaa
