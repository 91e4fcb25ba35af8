/- The simplest facts, which each statement of the span layer asks first: they hold in every world. -/
import Derived.Test.YtmfpidihcjnnkaaLeft
namespace Go.Proofs.Ytmfpidihcjnnkaa
open Go.RowKit
attribute [local go_sem] less_eq same_eq le_eq ge_eq gt_eq

theorem awake_join (J : List (K × K)) (hn : Normal J) (hm : ∀ k, mem J k ↔ mem [(⟨#[98]⟩, ⟨#[100]⟩), (⟨#[97]⟩, ⟨#[98]⟩)] k) : J = [(⟨#[97]⟩, ⟨#[100]⟩)] := by
  have h1 : (⟨#[97]⟩ : K) < ⟨#[98]⟩ := by decide
  have h2 : (⟨#[98]⟩ : K) < ⟨#[100]⟩ := by decide
  refine normal_ext J _ hn ⟨by decide, by simp, trivial⟩ fun k => ?_
  rw [hm k]
  simp only [mem_cons, mem_nil, or_false, has]
  grind

theorem rd_two (w : World) (a b : K × K) : RdS (w.alloc (.cells #[.string a.1, .string a.2, .string b.1, .string b.2] 23)) (w.heap.size + 1) (.slice (some ⟨w.heap.size, 0, none⟩) 2 2) [a, b] := by
  refine ⟨_, 2, rfl, by simp, fun i s hs => ⟨w.heap.size, 0, rfl, by omega, ?_, ?_⟩⟩
  all_goals
    rw [World.cell?_alloc_at _ _ _ _ rfl]
    match i, hs with
    | 0, hs => simp at hs; subst hs; rfl
    | 1, hs => simp at hs; subst hs; rfl

set_option maxHeartbeats 1000000 in
set_option maxRecDepth 100000 in
theorem awake_any (w : World) : Calls Try.prog 11 #[] w fun e w' => e = .returned (.bool true) ∧ Below w.heap.size w w' := by
  have hj := join_any [(⟨#[98]⟩, ⟨#[100]⟩), (⟨#[97]⟩, ⟨#[98]⟩)] (.slice (some ⟨w.heap.size, 0, none⟩) 2 2) (w.alloc (.cells #[.string ⟨#[98]⟩, .string ⟨#[100]⟩, .string ⟨#[97]⟩, .string ⟨#[98]⟩] 23)) (by simpa using rd_two w (⟨#[98]⟩, ⟨#[100]⟩) (⟨#[97]⟩, ⟨#[98]⟩)) (by simp)
  have hb := fun W => behind_any ⟨#[97, 255]⟩ W (by decide)
  have he : behindAns ⟨#[97, 255]⟩ = .tuple #[.string ⟨#[98]⟩, .int .i64 0] := by
    have h1 : low ⟨#[97, 255]⟩ 2 = 1 := by decide
    have h2 : above ⟨#[97, 255]⟩ 1 = ⟨#[98]⟩ := by decide
    rw [behindAns, show (⟨#[97, 255]⟩ : ByteArray).size = 2 from rfl, h1, h2]
    rfl
  rw [he] at hb
  clear he
  have hx : ∀ W, Calls Try.prog 15 #[.string ⟨#[97]⟩] W fun e w' => e = .returned (.string ⟨#[97, 0]⟩) ∧ w' = W := fun W => next_any ⟨#[97]⟩ W (by decide)
  have hh : ∀ W, Calls Try.prog 12 #[.agg #[.string ⟨#[97]⟩, .string ⟨#[100]⟩], .string ⟨#[99]⟩] W fun e w' => e = .returned (.bool true) ∧ Below W.heap.size W w' := fun W => by
    have h := has_any (⟨#[97]⟩, ⟨#[100]⟩) ⟨#[99]⟩ W
    rwa [show (decide (((⟨#[97]⟩, ⟨#[100]⟩) : K × K).1 ≤ ⟨#[99]⟩) && decide ((⟨#[99]⟩ : K) < ((⟨#[97]⟩, ⟨#[100]⟩) : K × K).2)) = true by decide] at h
  have HJ := Lib.hid hj; clear hj
  have HB := Lib.hid hb; clear hb
  have HX := Lib.hid hx; clear hx
  have HH := Lib.hid hh; clear hh
  go_enter Try.func11, Try.ntmps11
  go_wp2_with fail
  refine HJ.out.mono ?_
  rintro e w2 ⟨v', J, rfl, ho, hb2, hn, hm, _⟩
  obtain rfl := awake_join J hn hm
  rcases ho.form with ⟨_, h0⟩ | ⟨g, cap, rfl, hg, hlt, hc⟩
  · simp at h0
  obtain ⟨A, c, hA, hi⟩ := ho.read
  obtain ⟨g', hg', _, _, c1, c2⟩ := hi 0 (by simp)
  simp only [Value.slice.injEq, List.length_cons, List.length_nil] at hA
  obtain ⟨rfl, _, rfl⟩ := hA
  simp only [Option.some.injEq, Addr.mk.injEq, and_true] at hg'
  subst hg'
  simp at c1 c2
  have hbw : Below w.heap.size w w2 := ((Below.refl _ w).alloc (Nat.le_refl _) _).trans (hb2.mono (by simp))
  clear ho hb2 hi hn hm
  have HBW := Lib.hid hbw; clear hbw
  go_wp2_with fail
  refine (HB.out _).mono ?_
  rintro e w3 ⟨rfl, hb3⟩
  rw [← hb3.cell (p := ⟨g, 0, none⟩) hlt] at c1
  rw [← hb3.cell (p := ⟨g, 1, none⟩) hlt] at c2
  have HB3 := Lib.hid hb3; clear hb3
  go_wp2_with fail
  refine (HH.out _).mono ?_
  rintro e w4 ⟨rfl, hb4⟩
  have HB4 := Lib.hid hb4; clear hb4
  go_wp2_with fail
  refine (HX.out _).mono ?_
  rintro e w5 ⟨rfl, rfl⟩
  go_wp2_with fail
  go_ret
  exact ⟨rfl, HBW.out.trans ((HB3.out.mono HBW.out.size).trans (HB4.out.mono (Nat.le_trans HBW.out.size HB3.out.size)))⟩
end Go.Proofs.Ytmfpidihcjnnkaa
