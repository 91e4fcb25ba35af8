/- The program's clock as a state of the heap: New, Now, isBell. -/
import Derived.Test.YtcigodaacdfagaaCkL
import Derived.Test.YtcigodaacdfagaaRdG
import Derived.Test.YtcigodaacdfagaaIntsN
import Derived.Test.YtcigodaacdfagaaMp
import Derived.Test.YtcigodaacdfagaaPlanB
import Derived.Carry
namespace Go.Proofs.Ytcigodaacdfagaa
open Go.RowKit

/-- the bells as pairs of a map -/
def prB (x : Bl) : Int × Value := (x.bell, .int .i64 x.at_)
/-- the clock's cells at block q; its map is one of G -/
def CkCells (w : World) (q : Nat) (G : Nat → Prop) (now : Int) (l : List Bl) : Prop :=
  ∃ m, Whole w q 49 [.int .i64 now, .map m] ∧ ((m = none ∧ l = []) ∨ ∃ b, m = some b ∧ b ≠ q ∧ G b ∧ MapI w b (l.map prB))
/-- the clock at block q; its blocks are among G -/
structure CkAt (w : World) (base q : Nat) (G : Nat → Prop) (c : Ck) : Prop where
  blk : CkCells w q G c.now c.l
  me : G q
  low : base ≤ w.heap.size ∧ ∀ i, G i → base ≤ i ∧ i < w.heap.size
  ok : c.Ok
/-- blocks that stood in w and were none of G -/
def Else (w : World) (G : Nat → Prop) : Nat → Prop := fun i => ¬ G i ∧ i < w.heap.size
def I64 (n : Int) : Prop := -9223372036854775808 ≤ n ∧ n < 9223372036854775808
section
variable {w w' w1 : World} {base q : Nat} {G G' : Nat → Prop} {c : Ck} {now : Int} {l : List Bl}
theorem CkCells.mv {D : Nat → Prop} (h : CkCells w q G now l) (hm : Mv D w w') (hq : G q) (hn : ∀ i, G i → ¬ D i) : CkCells w' q G now l := by
  obtain ⟨m, hb, h1⟩ := h
  refine ⟨m, hm.whole hb (hn q hq), ?_⟩
  rcases h1 with h1 | ⟨b, rfl, hne, hg, hM⟩
  · exact .inl h1
  · exact .inr ⟨b, rfl, hne, hg, hM.mv hm (hn b hg)⟩
theorem CkAt.mv {D : Nat → Prop} (h : CkAt w base q G c) (hm : Mv D w w') (hn : ∀ i, G i → ¬ D i) : CkAt w' base q G c :=
  ⟨h.blk.mv hm h.me hn, h.me, ⟨Nat.le_trans h.low.1 hm.size, fun i hi => ⟨(h.low.2 i hi).1, Nat.lt_of_lt_of_le (h.low.2 i hi).2 hm.size⟩⟩, h.ok⟩
theorem CkAt.new (h : CkAt w base q G c) (hb : Below w.heap.size w w') : CkAt w' base q G c := h.mv (Mv.of_new hb (fun _ => False)) (fun _ _ h => h)
end
def CkWent (w w' : World) (base q : Nat) (G : Nat → Prop) (c : Ck) : Prop := ∃ G', CkAt w' base q G' c ∧ (∀ i, G' i → G i ∨ w.heap.size ≤ i) ∧ Mv G w w'
theorem CkWent.of {w w' : World} {base q : Nat} {G : Nat → Prop} {c : Ck} (h : CkAt w base q G c) (hb : Below w.heap.size w w') : CkWent w w' base q G c := ⟨G, h.new hb, fun _ h => .inl h, Mv.of_new hb _⟩

set_option maxHeartbeats 1000000 in
theorem cnew_any (w : World) :
    Calls Try.prog 7 #[] w fun e w' => ∃ q G, e = .returned (.pointer (some ⟨q, 0, none⟩)) ∧ CkAt w' w.heap.size q G Ck.new ∧ Below w.heap.size w w' := by
  go_enter Try.func7, Try.ntmps7
  go_wp2_with fail
  go_ret
  refine ⟨w.heap.size, fun i => i = w.heap.size, rfl, ⟨⟨none, Whole.fresh w _ [_, _], .inl ⟨rfl, rfl⟩⟩, rfl, ⟨by simp, ?_⟩, Ck.Ok.new⟩, (Below.refl _ w).alloc (Nat.le_refl _) _⟩
  rintro i rfl
  simp

set_option maxHeartbeats 1000000 in
theorem cnow_any (base q : Nat) (G : Nat → Prop) (c : Ck) (w : World) (h : CkAt w base q G c) :
    Calls Try.prog 16 #[.pointer (some ⟨q, 0, none⟩)] w fun e w' => e = .returned (.int .i64 c.now) ∧ Below w.heap.size w w' := by
  obtain ⟨m, hb, _⟩ := h.blk
  have c0 := hb.cell 0 _ rfl
  clear hb h
  go_enter Try.func16, Try.ntmps16
  go_wp2_with fail
  go_ret
  exact ⟨rfl, Below.refl _ _⟩

def bellOk (n : Int) : Bool := decide (0 ≤ n ∧ n < 4096)
set_option maxHeartbeats 1000000 in
theorem isBell_any (n : Int) (w : World) : Calls Try.prog 17 #[.int .i64 n] w fun e w' => e = .returned (.bool (bellOk n)) ∧ w' = w := by
  have hr : bellOk n = (decide (0 ≤ n) && decide (n < 4096)) := by unfold bellOk; rw [Bool.decide_and]
  rw [hr]
  clear hr
  go_enter Try.func17, Try.ntmps17
  by_cases h0 : 0 ≤ n
  · have h0b : decide (0 ≤ n) = true := by simpa using h0
    rw [h0b]
    by_cases h1 : n < 4096
    · have h1b : decide (n < 4096) = true := by simpa using h1
      rw [h1b]
      go_wp2_with fail
      go_ret
      exact ⟨rfl, rfl⟩
    · have h1b : decide (n < 4096) = false := by simpa using h1
      rw [h1b]
      go_wp2_with fail
      go_ret
      exact ⟨rfl, rfl⟩
  · have h0b : decide (0 ≤ n) = false := by simpa using h0
    rw [h0b]
    go_wp2_with fail
    go_ret
    exact ⟨rfl, rfl⟩

set_option maxHeartbeats 1000000 in
theorem cnone_now (w : World) : Calls Try.prog 16 #[.pointer none] w fun e w' => e = .returned (.int .i64 0) ∧ Below w.heap.size w w' := by
  go_enter Try.func16, Try.ntmps16
  go_wp2_with fail
  go_ret
  exact ⟨rfl, Below.refl _ _⟩
set_option maxHeartbeats 1000000 in
theorem cnone_set (bell at_ : Int) (w : World) : Calls Try.prog 9 #[.pointer none, .int .i64 bell, .int .i64 at_] w fun e w' => e = .returned (.int .i64 1) ∧ Below w.heap.size w w' := by
  go_enter Try.func9, Try.ntmps9
  go_wp2_with fail
  go_ret
  exact ⟨rfl, Below.refl _ _⟩
set_option maxHeartbeats 1000000 in
theorem cnone_stop (bell : Int) (w : World) : Calls Try.prog 11 #[.pointer none, .int .i64 bell] w fun e w' => e = .returned (.int .i64 1) ∧ Below w.heap.size w w' := by
  go_enter Try.func11, Try.ntmps11
  go_wp2_with (go_at_call 17; refine (isBell_any _ _).mono ?_; rintro e w1 ⟨rfl, rfl⟩)
  go_ret
  exact ⟨rfl, Below.refl _ _⟩
set_option maxHeartbeats 1000000 in
theorem cnone_pass (n : Int) (w : World) : Calls Try.prog 13 #[.pointer none, .int .i64 n] w fun e w' => ∃ A c, e = .returned (.tuple #[.slice A 0 c, .int .i64 1]) ∧ Below w.heap.size w w' := by
  go_enter Try.func13, Try.ntmps13
  go_wp2_with fail
  exact bodyPost_ret (v := .tuple #[.slice none 0 0, .int .i64 1]) (by simp [results, Try.results13, go_sem]) rfl ⟨none, 0, rfl, Below.refl _ _⟩
end Go.Proofs.Ytcigodaacdfagaa
