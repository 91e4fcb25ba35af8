/- What ClockAgain asks, as lists: pure. -/
import Derived.Test.YtcigodaacdfagaaCkL
namespace Go.Proofs.Ytcigodaacdfagaa

theorem ag_eq (a b bell : Nat) (ha : a < 65536) (hb : b < 65536) (hl : bell < 256) : ag a b bell = ⟨0, ins ⟨(bell : Int) + 1, (a : Int)⟩ [⟨(bell : Int), (b : Int) + 1⟩]⟩ := by
  have e1 : Ck.new.set (bell : Int) (a : Int) = (0, ⟨0, [⟨bell, a⟩]⟩) := by
    unfold Ck.set
    rw [if_neg (by omega), if_neg (by simp [Ck.new]), if_neg (by omega)]
    simp [Ck.new, wo, ins]
  have e2 : (Ck.mk 0 [⟨bell, a⟩]).set (bell : Int) ((b : Int) + 1) = (0, ⟨0, [⟨bell, (b : Int) + 1⟩]⟩) := by
    unfold Ck.set
    rw [if_neg (by omega), if_neg (by simp only; omega), if_neg (by omega)]
    simp [wo, ins]
  unfold ag
  rw [e1]
  simp only
  rw [e2]
  simp only
  unfold Ck.set
  rw [if_neg (by omega), if_neg (by simp only; omega), if_neg (by omega)]
  simp only [wo, List.filter_cons, List.filter_nil]
  rw [if_pos (by simp only [decide_eq_true_eq]; omega)]
/-- the clock that ClockAgain passes time of -/
structure Ag (c : Ck) (b bell : Nat) (stop : Bool) : Prop where
  ok : c.Ok
  now : c.now = 0
  at_ : ∀ x ∈ c.l, x.at_ ≤ 65536
  it : (c.l.map (·.bell)).countP (fun n => n == (bell : Int)) = if stop then 0 else 1
  other : (c.l.map (·.bell)).countP (fun n => !(n == (bell : Int))) = 1
  first : ∀ x ∈ c.l, x.bell = (bell : Int) → x.at_ = (b : Int) + 1
  len : c.l.length ≤ 2
theorem ag_it (a b bell : Nat) (ha : a < 65536) (hb : b < 65536) (hl : bell < 256) : Ag (ag a b bell) b bell false := by
  obtain ⟨_, _, _, hok, hn, hm⟩ := ag_sets a b bell ha hb hl
  have he := ag_eq a b bell ha hb hl
  have hc : (ag a b bell).l = [⟨(bell : Int) + 1, (a : Int)⟩, ⟨(bell : Int), (b : Int) + 1⟩] ∨ (ag a b bell).l = [⟨(bell : Int), (b : Int) + 1⟩, ⟨(bell : Int) + 1, (a : Int)⟩] := by
    rw [he]
    simp only [ins]
    cases hf : Bl.fore ⟨(bell : Int), (b : Int) + 1⟩ ⟨(bell : Int) + 1, (a : Int)⟩
    · exact .inl (by simp [hf])
    · exact .inr (by simp [hf])
  have hne : ¬ ((bell : Int) + 1 = (bell : Int)) := by omega
  refine ⟨hok, hn, fun x hx => ?_, ?_, ?_, fun x hx hxb => ?_, ?_⟩
  · rcases (hm x).1 hx with rfl | rfl <;> simp only <;> omega
  · rcases hc with h | h <;> rw [h] <;> simp [hne]
  · rcases hc with h | h <;> rw [h] <;> simp [hne]
  · rcases (hm x).1 hx with rfl | rfl
    · simp only at hxb; omega
    · rfl
  · rcases hc with h | h <;> rw [h] <;> simp
theorem ag_stop (a b bell : Nat) (ha : a < 65536) (hb : b < 65536) (hl : bell < 256) : ((ag a b bell).stop (bell : Int)).1 = 0 ∧ Ag ((ag a b bell).stop (bell : Int)).2 b bell true ∧ (((ag a b bell).stop (bell : Int)).2.stop (bell : Int)).1 = 4 ∧ (((ag a b bell).stop (bell : Int)).2.stop (bell : Int)).2 = ((ag a b bell).stop (bell : Int)).2 := by
  have hg := ag_it a b bell ha hb hl
  obtain ⟨_, _, _, hok, hn, hm⟩ := ag_sets a b bell ha hb hl
  have h1 : wo (bell : Int) (ag a b bell).l = [⟨(bell : Int) + 1, (a : Int)⟩] := by
    have hne : ¬ ((bell : Int) + 1 = (bell : Int)) := by omega
    rw [ag_eq a b bell ha hb hl]
    simp only [ins]
    cases hf : Bl.fore ⟨(bell : Int), (b : Int) + 1⟩ ⟨(bell : Int) + 1, (a : Int)⟩
    · simp [hf, wo, hne]
    · simp [hf, wo, hne]
  have h2 : (ag a b bell).l.length = 2 := by
    have := List.length_eq_countP_add_countP (l := (ag a b bell).l.map (·.bell)) (fun n => n == (bell : Int))
    rw [hg.it, List.length_map] at this
    have h3 := hg.other
    simp only [Bool.not_eq_true, Bool.decide_eq_false] at this
    rw [h3] at this
    simpa using this
  have e1 : (ag a b bell).stop (bell : Int) = (0, ⟨0, [⟨(bell : Int) + 1, (a : Int)⟩]⟩) := by
    unfold Ck.stop
    rw [if_neg (by omega), h1, h2, if_neg (by simp), hn]
  have e2 : (Ck.mk 0 [⟨(bell : Int) + 1, (a : Int)⟩]).stop (bell : Int) = (4, ⟨0, [⟨(bell : Int) + 1, (a : Int)⟩]⟩) := by
    have hne : ¬ ((bell : Int) + 1 = (bell : Int)) := by omega
    unfold Ck.stop
    rw [if_neg (by omega)]
    simp [wo, hne]
  have hok2 := hok.stop (bell : Int)
  rw [e1] at hok2 ⊢
  simp only at hok2 ⊢
  rw [e2]
  have hne : ¬ ((bell : Int) + 1 = (bell : Int)) := by omega
  refine ⟨by first | trivial | rfl, ⟨hok2, rfl, fun x hx => ?_, by simp [hne], by simp [hne], fun x hx hxb => ?_, by simp⟩, by first | trivial | rfl, by first | trivial | rfl⟩
  · rw [List.mem_singleton.1 hx]; simp only; omega
  · rw [List.mem_singleton.1 hx] at hxb; simp only at hxb; omega
end Go.Proofs.Ytcigodaacdfagaa
