/- What one step of BookPlays leaves: pure. -/
import Derived.Test.YtaenlkopjmgniaaBk
namespace Go.Proofs.Ytaenlkopjmgniaa
namespace Bks
/-- behind Add or Reset: g is answered, nxt is what the law reckons with -/
def StepOk (now cut list nxt : List (List UInt8)) (b b' : Bks) (g : Int) : Prop :=
  (b.dead = true ∧ g = 11 ∧ b' = b) ∨ (b.dead = false ∧ ¬ fits list ∧ g = 6 ∧ b' = b) ∨
  (b.dead = false ∧ fits list ∧ fits nxt ∧ ((g = 11 ∧ b'.dead = true ∧ Inv now nxt b') ∨ (g = 0 ∧ b'.dead = false ∧ Inv nxt nxt b') ∨ (g = 10 ∧ b'.dead = false ∧ (lay nxt).length > 262144 ∧ Inv now cut b')))
theorem step_add {now cut list : List (List UInt8)} {b : Bks} (h : Inv now cut b) : StepOk now cut list (now ++ list) b (b.add list).2 (b.add list).1 := by
  cases hd : b.dead with
  | true => refine .inl ⟨hd, ?_, ?_⟩ <;> simp [add, hd]
  | false =>
    by_cases hf : fits list
    · refine .inr (.inr ⟨hd, hf, ?_, add_law h hd hf⟩)
      intro x hx
      rcases List.mem_append.1 hx with hx | hx
      · exact h.1 x hx
      · exact hf x hx
    · refine .inr (.inl ⟨hd, hf, ?_, ?_⟩) <;> simp [add, hd, hf]
theorem step_reset {now cut list : List (List UInt8)} {b : Bks} (h : Inv now cut b) : StepOk now cut list list b (b.reset list).2 (b.reset list).1 := by
  cases hd : b.dead with
  | true => refine .inl ⟨hd, ?_, ?_⟩ <;> simp [reset, hd]
  | false =>
    by_cases hf : fits list
    · exact .inr (.inr ⟨hd, hf, hf, reset_law h hd hf⟩)
    · refine .inr (.inl ⟨hd, hf, ?_, ?_⟩) <;> simp [reset, hd, hf]
theorem Inv.alive {now cut : List (List UInt8)} {b : Bks} (h : Inv now cut b) (hd : b.dead = false) : b.l = now := by
  obtain ⟨_, _, _, _, h5⟩ := h
  rcases h5 with ⟨_, h6, _⟩ | ⟨h6, _⟩
  · exact h6
  · rw [hd] at h6; cases h6
theorem Inv.len {now cut : List (List UInt8)} {b : Bks} (h : Inv now cut b) : now.length ≤ 1048576 := by
  obtain ⟨_, h2, h3, ⟨k1, k2, k3⟩, _⟩ := h
  have := lay_ge now
  rw [← h2] at this
  omega
theorem start : (opens ⟨[], [], 262144, -1, false⟩).1 = 0 ∧ Inv [] [] (opens ⟨[], [], 262144, -1, false⟩).2 ∧ (opens ⟨[], [], 262144, -1, false⟩).2.dead = false := by
  have hr : readAns (all ⟨[], [], 262144, -1, false⟩) = ([], 0) := rfl
  unfold opens
  rw [hr]
  simp only
  rw [if_neg (by decide), if_neg (by simp [all])]
  exact ⟨rfl, ⟨by intro x hx; simp at hx, rfl, rfl, ⟨by decide, by decide, by decide⟩, .inl ⟨rfl, rfl, rfl, rfl⟩⟩, rfl⟩
end Bks
end Go.Proofs.Ytaenlkopjmgniaa
