/- Changes spread over the pieces and done piece by piece: pure. -/
import Derived.Test.YteelnholmlabmaaVal
import Derived.Test.YteelnholmlabmaaSh
namespace Go.Proofs.Yteelnholmlabmaa

theorem cut1_check {s : K × K} (h1 : s.1.size ≤ 17) (h2 : s.2.size ≤ 17) {c : Chg} (hc : checkAns c = 0) : ∀ d ∈ cut1 s c, checkAns d = 0 := by
  intro d hd
  unfold cut1 at hd
  by_cases h3 : c.kind = 3
  · rw [if_pos h3] at hd
    by_cases h : (meet s (cspan c)).1 < (meet s (cspan c)).2
    · rw [if_pos h] at hd
      simp only [List.mem_cons, List.not_mem_nil, or_false] at hd
      have hk : c.key.size ≤ 17 ∧ c.val.size ≤ 17 := by
        unfold checkAns at hc
        rw [if_neg (by omega), if_neg (by omega), if_pos h3] at hc
        by_cases hh : c.key.size > 17 ∨ c.val.size > 17
        · rw [if_pos hh] at hc; omega
        · omega
      have e : cspan c = (c.key, c.val) := by unfold cspan; rw [if_pos h3]
      have hm : (meet s (cspan c)).1.size ≤ 17 ∧ (meet s (cspan c)).2.size ≤ 17 := by
        rw [e]
        unfold meet
        split
        · exact ⟨by decide, by decide⟩
        · unfold mx mn
          simp only
          constructor
          · split <;> omega
          · split <;> omega
      subst hd
      unfold checkAns
      simp only
      rw [if_neg (by omega), if_neg (by omega), if_pos trivial, if_neg (by omega), if_neg (by grind)]
    · rw [if_neg h] at hd
      simp at hd
  · rw [if_neg h3] at hd
    by_cases hb : hasB s c.key = true
    · rw [if_pos hb] at hd
      simp only [List.mem_cons, List.not_mem_nil, or_false] at hd
      rw [hd]; exact hc
    · rw [if_neg hb] at hd
      simp at hd
theorem cutP_check {s : K × K} (h1 : s.1.size ≤ 17) (h2 : s.2.size ≤ 17) {cs : List Chg} (hc : ∀ c ∈ cs, checkAns c = 0) : ∀ d ∈ cutP s cs, checkAns d = 0 := by
  intro d hd
  unfold cutP at hd
  rw [List.mem_flatMap] at hd
  obtain ⟨c, hm, hd⟩ := hd
  exact cut1_check h1 h2 (hc c hm) d hd
theorem applyP_len : ∀ (cs : List Chg) (l : Prs), (applyP l cs).length ≤ l.length + cs.length
  | [], l => by simp [applyP]
  | c :: r, l => by
    have h1 := applyP_len r (oneP l c)
    have h2 := oneP_len l c
    have e : applyP l (c :: r) = applyP (oneP l c) r := rfl
    rw [e, List.length_cons]
    omega
/-- pairs behind the changes of the last pieces -/
def partsTo (b : List K) (l : List Chg) (P : Prs) : Nat → Prs
  | 0 => P
  | j + 1 => applyP (partsTo b l P j) (cutP (pieceB b (b.length - j)) l)
section
variable {b : List K} {l : List Chg} {P : Prs}
theorem partsTo_oks (hb : okB b) (hl : allAns l = 0) (j : Nat) : ∀ c ∈ cutP (pieceB b (b.length - j)) l, checkAns c = 0 := by
  have h := pieceB_ok hb (n := b.length - j) (by omega)
  exact cutP_check (by omega) (by omega) (allAns_all hl)
theorem partsTo_sound (hb : okB b) (hl : allAns l = 0) (hP : soundP P = true) : ∀ j, soundP (partsTo b l P j) = true
  | 0 => hP
  | j + 1 => sound_apply (partsTo_sound hb hl hP j) (partsTo_oks hb hl j)
theorem partsTo_len (b : List K) (l : List Chg) (P : Prs) : ∀ j, (partsTo b l P j).length ≤ P.length + j * l.length
  | 0 => by show P.length ≤ _; omega
  | j + 1 => by
    have h1 := partsTo_len b l P j
    have h2 := applyP_len (cutP (pieceB b (b.length - j)) l) (partsTo b l P j)
    have h3 := cutP_len (pieceB b (b.length - j)) l
    have e : partsTo b l P (j + 1) = applyP (partsTo b l P j) (cutP (pieceB b (b.length - j)) l) := rfl
    rw [e, Nat.succ_mul]
    omega
theorem partsTo_val (hb : okB b) (hl : allAns l = 0) (hP : soundP P = true) {k : K} (hk : k.size ≤ 16) : ∀ j, j ≤ b.length + 1 → valOf (partsTo b l P j) k = if b.length - whichB b k < j then effV l k (valOf P k) else valOf P k
  | 0, _ => by rw [if_neg (by omega)]; rfl
  | j + 1, hj => by
    have e : partsTo b l P (j + 1) = applyP (partsTo b l P j) (cutP (pieceB b (b.length - j)) l) := rfl
    have hi := partsTo_val hb hl hP hk j (by omega)
    rw [e, valOf_eff _ (soundP_spec (partsTo_sound hb hl hP j)).1, eff_cut, hi]
    have hw := whichB_le b k
    have hh : hasB (pieceB b (b.length - j)) k = true ↔ b.length - j = whichB b k := (hasB_iff _ _).trans (pieceB_has hb hk (by omega))
    by_cases h : b.length - j = whichB b k
    · rw [if_pos (hh.2 h), if_neg (by omega), if_pos (by omega)]
    · rw [if_neg (fun g => h (hh.1 g))]
      by_cases g : b.length - whichB b k < j
      · rw [if_pos g, if_pos (by omega)]
      · rw [if_neg g, if_neg (by omega)]
theorem valOf_long {Q : Prs} (h : soundP Q = true) {k : K} (hk : ¬ k.size ≤ 16) : valOf Q k = (⟨#[]⟩, false) := valOf_no fun x hx e => hk (by rw [← e]; exact ((soundP_spec h).2 x hx).1)
theorem partsTo_all (hb : okB b) (hl : allAns l = 0) (hP : soundP P = true) : partsTo b l P (b.length + 1) = applyP P l := by
  have h1 := partsTo_sound hb hl hP (b.length + 1)
  have h2 := sound_apply hP (allAns_all hl)
  refine rises_val_ext (soundP_spec h1).1 (soundP_spec h2).1 fun k => ?_
  by_cases hk : k.size ≤ 16
  · rw [partsTo_val hb hl hP hk _ (Nat.le_refl _), if_pos (by omega), valOf_eff l (soundP_spec hP).1]
  · rw [valOf_long h1 hk, valOf_long h2 hk]
end
end Go.Proofs.Yteelnholmlabmaa
