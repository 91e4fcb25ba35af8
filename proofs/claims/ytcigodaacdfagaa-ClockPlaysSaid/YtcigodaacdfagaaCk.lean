/- A clock as a state: pure. -/
namespace Go.Proofs.Ytcigodaacdfagaa

/-- a bell that is set -/
structure Bl where
  bell : Int
  at_ : Int
instance : Inhabited Bl := ⟨⟨0, 0⟩⟩
/-- rings ahead of another one: by rising times, of equal ones by rising numbers -/
def Bl.fore (x y : Bl) : Bool := decide (x.at_ < y.at_ ∨ x.at_ = y.at_ ∧ x.bell < y.bell)
structure Ck where
  now : Int
  l : List Bl
def wo (b : Int) (l : List Bl) : List Bl := l.filter fun x => decide (x.bell ≠ b)
def ins (x : Bl) (l : List Bl) : List Bl := l.takeWhile (·.fore x) ++ x :: l.dropWhile (·.fore x)
namespace Ck
def new : Ck := ⟨0, []⟩
def set (c : Ck) (b at_ : Int) : Int × Ck :=
  if b < 0 ∨ 4095 < b then (1, c) else if at_ < c.now then (7, c) else if 1099511627776 < at_ then (5, c) else (0, { c with l := ins ⟨b, at_⟩ (wo b c.l) })
def stop (c : Ck) (b : Int) : Int × Ck :=
  if b < 0 ∨ 4095 < b then (1, c) else if (wo b c.l).length = c.l.length then (4, c) else (0, { c with l := wo b c.l })
/-- those that ring till a time, and those that don't -/
def due (l : List Bl) (t : Int) : List Bl := l.takeWhile fun x => decide (x.at_ ≤ t)
def late (l : List Bl) (t : Int) : List Bl := l.dropWhile fun x => decide (x.at_ ≤ t)
def pass (c : Ck) (n : Int) : (List Int × Int) × Ck :=
  if n < 0 then (([], 1), c) else if 1099511627776 - c.now < n then (([], 5), c) else (((due c.l (c.now + n)).map (·.bell), 0), ⟨c.now + n, late c.l (c.now + n)⟩)
structure Ok (c : Ck) : Prop where
  low : 0 ≤ c.now
  high : c.now ≤ 1099511627776
  rise : c.l.Pairwise fun x y => x.fore y = true
  once : (c.l.map (·.bell)).Nodup
  bells : ∀ x ∈ c.l, 0 ≤ x.bell ∧ x.bell ≤ 4095
  ats : ∀ x ∈ c.l, c.now ≤ x.at_ ∧ x.at_ ≤ 1099511627776
end Ck
theorem Bl.fore_iff {x y : Bl} : x.fore y = true ↔ x.at_ < y.at_ ∨ x.at_ = y.at_ ∧ x.bell < y.bell := by simp [Bl.fore]
theorem Bl.fore_trans {x y z : Bl} (h : x.fore y = true) (h2 : y.fore z = true) : x.fore z = true := by
  rw [Bl.fore_iff] at *; omega
theorem Bl.fore_total {x y : Bl} (h : x.bell ≠ y.bell) : x.fore y = true ∨ y.fore x = true := by
  rw [Bl.fore_iff, Bl.fore_iff]; omega
theorem Bl.fore_irr (x : Bl) : x.fore x = false := by
  cases h : x.fore x
  · rfl
  · rw [Bl.fore_iff] at h; omega
theorem mem_ins {x y : Bl} {l : List Bl} : y ∈ ins x l ↔ y = x ∨ y ∈ l := by
  unfold ins
  rw [List.mem_append, List.mem_cons]
  constructor
  · rintro (h | h | h)
    · exact .inr (List.takeWhile_sublist _ |>.subset h)
    · exact .inl h
    · exact .inr (List.dropWhile_sublist _ |>.subset h)
  · rintro (h | h)
    · exact .inr (.inl h)
    · rw [← List.takeWhile_append_dropWhile (p := (·.fore x)) (l := l)] at h
      rcases List.mem_append.1 h with h | h
      · exact .inl h
      · exact .inr (.inr h)
theorem ins_perm (x : Bl) (l : List Bl) : (ins x l).Perm (x :: l) := by
  unfold ins
  refine List.perm_middle.trans ?_
  rw [List.takeWhile_append_dropWhile]
/-- whatever stands behind the first one that is not ahead isn't either -/
theorem drop_not_fore {x : Bl} : ∀ {l : List Bl}, l.Pairwise (fun x y => x.fore y = true) → ∀ y ∈ l.dropWhile (·.fore x), y.fore x = false
  | [], _, y, hy => by simp at hy
  | z :: r, h, y, hy => by
    obtain ⟨h1, h2⟩ := List.pairwise_cons.1 h
    rw [List.dropWhile_cons] at hy
    by_cases hz : z.fore x = true
    · rw [if_pos hz] at hy
      exact drop_not_fore h2 y hy
    · rw [if_neg hz] at hy
      have hz' : z.fore x = false := by simpa using hz
      rcases List.mem_cons.1 hy with rfl | hy
      · exact hz'
      · cases hyx : y.fore x
        · rfl
        · rw [Bl.fore_trans (h1 y hy) hyx] at hz'; cases hz'
theorem ins_rise {x : Bl} {l : List Bl} (h : l.Pairwise fun x y => x.fore y = true) (hb : ∀ y ∈ l, y.bell ≠ x.bell) : (ins x l).Pairwise fun x y => x.fore y = true := by
  unfold ins
  have ht := h.sublist (List.takeWhile_sublist (p := fun y : Bl => y.fore x) (l := l))
  have hd := h.sublist (List.dropWhile_sublist (p := fun y : Bl => y.fore x) (l := l))
  refine List.pairwise_append.2 ⟨ht, List.pairwise_cons.2 ⟨fun y hy => ?_, hd⟩, fun a ha c hc => ?_⟩
  · have h1 := drop_not_fore h y hy
    have h2 := hb y (List.dropWhile_sublist _ |>.subset hy)
    rcases Bl.fore_total h2 with h3 | h3
    · rw [h1] at h3; cases h3
    · exact h3
  · have h1 : a.fore x = true := by
      have := List.all_takeWhile (p := fun y : Bl => y.fore x) (l := l)
      exact List.all_eq_true.1 this a ha
    rcases List.mem_cons.1 hc with rfl | hc
    · exact h1
    · have h2 := drop_not_fore h c hc
      have h3 := hb c (List.dropWhile_sublist _ |>.subset hc)
      rcases Bl.fore_total h3 with h4 | h4
      · rw [h2] at h4; cases h4
      · exact Bl.fore_trans h1 h4
theorem mem_wo {b : Int} {x : Bl} {l : List Bl} : x ∈ wo b l ↔ x ∈ l ∧ x.bell ≠ b := by simp [wo]
theorem wo_sub (b : Int) (l : List Bl) : (wo b l).Sublist l := List.filter_sublist
namespace Ck
theorem Ok.new : Ok new := ⟨by simp [Ck.new], by simp [Ck.new], by simp [Ck.new], by simp [Ck.new], by simp [Ck.new], by simp [Ck.new]⟩
theorem Ok.set {c : Ck} (h : c.Ok) (b at_ : Int) : (c.set b at_).2.Ok := by
  unfold Ck.set
  split
  · exact h
  · split
    · exact h
    · split
      · exact h
      · rename_i h1 h2 h3
        refine ⟨h.low, h.high, ins_rise (h.rise.sublist (wo_sub b c.l)) (fun y hy => (mem_wo.1 hy).2), ?_, fun x hx => ?_, fun x hx => ?_⟩
        · have hp := (ins_perm ⟨b, at_⟩ (wo b c.l)).map (·.bell)
          rw [hp.nodup_iff]
          refine List.nodup_cons.2 ⟨fun hm => ?_, h.once.sublist ((wo_sub b c.l).map _)⟩
          obtain ⟨y, hy, he⟩ := List.mem_map.1 hm
          exact (mem_wo.1 hy).2 he
        · rcases mem_ins.1 hx with rfl | hx
          · simp only; omega
          · exact h.bells x (mem_wo.1 hx).1
        · rcases mem_ins.1 hx with rfl | hx
          · simp only; omega
          · exact h.ats x (mem_wo.1 hx).1
theorem Ok.stop {c : Ck} (h : c.Ok) (b : Int) : (c.stop b).2.Ok := by
  unfold Ck.stop
  split
  · exact h
  · split
    · exact h
    · exact ⟨h.low, h.high, h.rise.sublist (wo_sub b c.l), h.once.sublist ((wo_sub b c.l).map _), fun x hx => h.bells x (mem_wo.1 hx).1, fun x hx => h.ats x (mem_wo.1 hx).1⟩
theorem due_late (l : List Bl) (t : Int) : due l t ++ late l t = l := List.takeWhile_append_dropWhile
theorem mem_due {l : List Bl} {t : Int} {x : Bl} (h : x ∈ due l t) : x ∈ l ∧ x.at_ ≤ t := by
  refine ⟨List.takeWhile_sublist _ |>.subset h, ?_⟩
  have := List.all_takeWhile (p := fun x : Bl => decide (x.at_ ≤ t)) (l := l)
  simpa using List.all_eq_true.1 this x h
theorem mem_late : ∀ {l : List Bl} {t : Int}, l.Pairwise (fun x y => x.fore y = true) → ∀ {x : Bl}, x ∈ late l t → x ∈ l ∧ t < x.at_
  | [], t, _, x, h => by simp [late] at h
  | z :: r, t, hr, x, h => by
    obtain ⟨h1, h2⟩ := List.pairwise_cons.1 hr
    unfold late at h
    rw [List.dropWhile_cons] at h
    by_cases hz : z.at_ ≤ t
    · rw [if_pos (by simpa using hz)] at h
      obtain ⟨h3, h4⟩ := mem_late h2 h
      exact ⟨List.mem_cons_of_mem _ h3, h4⟩
    · rw [if_neg (by simpa using hz)] at h
      refine ⟨h, ?_⟩
      rcases List.mem_cons.1 h with rfl | h
      · omega
      · have := Bl.fore_iff.1 (h1 x h); omega
theorem due_of {l : List Bl} {t : Int} (hr : l.Pairwise fun x y => x.fore y = true) {x : Bl} (h : x ∈ l) (ht : x.at_ ≤ t) : x ∈ due l t := by
  have h1 : x ∈ due l t ++ late l t := by rw [due_late]; exact h
  rcases List.mem_append.1 h1 with h1 | h1
  · exact h1
  · have := (mem_late hr h1).2; omega
theorem due_all {l : List Bl} {t : Int} (h : ∀ x ∈ l, x.at_ ≤ t) : due l t = l ∧ late l t = [] := by
  have h1 : due l t = l := by
    unfold due
    induction l with
    | nil => rfl
    | cons z r ih =>
      rw [List.takeWhile_cons, if_pos (by simpa using h z (by simp)), ih (fun x hx => h x (List.mem_cons_of_mem _ hx))]
  refine ⟨h1, ?_⟩
  have h2 := due_late l t
  rw [h1] at h2
  simpa using h2
theorem Ok.pass {c : Ck} (h : c.Ok) (n : Int) : (c.pass n).2.Ok := by
  unfold Ck.pass
  split
  · exact h
  · split
    · exact h
    · rename_i h1 h2
      have hs : (late c.l (c.now + n)).Sublist c.l := List.dropWhile_sublist _
      have hl := h.low
      exact ⟨by simp only; omega, by simp only; omega, h.rise.sublist hs, h.once.sublist (hs.map _), fun x hx => h.bells x (hs.subset hx), fun x hx => by
        have h3 := (mem_late h.rise hx).2
        have h4 := (h.ats x (hs.subset hx)).2
        simp only
        omega⟩
theorem nodup_lt : ∀ (n : Nat) (l : List Nat), l.Nodup → (∀ x ∈ l, x < n) → l.length ≤ n
  | 0, l, _, h => by
    cases l with
    | nil => simp
    | cons x r => exact absurd (h x (by simp)) (by omega)
  | n + 1, l, hn, h => by
    have ih := nodup_lt n (l.erase n) (hn.erase n) (fun x hx => by
      have h1 := (hn.mem_erase_iff).1 hx
      have h2 := h x h1.2
      have h3 := h1.1
      omega)
    by_cases hm : n ∈ l
    · rw [List.length_erase_of_mem hm] at ih
      omega
    · rw [List.erase_of_not_mem hm] at ih
      omega
/-- as many as there are numbers, no more -/
theorem Ok.len {c : Ck} (h : c.Ok) : c.l.length ≤ 4096 := by
  have h1 : (c.l.map fun x => x.bell.toNat).Nodup := by
    have := h.once
    rw [List.nodup_iff_pairwise_ne, List.pairwise_map] at *
    refine this.imp_of_mem ?_
    intro x y hx hy hne he
    have := h.bells x hx
    have := h.bells y hy
    omega
  have h2 : ∀ n ∈ c.l.map fun x => x.bell.toNat, n < 4096 := by
    intro n hn
    obtain ⟨x, hx, rfl⟩ := List.mem_map.1 hn
    have := h.bells x hx
    omega
  have h3 := nodup_lt 4096 _ h1 h2
  simpa using h3
end Ck
end Go.Proofs.Ytcigodaacdfagaa
