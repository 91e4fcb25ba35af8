/- What ClockOnce and ClockAgain ask of a clock as a state: pure. -/
import Derived.Test.YtcigodaacdfagaaCk
namespace Go.Proofs.Ytcigodaacdfagaa

/-- bell j, at the j-th of times -/
def nth (ats : List Nat) (j : Nat) : Bl := ⟨(j : Int), ((ats.getD j 0 : Nat) : Int)⟩
/-- the first k bells are set, each at its time, and nothing else -/
structure Laid (ats : List Nat) (k : Nat) (c : Ck) : Prop where
  ok : c.Ok
  now : c.now = 0
  mem : ∀ x, x ∈ c.l ↔ ∃ j, j < k ∧ x = nth ats j
theorem Laid.start (ats : List Nat) : Laid ats 0 Ck.new := ⟨Ck.Ok.new, rfl, fun x => by simp [Ck.new]⟩
theorem Laid.set {ats : List Nat} {k : Nat} {c : Ck} (h : Laid ats k c) (hk : k < 100) (ha : ats.getD k 0 ≤ 65535) : (c.set (k : Int) ((ats.getD k 0 : Nat) : Int)).1 = 0 ∧ Laid ats (k + 1) (c.set (k : Int) ((ats.getD k 0 : Nat) : Int)).2 := by
  have hok := h.ok.set (k : Int) ((ats.getD k 0 : Nat) : Int)
  have hn := h.now
  have e : c.set (k : Int) ((ats.getD k 0 : Nat) : Int) = (0, { c with l := ins (nth ats k) (wo (k : Int) c.l) }) := by
    unfold Ck.set
    rw [if_neg (by omega), if_neg (by omega), if_neg (by omega)]
    rfl
  rw [e] at hok ⊢
  refine ⟨rfl, hok, hn, fun x => ?_⟩
  simp only
  rw [mem_ins, mem_wo, h.mem]
  constructor
  · rintro (rfl | ⟨⟨j, hj, rfl⟩, _⟩)
    · exact ⟨k, by omega, rfl⟩
    · exact ⟨j, by omega, rfl⟩
  · rintro ⟨j, hj, rfl⟩
    by_cases he : j = k
    · exact .inl (by rw [he])
    · exact .inr ⟨⟨j, by omega, rfl⟩, by simp [nth]; omega⟩
/-- R: those that have yet to ring; which have rung; when the last one did -/
structure Rung (ats : List Nat) (n : Nat) (R : List Bl) (ru : List Bool) (last : Int) : Prop where
  len : ru.length = n
  all : ∀ x ∈ R, ∃ j, j < n ∧ x = nth ats j
  rise : R.Pairwise fun x y => x.fore y = true
  once : (R.map (·.bell)).Nodup
  rung : ∀ j, j < n → (ru.getD j false = true ↔ nth ats j ∉ R)
  last : ∀ x ∈ R, last ≤ x.at_
theorem Rung.start {ats : List Nat} {n : Nat} {c : Ck} (h : Laid ats n c) : Rung ats n c.l (List.replicate n false) (-1) :=
  ⟨by simp, fun x hx => (h.mem x).1 hx, h.ok.rise, h.ok.once, fun j hj => by
    have : nth ats j ∈ c.l := (h.mem _).2 ⟨j, hj, rfl⟩
    simp [List.getD, hj, this], fun x hx => by have := (h.ok.ats x hx).1; have := h.ok.low; omega⟩
theorem Rung.step {ats : List Nat} {n : Nat} {y : Bl} {R : List Bl} {ru : List Bool} {last : Int} (h : Rung ats n (y :: R) ru last) :
    ∃ j : Nat, j < n ∧ y = nth ats j ∧ ru.getD j false = false ∧ last ≤ y.at_ ∧ Rung ats n R (ru.set j true) y.at_ := by
  obtain ⟨j, hj, rfl⟩ := h.all y (by simp)
  have hr := h.rung j hj
  refine ⟨j, hj, rfl, ?_, h.last _ (by simp), by simp [h.len], fun x hx => h.all x (by simp [hx]), (List.pairwise_cons.1 h.rise).2, (List.nodup_cons.1 (by simpa using h.once)).2, fun i hi => ?_, fun x hx => ?_⟩
  · cases he : ru.getD j false
    · rfl
    · exact absurd (by simp) (hr.1 he)
  · have hl := h.len
    by_cases hij : i = j
    · subst hij
      have h1 : nth ats i ∉ R := fun hm => (List.nodup_cons.1 (by simpa using h.once)).1 (List.mem_map.2 ⟨_, hm, rfl⟩)
      simp [List.getD, hl, hi, h1]
    · have h1 := h.rung i hi
      have hne : nth ats i ≠ nth ats j := fun e => hij (by have : ((i : Nat) : Int) = (j : Int) := congrArg Bl.bell e; omega)
      rw [show (ru.set j true).getD i false = ru.getD i false by simp [List.getD, List.getElem?_set_ne (Ne.symm hij)], h1]
      simp [hne]
  · have := Bl.fore_iff.1 ((List.pairwise_cons.1 h.rise).1 x hx)
    omega
theorem Rung.all_true {ats : List Nat} {n : Nat} {ru : List Bool} {last : Int} (h : Rung ats n [] ru last) (j : Nat) (hj : j < n) : ru.getD j false = true := (h.rung j hj).2 (by simp)

/-- ClockAgain's clock -/
def ag (a b : Nat) (bell : Nat) : Ck := (((Ck.new.set (bell : Int) (a : Int)).2.set (bell : Int) ((b : Int) + 1)).2.set ((bell : Int) + 1) (a : Int)).2
theorem ag_sets (a b bell : Nat) (ha : a < 65536) (hb : b < 65536) (hl : bell < 256) : (Ck.new.set (bell : Int) (a : Int)).1 = 0 ∧ ((Ck.new.set (bell : Int) (a : Int)).2.set (bell : Int) ((b : Int) + 1)).1 = 0 ∧
    (((Ck.new.set (bell : Int) (a : Int)).2.set (bell : Int) ((b : Int) + 1)).2.set ((bell : Int) + 1) (a : Int)).1 = 0 ∧ (ag a b bell).Ok ∧ (ag a b bell).now = 0 ∧ ∀ x, x ∈ (ag a b bell).l ↔ x = ⟨(bell : Int) + 1, (a : Int)⟩ ∨ x = ⟨(bell : Int), (b : Int) + 1⟩ := by
  have e1 : Ck.new.set (bell : Int) (a : Int) = (0, ⟨0, [⟨bell, a⟩]⟩) := by
    unfold Ck.set
    rw [if_neg (by omega), if_neg (by simp [Ck.new]), if_neg (by omega)]
    simp [Ck.new, wo, ins]
  have e2 : (Ck.mk 0 [⟨bell, a⟩]).set (bell : Int) ((b : Int) + 1) = (0, ⟨0, [⟨bell, (b : Int) + 1⟩]⟩) := by
    unfold Ck.set
    rw [if_neg (by omega), if_neg (by simp only; omega), if_neg (by omega)]
    simp [wo, ins]
  have e3 : ((Ck.mk 0 [⟨bell, (b : Int) + 1⟩]).set ((bell : Int) + 1) (a : Int)) = (0, ⟨0, ins ⟨(bell : Int) + 1, a⟩ [⟨bell, (b : Int) + 1⟩]⟩) := by
    unfold Ck.set
    rw [if_neg (by omega), if_neg (by simp only; omega), if_neg (by omega)]
    simp only [wo, List.filter_cons, List.filter_nil]
    rw [if_pos (by simp only [decide_eq_true_eq]; omega)]
  have ho : (ag a b bell).Ok := by unfold ag; exact ((Ck.Ok.new.set _ _).set _ _).set _ _
  unfold ag at ho ⊢
  rw [e1]
  rw [e1] at ho
  simp only at ho ⊢
  rw [e2]
  rw [e2] at ho
  simp only at ho ⊢
  rw [e3]
  rw [e3] at ho
  refine ⟨(by first | trivial | rfl), (by first | trivial | rfl), (by first | trivial | rfl), ho, rfl, fun x => ?_⟩
  simp only
  rw [mem_ins]
  simp
/-- what rings in three passes of which the last one is long is all -/
theorem three_all {c : Ck} (h : c.Ok) (hn : c.now = 0) (hm : ∀ x ∈ c.l, x.at_ ≤ 65536) (b : Nat) (hb : b < 65536) :
    (c.pass (b : Int)).1.2 = 0 ∧ ((c.pass (b : Int)).2.pass 1).1.2 = 0 ∧ (((c.pass (b : Int)).2.pass 1).2.pass 70000).1.2 = 0 ∧
    (c.pass (b : Int)).1.1 ++ ((c.pass (b : Int)).2.pass 1).1.1 ++ (((c.pass (b : Int)).2.pass 1).2.pass 70000).1.1 = c.l.map (·.bell) ∧ ∀ n ∈ (c.pass (b : Int)).1.1, ∃ x ∈ c.l, x.bell = n ∧ x.at_ ≤ (b : Int) := by
  have e1 : c.pass (b : Int) = (((Ck.due c.l (b : Int)).map (·.bell), 0), ⟨(b : Int), Ck.late c.l (b : Int)⟩) := by
    unfold Ck.pass
    rw [if_neg (by omega), if_neg (by omega), hn, Int.zero_add]
  have e2 : (Ck.mk (b : Int) (Ck.late c.l (b : Int))).pass 1 = (((Ck.due (Ck.late c.l (b : Int)) ((b : Int) + 1)).map (·.bell), 0), ⟨(b : Int) + 1, Ck.late (Ck.late c.l (b : Int)) ((b : Int) + 1)⟩) := by
    unfold Ck.pass
    rw [if_neg (by omega), if_neg (by simp only; omega)]
  have h3 : ∀ x ∈ Ck.late (Ck.late c.l (b : Int)) ((b : Int) + 1), x.at_ ≤ (b : Int) + 1 + 70000 := fun x hx => by
    have h4 : x ∈ Ck.late c.l (b : Int) := (List.dropWhile_sublist _).subset hx
    have h5 : x ∈ c.l := (List.dropWhile_sublist _).subset h4
    have := hm x h5
    omega
  have e3 : (Ck.mk ((b : Int) + 1) (Ck.late (Ck.late c.l (b : Int)) ((b : Int) + 1))).pass 70000 = (((Ck.late (Ck.late c.l (b : Int)) ((b : Int) + 1)).map (·.bell), 0), ⟨(b : Int) + 1 + 70000, []⟩) := by
    obtain ⟨d1, d2⟩ := Ck.due_all h3
    unfold Ck.pass
    rw [if_neg (by omega), if_neg (by simp only; omega)]
    simp only
    rw [d1, d2]
  rw [e1]
  simp only
  rw [e2]
  simp only
  rw [e3]
  refine ⟨?_, ?_, ?_, ?_, fun n hn => ?_⟩
  iterate 3 (first | (simp only; done) | exact True.intro | rfl)
  · simp only
    rw [← List.map_append, ← List.map_append, List.append_assoc, Ck.due_late, Ck.due_late]
  · obtain ⟨x, hx, rfl⟩ := List.mem_map.1 hn
    obtain ⟨h4, h5⟩ := Ck.mem_due hx
    exact ⟨x, h4, rfl, h5⟩
end Go.Proofs.Ytcigodaacdfagaa
