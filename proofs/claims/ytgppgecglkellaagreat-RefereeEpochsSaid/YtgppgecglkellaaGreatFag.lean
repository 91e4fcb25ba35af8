/- What the program keeps of marks, as a list: pure. The program's Marks as a state of the heap; New, Size, newest, beside, Last, Forget. The program's beside and Last; Forget. -/
import Derived.Test.YtgppgecglkellaaGreatFaf
import Derived.Lib.MinMax
namespace Go.Proofs.YtgppgecglkellaaGreat

/-- one mark stands ahead of another, and they do not touch with one version -/
def Ahead (x y : Wr) : Prop := x.s.2 < y.s.1 ∨ (x.s.2 = y.s.1 ∧ x.v ≠ y.v)
theorem Ahead.le {x y : Wr} (h : Ahead x y) : x.s.2 ≤ y.s.1 := by rcases h with h | ⟨h, _⟩ <;> grind
theorem Ahead.of {x y x' y' : Wr} (h : Ahead x y) (h1 : x'.s.2 ≤ x.s.2) (h2 : y.s.1 ≤ y'.s.1) (h3 : x'.v = x.v) (h4 : y'.v = y.v) : Ahead x' y' := by
  unfold Ahead at *
  rcases h with h | ⟨h, hv⟩
  · left; grind
  · by_cases e : x'.s.2 = y'.s.1
    · right; exact ⟨e, by rw [h3, h4]; exact hv⟩
    · left; grind
/-- the list says of all keys above b when they were written last -/
structure Rep (f : K → Int) (b : Int) (L : List Wr) : Prop where
  ne : ∀ x ∈ L, x.s.1 < x.s.2 ∧ b < x.v
  says : ∀ x ∈ L, ∀ k, has x.s k → f k = x.v
  all : ∀ k, b < f k → ∃ x ∈ L, has x.s k
  rise : L.Pairwise Ahead
theorem Rep.pieces {f : K → Int} {b : Int} {L : List Wr} (h : Rep f b L) : Pieces f b L :=
  ⟨h.ne, h.all, h.says, h.rise.imp fun {x y} hxy k h1 h2 => by
    have := hxy.le
    unfold has at h1 h2
    grind⟩
theorem Rep.both {f : K → Int} {b : Int} {L : List Wr} (h : Rep f b L) {x y : Wr} (hx : x ∈ L) (hy : y ∈ L) : x = y ∨ Ahead x y ∨ Ahead y x := by
  obtain ⟨i, hi, rfl⟩ := List.mem_iff_getElem.1 hx
  obtain ⟨j, hj, rfl⟩ := List.mem_iff_getElem.1 hy
  have hp := List.pairwise_iff_getElem.1 h.rise
  rcases Nat.lt_trichotomy i j with hij | hij | hij
  · exact .inr (.inl (hp i j hi hj hij))
  · subst hij; exact .inl rfl
  · exact .inr (.inr (hp j i hj hi hij))
theorem sum_zero (L : List Wr) : (L.map fun _ => (0 : Nat)).sum = 0 := by
  induction L with
  | nil => rfl
  | cons x r ih => rw [List.map_cons, List.sum_cons, ih]
theorem Rep.size {f : K → Int} {b : Int} {L : List Wr} (h : Rep f b L) : SizeIs f b L.length := by
  have h0 : pairsOf L L = 0 := by
    unfold pairsOf
    have : L.map (fun x => (L.filter (touch x)).length) = L.map (fun _ => 0) := by
      refine List.map_congr_left fun x hx => ?_
      rw [List.length_eq_zero_iff, List.filter_eq_nil_iff]
      intro y hy ht
      simp only [touch, Bool.and_eq_true, decide_eq_true_eq] at ht
      have hx1 := (h.ne x hx).1
      have hy1 := (h.ne y hy).1
      rcases h.both hx hy with rfl | ha | ha
      · grind
      · unfold Ahead at ha; grind
      · have := ha.le; grind
    rw [this]
    exact sum_zero L
  have := h.pieces.size.2
  rwa [h0, Nat.sub_zero] at this
theorem Rep.forget {f : K → Int} {b b' : Int} {L : List Wr} (h : Rep f b L) (hb : b ≤ b') : Rep f b' (L.filter fun x => !decide (x.v ≤ b')) := by
  refine ⟨fun x hx => ?_, fun x hx => ?_, fun k hk => ?_, h.rise.sublist List.filter_sublist⟩
  · obtain ⟨h1, h2⟩ := List.mem_filter.1 hx
    exact ⟨(h.ne x h1).1, by simpa using h2⟩
  · exact h.says x (List.mem_filter.1 hx).1
  · obtain ⟨x, hx, hxk⟩ := h.all k (by omega)
    exact ⟨x, List.mem_filter.2 ⟨hx, by have := h.says x hx k hxk; simp; omega⟩, hxk⟩
theorem Rep.nil (f : K → Int) (b : Int) (h : ∀ k, f k ≤ b) : Rep f b [] := ⟨by simp, by simp, fun k hk => by have := h k; omega, .nil⟩

/-! ### the greatest version -/
def imax (n v : Int) : Int := if n < v then v else n
def newestL (b : Int) (L : List Wr) : Int := L.foldl (fun n x => imax n x.v) b
theorem newestL_le : ∀ (L : List Wr) (b c : Int), newestL b L ≤ c ↔ b ≤ c ∧ ∀ x ∈ L, x.v ≤ c
  | [], b, c => by simp [newestL]
  | x :: L, b, c => by
    have := newestL_le L (imax b x.v) c
    unfold newestL at this ⊢
    rw [List.foldl_cons, this]
    unfold imax
    simp only [List.mem_cons, forall_eq_or_imp]
    split <;> constructor <;> rintro ⟨h1, h2⟩
    · exact ⟨by omega, h1, h2⟩
    · exact ⟨h2.1, h2.2⟩
    · exact ⟨h1, by omega, h2⟩
    · exact ⟨h1, h2.2⟩
theorem newestL_take {b : Int} {L : List Wr} {i : Nat} (hi : i < L.length) : newestL b (L.take (i + 1)) = imax (newestL b (L.take i)) L[i].v := by
  rw [List.take_add_one, List.getElem?_eq_getElem hi]
  unfold newestL
  rw [List.foldl_append]
  rfl
/-- what was written above the floor is known by a key of it -/
def Top (m : Mk) : Prop := m.most ≤ m.floor ∨ ∃ k, m.f k = m.most
theorem Rep.newest {m : Mk} {L : List Wr} (h : Rep m.f m.floor L) (hok : m.Ok) (ht : Top m) (v : Int) : v ≤ newestL m.floor L ↔ v ≤ m.floor ∨ v ≤ m.most := by
  have hn : ∀ c, newestL m.floor L ≤ c ↔ m.floor ≤ c ∧ m.most ≤ c ∨ m.floor ≤ c ∧ m.most ≤ c := fun c => by
    rw [newestL_le, or_self]
    constructor
    · rintro ⟨h1, h2⟩
      refine ⟨h1, ?_⟩
      rcases ht with ht | ⟨k, hk⟩
      · omega
      · by_cases hl : m.most ≤ m.floor
        · omega
        · obtain ⟨x, hx, hxk⟩ := h.all k (by omega)
          have := h.says x hx k hxk
          have := h2 x hx
          omega
    · rintro ⟨h1, h2⟩
      refine ⟨h1, fun x hx => ?_⟩
      have := h.says x hx x.s.1 ⟨Std.IsPreorder.le_refl _, (h.ne x hx).1⟩
      have := hok.f x.s.1
      omega
  have := hn (v - 1)
  omega

/-! ### Last -/
/-- the greatest version of those that have keys of a span -/
def lastL (s : K × K) (n : Int) (L : List Wr) : Int := L.foldl (fun n x => if mx s.1 x.s.1 < mn s.2 x.s.2 then imax n x.v else n) n
theorem lastL_take {s : K × K} {n : Int} {L : List Wr} {i : Nat} (hi : i < L.length) : lastL s n (L.take (i + 1)) = if mx s.1 L[i].s.1 < mn s.2 L[i].s.2 then imax (lastL s n (L.take i)) L[i].v else lastL s n (L.take i) := by
  rw [List.take_add_one, List.getElem?_eq_getElem hi]
  unfold lastL
  rw [List.foldl_append]
  rfl
theorem lastL_spec (s : K × K) : ∀ (L : List Wr) (n : Int), n ≤ lastL s n L ∧ (∀ x ∈ L, mx s.1 x.s.1 < mn s.2 x.s.2 → x.v ≤ lastL s n L) ∧ (lastL s n L = n ∨ ∃ x ∈ L, mx s.1 x.s.1 < mn s.2 x.s.2 ∧ x.v = lastL s n L)
  | [], n => ⟨Int.le_refl _, by simp, .inl rfl⟩
  | y :: L, n => by
    have ih := lastL_spec s L (if mx s.1 y.s.1 < mn s.2 y.s.2 then imax n y.v else n)
    have e : lastL s n (y :: L) = lastL s (if mx s.1 y.s.1 < mn s.2 y.s.2 then imax n y.v else n) L := rfl
    rw [e]
    generalize hz : lastL s (if mx s.1 y.s.1 < mn s.2 y.s.2 then imax n y.v else n) L = z at ih ⊢
    obtain ⟨h1, h2, h3⟩ := ih
    by_cases hy : mx s.1 y.s.1 < mn s.2 y.s.2
    · rw [if_pos hy] at h1 h3
      unfold imax at h1 h3
      refine ⟨by split at h1 <;> omega, fun x hx hm => ?_, ?_⟩
      · rcases List.mem_cons.1 hx with rfl | hx
        · split at h1 <;> omega
        · exact h2 x hx hm
      · rcases h3 with h3 | ⟨x, hx, h⟩
        · split at h3
          · exact .inr ⟨y, by simp, hy, h3.symm⟩
          · exact .inl h3
        · exact .inr ⟨x, by simp [hx], h⟩
    · rw [if_neg hy] at h1 h3
      refine ⟨h1, fun x hx hm => ?_, ?_⟩
      · rcases List.mem_cons.1 hx with rfl | hx
        · exact absurd hm hy
        · exact h2 x hx hm
      · rcases h3 with h3 | ⟨x, hx, h⟩
        · exact .inl h3
        · exact .inr ⟨x, by simp [hx], h⟩
/-- the marks between lo and hi are those that a span meets or touches -/
structure Beside (L : List Wr) (s : K × K) (lo hi : Nat) : Prop where
  le : lo ≤ hi
  len : hi ≤ L.length
  below : ∀ x ∈ L.take lo, x.s.2 < s.1
  above : ∀ x ∈ L.drop hi, s.2 < x.s.1
  touch : ∀ x ∈ (L.take hi).drop lo, s.1 ≤ x.s.2 ∧ x.s.1 ≤ s.2
theorem Beside.split {L : List Wr} {s : K × K} {lo hi : Nat} (h : Beside L s lo hi) : L = L.take lo ++ (L.take hi).drop lo ++ L.drop hi := by
  have h1 : L.take lo = (L.take hi).take lo := by rw [List.take_take, Nat.min_eq_left h.le]
  rw [h1, List.take_append_drop, List.take_append_drop]
theorem Beside.mid {L : List Wr} {s : K × K} {lo hi : Nat} (h : Beside L s lo hi) {x : Wr} (hx : x ∈ L) : x ∈ L.take lo ∨ x ∈ (L.take hi).drop lo ∨ x ∈ L.drop hi := by
  rw [h.split, List.mem_append, List.mem_append, or_assoc] at hx
  exact hx
theorem meet_key {a b : K × K} : mx a.1 b.1 < mn a.2 b.2 ↔ ∃ k, has a k ∧ has b k := by
  constructor
  · intro h
    refine ⟨mx a.1 b.1, ?_⟩
    rcases mx_cases a.1 b.1 with ⟨e1, e2⟩ | ⟨e1, e2⟩ <;> rcases mn_cases a.2 b.2 with ⟨e3, e4⟩ | ⟨e3, e4⟩ <;> rw [e2, e4] at h <;> rw [e2] <;> unfold has <;> grind
  · rintro ⟨k, h1, h2⟩
    unfold has at h1 h2
    rcases mx_cases a.1 b.1 with ⟨e1, e2⟩ | ⟨e1, e2⟩ <;> rcases mn_cases a.2 b.2 with ⟨e3, e4⟩ | ⟨e3, e4⟩ <;> rw [e2, e4] <;> grind
theorem Rep.last {m : Mk} {L : List Wr} (h : Rep m.f m.floor L) (hok : m.Ok) {s : K × K} {lo hi : Nat} (hb : Beside L s lo hi) : LastIs m s (lastL s 0 ((L.take hi).drop lo)) := by
  obtain ⟨h1, h2, h3⟩ := lastL_spec s ((L.take hi).drop lo) 0
  generalize lastL s 0 ((L.take hi).drop lo) = z at h1 h2 h3
  have hlow := hok.low
  have key : ∀ k, has s k → m.floor < m.f k → ∃ x ∈ (L.take hi).drop lo, has x.s k := fun k hk hf => by
    obtain ⟨x, hx, hxk⟩ := h.all k hf
    rcases hb.mid hx with hx | hx | hx
    · have := hb.below x hx; unfold has at hk hxk; grind
    · exact ⟨x, hx, hxk⟩
    · have := hb.above x hx; unfold has at hk hxk; grind
  have hin : ∀ x ∈ (L.take hi).drop lo, x ∈ L := fun x hx => by rw [hb.split]; simp [hx]
  have hle : ∀ k, has s k → m.f k ≤ m.floor ∨ m.f k ≤ z := fun k hk => by
    by_cases hf : m.floor < m.f k
    · obtain ⟨x, hx, hxk⟩ := key k hk hf
      right
      rw [h.says x (hin x hx) k hxk]
      exact h2 x hx (meet_key.2 ⟨k, hk, hxk⟩)
    · omega
  rcases h3 with rfl | ⟨x, hx, hm, rfl⟩
  · refine .inl ⟨rfl, fun k hk => ?_⟩
    rcases hle k hk with h | h
    · exact h
    · omega
  · obtain ⟨k, hk, hxk⟩ := meet_key.1 hm
    have hv := (h.ne x (hin x hx)).2
    refine .inr ⟨hv, ⟨k, hk, h.says x (hin x hx) k hxk⟩, fun k hk => ?_⟩
    rcases hle k hk with h | h
    · omega
    · exact h

/-! ### write -/
/-- what write knows when it has gone through the first marks P of those beside s -/
structure WInv (f : K → Int) (s : K × K) (v : Int) (P : List Wr) (x : K × K) (R : List Wr) : Prop where
  keys : ∀ k, has x k ↔ has s k ∨ ∃ y ∈ P, y.v = v ∧ has y.s k
  wide : x.1 ≤ s.1 ∧ s.2 ≤ x.2
  frm : x.1 = s.1 ∨ ∃ y ∈ P, y.v = v ∧ y.s.1 = x.1
  to : x.2 = s.2 ∨ ∃ y ∈ P, y.v = v ∧ y.s.2 = x.2
  rest : ∀ r ∈ R, r.s.1 < r.s.2 ∧ (∃ y ∈ P, y.v ≠ v ∧ r.v = y.v ∧ y.s.1 ≤ r.s.1 ∧ r.s.2 ≤ y.s.2) ∧ ∀ k, has r.s k → ¬ has s k
  all : ∀ y ∈ P, y.v ≠ v → ∀ k, has y.s k → ¬ has s k → ∃ r ∈ R, has r.s k
  rise : R.Pairwise Ahead
theorem WInv.start (f : K → Int) (s : K × K) (v : Int) : WInv f s v [] s [] :=
  ⟨fun k => by simp, ⟨Std.IsPreorder.le_refl _, Std.IsPreorder.le_refl _⟩, .inl rfl, .inl rfl, by simp, by simp, .nil⟩
/-- one of the same version is taken in -/
theorem WInv.same {f : K → Int} {s : K × K} {v : Int} {P : List Wr} {x : K × K} {R : List Wr} {y : Wr} (h : WInv f s v P x R) (hy : y.s.1 < y.s.2) (hv : y.v = v) (h1 : y.s.1 ≤ s.2) (h2 : s.1 ≤ y.s.2) :
    WInv f s v (P ++ [y]) (mn x.1 y.s.1, mx x.2 y.s.2) R := by
  have hw := h.wide
  refine ⟨fun k => ?_, ?_, ?_, ?_, fun r hr => ?_, fun z hz hzv => ?_, h.rise⟩
  · have hk := h.keys k
    have e : (has s k ∨ ∃ z ∈ P ++ [y], z.v = v ∧ has z.s k) ↔ has x k ∨ has y.s k := by
      rw [hk]
      constructor
      · rintro (h | ⟨z, hz, h3, h4⟩)
        · exact .inl (.inl h)
        · rcases List.mem_append.1 hz with hz | hz
          · exact .inl (.inr ⟨z, hz, h3, h4⟩)
          · rw [List.mem_singleton] at hz; subst hz; exact .inr h4
      · rintro ((h | ⟨z, hz, h3, h4⟩) | h)
        · exact .inl h
        · exact .inr ⟨z, by simp [hz], h3, h4⟩
        · exact .inr ⟨y, by simp, hv, h⟩
    rw [e]
    unfold has
    rcases mn_cases x.1 y.s.1 with ⟨e1, e2⟩ | ⟨e1, e2⟩ <;> rcases mx_cases x.2 y.s.2 with ⟨e3, e4⟩ | ⟨e3, e4⟩ <;> simp only [e2, e4] <;> grind
  · rcases mn_cases x.1 y.s.1 with ⟨e1, e2⟩ | ⟨e1, e2⟩ <;> rcases mx_cases x.2 y.s.2 with ⟨e3, e4⟩ | ⟨e3, e4⟩ <;> simp only [e2, e4] <;> grind
  · rcases mn_cases x.1 y.s.1 with ⟨e1, e2⟩ | ⟨e1, e2⟩ <;> simp only [e2]
    · exact .inr ⟨y, by simp, hv, rfl⟩
    · rcases h.frm with h | ⟨z, hz, h⟩
      · exact .inl h
      · exact .inr ⟨z, by simp [hz], h⟩
  · rcases mx_cases x.2 y.s.2 with ⟨e3, e4⟩ | ⟨e3, e4⟩ <;> simp only [e4]
    · exact .inr ⟨y, by simp, hv, rfl⟩
    · rcases h.to with h | ⟨z, hz, h⟩
      · exact .inl h
      · exact .inr ⟨z, by simp [hz], h⟩
  · obtain ⟨h3, ⟨z, hz, h4⟩, h5⟩ := h.rest r hr
    exact ⟨h3, ⟨z, by simp [hz], h4⟩, h5⟩
  · rcases List.mem_append.1 hz with hz | hz
    · exact h.all z hz hzv
    · rw [List.mem_singleton] at hz; subst hz; exact absurd hv hzv
/-- of one of another version its other keys are left -/
theorem WInv.other {f : K → Int} {s : K × K} {v : Int} {P : List Wr} {x : K × K} {R : List Wr} {y : Wr} {W : List (K × K)} (h : WInv f s v P x R) (hv : y.v ≠ v) (ha : ∀ z ∈ P, Ahead z y)
    (hW : Fits W (fun k => has y.s k ∧ ¬ has x k)) : WInv f s v (P ++ [y]) x (R ++ W.map fun u => ⟨u, y.v⟩) := by
  have hsub : ∀ u ∈ W, y.s.1 ≤ u.1 ∧ u.2 ≤ y.s.2 ∧ u.1 < u.2 := fun u hu => by
    have hne := hW.1.ne u hu
    have h1 := (hW.2 u.1).1 ⟨u, hu, Std.IsPreorder.le_refl _, hne⟩
    refine ⟨h1.1.1, ?_, hne⟩
    by_cases hc : u.2 ≤ y.s.2
    · exact hc
    · have h2 := (hW.2 (mx u.1 y.s.2)).1 ⟨u, hu, by rcases mx_cases u.1 y.s.2 with ⟨e1, e2⟩ | ⟨e1, e2⟩ <;> rw [e2] <;> unfold has <;> grind⟩
      rcases mx_cases u.1 y.s.2 with ⟨e1, e2⟩ | ⟨e1, e2⟩ <;> rw [e2] at h2 <;> unfold has at h2 <;> grind
  refine ⟨fun k => ?_, h.wide, ?_, ?_, fun r hr => ?_, fun z hz hzv k hk hns => ?_, ?_⟩
  · rw [h.keys k]
    constructor
    · rintro (h | ⟨z, hz, h3, h4⟩)
      · exact .inl h
      · exact .inr ⟨z, by simp [hz], h3, h4⟩
    · rintro (h | ⟨z, hz, h3, h4⟩)
      · exact .inl h
      · rcases List.mem_append.1 hz with hz | hz
        · exact .inr ⟨z, hz, h3, h4⟩
        · rw [List.mem_singleton] at hz; subst hz; exact absurd h3 hv
  · rcases h.frm with h | ⟨z, hz, h⟩
    · exact .inl h
    · exact .inr ⟨z, by simp [hz], h⟩
  · rcases h.to with h | ⟨z, hz, h⟩
    · exact .inl h
    · exact .inr ⟨z, by simp [hz], h⟩
  · rcases List.mem_append.1 hr with hr | hr
    · obtain ⟨h3, ⟨z, hz, h4⟩, h5⟩ := h.rest r hr
      exact ⟨h3, ⟨z, by simp [hz], h4⟩, h5⟩
    · obtain ⟨u, hu, rfl⟩ := List.mem_map.1 hr
      obtain ⟨h3, h4, h5⟩ := hsub u hu
      refine ⟨h5, ⟨y, by simp, hv, rfl, h3, h4⟩, fun k hk hsk => ?_⟩
      exact ((hW.2 k).1 ⟨u, hu, hk⟩).2 ((h.keys k).2 (.inl hsk))
  · rcases List.mem_append.1 hz with hz | hz
    · obtain ⟨r, hr, hrk⟩ := h.all z hz hzv k hk hns
      exact ⟨r, by simp [hr], hrk⟩
    · rw [List.mem_singleton] at hz
      subst hz
      have hx : ¬ has x k := fun hx => by
        rcases (h.keys k).1 hx with h1 | ⟨u, hu, _, h2⟩
        · exact hns h1
        · have := (ha u hu).le
          unfold has at hk h2
          grind
      obtain ⟨u, hu, huk⟩ := (hW.2 k).2 ⟨hk, hx⟩
      exact ⟨⟨u, z.v⟩, List.mem_append_right _ (List.mem_map.2 ⟨u, hu, rfl⟩), huk⟩
  · refine List.pairwise_append.2 ⟨h.rise, ?_, fun r hr q hq => ?_⟩
    · rw [List.pairwise_map]
      exact (normal_pair hW.1).imp fun h => .inl h
    · obtain ⟨u, hu, rfl⟩ := List.mem_map.1 hq
      obtain ⟨_, ⟨z, hz, h1, h2, h3, h4⟩, _⟩ := h.rest r hr
      exact (ha z hz).of h4 (hsub u hu).1 h2 rfl
/-- what is put in place of them -/
theorem WInv.done {f : K → Int} {b : Int} {L : List Wr} {s : K × K} {v : Int} {lo hi : Nat} {x : K × K} {R S : List Wr} (hL : Rep f b L) (hs : s.1 < s.2) (hbv : b < v) (hb : Beside L s lo hi)
    (h : WInv f s v ((L.take hi).drop lo) x R) (hp : (R ++ [(⟨x, v⟩ : Wr)]).Perm S) (ho : S.Pairwise fun a c => ¬ c.s.1 < a.s.1) :
    Rep (fun k => if has s k then v else f k) b (L.take lo ++ S ++ L.drop hi) := by
  have hin : ∀ y ∈ (L.take hi).drop lo, y ∈ L := fun x hx => by rw [hb.split]; simp [hx]
  have hmem : ∀ r, r ∈ S ↔ r ∈ R ∨ r = ⟨x, v⟩ := fun r => by rw [← hp.mem_iff]; simp
  have hx12 : x.1 < x.2 := by have := h.wide; grind
  -- no key of another version's rest is in x
  have hRx : ∀ r ∈ R, r.v ≠ v ∧ ∀ k, has r.s k → ¬ has x k := fun r hr => by
    obtain ⟨h1, ⟨y, hy, h2, h3, h4, h5⟩, h6⟩ := h.rest r hr
    refine ⟨by rw [h3]; exact h2, fun k hk hx => ?_⟩
    rcases (h.keys k).1 hx with h7 | ⟨z, hz, h7, h8⟩
    · exact h6 k hk h7
    · have e1 := hL.says z (hin z hz) k h8
      have e2 := hL.says y (hin y hy) k (by unfold has at hk ⊢; grind)
      omega
  have hnS : ∀ r ∈ S, r.s.1 < r.s.2 := fun r hr => by
    rcases (hmem r).1 hr with hr | rfl
    · exact (h.rest r hr).1
    · exact hx12
  have hapart : (R ++ [(⟨x, v⟩ : Wr)]).Pairwise fun a c => Ahead a c ∨ Ahead c a := by
    refine List.pairwise_append.2 ⟨h.rise.imp fun h => .inl h, by simp, fun r hr q hq => ?_⟩
    rw [List.mem_singleton] at hq
    subst hq
    obtain ⟨h1, h2⟩ := hRx r hr
    have h3 := (h.rest r hr).1
    unfold Ahead
    by_cases hc : r.s.1 < x.1
    · left
      by_cases hd : r.s.2 ≤ x.1
      · by_cases he : r.s.2 = x.1
        · exact .inr ⟨he, h1⟩
        · left; grind
      · exact absurd (show has x x.1 from ⟨Std.IsPreorder.le_refl _, hx12⟩) (h2 x.1 (by unfold has; grind))
    · right
      by_cases hd : x.2 ≤ r.s.1
      · by_cases he : x.2 = r.s.1
        · exact .inr ⟨he, fun e => h1 e.symm⟩
        · left; grind
      · exact absurd (show has x r.s.1 by unfold has; grind) (h2 r.s.1 (by unfold has; grind))
  have hSrise : S.Pairwise Ahead := by
    have h1 := (hp.pairwise_iff (R := fun a c => Ahead a c ∨ Ahead c a) (fun {a c} h => h.symm)).1 hapart
    refine (h1.and ho).imp_of_mem ?_
    rintro a c ha hc ⟨h2 | h2, h3⟩
    · exact h2
    · have := h2.le
      have := hnS c hc
      have := hnS a ha
      grind
  have hsplit := hL.rise
  rw [hb.split, List.pairwise_append, List.pairwise_append] at hsplit
  obtain ⟨⟨hA, hM, hAM⟩, hD, hAD⟩ := hsplit
  have hlo : ∀ p ∈ L.take lo, ∀ r ∈ S, Ahead p r := fun p hp r hr => by
    have hp1 := hb.below p hp
    rcases (hmem r).1 hr with hr | rfl
    · obtain ⟨h1, ⟨y, hy, h2, h3, h4, h5⟩, h6⟩ := h.rest r hr
      exact (hAM p hp y hy).of (Std.IsPreorder.le_refl _) h4 rfl h3
    · rcases h.frm with e | ⟨y, hy, h2, h3⟩
      · left; rw [e]; exact hp1
      · exact (hAM p hp y hy).of (Std.IsPreorder.le_refl _) (by rw [h3]; exact Std.IsPreorder.le_refl _) rfl h2.symm
  have hhi : ∀ r ∈ S, ∀ q ∈ L.drop hi, Ahead r q := fun r hr q hq => by
    have hq1 := hb.above q hq
    rcases (hmem r).1 hr with hr | rfl
    · obtain ⟨h1, ⟨y, hy, h2, h3, h4, h5⟩, h6⟩ := h.rest r hr
      exact (hAD y (by simp [hy]) q hq).of h5 (Std.IsPreorder.le_refl _) h3 rfl
    · rcases h.to with e | ⟨y, hy, h2, h3⟩
      · left; rw [e]; exact hq1
      · exact (hAD y (by simp [hy]) q hq).of (by rw [h3]; exact Std.IsPreorder.le_refl _) (Std.IsPreorder.le_refl _) h2.symm rfl
  have hinL : ∀ p ∈ L.take lo ++ S ++ L.drop hi, (p ∈ L ∧ ((p.s.2 < s.1) ∨ s.2 < p.s.1)) ∨ p ∈ S := fun p hp => by
    rw [List.mem_append, List.mem_append] at hp
    rcases hp with (hp | hp) | hp
    · exact .inl ⟨List.mem_of_mem_take hp, .inl (hb.below p hp)⟩
    · exact .inr hp
    · exact .inl ⟨List.mem_of_mem_drop hp, .inr (hb.above p hp)⟩
  refine ⟨fun p hp => ?_, fun p hp k hk => ?_, fun k hk => ?_, ?_⟩
  · rcases hinL p hp with ⟨h1, _⟩ | h1
    · exact hL.ne p h1
    · refine ⟨hnS p h1, ?_⟩
      rcases (hmem p).1 h1 with h2 | rfl
      · obtain ⟨_, ⟨y, hy, _, h3, _⟩, _⟩ := h.rest p h2
        rw [h3]
        exact (hL.ne y (hin y hy)).2
      · exact hbv
  · rcases hinL p hp with ⟨h1, h2⟩ | h1
    · have hn : ¬ has s k := by unfold has at hk ⊢; grind
      simp only [if_neg hn]
      exact hL.says p h1 k hk
    · rcases (hmem p).1 h1 with h2 | rfl
      · obtain ⟨_, ⟨y, hy, _, h3, h4, h5⟩, h6⟩ := h.rest p h2
        simp only [if_neg (h6 k hk)]
        rw [h3]
        exact hL.says y (hin y hy) k (by unfold has at hk ⊢; grind)
      · by_cases hsk : has s k
        · simp only [if_pos hsk]
        · simp only [if_neg hsk]
          rcases (h.keys k).1 hk with h2 | ⟨y, hy, h2, h3⟩
          · exact absurd h2 hsk
          · rw [hL.says y (hin y hy) k h3, h2]
  · by_cases hsk : has s k
    · exact ⟨⟨x, v⟩, by simp [(hmem _).2 (.inr rfl)], (h.keys k).2 (.inl hsk)⟩
    · simp only [if_neg hsk] at hk
      obtain ⟨y, hy, hyk⟩ := hL.all k hk
      rcases hb.mid hy with hy | hy | hy
      · exact ⟨y, by simp [hy], hyk⟩
      · by_cases hv : y.v = v
        · exact ⟨⟨x, v⟩, by simp [(hmem _).2 (.inr rfl)], (h.keys k).2 (.inr ⟨y, hy, hv, hyk⟩)⟩
        · obtain ⟨r, hr, hrk⟩ := h.all y hy hv k hyk hsk
          exact ⟨r, by simp [(hmem _).2 (.inl hr)], hrk⟩
      · exact ⟨y, by simp [hy], hyk⟩
  · refine List.pairwise_append.2 ⟨List.pairwise_append.2 ⟨hA, hSrise, hlo⟩, hD, fun p hp q hq => ?_⟩
    rcases List.mem_append.1 hp with hp | hp
    · exact hAD p (by simp [hp]) q hq
    · exact hhi p hp q hq
/-- a write makes at most two marks more -/
theorem write_len {f : K → Int} {b v : Int} {s : K × K} {L L' : List Wr} (h : Rep f b L) (h' : Rep (fun k => if has s k then v else f k) b L') : L'.length ≤ L.length + 2 := by
  obtain ⟨l, hn, e, hl⟩ := h.size
  obtain ⟨l', hn', e', hl'⟩ := h'.size
  have := nodup_len l' (s.1 :: s.2 :: l) hn' (fun k hk => by
    have hst := (hl' k).1 hk
    by_cases e1 : k = s.1
    · simp [e1]
    by_cases e2 : k = s.2
    · simp [e2]
    simp only [List.mem_cons, e1, e2, false_or]
    refine (hl k).2 ?_
    obtain ⟨h1, h2⟩ := hst
    simp only at h1 h2
    by_cases hk : has s k
    · exfalso
      obtain ⟨y, h3, h4, h5⟩ := h2 s.1 (by unfold has at hk; grind)
      rw [if_pos hk, if_pos (show has s y by unfold has at hk ⊢; grind)] at h5
      exact h5 rfl
    · rw [if_neg hk] at h1
      refine ⟨h1, fun j hj => ?_⟩
      by_cases hlt : k < s.1
      · obtain ⟨y, h3, h4, h5⟩ := h2 j hj
        rw [if_neg hk, if_neg (show ¬ has s y by unfold has; grind)] at h5
        exact ⟨y, h3, h4, h5⟩
      · by_cases hgt : s.2 < k
        · obtain ⟨y, h3, h4, h5⟩ := h2 (mx j s.2) (by rcases mx_cases j s.2 with ⟨e1, e2⟩ | ⟨e1, e2⟩ <;> rw [e2] <;> grind)
          have h6 : j ≤ y ∧ s.2 ≤ y := by rcases mx_cases j s.2 with ⟨e1, e2⟩ | ⟨e1, e2⟩ <;> rw [e2] at h3 <;> grind
          rw [if_neg hk, if_neg (show ¬ has s y by unfold has; grind)] at h5
          exact ⟨y, h6.1, h4, h5⟩
        · exact absurd (show has s k by unfold has; grind) hk)
  simp only [List.length_cons] at this
  omega
end Go.Proofs.YtgppgecglkellaaGreat
namespace Go.Proofs.YtgppgecglkellaaGreat
open Go.RowKit
attribute [local go_sem] less_eq same_eq le_eq ge_eq gt_eq

/-- blocks that stood in w and were none of G -/
def Else (w : World) (G : Nat → Prop) : Nat → Prop := fun i => ¬ G i ∧ i < w.heap.size
def I64 (n : Int) : Prop := -9223372036854775808 ≤ n ∧ n < 9223372036854775808
/-- what is read of the program's marks at block q -/
def PmRd (w : World) (q : Nat) (floor : Int) (L : List Wr) : Prop :=
  ∃ A cap, Whole w q 70 [.int .i64 floor, .slice A L.length cap] ∧ RdW w w.heap.size (.slice A L.length cap) L ∧ ((A = none ∧ cap = 0 ∧ L = []) ∨ ∃ g, A = some ⟨g, 0, none⟩)
/-- the program's marks at block q, in row ov -/
structure PmL (w : World) (base q : Nat) (ov : Option Nat) (floor : Int) (L : List Wr) : Prop where
  blk : ∃ A cap, Whole w q 70 [.int .i64 floor, .slice A L.length cap] ∧ OwnMk w base (.slice A L.length cap) L ∧ Value.ownBlock (.slice A L.length cap) = ov
  low : base ≤ q ∧ base ≤ w.heap.size
def PmD (q : Nat) (ov : Option Nat) : Nat → Prop := fun i => i = q ∨ some i = ov
theorem Own.apartM {α β : Type} {enc : α → List Value} {k : Nat} {e : TypeId} {enc' : β → List Value} {k' : Nat} {e' : TypeId} {w : World} {base base' : Nat} {v v' : Value} {l : List α} {l' : List β} (h : Own enc k e w base v l) (h' : Own enc' k' e' w base' v' l') (hne : e ≠ e') {g : Nat} (hg : v.ownBlock = some g) : v'.ownBlock ≠ some g := by
  rcases h.row with ⟨rfl, _⟩ | ⟨g2, cap, cur, rfl, hb, hW, _⟩
  · cases hg
  · have e1 : g2 = g := by simpa [Value.ownBlock] using hg
    subst e1
    exact fun e2 => Own.apart h' hW (fun e => hne e.symm) e2.symm
section
variable {w w' : World} {base q : Nat} {ov : Option Nat} {D : Nat → Prop} {n : Nat} {m : Mk} {floor : Int} {L : List Wr}
theorem PmRd.next (h : PmRd w q floor L) (hb : Below w.heap.size w w') : PmRd w' q floor L := by
  obtain ⟨A, cap, hw, hr, hf⟩ := h
  exact ⟨A, cap, hw.below hb hw.size, hr.next hb, hf⟩
theorem PmL.rd (h : PmL w base q ov floor L) : PmRd w q floor L := by
  obtain ⟨A, cap, hw, ho, hv⟩ := h.blk
  refine ⟨A, cap, hw, Own.rd encW_len ho, ?_⟩
  rcases ho.form with ⟨e, h0⟩ | ⟨g, c, e, _⟩
  · injection e with e1 e2 e3
    exact .inl ⟨e1, e3, h0⟩
  · injection e with e1 e2 e3
    exact .inr ⟨g, e1⟩
theorem PmL.size (h : PmL w base q ov floor L) : q < w.heap.size := by
  obtain ⟨A, cap, hw, _⟩ := h.blk
  exact hw.size
theorem PmL.row (h : PmL w base q ov floor L) {g : Nat} (hg : ov = some g) : base ≤ g ∧ g < w.heap.size := by
  obtain ⟨A, cap, hw, ho, hv⟩ := h.blk
  exact ho.low (hv.trans hg)
theorem PmL.mv (h : PmL w base q ov floor L) (hm : Mv D w w') (h1 : ¬ D q) (h2 : ∀ g, ov = some g → ¬ D g) : PmL w' base q ov floor L := by
  obtain ⟨A, cap, hw, ho, hv⟩ := h.blk
  exact ⟨⟨A, cap, hm.whole hw h1, ho.mvG hm (fun g hg => h2 g (hv ▸ hg)), hv⟩, ⟨h.low.1, Nat.le_trans h.low.2 hm.size⟩⟩
theorem PmL.new (h : PmL w base q ov floor L) (hb : Below w.heap.size w w') : PmL w' base q ov floor L :=
  h.mv (D := fun i => w.heap.size ≤ i) (Mv.of_below hb) (fun e => by have := h.size; omega) (fun g hg e => by have := (h.row hg).2; omega)
/-- what grows an own slice of another type leaves it -/
theorem PmL.grown {α : Type} {enc : α → List Value} {k : Nat} {e : TypeId} {base' : Nat} {v : Value} {l : List α} (h : PmL w base q ov floor L) (ho : Own enc k e w base' v l) (h1 : e ≠ 70) (h2 : e ≠ 77) (hg : w.grownBy w' v.ownBlock) : PmL w' base q ov floor L := by
  obtain ⟨A, cap, hw, hown, hv⟩ := h.blk
  refine h.mv (Mv.of_grown hg) (fun e => Own.apart ho hw h1 e) (fun g hg' e => ?_)
  exact Own.apartM ho hown h2 e.symm (hv.trans hg')
/-- an own slice of another type stays while these are written -/
theorem PmL.keeps {α : Type} {enc : α → List Value} {k : Nat} {e : TypeId} {base' : Nat} {v : Value} {l : List α} (h : PmL w base q ov floor L) (ho : Own enc k e w base' v l) (h1 : e ≠ 70) (h2 : e ≠ 77) (hm : Mv (PmD q ov) w w') : Own enc k e w' base' v l := by
  obtain ⟨A, cap, hw, hown, hv⟩ := h.blk
  refine ho.mvG hm (fun g hg => ?_)
  rintro (rfl | hi)
  · exact Own.apart ho hw h1 hg.symm
  · exact Own.apartM ho hown h2 hg (hv.trans hi.symm)
end
/-- what calls that write leave -/
structure PmW (w w' : World) (base q : Nat) (ov : Option Nat) (floor : Int) (L : List Wr) (ov' : Option Nat) : Prop where
  now : PmL w' base q ov' floor L
  moved : Mv (PmD q ov) w w'
  new : NewRow w ov ov'
theorem PmW.refl {w : World} {base q : Nat} {ov : Option Nat} {floor : Int} {L : List Wr} (h : PmL w base q ov floor L) : PmW w w base q ov floor L ov := ⟨h, Mv.refl _ _, fun _ h => .inl h⟩
theorem PmW.trans {w w' w2 : World} {base q : Nat} {ov ov' ov2 : Option Nat} {floor floor' : Int} {L L' : List Wr} (h : PmW w w' base q ov floor L ov') (h2 : PmW w' w2 base q ov' floor' L' ov2) : PmW w w2 base q ov floor' L' ov2 :=
  ⟨h2.now, h.moved.trans h2.moved (fun i hi hd => by
    rcases hd with rfl | hd
    · exact .inl rfl
    · rcases h.new i hd.symm with h3 | h3
      · exact .inr h3.symm
      · omega), h.new.trans h2.new h.moved.size⟩
theorem PmW.after {w w' w2 : World} {base q : Nat} {ov ov' : Option Nat} {floor : Int} {L : List Wr} (h : PmW w w' base q ov floor L ov') (hb : Below w'.heap.size w' w2) : PmW w w2 base q ov floor L ov' :=
  ⟨h.now.new hb, h.moved.trans (Mv.of_below hb) (fun i hi hd => by have := h.moved.size; omega), h.new⟩
/-- the slice stored anew, behind new blocks -/
theorem PmL.store {w wf w4 : World} {base q n4 : Nat} {ov : Option Nat} {floor : Int} {L L2 : List Wr} {A4 : Option Addr} {c4 : Nat} (h : PmL w base q ov floor L) (hF : Below w.heap.size w wf) (hg : wf.grownBy w4 ov) (hn : n4 = L2.length) (ho : OwnMk w4 base (.slice A4 n4 c4) L2) (hnew : NewRow wf ov (Value.ownBlock (.slice A4 n4 c4))) :
    PmW w (w4.setCell ⟨q, 1, none⟩ (.slice A4 n4 c4)) base q ov floor L2 (Value.ownBlock (.slice A4 n4 c4)) ∧ (∃ u, w4.cell? ⟨q, 1, none⟩ = some u) ∧ w4.frozen? ⟨q, 1, none⟩ = false ∧ w4.cell? ⟨q, 0, none⟩ = some (.int .i64 floor) := by
  subst hn
  obtain ⟨A, cap, hw, hown, hv⟩ := h.blk
  have hov : ov ≠ some q := fun e => Own.apart hown hw (by decide) (by rw [hv, e])
  have h1 : Mv (PmD q ov) w w4 := (Mv.of_new hF (PmD q ov)).trans (Mv.of_grown hg) (fun i _ e => .inr e)
  have h2 : Mv (PmD q ov) w (w4.setCell ⟨q, 1, none⟩ (.slice A4 L2.length c4)) := h1.setCell (p := ⟨q, 1, none⟩) (fun _ => .inl rfl) _
  have hw4 : Whole w4 q 70 _ := (Mv.of_grown hg).whole (hw.below hF hw.size) (fun e => hov e.symm)
  have hr4 : Mv (fun i => i = q) w4 (w4.setCell ⟨q, 1, none⟩ (.slice A4 L2.length c4)) := (Mv.refl (fun i => i = q) w4).setCell (p := ⟨q, 1, none⟩) (fun _ => rfl) _
  refine ⟨⟨⟨⟨A4, c4, hw4.put 1 _, ho.mvG hr4 (fun g hg e => Own.apart ho hw4 (by decide) (by rw [hg, e])), rfl⟩, ⟨h.low.1, Nat.le_trans h.low.2 h2.size⟩⟩, h2, fun g hg => ?_⟩, ⟨_, hw4.cell 1 _ rfl⟩, hw4.frozen 1, hw4.cell 0 _ rfl⟩
  rcases hnew g hg with h3 | h3
  · exact .inl h3
  · exact .inr (Nat.le_trans hF.size h3)
/-- the floor stored anew -/
theorem PmW.floor {w w' : World} {base q : Nat} {ov ov' : Option Nat} {floor : Int} {L : List Wr} (h : PmW w w' base q ov floor L ov') (v : Int) :
    PmW w (w'.setCell ⟨q, 0, none⟩ (.int .i64 v)) base q ov v L ov' ∧ (∃ u, w'.cell? ⟨q, 0, none⟩ = some u) ∧ w'.frozen? ⟨q, 0, none⟩ = false := by
  obtain ⟨A, cap, hw, hown, hv⟩ := h.now.blk
  have h2 : Mv (PmD q ov) w (w'.setCell ⟨q, 0, none⟩ (.int .i64 v)) := h.moved.setCell (p := ⟨q, 0, none⟩) (fun _ => .inl rfl) _
  have hr4 : Mv (fun i => i = q) w' (w'.setCell ⟨q, 0, none⟩ (.int .i64 v)) := (Mv.refl (fun i => i = q) w').setCell (p := ⟨q, 0, none⟩) (fun _ => rfl) _
  exact ⟨⟨⟨⟨A, cap, hw.put 0 _, hown.mvG hr4 (fun g hg e => Own.apart hown hw (by decide) (by rw [hg, e])), hv⟩, ⟨h.now.low.1, Nat.le_trans h.now.low.2 hr4.size⟩⟩, h2, h.new⟩, ⟨_, hw.cell 0 _ rfl⟩, hw.frozen 0⟩
/-- the marks at block q; their blocks are G; n transactions were judged -/
def MkAt (w : World) (base q : Nat) (G : Nat → Prop) (n : Nat) (m : Mk) : Prop :=
  ∃ ov L, PmL w base q ov m.floor L ∧ G = PmD q ov ∧ Rep m.f m.floor L ∧ Top m ∧ L.length ≤ 48 * n ∧ m.Ok ∧ n ≤ 64
section
variable {w w' : World} {base q n : Nat} {G : Nat → Prop} {m : Mk}
theorem MkAt.low (h : MkAt w base q G n m) : base ≤ w.heap.size ∧ ∀ i, G i → base ≤ i ∧ i < w.heap.size := by
  obtain ⟨ov, L, h1, rfl, _⟩ := h
  refine ⟨h1.low.2, fun i hi => ?_⟩
  rcases hi with rfl | hi
  · exact ⟨h1.low.1, h1.size⟩
  · exact h1.row hi.symm
theorem MkAt.mv {D : Nat → Prop} (h : MkAt w base q G n m) (hm : Mv D w w') (hn : ∀ i, G i → ¬ D i) : MkAt w' base q G n m := by
  obtain ⟨ov, L, h1, rfl, h2⟩ := h
  exact ⟨ov, L, h1.mv hm (hn q (.inl rfl)) (fun g hg => hn g (.inr hg.symm)), rfl, h2⟩
theorem MkAt.ok (h : MkAt w base q G n m) : m.Ok := by
  obtain ⟨ov, L, _, _, _, _, _, h, _⟩ := h
  exact h
end

set_option maxHeartbeats 1000000 in
set_option maxRecDepth 100000 in
theorem mknew_any (v : Int) (hv : I64 v) (w : World) :
    Calls Tryz.prog 15 #[.int .i64 v] w fun e w' => ∃ q G, e = .returned (.pointer (some ⟨q, 0, none⟩)) ∧ MkAt w' w.heap.size q G 0 (mnew v) ∧ Below w.heap.size w w' := by
  have hok := Mk.Ok.new hv.2
  go_enter Tryz.func15, Tryz.ntmps15
  go_wp2_with fail
  go_ret
  refine ⟨w.heap.size, _, rfl, ⟨none, [], ⟨⟨none, 0, ?_, Own.nil _ _, rfl⟩, Nat.le_refl _, by simp⟩, rfl, Rep.nil _ _ (fun k => hok.low), ?_, by simp, hok, by omega⟩, (Below.refl _ _).alloc (Nat.le_refl _) _⟩
  · have := Whole.fresh w 70 [.int .i64 (mnew v).floor, .slice none 0 0]
    have e : (mnew v).floor = max v 0 := by unfold mnew; simp only; split <;> omega
    rw [e] at this ⊢
    exact this
  · left
    exact hok.low
theorem mknone_judge (v : Int) (vv : Value) (w : World) : Calls Tryz.prog 17 #[.pointer none, .int .i64 v, vv] w fun e w' => ∃ A c, e = .returned (.tuple #[.slice A 0 c, .int .i64 1]) ∧ Below w.heap.size w w' := by
  go_enter Tryz.func17, Tryz.ntmps17
  go_wp2_with fail
  go_ret2
  exact ⟨_, _, rfl, Below.refl _ _⟩
set_option maxHeartbeats 1000000 in
set_option maxRecDepth 100000 in
theorem mknone_last (s : K × K) (w : World) : Calls Tryz.prog 32 #[.pointer none, .agg #[.string s.1, .string s.2]] w fun e w' => e = .returned (.tuple #[.int .i64 0, .bool false]) ∧ Below w.heap.size w w' := by
  go_enter Tryz.func32, Tryz.ntmps32
  go_wp2_with fail
  go_ret2
  exact ⟨rfl, (Below.refl _ _).alloc (Nat.le_refl _) _⟩
theorem mknone_forget (v : Int) (w : World) : Calls Tryz.prog 18 #[.pointer none, .int .i64 v] w fun e w' => e = .returned (.int .i64 1) ∧ Below w.heap.size w w' := by
  go_enter Tryz.func18, Tryz.ntmps18
  go_wp2_with fail
  go_ret
  exact ⟨rfl, (Below.refl _ _).alloc (Nat.le_refl _) _⟩
set_option maxHeartbeats 2000000 in
set_option maxRecDepth 100000 in
theorem newest_any (q : Nat) (floor : Int) (L : List Wr) (w : World) (h : PmRd w q floor L) (hl : L.length ≤ 1000000) :
    Calls Tryz.prog 22 #[.pointer (some ⟨q, 0, none⟩)] w fun e w' => e = .returned (.int .i64 (newestL floor L)) ∧ Below w.heap.size w w' := by
  obtain ⟨A, cap, hw, hr, _⟩ := h
  obtain ⟨A', c', e, hc, hi⟩ := hr.at
  injection e with e1 e2 e3
  subst e1 e3
  have c0 := hw.cell 0 _ rfl
  have c1 := hw.cell 1 _ rfl
  have hlt := hw.size
  clear hw hr
  have HI := Lib.hid hi; clear hi e2
  obtain ⟨R, hR⟩ : ∃ R, R = newestL floor L := ⟨_, rfl⟩
  rw [← hR]
  have HR := Lib.hid hR; clear hR
  obtain ⟨g, hg⟩ : ∃ g, g = w.heap.size := ⟨_, rfl⟩
  have HG := Lib.hid hg; clear hg
  go_enter Tryz.func22, Tryz.ntmps22
  go_wp2_with fail
  go_loopw [3, 15] (fun nv iv wr => ∃ (i : Nat) (z : Int), i ≤ L.length ∧ iv = .int .i64 i ∧ nv = .int .i64 z ∧ Hid (z = newestL floor (L.take i)) ∧ Hid (Below g w wr)) (fun _ iv _ => L.length - (intOf iv).toNat)
  case atStart => exact ⟨0, floor, Nat.zero_le _, rfl, rfl, Lib.hid rfl, Lib.hid (Below.refl _ _)⟩
  case round =>
    obtain ⟨i, z, hil, rfl, rfl, HZ, HB⟩ := hrel
    by_cases hlt2 : i < L.length
    · obtain ⟨b, o, rfl, hbB, k0, k1, k2⟩ := HI.out i hlt2
      rw [← HB.out.cell (p := ⟨b, _, none⟩) (by rw [HG.out]; exact hbB)] at k0
      rw [← HB.out.cell (p := ⟨b, _, none⟩) (by rw [HG.out]; exact hbB)] at k1
      rw [← HB.out.cell (p := ⟨b, _, none⟩) (by rw [HG.out]; exact hbB)] at k2
      have hz2 : max z L[i].v = newestL floor (L.take (i + 1)) := by
        rw [newestL_take hlt2, ← HZ.out]; unfold imax; split <;> omega
      have HZ2 := Lib.hid hz2; clear hz2
      generalize L[i] = x at k0 k1 k2 HZ2
      obtain ⟨⟨x1, x2⟩, xv⟩ := x
      simp only at k0 k1 k2 HZ2
      have HB2 := Lib.hid (show Below g w (wr.alloc (.cells #[.string x1, .string x2, .int .i64 xv] 77)) from HB.out.alloc (by rw [HG.out]; exact HB.out.size) _)
      clear c0 c1
      go_wp2_with fail
      go_roundw
      case rel => exact ⟨i + 1, _, by omega, by go_num, rfl, Lib.hid HZ2.out, HB2⟩
      case measure => simp [intOf]; omega
    · have hz2 : z = R := by rw [HR.out, HZ.out, List.take_of_length_le (by omega)]
      have HZ2 := Lib.hid hz2; clear hz2
      clear c0 c1
      go_wp2_with fail
      go_ret
      exact ⟨by rw [HZ2.out]; rfl, by have h := HB.out; rwa [HG.out] at h⟩
end Go.Proofs.YtgppgecglkellaaGreat
namespace Go.Proofs.YtgppgecglkellaaGreat
open Go.RowKit
attribute [local go_sem] less_eq same_eq le_eq ge_eq gt_eq

theorem Rep.froms {f : K → Int} {b : Int} {L : List Wr} (h : Rep f b L) : L.Pairwise fun x y => x.s.1 < y.s.1 :=
  h.rise.imp_of_mem fun {x y} hx hy hxy => by have := (h.ne x hx).1; have := hxy.le; grind
theorem Rep.tos {f : K → Int} {b : Int} {L : List Wr} (h : Rep f b L) : L.Pairwise fun x y => x.s.2 < y.s.2 :=
  h.rise.imp_of_mem fun {x y} hx hy hxy => by have := (h.ne y hy).1; have := hxy.le; grind
theorem beside_of {f : K → Int} {b : Int} {L : List Wr} (h : Rep f b L) {s : K × K} (hs : s.1 < s.2) {i j : Nat} {t : Bool} (hi : i ≤ L.length) (h1 : ∀ k (_ : k < L.length), k < i → L[k].s.2 < s.1) (h2 : ∀ k (_ : k < L.length), i ≤ k → ¬ L[k].s.2 < s.1)
    (hj : j ≤ L.length) (h3 : ∀ k (_ : k < L.length), k < j → L[k].s.1 < s.2) (h4 : ∀ k (_ : k < L.length), j ≤ k → ¬ L[k].s.1 < s.2) (ht : t = true ↔ ∃ h : j < L.length, L[j].s.1 = s.2) : Beside L s i (j + if t then 1 else 0) := by
  have hf := List.pairwise_iff_getElem.1 h.froms
  have hij : i ≤ j := by
    rcases Nat.lt_or_ge j i with hlt | hge
    · have hjl : j < L.length := by omega
      have e1 := h1 j hjl hlt
      have e2 := h4 j hjl (Nat.le_refl _)
      have e3 := (h.ne _ (List.getElem_mem hjl)).1
      grind
    · exact hge
  have hle : j + (if t then 1 else 0) ≤ L.length := by
    cases t with
    | true => obtain ⟨h, _⟩ := ht.1 rfl; simp only [if_true]; omega
    | false => simpa using hj
  refine ⟨by omega, hle, fun x hx => ?_, fun x hx => ?_, fun x hx => ?_⟩
  · obtain ⟨k, hk, rfl⟩ := List.mem_take_iff_getElem.1 hx
    exact h1 k (by omega) (by omega)
  · obtain ⟨k, hk, rfl⟩ := List.mem_drop_iff_getElem.1 hx
    cases t with
    | true =>
      obtain ⟨hj1, e⟩ := ht.1 rfl
      simp only [if_true] at hk ⊢
      have := hf j (j + 1 + k) hj1 (by omega) (by omega)
      rw [e] at this
      have e9 : L[j + 1 + k] = L[j + 1 + k] := rfl
      simpa [Nat.add_assoc] using this
    | false =>
      have hk' : j + k < L.length := by simp only [Bool.false_eq_true, if_false] at hk; omega
      have e1 := h4 (j + k) hk' (by omega)
      have e2 : L[j + k].s.1 ≠ s.2 := fun e => by
        by_cases hk0 : k = 0
        · subst hk0
          exact Bool.false_ne_true (ht.2 ⟨by omega, by simpa using e⟩)
        · have := hf j (j + k) (by omega) hk' (by omega)
          rw [e] at this
          exact h4 j (by omega) (Nat.le_refl _) this
      have e3 : s.2 < L[j + k].s.1 := by grind
      simpa using e3
  · obtain ⟨k, hk, rfl⟩ := List.mem_drop_iff_getElem.1 hx
    rw [List.length_take] at hk
    have hkl : i + k < L.length := by omega
    have e0 : (L.take (j + if t then 1 else 0))[i + k]'(by rw [List.length_take]; omega) = L[i + k] := by simp
    rw [e0]
    refine ⟨by have := h2 (i + k) hkl (by omega); grind, ?_⟩
    by_cases hkj : i + k < j
    · have := h3 (i + k) hkl hkj; grind
    · cases t with
      | true =>
        obtain ⟨hj1, e⟩ := ht.1 rfl
        simp only [if_true] at hk
        have e9 : i + k = j := by omega
        have e8 : L[i + k].s.1 = s.2 := by simp only [e9]; exact e
        grind
      | false => simp only [Bool.false_eq_true, if_false] at hk; omega

set_option maxHeartbeats 4000000 in
set_option maxRecDepth 100000 in
theorem beside_any (q : Nat) (floor : Int) (L : List Wr) (s : K × K) (f : K → Int) (b : Int) (w : World) (h : PmRd w q floor L) (hrep : Rep f b L) (hs : s.1 < s.2) (hl : L.length ≤ 1000000) :
    Calls Tryz.prog 44 #[.pointer (some ⟨q, 0, none⟩), .agg #[.string s.1, .string s.2]] w fun e w' => ∃ lo hi : Nat, e = .returned (.tuple #[.int .i64 lo, .int .i64 hi]) ∧ Beside L s lo hi ∧ Below w.heap.size w w' := by
  obtain ⟨A, cap, hw, hr, _⟩ := h
  obtain ⟨W1, hW1⟩ : ∃ W1, W1 = w.alloc (.cells #[.string s.1, .string s.2] 52) := ⟨_, rfl⟩
  have hB1 : Below w.heap.size w W1 := by rw [hW1]; exact (Below.refl _ w).alloc (Nat.le_refl _) _
  have hs1 : W1.heap.size = w.heap.size + 1 := by rw [hW1]; simp
  have hsp : Whole W1 w.heap.size 52 [.string s.1, .string s.2] := by rw [hW1]; exact Whole.fresh w _ [_, _]
  have hq1 : Whole W1 q 70 [.int .i64 floor, .slice A L.length cap] := hw.below hB1 hw.size
  have hr1 := hr.next hB1
  have hcells : ∀ X, Below W1.heap.size W1 X → X.cell? ⟨q, 1, none⟩ = some (.slice A L.length cap) ∧ X.cell? ⟨w.heap.size, 0, none⟩ = some (.string s.1) ∧ X.cell? ⟨w.heap.size, 1, none⟩ = some (.string s.2) := fun X hX =>
    ⟨(hq1.below hX hq1.size).cell 1 _ rfl, (hsp.below hX hsp.size).cell 0 _ rfl, (hsp.below hX hsp.size).cell 1 _ rfl⟩
  have hc1 := fun W (hW : Below W1.heap.size W1 W) => bsearch1_any L hrep.tos s.1 (.slice A L.length cap) W (hr1.next hW) (by omega)
  have hc2 := fun W (hW : Below W1.heap.size W1 W) => bsearch2_any L hrep.froms s.2 (.slice A L.length cap) W (hr1.next hW) (by omega)
  have hof := fun i j t (a1 : i ≤ L.length) a2 a3 (a4 : j ≤ L.length) a5 a6 a7 => beside_of (i := i) (j := j) (t := t) hrep hs a1 a2 a3 a4 a5 a6 a7
  have HC1 := Lib.hid hc1; clear hc1
  have HC2 := Lib.hid hc2; clear hc2
  have HOF := Lib.hid hof; clear hof
  have HCE := Lib.hid hcells; clear hcells
  have HB1 := Lib.hid hB1; clear hB1
  have hwz : w.heap.size < W1.heap.size := by omega
  clear hw hr hsp hq1 hr1 hrep
  go_enter Tryz.func44, Tryz.ntmps44
  have HW1 := Lib.hid hW1; clear hW1 hwz hs1
  go_wp2_with fail
  rw [← HW1.out]
  obtain ⟨z, hz⟩ : ∃ z, z = w.heap.size := ⟨_, rfl⟩
  rw [← hz] at HCE ⊢
  have HZ := Lib.hid hz; clear hz
  refine wp_region_planB [(true, 0), (true, 1), (true, 2), (true, 3), (true, 4), (true, 5), (false, 6), (true, 7), (true, 8), (true, 9), (true, 10)] (by kernel_rfl) (by kernel_rfl) (fun _ _ d _ _ h => by cases d <;> exact h) ?_
  have hd1 : Below W1.heap.size W1 W1.drew := (Below.refl _ _).drew
  iterate 6 (refine PlanB.take (v := ?_) rfl rfl ?_ ?_; rotate_left; (focus (intro X hX; obtain ⟨k0, k1, k2⟩ := HCE.out X (hd1.trans hX); go_simp; (try with_reducible rfl); done)); (try simp only [Act.put, List.setIfInBounds_toArray, List.set_cons_zero, List.set_cons_succ]))
  refine PlanB.step rfl rfl (fun Kk hKk => ?_)
  go_simp
  refine (HC1.out W1.drew hd1).mono ?_
  rintro e W2 ⟨i, hi, p1, p2, t1, rfl, _, hb2⟩
  refine hKk.out _ _ hb2 ?_
  clear hKk Kk
  have hd2 : Below W1.heap.size W1 W2 := hd1.trans hb2
  have P1 := Lib.hid p1; clear p1
  have P2 := Lib.hid p2; clear p2
  (try simp only [Act.put, List.setIfInBounds_toArray, List.set_cons_zero, List.set_cons_succ])
  repeat (refine PlanB.take (v := ?_) rfl rfl ?_ ?_; rotate_left; (focus (intro X hX; go_simp; (try with_reducible rfl); done)); (try simp only [Act.put, List.setIfInBounds_toArray, List.set_cons_zero, List.set_cons_succ]))
  simp only [PlanB]
  have HD2 := Lib.hid hd2; clear hd2 hb2 hd1
  go_wp2_with fail
  refine wp_region_planB [(true, 0), (true, 1), (true, 2), (true, 3), (true, 4), (true, 5), (false, 6), (true, 7), (true, 8), (true, 9), (true, 10), (true, 11)] (by kernel_rfl) (by kernel_rfl) (fun _ _ d _ _ h => by cases d <;> exact h) ?_
  have hd3 : Below W1.heap.size W1 W2.drew := HD2.out.drew
  iterate 6 (refine PlanB.take (v := ?_) rfl rfl ?_ ?_; rotate_left; (focus (intro X hX; obtain ⟨k0, k1, k2⟩ := HCE.out X (hd3.trans (hX.mono hd3.size)); go_simp; (try with_reducible rfl); done)); (try simp only [Act.put, List.setIfInBounds_toArray, List.set_cons_zero, List.set_cons_succ]))
  refine PlanB.step rfl rfl (fun Kk hKk => ?_)
  go_simp
  refine (HC2.out W2.drew hd3).mono ?_
  rintro e W3 ⟨j, hj, p3, p4, t2, rfl, p5, hb3⟩
  refine hKk.out _ _ hb3 ?_
  clear hKk Kk
  have hd4 : Below W1.heap.size W1 W3 := hd3.trans (hb3.mono hd3.size)
  have HFIN := Lib.hid (HOF.out i j t2 hi P1.out P2.out hj p3 p4 p5)
  (try simp only [Act.put, List.setIfInBounds_toArray, List.set_cons_zero, List.set_cons_succ])
  repeat (refine PlanB.take (v := ?_) rfl rfl ?_ ?_; rotate_left; (focus (intro X hX; go_simp; (try with_reducible rfl); done)); (try simp only [Act.put, List.setIfInBounds_toArray, List.set_cons_zero, List.set_cons_succ]))
  simp only [PlanB]
  have HD4 := Lib.hid (show Below w.heap.size w W3 from HB1.out.trans (hd4.mono HB1.out.size))
  clear hd4 hb3 hd3 p3 p4 p5
  cases t2 with
  | true =>
    have hw1 : IntKind.i64.wrap ((j : Int) + 1) = ((j + 1 : Nat) : Int) := by rw [IntKind.wrap_i64]; omega
    go_wp2_with fail
    go_ret2
    exact ⟨i, j + 1, rfl, HFIN.out, HD4.out⟩
  | false =>
    go_wp2_with fail
    go_ret2
    exact ⟨i, j, rfl, HFIN.out, HD4.out⟩
end Go.Proofs.YtgppgecglkellaaGreat
