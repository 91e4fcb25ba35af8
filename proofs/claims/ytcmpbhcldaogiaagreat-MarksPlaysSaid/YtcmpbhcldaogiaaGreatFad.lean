/- What the program keeps of marks, as a list: pure. The program's Marks as a state of the heap; New, Size, newest, beside, Last, Forget. The program's beside and Last; Forget. The program's Last and Forget. The spans that have keys, sorted by where they begin: what span.rising answers. The program's marks sorted. slices.Insert of one mark into a slice of the call's own. -/
import Derived.Test.YtcmpbhcldaogiaaGreatFac
import Derived.Test.YtcmpbhcldaogiaaGreatFaa
import Derived.Test.YtcmpbhcldaogiaaGreatSort
import Derived.Test.YtcmpbhcldaogiaaGreatSortM
import Derived.Lib.MinMax
import Derived.Laws.Externs
namespace Go.Proofs.YtcmpbhcldaogiaaGreat

/-- one mark stands ahead of another, and they do not touch with one version -/
def Ahead (x y : Wr) : Prop := x.s.2 < y.s.1 ∨ (x.s.2 = y.s.1 ∧ x.v ≠ y.v)
theorem Ahead.le {x y : Wr} (h : Ahead x y) : x.s.2 ≤ y.s.1 := by rcases h with h | ⟨h, _⟩ <;> grind
theorem Ahead.of {x y x' y' : Wr} (h : Ahead x y) (h1 : x'.s.2 ≤ x.s.2) (h2 : y.s.1 ≤ y'.s.1) (h3 : x'.v = x.v) (h4 : y'.v = y.v) : Ahead x' y' := by
  unfold Ahead at *
  rcases h with h | ⟨h, hv⟩
  · left; grind
  · by_cases e : x'.s.2 = y'.s.1
    · right; exact ⟨e, by rw [h3, h4]; exact hv⟩
    · left; grind
/-- the list says of all keys above b when they were written last -/
structure Rep (f : K → Int) (b : Int) (L : List Wr) : Prop where
  ne : ∀ x ∈ L, x.s.1 < x.s.2 ∧ b < x.v
  says : ∀ x ∈ L, ∀ k, has x.s k → f k = x.v
  all : ∀ k, b < f k → ∃ x ∈ L, has x.s k
  rise : L.Pairwise Ahead
theorem Rep.pieces {f : K → Int} {b : Int} {L : List Wr} (h : Rep f b L) : Pieces f b L :=
  ⟨h.ne, h.all, h.says, h.rise.imp fun {x y} hxy k h1 h2 => by
    have := hxy.le
    unfold has at h1 h2
    grind⟩
theorem Rep.both {f : K → Int} {b : Int} {L : List Wr} (h : Rep f b L) {x y : Wr} (hx : x ∈ L) (hy : y ∈ L) : x = y ∨ Ahead x y ∨ Ahead y x := by
  obtain ⟨i, hi, rfl⟩ := List.mem_iff_getElem.1 hx
  obtain ⟨j, hj, rfl⟩ := List.mem_iff_getElem.1 hy
  have hp := List.pairwise_iff_getElem.1 h.rise
  rcases Nat.lt_trichotomy i j with hij | hij | hij
  · exact .inr (.inl (hp i j hi hj hij))
  · subst hij; exact .inl rfl
  · exact .inr (.inr (hp j i hj hi hij))
theorem sum_zero (L : List Wr) : (L.map fun _ => (0 : Nat)).sum = 0 := by
  induction L with
  | nil => rfl
  | cons x r ih => rw [List.map_cons, List.sum_cons, ih]
theorem Rep.size {f : K → Int} {b : Int} {L : List Wr} (h : Rep f b L) : SizeIs f b L.length := by
  have h0 : pairsOf L L = 0 := by
    unfold pairsOf
    have : L.map (fun x => (L.filter (touch x)).length) = L.map (fun _ => 0) := by
      refine List.map_congr_left fun x hx => ?_
      rw [List.length_eq_zero_iff, List.filter_eq_nil_iff]
      intro y hy ht
      simp only [touch, Bool.and_eq_true, decide_eq_true_eq] at ht
      have hx1 := (h.ne x hx).1
      have hy1 := (h.ne y hy).1
      rcases h.both hx hy with rfl | ha | ha
      · grind
      · unfold Ahead at ha; grind
      · have := ha.le; grind
    rw [this]
    exact sum_zero L
  have := h.pieces.size.2
  rwa [h0, Nat.sub_zero] at this
theorem Rep.forget {f : K → Int} {b b' : Int} {L : List Wr} (h : Rep f b L) (hb : b ≤ b') : Rep f b' (L.filter fun x => !decide (x.v ≤ b')) := by
  refine ⟨fun x hx => ?_, fun x hx => ?_, fun k hk => ?_, h.rise.sublist List.filter_sublist⟩
  · obtain ⟨h1, h2⟩ := List.mem_filter.1 hx
    exact ⟨(h.ne x h1).1, by simpa using h2⟩
  · exact h.says x (List.mem_filter.1 hx).1
  · obtain ⟨x, hx, hxk⟩ := h.all k (by omega)
    exact ⟨x, List.mem_filter.2 ⟨hx, by have := h.says x hx k hxk; simp; omega⟩, hxk⟩
theorem Rep.nil (f : K → Int) (b : Int) (h : ∀ k, f k ≤ b) : Rep f b [] := ⟨by simp, by simp, fun k hk => by have := h k; omega, .nil⟩

/-! ### the greatest version -/
def imax (n v : Int) : Int := if n < v then v else n
def newestL (b : Int) (L : List Wr) : Int := L.foldl (fun n x => imax n x.v) b
theorem newestL_le : ∀ (L : List Wr) (b c : Int), newestL b L ≤ c ↔ b ≤ c ∧ ∀ x ∈ L, x.v ≤ c
  | [], b, c => by simp [newestL]
  | x :: L, b, c => by
    have := newestL_le L (imax b x.v) c
    unfold newestL at this ⊢
    rw [List.foldl_cons, this]
    unfold imax
    simp only [List.mem_cons, forall_eq_or_imp]
    split <;> constructor <;> rintro ⟨h1, h2⟩
    · exact ⟨by omega, h1, h2⟩
    · exact ⟨h2.1, h2.2⟩
    · exact ⟨h1, by omega, h2⟩
    · exact ⟨h1, h2.2⟩
theorem newestL_take {b : Int} {L : List Wr} {i : Nat} (hi : i < L.length) : newestL b (L.take (i + 1)) = imax (newestL b (L.take i)) L[i].v := by
  rw [List.take_add_one, List.getElem?_eq_getElem hi]
  unfold newestL
  rw [List.foldl_append]
  rfl
/-- what was written above the floor is known by a key of it -/
def Top (m : Mk) : Prop := m.most ≤ m.floor ∨ ∃ k, m.f k = m.most
theorem Rep.newest {m : Mk} {L : List Wr} (h : Rep m.f m.floor L) (hok : m.Ok) (ht : Top m) (v : Int) : v ≤ newestL m.floor L ↔ v ≤ m.floor ∨ v ≤ m.most := by
  have hn : ∀ c, newestL m.floor L ≤ c ↔ m.floor ≤ c ∧ m.most ≤ c ∨ m.floor ≤ c ∧ m.most ≤ c := fun c => by
    rw [newestL_le, or_self]
    constructor
    · rintro ⟨h1, h2⟩
      refine ⟨h1, ?_⟩
      rcases ht with ht | ⟨k, hk⟩
      · omega
      · by_cases hl : m.most ≤ m.floor
        · omega
        · obtain ⟨x, hx, hxk⟩ := h.all k (by omega)
          have := h.says x hx k hxk
          have := h2 x hx
          omega
    · rintro ⟨h1, h2⟩
      refine ⟨h1, fun x hx => ?_⟩
      have := h.says x hx x.s.1 ⟨Std.IsPreorder.le_refl _, (h.ne x hx).1⟩
      have := hok.f x.s.1
      omega
  have := hn (v - 1)
  omega

/-! ### Last -/
/-- the greatest version of those that have keys of a span -/
def lastL (s : K × K) (n : Int) (L : List Wr) : Int := L.foldl (fun n x => if mx s.1 x.s.1 < mn s.2 x.s.2 then imax n x.v else n) n
theorem lastL_take {s : K × K} {n : Int} {L : List Wr} {i : Nat} (hi : i < L.length) : lastL s n (L.take (i + 1)) = if mx s.1 L[i].s.1 < mn s.2 L[i].s.2 then imax (lastL s n (L.take i)) L[i].v else lastL s n (L.take i) := by
  rw [List.take_add_one, List.getElem?_eq_getElem hi]
  unfold lastL
  rw [List.foldl_append]
  rfl
theorem lastL_spec (s : K × K) : ∀ (L : List Wr) (n : Int), n ≤ lastL s n L ∧ (∀ x ∈ L, mx s.1 x.s.1 < mn s.2 x.s.2 → x.v ≤ lastL s n L) ∧ (lastL s n L = n ∨ ∃ x ∈ L, mx s.1 x.s.1 < mn s.2 x.s.2 ∧ x.v = lastL s n L)
  | [], n => ⟨Int.le_refl _, by simp, .inl rfl⟩
  | y :: L, n => by
    have ih := lastL_spec s L (if mx s.1 y.s.1 < mn s.2 y.s.2 then imax n y.v else n)
    have e : lastL s n (y :: L) = lastL s (if mx s.1 y.s.1 < mn s.2 y.s.2 then imax n y.v else n) L := rfl
    rw [e]
    generalize hz : lastL s (if mx s.1 y.s.1 < mn s.2 y.s.2 then imax n y.v else n) L = z at ih ⊢
    obtain ⟨h1, h2, h3⟩ := ih
    by_cases hy : mx s.1 y.s.1 < mn s.2 y.s.2
    · rw [if_pos hy] at h1 h3
      unfold imax at h1 h3
      refine ⟨by split at h1 <;> omega, fun x hx hm => ?_, ?_⟩
      · rcases List.mem_cons.1 hx with rfl | hx
        · split at h1 <;> omega
        · exact h2 x hx hm
      · rcases h3 with h3 | ⟨x, hx, h⟩
        · split at h3
          · exact .inr ⟨y, by simp, hy, h3.symm⟩
          · exact .inl h3
        · exact .inr ⟨x, by simp [hx], h⟩
    · rw [if_neg hy] at h1 h3
      refine ⟨h1, fun x hx hm => ?_, ?_⟩
      · rcases List.mem_cons.1 hx with rfl | hx
        · exact absurd hm hy
        · exact h2 x hx hm
      · rcases h3 with h3 | ⟨x, hx, h⟩
        · exact .inl h3
        · exact .inr ⟨x, by simp [hx], h⟩
/-- the marks between lo and hi are those that a span meets or touches -/
structure Beside (L : List Wr) (s : K × K) (lo hi : Nat) : Prop where
  le : lo ≤ hi
  len : hi ≤ L.length
  below : ∀ x ∈ L.take lo, x.s.2 < s.1
  above : ∀ x ∈ L.drop hi, s.2 < x.s.1
  touch : ∀ x ∈ (L.take hi).drop lo, s.1 ≤ x.s.2 ∧ x.s.1 ≤ s.2
theorem Beside.split {L : List Wr} {s : K × K} {lo hi : Nat} (h : Beside L s lo hi) : L = L.take lo ++ (L.take hi).drop lo ++ L.drop hi := by
  have h1 : L.take lo = (L.take hi).take lo := by rw [List.take_take, Nat.min_eq_left h.le]
  rw [h1, List.take_append_drop, List.take_append_drop]
theorem Beside.mid {L : List Wr} {s : K × K} {lo hi : Nat} (h : Beside L s lo hi) {x : Wr} (hx : x ∈ L) : x ∈ L.take lo ∨ x ∈ (L.take hi).drop lo ∨ x ∈ L.drop hi := by
  rw [h.split, List.mem_append, List.mem_append, or_assoc] at hx
  exact hx
theorem meet_key {a b : K × K} : mx a.1 b.1 < mn a.2 b.2 ↔ ∃ k, has a k ∧ has b k := by
  constructor
  · intro h
    refine ⟨mx a.1 b.1, ?_⟩
    rcases mx_cases a.1 b.1 with ⟨e1, e2⟩ | ⟨e1, e2⟩ <;> rcases mn_cases a.2 b.2 with ⟨e3, e4⟩ | ⟨e3, e4⟩ <;> rw [e2, e4] at h <;> rw [e2] <;> unfold has <;> grind
  · rintro ⟨k, h1, h2⟩
    unfold has at h1 h2
    rcases mx_cases a.1 b.1 with ⟨e1, e2⟩ | ⟨e1, e2⟩ <;> rcases mn_cases a.2 b.2 with ⟨e3, e4⟩ | ⟨e3, e4⟩ <;> rw [e2, e4] <;> grind
theorem Rep.last {m : Mk} {L : List Wr} (h : Rep m.f m.floor L) (hok : m.Ok) {s : K × K} {lo hi : Nat} (hb : Beside L s lo hi) : LastIs m s (lastL s 0 ((L.take hi).drop lo)) := by
  obtain ⟨h1, h2, h3⟩ := lastL_spec s ((L.take hi).drop lo) 0
  generalize lastL s 0 ((L.take hi).drop lo) = z at h1 h2 h3
  have hlow := hok.low
  have key : ∀ k, has s k → m.floor < m.f k → ∃ x ∈ (L.take hi).drop lo, has x.s k := fun k hk hf => by
    obtain ⟨x, hx, hxk⟩ := h.all k hf
    rcases hb.mid hx with hx | hx | hx
    · have := hb.below x hx; unfold has at hk hxk; grind
    · exact ⟨x, hx, hxk⟩
    · have := hb.above x hx; unfold has at hk hxk; grind
  have hin : ∀ x ∈ (L.take hi).drop lo, x ∈ L := fun x hx => by rw [hb.split]; simp [hx]
  have hle : ∀ k, has s k → m.f k ≤ m.floor ∨ m.f k ≤ z := fun k hk => by
    by_cases hf : m.floor < m.f k
    · obtain ⟨x, hx, hxk⟩ := key k hk hf
      right
      rw [h.says x (hin x hx) k hxk]
      exact h2 x hx (meet_key.2 ⟨k, hk, hxk⟩)
    · omega
  rcases h3 with rfl | ⟨x, hx, hm, rfl⟩
  · refine .inl ⟨rfl, fun k hk => ?_⟩
    rcases hle k hk with h | h
    · exact h
    · omega
  · obtain ⟨k, hk, hxk⟩ := meet_key.1 hm
    have hv := (h.ne x (hin x hx)).2
    refine .inr ⟨hv, ⟨k, hk, h.says x (hin x hx) k hxk⟩, fun k hk => ?_⟩
    rcases hle k hk with h | h
    · omega
    · exact h

/-! ### write -/
/-- what write knows when it has gone through the first marks P of those beside s -/
structure WInv (f : K → Int) (s : K × K) (v : Int) (P : List Wr) (x : K × K) (R : List Wr) : Prop where
  keys : ∀ k, has x k ↔ has s k ∨ ∃ y ∈ P, y.v = v ∧ has y.s k
  wide : x.1 ≤ s.1 ∧ s.2 ≤ x.2
  frm : x.1 = s.1 ∨ ∃ y ∈ P, y.v = v ∧ y.s.1 = x.1
  to : x.2 = s.2 ∨ ∃ y ∈ P, y.v = v ∧ y.s.2 = x.2
  rest : ∀ r ∈ R, r.s.1 < r.s.2 ∧ (∃ y ∈ P, y.v ≠ v ∧ r.v = y.v ∧ y.s.1 ≤ r.s.1 ∧ r.s.2 ≤ y.s.2) ∧ ∀ k, has r.s k → ¬ has s k
  all : ∀ y ∈ P, y.v ≠ v → ∀ k, has y.s k → ¬ has s k → ∃ r ∈ R, has r.s k
  rise : R.Pairwise Ahead
theorem WInv.start (f : K → Int) (s : K × K) (v : Int) : WInv f s v [] s [] :=
  ⟨fun k => by simp, ⟨Std.IsPreorder.le_refl _, Std.IsPreorder.le_refl _⟩, .inl rfl, .inl rfl, by simp, by simp, .nil⟩
/-- one of the same version is taken in -/
theorem WInv.same {f : K → Int} {s : K × K} {v : Int} {P : List Wr} {x : K × K} {R : List Wr} {y : Wr} (h : WInv f s v P x R) (hy : y.s.1 < y.s.2) (hv : y.v = v) (h1 : y.s.1 ≤ s.2) (h2 : s.1 ≤ y.s.2) :
    WInv f s v (P ++ [y]) (mn x.1 y.s.1, mx x.2 y.s.2) R := by
  have hw := h.wide
  refine ⟨fun k => ?_, ?_, ?_, ?_, fun r hr => ?_, fun z hz hzv => ?_, h.rise⟩
  · have hk := h.keys k
    have e : (has s k ∨ ∃ z ∈ P ++ [y], z.v = v ∧ has z.s k) ↔ has x k ∨ has y.s k := by
      rw [hk]
      constructor
      · rintro (h | ⟨z, hz, h3, h4⟩)
        · exact .inl (.inl h)
        · rcases List.mem_append.1 hz with hz | hz
          · exact .inl (.inr ⟨z, hz, h3, h4⟩)
          · rw [List.mem_singleton] at hz; subst hz; exact .inr h4
      · rintro ((h | ⟨z, hz, h3, h4⟩) | h)
        · exact .inl h
        · exact .inr ⟨z, by simp [hz], h3, h4⟩
        · exact .inr ⟨y, by simp, hv, h⟩
    rw [e]
    unfold has
    rcases mn_cases x.1 y.s.1 with ⟨e1, e2⟩ | ⟨e1, e2⟩ <;> rcases mx_cases x.2 y.s.2 with ⟨e3, e4⟩ | ⟨e3, e4⟩ <;> simp only [e2, e4] <;> grind
  · rcases mn_cases x.1 y.s.1 with ⟨e1, e2⟩ | ⟨e1, e2⟩ <;> rcases mx_cases x.2 y.s.2 with ⟨e3, e4⟩ | ⟨e3, e4⟩ <;> simp only [e2, e4] <;> grind
  · rcases mn_cases x.1 y.s.1 with ⟨e1, e2⟩ | ⟨e1, e2⟩ <;> simp only [e2]
    · exact .inr ⟨y, by simp, hv, rfl⟩
    · rcases h.frm with h | ⟨z, hz, h⟩
      · exact .inl h
      · exact .inr ⟨z, by simp [hz], h⟩
  · rcases mx_cases x.2 y.s.2 with ⟨e3, e4⟩ | ⟨e3, e4⟩ <;> simp only [e4]
    · exact .inr ⟨y, by simp, hv, rfl⟩
    · rcases h.to with h | ⟨z, hz, h⟩
      · exact .inl h
      · exact .inr ⟨z, by simp [hz], h⟩
  · obtain ⟨h3, ⟨z, hz, h4⟩, h5⟩ := h.rest r hr
    exact ⟨h3, ⟨z, by simp [hz], h4⟩, h5⟩
  · rcases List.mem_append.1 hz with hz | hz
    · exact h.all z hz hzv
    · rw [List.mem_singleton] at hz; subst hz; exact absurd hv hzv
/-- of one of another version its other keys are left -/
theorem WInv.other {f : K → Int} {s : K × K} {v : Int} {P : List Wr} {x : K × K} {R : List Wr} {y : Wr} {W : List (K × K)} (h : WInv f s v P x R) (hv : y.v ≠ v) (ha : ∀ z ∈ P, Ahead z y)
    (hW : Fits W (fun k => has y.s k ∧ ¬ has x k)) : WInv f s v (P ++ [y]) x (R ++ W.map fun u => ⟨u, y.v⟩) := by
  have hsub : ∀ u ∈ W, y.s.1 ≤ u.1 ∧ u.2 ≤ y.s.2 ∧ u.1 < u.2 := fun u hu => by
    have hne := hW.1.ne u hu
    have h1 := (hW.2 u.1).1 ⟨u, hu, Std.IsPreorder.le_refl _, hne⟩
    refine ⟨h1.1.1, ?_, hne⟩
    by_cases hc : u.2 ≤ y.s.2
    · exact hc
    · have h2 := (hW.2 (mx u.1 y.s.2)).1 ⟨u, hu, by rcases mx_cases u.1 y.s.2 with ⟨e1, e2⟩ | ⟨e1, e2⟩ <;> rw [e2] <;> unfold has <;> grind⟩
      rcases mx_cases u.1 y.s.2 with ⟨e1, e2⟩ | ⟨e1, e2⟩ <;> rw [e2] at h2 <;> unfold has at h2 <;> grind
  refine ⟨fun k => ?_, h.wide, ?_, ?_, fun r hr => ?_, fun z hz hzv k hk hns => ?_, ?_⟩
  · rw [h.keys k]
    constructor
    · rintro (h | ⟨z, hz, h3, h4⟩)
      · exact .inl h
      · exact .inr ⟨z, by simp [hz], h3, h4⟩
    · rintro (h | ⟨z, hz, h3, h4⟩)
      · exact .inl h
      · rcases List.mem_append.1 hz with hz | hz
        · exact .inr ⟨z, hz, h3, h4⟩
        · rw [List.mem_singleton] at hz; subst hz; exact absurd h3 hv
  · rcases h.frm with h | ⟨z, hz, h⟩
    · exact .inl h
    · exact .inr ⟨z, by simp [hz], h⟩
  · rcases h.to with h | ⟨z, hz, h⟩
    · exact .inl h
    · exact .inr ⟨z, by simp [hz], h⟩
  · rcases List.mem_append.1 hr with hr | hr
    · obtain ⟨h3, ⟨z, hz, h4⟩, h5⟩ := h.rest r hr
      exact ⟨h3, ⟨z, by simp [hz], h4⟩, h5⟩
    · obtain ⟨u, hu, rfl⟩ := List.mem_map.1 hr
      obtain ⟨h3, h4, h5⟩ := hsub u hu
      refine ⟨h5, ⟨y, by simp, hv, rfl, h3, h4⟩, fun k hk hsk => ?_⟩
      exact ((hW.2 k).1 ⟨u, hu, hk⟩).2 ((h.keys k).2 (.inl hsk))
  · rcases List.mem_append.1 hz with hz | hz
    · obtain ⟨r, hr, hrk⟩ := h.all z hz hzv k hk hns
      exact ⟨r, by simp [hr], hrk⟩
    · rw [List.mem_singleton] at hz
      subst hz
      have hx : ¬ has x k := fun hx => by
        rcases (h.keys k).1 hx with h1 | ⟨u, hu, _, h2⟩
        · exact hns h1
        · have := (ha u hu).le
          unfold has at hk h2
          grind
      obtain ⟨u, hu, huk⟩ := (hW.2 k).2 ⟨hk, hx⟩
      exact ⟨⟨u, z.v⟩, List.mem_append_right _ (List.mem_map.2 ⟨u, hu, rfl⟩), huk⟩
  · refine List.pairwise_append.2 ⟨h.rise, ?_, fun r hr q hq => ?_⟩
    · rw [List.pairwise_map]
      exact (normal_pair hW.1).imp fun h => .inl h
    · obtain ⟨u, hu, rfl⟩ := List.mem_map.1 hq
      obtain ⟨_, ⟨z, hz, h1, h2, h3, h4⟩, _⟩ := h.rest r hr
      exact (ha z hz).of h4 (hsub u hu).1 h2 rfl
/-- what is put in place of them -/
theorem WInv.done {f : K → Int} {b : Int} {L : List Wr} {s : K × K} {v : Int} {lo hi : Nat} {x : K × K} {R S : List Wr} (hL : Rep f b L) (hs : s.1 < s.2) (hbv : b < v) (hb : Beside L s lo hi)
    (h : WInv f s v ((L.take hi).drop lo) x R) (hp : (R ++ [(⟨x, v⟩ : Wr)]).Perm S) (ho : S.Pairwise fun a c => ¬ c.s.1 < a.s.1) :
    Rep (fun k => if has s k then v else f k) b (L.take lo ++ S ++ L.drop hi) := by
  have hin : ∀ y ∈ (L.take hi).drop lo, y ∈ L := fun x hx => by rw [hb.split]; simp [hx]
  have hmem : ∀ r, r ∈ S ↔ r ∈ R ∨ r = ⟨x, v⟩ := fun r => by rw [← hp.mem_iff]; simp
  have hx12 : x.1 < x.2 := by have := h.wide; grind
  -- no key of another version's rest is in x
  have hRx : ∀ r ∈ R, r.v ≠ v ∧ ∀ k, has r.s k → ¬ has x k := fun r hr => by
    obtain ⟨h1, ⟨y, hy, h2, h3, h4, h5⟩, h6⟩ := h.rest r hr
    refine ⟨by rw [h3]; exact h2, fun k hk hx => ?_⟩
    rcases (h.keys k).1 hx with h7 | ⟨z, hz, h7, h8⟩
    · exact h6 k hk h7
    · have e1 := hL.says z (hin z hz) k h8
      have e2 := hL.says y (hin y hy) k (by unfold has at hk ⊢; grind)
      omega
  have hnS : ∀ r ∈ S, r.s.1 < r.s.2 := fun r hr => by
    rcases (hmem r).1 hr with hr | rfl
    · exact (h.rest r hr).1
    · exact hx12
  have hapart : (R ++ [(⟨x, v⟩ : Wr)]).Pairwise fun a c => Ahead a c ∨ Ahead c a := by
    refine List.pairwise_append.2 ⟨h.rise.imp fun h => .inl h, by simp, fun r hr q hq => ?_⟩
    rw [List.mem_singleton] at hq
    subst hq
    obtain ⟨h1, h2⟩ := hRx r hr
    have h3 := (h.rest r hr).1
    unfold Ahead
    by_cases hc : r.s.1 < x.1
    · left
      by_cases hd : r.s.2 ≤ x.1
      · by_cases he : r.s.2 = x.1
        · exact .inr ⟨he, h1⟩
        · left; grind
      · exact absurd (show has x x.1 from ⟨Std.IsPreorder.le_refl _, hx12⟩) (h2 x.1 (by unfold has; grind))
    · right
      by_cases hd : x.2 ≤ r.s.1
      · by_cases he : x.2 = r.s.1
        · exact .inr ⟨he, fun e => h1 e.symm⟩
        · left; grind
      · exact absurd (show has x r.s.1 by unfold has; grind) (h2 r.s.1 (by unfold has; grind))
  have hSrise : S.Pairwise Ahead := by
    have h1 := (hp.pairwise_iff (R := fun a c => Ahead a c ∨ Ahead c a) (fun {a c} h => h.symm)).1 hapart
    refine (h1.and ho).imp_of_mem ?_
    rintro a c ha hc ⟨h2 | h2, h3⟩
    · exact h2
    · have := h2.le
      have := hnS c hc
      have := hnS a ha
      grind
  have hsplit := hL.rise
  rw [hb.split, List.pairwise_append, List.pairwise_append] at hsplit
  obtain ⟨⟨hA, hM, hAM⟩, hD, hAD⟩ := hsplit
  have hlo : ∀ p ∈ L.take lo, ∀ r ∈ S, Ahead p r := fun p hp r hr => by
    have hp1 := hb.below p hp
    rcases (hmem r).1 hr with hr | rfl
    · obtain ⟨h1, ⟨y, hy, h2, h3, h4, h5⟩, h6⟩ := h.rest r hr
      exact (hAM p hp y hy).of (Std.IsPreorder.le_refl _) h4 rfl h3
    · rcases h.frm with e | ⟨y, hy, h2, h3⟩
      · left; rw [e]; exact hp1
      · exact (hAM p hp y hy).of (Std.IsPreorder.le_refl _) (by rw [h3]; exact Std.IsPreorder.le_refl _) rfl h2.symm
  have hhi : ∀ r ∈ S, ∀ q ∈ L.drop hi, Ahead r q := fun r hr q hq => by
    have hq1 := hb.above q hq
    rcases (hmem r).1 hr with hr | rfl
    · obtain ⟨h1, ⟨y, hy, h2, h3, h4, h5⟩, h6⟩ := h.rest r hr
      exact (hAD y (by simp [hy]) q hq).of h5 (Std.IsPreorder.le_refl _) h3 rfl
    · rcases h.to with e | ⟨y, hy, h2, h3⟩
      · left; rw [e]; exact hq1
      · exact (hAD y (by simp [hy]) q hq).of (by rw [h3]; exact Std.IsPreorder.le_refl _) (Std.IsPreorder.le_refl _) h2.symm rfl
  have hinL : ∀ p ∈ L.take lo ++ S ++ L.drop hi, (p ∈ L ∧ ((p.s.2 < s.1) ∨ s.2 < p.s.1)) ∨ p ∈ S := fun p hp => by
    rw [List.mem_append, List.mem_append] at hp
    rcases hp with (hp | hp) | hp
    · exact .inl ⟨List.mem_of_mem_take hp, .inl (hb.below p hp)⟩
    · exact .inr hp
    · exact .inl ⟨List.mem_of_mem_drop hp, .inr (hb.above p hp)⟩
  refine ⟨fun p hp => ?_, fun p hp k hk => ?_, fun k hk => ?_, ?_⟩
  · rcases hinL p hp with ⟨h1, _⟩ | h1
    · exact hL.ne p h1
    · refine ⟨hnS p h1, ?_⟩
      rcases (hmem p).1 h1 with h2 | rfl
      · obtain ⟨_, ⟨y, hy, _, h3, _⟩, _⟩ := h.rest p h2
        rw [h3]
        exact (hL.ne y (hin y hy)).2
      · exact hbv
  · rcases hinL p hp with ⟨h1, h2⟩ | h1
    · have hn : ¬ has s k := by unfold has at hk ⊢; grind
      simp only [if_neg hn]
      exact hL.says p h1 k hk
    · rcases (hmem p).1 h1 with h2 | rfl
      · obtain ⟨_, ⟨y, hy, _, h3, h4, h5⟩, h6⟩ := h.rest p h2
        simp only [if_neg (h6 k hk)]
        rw [h3]
        exact hL.says y (hin y hy) k (by unfold has at hk ⊢; grind)
      · by_cases hsk : has s k
        · simp only [if_pos hsk]
        · simp only [if_neg hsk]
          rcases (h.keys k).1 hk with h2 | ⟨y, hy, h2, h3⟩
          · exact absurd h2 hsk
          · rw [hL.says y (hin y hy) k h3, h2]
  · by_cases hsk : has s k
    · exact ⟨⟨x, v⟩, by simp [(hmem _).2 (.inr rfl)], (h.keys k).2 (.inl hsk)⟩
    · simp only [if_neg hsk] at hk
      obtain ⟨y, hy, hyk⟩ := hL.all k hk
      rcases hb.mid hy with hy | hy | hy
      · exact ⟨y, by simp [hy], hyk⟩
      · by_cases hv : y.v = v
        · exact ⟨⟨x, v⟩, by simp [(hmem _).2 (.inr rfl)], (h.keys k).2 (.inr ⟨y, hy, hv, hyk⟩)⟩
        · obtain ⟨r, hr, hrk⟩ := h.all y hy hv k hyk hsk
          exact ⟨r, by simp [(hmem _).2 (.inl hr)], hrk⟩
      · exact ⟨y, by simp [hy], hyk⟩
  · refine List.pairwise_append.2 ⟨List.pairwise_append.2 ⟨hA, hSrise, hlo⟩, hD, fun p hp q hq => ?_⟩
    rcases List.mem_append.1 hp with hp | hp
    · exact hAD p (by simp [hp]) q hq
    · exact hhi p hp q hq
/-- a write makes at most two marks more -/
theorem write_len {f : K → Int} {b v : Int} {s : K × K} {L L' : List Wr} (h : Rep f b L) (h' : Rep (fun k => if has s k then v else f k) b L') : L'.length ≤ L.length + 2 := by
  obtain ⟨l, hn, e, hl⟩ := h.size
  obtain ⟨l', hn', e', hl'⟩ := h'.size
  have := nodup_len l' (s.1 :: s.2 :: l) hn' (fun k hk => by
    have hst := (hl' k).1 hk
    by_cases e1 : k = s.1
    · simp [e1]
    by_cases e2 : k = s.2
    · simp [e2]
    simp only [List.mem_cons, e1, e2, false_or]
    refine (hl k).2 ?_
    obtain ⟨h1, h2⟩ := hst
    simp only at h1 h2
    by_cases hk : has s k
    · exfalso
      obtain ⟨y, h3, h4, h5⟩ := h2 s.1 (by unfold has at hk; grind)
      rw [if_pos hk, if_pos (show has s y by unfold has at hk ⊢; grind)] at h5
      exact h5 rfl
    · rw [if_neg hk] at h1
      refine ⟨h1, fun j hj => ?_⟩
      by_cases hlt : k < s.1
      · obtain ⟨y, h3, h4, h5⟩ := h2 j hj
        rw [if_neg hk, if_neg (show ¬ has s y by unfold has; grind)] at h5
        exact ⟨y, h3, h4, h5⟩
      · by_cases hgt : s.2 < k
        · obtain ⟨y, h3, h4, h5⟩ := h2 (mx j s.2) (by rcases mx_cases j s.2 with ⟨e1, e2⟩ | ⟨e1, e2⟩ <;> rw [e2] <;> grind)
          have h6 : j ≤ y ∧ s.2 ≤ y := by rcases mx_cases j s.2 with ⟨e1, e2⟩ | ⟨e1, e2⟩ <;> rw [e2] at h3 <;> grind
          rw [if_neg hk, if_neg (show ¬ has s y by unfold has; grind)] at h5
          exact ⟨y, h6.1, h4, h5⟩
        · exact absurd (show has s k by unfold has; grind) hk)
  simp only [List.length_cons] at this
  omega
end Go.Proofs.YtcmpbhcldaogiaaGreat
namespace Go.Proofs.YtcmpbhcldaogiaaGreat
open Go.RowKit
attribute [local go_sem] less_eq same_eq le_eq ge_eq gt_eq

/-- blocks that stood in w and were none of G -/
def Else (w : World) (G : Nat → Prop) : Nat → Prop := fun i => ¬ G i ∧ i < w.heap.size
def I64 (n : Int) : Prop := -9223372036854775808 ≤ n ∧ n < 9223372036854775808
/-- what is read of the program's marks at block q -/
def PmRd (w : World) (q : Nat) (floor : Int) (L : List Wr) : Prop :=
  ∃ A cap, Whole w q 46 [.int .i64 floor, .slice A L.length cap] ∧ RdW w w.heap.size (.slice A L.length cap) L ∧ ((A = none ∧ cap = 0 ∧ L = []) ∨ ∃ g, A = some ⟨g, 0, none⟩)
/-- the program's marks at block q, in row ov -/
structure PmL (w : World) (base q : Nat) (ov : Option Nat) (floor : Int) (L : List Wr) : Prop where
  blk : ∃ A cap, Whole w q 46 [.int .i64 floor, .slice A L.length cap] ∧ OwnMk w base (.slice A L.length cap) L ∧ Value.ownBlock (.slice A L.length cap) = ov
  low : base ≤ q ∧ base ≤ w.heap.size
def PmD (q : Nat) (ov : Option Nat) : Nat → Prop := fun i => i = q ∨ some i = ov
theorem Own.apartM {α β : Type} {enc : α → List Value} {k : Nat} {e : TypeId} {enc' : β → List Value} {k' : Nat} {e' : TypeId} {w : World} {base base' : Nat} {v v' : Value} {l : List α} {l' : List β} (h : Own enc k e w base v l) (h' : Own enc' k' e' w base' v' l') (hne : e ≠ e') {g : Nat} (hg : v.ownBlock = some g) : v'.ownBlock ≠ some g := by
  rcases h.row with ⟨rfl, _⟩ | ⟨g2, cap, cur, rfl, hb, hW, _⟩
  · cases hg
  · have e1 : g2 = g := by simpa [Value.ownBlock] using hg
    subst e1
    exact fun e2 => Own.apart h' hW (fun e => hne e.symm) e2.symm
section
variable {w w' : World} {base q : Nat} {ov : Option Nat} {D : Nat → Prop} {n : Nat} {m : Mk} {floor : Int} {L : List Wr}
theorem PmRd.next (h : PmRd w q floor L) (hb : Below w.heap.size w w') : PmRd w' q floor L := by
  obtain ⟨A, cap, hw, hr, hf⟩ := h
  exact ⟨A, cap, hw.below hb hw.size, hr.next hb, hf⟩
theorem PmL.rd (h : PmL w base q ov floor L) : PmRd w q floor L := by
  obtain ⟨A, cap, hw, ho, hv⟩ := h.blk
  refine ⟨A, cap, hw, Own.rd encW_len ho, ?_⟩
  rcases ho.form with ⟨e, h0⟩ | ⟨g, c, e, _⟩
  · injection e with e1 e2 e3
    exact .inl ⟨e1, e3, h0⟩
  · injection e with e1 e2 e3
    exact .inr ⟨g, e1⟩
theorem PmL.size (h : PmL w base q ov floor L) : q < w.heap.size := by
  obtain ⟨A, cap, hw, _⟩ := h.blk
  exact hw.size
theorem PmL.row (h : PmL w base q ov floor L) {g : Nat} (hg : ov = some g) : base ≤ g ∧ g < w.heap.size := by
  obtain ⟨A, cap, hw, ho, hv⟩ := h.blk
  exact ho.low (hv.trans hg)
theorem PmL.mv (h : PmL w base q ov floor L) (hm : Mv D w w') (h1 : ¬ D q) (h2 : ∀ g, ov = some g → ¬ D g) : PmL w' base q ov floor L := by
  obtain ⟨A, cap, hw, ho, hv⟩ := h.blk
  exact ⟨⟨A, cap, hm.whole hw h1, ho.mvG hm (fun g hg => h2 g (hv ▸ hg)), hv⟩, ⟨h.low.1, Nat.le_trans h.low.2 hm.size⟩⟩
theorem PmL.new (h : PmL w base q ov floor L) (hb : Below w.heap.size w w') : PmL w' base q ov floor L :=
  h.mv (D := fun i => w.heap.size ≤ i) (Mv.of_below hb) (fun e => by have := h.size; omega) (fun g hg e => by have := (h.row hg).2; omega)
/-- what grows an own slice of another type leaves it -/
theorem PmL.grown {α : Type} {enc : α → List Value} {k : Nat} {e : TypeId} {base' : Nat} {v : Value} {l : List α} (h : PmL w base q ov floor L) (ho : Own enc k e w base' v l) (h1 : e ≠ 46) (h2 : e ≠ 67) (hg : w.grownBy w' v.ownBlock) : PmL w' base q ov floor L := by
  obtain ⟨A, cap, hw, hown, hv⟩ := h.blk
  refine h.mv (Mv.of_grown hg) (fun e => Own.apart ho hw h1 e) (fun g hg' e => ?_)
  exact Own.apartM ho hown h2 e.symm (hv.trans hg')
/-- an own slice of another type stays while these are written -/
theorem PmL.keeps {α : Type} {enc : α → List Value} {k : Nat} {e : TypeId} {base' : Nat} {v : Value} {l : List α} (h : PmL w base q ov floor L) (ho : Own enc k e w base' v l) (h1 : e ≠ 46) (h2 : e ≠ 67) (hm : Mv (PmD q ov) w w') : Own enc k e w' base' v l := by
  obtain ⟨A, cap, hw, hown, hv⟩ := h.blk
  refine ho.mvG hm (fun g hg => ?_)
  rintro (rfl | hi)
  · exact Own.apart ho hw h1 hg.symm
  · exact Own.apartM ho hown h2 hg (hv.trans hi.symm)
end
/-- what calls that write leave -/
structure PmW (w w' : World) (base q : Nat) (ov : Option Nat) (floor : Int) (L : List Wr) (ov' : Option Nat) : Prop where
  now : PmL w' base q ov' floor L
  moved : Mv (PmD q ov) w w'
  new : NewRow w ov ov'
theorem PmW.refl {w : World} {base q : Nat} {ov : Option Nat} {floor : Int} {L : List Wr} (h : PmL w base q ov floor L) : PmW w w base q ov floor L ov := ⟨h, Mv.refl _ _, fun _ h => .inl h⟩
theorem PmW.trans {w w' w2 : World} {base q : Nat} {ov ov' ov2 : Option Nat} {floor floor' : Int} {L L' : List Wr} (h : PmW w w' base q ov floor L ov') (h2 : PmW w' w2 base q ov' floor' L' ov2) : PmW w w2 base q ov floor' L' ov2 :=
  ⟨h2.now, h.moved.trans h2.moved (fun i hi hd => by
    rcases hd with rfl | hd
    · exact .inl rfl
    · rcases h.new i hd.symm with h3 | h3
      · exact .inr h3.symm
      · omega), h.new.trans h2.new h.moved.size⟩
theorem PmW.after {w w' w2 : World} {base q : Nat} {ov ov' : Option Nat} {floor : Int} {L : List Wr} (h : PmW w w' base q ov floor L ov') (hb : Below w'.heap.size w' w2) : PmW w w2 base q ov floor L ov' :=
  ⟨h.now.new hb, h.moved.trans (Mv.of_below hb) (fun i hi hd => by have := h.moved.size; omega), h.new⟩
/-- the slice stored anew, behind new blocks -/
theorem PmL.store {w wf w4 : World} {base q n4 : Nat} {ov : Option Nat} {floor : Int} {L L2 : List Wr} {A4 : Option Addr} {c4 : Nat} (h : PmL w base q ov floor L) (hF : Below w.heap.size w wf) (hg : wf.grownBy w4 ov) (hn : n4 = L2.length) (ho : OwnMk w4 base (.slice A4 n4 c4) L2) (hnew : NewRow wf ov (Value.ownBlock (.slice A4 n4 c4))) :
    PmW w (w4.setCell ⟨q, 1, none⟩ (.slice A4 n4 c4)) base q ov floor L2 (Value.ownBlock (.slice A4 n4 c4)) ∧ (∃ u, w4.cell? ⟨q, 1, none⟩ = some u) ∧ w4.frozen? ⟨q, 1, none⟩ = false ∧ w4.cell? ⟨q, 0, none⟩ = some (.int .i64 floor) := by
  subst hn
  obtain ⟨A, cap, hw, hown, hv⟩ := h.blk
  have hov : ov ≠ some q := fun e => Own.apart hown hw (by decide) (by rw [hv, e])
  have h1 : Mv (PmD q ov) w w4 := (Mv.of_new hF (PmD q ov)).trans (Mv.of_grown hg) (fun i _ e => .inr e)
  have h2 : Mv (PmD q ov) w (w4.setCell ⟨q, 1, none⟩ (.slice A4 L2.length c4)) := h1.setCell (p := ⟨q, 1, none⟩) (fun _ => .inl rfl) _
  have hw4 : Whole w4 q 46 _ := (Mv.of_grown hg).whole (hw.below hF hw.size) (fun e => hov e.symm)
  have hr4 : Mv (fun i => i = q) w4 (w4.setCell ⟨q, 1, none⟩ (.slice A4 L2.length c4)) := (Mv.refl (fun i => i = q) w4).setCell (p := ⟨q, 1, none⟩) (fun _ => rfl) _
  refine ⟨⟨⟨⟨A4, c4, hw4.put 1 _, ho.mvG hr4 (fun g hg e => Own.apart ho hw4 (by decide) (by rw [hg, e])), rfl⟩, ⟨h.low.1, Nat.le_trans h.low.2 h2.size⟩⟩, h2, fun g hg => ?_⟩, ⟨_, hw4.cell 1 _ rfl⟩, hw4.frozen 1, hw4.cell 0 _ rfl⟩
  rcases hnew g hg with h3 | h3
  · exact .inl h3
  · exact .inr (Nat.le_trans hF.size h3)
/-- the floor stored anew -/
theorem PmW.floor {w w' : World} {base q : Nat} {ov ov' : Option Nat} {floor : Int} {L : List Wr} (h : PmW w w' base q ov floor L ov') (v : Int) :
    PmW w (w'.setCell ⟨q, 0, none⟩ (.int .i64 v)) base q ov v L ov' ∧ (∃ u, w'.cell? ⟨q, 0, none⟩ = some u) ∧ w'.frozen? ⟨q, 0, none⟩ = false := by
  obtain ⟨A, cap, hw, hown, hv⟩ := h.now.blk
  have h2 : Mv (PmD q ov) w (w'.setCell ⟨q, 0, none⟩ (.int .i64 v)) := h.moved.setCell (p := ⟨q, 0, none⟩) (fun _ => .inl rfl) _
  have hr4 : Mv (fun i => i = q) w' (w'.setCell ⟨q, 0, none⟩ (.int .i64 v)) := (Mv.refl (fun i => i = q) w').setCell (p := ⟨q, 0, none⟩) (fun _ => rfl) _
  exact ⟨⟨⟨⟨A, cap, hw.put 0 _, hown.mvG hr4 (fun g hg e => Own.apart hown hw (by decide) (by rw [hg, e])), hv⟩, ⟨h.now.low.1, Nat.le_trans h.now.low.2 hr4.size⟩⟩, h2, h.new⟩, ⟨_, hw.cell 0 _ rfl⟩, hw.frozen 0⟩
/-- the marks at block q; their blocks are G; n transactions were judged -/
def MkAt (w : World) (base q : Nat) (G : Nat → Prop) (n : Nat) (m : Mk) : Prop :=
  ∃ ov L, PmL w base q ov m.floor L ∧ G = PmD q ov ∧ Rep m.f m.floor L ∧ Top m ∧ L.length ≤ 48 * n ∧ m.Ok ∧ n ≤ 64
section
variable {w w' : World} {base q n : Nat} {G : Nat → Prop} {m : Mk}
theorem MkAt.low (h : MkAt w base q G n m) : base ≤ w.heap.size ∧ ∀ i, G i → base ≤ i ∧ i < w.heap.size := by
  obtain ⟨ov, L, h1, rfl, _⟩ := h
  refine ⟨h1.low.2, fun i hi => ?_⟩
  rcases hi with rfl | hi
  · exact ⟨h1.low.1, h1.size⟩
  · exact h1.row hi.symm
theorem MkAt.mv {D : Nat → Prop} (h : MkAt w base q G n m) (hm : Mv D w w') (hn : ∀ i, G i → ¬ D i) : MkAt w' base q G n m := by
  obtain ⟨ov, L, h1, rfl, h2⟩ := h
  exact ⟨ov, L, h1.mv hm (hn q (.inl rfl)) (fun g hg => hn g (.inr hg.symm)), rfl, h2⟩
theorem MkAt.ok (h : MkAt w base q G n m) : m.Ok := by
  obtain ⟨ov, L, _, _, _, _, _, h, _⟩ := h
  exact h
end

set_option maxHeartbeats 1000000 in
set_option maxRecDepth 100000 in
theorem mknew_any (v : Int) (hv : I64 v) (w : World) :
    Calls Tryz.prog 4 #[.int .i64 v] w fun e w' => ∃ q G, e = .returned (.pointer (some ⟨q, 0, none⟩)) ∧ MkAt w' w.heap.size q G 0 (mnew v) ∧ Below w.heap.size w w' := by
  have hok := Mk.Ok.new hv.2
  go_enter Tryz.func4, Tryz.ntmps4
  go_wp2_with fail
  go_ret
  refine ⟨w.heap.size, _, rfl, ⟨none, [], ⟨⟨none, 0, ?_, Own.nil _ _, rfl⟩, Nat.le_refl _, by simp⟩, rfl, Rep.nil _ _ (fun k => hok.low), ?_, by simp, hok, by omega⟩, (Below.refl _ _).alloc (Nat.le_refl _) _⟩
  · have := Whole.fresh w 46 [.int .i64 (mnew v).floor, .slice none 0 0]
    have e : (mnew v).floor = max v 0 := by unfold mnew; simp only; split <;> omega
    rw [e] at this ⊢
    exact this
  · left
    exact hok.low
set_option maxHeartbeats 1000000 in
set_option maxRecDepth 100000 in
theorem mksize_any (base q n : Nat) (G : Nat → Prop) (m : Mk) (w : World) (h : MkAt w base q G n m) :
    Calls Tryz.prog 14 #[.pointer (some ⟨q, 0, none⟩)] w fun e w' => ∃ k : Nat, e = .returned (.int .i64 (k : Int)) ∧ SizeIs m.f m.floor k ∧ Below w.heap.size w w' := by
  obtain ⟨ov, L, h1, rfl, h2, _⟩ := h
  obtain ⟨A, cap, hw, ho, hv⟩ := h1.blk
  have c1 := hw.cell 1 _ rfl
  have HS := Lib.hid h2.size
  clear h1 h2 hw ho hv
  go_enter Tryz.func14, Tryz.ntmps14
  go_wp2_with fail
  go_ret
  exact ⟨L.length, rfl, HS.out, Below.refl _ _⟩
theorem mknone_judge (v : Int) (vv : Value) (w : World) : Calls Tryz.prog 7 #[.pointer none, .int .i64 v, vv] w fun e w' => ∃ A c, e = .returned (.tuple #[.slice A 0 c, .int .i64 1]) ∧ Below w.heap.size w w' := by
  go_enter Tryz.func7, Tryz.ntmps7
  go_wp2_with fail
  go_ret2
  exact ⟨_, _, rfl, Below.refl _ _⟩
set_option maxHeartbeats 1000000 in
set_option maxRecDepth 100000 in
theorem mknone_last (s : K × K) (w : World) : Calls Tryz.prog 10 #[.pointer none, .agg #[.string s.1, .string s.2]] w fun e w' => e = .returned (.tuple #[.int .i64 0, .bool false]) ∧ Below w.heap.size w w' := by
  go_enter Tryz.func10, Tryz.ntmps10
  go_wp2_with fail
  go_ret2
  exact ⟨rfl, (Below.refl _ _).alloc (Nat.le_refl _) _⟩
theorem mknone_forget (v : Int) (w : World) : Calls Tryz.prog 12 #[.pointer none, .int .i64 v] w fun e w' => e = .returned (.int .i64 1) ∧ Below w.heap.size w w' := by
  go_enter Tryz.func12, Tryz.ntmps12
  go_wp2_with fail
  go_ret
  exact ⟨rfl, (Below.refl _ _).alloc (Nat.le_refl _) _⟩
theorem mknone_size (w : World) : Calls Tryz.prog 14 #[.pointer none] w fun e w' => e = .returned (.int .i64 0) ∧ Below w.heap.size w w' := by
  go_enter Tryz.func14, Tryz.ntmps14
  go_wp2_with fail
  go_ret
  exact ⟨rfl, Below.refl _ _⟩

set_option maxHeartbeats 2000000 in
set_option maxRecDepth 100000 in
theorem newest_any (q : Nat) (floor : Int) (L : List Wr) (w : World) (h : PmRd w q floor L) (hl : L.length ≤ 1000000) :
    Calls Tryz.prog 16 #[.pointer (some ⟨q, 0, none⟩)] w fun e w' => e = .returned (.int .i64 (newestL floor L)) ∧ Below w.heap.size w w' := by
  obtain ⟨A, cap, hw, hr, _⟩ := h
  obtain ⟨A', c', e, hc, hi⟩ := hr.at
  injection e with e1 e2 e3
  subst e1 e3
  have c0 := hw.cell 0 _ rfl
  have c1 := hw.cell 1 _ rfl
  have hlt := hw.size
  clear hw hr
  have HI := Lib.hid hi; clear hi e2
  obtain ⟨R, hR⟩ : ∃ R, R = newestL floor L := ⟨_, rfl⟩
  rw [← hR]
  have HR := Lib.hid hR; clear hR
  obtain ⟨g, hg⟩ : ∃ g, g = w.heap.size := ⟨_, rfl⟩
  have HG := Lib.hid hg; clear hg
  go_enter Tryz.func16, Tryz.ntmps16
  go_wp2_with fail
  go_loopw [3, 15] (fun nv iv wr => ∃ (i : Nat) (z : Int), i ≤ L.length ∧ iv = .int .i64 i ∧ nv = .int .i64 z ∧ Hid (z = newestL floor (L.take i)) ∧ Hid (Below g w wr)) (fun _ iv _ => L.length - (intOf iv).toNat)
  case atStart => exact ⟨0, floor, Nat.zero_le _, rfl, rfl, Lib.hid rfl, Lib.hid (Below.refl _ _)⟩
  case round =>
    obtain ⟨i, z, hil, rfl, rfl, HZ, HB⟩ := hrel
    by_cases hlt2 : i < L.length
    · obtain ⟨b, o, rfl, hbB, k0, k1, k2⟩ := HI.out i hlt2
      rw [← HB.out.cell (p := ⟨b, _, none⟩) (by rw [HG.out]; exact hbB)] at k0
      rw [← HB.out.cell (p := ⟨b, _, none⟩) (by rw [HG.out]; exact hbB)] at k1
      rw [← HB.out.cell (p := ⟨b, _, none⟩) (by rw [HG.out]; exact hbB)] at k2
      have hz2 : max z L[i].v = newestL floor (L.take (i + 1)) := by
        rw [newestL_take hlt2, ← HZ.out]; unfold imax; split <;> omega
      have HZ2 := Lib.hid hz2; clear hz2
      generalize L[i] = x at k0 k1 k2 HZ2
      obtain ⟨⟨x1, x2⟩, xv⟩ := x
      simp only at k0 k1 k2 HZ2
      have HB2 := Lib.hid (show Below g w (wr.alloc (.cells #[.string x1, .string x2, .int .i64 xv] 67)) from HB.out.alloc (by rw [HG.out]; exact HB.out.size) _)
      clear c0 c1
      go_wp2_with fail
      go_roundw
      case rel => exact ⟨i + 1, _, by omega, by go_num, rfl, Lib.hid HZ2.out, HB2⟩
      case measure => simp [intOf]; omega
    · have hz2 : z = R := by rw [HR.out, HZ.out, List.take_of_length_le (by omega)]
      have HZ2 := Lib.hid hz2; clear hz2
      clear c0 c1
      go_wp2_with fail
      go_ret
      exact ⟨by rw [HZ2.out]; rfl, by have h := HB.out; rwa [HG.out] at h⟩
end Go.Proofs.YtcmpbhcldaogiaaGreat
namespace Go.Proofs.YtcmpbhcldaogiaaGreat
open Go.RowKit
attribute [local go_sem] less_eq same_eq le_eq ge_eq gt_eq

theorem Rep.froms {f : K → Int} {b : Int} {L : List Wr} (h : Rep f b L) : L.Pairwise fun x y => x.s.1 < y.s.1 :=
  h.rise.imp_of_mem fun {x y} hx hy hxy => by have := (h.ne x hx).1; have := hxy.le; grind
theorem Rep.tos {f : K → Int} {b : Int} {L : List Wr} (h : Rep f b L) : L.Pairwise fun x y => x.s.2 < y.s.2 :=
  h.rise.imp_of_mem fun {x y} hx hy hxy => by have := (h.ne y hy).1; have := hxy.le; grind
theorem beside_of {f : K → Int} {b : Int} {L : List Wr} (h : Rep f b L) {s : K × K} (hs : s.1 < s.2) {i j : Nat} {t : Bool} (hi : i ≤ L.length) (h1 : ∀ k (_ : k < L.length), k < i → L[k].s.2 < s.1) (h2 : ∀ k (_ : k < L.length), i ≤ k → ¬ L[k].s.2 < s.1)
    (hj : j ≤ L.length) (h3 : ∀ k (_ : k < L.length), k < j → L[k].s.1 < s.2) (h4 : ∀ k (_ : k < L.length), j ≤ k → ¬ L[k].s.1 < s.2) (ht : t = true ↔ ∃ h : j < L.length, L[j].s.1 = s.2) : Beside L s i (j + if t then 1 else 0) := by
  have hf := List.pairwise_iff_getElem.1 h.froms
  have hij : i ≤ j := by
    rcases Nat.lt_or_ge j i with hlt | hge
    · have hjl : j < L.length := by omega
      have e1 := h1 j hjl hlt
      have e2 := h4 j hjl (Nat.le_refl _)
      have e3 := (h.ne _ (List.getElem_mem hjl)).1
      grind
    · exact hge
  have hle : j + (if t then 1 else 0) ≤ L.length := by
    cases t with
    | true => obtain ⟨h, _⟩ := ht.1 rfl; simp only [if_true]; omega
    | false => simpa using hj
  refine ⟨by omega, hle, fun x hx => ?_, fun x hx => ?_, fun x hx => ?_⟩
  · obtain ⟨k, hk, rfl⟩ := List.mem_take_iff_getElem.1 hx
    exact h1 k (by omega) (by omega)
  · obtain ⟨k, hk, rfl⟩ := List.mem_drop_iff_getElem.1 hx
    cases t with
    | true =>
      obtain ⟨hj1, e⟩ := ht.1 rfl
      simp only [if_true] at hk ⊢
      have := hf j (j + 1 + k) hj1 (by omega) (by omega)
      rw [e] at this
      have e9 : L[j + 1 + k] = L[j + 1 + k] := rfl
      simpa [Nat.add_assoc] using this
    | false =>
      have hk' : j + k < L.length := by simp only [Bool.false_eq_true, if_false] at hk; omega
      have e1 := h4 (j + k) hk' (by omega)
      have e2 : L[j + k].s.1 ≠ s.2 := fun e => by
        by_cases hk0 : k = 0
        · subst hk0
          exact Bool.false_ne_true (ht.2 ⟨by omega, by simpa using e⟩)
        · have := hf j (j + k) (by omega) hk' (by omega)
          rw [e] at this
          exact h4 j (by omega) (Nat.le_refl _) this
      have e3 : s.2 < L[j + k].s.1 := by grind
      simpa using e3
  · obtain ⟨k, hk, rfl⟩ := List.mem_drop_iff_getElem.1 hx
    rw [List.length_take] at hk
    have hkl : i + k < L.length := by omega
    have e0 : (L.take (j + if t then 1 else 0))[i + k]'(by rw [List.length_take]; omega) = L[i + k] := by simp
    rw [e0]
    refine ⟨by have := h2 (i + k) hkl (by omega); grind, ?_⟩
    by_cases hkj : i + k < j
    · have := h3 (i + k) hkl hkj; grind
    · cases t with
      | true =>
        obtain ⟨hj1, e⟩ := ht.1 rfl
        simp only [if_true] at hk
        have e9 : i + k = j := by omega
        have e8 : L[i + k].s.1 = s.2 := by simp only [e9]; exact e
        grind
      | false => simp only [Bool.false_eq_true, if_false] at hk; omega

set_option maxHeartbeats 4000000 in
set_option maxRecDepth 100000 in
theorem beside_any (q : Nat) (floor : Int) (L : List Wr) (s : K × K) (f : K → Int) (b : Int) (w : World) (h : PmRd w q floor L) (hrep : Rep f b L) (hs : s.1 < s.2) (hl : L.length ≤ 1000000) :
    Calls Tryz.prog 24 #[.pointer (some ⟨q, 0, none⟩), .agg #[.string s.1, .string s.2]] w fun e w' => ∃ lo hi : Nat, e = .returned (.tuple #[.int .i64 lo, .int .i64 hi]) ∧ Beside L s lo hi ∧ Below w.heap.size w w' := by
  obtain ⟨A, cap, hw, hr, _⟩ := h
  obtain ⟨W1, hW1⟩ : ∃ W1, W1 = w.alloc (.cells #[.string s.1, .string s.2] 29) := ⟨_, rfl⟩
  have hB1 : Below w.heap.size w W1 := by rw [hW1]; exact (Below.refl _ w).alloc (Nat.le_refl _) _
  have hs1 : W1.heap.size = w.heap.size + 1 := by rw [hW1]; simp
  have hsp : Whole W1 w.heap.size 29 [.string s.1, .string s.2] := by rw [hW1]; exact Whole.fresh w _ [_, _]
  have hq1 : Whole W1 q 46 [.int .i64 floor, .slice A L.length cap] := hw.below hB1 hw.size
  have hr1 := hr.next hB1
  have hcells : ∀ X, Below W1.heap.size W1 X → X.cell? ⟨q, 1, none⟩ = some (.slice A L.length cap) ∧ X.cell? ⟨w.heap.size, 0, none⟩ = some (.string s.1) ∧ X.cell? ⟨w.heap.size, 1, none⟩ = some (.string s.2) := fun X hX =>
    ⟨(hq1.below hX hq1.size).cell 1 _ rfl, (hsp.below hX hsp.size).cell 0 _ rfl, (hsp.below hX hsp.size).cell 1 _ rfl⟩
  have hc1 := fun W (hW : Below W1.heap.size W1 W) => bsearch1_any L hrep.tos s.1 (.slice A L.length cap) W (hr1.next hW) (by omega)
  have hc2 := fun W (hW : Below W1.heap.size W1 W) => bsearch2_any L hrep.froms s.2 (.slice A L.length cap) W (hr1.next hW) (by omega)
  have hof := fun i j t (a1 : i ≤ L.length) a2 a3 (a4 : j ≤ L.length) a5 a6 a7 => beside_of (i := i) (j := j) (t := t) hrep hs a1 a2 a3 a4 a5 a6 a7
  have HC1 := Lib.hid hc1; clear hc1
  have HC2 := Lib.hid hc2; clear hc2
  have HOF := Lib.hid hof; clear hof
  have HCE := Lib.hid hcells; clear hcells
  have HB1 := Lib.hid hB1; clear hB1
  have hwz : w.heap.size < W1.heap.size := by omega
  clear hw hr hsp hq1 hr1 hrep
  go_enter Tryz.func24, Tryz.ntmps24
  have HW1 := Lib.hid hW1; clear hW1 hwz hs1
  go_wp2_with fail
  rw [← HW1.out]
  obtain ⟨z, hz⟩ : ∃ z, z = w.heap.size := ⟨_, rfl⟩
  rw [← hz] at HCE ⊢
  have HZ := Lib.hid hz; clear hz
  refine wp_region_planB [(true, 0), (true, 1), (true, 2), (true, 3), (true, 4), (true, 5), (false, 6), (true, 7), (true, 8), (true, 9), (true, 10)] (by kernel_rfl) (by kernel_rfl) (fun _ _ d _ _ h => by cases d <;> exact h) ?_
  have hd1 : Below W1.heap.size W1 W1.drew := (Below.refl _ _).drew
  iterate 6 (refine PlanB.take (v := ?_) rfl rfl ?_ ?_; rotate_left; (focus (intro X hX; obtain ⟨k0, k1, k2⟩ := HCE.out X (hd1.trans hX); go_simp; (try with_reducible rfl); done)); (try simp only [Act.put, List.setIfInBounds_toArray, List.set_cons_zero, List.set_cons_succ]))
  refine PlanB.step rfl rfl (fun Kk hKk => ?_)
  go_simp
  refine (HC1.out W1.drew hd1).mono ?_
  rintro e W2 ⟨i, hi, p1, p2, t1, rfl, _, hb2⟩
  refine hKk.out _ _ hb2 ?_
  clear hKk Kk
  have hd2 : Below W1.heap.size W1 W2 := hd1.trans hb2
  have P1 := Lib.hid p1; clear p1
  have P2 := Lib.hid p2; clear p2
  (try simp only [Act.put, List.setIfInBounds_toArray, List.set_cons_zero, List.set_cons_succ])
  repeat (refine PlanB.take (v := ?_) rfl rfl ?_ ?_; rotate_left; (focus (intro X hX; go_simp; (try with_reducible rfl); done)); (try simp only [Act.put, List.setIfInBounds_toArray, List.set_cons_zero, List.set_cons_succ]))
  simp only [PlanB]
  have HD2 := Lib.hid hd2; clear hd2 hb2 hd1
  go_wp2_with fail
  refine wp_region_planB [(true, 0), (true, 1), (true, 2), (true, 3), (true, 4), (true, 5), (false, 6), (true, 7), (true, 8), (true, 9), (true, 10), (true, 11)] (by kernel_rfl) (by kernel_rfl) (fun _ _ d _ _ h => by cases d <;> exact h) ?_
  have hd3 : Below W1.heap.size W1 W2.drew := HD2.out.drew
  iterate 6 (refine PlanB.take (v := ?_) rfl rfl ?_ ?_; rotate_left; (focus (intro X hX; obtain ⟨k0, k1, k2⟩ := HCE.out X (hd3.trans (hX.mono hd3.size)); go_simp; (try with_reducible rfl); done)); (try simp only [Act.put, List.setIfInBounds_toArray, List.set_cons_zero, List.set_cons_succ]))
  refine PlanB.step rfl rfl (fun Kk hKk => ?_)
  go_simp
  refine (HC2.out W2.drew hd3).mono ?_
  rintro e W3 ⟨j, hj, p3, p4, t2, rfl, p5, hb3⟩
  refine hKk.out _ _ hb3 ?_
  clear hKk Kk
  have hd4 : Below W1.heap.size W1 W3 := hd3.trans (hb3.mono hd3.size)
  have HFIN := Lib.hid (HOF.out i j t2 hi P1.out P2.out hj p3 p4 p5)
  (try simp only [Act.put, List.setIfInBounds_toArray, List.set_cons_zero, List.set_cons_succ])
  repeat (refine PlanB.take (v := ?_) rfl rfl ?_ ?_; rotate_left; (focus (intro X hX; go_simp; (try with_reducible rfl); done)); (try simp only [Act.put, List.setIfInBounds_toArray, List.set_cons_zero, List.set_cons_succ]))
  simp only [PlanB]
  have HD4 := Lib.hid (show Below w.heap.size w W3 from HB1.out.trans (hd4.mono HB1.out.size))
  clear hd4 hb3 hd3 p3 p4 p5
  cases t2 with
  | true =>
    have hw1 : IntKind.i64.wrap ((j : Int) + 1) = ((j + 1 : Nat) : Int) := by rw [IntKind.wrap_i64]; omega
    go_wp2_with fail
    go_ret2
    exact ⟨i, j + 1, rfl, HFIN.out, HD4.out⟩
  | false =>
    go_wp2_with fail
    go_ret2
    exact ⟨i, j, rfl, HFIN.out, HD4.out⟩
end Go.Proofs.YtcmpbhcldaogiaaGreat
namespace Go.Proofs.YtcmpbhcldaogiaaGreat
open Go.RowKit
attribute [local go_sem] less_eq same_eq le_eq ge_eq gt_eq

theorem meet_empty (a b : K × K) : decide ((meet a b).2 ≤ (meet a b).1) = !decide (mx a.1 b.1 < mn a.2 b.2) := by
  unfold meet
  by_cases h : mn a.2 b.2 ≤ mx a.1 b.1
  · rw [if_pos h, decide_eq_false (show ¬ mx a.1 b.1 < mn a.2 b.2 by grind)]
    exact decide_eq_true (Std.IsPreorder.le_refl _)
  · rw [if_neg h, decide_eq_true (show mx a.1 b.1 < mn a.2 b.2 by grind)]
    exact decide_eq_false h

set_option maxHeartbeats 8000000 in
set_option maxRecDepth 100000 in
theorem plast_any (q : Nat) (m : Mk) (L : List Wr) (s : K × K) (w : World) (h : PmRd w q m.floor L) (hrep : Rep m.f m.floor L) (hok : m.Ok) (hl : L.length ≤ 1000000) :
    Calls Tryz.prog 10 #[.pointer (some ⟨q, 0, none⟩), .agg #[.string s.1, .string s.2]] w fun e w' => ∃ k, e = .returned (.tuple #[.int .i64 k, .bool (decide (0 < k))]) ∧ LastIs m s k ∧ Below w.heap.size w w' := by
  have hbm : Below w.heap.size w (w.alloc (.cells #[.string s.1, .string s.2] 29)) := (Below.refl _ w).alloc (Nat.le_refl _) _
  have hem := fun W => empty_any s W
  have HEM := Lib.hid hem; clear hem
  by_cases hs : s.2 ≤ s.1
  · have hla : LastIs m s 0 := .inl ⟨rfl, fun k hk => by unfold has at hk; grind⟩
    rw [decide_eq_true hs] at HEM
    have HL := Lib.hid hla
    have HB := Lib.hid hbm
    clear hla hbm h hrep hok hs
    go_enter Tryz.func10, Tryz.ntmps10
    go_wp2_with fail
    refine (HEM.out _).mono ?_
    rintro e w1 ⟨rfl, hb1⟩
    have HB1 := Lib.hid (HB.out.trans (hb1.mono (by simp))); clear hb1
    go_wp2_with fail
    go_ret2
    exact ⟨0, rfl, HL.out, HB1.out⟩
  · rw [decide_eq_false hs] at HEM
    have hs' : s.1 < s.2 := by grind
    have hbes := fun W (hW : Below w.heap.size w W) => beside_any q m.floor L s m.f m.floor W (h.next hW) hrep hs' hl
    have HBE := Lib.hid hbes; clear hbes
    have hlast := fun lo hi (hb : Beside L s lo hi) => hrep.last hok hb
    have HLA := Lib.hid hlast; clear hlast
    have HPM := Lib.hid h
    have HB := Lib.hid hbm
    obtain ⟨g, hg⟩ : ∃ g, g = w.heap.size := ⟨_, rfl⟩
    have HG := Lib.hid hg; clear hg
    have hbox : Whole (w.alloc (.cells #[.string s.1, .string s.2] 29)) w.heap.size 29 [.string s.1, .string s.2] := Whole.fresh w _ [_, _]
    have HBOX := Lib.hid hbox
    have hzz : w.heap.size < (w.alloc (.cells #[.string s.1, .string s.2] 29)).heap.size := by simp
    have HZZ := Lib.hid hzz
    clear hbm h hrep hok hs hbox hzz hs'
    go_enter Tryz.func10, Tryz.ntmps10
    go_wp2_with fail
    refine (HEM.out _).mono ?_
    rintro e w1 ⟨rfl, hb1⟩
    have hB1 : Below w.heap.size w w1 := HB.out.trans (hb1.mono (by simp))
    have hbx1 : Whole w1 w.heap.size 29 [.string s.1, .string s.2] := HBOX.out.below hb1 HZZ.out
    have hK := hbx1.cell 0 _ rfl
    have hK' := hbx1.cell 1 _ rfl
    have HBX1 := Lib.hid hbx1
    have HB1 := Lib.hid hB1
    clear hb1 hB1 hbx1
    go_wp2_with fail
    refine (HBE.out _ HB1.out).mono ?_
    rintro e w2 ⟨lo, hi, rfl, hbs, hb2⟩
    have hB2 : Below w.heap.size w w2 := HB1.out.trans (hb2.mono HB1.out.size)
    have hbx2 : Whole w2 w.heap.size 29 [.string s.1, .string s.2] := HBX1.out.below hb2 HBX1.out.size
    have hfin := HLA.out lo hi hbs
    have hlh := hbs.le
    have hhl := hbs.len
    obtain ⟨A, cap, hw, hr, hform⟩ := HPM.out.next hB2
    have hlc : L.length ≤ cap := by obtain ⟨A', c', e, hc, _⟩ := hr.at; injection e with _ _ e3; rw [e3]; exact hc
    have c1 := hw.cell 1 _ rfl
    have HBX2 := Lib.hid hbx2
    have HB2 := Lib.hid hB2
    have hB0 : (lo : Int) ≤ (hi : Int) := by omega
    have hB3 : (hi : Int) ≤ (cap : Int) := by omega
    clear hb2 hB2 hbx2 hw HBX1 HB1 hbs hK hK' HBE HLA HPM
    by_cases hlo : lo = hi
    · -- nothing is beside
      have hM : (L.take hi).drop lo = [] := List.drop_eq_nil_of_le (by rw [List.length_take]; omega)
      rw [hM] at hfin
      have HF := Lib.hid (show LastIs m s 0 from hfin); clear hfin hM
      subst hlo
      have fin : ∀ wr, Below w2.heap.size w2 wr → Below w.heap.size w wr := fun wr h => HB2.out.trans (h.mono HB2.out.size)
      have FIN := Lib.hid fin; clear fin hr
      have hsub : lo - lo = 0 := by omega
      rcases hform with ⟨rfl, rfl, hL0⟩ | ⟨gb, rfl⟩
      · obtain rfl : lo = 0 := by omega
        go_wp2_with fail
        go_loopw [6, 31] (fun nv iv wr => nv = .int .i64 0 ∧ iv = .int .i64 0 ∧ Below w2.heap.size w2 wr) (fun _ _ _ => 0)
        case atStart => exact ⟨rfl, rfl, Below.refl _ _⟩
        case round =>
          obtain ⟨rfl, rfl, hbw⟩ := hrel
          have HBW := Lib.hid hbw; clear hbw c1
          go_wp2_with fail
          go_ret2
          exact ⟨0, rfl, HF.out, FIN.out _ HBW.out⟩
      · by_cases hcl : cap = lo
        · subst hcl
          go_wp2_with fail
          go_loopw [6, 31] (fun nv iv wr => nv = .int .i64 0 ∧ iv = .int .i64 0 ∧ Below w2.heap.size w2 wr) (fun _ _ _ => 0)
          case atStart => exact ⟨rfl, rfl, Below.refl _ _⟩
          case round =>
            obtain ⟨rfl, rfl, hbw⟩ := hrel
            have HBW := Lib.hid hbw; clear hbw c1
            go_wp2_with fail
            go_ret2
            exact ⟨0, rfl, HF.out, FIN.out _ HBW.out⟩
        · go_wp2_with fail
          go_loopw [6, 31] (fun nv iv wr => nv = .int .i64 0 ∧ iv = .int .i64 0 ∧ Below w2.heap.size w2 wr) (fun _ _ _ => 0)
          case atStart => exact ⟨rfl, rfl, Below.refl _ _⟩
          case round =>
            obtain ⟨rfl, rfl, hbw⟩ := hrel
            have HBW := Lib.hid hbw; clear hbw c1
            go_wp2_with fail
            go_ret2
            exact ⟨0, rfl, HF.out, FIN.out _ HBW.out⟩
    · have hA : ∃ gb, A = some ⟨gb, 0, none⟩ := by
        rcases hform with ⟨_, _, hL0⟩ | h
        · rw [hL0] at hhl; simp at hhl; omega
        · exact h
      obtain ⟨gb, rfl⟩ := hA
      have hcl : ¬ cap = lo := by omega
      obtain ⟨A', c', e, _, hcells⟩ := hr.at
      injection e with e1 _ _
      subst e1
      have hML : ((L.take hi).drop lo).length = hi - lo := by rw [List.length_drop, List.length_take]; omega
      have hce : ∀ i (_ : i < ((L.take hi).drop lo).length), gb < w2.heap.size ∧ w2.cell? ⟨gb, lo * 3 + i * 3, none⟩ = some (.string ((L.take hi).drop lo)[i].s.1) ∧ w2.cell? ⟨gb, lo * 3 + i * 3 + 1, none⟩ = some (.string ((L.take hi).drop lo)[i].s.2) ∧ w2.cell? ⟨gb, lo * 3 + i * 3 + 2, none⟩ = some (.int .i64 ((L.take hi).drop lo)[i].v) := fun i hi' => by
        obtain ⟨b, o, e2, hb, k0, k1, k2⟩ := hcells (lo + i) (by omega)
        injection e2 with e2
        injection e2 with e3 e4 _
        subst e3 e4
        have em : ((L.take hi).drop lo)[i] = L[lo + i] := by simp
        rw [em, show lo * 3 + i * 3 = 0 + (lo + i) * 3 by omega]
        exact ⟨hb, k0, k1, k2⟩
      generalize (L.take hi).drop lo = M at hfin hML hce
      have HCE := Lib.hid hce; clear hce hcells hr hform
      have HF := Lib.hid hfin; clear hfin
      have HML := Lib.hid hML; clear hML
      obtain ⟨N, hN⟩ : ∃ N, N = hi - lo := ⟨_, rfl⟩
      have HN := Lib.hid hN
      have hNb : N ≤ 1000000 := by omega
      go_wp2_with fail
      rw [← hN]
      clear hN
      go_loopw [6, 31] (fun nv iv wr => ∃ (i : Nat) (zz : Int), i ≤ N ∧ iv = .int .i64 i ∧ nv = .int .i64 zz ∧ Hid (zz = lastL s 0 (M.take i)) ∧ Hid (Below w2.heap.size w2 wr)) (fun _ iv _ => N - (intOf iv).toNat)
      case atStart => exact ⟨0, 0, Nat.zero_le _, rfl, rfl, Lib.hid rfl, Lib.hid (Below.refl _ _)⟩
      case round =>
        obtain ⟨i, zz, hil, rfl, rfl, HZ, HBW⟩ := hrel
        clear c1
        by_cases hlt : i < N
        · have hlt2 : i < M.length := by rw [HML.out, ← HN.out]; exact hlt
          obtain ⟨hgb, k0, k1, k2⟩ := HCE.out i hlt2
          rw [← HBW.out.cell (p := ⟨gb, _, none⟩) hgb] at k0
          rw [← HBW.out.cell (p := ⟨gb, _, none⟩) hgb] at k1
          rw [← HBW.out.cell (p := ⟨gb, _, none⟩) hgb] at k2
          have hbxr : Whole wr w.heap.size 29 [.string s.1, .string s.2] := HBX2.out.below HBW.out HBX2.out.size
          have hst := lastL_take (s := s) (n := 0) hlt2
          have hmt := fun W => meet_any s M[i].s W
          have hme := meet_empty s M[i].s
          unfold spv at hmt
          generalize M[i] = x at k0 k1 k2 hst hmt hme
          obtain ⟨⟨x1, x2⟩, xv⟩ := x
          simp only at k0 k1 k2 hst hmt hme
          have hem2 := fun W => empty_any (meet s (x1, x2)) W
          rw [hme] at hem2
          generalize meet s (x1, x2) = mt at hmt hem2
          obtain ⟨mt1, mt2⟩ := mt
          simp only at hmt hem2
          have HMT := Lib.hid hmt; clear hmt hme
          obtain ⟨w3, hw3⟩ : ∃ w3, wr.alloc (.cells #[.string x1, .string x2, .int .i64 xv] 67) = w3 := ⟨_, rfl⟩
          have hb3 : Below wr.heap.size wr w3 := by rw [← hw3]; exact (Below.refl _ _).alloc (Nat.le_refl _) _
          have hx3 : Whole w3 wr.heap.size 67 [.string x1, .string x2, .int .i64 xv] := by rw [← hw3]; exact Whole.fresh wr _ [_, _, _]
          have hbx3 : Whole w3 w.heap.size 29 [.string s.1, .string s.2] := hbxr.below hb3 hbxr.size
          have b0 := hbx3.cell 0 _ rfl
          have b1 := hbx3.cell 1 _ rfl
          have y0 := hx3.cell 0 _ rfl
          have y1 := hx3.cell 1 _ rfl
          have y2 := hx3.cell 2 _ rfl
          have HX3 := Lib.hid hx3
          have HB3 := Lib.hid hb3
          clear hb3 hx3 hbx3 hbxr
          by_cases hmm : mx s.1 x1 < mn s.2 x2
          · rw [if_pos hmm, ← HZ.out] at hst
            have hst2 : max zz xv = lastL s 0 (M.take (i + 1)) := by rw [hst]; unfold imax; split <;> omega
            have HST := Lib.hid hst2; clear hst hst2
            rw [decide_eq_true hmm] at hem2
            have HE2 := Lib.hid hem2; clear hem2 hmm
            go_wp2_with fail
            have HW3 := Lib.hid hw3; clear hw3
            refine (HMT.out _).mono ?_
            rintro e w4 ⟨rfl, hb4⟩
            clear b0 b1 y0 y1 y2
            go_wp2_with fail
            refine (HE2.out _).mono ?_
            rintro e w5 ⟨rfl, hb5⟩
            have hb45 : Below w3.heap.size w3 w5 := hb4.trans (hb5.mono hb4.size)
            have x5 := (HX3.out.below hb45 HX3.out.size).cell 2 _ rfl
            have HB5 := Lib.hid (show Below w2.heap.size w2 w5 from HBW.out.trans ((HB3.out.trans (hb45.mono HB3.out.size)).mono HBW.out.size))
            clear hb4 hb5 hb45 k0 k1 k2
            go_wp2_with fail
            go_roundw
            case rel => exact ⟨i + 1, _, by omega, by go_num, rfl, Lib.hid HST.out, HB5⟩
            case measure => simp [intOf]; omega
          · rw [if_neg hmm, ← HZ.out] at hst
            have HST := Lib.hid hst; clear hst
            rw [decide_eq_false hmm] at hem2
            have HE2 := Lib.hid hem2; clear hem2 hmm
            go_wp2_with fail
            have HW3 := Lib.hid hw3; clear hw3
            refine (HMT.out _).mono ?_
            rintro e w4 ⟨rfl, hb4⟩
            clear b0 b1 y0 y1 y2
            go_wp2_with fail
            refine (HE2.out _).mono ?_
            rintro e w5 ⟨rfl, hb5⟩
            have hb45 : Below w3.heap.size w3 w5 := hb4.trans (hb5.mono hb4.size)
            have HB5 := Lib.hid (show Below w2.heap.size w2 w5 from HBW.out.trans ((HB3.out.trans (hb45.mono HB3.out.size)).mono HBW.out.size))
            clear hb4 hb5 hb45 k0 k1 k2
            go_wp2_with fail
            go_roundw
            case rel => exact ⟨i + 1, zz, by omega, by go_num, rfl, Lib.hid HST.out.symm, HB5⟩
            case measure => simp [intOf]; omega
        · have hz2 : LastIs m s zz := by
            have h1 := HF.out
            have h2 := HZ.out
            rw [List.take_of_length_le (by rw [HML.out, ← HN.out]; omega)] at h2
            rw [h2]
            exact h1
          have HZ2 := Lib.hid hz2; clear hz2
          have HB5 := Lib.hid (show Below w.heap.size w wr from HB2.out.trans (HBW.out.mono HB2.out.size))
          go_wp2_with fail
          go_ret2
          exact ⟨zz, rfl, HZ2.out, HB5.out⟩

theorem mklast_any (base q n : Nat) (G : Nat → Prop) (m : Mk) (s : K × K) (w : World) (h : MkAt w base q G n m) :
    Calls Tryz.prog 10 #[.pointer (some ⟨q, 0, none⟩), .agg #[.string s.1, .string s.2]] w fun e w' => ∃ k, e = .returned (.tuple #[.int .i64 k, .bool (decide (0 < k))]) ∧ LastIs m s k ∧ Below w.heap.size w w' := by
  obtain ⟨ov, L, h1, rfl, h2, h3, h4, h5, h6⟩ := h
  exact plast_any q m L s w h1.rd h2 h5 (by omega)

set_option maxHeartbeats 8000000 in
set_option maxRecDepth 100000 in
theorem mkforget_any (base q n : Nat) (G : Nat → Prop) (m : Mk) (v : Int) (hv : I64 v) (w : World) (h : MkAt w base q G n m) :
    Calls Tryz.prog 12 #[.pointer (some ⟨q, 0, none⟩), .int .i64 v] w fun e w' => e = .returned (.int .i64 (ferr m v)) ∧ ∃ G', MkAt w' base q G' n (fnext m v) ∧ (∀ i, G' i → G i ∨ w.heap.size ≤ i) ∧ Mv G w w' := by
  have hmk := h
  obtain ⟨ov, L, h1, rfl, h2, h3, h4, h5, h6⟩ := h
  obtain ⟨W1, hW1⟩ : ∃ W1, w.alloc (.cells #[.int .i64 v] 3) = W1 := ⟨_, rfl⟩
  have hB1 : Below w.heap.size w W1 := by rw [← hW1]; exact (Below.refl _ w).alloc (Nat.le_refl _) _
  have hbx : Whole W1 w.heap.size 3 [.int .i64 v] := by rw [← hW1]; exact Whole.fresh w _ [_]
  have hp1 := h1.new hB1
  obtain ⟨A, cap, hw, hown, hov⟩ := hp1.blk
  have hcel : ∀ X, Below W1.heap.size W1 X → X.cell? ⟨q, 0, none⟩ = some (.int .i64 m.floor) ∧ X.cell? ⟨q, 1, none⟩ = some (.slice A L.length cap) ∧ X.cell? ⟨w.heap.size, 0, none⟩ = some (.int .i64 v) := fun X hX =>
    ⟨(hw.below hX hw.size).cell 0 _ rfl, (hw.below hX hw.size).cell 1 _ rfl, (hbx.below hX hbx.size).cell 0 _ rfl⟩
  have HCE := Lib.hid hcel; clear hcel
  have hd1 : Below W1.heap.size W1 W1.drew := (Below.refl _ _).drew
  have hne : (Value.slice A L.length cap).ownBlock ≠ some w.heap.size := fun e => Own.apart hown hbx (by decide) e.symm
  have hdel := deleteFunc_any v w.heap.size base L (.slice A L.length cap) W1.drew hbx.size hne ((hbx.drew).cell 0 _ rfl) hown.drew hp1.low.2 (by omega)
  have hbw : Below w.heap.size w W1.drew := hB1.drew
  have HDEL := Lib.hid hdel; clear hdel
  have HB := Lib.hid hbw; clear hbw
  have HP := Lib.hid h1
  have HOV := Lib.hid hov
  by_cases hlt : v < m.floor
  · have he : ferr m v = 7 ∧ fnext m v = m := ⟨if_pos hlt, if_pos hlt⟩
    rw [he.1, he.2]
    have HM := Lib.hid hmk
    clear he hmk h1 h2 h3 h4 h5 hp1 hw hown hov hbx hne HDEL
    go_enter Tryz.func12, Tryz.ntmps12
    go_wp2_with fail
    refine wp_region_planB [(true, 0), (true, 1), (true, 2), (true, 3), (true, 4), (true, 5), (true, 6)] (by kernel_rfl) (by kernel_rfl) (fun _ _ d _ _ h => by cases d <;> exact h) ?_
    repeat (refine PlanB.take (v := ?_) rfl rfl ?_ ?_; rotate_left; (focus (intro X hX; obtain ⟨k0, k1, k2⟩ := HCE.out X (hd1.trans hX); go_simp; (try with_reducible rfl); done)); (try simp only [Act.put, List.setIfInBounds_toArray, List.set_cons_zero, List.set_cons_succ]))
    simp only [PlanB]
    go_wp2_with fail
    go_ret
    exact ⟨rfl, PmD q ov, HM.out.mv (Mv.of_new HB.out (fun i => w.heap.size ≤ i)) (fun i hi => by have := (HM.out.low).2 i hi; omega), fun i hi => .inl hi, Mv.of_new HB.out _⟩
  · have he : ferr m v = 0 ∧ fnext m v = { m with floor := v } := ⟨if_neg hlt, if_neg hlt⟩
    rw [he.1, he.2]
    have hok2 : ({ m with floor := v } : Mk).Ok := by have := h5.forget hv.2; rwa [he.2] at this
    have hrep2 : Rep m.f v (L.filter fun x => keepB v x) := h2.forget (by omega)
    have htop2 : Top { m with floor := v } := by
      rcases h3 with h | h
      · exact .inl (by simp only; omega)
      · exact .inr h
    have hlen2 : (L.filter fun x => keepB v x).length ≤ 48 * n := Nat.le_trans (List.length_filter_le _ _) h4
    have HOK := Lib.hid hok2; clear hok2
    have HRE := Lib.hid hrep2; clear hrep2
    have HTO := Lib.hid htop2; clear htop2
    have HLE := Lib.hid hlen2; clear hlen2
    clear he hmk h1 h2 h3 h4 h5 hp1 hw hown hov hbx hne
    go_enter Tryz.func12, Tryz.ntmps12
    go_wp2_with fail
    refine wp_region_planB [(true, 0), (true, 1), (true, 2), (true, 3), (true, 4), (true, 5), (true, 6)] (by kernel_rfl) (by kernel_rfl) (fun _ _ d _ _ h => by cases d <;> exact h) ?_
    repeat (refine PlanB.take (v := ?_) rfl rfl ?_ ?_; rotate_left; (focus (intro X hX; obtain ⟨k0, k1, k2⟩ := HCE.out X (hd1.trans hX); go_simp; (try with_reducible rfl); done)); (try simp only [Act.put, List.setIfInBounds_toArray, List.set_cons_zero, List.set_cons_succ]))
    simp only [PlanB]
    obtain ⟨k0, k1, k2⟩ := HCE.out W1.drew hd1
    clear hd1
    go_wp2_with fail
    refine HDEL.out.mono ?_
    rintro e w2 ⟨A2, c2, rfl, ho2, hg2, hrow2⟩
    rw [HOV.out] at hg2 hrow2
    obtain ⟨s1, ⟨u, s2⟩, s3, s4⟩ := HP.out.store HB.out hg2 rfl ho2 (fun g hg => .inl (by rw [← hrow2]; exact hg))
    obtain ⟨t1, ⟨u2, t2⟩, t3⟩ := s1.floor v
    have hbx2 : w2.cell? ⟨w.heap.size, 0, none⟩ = some (.int .i64 v) := (grown_cell hg2 (p := ⟨w.heap.size, 0, none⟩) (World.block_lt_of_cell? _ _ k2) (fun e => by have := (HP.out.row e).2; simp only at this; omega)).trans k2
    have hqs := HP.out.size
    have hbx3 : (w2.setCell ⟨q, 1, none⟩ (.slice A2 (L.filter fun x => keepB v x).length c2)).cell? ⟨w.heap.size, 0, none⟩ = some (.int .i64 v) := (World.cell?_setCell_other _ ⟨q, 1, none⟩ ⟨w.heap.size, 0, none⟩ _ (by intro e; injection e with e; omega)).trans hbx2
    have HT := Lib.hid t1
    rw [hrow2] at HT
    clear k0 k1 k2 s1 s4 t1 hg2 ho2 hrow2 hbx2 hqs
    go_wp2_with fail
    go_ret
    exact ⟨rfl, PmD q ov, ⟨ov, _, HT.out.now, rfl, HRE.out, HTO.out, HLE.out, HOK.out, h6⟩, fun i hi => .inl hi, HT.out.moved⟩
end Go.Proofs.YtcmpbhcldaogiaaGreat
namespace Go.Proofs.YtcmpbhcldaogiaaGreat
open Go.RowKit Go.Sort
attribute [local go_sem] less_eq same_eq le_eq ge_eq gt_eq

theorem flatK_eq (d : Array (K × K)) : flatK cellsS 2 d = (flat d.toList).toArray := by
  apply Array.ext_getElem?
  intro t
  refine Eq.trans ?_ (show (flat d.toList)[t]? = (flat d.toList).toArray[t]? by simp)
  by_cases ht : t < d.size * 2
  · have hi : t / 2 < d.size := by omega
    have hs : d.toList[t / 2]? = some d[t / 2]! := by rw [Array.getElem?_toList, getElem!_pos d _ hi]; simp [hi]
    have hf := flat_get _ _ _ hs
    have hz : t < (flatK cellsS 2 d).size := by rw [size_flatK]; exact ht
    rw [Array.getElem?_eq_getElem hz]
    have hg := get_flatK cellsS 2 d t ht
    rw [getElem!_pos _ t hz] at hg
    rw [hg]
    rcases Nat.mod_two_eq_zero_or_one t with h | h
    · rw [h]
      rw [show t / 2 * 2 = t by omega] at hf
      rw [hf.1]; rfl
    · rw [h]
      rw [show t / 2 * 2 + 1 = t by omega] at hf
      rw [hf.2]; rfl
  · rw [Array.getElem?_eq_none (by rw [size_flatK]; omega), List.getElem?_eq_none (by rw [flat_length, Array.length_toList]; omega)]

section
variable {w : World} {base g cap : Nat} {l : List (K × K)}
theorem OwnS.holds (h : OwnS w base (.slice (some ⟨g, 0, none⟩) l.length cap) l) : HoldsK cellsS 2 w g 0 l.toArray := by
  unfold HoldsK
  rw [flatK_eq]
  intro j hj
  have hj' : j < l.length * 2 := by simpa [flat_length] using hj
  unfold OwnS at h
  rw [Nat.zero_add, h.cellAt j hj', h.frozenAt]
  refine ⟨?_, rfl⟩
  rw [getElem!_pos _ j hj, List.getElem_toArray, List.getElem?_eq_getElem (by rw [flat_length]; exact hj')]
  rfl

theorem OwnS.sorted (h : OwnS w base (.slice (some ⟨g, 0, none⟩) l.length cap) l) (d : Array (K × K)) (hd : d.size = l.length) (n : Nat) (os : Array Obj) :
    OwnS (grow (putRowK cellsS 2 (Sort.ahead w n) g 0 d) os) base (.slice (some ⟨g, 0, none⟩) l.length cap) d.toList ∧ w.grownBy (grow (putRowK cellsS 2 (Sort.ahead w n) g 0 d) os) (some g) := by
  rcases h.2 with ⟨h', _⟩ | ⟨g', cap', cur, h', hb, hg, hnc, hcm, hcs, htake⟩
  · simp at h'
  · simp only [Value.slice.injEq, Option.some.injEq, Addr.mk.injEq, and_true, true_and] at h'
    obtain ⟨rfl, rfl⟩ := h'
    have hlt : g < w.heap.size := (Array.getElem?_eq_some_iff.1 hg).1
    have hl : d.toList.length = l.length := by simpa using hd
    refine ⟨?_, ⟨rfl, rfl, rfl, by simp [putRowK, putRow, mapBlock, Sort.ahead], fun k hk hne => ?_⟩⟩
    · unfold OwnS
      rw [hl]
      refine ⟨by rw [flat_length, hl], .inr ⟨g, cap, putCells id 0 (flatK cellsS 2 d) cur, rfl, hb, ?_, hnc, hcm, by simpa [putCells] using hcs, ?_⟩⟩
      · rw [heap_grow_old _ _ (by simpa [putRowK, putRow, mapBlock, Sort.ahead] using hlt)]
        simp [putRowK, putRow, mapBlock, Sort.ahead, Array.getElem?_modify, hg, onCells]
      · have hfl : (flat d.toList).length = l.length * 2 := by rw [flat_length, hl]
        apply List.ext_getElem?
        intro j
        have hcur : l.length * 2 ≤ cur.size := by rw [hcs]; exact Nat.mul_le_mul_right _ hnc
        by_cases hj : j < l.length * 2
        · rw [List.getElem?_take_of_lt hj, Array.getElem?_toList, putCells, Array.getElem?_mapIdx, Array.getElem?_eq_getElem (by omega), Option.map_some, size_flatK,
            if_pos ⟨Nat.zero_le _, by omega⟩, flatK_eq, Nat.sub_zero, getElem!_pos _ j (by simpa [hfl] using hj), List.getElem_toArray, List.getElem?_eq_getElem (by omega)]
          rfl
        · rw [List.getElem?_take_eq_none (by omega), List.getElem?_eq_none (by omega)]
    · rw [heap_grow_old _ _ (by simpa [putRowK, putRow, mapBlock, Sort.ahead] using hk)]
      have : g ≠ k := fun e => hne (by rw [e])
      simp [putRowK, putRow, mapBlock, Sort.ahead, Array.getElem?_modify, this]
end

def cmpS (x y : K × K) : Int := cmpKey x.1 y.1
theorem ltS (x y : K × K) : ltOf cmpS x y = decide (x.1 < y.1) := by
  unfold ltOf cmpS cmpKey
  by_cases h1 : x.1 < y.1
  · simp [h1]
  · by_cases h2 : y.1 < x.1 <;> simp [h1, h2]
theorem swoS : SWO (ltOf cmpS) where
  irrefl x := by rw [ltS]; simp; grind
  trans x y z h1 h2 := by rw [ltS] at *; simp at *; grind
  ntrans x y z h1 h2 := by rw [ltS] at *; simp at *; grind

set_option maxHeartbeats 400000 in
theorem less_any (x y : K × K) (W : World) : Calls Tryz.prog 97 #[.agg #[.string x.1, .string x.2], .agg #[.string y.1, .string y.2]] W fun e w' => e = .returned (.int .i64 (cmpS x y)) ∧ ∃ q os', w' = grow (W.drewN q) os' := by
  have hcon := fun W' => compare_any x.1 y.1 W'
  unfold cmpS
  generalize cmpKey x.1 y.1 = r at hcon ⊢
  go_enter Tryz.func97, Tryz.ntmps97
  go_wp2_with (go_at_call 38; refine (hcon _).mono ?_; rintro e w' ⟨rfl, rfl⟩)
  go_ret
  exact ⟨rfl, 0, _, by rw [alloc_eq_grow, alloc_eq_grow, grow_grow]; rfl⟩

/-- the sort of a slice of the call's own -/
theorem sort_any (w : World) (base : Nat) (v : Value) (l : List (K × K)) (h : OwnS w base v l) (hl : l.length ≤ 2000000) :
    Calls Tryz.prog 96 #[v, .func (.func 97) #[] #[]] w fun e w' => e = .returned (.tuple #[]) ∧
      ∃ l', OwnS w' base v l' ∧ w.grownBy w' v.ownBlock ∧ l'.Perm l ∧ l'.Pairwise (fun a b => a.1 ≤ b.1) := by
  rcases h.form with ⟨rfl, rfl⟩ | ⟨g, cap, rfl, hg, hlt, hc⟩
  · refine (AnyF.slices_SortFunc_none (P := Tryz.prog) Tryz.sortSp none 0 _ w).mono ?_
    rintro e w' ⟨he, rfl⟩
    exact ⟨he, [], OwnS.nil _ _, ⟨rfl, rfl, rfl, Nat.le_refl _, fun _ _ _ => rfl⟩, .refl _, .nil⟩
  · have eg : ∀ args w, (callFunc 97 args).run Tryz.prog w = .ok (.enter 97 args) w := enters_of Tryz.func97 (by kernel_rfl) rfl
    have hcon := AnyQ.slices_SortFunc (P := Tryz.prog) Tryz.sortSp 2 Tryz.isAgg29 Tryz.sizeOf29 cellsS (fun _ => rfl) (fun x v hv => by simp [cellsS] at hv; rcases hv with rfl | rfl <;> rfl) cmpS swoS 97 #[] g 0 cap l.toArray w eg
      (fun _ _ _ _ x y => less_any x y _) h.holds hlt (by simp; omega)
    refine hcon.mono ?_
    rintro e w' ⟨he, d', n, os, hp, hs, rfl⟩
    have hd : d'.size = l.length := by simpa using hp.1
    obtain ⟨h1, h2⟩ := h.sorted d' hd n os
    refine ⟨he, d'.toList, h1, h2, ?_, ?_⟩
    · have := hp.2.2
      simpa [hd, Array.extract_eq_self_of_le] using this
    · rw [List.pairwise_iff_getElem]
      intro i j hi hj hij
      have hq := hs i j (Nat.zero_le _) hij (by simpa [hd] using hj)
      rw [ltS, getElem!_pos d' i (by simpa using hi), getElem!_pos d' j (by simpa using hj)] at hq
      have hn : ¬ d'[j].1 < d'[i].1 := by simpa using hq
      have hr : d'[i].1 ≤ d'[j].1 := by grind
      simpa using hr

set_option maxHeartbeats 400000 in
theorem empty_exact (s : K × K) (w : World) : Calls Tryz.prog 23 #[.agg #[.string s.1, .string s.2]] w fun e w' => e = .returned (.bool (decide (s.2 ≤ s.1))) ∧ w' = w.alloc (.cells #[.string s.1, .string s.2] 29) := by
  go_enter Tryz.func23, Tryz.ntmps23
  go_wp2
  go_ret
  exact ⟨rfl, rfl⟩

def full (s : K × K) : Bool := decide (s.1 < s.2)
theorem full_step (l : List (K × K)) (j : Nat) (h : j < l.length) : (l.take (j + 1)).filter full = (l.take j).filter full ++ (if full l[j] then [l[j]] else []) := by
  rw [List.take_succ_eq_append_getElem h, List.filter_append]
  by_cases hx : full l[j] = true
  · simp [hx]
  · simp [hx]

set_option maxHeartbeats 1000000 in
set_option maxRecDepth 100000 in
theorem rising_any (l : List (K × K)) (v : Value) (w : World) (hv : RdS w w.heap.size v l) (hl : l.length ≤ 2000000) : Calls Tryz.prog 78 #[v] w fun e w' =>
    ∃ v' l', e = .returned v' ∧ OwnS w' w.heap.size v' l' ∧ Below w.heap.size w w' ∧ l'.Perm (l.filter full) ∧ l'.Pairwise (fun a b => a.1 ≤ b.1) := by
  obtain ⟨A, c, rfl, hc, hi⟩ := hv
  have HI := Lib.hid hi; clear hi
  obtain ⟨B, hB⟩ : ∃ B, B = w.heap.size := ⟨_, rfl⟩
  rw [← hB] at HI
  have hb0 : Below B w w := Below.refl _ _
  have hB' : B ≤ w.heap.size := by omega
  rw [← hB]
  clear hB
  go_enter Tryz.func78, Tryz.ntmps78
  go_wp2
  go_loopw [3, 8] (fun ov i wr => ∃ j : Nat, j ≤ l.length ∧ i = .int .i64 j ∧ Below B w wr ∧ OwnS wr B ov ((l.take j).filter full)) (fun _ i _ => l.length - (intOf i).toNat)
  case atStart => exact ⟨0, Nat.zero_le _, rfl, hb0, OwnS.nil _ _⟩
  case round =>
    obtain ⟨j, hj, rfl, hb, ho⟩ := hrel
    by_cases hlt : j < l.length
    · obtain ⟨b, o, rfl, hbB, h1, h2⟩ := HI.out j l[j] (List.getElem?_eq_getElem hlt)
      have g1 := hb.cell (p := ⟨b, o + j * 2, none⟩) hbB
      have g2 := hb.cell (p := ⟨b, o + j * 2 + 1, none⟩) hbB
      rw [h1] at g1; rw [h2] at g2
      clear h1 h2
      have hst := full_step l j hlt
      have HO := Lib.hid ho; clear ho
      by_cases hx : l[j].2 ≤ l[j].1
      · have hf : full l[j] = false := by simp [full]; grind
        rw [hf, if_neg (by simp), List.append_nil] at hst
        have HS := Lib.hid hst; clear hst hf
        go_wp2_with (go_at_call 23; refine (empty_exact l[j] _).mono ?_; rintro e w1 ⟨rfl, rfl⟩)
        have hz := hb.size
        go_roundw
        case rel => exact ⟨j + 1, by omega, by go_num, (hb.alloc (by omega) _).alloc (by rw [World.size_alloc]; omega) _, by rw [HS.out]; exact (HO.out.alloc _).alloc _⟩
        case measure => simp [intOf]; omega
      · have hf : full l[j] = true := by simp [full]; grind
        rw [hf, if_pos rfl] at hst
        have HS := Lib.hid hst; clear hst hf
        have hz := hb.size
        have hlen : ((l.take j).filter full).length ≤ 2000000 := Nat.le_trans (List.length_filter_le _ _) (by rw [List.length_take]; omega)
        have HL := Lib.hid hlen; clear hlen
        go_wp2_with (first | (go_at_call 23; refine (empty_exact l[j] _).mono ?_; rintro e w1 ⟨rfl, rfl⟩) | (at_builtin; go_must (refine wpList_addS rfl _ _ rfl B u3 _ rfl (((HO.out.alloc _).alloc _).alloc _) ⟨wr.heap.size + 1 + 1, 0, none⟩ 1 [l[j]] rfl ?c1 ?c2 ?c3 ?_); rotate_right; intro A' c' w1 ho1 hg1))
        case c1 => simpa using new_cells ((wr.alloc (.cells #[.string l[j].1, .string l[j].2] 29)).alloc (.cells #[.string l[j].1, .string l[j].2] 29)) l[j] 29
        case c2 => have := HL.out; simp only [List.length_singleton]; omega
        case c3 => simp only [World.size_alloc]; omega
        have hb3 := (((hb.alloc (Nat.le_trans hB' hz) _).alloc (by rw [World.size_alloc]; omega) _).alloc (by simp only [World.size_alloc]; omega) _).grown hg1 (by simp only [World.size_alloc]; omega) (fun k hk => (HO.out.lt k hk).1)
        go_roundw
        case rel => exact ⟨j + 1, by omega, by go_num, hb3, by rw [HS.out]; simpa only [List.length_append, List.length_singleton] using ho1⟩
        case measure => simp [intOf]; omega
    · obtain rfl : j = l.length := by omega
      rw [List.take_length] at ho
      have hlen : (l.filter full).length ≤ 2000000 := Nat.le_trans (List.length_filter_le _ _) hl
      have HO := Lib.hid ho; clear ho
      have hs := sort_any wr B _ _ HO.out hlen
      clear hlen
      go_wp2_with fail
      refine hs.mono ?_
      rintro e w1 ⟨rfl, l', ho1, hg1, hp, hq⟩
      have hb1 := hb.grown hg1 (Nat.le_trans hB' hb.size) (fun k hk => (HO.out.lt k hk).1)
      go_wp2_with fail
      refine bodyPost_ret (v := _) ?_ rfl ⟨_, l', rfl, ho1, hb1, hp, hq⟩
      simp [results, Tryz.results78, go_sem]
end Go.Proofs.YtcmpbhcldaogiaaGreat
namespace Go.Proofs.YtcmpbhcldaogiaaGreat
open Go.RowKit Go.Sort
attribute [local go_sem] less_eq same_eq le_eq ge_eq gt_eq

theorem flatKW_eq (d : Array Wr) : flatK encW 3 d = (flatG encW d.toList).toArray := by
  apply Array.ext_getElem?
  intro t
  refine Eq.trans ?_ (show (flatG encW d.toList)[t]? = (flatG encW d.toList).toArray[t]? by simp)
  by_cases ht : t < d.size * 3
  · have hi : t / 3 < d.size := by omega
    have hf := flatG_get encW_len d.toList (t / 3) (by simpa using hi) (t % 3) (by omega)
    rw [show t / 3 * 3 + t % 3 = t by omega] at hf
    have hz : t < (flatK encW 3 d).size := by rw [size_flatK]; exact ht
    rw [Array.getElem?_eq_getElem hz]
    have hg := get_flatK encW 3 d t ht
    rw [getElem!_pos _ t hz] at hg
    rw [hg, hf, getElem!_pos d _ hi]
    have h3 : t % 3 < (encW d[t / 3]).length := by rw [encW_len]; omega
    simp only [Array.getElem_toList]
    rw [List.getElem?_eq_getElem h3, getElem!_pos (encW d[t / 3]) (t % 3) h3]
  · rw [Array.getElem?_eq_none (by rw [size_flatK]; omega), List.getElem?_eq_none (by rw [flatG_length encW_len, Array.length_toList]; omega)]

section
variable {w : World} {base g cap : Nat} {l : List Wr}
theorem OwnMk.holds (h : OwnMk w base (.slice (some ⟨g, 0, none⟩) l.length cap) l) : HoldsK encW 3 w g 0 l.toArray := by
  unfold HoldsK
  rw [flatKW_eq]
  intro j hj
  have hj' : j < l.length * 3 := by simpa [flatG_length encW_len] using hj
  unfold OwnMk Own at h
  rw [Nat.zero_add, h.cellAt j hj', h.frozenAt]
  refine ⟨?_, rfl⟩
  rw [getElem!_pos _ j hj, List.getElem_toArray, List.getElem?_eq_getElem (by rw [flatG_length encW_len]; exact hj')]
  rfl

theorem OwnMk.sorted (h : OwnMk w base (.slice (some ⟨g, 0, none⟩) l.length cap) l) (d : Array Wr) (hd : d.size = l.length) (n : Nat) (os : Array Obj) :
    OwnMk (grow (putRowK encW 3 (Sort.ahead w n) g 0 d) os) base (.slice (some ⟨g, 0, none⟩) l.length cap) d.toList ∧ w.grownBy (grow (putRowK encW 3 (Sort.ahead w n) g 0 d) os) (some g) := by
  rcases h.2 with ⟨h', _⟩ | ⟨g', cap', cur, h', hb, hg, hnc, hcm, hcs, htake⟩
  · simp at h'
  · simp only [Value.slice.injEq, Option.some.injEq, Addr.mk.injEq, and_true, true_and] at h'
    obtain ⟨rfl, rfl⟩ := h'
    have hlt : g < w.heap.size := (Array.getElem?_eq_some_iff.1 hg).1
    have hl : d.toList.length = l.length := by simpa using hd
    refine ⟨?_, ⟨rfl, rfl, rfl, by simp [putRowK, putRow, mapBlock, Sort.ahead], fun k hk hne => ?_⟩⟩
    · unfold OwnMk Own
      rw [hl]
      refine ⟨by rw [flatG_length encW_len, hl], .inr ⟨g, cap, putCells id 0 (flatK encW 3 d) cur, rfl, hb, ?_, hnc, hcm, by simpa [putCells] using hcs, ?_⟩⟩
      · rw [heap_grow_old _ _ (by simpa [putRowK, putRow, mapBlock, Sort.ahead] using hlt)]
        simp [putRowK, putRow, mapBlock, Sort.ahead, Array.getElem?_modify, hg, onCells]
      · have hfl : (flatG encW d.toList).length = l.length * 3 := by rw [flatG_length encW_len, hl]
        apply List.ext_getElem?
        intro j
        have hcur : l.length * 3 ≤ cur.size := by rw [hcs]; exact Nat.mul_le_mul_right _ hnc
        by_cases hj : j < l.length * 3
        · rw [List.getElem?_take_of_lt hj, Array.getElem?_toList, putCells, Array.getElem?_mapIdx, Array.getElem?_eq_getElem (by omega), Option.map_some, size_flatK,
            if_pos ⟨Nat.zero_le _, by omega⟩, flatKW_eq, Nat.sub_zero, getElem!_pos _ j (by simpa [hfl] using hj), List.getElem_toArray, List.getElem?_eq_getElem (by omega)]
          rfl
        · rw [List.getElem?_take_eq_none (by omega), List.getElem?_eq_none (by omega)]
    · rw [heap_grow_old _ _ (by simpa [putRowK, putRow, mapBlock, Sort.ahead] using hk)]
      have : g ≠ k := fun e => hne (by rw [e])
      simp [putRowK, putRow, mapBlock, Sort.ahead, Array.getElem?_modify, this]
end

def cmpM (x y : Wr) : Int := cmpKey x.s.1 y.s.1
theorem ltM (x y : Wr) : ltOf cmpM x y = decide (x.s.1 < y.s.1) := by
  unfold ltOf cmpM cmpKey
  by_cases h1 : x.s.1 < y.s.1
  · simp [h1]
  · by_cases h2 : y.s.1 < x.s.1 <;> simp [h1, h2]
theorem swoM : SWO (ltOf cmpM) where
  irrefl x := by rw [ltM]; simp; grind
  trans x y z h1 h2 := by rw [ltM] at *; simp at *; grind
  ntrans x y z h1 h2 := by rw [ltM] at *; simp at *; grind

set_option maxHeartbeats 400000 in
theorem lessM_any (x y : Wr) (W : World) : Calls Tryz.prog 50 #[.agg #[.string x.s.1, .string x.s.2, .int .i64 x.v], .agg #[.string y.s.1, .string y.s.2, .int .i64 y.v]] W fun e w' => e = .returned (.int .i64 (cmpM x y)) ∧ ∃ q os', w' = grow (W.drewN q) os' := by
  have hcon := fun W' => compare_any x.s.1 y.s.1 W'
  unfold cmpM
  generalize cmpKey x.s.1 y.s.1 = r at hcon ⊢
  go_enter Tryz.func50, Tryz.ntmps50
  go_wp2_with (go_at_call 38; refine (hcon _).mono ?_; rintro e w' ⟨rfl, rfl⟩)
  go_ret
  exact ⟨rfl, 0, _, by rw [alloc_eq_grow, alloc_eq_grow, grow_grow]; rfl⟩

/-- the sort of marks of the call's own -/
theorem sortM_any (w : World) (base : Nat) (v : Value) (l : List Wr) (h : OwnMk w base v l) (hl : l.length ≤ 2000000) :
    Calls Tryz.prog 49 #[v, .func (.func 50) #[] #[]] w fun e w' => e = .returned (.tuple #[]) ∧
      ∃ l', OwnMk w' base v l' ∧ w.grownBy w' v.ownBlock ∧ l.Perm l' ∧ l'.Pairwise (fun a c => ¬ c.s.1 < a.s.1) := by
  rcases h.form with ⟨rfl, rfl⟩ | ⟨g, cap, rfl, hg, hlt, hc⟩
  · refine (AnyF.slices_SortFunc_none (P := Tryz.prog) Tryz.sortMk none 0 _ w).mono ?_
    rintro e w' ⟨he, rfl⟩
    exact ⟨he, [], Own.nil _ _, ⟨rfl, rfl, rfl, Nat.le_refl _, fun _ _ _ => rfl⟩, .refl _, .nil⟩
  · have eg : ∀ args w, (callFunc 50 args).run Tryz.prog w = .ok (.enter 50 args) w := enters_of Tryz.func50 (by kernel_rfl) rfl
    have hcon := AnyQ.slices_SortFunc (P := Tryz.prog) Tryz.sortMk 3 Tryz.isAgg67 Tryz.sizeOf67 encW (fun _ => rfl) (fun x v hv => by simp [encW] at hv; rcases hv with rfl | rfl | rfl <;> rfl) cmpM swoM 50 #[] g 0 cap l.toArray w eg
      (fun _ _ _ _ x y => lessM_any x y _) h.holds hlt (by simp; omega)
    refine hcon.mono ?_
    rintro e w' ⟨he, d', n, os, hp, hs, rfl⟩
    have hd : d'.size = l.length := by simpa using hp.1
    obtain ⟨h1, h2⟩ := h.sorted d' hd n os
    refine ⟨he, d'.toList, h1, h2, ?_, ?_⟩
    · have := hp.2.2
      exact (show d'.toList.Perm l by simpa [hd, Array.extract_eq_self_of_le] using this).symm
    · rw [List.pairwise_iff_getElem]
      intro i j hi hj hij
      have hq := hs i j (Nat.zero_le _) hij (by simpa [hd] using hj)
      rw [ltM, getElem!_pos d' i (by simpa using hi), getElem!_pos d' j (by simpa using hj)] at hq
      have hn : ¬ d'[j].s.1 < d'[i].s.1 := by simpa using hq
      simpa using hn
end Go.Proofs.YtcmpbhcldaogiaaGreat
namespace Go.Proofs.YtcmpbhcldaogiaaGreat
open Go.RowKit

theorem insert_cells {cur A B X Y : List Value} (h : cur.take (A.length + B.length) = A ++ B) (hl : A.length + X.length + B.length ≤ cur.length) (hY : Y = splice cur (A.length + X.length) B) :
    (splice Y A.length X).take (A.length + X.length + B.length) = A ++ X ++ B := by
  have hA : cur.take A.length = A := by
    have := congrArg (List.take A.length) h
    rw [List.take_take, List.take_left, Nat.min_eq_left (by omega)] at this
    exact this
  have hYl : Y.length = cur.length := by rw [hY, length_splice _ _ _ (by omega)]
  have h1 : (splice Y A.length X).take (A.length + X.length) = A ++ X := by
    rw [take_splice_end Y X A.length _ (by omega) rfl, hY, take_splice_lt cur B _ _ (by omega) (by omega), hA]
  have h2 : (splice Y A.length X).drop (A.length + X.length) = B ++ cur.drop (A.length + X.length + B.length) := by
    rw [drop_splice_ge Y X A.length _ (Nat.le_refl _) (by omega), hY]
    unfold splice
    rw [List.drop_append, List.drop_eq_nil_of_le (by simp; omega), List.nil_append, show A.length + X.length - (cur.take (A.length + X.length)).length = 0 by simp; omega, List.drop_zero]
  have h3 : splice Y A.length X = (A ++ X ++ B) ++ cur.drop (A.length + X.length + B.length) := by
    rw [← List.take_append_drop (A.length + X.length) (splice Y A.length X), h1, h2, List.append_assoc (A ++ X)]
  rw [h3]
  exact List.take_left' (by simp only [List.length_append])

theorem overlaps_apart {w : World} {g vb : Nat} {cur cs : List Value} {o la ca lb cb : Nat} (hg : Whole w g 67 cur) (hv : Whole w vb 67 cs) (hne : vb ≠ g) (hc : cur.length ≠ 0) :
    (callFunc 67 #[.slice (some ⟨vb, 0, none⟩) la ca, .slice (some ⟨g, o, none⟩) lb cb]).run Tryz.prog w = .ok (.value (.bool false)) w := by
  rw [run_callFunc_extern Tryz.func67 (by kernel_rfl) (by kernel_rfl) (by kernel_rfl) (e := Extern.SlicesOverlaps.overlaps #[44, 44] #[4]) (by kernel_rfl),
    Lib.run_overlaps_apart w 44 4 67 Tryz.underlying44 3 Tryz.sizeOf67 ⟨vb, 0, none⟩ ⟨g, o, none⟩ la ca lb cb hne _ _ _ _ hv.shape hg.shape hc (hv.frozen 0) (hv.frozen _)]
  rfl

set_option maxHeartbeats 4000000 in
set_option maxRecDepth 100000 in
theorem insert_shift (l : List Wr) (i : Nat) (x : Wr) (w : World) (g cap vb : Nat) (cur vcur : List Value) (vc : Nat) (hg : Whole w g 67 cur) (hv : Whole w vb 67 vcur) (hvx : ∀ (j : Nat) (v : Value), (encW x)[j]? = some v → vcur[j]? = some v) (hne : vb ≠ g) (hi : i < l.length) (hroom : l.length + 1 ≤ cap)
    (hcap : cap ≤ maxLen) (hcl : cur.length = cap * 3) (htk : cur.take (l.length * 3) = flatG encW l) :
    Calls Tryz.prog 66 #[.slice (some ⟨g, 0, none⟩) l.length cap, .int .i64 i, .slice (some ⟨vb, 0, none⟩) 1 vc] w fun e w' =>
      e = .returned (.slice (some ⟨g, 0, none⟩) (l.length + 1) cap) ∧ ∃ cur', Whole w' g 67 cur' ∧ cur'.length = cap * 3 ∧ cur'.take ((l.length + 1) * 3) = flatG encW (l.take i ++ [x] ++ l.drop i) ∧ w.grownBy w' (some g) := by
  have hov := fun lb cb => overlaps_apart (o := (i + 1) * 3) (la := 1) (ca := vc) (lb := lb) (cb := cb) hg hv hne (by omega)
  generalize hn : l.length = n at *
  unfold maxLen at hcap
  have hw1 : IntKind.i64.wrap ((i : Int) + 1) = (i : Int) + 1 := by rw [IntKind.wrap_i64]; omega
  have hw2 : IntKind.i64.wrap ((n : Int) + 1) = (n : Int) + 1 := by rw [IntKind.wrap_i64]; omega
  have hb1 : ¬ ((i : Int) = (n : Int)) := by omega
  have hb2 : ¬ ((cap : Int) < (n : Int) + 1) := by omega
  have hb3 : (i : Int) ≤ (n : Int) := by omega
  have hb4 : (i : Int) + 1 ≤ (n : Int) + 1 := by omega
  have hb5 : (n : Int) + 1 ≤ (cap : Int) := by omega
  have hb6 : (0 : Int) ≤ (i : Int) + 1 := by omega
  have hb7 : ¬ (cap = i) := by omega
  have hb8 : ¬ (cap = i + 1) := by omega
  have hb9 : (i : Int) ≤ (n : Int) + 1 := by omega
  have HG := Lib.hid hg; clear hg
  have HV := Lib.hid hv; clear hv
  have HVX := Lib.hid hvx; clear hvx
  have HN := Lib.hid hn; clear hn
  have HT := Lib.hid htk; clear htk
  have HL := Lib.hid hcl; clear hcl
  go_enter Tryz.func66, Tryz.ntmps66
  go_wp2_with fail
  refine wp_region_plan (S := fun _ => True) [(true, 0), (true, 1), (true, 2), (true, 3), (true, 4), (true, 5), (true, 6), (true, 7), (false, 8)] (by kernel_rfl) (by kernel_rfl) (fun _ _ d _ _ h => by cases d <;> exact h) trivial ?_
  repeat (refine Plan.take (v := ?_) rfl rfl ?_ ?_; rotate_left; (focus (intro W hW; go_simp; (try with_reducible rfl); done)); (try simp only [Act.put, List.setIfInBounds_toArray, List.set_cons_zero, List.set_cons_succ]))
  have eA : (l.take i).length = i := by rw [List.length_take, HN.out]; omega
  have eB : (l.drop i).length = n - i := by rw [List.length_drop, HN.out]
  have eX : (encW x).length = 3 := rfl
  have fA : (flatG encW (l.take i)).length = i * 3 := by rw [flatG_length encW_len, eA]
  have fB : (flatG encW (l.drop i)).length = (n - i) * 3 := by rw [flatG_length encW_len, eB]
  have hcut : flatG encW l = flatG encW (l.take i) ++ flatG encW (l.drop i) := by rw [← flatG_append, List.take_append_drop]
  have HA := Lib.hid fA; clear fA
  have HB := Lib.hid fB; clear fB
  have HC := Lib.hid hcut; clear hcut
  clear eA eB eX
  refine Plan.step rfl rfl fun K2 hK => ?_
  refine wp_copyP _ _ rfl g ((i + 1) * 3) cur (flatG encW (l.drop i)) _ _ _ _ _ _ rfl rfl HG.out.drew ?_ (fun _ => rfl) (Srcs.of (HG.out.drew.srcs (i * 3) _ ?_)) ?_ (encW_one' _) ?_
  · rw [HB.out, show (n + 1 - i).min (n - i) = n - i from Nat.min_eq_right (by omega)]
  · rw [← HA.out]
    exact cells_at (n := n * 3) (by rw [HT.out, HC.out])
  · rw [HB.out, HL.out]; omega
  intro w2 hm2
  refine hK _ _ trivial ?_
  simp only [Plan]
  clear hK
  have hv2 : Whole w2 vb 67 vcur := hm2.out.away HV.out.drew hne
  have HV2 := Lib.hid hv2; clear hv2
  obtain ⟨Y, hY⟩ : ∃ Y, Y = splice cur ((i + 1) * 3) (flatG encW (l.drop i)) := ⟨_, rfl⟩
  rw [← hY] at hm2
  have hYl : Y.length = cap * 3 := by rw [hY, length_splice _ _ _ (by rw [HB.out, HL.out]; omega), HL.out]
  have HY := Lib.hid hY; clear hY
  have HYL := Lib.hid hYl; clear hYl
  go_wp2_with (with_reducible show wpList _ _ _ (⟨some 82, _, _, _, _, _⟩ :: _) _ _; go_must (refine wpList_copyP rfl _ _ rfl g (i * 3) Y (encW x) _ _ _ _ _ _ rfl rfl hm2.out.whole ?c1 (fun _ => rfl) (Srcs.of ?c2) ?c3 (encW_one x) ?_))
  case c1 => rw [show Nat.min 1 (n + 1 - i) = 1 from Nat.min_eq_left (by omega)]; rfl
  case c2 => exact HV2.out.srcs 0 _ (fun j v hj => by rw [Nat.zero_add]; exact HVX.out j v hj)
  case c3 => rw [HYL.out]; show i * 3 + 3 ≤ _; omega
  intro w3 hm3
  go_wp2_with fail
  go_ret
  refine ⟨rfl, _, hm3.out.whole, ?_, ?_, ?_⟩
  · rw [length_splice _ _ _ (by rw [HYL.out]; show i * 3 + 3 ≤ _; omega), HYL.out]
  · have h := insert_cells (cur := cur) (A := flatG encW (l.take i)) (B := flatG encW (l.drop i)) (X := encW x) (Y := Y) (by rw [HA.out, HB.out, show i * 3 + (n - i) * 3 = n * 3 by omega, HT.out, HC.out]) (by rw [HA.out, HB.out, HL.out]; show i * 3 + 3 + _ ≤ _; omega) (by rw [HY.out, HA.out, show (i + 1) * 3 = i * 3 + (encW x).length by show _ = i * 3 + 3; omega])
    rw [HA.out, HB.out, show i * 3 + (encW x).length + (n - i) * 3 = (n + 1) * 3 by show i * 3 + 3 + _ = _; omega] at h
    rw [h, flatG_append, flatG_append]
    simp [flatG]
  · have h1 := hm2.out.grown
    have h2 := hm3.out.grown
    exact ⟨h2.os.trans h1.os, h2.tape.trans h1.tape, h2.output.trans h1.output, Nat.le_trans h1.size h2.size, fun k hk hn => (h2.block k (Nat.lt_of_lt_of_le hk h1.size) hn).trans (h1.block k hk hn)⟩

theorem grown_undrew {w w' : World} {row : Option Nat} (h : w.drew.grownBy w' row) : w.grownBy w' row := ⟨h.os, h.tape, h.output, h.size, h.block⟩
theorem grown_trans {a b c : World} {row : Option Nat} (h1 : a.grownBy b row) (h2 : b.grownBy c row) : a.grownBy c row :=
  ⟨h2.os.trans h1.os, h2.tape.trans h1.tape, h2.output.trans h1.output, Nat.le_trans h1.size h2.size, fun k hk hn => (h2.block k (Nat.lt_of_lt_of_le hk h1.size) hn).trans (h1.block k hk hn)⟩
theorem grown_new {a b c : World} {g : Nat} (h1 : a.grownBy b none) (h2 : b.grownBy c (some g)) (hg : a.heap.size ≤ g) : a.grownBy c none :=
  ⟨h2.os.trans h1.os, h2.tape.trans h1.tape, h2.output.trans h1.output, Nat.le_trans h1.size h2.size, fun k hk _ => (h2.block k (Nat.lt_of_lt_of_le hk h1.size) (by simp; omega)).trans (h1.block k hk (by simp))⟩

set_option maxHeartbeats 4000000 in
set_option maxRecDepth 100000 in
theorem insert_grow (l : List Wr) (i : Nat) (x : Wr) (w : World) (g cap vb : Nat) (cur vcur : List Value) (vc : Nat) (hg : Whole w g 67 cur) (hv : Whole w vb 67 vcur) (hvx : ∀ (j : Nat) (v : Value), (encW x)[j]? = some v → vcur[j]? = some v) (hi : i < l.length) (hroom : cap < l.length + 1)
    (hcap : l.length ≤ cap) (hcl : cur.length = cap * 3) (htk : cur.take (l.length * 3) = flatG encW l) (hlen : l.length + 1 ≤ 2000000) :
    Calls Tryz.prog 66 #[.slice (some ⟨g, 0, none⟩) l.length cap, .int .i64 i, .slice (some ⟨vb, 0, none⟩) 1 vc] w fun e w' =>
      ∃ c, e = .returned (.slice (some ⟨w.heap.size, 0, none⟩) (l.length + 1) c) ∧ ∃ cur', Whole w' w.heap.size 67 cur' ∧ cur'.length = c * 3 ∧ l.length + 1 ≤ c ∧ c ≤ maxLen ∧ cur'.take ((l.length + 1) * 3) = flatG encW (l.take i ++ [x] ++ l.drop i) ∧ w.grownBy w' none := by
  generalize hn : l.length = n at *
  obtain rfl : cap = n := by omega
  obtain ⟨d, hd⟩ : ∃ d, cap + 1 = i + d := ⟨cap + 1 - i, by omega⟩
  have hw1 : IntKind.i64.wrap ((i : Int) + 1) = (i : Int) + 1 := by rw [IntKind.wrap_i64]; omega
  have hw2 : IntKind.i64.wrap ((cap : Int) + 1) = (cap : Int) + 1 := by rw [IntKind.wrap_i64]; omega
  have hw3 : IntKind.i64.wrap ((cap : Int) + 1 - (i : Int)) = (d : Int) := by rw [IntKind.wrap_i64]; omega
  have hb1 : ¬ ((i : Int) = (cap : Int)) := by omega
  have hb2 : ((cap : Int) < (cap : Int) + 1) := by omega
  have hb3 : (i : Int) ≤ (cap : Int) := by omega
  have hb4 : (i : Int) ≤ (i : Int) + (d : Int) := by omega
  have hb5 : (i : Int) + 1 ≤ (i : Int) + (d : Int) := by omega
  have hb6 : (0 : Int) ≤ (i : Int) + 1 := by omega
  have hb7 : ¬ (cap = i) := by omega
  have hvlt := hv.size
  have hglt := hg.size
  have eA : (l.take i).length = i := by rw [List.length_take, hn]; omega
  have eB : (l.drop i).length = cap - i := by rw [List.length_drop, hn]
  have fA : (flatG encW (l.take i)).length = i * 3 := by rw [flatG_length encW_len, eA]
  have fB : (flatG encW (l.drop i)).length = (cap - i) * 3 := by rw [flatG_length encW_len, eB]
  have hcut : cur.take (cap * 3) = flatG encW (l.take i) ++ flatG encW (l.drop i) := by rw [htk, ← flatG_append, List.take_append_drop]
  have HA := Lib.hid fA; clear fA
  have HB := Lib.hid fB; clear fB
  have HC := Lib.hid hcut; clear hcut
  clear eA eB htk
  have HG := Lib.hid hg; clear hg
  have HV := Lib.hid hv; clear hv
  have HVX := Lib.hid hvx; clear hvx
  have HN := Lib.hid hn; clear hn
  have HL := Lib.hid hcl; clear hcl
  have HD := Lib.hid hd; clear hd
  go_enter Tryz.func66, Tryz.ntmps66
  go_wp2_with (with_reducible show wpList _ _ _ (⟨some 40, _, _, _, _, _⟩ :: _) _ _; go_must (refine wpList_zerosP rfl _ _ rfl (some ⟨g, 0, none⟩) i cap d (flatG encW (l.take i)) rfl rfl HA.out (Srcs.of ?c1) ?c2 ?c3 ?c4 ?_))
  case c1 =>
    have h := congrArg (List.take (i * 3)) HC.out
    rw [List.take_take, Nat.min_eq_left (by omega), ← HA.out, List.take_left] at h
    have h2 := cells_at (A := []) (B := flatG encW (l.take i)) (cur := cur) h
    exact HG.out.srcs 0 _ h2
  case c2 => have := HD.out; omega
  case c3 => have := HD.out; omega
  case c4 => have := HD.out; omega
  intro w1 c cur1 hz hc
  have hc1 : ¬ (c = i) := by have := HD.out; omega
  have hc2 : ¬ (c = i + 1) := by have := HD.out; omega
  have hv1 : Whole w1 vb 67 vcur := HV.out.grown hz.out.2.2.2.2.2.1 (by simp)
  have hg1 : Whole w1 g 67 cur := HG.out.grown hz.out.2.2.2.2.2.1 (by simp)
  have HV1 := Lib.hid hv1; clear hv1
  have HG1 := Lib.hid hg1; clear hg1
  clear hc
  go_wp2_with (with_reducible show wpList _ _ _ (⟨some 45, _, _, _, _, _⟩ :: _) _ _; go_must (refine wpList_copyP rfl _ _ rfl w.heap.size (i * 3) cur1 (encW x) _ _ _ _ _ _ rfl rfl hz.out.1 ?d1 (fun _ => rfl) (Srcs.of ?d2) ?d3 (encW_one x) ?_))
  case d1 => rw [show Nat.min 1 d = 1 from Nat.min_eq_left (by have := HD.out; omega)]; rfl
  case d2 => exact HV1.out.srcs 0 _ (fun j v hj => by rw [Nat.zero_add]; exact HVX.out j v hj)
  case d3 => rw [hz.out.2.1]; show i * 3 + 3 ≤ _; have := hz.out.2.2.2.1; have := HD.out; omega
  intro w2 hm2
  obtain ⟨Y, hY⟩ : ∃ Y, Y = splice cur1 (i * 3) (encW x) := ⟨_, rfl⟩
  rw [← hY] at hm2
  have hX2 : (encW x).length = 3 := rfl
  have hYl : Y.length = c * 3 := by rw [hY, length_splice _ _ _ (by rw [hX2, hz.out.2.1]; have := hz.out.2.2.2.1; have := HD.out; omega), hz.out.2.1]
  have hYt : Y.take ((i + 1) * 3) = flatG encW (l.take i) ++ encW x := by
    rw [hY, take_splice_end cur1 _ (i * 3) _ (by rw [hz.out.2.1]; have := hz.out.2.2.2.1; omega) (by rw [hX2]; omega), hz.out.2.2.1]
  have hg2 : Whole w2 g 67 cur := HG1.out.grown hm2.out.grown (by simp; omega)
  have HG2 := Lib.hid hg2; clear hg2
  have HYL := Lib.hid hYl; clear hYl
  have HYT := Lib.hid hYt; clear hYt
  have HX2 := Lib.hid hX2; clear hX2
  clear hY
  go_wp2_with fail
  refine wp_region_plan (S := fun _ => True) [(true, 0), (true, 1), (true, 2), (true, 3), (true, 4), (true, 5), (true, 6), (true, 7), (false, 8)] (by kernel_rfl) (by kernel_rfl) (fun _ _ d _ _ h => by cases d <;> exact h) trivial ?_
  repeat (refine Plan.take (v := ?_) rfl rfl ?_ ?_; rotate_left; (focus (intro W hW; go_simp; (try with_reducible rfl); done)); (try simp only [Act.put, List.setIfInBounds_toArray, List.set_cons_zero, List.set_cons_succ]))
  refine Plan.step rfl rfl fun K2 hK => ?_
  refine wp_copyP _ _ rfl w.heap.size ((i + 1) * 3) Y (flatG encW (l.drop i)) _ _ _ _ _ _ rfl rfl hm2.out.whole.drew ?_ (fun _ => rfl) (Srcs.of (HG2.out.drew.srcs (i * 3) _ ?_)) ?_ (encW_one' _) ?_
  · rw [HB.out, show Nat.min (cap - i) (i + d - (i + 1)) = cap - i from Nat.min_eq_left (by have := HD.out; omega)]
  · rw [← HA.out]
    exact cells_at (n := cap * 3) HC.out
  · rw [HB.out, HYL.out]; have := hz.out.2.2.2.1; have := HD.out; omega
  intro w3 hm3
  refine hK _ _ trivial ?_
  simp only [Plan]
  clear hK
  go_wp2_with fail
  go_ret
  refine ⟨c, ?_, _, hm3.out.whole, ?_, ?_, hz.out.2.2.2.2.1, ?_, ?_⟩
  · rw [HD.out]; rfl
  · rw [length_splice _ _ _ (by rw [HB.out, HYL.out]; have := hz.out.2.2.2.1; have := HD.out; omega), HYL.out]
  · have := hz.out.2.2.2.1; have := HD.out; omega
  · rw [take_splice_end Y _ ((i + 1) * 3) _ (by rw [HYL.out]; have := hz.out.2.2.2.1; have := HD.out; omega) (by rw [HB.out]; omega), HYT.out, flatG_append, flatG_append]
    simp [flatG]
  · exact grown_new (grown_new hz.out.2.2.2.2.2.1 hm2.out.grown (Nat.le_refl _)) (grown_undrew hm3.out.grown) (Nat.le_refl _)

theorem newRow_new (w : World) (o : Option Nat) (n c : Nat) : NewRow w o (Value.ownBlock (.slice (some ⟨w.heap.size, 0, none⟩) n c)) := fun g' hg' => .inr (by
  have e : w.heap.size = g' := by simpa [Value.ownBlock] using hg'
  rw [e]
  exact Nat.le_refl _)
/-- what is put in, in a block of its own -/
def SrcK (w : World) (v : Value) (p : List Wr) (vp : Value) : Prop :=
  ∃ vb vc vcur, vp = .slice (some ⟨vb, 0, none⟩) p.length vc ∧ p.length ≤ vc ∧ Whole w vb 67 vcur ∧ vcur.take (p.length * 3) = flatG encW p ∧ some vb ≠ v.ownBlock
theorem src_cells {vcur : List Value} {p : List Wr} (h : vcur.take (p.length * 3) = flatG encW p) (j : Nat) (v : Value) (hj : (flatG encW p)[j]? = some v) : vcur[j]? = some v := by
  have := cells_at (A := []) (B := flatG encW p) (cur := vcur) h j v hj
  simpa using this

theorem Own.slice {α : Type} {enc : α → List Value} {k : Nat} {e : TypeId} {w : World} {base : Nat} {v : Value} {l : List α} (h : Own enc k e w base v l) : ∃ A c, v = .slice A l.length c ∧ l.length ≤ c ∧ c ≤ maxLen := by
  rcases h.row with ⟨rfl, rfl⟩ | ⟨g, cap, cur, rfl, _, _, h1, h2, _⟩
  · exact ⟨none, 0, rfl, Nat.le_refl _, by simp [maxLen]⟩
  · exact ⟨_, _, rfl, h1, h2⟩
theorem SrcK.rd {w : World} {v vp : Value} {p : List Wr} (h : SrcK w v p vp) : RdW w w.heap.size vp p := by
  obtain ⟨vb, vc, vcur, rfl, h1, h2, h3, h4⟩ := h
  refine ⟨_, vc, rfl, h1, fun i hi => ⟨vb, 0, rfl, h2.size, fun j u hu => ?_⟩⟩
  have hj : j < 3 := by
    rcases Nat.lt_or_ge j 3 with h' | h'
    · exact h'
    · rw [List.getElem?_eq_none (by rw [encW_len]; exact h')] at hu; cases hu
  refine h2.cell _ _ (src_cells h3 _ _ ?_)
  rw [Nat.zero_add, flatG_get encW_len p i hi j hj]
  exact hu

set_option maxHeartbeats 4000000 in
set_option maxRecDepth 100000 in
theorem insert_end (l : List Wr) (x : Wr) (v vp : Value) (w : World) (base : Nat) (hown : OwnMk w base v l) (hbase : base ≤ w.heap.size) (hv : SrcK w v [x] vp) (hlen : l.length + 1 ≤ 1000000) :
    Calls Tryz.prog 66 #[v, .int .i64 l.length, vp] w fun e w' =>
      ∃ A' c', e = .returned (.slice A' (l ++ [x]).length c') ∧ OwnMk w' base (.slice A' (l ++ [x]).length c') (l ++ [x]) ∧ w.grownBy w' v.ownBlock ∧ NewRow w v.ownBlock (Value.ownBlock (.slice A' (l ++ [x]).length c')) := by
  obtain ⟨A, c, rfl, hc, hcm⟩ := hown.slice
  have HR := Lib.hid hv.rd
  obtain ⟨vb, vc, vcur, rfl, _⟩ := hv
  have HO := Lib.hid hown; clear hown
  have hb0 : (0 : Int) ≤ (l.length : Int) := by omega
  go_enter Tryz.func66, Tryz.ntmps66
  obtain ⟨i0, hi, hz0, hz1, hz2⟩ := info_mkE
  simp only [List.length_cons, List.length_nil] at HR ⊢
  go_wp2_with (at_builtin; go_must (refine BigFrame.wpList_want rfl fun K2 hK => ?_; refine wp_addAnyN (enc := encW) (k := 3) 44 67 40 i0 _ Tryz.underlying44 hi hz0 hz1 hz2 rfl (by decide) encW_len encW_one _ _ rfl base _ l rfl HO.out w.heap.size _ [x] rfl HR.out (by unfold maxLen; simp; omega) (by simp; omega) hbase ?_))
  all_goals
    intro A' c' w1 h1 h2 h3
    have HO1 := Lib.hid h1; clear h1
    have HG1 := Lib.hid h2; clear h2
    have HN1 := Lib.hid h3; clear h3
    refine hK _ _ ?_
    clear hK
    go_wp2_with fail
    go_ret
    rw [show (l ++ [x]).length = l.length + 1 by simp]
    exact ⟨A', c', rfl, HO1.out, by cases A <;> exact HG1.out, by cases A <;> exact HN1.out⟩

theorem sinsert_any (l : List Wr) (i : Nat) (hi : i ≤ l.length) (x : Wr) (v vp : Value) (w : World) (base : Nat) (hown : OwnMk w base v l) (hbase : base ≤ w.heap.size) (hp : SrcK w v [x] vp) (hlen : l.length + 1 ≤ 1000000) :
    Calls Tryz.prog 66 #[v, .int .i64 i, vp] w fun e w' =>
      ∃ A' c', e = .returned (.slice A' (l.take i ++ [x] ++ l.drop i).length c') ∧ OwnMk w' base (.slice A' (l.take i ++ [x] ++ l.drop i).length c') (l.take i ++ [x] ++ l.drop i) ∧ w.grownBy w' v.ownBlock ∧ NewRow w v.ownBlock (Value.ownBlock (.slice A' (l.take i ++ [x] ++ l.drop i).length c')) := by
  by_cases he : i = l.length
  · subst he
    rw [List.take_length, List.drop_length, List.append_nil]
    exact insert_end l x v vp w base hown hbase hp hlen
  · have hlt : i < l.length := by omega
    have hL : (l.take i ++ [x] ++ l.drop i).length = l.length + 1 := by simp; omega
    obtain ⟨vb, vc, vcur, rfl, _, hv, hvx, hne⟩ := hp
    have hvx' := src_cells hvx
    rw [show flatG encW [x] = encW x by simp [flatG]] at hvx'
    rcases hown.row with ⟨rfl, rfl⟩ | ⟨g, cap, cur, rfl, hbg, hg, h1, h2, h3, h4⟩
    · simp at hlt
    · have hvg : vb ≠ g := fun e => hne (by rw [e]; rfl)
      by_cases hroom : l.length + 1 ≤ cap
      · refine (insert_shift l i x w g cap vb cur vcur vc hg hv hvx' hvg hlt hroom h2 h3 h4).mono ?_
        rintro e w' ⟨rfl, cur', k1, k2, k3, k4⟩
        exact ⟨some ⟨g, 0, none⟩, cap, by rw [hL], Own.ofRow encW_len _ hbg k1 (by rw [hL]; exact hroom) h2 k2 (by rw [hL]; exact k3), k4, fun g' hg' => .inl hg'⟩
      · refine (insert_grow l i x w g cap vb cur vcur vc hg hv hvx' hlt (by omega) h1 h3 h4 (by omega)).mono ?_
        rintro e w' ⟨c, rfl, cur', k1, k2, k3, k4, k5, k6⟩
        exact ⟨some ⟨w.heap.size, 0, none⟩, c, by rw [hL], Own.ofRow encW_len _ hbase k1 (by rw [hL]; exact k3) k4 k2 (by rw [hL]; exact k5), ⟨k6.os, k6.tape, k6.output, k6.size, fun k hk _ => k6.block k hk (by simp)⟩, newRow_new _ _ _ _⟩
end Go.Proofs.YtcmpbhcldaogiaaGreat
