/- When keys were written last, as a state: pure. Marks as a state: what each call answers; pure. What the reference's Spans answers (for seats without pairs). (For seats without bytes; others have it in Hold.) What moves and what stays. What a slice reads as, and which blocks it does not lie in: for whatever element type. Slices of ints: read, owned, appended to; those that came in. The reference's Marks as a state of the heap; New, Forget, left. Moves inside the row of a slice of pairs, as steps of a walk; what is left of the row. What the small functions of the span layer answer: contracts, each for every argument and every world. -/
import Derived.Test.YtgppgecglkellaaFab
import Derived.Test.YtgppgecglkellaaFaa
namespace Go.Proofs.Ytgppgecglkellaa

/-- a span that was written at a version -/
structure Wr where
  s : K × K
  v : Int
instance : Inhabited Wr := ⟨⟨(⟨#[]⟩, ⟨#[]⟩), 0⟩⟩
instance (s : K × K) (k : K) : Decidable (has s k) := by unfold has; exact inferInstance
/-- when a key was written last; 0: never -/
def ver (L : List Wr) (k : K) : Int := L.foldl (fun n x => if has x.s k then x.v else n) 0
theorem ver_nil (k : K) : ver [] k = 0 := rfl
theorem ver_snoc (L : List Wr) (x : Wr) (k : K) : ver (L ++ [x]) k = if has x.s k then x.v else ver L k := by simp [ver]
theorem ver_pass : ∀ (B A : List Wr) (k : K), (∀ y ∈ B, ¬ has y.s k) → ver (A ++ B) k = ver A k
  | [], A, k, _ => by simp
  | y :: B, A, k, h => by
    rw [show A ++ y :: B = (A ++ [y]) ++ B by simp, ver_pass B _ k (fun z hz => h z (by simp [hz])), ver_snoc, if_neg (h y (by simp))]
/-- the j-th one is the last that has the key -/
def Left (L : List Wr) (j : Nat) (k : K) : Prop := ∃ x, L[j]? = some x ∧ has x.s k ∧ ∀ y ∈ L.drop (j + 1), ¬ has y.s k
theorem ver_left {L : List Wr} {j : Nat} {k : K} {x : Wr} (h : Left L j k) (hx : L[j]? = some x) : ver L k = x.v := by
  obtain ⟨x', hx', hk, hn⟩ := h
  rw [hx] at hx'
  injection hx' with hx'
  subst hx'
  have hj := (List.getElem?_eq_some_iff.1 hx).1
  have h1 := ver_pass (L.drop (j + 1)) (L.take (j + 1)) k hn
  rw [List.take_append_drop] at h1
  rw [h1, List.take_add_one, hx, Option.toList_some, ver_snoc, if_pos hk]
theorem left_of : ∀ (n : Nat) (L : List Wr) (k : K), L.length = n → (∃ y ∈ L, has y.s k) → ∃ j, Left L j k
  | 0, L, k, hn, ⟨y, hy, _⟩ => by rw [List.eq_nil_of_length_eq_zero hn] at hy; simp at hy
  | n + 1, L, k, hn, ⟨y, hy, hk⟩ => by
    rcases List.eq_nil_or_concat L with rfl | ⟨A, x, rfl⟩
    · simp at hn
    · rw [List.concat_eq_append] at *
      by_cases hx : has x.s k
      · exact ⟨A.length, x, by simp, hx, by simp⟩
      · have hyA : y ∈ A := by
          rcases List.mem_append.1 hy with hy | hy
          · exact hy
          · rw [List.mem_singleton] at hy; subst hy; exact absurd hk hx
        obtain ⟨j, z, hz, hzk, hzn⟩ := left_of n A k (by simpa using hn) ⟨y, hyA, hk⟩
        have hj := (List.getElem?_eq_some_iff.1 hz).1
        refine ⟨j, z, by rw [List.getElem?_append_left hj]; exact hz, hzk, fun u hu => ?_⟩
        rw [List.drop_append_of_le_length (by omega)] at hu
        rcases List.mem_append.1 hu with hu | hu
        · exact hzn u hu
        · rw [List.mem_singleton] at hu; subst hu; exact hx
theorem ver_cases (L : List Wr) (k : K) : (ver L k = 0 ∧ ∀ j, ¬ Left L j k) ∨ ∃ j x, L[j]? = some x ∧ Left L j k ∧ ver L k = x.v := by
  by_cases h : ∃ y ∈ L, has y.s k
  · obtain ⟨j, hj⟩ := left_of _ L k rfl h
    obtain ⟨x, hx, _⟩ := id hj
    exact .inr ⟨j, x, hx, hj, ver_left hj hx⟩
  · refine .inl ⟨?_, ?_⟩
    · have := ver_pass L [] k (fun y hy hk => h ⟨y, hy, hk⟩)
      simpa [ver_nil] using this
    · rintro j ⟨x, hx, hk, _⟩
      exact h ⟨x, List.mem_of_getElem? hx, hk⟩

/-! ### where what was written at one version begins -/
/-- a key is the first of those that were written at its version, above b -/
def isStart (f : K → Int) (b : Int) (k : K) : Prop := b < f k ∧ ∀ j, j < k → ∃ x, j ≤ x ∧ x < k ∧ f x ≠ f k
/-- as many such keys there are -/
def SizeIs (f : K → Int) (b : Int) (n : Nat) : Prop := ∃ l : List K, l.Nodup ∧ l.length = n ∧ ∀ k, k ∈ l ↔ isStart f b k
theorem nodup_len {α : Type} [DecidableEq α] : ∀ (l r : List α), l.Nodup → (∀ x ∈ l, x ∈ r) → l.length ≤ r.length
  | [], r, _, _ => Nat.zero_le _
  | x :: l, r, hn, h => by
    obtain ⟨h1, h2⟩ := List.nodup_cons.1 hn
    have hx := h x (by simp)
    have ih := nodup_len l (r.erase x) h2 (fun y hy => (List.mem_erase_of_ne (fun e => h1 (by rw [← e]; exact hy))).2 (h y (by simp [hy])))
    rw [List.length_erase_of_mem hx] at ih
    have := List.length_pos_of_mem hx
    simp only [List.length_cons]
    omega
theorem SizeIs.eq {f : K → Int} {b : Int} {n m : Nat} (h : SizeIs f b n) (h2 : SizeIs f b m) : n = m := by
  obtain ⟨l, hn, rfl, hl⟩ := h
  obtain ⟨r, hm, rfl, hr⟩ := h2
  have h1 := nodup_len l r hn (fun x hx => (hr x).2 ((hl x).1 hx))
  have h2 := nodup_len r l hm (fun x hx => (hl x).2 ((hr x).1 hx))
  omega
/-- pieces that say of all keys above b when they were written last -/
structure Pieces (f : K → Int) (b : Int) (A : List Wr) : Prop where
  ne : ∀ x ∈ A, x.s.1 < x.s.2 ∧ b < x.v
  all : ∀ k, b < f k → ∃ x ∈ A, has x.s k
  says : ∀ x ∈ A, ∀ k, has x.s k → f k = x.v
  apart : A.Pairwise fun x y => ∀ k, has x.s k → ¬ has y.s k
theorem Pieces.one {f : K → Int} {b : Int} {A : List Wr} (h : Pieces f b A) {x y : Wr} (hx : x ∈ A) (hy : y ∈ A) {k : K} (h1 : has x.s k) (h2 : has y.s k) : x = y := by
  by_cases e : x = y
  · exact e
  · obtain ⟨i, hi, rfl⟩ := List.mem_iff_getElem.1 hx
    obtain ⟨j, hj, rfl⟩ := List.mem_iff_getElem.1 hy
    have hp := List.pairwise_iff_getElem.1 h.apart
    rcases Nat.lt_trichotomy i j with hij | hij | hij
    · exact absurd h2 (hp i j hi hj hij k h1)
    · subst hij; rfl
    · exact absurd h1 (hp j i hj hi hij k h2)
/-- the one that reaches furthest of those that do not reach behind k -/
theorem furthest : ∀ (A : List Wr) (j k : K), (∀ x ∈ A, x.s.1 < x.s.2) → (∃ x ∈ A, ∃ u, has x.s u ∧ j ≤ u ∧ x.s.2 ≤ k) → ∃ x ∈ A, x.s.2 ≤ k ∧ j < x.s.2 ∧ ∀ y ∈ A, y.s.2 ≤ k → y.s.2 ≤ x.s.2
  | [], _, _, _, ⟨x, hx, _⟩ => by simp at hx
  | z :: A, j, k, hne, hex => by
    by_cases hA : ∃ x ∈ A, ∃ u, has x.s u ∧ j ≤ u ∧ x.s.2 ≤ k
    · obtain ⟨x, hx, h1, h2, h3⟩ := furthest A j k (fun x hx => hne x (by simp [hx])) hA
      by_cases hz : z.s.2 ≤ k ∧ x.s.2 < z.s.2
      · refine ⟨z, by simp, hz.1, by have := hz.2; grind, fun y hy hyk => ?_⟩
        rcases List.mem_cons.1 hy with rfl | hy
        · exact Std.IsPreorder.le_refl _
        · have := h3 y hy hyk; have := hz.2; grind
      · refine ⟨x, by simp [hx], h1, h2, fun y hy hyk => ?_⟩
        rcases List.mem_cons.1 hy with rfl | hy
        · by_cases hc : x.s.2 < y.s.2
          · exact absurd ⟨hyk, hc⟩ hz
          · grind
        · exact h3 y hy hyk
    · obtain ⟨x, hx, u, h1, h2, h3⟩ := hex
      rcases List.mem_cons.1 hx with rfl | hx
      · refine ⟨x, by simp, h3, by unfold has at h1; grind, fun y hy hyk => ?_⟩
        rcases List.mem_cons.1 hy with rfl | hy
        · exact Std.IsPreorder.le_refl _
        · by_cases hc : x.s.2 < y.s.2
          · have hy1 := hne y (by simp [hy])
            exact absurd ⟨y, hy, mx y.s.1 j, by rcases mx_cases y.s.1 j with ⟨e1, e2⟩ | ⟨e1, e2⟩ <;> rw [e2] <;> unfold has at * <;> grind, by rcases mx_cases y.s.1 j with ⟨e1, e2⟩ | ⟨e1, e2⟩ <;> rw [e2] <;> grind, hyk⟩ hA
          · grind
      · exact absurd ⟨x, hx, u, h1, h2, h3⟩ hA
theorem Pieces.start {f : K → Int} {b : Int} {A : List Wr} (h : Pieces f b A) (k : K) : isStart f b k ↔ ∃ x ∈ A, x.s.1 = k ∧ ∀ y ∈ A, ¬ (y.s.2 = k ∧ y.v = x.v) := by
  constructor
  · rintro ⟨hb, hj⟩
    obtain ⟨x, hx, hxk⟩ := h.all k hb
    have hfx := h.says x hx k hxk
    have e : x.s.1 = k := by
      by_cases hlt : x.s.1 < k
      · obtain ⟨u, h1, h2, h3⟩ := hj x.s.1 hlt
        refine absurd ?_ h3
        rw [hfx, h.says x hx u ⟨h1, by unfold has at hxk; grind⟩]
      · unfold has at hxk; grind
    refine ⟨x, hx, e, fun y hy hyk => ?_⟩
    have hy1 := (h.ne y hy).1
    obtain ⟨u, h1, h2, h3⟩ := hj y.s.1 (by rw [← hyk.1]; exact hy1)
    refine h3 ?_
    rw [hfx, h.says y hy u ⟨h1, by rw [hyk.1]; exact h2⟩, hyk.2]
  · rintro ⟨x, hx, rfl, hno⟩
    have hx1 := (h.ne x hx).1
    have hxk : has x.s x.s.1 := ⟨Std.IsPreorder.le_refl _, hx1⟩
    have hfx := h.says x hx _ hxk
    refine ⟨by rw [hfx]; exact (h.ne x hx).2, fun j hj => Classical.byContradiction fun hcon => ?_⟩
    have hall : ∀ u, j ≤ u → u < x.s.1 → f u = x.v := fun u h1 h2 => Classical.byContradiction fun hne => hcon ⟨u, h1, h2, by rw [hfx]; exact hne⟩
    have hreach : ∀ u, j ≤ u → u < x.s.1 → ∃ y ∈ A, has y.s u ∧ y.s.2 ≤ x.s.1 := fun u h1 h2 => by
      obtain ⟨y, hy, hyu⟩ := h.all u (by rw [hall u h1 h2]; exact (h.ne x hx).2)
      refine ⟨y, hy, hyu, ?_⟩
      by_cases hc : x.s.1 < y.s.2
      · have := h.one hx hy hxk ⟨by unfold has at hyu; grind, hc⟩
        subst this
        unfold has at hyu
        grind
      · grind
    obtain ⟨y0, hy0, hyu0, hyk0⟩ := hreach j (Std.IsPreorder.le_refl _) hj
    obtain ⟨z, hz, hz1, hz2, hz3⟩ := furthest A j x.s.1 (fun x hx => (h.ne x hx).1) ⟨y0, hy0, j, hyu0, Std.IsPreorder.le_refl _, hyk0⟩
    by_cases he : z.s.2 = x.s.1
    · have hzne := (h.ne z hz).1
      have hzu : has z.s (mx z.s.1 j) ∧ j ≤ mx z.s.1 j ∧ mx z.s.1 j < x.s.1 := by
        rcases mx_cases z.s.1 j with ⟨e1, e2⟩ | ⟨e1, e2⟩ <;> rw [e2] <;> unfold has <;> grind
      have h1 := h.says z hz _ hzu.1
      rw [hall _ hzu.2.1 hzu.2.2] at h1
      exact hno z hz ⟨he, h1.symm⟩
    · have hlt : z.s.2 < x.s.1 := by
        rcases Std.le_iff_lt_or_eq.1 hz1 with h1 | h1
        · exact h1
        · exact absurd h1 he
      obtain ⟨y, hy, hyu, hyk⟩ := hreach z.s.2 (Std.le_of_lt hz2) hlt
      have := hz3 y hy hyk
      unfold has at hyu
      grind

/-! ### how the reference counts them -/
def touch (x y : Wr) : Bool := decide (x.s.2 = y.s.1) && decide (x.v = y.v)
def pairsOf (A B : List Wr) : Nat := (A.map fun x => (B.filter (touch x)).length).sum
theorem pairs_swap (p : Wr → Wr → Bool) : ∀ A B : List Wr, (A.map fun x => (B.filter (p x)).length).sum = (B.map fun y => (A.filter fun x => p x y).length).sum
  | [], B => by
    induction B with
    | nil => rfl
    | cons y B ih => simpa using ih
  | x :: A, B => by
    rw [List.map_cons, List.sum_cons, pairs_swap p A B]
    induction B with
    | nil => simp
    | cons y B ih =>
      rw [List.map_cons, List.map_cons, List.sum_cons, List.sum_cons, ← ih]
      by_cases h : p x y = true
      · rw [List.filter_cons_of_pos h, List.filter_cons_of_pos (by exact h)]
        simp only [List.length_cons]
        omega
      · rw [List.filter_cons_of_neg h, List.filter_cons_of_neg (by exact h)]
        omega
theorem sum_ind (q : Wr → Bool) (g : Wr → Nat) : ∀ A : List Wr, (∀ x ∈ A, g x = if q x then 1 else 0) → (A.map g).sum = (A.filter q).length
  | [], _ => rfl
  | x :: A, h => by
    rw [List.map_cons, List.sum_cons, sum_ind q g A (fun y hy => h y (by simp [hy])), h x (by simp)]
    by_cases hq : q x = true
    · rw [if_pos hq, List.filter_cons_of_pos hq, List.length_cons]; omega
    · rw [if_neg hq, List.filter_cons_of_neg hq]; omega
theorem Pieces.ends {f : K → Int} {b : Int} {A : List Wr} (h : Pieces f b A) (y : Wr) : (A.filter fun x => touch x y).length = if (A.any fun x => touch x y) then 1 else 0 := by
  have hp := h.apart.sublist (List.filter_sublist (p := fun x => touch x y) (l := A))
  have hm : ∀ x ∈ A.filter (fun x => touch x y), x.s.2 = y.s.1 ∧ x.s.1 < x.s.2 := fun x hx => by
    obtain ⟨h1, h2⟩ := List.mem_filter.1 hx
    simp only [touch, Bool.and_eq_true, decide_eq_true_eq] at h2
    exact ⟨h2.1, (h.ne x h1).1⟩
  by_cases ha : (A.any fun x => touch x y) = true
  · rw [if_pos ha]
    obtain ⟨x, hx, hxt⟩ := List.any_eq_true.1 ha
    have hmem : x ∈ A.filter (fun x => touch x y) := List.mem_filter.2 ⟨hx, hxt⟩
    generalize A.filter (fun x => touch x y) = F at hp hm hmem
    match F, hp, hm, hmem with
    | [_], _, _, _ => rfl
    | u :: v :: F, hp, hm, _ =>
      exfalso
      have h1 := hm u (by simp)
      have h2 := hm v (by simp)
      have h3 := (List.pairwise_cons.1 hp).1 v (by simp) (mx u.s.1 v.s.1)
      rcases mx_cases u.s.1 v.s.1 with ⟨e1, e2⟩ | ⟨e1, e2⟩ <;> rw [e2] at h3 <;> unfold has at h3 <;> grind
  · rw [if_neg ha]
    have : A.filter (fun x => touch x y) = [] := List.filter_eq_nil_iff.2 (fun x hx hxt => ha (List.any_eq_true.2 ⟨x, hx, hxt⟩))
    rw [this]
    rfl
theorem Pieces.size {f : K → Int} {b : Int} {A : List Wr} (h : Pieces f b A) : pairsOf A A ≤ A.length ∧ SizeIs f b (A.length - pairsOf A A) := by
  have hc : pairsOf A A = (A.filter fun y => A.any fun x => touch x y).length := by
    unfold pairsOf
    rw [pairs_swap touch A A]
    exact sum_ind _ _ A (fun y _ => h.ends y)
  have hsplit : ∀ (q : Wr → Bool) (A : List Wr), (A.filter q).length + (A.filter fun x => !q x).length = A.length := fun q A => by
    induction A with
    | nil => rfl
    | cons x A ih =>
      by_cases hq : q x = true
      · rw [List.filter_cons_of_pos hq, List.filter_cons_of_neg (by simp [hq])]; simp only [List.length_cons]; omega
      · rw [List.filter_cons_of_neg hq, List.filter_cons_of_pos (by simpa using hq)]; simp only [List.length_cons]; omega
  have hs := hsplit (fun y => A.any fun x => touch x y) A
  rw [← hc] at hs
  refine ⟨by omega, (A.filter fun y => !(A.any fun x => touch x y)).map (·.s.1), ?_, by rw [List.length_map]; omega, fun k => ?_⟩
  · rw [List.nodup_iff_pairwise_ne, List.pairwise_map]
    refine (h.apart.sublist List.filter_sublist).imp_of_mem ?_
    intro x y hx hy hxy he
    have h1 := (h.ne x (List.mem_filter.1 hx).1).1
    have h2 := (h.ne y (List.mem_filter.1 hy).1).1
    exact hxy x.s.1 ⟨Std.IsPreorder.le_refl _, h1⟩ ⟨by rw [he]; exact Std.IsPreorder.le_refl _, by rw [he]; exact h2⟩
  · rw [h.start, List.mem_map]
    constructor
    · rintro ⟨x, hx, rfl⟩
      obtain ⟨h1, h2⟩ := List.mem_filter.1 hx
      refine ⟨x, h1, rfl, fun y hy hyx => ?_⟩
      have : (A.any fun x' => touch x' x) = true := List.any_eq_true.2 ⟨y, hy, by simp [touch, hyx.1, hyx.2]⟩
      rw [this] at h2
      cases h2
    · rintro ⟨x, hx, rfl, hno⟩
      refine ⟨x, List.mem_filter.2 ⟨hx, ?_⟩, rfl⟩
      rw [Bool.not_eq_true', Bool.eq_false_iff]
      intro ha
      obtain ⟨y, hy, hyt⟩ := List.any_eq_true.1 ha
      simp only [touch, Bool.and_eq_true, decide_eq_true_eq] at hyt
      exact hno y hy ⟨hyt.1, hyt.2⟩
end Go.Proofs.Ytgppgecglkellaa
namespace Go.Proofs.Ytgppgecglkellaa

structure Mk where
  floor : Int
  most : Int
  f : K → Int
/-- what Last answers of a span -/
def LastIs (m : Mk) (s : K × K) (n : Int) : Prop := (n = 0 ∧ ∀ k, has s k → m.f k ≤ m.floor) ∨ (m.floor < n ∧ (∃ k, has s k ∧ m.f k = n) ∧ ∀ k, has s k → m.f k ≤ n)
/-- a key of what it read was written above its Read -/
def clash (m : Mk) (t : Txn) : Prop := ∃ s ∈ t.reads, ∃ k, has s k ∧ m.floor < m.f k ∧ t.read < m.f k
open Classical in
noncomputable def verd (m : Mk) (t : Txn) : Int := if t.reads ≠ [] ∧ t.read < m.floor then 3 else if clash m t then 2 else 1
/-- the keys that a transaction changes -/
def keysOf (t : Txn) (k : K) : Prop := mem (t.chgs.map cspan) k
open Classical in
noncomputable def wrote (m : Mk) (v : Int) (t : Txn) : Mk := ⟨m.floor, if ∃ k, keysOf t k then v else m.most, fun k => if keysOf t k then v else m.f k⟩
noncomputable def judge1 (m : Mk) (v : Int) (t : Txn) : Mk := if verd m t = 1 then wrote m v t else m
noncomputable def judgeL : Mk → Int → List Txn → List Int
  | _, _, [] => []
  | m, v, t :: r => verd m t :: judgeL (judge1 m v t) v r
noncomputable def judgeM : Mk → Int → List Txn → Mk
  | m, _, [] => m
  | m, v, t :: r => judgeM (judge1 m v t) v r
/-- the error of a Judge -/
def jerr (m : Mk) (v : Int) (ts : List Txn) : Int := if v ≤ m.floor ∨ v ≤ m.most then 9 else if 4 < ts.length ∨ ∃ t ∈ ts, ¬ soundT t then 2 else 0
noncomputable def jout (m : Mk) (v : Int) (ts : List Txn) : List Int := if jerr m v ts = 0 then judgeL m v ts else []
noncomputable def jnext (m : Mk) (v : Int) (ts : List Txn) : Mk := if jerr m v ts = 0 then judgeM m v ts else m
def ferr (m : Mk) (v : Int) : Int := if v < m.floor then 7 else 0
def fnext (m : Mk) (v : Int) : Mk := if v < m.floor then m else { m with floor := v }
def mnew (v : Int) : Mk := ⟨if v < 0 then 0 else v, 0, fun _ => 0⟩
structure Mk.Ok (m : Mk) : Prop where
  low : 0 ≤ m.floor
  most : 0 ≤ m.most
  high : m.floor < 9223372036854775808 ∧ m.most < 9223372036854775808
  f : ∀ k, 0 ≤ m.f k ∧ m.f k ≤ m.most
theorem LastIs.eq {m : Mk} (h : m.Ok) {s : K × K} {n n' : Int} (h1 : LastIs m s n) (h2 : LastIs m s n') : n = n' := by
  have := h.low
  rcases h1 with ⟨rfl, h1⟩ | ⟨h1, ⟨k, hk, hk2⟩, h3⟩ <;> rcases h2 with ⟨rfl, h2⟩ | ⟨h2, ⟨k', hk', hk2'⟩, h3'⟩
  · rfl
  · have := h1 k' hk'; omega
  · have := h2 k hk; omega
  · have := h3 k' hk'; have := h3' k hk; omega
theorem LastIs.clash {m : Mk} {s : K × K} {n : Int} (h : m.Ok) (h1 : LastIs m s n) (r : Int) (hr : 0 ≤ r) : (∃ k, has s k ∧ m.floor < m.f k ∧ r < m.f k) ↔ r < n := by
  have := h.low
  rcases h1 with ⟨rfl, h1⟩ | ⟨h1, ⟨k, hk, hk2⟩, h3⟩
  · constructor
    · rintro ⟨k, hk, h2, h4⟩
      have := h1 k hk; omega
    · intro h; omega
  · constructor
    · rintro ⟨u, hu, h2, h4⟩
      have := h3 u hu; omega
    · intro h5
      exact ⟨k, hk, by omega, by omega⟩
theorem verd_cases (m : Mk) (t : Txn) : verd m t = 1 ∨ verd m t = 2 ∨ verd m t = 3 := by
  unfold verd
  split
  · exact .inr (.inr rfl)
  · split
    · exact .inr (.inl rfl)
    · exact .inl rfl
theorem Mk.Ok.new {v : Int} (hv : v < 9223372036854775808) : (mnew v).Ok := by
  unfold mnew
  refine ⟨?_, Int.le_refl _, ⟨?_, by simp⟩, fun k => ⟨Int.le_refl _, Int.le_refl _⟩⟩
  · simp only; split <;> omega
  · simp only; split <;> omega
theorem Mk.Ok.forget {m : Mk} (h : m.Ok) {v : Int} (hv : v < 9223372036854775808) : (fnext m v).Ok := by
  unfold fnext
  split
  · exact h
  · have := h.low
    exact ⟨by simp only; omega, h.most, ⟨hv, h.high.2⟩, h.f⟩
theorem Mk.Ok.wrote {m : Mk} (h : m.Ok) {v : Int} (t : Txn) (hv : m.most ≤ v) (hv2 : v < 9223372036854775808) : (wrote m v t).Ok := by
  have h0 := h.most
  unfold Go.Proofs.Ytgppgecglkellaa.wrote
  refine ⟨h.low, ?_, ⟨h.high.1, ?_⟩, fun k => ?_⟩
  · simp only; split <;> omega
  · simp only; split
    · exact hv2
    · exact h.high.2
  · have := h.f k
    simp only
    split
    · rename_i hk
      rw [if_pos ⟨k, hk⟩]
      omega
    · split <;> omega
theorem Mk.Ok.judge1 {m : Mk} (h : m.Ok) {v : Int} (t : Txn) (hv : m.most ≤ v) (hv2 : v < 9223372036854775808) : (judge1 m v t).Ok ∧ (judge1 m v t).most ≤ v ∧ (judge1 m v t).floor = m.floor := by
  unfold Go.Proofs.Ytgppgecglkellaa.judge1
  split
  · refine ⟨h.wrote t hv hv2, ?_, rfl⟩
    unfold Go.Proofs.Ytgppgecglkellaa.wrote
    simp only
    split <;> omega
  · exact ⟨h, hv, rfl⟩
theorem Mk.Ok.judgeM : ∀ (ts : List Txn) {m : Mk} {v : Int}, m.Ok → m.most ≤ v → v < 9223372036854775808 → (judgeM m v ts).Ok ∧ (judgeM m v ts).most ≤ v ∧ (judgeM m v ts).floor = m.floor
  | [], m, v, h, hv, _ => ⟨h, hv, rfl⟩
  | t :: ts, m, v, h, hv, hv2 => by
    obtain ⟨h1, h2, h3⟩ := h.judge1 t hv hv2
    obtain ⟨h4, h5, h6⟩ := Mk.Ok.judgeM ts h1 h2 hv2
    exact ⟨h4, h5, h6.trans h3⟩
theorem jerr_ok {m : Mk} {v : Int} {ts : List Txn} (h : jerr m v ts = 0) : m.floor < v ∧ m.most < v ∧ ts.length ≤ 4 ∧ ∀ t ∈ ts, soundT t := by
  unfold jerr at h
  split at h
  · cases h
  · split at h
    · cases h
    · rename_i h1 h2
      exact ⟨by omega, by omega, by omega, fun t ht => Classical.byContradiction fun hn => h2 (.inr ⟨t, ht, hn⟩)⟩
theorem Mk.Ok.jnext {m : Mk} (h : m.Ok) {v : Int} (ts : List Txn) (hv : v < 9223372036854775808) : (jnext m v ts).Ok := by
  unfold Go.Proofs.Ytgppgecglkellaa.jnext
  split
  · rename_i he
    exact (Mk.Ok.judgeM ts h (by have := (jerr_ok he).2.1; omega) hv).1
  · exact h
theorem judgeL_len : ∀ (ts : List Txn) (m : Mk) (v : Int), (judgeL m v ts).length = ts.length
  | [], _, _ => rfl
  | t :: ts, m, v => by simp [judgeL, judgeL_len ts]
theorem judge_snoc : ∀ (ts : List Txn) (m : Mk) (v : Int) (t : Txn), judgeL m v (ts ++ [t]) = judgeL m v ts ++ [verd (judgeM m v ts) t] ∧ judgeM m v (ts ++ [t]) = judge1 (judgeM m v ts) v t
  | [], m, v, t => ⟨rfl, rfl⟩
  | x :: ts, m, v, t => by
    obtain ⟨h1, h2⟩ := judge_snoc ts (judge1 m v x) v t
    exact ⟨by simp [judgeL, judgeM, h1], by simp [judgeM, h2]⟩
end Go.Proofs.Ytgppgecglkellaa
namespace Go.Proofs.Ytgppgecglkellaa
open Go.RowKit

theorem wpList_addT {ops : Array Oper} {rest : List Oper} {o : Oper} {a : Act} {Q : Exit → Act → World → Prop} {w : World} (hgd : Region.wanted o (yielded ops a.tmps) = true) (s x : Operand)
    (ho : o.op = .call { callee := .builtin .append, args := #[s, x], argTypes := #[42, 42] })
    (base : Nat) (v : Value) (l : List (K × K)) (hs : a.eval s = v) (hown : OwnS w base v l) (B : Nat) (v2 : Value) (p : List (K × K)) (hx : a.eval x = v2) (hp : Rd cellsS 2 w B v2 p)
    (hlen : l.length + p.length ≤ 7036874417000) (hbase : base ≤ w.heap.size) (C : Nat) (w0 : World) (hb : Below C w0 w) (hC : C ≤ base)
    (h : ∀ A' c' w', Hid (OwnS w' base (.slice A' (l ++ p).length c') (l ++ p)) → Hid (Below C w0 w') → Hid (base ≤ w'.heap.size) → wpList Try.prog ops Q rest (a.put o.dst (.slice A' (l ++ p).length c')) w') : wpList Try.prog ops Q (o :: rest) a w := by
  obtain ⟨i0, hi, hz0, hz1, hz2⟩ := info_parts info_spans
  refine BigFrame.wpList_want hgd fun K hK => ?_
  refine wp_addAny (enc := cellsS) (k := 2) 42 58 32 i0 _ Try.underlying42 hi hz0 hz1 hz2 rfl (by decide) cellsS_len cellsS_one s x ho base v l hs hown B v2 p hx hp (by unfold maxLen; omega) (by omega) hbase fun A' c' w' h1 h2 => ?_
  have hown2 : Own cellsS 2 58 w base v l := hown
  exact hK _ _ (h A' c' w' (Lib.hid h1) (Lib.hid (hown2.grown hb h2 hC (Nat.le_trans hC hbase))) (Lib.hid (Nat.le_trans hbase h2.size)))
end Go.Proofs.Ytgppgecglkellaa
namespace Go.Proofs.Ytgppgecglkellaa
open Go.RowKit

/-- of the blocks that were there those of D alone have moved -/
structure Mv (D : Nat → Prop) (w w' : World) : Prop where
  os : w'.os = w.os
  tape : w'.tape = w.tape
  output : w'.output = w.output
  size : w.heap.size ≤ w'.heap.size
  block : ∀ i, i < w.heap.size → ¬ D i → w'.heap[i]? = w.heap[i]?
namespace Mv
variable {D D' : Nat → Prop} {w w' w2 : World}
theorem refl (D : Nat → Prop) (w : World) : Mv D w w := ⟨rfl, rfl, rfl, Nat.le_refl _, fun _ _ _ => rfl⟩
theorem mono (h : Mv D w w') (hD : ∀ i, i < w.heap.size → D i → D' i) : Mv D' w w' := ⟨h.os, h.tape, h.output, h.size, fun i hi hn => h.block i hi fun hd => hn (hD i hi hd)⟩
theorem trans (h : Mv D w w') (h2 : Mv D' w' w2) (hD : ∀ i, i < w.heap.size → D' i → D i) : Mv D w w2 :=
  ⟨h2.os.trans h.os, h2.tape.trans h.tape, h2.output.trans h.output, Nat.le_trans h.size h2.size, fun i hi hn => (h2.block i (Nat.lt_of_lt_of_le hi h.size) fun hd => hn (hD i hi hd)).trans (h.block i hi hn)⟩
theorem of_grown {row : Option Nat} (h : w.grownBy w' row) : Mv (fun i => some i = row) w w' := ⟨h.os, h.tape, h.output, h.size, fun i hi hn => h.block i hi hn⟩
theorem grown {row : Option Nat} (h : Mv D w w') (h2 : w'.grownBy w2 row) (hD : ∀ i, i < w.heap.size → some i = row → D i) : Mv D w w2 := h.trans (of_grown h2) hD
theorem alloc (h : Mv D w w') (o : Obj) : Mv D w (w'.alloc o) :=
  h.trans (D' := fun _ => False) ⟨rfl, rfl, rfl, by simp, fun i hi _ => Below.heap_alloc w' o i hi⟩ (fun _ _ h => h.elim)
theorem setCell (h : Mv D w w') {p : Addr} (hp : p.block < w.heap.size → D p.block) (u : Value) : Mv D w (w'.setCell p u) := by
  refine h.trans (D' := fun i => i = p.block) ⟨rfl, rfl, rfl, by simp, fun i hi hn => Below.heap_setCell w' p u i hn⟩ ?_
  rintro i hi rfl
  exact hp hi
theorem drew (h : Mv D w w') : Mv D w w'.drew := ⟨h.os, h.tape, h.output, h.size, h.block⟩
theorem below {B : Nat} (h : Mv D w w') (hB : B ≤ w.heap.size) (hD : ∀ i, D i → B ≤ i) : Below B w w' :=
  ⟨h.os, h.tape, h.output, h.size, fun k hk => h.block k (Nat.lt_of_lt_of_le hk hB) fun hd => by have := hD k hd; omega⟩
theorem of_below {B : Nat} (h : Below B w w') : Mv (fun i => B ≤ i) w w' := ⟨h.os, h.tape, h.output, h.size, fun i _ hn => h.block i (by omega)⟩
theorem of_new (h : Below w.heap.size w w') (D : Nat → Prop) : Mv D w w' := ⟨h.os, h.tape, h.output, h.size, fun i hi _ => h.block i hi⟩
theorem whole {g : Nat} {t : TypeId} {cs : List Value} (hg : Whole w g t cs) (h : Mv D w w') (hn : ¬ D g) : Whole w' g t cs := (h.block g hg.size hn).trans hg
end Mv

/-- the row is the same, or a new one, or none -/
def NewRow (w : World) (o o' : Option Nat) : Prop := ∀ g, o' = some g → o = some g ∨ w.heap.size ≤ g
theorem NewRow.refl (w : World) (o : Option Nat) : NewRow w o o := fun _ h => .inl h
theorem NewRow.out {w : World} {o o' : Option Nat} (h : NewRow w o o') {r : Nat} (hr : r < w.heap.size) (hn : o ≠ some r) : o' ≠ some r := by
  intro he
  rcases h r he with h1 | h1
  · exact hn h1
  · omega
theorem NewRow.low {w : World} {base : Nat} {o o' : Option Nat} (h : NewRow w o o') (hb : base ≤ w.heap.size) (hl : ∀ g, o = some g → base ≤ g) : ∀ g, o' = some g → base ≤ g := by
  intro g he
  rcases h g he with h1 | h1
  · exact hl g h1
  · omega
theorem NewRow.trans {w w' : World} {o o' o2 : Option Nat} (h : NewRow w o o') (h2 : NewRow w' o' o2) (hs : w.heap.size ≤ w'.heap.size) : NewRow w o o2 := by
  intro g he
  rcases h2 g he with h1 | h1
  · exact h g h1
  · exact .inr (Nat.le_trans hs h1)
end Go.Proofs.Ytgppgecglkellaa
namespace Go.Proofs.Ytgppgecglkellaa
open Go.RowKit

section
variable {α : Type} {enc : α → List Value} {k : Nat} {e : TypeId}
/-- cells below block B, in no block of G -/
def RdG (enc : α → List Value) (k : Nat) (w : World) (B : Nat) (G : Nat → Prop) (v : Value) (l : List α) : Prop :=
  ∃ A c, v = .slice A l.length c ∧ l.length ≤ c ∧ ∀ i (_ : i < l.length), ∃ b o, A = some ⟨b, o, none⟩ ∧ b < B ∧ ¬ G b ∧ ∀ j u, (enc l[i])[j]? = some u → w.cell? ⟨b, o + i * k + j, none⟩ = some u
variable {w w' : World} {B B' : Nat} {G G' : Nat → Prop} {v : Value} {l : List α}
theorem RdG.rd (h : RdG enc k w B G v l) : Rd enc k w B v l := by
  obtain ⟨A, c, rfl, hc, hi⟩ := h
  refine ⟨A, c, rfl, hc, fun i hs => ?_⟩
  obtain ⟨b, o, hA, hb, _, h1⟩ := hi i hs
  exact ⟨b, o, hA, hb, h1⟩
theorem RdG.of (h : Rd enc k w B v l) (hG : ∀ b, b < B → ¬ G b) : RdG enc k w B G v l := by
  obtain ⟨A, c, rfl, hc, hi⟩ := h
  refine ⟨A, c, rfl, hc, fun i hs => ?_⟩
  obtain ⟨b, o, hA, hb, h1⟩ := hi i hs
  exact ⟨b, o, hA, hb, hG b hb, h1⟩
theorem RdG.mv {D : Nat → Prop} (h : RdG enc k w B G v l) (hm : Mv D w w') (hB : B ≤ w.heap.size) (hD : ∀ b, b < B → D b → G b) : RdG enc k w' B G v l := by
  obtain ⟨A, c, rfl, hc, hi⟩ := h
  refine ⟨A, c, rfl, hc, fun i hs => ?_⟩
  obtain ⟨b, o, hA, hb, hg, h1⟩ := hi i hs
  exact ⟨b, o, hA, hb, hg, fun j u hu => by rw [World.cell?_of_block (w := w) (hm.block b (by omega) (fun h => hg (hD b hb h)))]; exact h1 j u hu⟩
theorem RdG.mono (h : RdG enc k w B G v l) (hB : B ≤ B') (hG : ∀ b, b < B → G' b → G b) : RdG enc k w B' G' v l := by
  obtain ⟨A, c, rfl, hc, hi⟩ := h
  refine ⟨A, c, rfl, hc, fun i hs => ?_⟩
  obtain ⟨b, o, hA, hb, hg, h1⟩ := hi i hs
  exact ⟨b, o, hA, by omega, fun h => hg (hG b hb h), h1⟩
theorem RdG.none_ (w : World) (B : Nat) (G : Nat → Prop) (A : Option Addr) (c : Nat) : RdG enc k w B G (.slice A 0 c) [] := ⟨A, c, rfl, Nat.zero_le _, fun i hi => by simp at hi⟩
theorem RdG.or {G1 G2 : Nat → Prop} (h : RdG enc k w B G1 v l) (h2 : RdG enc k w B G2 v l) : RdG enc k w B (fun i => G1 i ∨ G2 i) v l := by
  obtain ⟨A, c, rfl, hc, hi⟩ := h
  obtain ⟨A2, c2, ee, hc2, hi2⟩ := h2
  injection ee with e1 _ e3
  subst e1 e3
  refine ⟨A, c, rfl, hc, fun i hs => ?_⟩
  obtain ⟨b, o, hA, hb, hg, h1⟩ := hi i hs
  obtain ⟨b2, o2, hA2, _, hg2, _⟩ := hi2 i hs
  rw [hA] at hA2
  injection hA2 with hA2
  injection hA2 with e4
  subst e4
  exact ⟨b, o, hA, hb, fun h => h.elim hg hg2, h1⟩
/-- what is owned from base on -/
theorem RdG.own {base : Nat} (hk : ∀ x, (enc x).length = k) (h : Own enc k e w base v l) (hG : ∀ b, base ≤ b → b < w.heap.size → v.ownBlock = some b → ¬ G b) : RdG enc k w w.heap.size G v l := by
  obtain ⟨A, c, hv, hc, hi⟩ := Own.rd hk h
  refine ⟨A, c, hv, hc, fun i hs => ?_⟩
  obtain ⟨b, o, hA, hb, h1⟩ := hi i hs
  refine ⟨b, o, hA, hb, ?_, h1⟩
  rcases h.form with ⟨_, e0⟩ | ⟨g, cap, ee, hg, _, _⟩
  · rw [e0] at hs; simp at hs
  · rw [hv, hA] at ee
    injection ee with ee _ _
    injection ee with ee
    injection ee with ee _ _
    subst ee
    exact hG b hg hb (by rw [hv, hA]; rfl)
/-- those from n on -/
theorem RdG.drop {A : Option Addr} {c m : Nat} (h : RdG enc k w B G (.slice A m c) l) (n c' : Nat) (hn : n ≤ l.length) (hc' : l.length - n ≤ c') (A' : Option Addr) (hA' : n < l.length → A' = A.map (·.add (n * k))) :
    RdG enc k w B G (.slice A' (l.length - n) c') (l.drop n) := by
  obtain ⟨A0, c0, hv, hc, hi⟩ := h
  injection hv with h1 h2 h3
  subst h1 h3
  refine ⟨A', c', by simp, by simpa using hc', fun i hs => ?_⟩
  have hs' : n + i < l.length := by simp at hs; omega
  obtain ⟨b, o, hA, hb, hg, h1⟩ := hi (n + i) hs'
  refine ⟨b, o + n * k, ?_, hb, hg, fun j u hu => ?_⟩
  · rw [hA' (by omega), hA]
    simp only [Option.map_some, Option.some.injEq]
    unfold Addr.add
    split
    · rename_i hz; rw [hz]; rfl
    · rfl
  · have := h1 j u (by simpa using hu)
    rwa [show o + (n + i) * k + j = o + n * k + i * k + j by rw [Nat.add_mul]; omega] at this
end
end Go.Proofs.Ytgppgecglkellaa
namespace Go.Proofs.Ytgppgecglkellaa
open Go.ChangeShapes Go.WideShapes Go.ChangeAt Go.RowKit Go.Joins Go.Deep

set_option maxRecDepth 100000 in
theorem info_int : (Try.prog.info? 3).map (fun i => (i.zero, i.size, i.bytes)) = some (some (.int .i64 0), 1, 8) := by kernel_rfl
/-- an int's cell -/
def encI (n : Int) : List Value := [.int .i64 n]
set_option maxRecDepth 100000 in
theorem encI_len (n : Int) : (encI n).length = 1 := rfl
set_option maxRecDepth 100000 in
theorem encI_one (n : Int) : ∀ u ∈ encI n, u.oneCell' = true := by simp [encI, Value.oneCell']
abbrev RdI (w : World) (B : Nat) (v : Value) (l : List Int) : Prop := Rd encI 1 w B v l
abbrev OwnI (w : World) (base : Nat) (v : Value) (l : List Int) : Prop := Own encI 1 3 w base v l
set_option maxRecDepth 100000 in
theorem OwnI.rdI {w : World} {base : Nat} {v : Value} {l : List Int} (h : OwnI w base v l) : RdI w w.heap.size v l := Own.rd encI_len h
set_option maxRecDepth 100000 in
theorem RdI.at {w : World} {B : Nat} {v : Value} {l : List Int} (h : RdI w B v l) : ∃ A c, v = .slice A l.length c ∧ l.length ≤ c ∧ ∀ i (_ : i < l.length), ∃ b o, A = some ⟨b, o, none⟩ ∧ b < B ∧ w.cell? ⟨b, o + i, none⟩ = some (.int .i64 l[i]) := by
  obtain ⟨A, c, hv, hc, hi⟩ := h
  refine ⟨A, c, hv, hc, fun i hs => ?_⟩
  obtain ⟨b, o, hA, hB, h1⟩ := hi i hs
  have := h1 0 _ rfl
  simp only [Nat.mul_one, Nat.add_zero] at this
  exact ⟨b, o, hA, hB, this⟩
set_option maxRecDepth 100000 in
theorem RdI.one (w : World) (n : Int) : RdI (w.alloc (.cells #[.int .i64 n] 3)) (w.heap.size + 1) (.slice (some ⟨w.heap.size, 0, none⟩) 1 1) [n] := by
  refine ⟨_, 1, rfl, Nat.le_refl _, fun i hi => ⟨w.heap.size, 0, rfl, Nat.lt_succ_self _, fun j u hu => ?_⟩⟩
  obtain rfl : i = 0 := by simp at hi; omega
  match j, hu with
  | 0, hu =>
    simp only [encI, List.getElem_cons_zero, List.getElem?_cons_zero, Option.some.injEq] at hu
    subst hu
    exact World.cell?_alloc_at _ _ _ _ rfl
  | j + 1, hu => simp [encI] at hu
set_option maxRecDepth 100000 in
theorem wpList_addI {ops : Array Oper} {rest : List Oper} {o : Oper} {a : Act} {Q : Exit → Act → World → Prop} {w : World} (hgd : Region.wanted o (yielded ops a.tmps) = true) (s x : Operand)
    (ho : o.op = .call { callee := .builtin .append, args := #[s, x], argTypes := #[28, 28] })
    (base : Nat) (v : Value) (l : List Int) (hs : a.eval s = v) (hown : OwnI w base v l) (B : Nat) (v2 : Value) (p : List Int) (hx : a.eval x = v2) (hp : RdI w B v2 p)
    (hlen : l.length + p.length ≤ 28147497670000) (hbase : base ≤ w.heap.size) (C : Nat) (w0 : World) (hb : Below C w0 w) (hC : C ≤ base)
    (h : ∀ A' c' w', Hid (OwnI w' base (.slice A' (l ++ p).length c') (l ++ p)) → Hid (Below C w0 w') → Hid (base ≤ w'.heap.size) → wpList Try.prog ops Q rest (a.put o.dst (.slice A' (l ++ p).length c')) w') : wpList Try.prog ops Q (o :: rest) a w := by
  obtain ⟨i0, hi, hz0, hz1, hz2⟩ := info_parts info_int
  refine BigFrame.wpList_want hgd fun K hK => ?_
  refine wp_addAny (enc := encI) (k := 1) 28 3 8 i0 _ Try.underlying28 hi hz0 hz1 hz2 rfl (by decide) encI_len encI_one s x ho base v l hs hown B v2 p hx hp (by unfold maxLen; omega) (by omega) hbase fun A' c' w' h1 h2 => ?_
  exact hK _ _ (h A' c' w' (Lib.hid h1) (Lib.hid (hown.grown hb h2 hC (Nat.le_trans hC hbase))) (Lib.hid (Nat.le_trans hbase h2.size)))

/-- what is known of the data of ints -/
def SizedI {H : Type} (d : DataW H) (l : List Int) : Prop := (d = .nil ∧ l = []) ∨ ∃ el sp, d = .slice el sp ∧ el.length = l.length
set_option maxRecDepth 100000 in
/-- a slice of ints that came in reads as a list -/
theorem open_intsI {H : Type} {enc : TypeId × Value → H} {W : World} {base : Nat} {v : Value} {d : DataW H} {p : List MemPlace} (hv : Value.okWide Try.prog W .any base 28 v) (h : DataW.Trod enc Try.prog W 0 (fun _ => true) true 28 v d p) :
    ∃ l, RdI W W.heap.size v l ∧ SizedI d l ∧ ∀ n ∈ l, -9223372036854775808 ≤ n ∧ n < 9223372036854775808 := by
  obtain ⟨a0, len, cap, rfl⟩ := okWide_slice Try.underlying28 hv
  obtain ⟨fuel, hf⟩ := h
  rcases open_ints Try.underlying28 Try.underlying3 (by kernel_rfl) hf with ⟨hcs, hx⟩ | ⟨a, len', cap', zs, hcs, _, hl, hm, hz, hx, hcell, hwz⟩
  · simp only [Value.cells] at hcs
    have e : Value.slice a0 len cap = .slice none 0 0 := by simpa using hcs
    injection e with e1 e2 e3
    subst e1 e2 e3
    simp only [Prod.mk.injEq] at hx
    exact ⟨[], Rd.nil _ _, .inl ⟨hx.1, rfl⟩, by simp⟩
  · simp only [Value.cells] at hcs
    have e : Value.slice a0 len cap = .slice (some a) len' cap' := by simpa using hcs
    injection e with e1 e2 e3
    subst e1 e2 e3
    simp only [Prod.mk.injEq] at hx
    obtain ⟨rfl, rfl⟩ := hx
    simp only [if_true] at hz
    have hb : ∀ n ∈ zs, -9223372036854775808 ≤ n ∧ n < 9223372036854775808 := fun n hn => by
      have h := hwz n hn
      have h1 : IntKind.i64.min = -9223372036854775808 := rfl
      have h2 : IntKind.i64.max = 9223372036854775807 := rfl
      simp only [Lit.wf, Bool.and_eq_true, decide_eq_true_eq] at h
      omega
    have hlen : (zs.take len).length = len := by simp; omega
    refine ⟨zs.take len, ⟨some a, cap, by rw [hlen], by rw [hlen]; exact hl, fun i hi => ?_⟩, .inr ⟨_, _, rfl, by simp [lits]⟩, fun n hn => hb n (List.mem_of_mem_take hn)⟩
    have hi' : i < len := by omega
    have hc := hcell i (by omega)
    have hsp : a.spot = none := by
      have h0 := hcell 0 (by omega)
      have e0 : a.add 0 = a := rfl
      rw [e0] at h0
      exact World.cell?_spot h0
    rw [addr_add a i hsp] at hc
    have hblk := World.block_lt_of_cell? _ _ hc
    refine ⟨a.block, a.off, by cases a; simp only at hsp; subst hsp; rfl, hblk, fun j u hu => ?_⟩
    match j, hu with
    | 0, hu =>
      simp only [encI, List.getElem?_cons_zero, Option.some.injEq] at hu
      subst hu
      have hlt : i < zs.length := by omega
      rw [Nat.mul_one, Nat.add_zero, hc]
      simp [List.getD, hlt]
    | j + 1, hu => simp [encI] at hu
set_option maxRecDepth 100000 in
theorem SizedI.reach {H : Type} {ts : List TypeId} {ds : List (DataW H)} (h : (DataW.weightsEach Try.prog ts ds).all (· ≤ reachBytes) = true) {j : Nat} {d : DataW H} {l : List Int} (hs : SizedI d l) (ht : ts[j]? = some 28) (hd : ds[j]? = some d) : l.length ≤ 17592186043904 := by
  rcases hs with ⟨_, rfl⟩ | ⟨el, sp, rfl, he⟩
  · simp
  · have := sized_slice h ht hd Try.underlying28
    rw [show Try.prog.bytesOf 3 = 8 by kernel_rfl, show reachBytes = 140737488351232 from rfl] at this
    omega
end Go.Proofs.Ytgppgecglkellaa
namespace Go.Proofs.Ytgppgecglkellaa
open Go.RowKit
attribute [local go_sem] less_eq same_eq le_eq ge_eq gt_eq

def encW (x : Wr) : List Value := [.string x.s.1, .string x.s.2, .int .i64 x.v]
theorem encW_len (x : Wr) : (encW x).length = 3 := rfl
theorem encW_one (x : Wr) : ∀ u ∈ encW x, u.oneCell' = true := by
  intro u hu
  simp only [encW, List.mem_cons, List.not_mem_nil, or_false] at hu
  rcases hu with rfl | rfl | rfl <;> rfl
abbrev RdW (w : World) (B : Nat) (v : Value) (l : List Wr) : Prop := Rd encW 3 w B v l
theorem RdW.at {w : World} {B : Nat} {v : Value} {l : List Wr} (h : RdW w B v l) : ∃ A c, v = .slice A l.length c ∧ l.length ≤ c ∧ ∀ i (_ : i < l.length), ∃ b o, A = some ⟨b, o, none⟩ ∧ b < B ∧
    w.cell? ⟨b, o + i * 3, none⟩ = some (.string l[i].s.1) ∧ w.cell? ⟨b, o + i * 3 + 1, none⟩ = some (.string l[i].s.2) ∧ w.cell? ⟨b, o + i * 3 + 2, none⟩ = some (.int .i64 l[i].v) := by
  obtain ⟨A, c, hv, hc, hi⟩ := h
  refine ⟨A, c, hv, hc, fun i hs => ?_⟩
  obtain ⟨b, o, hA, hB, h1⟩ := hi i hs
  exact ⟨b, o, hA, hB, h1 0 _ rfl, h1 1 _ rfl, h1 2 _ rfl⟩
def RmD (r : Nat) (ov : Option Nat) : Nat → Prop := fun i => i = r ∨ some i = ov
section
variable {w w' : World} {base r : Nat} {ov : Option Nat} {D : Nat → Prop} {n : Nat} {m : Mk} {floor most : Int} {L : List Wr}
theorem Own.mvG {α : Type} {enc : α → List Value} {k : Nat} {e : TypeId} {D : Nat → Prop} {v : Value} {l : List α} (h : Own enc k e w base v l) (hm : Mv D w w') (hn : ∀ g, v.ownBlock = some g → ¬ D g) : Own enc k e w' base v l := by
  refine ⟨h.1, ?_⟩
  rcases h.2 with h2 | ⟨g, cap, cur, rfl, hb, hh, r⟩
  · exact .inl h2
  · exact .inr ⟨g, cap, cur, rfl, hb, (hm.block g (Array.getElem?_eq_some_iff.1 hh).1 (hn g rfl)).trans hh, r⟩
end
theorem left_iff {L : List Wr} {n : Nat} (hn : n < L.length) (k : K) : Left L n k ↔ has L[n].s k ∧ ¬ mem ((L.drop (n + 1)).map (·.s)) k := by
  unfold Left mem
  constructor
  · rintro ⟨x, hx, h1, h2⟩
    rw [List.getElem?_eq_getElem hn] at hx
    injection hx with hx
    subst hx
    refine ⟨h1, ?_⟩
    rintro ⟨s, hs, hk⟩
    obtain ⟨y, hy, rfl⟩ := List.mem_map.1 hs
    exact h2 y hy hk
  · rintro ⟨h1, h2⟩
    exact ⟨_, List.getElem?_eq_getElem hn, h1, fun y hy hk => h2 ⟨_, List.mem_map.2 ⟨y, hy, rfl⟩, hk⟩⟩
end Go.Proofs.Ytgppgecglkellaa
namespace Go.Proofs.Ytgppgecglkellaa
open Go.RowKit
section
variable {α : Type} {enc : α → List Value} {k : Nat}
theorem flatG_take (hk : ∀ x, (enc x).length = k) : ∀ (l : List α) (i : Nat), flatG enc (l.take i) = (flatG enc l).take (i * k)
  | [], i => by simp [flatG]
  | x :: r, 0 => by simp [flatG]
  | x :: r, i + 1 => by
    rw [List.take_succ_cons, show x :: r.take i = [x] ++ r.take i from rfl, show x :: r = [x] ++ r from rfl, flatG_append, flatG_append, flatG_take hk r i, List.take_append]
    have h1 : (flatG enc [x]).length = k := by simp [flatG, hk]
    rw [List.take_of_length_le (l := flatG enc [x]) (by rw [h1, Nat.add_mul]; omega), h1, show (i + 1) * k - k = i * k by rw [Nat.add_mul]; omega]
theorem flatG_drop (hk : ∀ x, (enc x).length = k) : ∀ (l : List α) (i : Nat), flatG enc (l.drop i) = (flatG enc l).drop (i * k)
  | [], i => by simp [flatG]
  | x :: r, 0 => by simp [flatG]
  | x :: r, i + 1 => by
    rw [List.drop_succ_cons, show x :: r = [x] ++ r from rfl, flatG_append, flatG_drop hk r i, List.drop_append]
    have h1 : (flatG enc [x]).length = k := by simp [flatG, hk]
    rw [show (flatG enc [x]).drop ((i + 1) * k) = [] from List.drop_eq_nil_of_le (by rw [h1, Nat.add_mul]; omega), h1, show (i + 1) * k - k = i * k by rw [Nat.add_mul]; omega, List.nil_append]
end
section
variable {α : Type} (L cs : List α) (off n : Nat)
theorem take_splice_lt (h : n ≤ off) (ho : off ≤ L.length) : (splice L off cs).take n = L.take n := by
  unfold splice
  rw [List.take_append_of_le_length (by simp; omega), List.take_take, Nat.min_eq_left h]
theorem take_splice_end (h : off ≤ L.length) (hn : n = off + cs.length) : (splice L off cs).take n = L.take off ++ cs := by
  unfold splice
  subst hn
  rw [← List.append_assoc, List.take_append_of_le_length (by simp; omega)]
  exact List.take_of_length_le (by simp; omega)
theorem drop_splice_ge (h : off + cs.length ≤ n) (ho : off ≤ L.length) : (splice L off cs).drop n = L.drop n := by
  unfold splice
  rw [← List.append_assoc, List.drop_append, List.drop_eq_nil_of_le (by simp; omega), List.nil_append, List.drop_drop]
  congr 1
  simp; omega
theorem get_splice_ge (j : Nat) (h : off + cs.length ≤ j) (ho : off ≤ L.length) : (splice L off cs)[j]? = L[j]? := by
  have := drop_splice_ge L cs off j h ho
  have h2 := congrArg (fun l => l[0]?) this
  simpa using h2
end
theorem Whole.srcs {w : World} {g : Nat} {t : TypeId} {cur : List Value} (h : Whole w g t cur) (o : Nat) (cs : List Value) (hc : ∀ j v, cs[j]? = some v → cur[o + j]? = some v) : ∀ j v, cs[j]? = some v → w.cell? ((⟨g, o, none⟩ : Addr).add j) = some v :=
  fun j v hj => by rw [Addr.add_lit]; exact h.cell _ _ (hc j v hj)
theorem cells_at {cur A B : List Value} {n : Nat} (h : cur.take n = A ++ B) : ∀ j v, B[j]? = some v → cur[A.length + j]? = some v := by
  intro j v hj
  have hl : A.length + j < n := by
    have h1 := (List.getElem?_eq_some_iff.1 hj).1
    have h2 := congrArg List.length h
    simp at h2
    omega
  have h3 : (cur.take n)[A.length + j]? = some v := by rw [h, List.getElem?_append_right (by omega), Nat.add_sub_cancel_left]; exact hj
  rwa [List.getElem?_take_of_lt hl] at h3
theorem Moved.away {w w' : World} {g : Nat} {t : TypeId} {cur : List Value} (h : Moved w w' g t cur) {b : Nat} {t' : TypeId} {cs : List Value} (hb : Whole w b t' cs) (hne : b ≠ g) : Whole w' b t' cs := hb.grown h.grown (by simpa using hne)

set_option maxRecDepth 100000 in
theorem info_mk : (Try.prog.info? 60).map (fun i => (i.zero, i.size, i.bytes)) = some (some (.agg #[.string ⟨#[]⟩, .string ⟨#[]⟩, .int .i64 0]), 3, 40) := by kernel_rfl
theorem info_mkE : ∃ i0, Try.prog.info? 60 = some i0 ∧ i0.zero = some (.agg #[.string ⟨#[]⟩, .string ⟨#[]⟩, .int .i64 0]) ∧ i0.size = 3 ∧ i0.bytes = 40 := info_parts info_mk
abbrev OwnMk (w : World) (base : Nat) (v : Value) (l : List Wr) : Prop := Own encW 3 60 w base v l

section
variable {ops : Array Oper} {rest : List Oper} {o : Oper} {a : Act} {Q : Exit → Act → World → Prop} {K1 : Act → World → Prop} {w : World}
theorem wp_copyP (d s : Operand) (ho : o.op = .call { callee := .builtin .copy, args := #[d, s], argTypes := #[49, 49] })
    (g off : Nat) (cur cs : List Value) (dp sp : Option Addr) (dLen dCap sLen sCap : Nat) (hd : a.eval d = .slice dp dLen dCap) (hs : a.eval s = .slice sp sLen sCap) (hg : Whole w g 60 cur) (hn : cs.length = Nat.min sLen dLen * 3)
    (hp : 0 < cs.length → dp = some ⟨g, off, none⟩) (hsrc : Srcs w sp cs) (hfit : off + cs.length ≤ cur.length) (h1 : ∀ v ∈ cs, v.oneCell' = true)
    (h : ∀ w', Hid (Moved w w' g 60 (splice cur off cs)) → K1 (a.put o.dst (goInt (Nat.min sLen dLen))) w') : Oper.wp Try.prog o a w K1 Q := by
  obtain ⟨i0, hi, hz0, hz1, hz2⟩ := info_mkE
  obtain ⟨w', hr, hm⟩ := run_copyK (P := Try.prog) w 49 49 o.type 60 i0 3 Try.underlying49 hi hz1 g off dLen dCap dp sp sLen sCap _ cur hg cs hn hp hsrc hfit h1
  exact wp_call2 .copy (.inl rfl) d s _ _ ho _ _ hd hs hr (h w' (Lib.hid hm))
theorem wpList_copyP (hgd : Region.wanted o (yielded ops a.tmps) = true) (d s : Operand) (ho : o.op = .call { callee := .builtin .copy, args := #[d, s], argTypes := #[49, 49] })
    (g off : Nat) (cur cs : List Value) (dp sp : Option Addr) (dLen dCap sLen sCap : Nat) (hd : a.eval d = .slice dp dLen dCap) (hs : a.eval s = .slice sp sLen sCap) (hg : Whole w g 60 cur) (hn : cs.length = Nat.min sLen dLen * 3)
    (hp : 0 < cs.length → dp = some ⟨g, off, none⟩) (hsrc : Srcs w sp cs) (hfit : off + cs.length ≤ cur.length) (h1 : ∀ v ∈ cs, v.oneCell' = true)
    (h : ∀ w', Hid (Moved w w' g 60 (splice cur off cs)) → wpList Try.prog ops Q rest (a.put o.dst (goInt (Nat.min sLen dLen))) w') : wpList Try.prog ops Q (o :: rest) a w :=
  BigFrame.wpList_want hgd fun _ hK => wp_copyP d s ho g off cur cs dp sp dLen dCap sLen sCap hd hs hg hn hp hsrc hfit h1 fun w' hm => hK _ _ (h w' hm)
theorem wpList_roomP (hgd : Region.wanted o (yielded ops a.tmps) = true) (d s : Operand) (ho : o.op = .call { callee := .builtin .append, args := #[d, s], argTypes := #[49, 49] })
    (g i cap : Nat) (cur cs : List Value) (sp : Option Addr) (m mc : Nat) (hd : a.eval d = .slice (some ⟨g, 0, none⟩) i cap) (hs : a.eval s = .slice sp m mc) (hg : Whole w g 60 cur) (hn : cs.length = m * 3)
    (hsrc : Srcs w sp cs) (hroom : i + m ≤ cap) (hfit : i * 3 + cs.length ≤ cur.length) (h1 : ∀ v ∈ cs, v.oneCell' = true)
    (h : ∀ w', Hid (Moved w w' g 60 (splice cur (i * 3) cs)) → wpList Try.prog ops Q rest (a.put o.dst (.slice (some ⟨g, 0, none⟩) (i + m) cap)) w') : wpList Try.prog ops Q (o :: rest) a w := by
  obtain ⟨i0, hi, hz0, hz1, hz2⟩ := info_mkE
  obtain ⟨w', hr, hm⟩ := run_roomK (P := Try.prog) w 49 o.type 60 i0 3 Try.underlying49 hi hz1 g i cap sp m mc _ cur hg cs hn hsrc hroom hfit h1
  exact BigFrame.wpList_want hgd fun K2 hK => wp_call2 .append (.inr rfl) d s _ _ ho _ _ hd hs hr (hK _ _ (h w' (Lib.hid hm)))
theorem wpList_clearP (hgd : Region.wanted o (yielded ops a.tmps) = true) (d : Operand) (ho : o.op = .call { callee := .builtin .clear, args := #[d], argTypes := #[49] })
    (g off : Nat) (cur : List Value) (dp : Option Addr) (n c : Nat) (hd : a.eval d = .slice dp n c) (hg : Whole w g 60 cur) (hp : 0 < n → dp = some ⟨g, off, none⟩) (hfit : off + n * 3 ≤ cur.length)
    (h : ∀ w' zs, zs.length = n * 3 → Hid (Moved w w' g 60 (splice cur off zs)) → wpList Try.prog ops Q rest (a.put o.dst (.tuple #[])) w') : wpList Try.prog ops Q (o :: rest) a w := by
  obtain ⟨w', zs, hr, hl, hm⟩ := run_clearK (P := Try.prog) w 49 o.type 60 (.agg #[.string ⟨#[]⟩, .string ⟨#[]⟩, .int .i64 0]) 3 Try.underlying49 Try.zeroValue60 rfl (by intro v hv; simp [Value.cells] at hv; rcases hv with rfl | rfl <;> rfl) g off n c dp _ cur hg hp hfit
  exact BigFrame.wpList_want hgd fun K2 hK => wp_clearK d _ ho _ hd hr (hK _ _ (h w' zs hl (Lib.hid hm)))
theorem wpList_zerosP (hgd : Region.wanted o (yielded ops a.tmps) = true) (d s : Operand) (ho : o.op = .call { callee := .builtin .append, args := #[d, s], argTypes := #[49, 3] })
    (ap : Option Addr) (i cap n : Nat) (olds : List Value) (hd : a.eval d = .slice ap i cap) (hs : a.eval s = .int .i64 n) (hl : olds.length = i * 3) (hsrc : Srcs w ap olds) (h0 : 0 < n) (hg : cap < i + n) (hfit : i + n ≤ 2000000)
    (h : ∀ w' c cur, Hid (Whole w' w.heap.size 60 cur ∧ cur.length = c * 3 ∧ cur.take (i * 3) = olds ∧ i + n ≤ c ∧ c ≤ maxLen ∧ w.grownBy w' none ∧ w'.heap.size = w.heap.size + 1) → i + n ≤ c → wpList Try.prog ops Q rest (a.put o.dst (.slice (some ⟨w.heap.size, 0, none⟩) (i + n) c)) w') : wpList Try.prog ops Q (o :: rest) a w := by
  obtain ⟨i0, hi, hz0, hz1, hz2⟩ := info_mkE
  obtain ⟨w', c, cur, hr, hm⟩ := run_zerosK (P := Try.prog) w 49 3 o.type 60 i0 _ 3 40 .i64 _ Try.underlying49 Try.underlying3 hi hz0 hz1 (by decide) hz2 rfl ap i cap n olds hl hsrc h0 hg (by unfold maxLen; omega) (by omega)
  exact BigFrame.wpList_want hgd fun K2 hK => wp_call2 .append (.inr rfl) d s _ _ ho _ _ hd hs hr (hK _ _ (h w' c cur (Lib.hid hm) hm.2.2.2.1))
end
theorem encW_one' (l : List Wr) : ∀ v ∈ flatG encW l, v.oneCell' = true := by
  intro u hu
  obtain ⟨y, _, hy⟩ := List.mem_flatMap.1 hu
  exact encW_one y u hy
end Go.Proofs.Ytgppgecglkellaa
namespace Go.Proofs.Ytgppgecglkellaa
open Go.RowKit
attribute [local go_sem] less_eq same_eq le_eq ge_eq gt_eq

set_option maxHeartbeats 400000 in
theorem empty_any (s : K × K) (w : World) : Calls Try.prog 30 #[.agg #[.string s.1, .string s.2]] w fun e w' => e = .returned (.bool (decide (s.2 ≤ s.1))) ∧ Below w.heap.size w w' := by
  go_enter Try.func30, Try.ntmps30
  go_wp2
  go_ret
  exact ⟨rfl, (Below.refl _ _).alloc (Nat.le_refl _) _⟩

/-- cmp.Compare at texts -/
def cmpKey (a b : K) : Int := if a < b then -1 else if b < a then 1 else 0
set_option maxHeartbeats 400000 in
theorem compare_any (a b : K) (w : World) : Calls Try.prog 38 #[.string a, .string b] w fun e w' => e = .returned (.int .i64 (cmpKey a b)) ∧ w' = w := by
  by_cases h1 : a < b
  · go_enter Try.func38, Try.ntmps38
    go_wp2
    go_ret
    exact ⟨by simp [cmpKey, h1], rfl⟩
  · by_cases h2 : a = b
    · subst h2
      go_enter Try.func38, Try.ntmps38
      go_wp2
      go_ret
      exact ⟨by simp [cmpKey, h1], rfl⟩
    · have h3 : b < a := by grind
      go_enter Try.func38, Try.ntmps38
      go_wp2
      go_ret
      exact ⟨by simp [cmpKey, h1, h3], rfl⟩

set_option maxHeartbeats 400000 in
theorem next_any (k : K) (w : World) (hk : k.size < 9223372036854775807) : Calls Try.prog 80 #[.string k] w fun e w' => e = .returned (.string (k ++ ⟨#[0]⟩)) ∧ w' = w := by
  go_enter Try.func80, Try.ntmps80
  go_wp2
  go_ret
  exact ⟨rfl, rfl⟩

set_option maxHeartbeats 400000 in
theorem meet_any (a b : K × K) (w : World) : Calls Try.prog 32 #[.agg #[.string a.1, .string a.2], .agg #[.string b.1, .string b.2]] w fun e w' => e = .returned (spv (meet a b)) ∧ Below w.heap.size w w' := by
  have hmax := fun (w : World) (ts : Array TypeId) (t : TypeId) (x y : ByteArray) => (Lib.run_max_strs (P := Try.prog) w ts t x y)
  have hmin := fun (w : World) (ts : Array TypeId) (t : TypeId) (x y : ByteArray) => (Lib.run_min_strs (P := Try.prog) w ts t x y)
  simp only [maxS_eq, minS_eq] at hmax hmin
  by_cases h : mn a.2 b.2 ≤ mx a.1 b.1
  · have e : meet a b = (⟨#[]⟩, ⟨#[]⟩) := by rw [meet, if_pos h]
    rw [e]
    go_enter Try.func32, Try.ntmps32
    go_wp2
    refine bodyPost_ret (v := .agg #[.string ⟨#[]⟩, .string ⟨#[]⟩]) (by simp [results, Try.results32, go_sem]) rfl ⟨rfl, ?_⟩
    ((repeat' (first | exact Below.refl _ _ | refine Below.alloc ?_ ?_ _ | refine Below.setCell ?_ ?_ _ | refine Below.drew ?_)); all_goals ((try simp only [World.size_alloc]); omega))
  · have e : meet a b = (mx a.1 b.1, mn a.2 b.2) := by rw [meet, if_neg h]
    rw [e]
    go_enter Try.func32, Try.ntmps32
    go_wp2
    refine bodyPost_ret (v := .agg #[.string (mx a.1 b.1), .string (mn a.2 b.2)]) (by simp [results, Try.results32, go_sem]) rfl ⟨rfl, ?_⟩
    ((repeat' (first | exact Below.refl _ _ | refine Below.alloc ?_ ?_ _ | refine Below.setCell ?_ ?_ _ | refine Below.drew ?_)); all_goals ((try simp only [World.size_alloc]); omega))

end Go.Proofs.Ytgppgecglkellaa
