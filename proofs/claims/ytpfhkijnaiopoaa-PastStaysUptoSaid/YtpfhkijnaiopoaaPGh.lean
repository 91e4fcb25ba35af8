/- What the program keeps of a Past, against the Past as a state: pure. -/
import Derived.Test.YtpfhkijnaiopoaaPRi
namespace Go.Proofs.Ytpfhkijnaiopoaa

def I64 (n : Int) : Prop := -9223372036854775808 ≤ n ∧ n < 9223372036854775808
def many : Nat := 3000000
abbrev Dd := Int × Chg
/-- what was done up to a version -/
def upD (ds : List Dd) (v : Int) : List Dd := ds.filter (fun d => decide (d.1 ≤ v))
def chgs (ds : List Dd) : List Chg := ds.map (·.2)
theorem chgs_len (ds : List Dd) : (chgs ds).length = ds.length := List.length_map _
/-- how many were done up to a version -/
def cnt (ds : List Dd) (v : Int) : Nat := ds.countP (fun d => decide (d.1 ≤ v))
theorem cnt_le (ds : List Dd) (v : Int) : cnt ds v ≤ ds.length := List.countP_le_length
def Rise (ds : List Dd) : Prop := ds.Pairwise (fun a b => a.1 ≤ b.1)
theorem cnt_take : ∀ {ds : List Dd} (_ : Rise ds) (v : Int), ds.take (cnt ds v) = upD ds v ∧ ds.drop (cnt ds v) = ds.filter (fun d => !decide (d.1 ≤ v))
  | [], _, v => by simp [cnt, upD]
  | x :: r, h, v => by
    obtain ⟨h1, h2⟩ := List.pairwise_cons.1 h
    obtain ⟨i1, i2⟩ := cnt_take (ds := r) h2 v
    by_cases hx : x.1 ≤ v
    · have e : cnt (x :: r) v = cnt r v + 1 := by unfold cnt; rw [List.countP_cons_of_pos (by simpa using hx)]
      rw [e, List.take_succ_cons, List.drop_succ_cons, i1, i2]
      unfold upD
      simp [hx]
    · have hr : ∀ d ∈ r, ¬ d.1 ≤ v := fun d hd => by have := h1 d hd; omega
      have e : cnt (x :: r) v = 0 := by
        unfold cnt
        rw [List.countP_eq_zero]
        intro d hd
        rcases List.mem_cons.1 hd with rfl | hd
        · simpa using hx
        · simpa using hr d hd
      rw [e, List.take_zero, List.drop_zero]
      constructor
      · symm
        unfold upD
        rw [List.filter_eq_nil_iff]
        intro d hd
        rcases List.mem_cons.1 hd with rfl | hd
        · simpa using hx
        · simpa using hr d hd
      · symm
        rw [List.filter_eq_self]
        intro d hd
        rcases List.mem_cons.1 hd with rfl | hd
        · simpa using hx
        · simpa using hr d hd
/-- the last one at or below a version tells how many there are -/
theorem cnt_at {ds : List Dd} (h : Rise ds) {v : Int} {i : Nat} (hi : i < ds.length) (h1 : ds[i].1 ≤ v) (h2 : ∀ j (_ : j < ds.length), i < j → ¬ ds[j].1 ≤ v) : cnt ds v = i + 1 := by
  unfold cnt
  have hs : ds = ds.take (i + 1) ++ ds.drop (i + 1) := (List.take_append_drop _ _).symm
  rw [hs, List.countP_append]
  have a : (ds.take (i + 1)).countP (fun d => decide (d.1 ≤ v)) = (ds.take (i + 1)).length := List.countP_eq_length.2 fun x hx => by
    obtain ⟨t, ht, rfl⟩ := List.getElem_of_mem hx
    simp at ht
    rw [List.getElem_take]
    rcases Nat.lt_or_ge t i with k | k
    · have := List.pairwise_iff_getElem.1 h t i (by omega) hi k
      simp; omega
    · have e : t = i := by omega
      subst e; simpa using h1
  have b : (ds.drop (i + 1)).countP (fun d => decide (d.1 ≤ v)) = 0 := List.countP_eq_zero.2 fun x hx => by
    obtain ⟨t, ht, rfl⟩ := List.getElem_of_mem hx
    simp at ht
    rw [List.getElem_drop]
    simpa using h2 (i + 1 + t) (by omega) (by omega)
  rw [a, b, List.length_take]
  omega
theorem cnt_zero {ds : List Dd} {v : Int} (h : ∀ j (_ : j < ds.length), ¬ ds[j].1 ≤ v) : cnt ds v = 0 := List.countP_eq_zero.2 fun x hx => by
  obtain ⟨t, ht, rfl⟩ := List.getElem_of_mem hx
  simpa using h t ht

theorem sound_of {l : List (K × K)} (h1 : Rises l) (h2 : ∀ p ∈ l, p.1.size ≤ 16 ∧ p.2.size ≤ 64) : soundP l = true := by
  have key : ∀ (l : List (K × K)) (o : Option K), Rises l → (∀ p ∈ l, p.1.size ≤ 16 ∧ p.2.size ≤ 64) → (∀ q, o = some q → ∀ p ∈ l, q < p.1) → okFrom o l = true := by
    intro l
    induction l with
    | nil => intro o _ _ _; rfl
    | cons x r ih =>
      intro o h1 h2 h3
      obtain ⟨i1, i2⟩ := rises_cons.1 h1
      have hx := h2 x (by simp)
      rw [okFrom, if_neg]
      · exact ih _ i2 (fun p hp => h2 p (by simp [hp])) fun q hq p hp => by
          injection hq with hq
          rw [← hq]; exact i1 p hp
      · rintro (h | h | ⟨q, hq, h⟩)
        · omega
        · omega
        · have := h3 q hq x (by simp)
          grind
  exact key l none h1 h2 (by simp)
theorem check_put {c : Chg} (h : checkAns c = 0) (hk : c.kind = 1) : c.key.size ≤ 16 ∧ c.val.size ≤ 64 := by
  unfold checkAns at h
  rw [if_pos hk] at h
  split at h
  · simp at h
  · omega
theorem sound_one {l : List (K × K)} (h : soundP l = true) {c : Chg} (hc : checkAns c = 0) : soundP (oneP l c) = true := by
  obtain ⟨h1, h2⟩ := soundP_spec h
  refine sound_of (rises_oneP c h1) fun p hp => ?_
  rcases (mem_oneP l c p).1 hp with ⟨h3, _⟩ | ⟨hk, rfl⟩
  · exact h2 p h3
  · exact check_put hc hk
theorem sound_apply : ∀ {cs : List Chg} {l : List (K × K)} (_ : soundP l = true) (_ : ∀ c ∈ cs, checkAns c = 0), soundP (applyP l cs) = true
  | [], _, h, _ => h
  | c :: r, l, h, hc => sound_apply (cs := r) (l := oneP l c) (sound_one h (hc c (by simp))) (fun c' h' => hc c' (List.mem_cons_of_mem _ h'))
theorem allAns_ok : ∀ {cs : List Chg}, (∀ c ∈ cs, checkAns c = 0) → allAns cs = 0
  | [], _ => rfl
  | c :: r, h => by
    unfold allAns
    rw [if_pos (h c (by simp))]
    exact allAns_ok fun c' h' => h c' (List.mem_cons_of_mem _ h')
theorem allAns_all : ∀ {cs : List Chg}, allAns cs = 0 → ∀ c ∈ cs, checkAns c = 0
  | [], _, c, hc => by simp at hc
  | x :: r, h, c, hc => by
    unfold allAns at h
    split at h
    · rename_i h1
      rcases List.mem_cons.1 hc with rfl | hc
      · exact h1
      · exact allAns_all h c hc
    · contradiction
/-- is a key one of those that a change is about -/
def namesB (c : Chg) (k : K) : Bool := if c.kind = 3 then hasB (c.key, c.val) k else decide (c.key = k)
/-- what a key has behind a change that is about it -/
def leftV (c : Chg) : K × Bool := if c.kind = 1 then (c.val, true) else (⟨#[]⟩, false)
theorem namesB_iff (c : Chg) (k : K) : namesB c k = true ↔ has (cspan c) k := by
  unfold namesB
  by_cases h3 : c.kind = 3
  · rw [if_pos h3, hasB_iff]
    unfold cspan
    rw [if_pos h3]
  · rw [if_neg h3, has_cspan c h3]
    simp [eq_comm]
theorem valOf_no {P : Prs} {k : K} (h : ∀ x ∈ P, x.1 ≠ k) : valOf P k = (⟨#[]⟩, false) := by
  unfold valOf
  rw [List.find?_eq_none.2 (fun x hx => by simpa using h x hx)]
theorem valOf_one {l : Prs} (h : Rises l) (c : Chg) (k : K) : valOf (oneP l c) k = if namesB c k then leftV c else valOf l k := by
  have hr := rises_oneP c h
  have hm := fun p => mem_oneP l c p
  by_cases hn : namesB c k = true
  · rw [if_pos hn]
    have hh := (namesB_iff c k).1 hn
    unfold leftV
    by_cases h1 : c.kind = 1
    · rw [if_pos h1]
      have e : k = c.key := (has_cspan c (by omega) k).1 hh
      rw [e]
      exact valOf_mem hr (x := (c.key, c.val)) ((hm _).2 (.inr ⟨h1, rfl⟩))
    · rw [if_neg h1]
      refine valOf_no fun x hx e => ?_
      rcases (hm x).1 hx with ⟨_, h2⟩ | ⟨h2, _⟩
      · exact h2 (by rw [e]; exact hh)
      · exact h1 h2
  · rw [if_neg hn]
    have hh : ¬ has (cspan c) k := fun e => hn ((namesB_iff c k).2 e)
    have hk : c.kind = 1 → k ≠ c.key := fun h1 e => hh ((has_cspan c (by omega) k).2 e)
    cases hv : (valOf l k).2 with
    | false =>
      obtain ⟨e1, e2⟩ := valOf_none hv
      rw [e1]
      refine valOf_no fun x hx e => ?_
      rcases (hm x).1 hx with ⟨h2, _⟩ | ⟨h2, h3⟩
      · exact e2 x h2 e
      · exact hk h2 (by rw [← e, h3])
    | true =>
      have e1 : valOf l k = ((valOf l k).1, true) := by rw [← hv]
      have h2 := valOf_of e1
      have h3 := valOf_mem hr (x := (k, (valOf l k).1)) ((hm _).2 (.inl ⟨h2, hh⟩))
      rw [e1]
      exact h3
/-- of all that was done to a key the last one counts -/
theorem valOf_apply : ∀ {cs : List Chg} {l : Prs} (_ : Rises l) (k : K) (i : Nat) (_ : i ≤ cs.length) (_ : ∀ j (_ : j < cs.length), i ≤ j → namesB cs[j] k = false), valOf (applyP l cs) k = valOf (applyP l (cs.take i)) k := by
  intro cs l hl k i hi h
  obtain ⟨n, hn⟩ : ∃ n, cs.length - i = n := ⟨_, rfl⟩
  induction n generalizing i with
  | zero =>
    have : i = cs.length := by omega
    subst this
    rw [List.take_length]
  | succ n ih =>
    have hlt : i < cs.length := by omega
    rw [ih (i + 1) (by omega) (fun j hj hij => h j hj (by omega)) (by omega), applyP_take l cs i hlt, valOf_one (rises_applyP hl _), h i hlt (Nat.le_refl _)]
    simp
theorem valOf_last {cs : List Chg} {l : Prs} (hl : Rises l) (k : K) (i : Nat) (hi : i < cs.length) (hn : namesB cs[i] k = true) (h : ∀ j (_ : j < cs.length), i < j → namesB cs[j] k = false) : valOf (applyP l cs) k = leftV cs[i] := by
  rw [valOf_apply hl k (i + 1) (by omega) (fun j hj hij => h j hj (by omega)), applyP_take l cs i hi, valOf_one (rises_applyP hl _), hn]
  simp

/-- what the program keeps: pairs at first, and what was done since -/
structure Gh (p : Pa) (bs : Prs) (ds : List Dd) (n : Nat) : Prop where
  link : ∀ u, p.first ≤ u → p.at_ u = applyP bs (chgs (upD ds u))
  ver : ∀ d ∈ ds, p.first < d.1 ∧ d.1 ≤ p.last
  rise : Rise ds
  ok : ∀ d ∈ ds, checkAns d.2 = 0
  sound : soundP bs = true
  fl : p.first ≤ p.last
  i1 : I64 p.first
  i2 : I64 p.last
  len : bs.length + ds.length ≤ n
  few : n ≤ many
section
variable {p : Pa} {bs : Prs} {ds : List Dd} {n : Nat} {u : Int}
theorem upD_all (h : ∀ d ∈ ds, d.1 ≤ u) : upD ds u = ds := List.filter_eq_self.2 fun d hd => by simpa using h d hd
theorem upD_none (h : ∀ d ∈ ds, ¬ d.1 ≤ u) : upD ds u = [] := List.filter_eq_nil_iff.2 fun d hd => by simpa using h d hd
theorem upD_append (a b : List Dd) (u : Int) : upD (a ++ b) u = upD a u ++ upD b u := List.filter_append ..
theorem upD_upD (u v : Int) : upD (upD ds v) u = upD ds (min u v) := by
  unfold upD
  rw [List.filter_filter]
  refine List.filter_congr fun d _ => ?_
  rw [← Bool.decide_and]
  congr 1
  apply propext
  omega
theorem chgs_append (a b : List Dd) : chgs (a ++ b) = chgs a ++ chgs b := List.map_append
theorem Gh.oks (h : Gh p bs ds n) (v : Int) : ∀ c ∈ chgs (upD ds v), checkAns c = 0 := by
  intro c hc
  obtain ⟨d, hd, rfl⟩ := List.mem_map.1 hc
  exact h.ok d (List.mem_filter.1 hd).1
theorem Gh.new : Gh Pa.new [] [] 0 := ⟨fun _ _ => rfl, by simp, .nil, by simp, rfl, Int.le_refl _, by unfold I64; show _ ≤ (0 : Int) ∧ (0 : Int) < _; omega, by unfold I64; show _ ≤ (0 : Int) ∧ (0 : Int) < _; omega, Nat.le_refl _, by unfold many; omega⟩
theorem Gh.from_ {v : Int} {ps : Prs} (hv : I64 v) (hs : soundP ps = true) (hn : ps.length ≤ many) : Gh (Pa.from_ v ps) ps [] ps.length :=
  ⟨fun u hu => by show atL [(v, ps)] u = ps; unfold atL; simp; intro h; exact absurd hu (by show ¬ v ≤ u; omega), by simp, .nil, by simp, hs, Int.le_refl _, hv, hv, Nat.le_refl _, hn⟩
theorem Gh.at_last (h : Gh p bs ds n) : p.at_ p.last = applyP bs (chgs ds) := by rw [h.link _ h.fl, upD_all (fun d hd => (h.ver d hd).2)]
theorem Gh.add (h : Gh p bs ds n) {v : Int} {cs : List Chg} (hv : I64 v) (h1 : ¬ v ≤ p.last) (h2 : ∀ c ∈ cs, checkAns c = 0) (hn : n + cs.length ≤ many) : ∃ p', p.add v cs = (0, p') ∧ p'.first = p.first ∧ p'.last = v ∧ Gh p' bs (ds ++ cs.map (fun c => (v, c))) (n + cs.length) := by
  refine ⟨{ p with last := v, l := p.l ++ [(v, applyP (p.at_ p.last) cs)] }, by unfold Pa.add; rw [if_neg h1, if_neg (by rw [allAns_ok h2]; simp)], rfl, rfl, ?_⟩
  have hf := h.fl
  have hc : chgs (cs.map (fun c => (v, c))) = cs := by unfold chgs; rw [List.map_map]; exact List.map_id cs
  refine ⟨fun u hu => ?_, fun d hd => ?_, ?_, fun d hd => ?_, h.sound, by show p.first ≤ v; omega, h.i1, hv, by have := h.len; simp; omega, hn⟩
  · show atL (p.l ++ [(v, applyP (p.at_ p.last) cs)]) u = _
    rw [atL_snoc, upD_append, chgs_append, applyP_append]
    by_cases hvu : v ≤ u
    · rw [if_pos hvu, h.at_last, upD_all (ds := ds) (fun d hd => by have := (h.ver d hd).2; omega), upD_all (ds := cs.map _) (fun d hd => by obtain ⟨c, _, rfl⟩ := List.mem_map.1 hd; exact hvu), hc]
    · rw [if_neg hvu, upD_none (ds := cs.map _) (fun d hd => by obtain ⟨c, _, rfl⟩ := List.mem_map.1 hd; exact hvu)]
      exact h.link u hu
  · show p.first < d.1 ∧ d.1 ≤ v
    rcases List.mem_append.1 hd with hd | hd
    · have := h.ver d hd; omega
    · obtain ⟨c, _, rfl⟩ := List.mem_map.1 hd
      simp only; omega
  · refine List.pairwise_append.2 ⟨h.rise, ?_, fun a ha b hb => ?_⟩
    · exact List.pairwise_map.2 (List.pairwise_of_forall (fun _ _ => Int.le_refl _))
    · obtain ⟨c, _, rfl⟩ := List.mem_map.1 hb
      have := (h.ver a ha).2
      simp only; omega
  · rcases List.mem_append.1 hd with hd | hd
    · exact h.ok d hd
    · obtain ⟨c, hc2, rfl⟩ := List.mem_map.1 hd
      exact h2 c hc2
theorem atL_filter (l : List (Int × Prs)) (u v : Int) : atL (l.filter fun x => decide (x.1 ≤ v)) u = atL l (min u v) := by
  have key : ∀ (l : List (Int × Prs)) (acc : Prs), (l.filter fun x => decide (x.1 ≤ v)).foldl (fun acc x => if x.1 ≤ u then x.2 else acc) acc = l.foldl (fun acc x => if x.1 ≤ min u v then x.2 else acc) acc := by
    intro l
    induction l with
    | nil => intro acc; rfl
    | cons x r ih =>
      intro acc
      by_cases hx : x.1 ≤ v
      · rw [List.filter_cons_of_pos (by simpa using hx), List.foldl_cons, List.foldl_cons, ih]
        congr 1
        by_cases hu : x.1 ≤ u
        · rw [if_pos hu, if_pos (by omega)]
        · rw [if_neg hu, if_neg (by omega)]
      · rw [List.filter_cons_of_neg (by simpa using hx), List.foldl_cons, ih, if_neg (by omega)]
  exact key l []
theorem Gh.back (h : Gh p bs ds n) {v : Int} (h1 : p.first ≤ v) (h2 : v ≤ p.last) : ∃ p', p.back v = (0, p') ∧ p'.first = p.first ∧ p'.last = v ∧ Gh p' bs (ds.take (cnt ds v)) n := by
  have hk : p.known v = 0 := by unfold Pa.known; rw [if_neg (by omega), if_neg (by omega)]
  refine ⟨{ p with last := v, l := p.l.filter fun x => decide (x.1 ≤ v) }, by unfold Pa.back; rw [hk, if_neg (by simp)], rfl, rfl, ?_⟩
  rw [(cnt_take h.rise v).1]
  have hsub : ∀ d ∈ upD ds v, d ∈ ds ∧ d.1 ≤ v := fun d hd => by have := List.mem_filter.1 hd; simpa using this
  refine ⟨fun u hu => ?_, fun d hd => ?_, List.Pairwise.filter _ h.rise, fun d hd => h.ok d (hsub d hd).1, h.sound, h1, h.i1, ?_, ?_, h.few⟩
  · show atL (p.l.filter _) u = _
    rw [atL_filter, upD_upD]
    exact h.link _ (by change p.first ≤ u at hu; omega)
  · have := h.ver d (hsub d hd).1
    have := (hsub d hd).2
    show p.first < d.1 ∧ d.1 ≤ v
    omega
  · have a := h.i1; have b := h.i2
    unfold I64 at *
    show _ ≤ v ∧ v < _
    omega
  · have := h.len
    have h3 : (upD ds v).length ≤ ds.length := List.length_filter_le _ _
    omega
theorem Gh.forget (h : Gh p bs ds n) {v : Int} (h1 : p.first < v) (h2 : v ≤ p.last) : ∃ p', p.forget v = (0, p') ∧ p'.first = v ∧ p'.last = p.last ∧ Gh p' (p.at_ v) (ds.drop (cnt ds v)) n := by
  refine ⟨{ p with first := v }, by unfold Pa.forget; rw [if_neg (by omega), if_pos h1], rfl, rfl, ?_⟩
  have hat := h.link v (by omega)
  have hl : (upD ds v).length = cnt ds v := by
    rw [← (cnt_take h.rise v).1, List.length_take]
    have := cnt_le ds v
    omega
  have hlen : (p.at_ v).length ≤ bs.length + cnt ds v := by
    rw [hat]
    have := applyP_len bs (chgs (upD ds v))
    rw [chgs_len, hl] at this
    exact this
  rw [(cnt_take h.rise v).2]
  have hsub : ∀ d ∈ ds.filter (fun d => !decide (d.1 ≤ v)), d ∈ ds ∧ v < d.1 := fun d hd => by have := List.mem_filter.1 hd; simpa using this
  have hd2 : (ds.filter (fun d => !decide (d.1 ≤ v))).length + cnt ds v = ds.length := by
    rw [← (cnt_take h.rise v).2, List.length_drop]
    have := cnt_le ds v
    omega
  refine ⟨fun u hu => ?_, fun d hd => ?_, List.Pairwise.filter _ h.rise, fun d hd => h.ok d (hsub d hd).1, ?_, h2, ?_, h.i2, by have := h.len; omega, h.few⟩
  · change v ≤ u at hu
    show p.at_ u = _
    rw [h.link u (by omega), hat, ← applyP_append, ← chgs_append]
    congr 2
    have e : ds = upD ds v ++ ds.filter (fun d => !decide (d.1 ≤ v)) := by rw [← (cnt_take h.rise v).1, ← (cnt_take h.rise v).2, List.take_append_drop]
    conv => lhs; rw [e, upD_append, upD_upD, show min u v = v by omega]
  · have := h.ver d (hsub d hd).1
    have := (hsub d hd).2
    show v < d.1 ∧ d.1 ≤ p.last
    omega
  · rw [hat]
    exact sound_apply h.sound (h.oks v)
  · have a := h.i1; have b := h.i2
    unfold I64 at *
    show _ ≤ v ∧ v < _
    omega
theorem Gh.at_sound (h : Gh p bs ds n) {v : Int} (h1 : p.first ≤ v) : soundP (p.at_ v) = true := by
  rw [h.link v h1]
  exact sound_apply h.sound (h.oks v)
end
end Go.Proofs.Ytpfhkijnaiopoaa
