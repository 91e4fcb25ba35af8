/- Moves inside the row of a slice of pairs, as steps of a walk; what is left of the row. -/
import Derived.Test.YtpfhkijnaiopoaaMove
import Derived.Test.YtpfhkijnaiopoaaChg
namespace Go.Proofs.Ytpfhkijnaiopoaa
open Go.RowKit
section
variable {α : Type} {enc : α → List Value} {k : Nat}
theorem flatG_take (hk : ∀ x, (enc x).length = k) : ∀ (l : List α) (i : Nat), flatG enc (l.take i) = (flatG enc l).take (i * k)
  | [], i => by simp [flatG]
  | x :: r, 0 => by simp [flatG]
  | x :: r, i + 1 => by
    rw [List.take_succ_cons, show x :: r.take i = [x] ++ r.take i from rfl, show x :: r = [x] ++ r from rfl, flatG_append, flatG_append, flatG_take hk r i, List.take_append]
    have h1 : (flatG enc [x]).length = k := by simp [flatG, hk]
    rw [List.take_of_length_le (l := flatG enc [x]) (by rw [h1, Nat.add_mul]; omega), h1, show (i + 1) * k - k = i * k by rw [Nat.add_mul]; omega]
theorem flatG_drop (hk : ∀ x, (enc x).length = k) : ∀ (l : List α) (i : Nat), flatG enc (l.drop i) = (flatG enc l).drop (i * k)
  | [], i => by simp [flatG]
  | x :: r, 0 => by simp [flatG]
  | x :: r, i + 1 => by
    rw [List.drop_succ_cons, show x :: r = [x] ++ r from rfl, flatG_append, flatG_drop hk r i, List.drop_append]
    have h1 : (flatG enc [x]).length = k := by simp [flatG, hk]
    rw [show (flatG enc [x]).drop ((i + 1) * k) = [] from List.drop_eq_nil_of_le (by rw [h1, Nat.add_mul]; omega), h1, show (i + 1) * k - k = i * k by rw [Nat.add_mul]; omega, List.nil_append]
end
section
variable {α : Type} (L cs : List α) (off n : Nat)
theorem take_splice_lt (h : n ≤ off) (ho : off ≤ L.length) : (splice L off cs).take n = L.take n := by
  unfold splice
  rw [List.take_append_of_le_length (by simp; omega), List.take_take, Nat.min_eq_left h]
theorem take_splice_end (h : off ≤ L.length) (hn : n = off + cs.length) : (splice L off cs).take n = L.take off ++ cs := by
  unfold splice
  subst hn
  rw [← List.append_assoc, List.take_append_of_le_length (by simp; omega)]
  exact List.take_of_length_le (by simp; omega)
theorem drop_splice_ge (h : off + cs.length ≤ n) (ho : off ≤ L.length) : (splice L off cs).drop n = L.drop n := by
  unfold splice
  rw [← List.append_assoc, List.drop_append, List.drop_eq_nil_of_le (by simp; omega), List.nil_append, List.drop_drop]
  congr 1
  simp; omega
theorem get_splice_ge (j : Nat) (h : off + cs.length ≤ j) (ho : off ≤ L.length) : (splice L off cs)[j]? = L[j]? := by
  have := drop_splice_ge L cs off j h ho
  have h2 := congrArg (fun l => l[0]?) this
  simpa using h2
end
theorem Whole.srcs {w : World} {g : Nat} {t : TypeId} {cur : List Value} (h : Whole w g t cur) (o : Nat) (cs : List Value) (hc : ∀ j v, cs[j]? = some v → cur[o + j]? = some v) : ∀ j v, cs[j]? = some v → w.cell? ((⟨g, o, none⟩ : Addr).add j) = some v :=
  fun j v hj => by rw [Addr.add_lit]; exact h.cell _ _ (hc j v hj)
theorem cells_at {cur A B : List Value} {n : Nat} (h : cur.take n = A ++ B) : ∀ j v, B[j]? = some v → cur[A.length + j]? = some v := by
  intro j v hj
  have hl : A.length + j < n := by
    have h1 := (List.getElem?_eq_some_iff.1 hj).1
    have h2 := congrArg List.length h
    simp at h2
    omega
  have h3 : (cur.take n)[A.length + j]? = some v := by rw [h, List.getElem?_append_right (by omega), Nat.add_sub_cancel_left]; exact hj
  rwa [List.getElem?_take_of_lt hl] at h3
theorem Moved.away {w w' : World} {g : Nat} {t : TypeId} {cur : List Value} (h : Moved w w' g t cur) {b : Nat} {t' : TypeId} {cs : List Value} (hb : Whole w b t' cs) (hne : b ≠ g) : Whole w' b t' cs := hb.grown h.grown (by simpa using hne)

theorem info_pairE : ∃ i0, Try.prog.info? 56 = some i0 ∧ i0.zero = some (.agg #[.string ⟨#[]⟩, .string ⟨#[]⟩]) ∧ i0.size = 2 ∧ i0.bytes = 32 := info_parts info_pair

section
variable {ops : Array Oper} {rest : List Oper} {o : Oper} {a : Act} {Q : Exit → Act → World → Prop} {K1 : Act → World → Prop} {w : World}
theorem wp_copyP (d s : Operand) (ho : o.op = .call { callee := .builtin .copy, args := #[d, s], argTypes := #[22, 22] })
    (g off : Nat) (cur cs : List Value) (dp sp : Option Addr) (dLen dCap sLen sCap : Nat) (hd : a.eval d = .slice dp dLen dCap) (hs : a.eval s = .slice sp sLen sCap) (hg : Whole w g 56 cur) (hn : cs.length = Nat.min sLen dLen * 2)
    (hp : 0 < cs.length → dp = some ⟨g, off, none⟩) (hsrc : Srcs w sp cs) (hfit : off + cs.length ≤ cur.length) (h1 : ∀ v ∈ cs, v.oneCell' = true)
    (h : ∀ w', Hid (Moved w w' g 56 (splice cur off cs)) → K1 (a.put o.dst (goInt (Nat.min sLen dLen))) w') : Oper.wp Try.prog o a w K1 Q := by
  obtain ⟨i0, hi, hz0, hz1, hz2⟩ := info_pairE
  obtain ⟨w', hr, hm⟩ := run_copyK (P := Try.prog) w 22 22 o.type 56 i0 2 Try.underlying22 hi hz1 g off dLen dCap dp sp sLen sCap _ cur hg cs hn hp hsrc hfit h1
  exact wp_call2 .copy (.inl rfl) d s _ _ ho _ _ hd hs hr (h w' (Lib.hid hm))
theorem wpList_copyP (hgd : Region.wanted o (yielded ops a.tmps) = true) (d s : Operand) (ho : o.op = .call { callee := .builtin .copy, args := #[d, s], argTypes := #[22, 22] })
    (g off : Nat) (cur cs : List Value) (dp sp : Option Addr) (dLen dCap sLen sCap : Nat) (hd : a.eval d = .slice dp dLen dCap) (hs : a.eval s = .slice sp sLen sCap) (hg : Whole w g 56 cur) (hn : cs.length = Nat.min sLen dLen * 2)
    (hp : 0 < cs.length → dp = some ⟨g, off, none⟩) (hsrc : Srcs w sp cs) (hfit : off + cs.length ≤ cur.length) (h1 : ∀ v ∈ cs, v.oneCell' = true)
    (h : ∀ w', Hid (Moved w w' g 56 (splice cur off cs)) → wpList Try.prog ops Q rest (a.put o.dst (goInt (Nat.min sLen dLen))) w') : wpList Try.prog ops Q (o :: rest) a w :=
  BigFrame.wpList_want hgd fun K2 hK => wp_copyP d s ho g off cur cs dp sp dLen dCap sLen sCap hd hs hg hn hp hsrc hfit h1 fun w' hm => hK _ _ (h w' hm)
theorem wpList_roomP (hgd : Region.wanted o (yielded ops a.tmps) = true) (d s : Operand) (ho : o.op = .call { callee := .builtin .append, args := #[d, s], argTypes := #[22, 22] })
    (g i cap : Nat) (cur cs : List Value) (sp : Option Addr) (m mc : Nat) (hd : a.eval d = .slice (some ⟨g, 0, none⟩) i cap) (hs : a.eval s = .slice sp m mc) (hg : Whole w g 56 cur) (hn : cs.length = m * 2)
    (hsrc : Srcs w sp cs) (hroom : i + m ≤ cap) (hfit : i * 2 + cs.length ≤ cur.length) (h1 : ∀ v ∈ cs, v.oneCell' = true)
    (h : ∀ w', Hid (Moved w w' g 56 (splice cur (i * 2) cs)) → wpList Try.prog ops Q rest (a.put o.dst (.slice (some ⟨g, 0, none⟩) (i + m) cap)) w') : wpList Try.prog ops Q (o :: rest) a w := by
  obtain ⟨i0, hi, hz0, hz1, hz2⟩ := info_pairE
  obtain ⟨w', hr, hm⟩ := run_roomK (P := Try.prog) w 22 o.type 56 i0 2 Try.underlying22 hi hz1 g i cap sp m mc _ cur hg cs hn hsrc hroom hfit h1
  exact BigFrame.wpList_want hgd fun K2 hK => wp_call2 .append (.inr rfl) d s _ _ ho _ _ hd hs hr (hK _ _ (h w' (Lib.hid hm)))
theorem wpList_clearP (hgd : Region.wanted o (yielded ops a.tmps) = true) (d : Operand) (ho : o.op = .call { callee := .builtin .clear, args := #[d], argTypes := #[22] })
    (g off : Nat) (cur : List Value) (dp : Option Addr) (n c : Nat) (hd : a.eval d = .slice dp n c) (hg : Whole w g 56 cur) (hp : 0 < n → dp = some ⟨g, off, none⟩) (hfit : off + n * 2 ≤ cur.length)
    (h : ∀ w' zs, zs.length = n * 2 → Hid (Moved w w' g 56 (splice cur off zs)) → wpList Try.prog ops Q rest (a.put o.dst (.tuple #[])) w') : wpList Try.prog ops Q (o :: rest) a w := by
  obtain ⟨w', zs, hr, hl, hm⟩ := run_clearK (P := Try.prog) w 22 o.type 56 (.agg #[.string ⟨#[]⟩, .string ⟨#[]⟩]) 2 Try.underlying22 Try.zeroValue56 rfl (by intro v hv; simp [Value.cells] at hv; subst hv; rfl) g off n c dp _ cur hg hp hfit
  exact BigFrame.wpList_want hgd fun K2 hK => wp_clearK d _ ho _ hd hr (hK _ _ (h w' zs hl (Lib.hid hm)))
theorem wpList_zerosP (hgd : Region.wanted o (yielded ops a.tmps) = true) (d s : Operand) (ho : o.op = .call { callee := .builtin .append, args := #[d, s], argTypes := #[22, 3] })
    (ap : Option Addr) (i cap n : Nat) (olds : List Value) (hd : a.eval d = .slice ap i cap) (hs : a.eval s = .int .i64 n) (hl : olds.length = i * 2) (hsrc : Srcs w ap olds) (h0 : 0 < n) (hg : cap < i + n) (hfit : i + n ≤ 7036874417000)
    (h : ∀ w' c cur, Hid (Whole w' w.heap.size 56 cur ∧ cur.length = c * 2 ∧ cur.take (i * 2) = olds ∧ i + n ≤ c ∧ c ≤ maxLen ∧ w.grownBy w' none ∧ w'.heap.size = w.heap.size + 1) → i + n ≤ c → wpList Try.prog ops Q rest (a.put o.dst (.slice (some ⟨w.heap.size, 0, none⟩) (i + n) c)) w') : wpList Try.prog ops Q (o :: rest) a w := by
  obtain ⟨i0, hi, hz0, hz1, hz2⟩ := info_pairE
  obtain ⟨w', c, cur, hr, hm⟩ := run_zerosK (P := Try.prog) w 22 3 o.type 56 i0 _ 2 32 .i64 _ Try.underlying22 Try.underlying3 hi hz0 hz1 (by decide) hz2 rfl ap i cap n olds hl hsrc h0 hg (by unfold maxLen; omega) (by omega)
  exact BigFrame.wpList_want hgd fun K2 hK => wp_call2 .append (.inr rfl) d s _ _ ho _ _ hd hs hr (hK _ _ (h w' c cur (Lib.hid hm) hm.2.2.2.1))
end
theorem cellsS_one' (l : List (K × K)) : ∀ v ∈ flatG cellsS l, v.oneCell' = true := by
  intro u hu
  obtain ⟨y, _, hy⟩ := List.mem_flatMap.1 hu
  exact cellsS_one y u hy
end Go.Proofs.Ytpfhkijnaiopoaa
