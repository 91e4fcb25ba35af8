/- Moves inside the row of a slice of pairs, as steps of a walk; what is left of the row. slices.Insert of at most one pair into a slice of the call's own. slices.Replace: a part of a slice of the call's own, by at most one pair. slices.Replace: the end of a slice. slices.Replace: a part in the midst of a slice, which leaves spare room. slices.Replace: a part in the midst of a slice without spare room. slices.Replace: a part of a slice of the own call, by at most one pair. What the small functions of span and cmp answer at this seat. -/
import Derived.Test.YtbifnogocmgddaaGreatFac
import Derived.Test.YtbifnogocmgddaaGreatFab
import Derived.Laws.Externs
namespace Go.Proofs.YtbifnogocmgddaaGreat
open Go.RowKit
section
variable {α : Type} {enc : α → List Value} {k : Nat}
theorem flatG_take (hk : ∀ x, (enc x).length = k) : ∀ (l : List α) (i : Nat), flatG enc (l.take i) = (flatG enc l).take (i * k)
  | [], i => by simp [flatG]
  | x :: r, 0 => by simp [flatG]
  | x :: r, i + 1 => by
    rw [List.take_succ_cons, show x :: r.take i = [x] ++ r.take i from rfl, show x :: r = [x] ++ r from rfl, flatG_append, flatG_append, flatG_take hk r i, List.take_append]
    have h1 : (flatG enc [x]).length = k := by simp [flatG, hk]
    rw [List.take_of_length_le (l := flatG enc [x]) (by rw [h1, Nat.add_mul]; omega), h1, show (i + 1) * k - k = i * k by rw [Nat.add_mul]; omega]
theorem flatG_drop (hk : ∀ x, (enc x).length = k) : ∀ (l : List α) (i : Nat), flatG enc (l.drop i) = (flatG enc l).drop (i * k)
  | [], i => by simp [flatG]
  | x :: r, 0 => by simp [flatG]
  | x :: r, i + 1 => by
    rw [List.drop_succ_cons, show x :: r = [x] ++ r from rfl, flatG_append, flatG_drop hk r i, List.drop_append]
    have h1 : (flatG enc [x]).length = k := by simp [flatG, hk]
    rw [show (flatG enc [x]).drop ((i + 1) * k) = [] from List.drop_eq_nil_of_le (by rw [h1, Nat.add_mul]; omega), h1, show (i + 1) * k - k = i * k by rw [Nat.add_mul]; omega, List.nil_append]
end
section
variable {α : Type} (L cs : List α) (off n : Nat)
theorem take_splice_lt (h : n ≤ off) (ho : off ≤ L.length) : (splice L off cs).take n = L.take n := by
  unfold splice
  rw [List.take_append_of_le_length (by simp; omega), List.take_take, Nat.min_eq_left h]
theorem take_splice_end (h : off ≤ L.length) (hn : n = off + cs.length) : (splice L off cs).take n = L.take off ++ cs := by
  unfold splice
  subst hn
  rw [← List.append_assoc, List.take_append_of_le_length (by simp; omega)]
  exact List.take_of_length_le (by simp; omega)
theorem drop_splice_ge (h : off + cs.length ≤ n) (ho : off ≤ L.length) : (splice L off cs).drop n = L.drop n := by
  unfold splice
  rw [← List.append_assoc, List.drop_append, List.drop_eq_nil_of_le (by simp; omega), List.nil_append, List.drop_drop]
  congr 1
  simp; omega
theorem get_splice_ge (j : Nat) (h : off + cs.length ≤ j) (ho : off ≤ L.length) : (splice L off cs)[j]? = L[j]? := by
  have := drop_splice_ge L cs off j h ho
  have h2 := congrArg (fun l => l[0]?) this
  simpa using h2
end
theorem Whole.srcs {w : World} {g : Nat} {t : TypeId} {cur : List Value} (h : Whole w g t cur) (o : Nat) (cs : List Value) (hc : ∀ j v, cs[j]? = some v → cur[o + j]? = some v) : ∀ j v, cs[j]? = some v → w.cell? ((⟨g, o, none⟩ : Addr).add j) = some v :=
  fun j v hj => by rw [Addr.add_lit]; exact h.cell _ _ (hc j v hj)
theorem cells_at {cur A B : List Value} {n : Nat} (h : cur.take n = A ++ B) : ∀ j v, B[j]? = some v → cur[A.length + j]? = some v := by
  intro j v hj
  have hl : A.length + j < n := by
    have h1 := (List.getElem?_eq_some_iff.1 hj).1
    have h2 := congrArg List.length h
    simp at h2
    omega
  have h3 : (cur.take n)[A.length + j]? = some v := by rw [h, List.getElem?_append_right (by omega), Nat.add_sub_cancel_left]; exact hj
  rwa [List.getElem?_take_of_lt hl] at h3
theorem Moved.away {w w' : World} {g : Nat} {t : TypeId} {cur : List Value} (h : Moved w w' g t cur) {b : Nat} {t' : TypeId} {cs : List Value} (hb : Whole w b t' cs) (hne : b ≠ g) : Whole w' b t' cs := hb.grown h.grown (by simpa using hne)

theorem info_pairE : ∃ i0, Tryz.prog.info? 69 = some i0 ∧ i0.zero = some (.agg #[.string ⟨#[]⟩, .string ⟨#[]⟩]) ∧ i0.size = 2 ∧ i0.bytes = 32 := info_parts info_pair

section
variable {ops : Array Oper} {rest : List Oper} {o : Oper} {a : Act} {Q : Exit → Act → World → Prop} {K1 : Act → World → Prop} {w : World}
theorem wp_copyP (d s : Operand) (ho : o.op = .call { callee := .builtin .copy, args := #[d, s], argTypes := #[37, 37] })
    (g off : Nat) (cur cs : List Value) (dp sp : Option Addr) (dLen dCap sLen sCap : Nat) (hd : a.eval d = .slice dp dLen dCap) (hs : a.eval s = .slice sp sLen sCap) (hg : Whole w g 69 cur) (hn : cs.length = Nat.min sLen dLen * 2)
    (hp : 0 < cs.length → dp = some ⟨g, off, none⟩) (hsrc : Srcs w sp cs) (hfit : off + cs.length ≤ cur.length) (h1 : ∀ v ∈ cs, v.oneCell' = true)
    (h : ∀ w', Hid (Moved w w' g 69 (splice cur off cs)) → K1 (a.put o.dst (goInt (Nat.min sLen dLen))) w') : Oper.wp Tryz.prog o a w K1 Q := by
  obtain ⟨i0, hi, hz0, hz1, hz2⟩ := info_pairE
  obtain ⟨w', hr, hm⟩ := run_copyK (P := Tryz.prog) w 37 37 o.type 69 i0 2 Tryz.underlying37 hi hz1 g off dLen dCap dp sp sLen sCap _ cur hg cs hn hp hsrc hfit h1
  exact wp_call2 .copy (.inl rfl) d s _ _ ho _ _ hd hs hr (h w' (Lib.hid hm))
theorem wpList_copyP (hgd : Region.wanted o (yielded ops a.tmps) = true) (d s : Operand) (ho : o.op = .call { callee := .builtin .copy, args := #[d, s], argTypes := #[37, 37] })
    (g off : Nat) (cur cs : List Value) (dp sp : Option Addr) (dLen dCap sLen sCap : Nat) (hd : a.eval d = .slice dp dLen dCap) (hs : a.eval s = .slice sp sLen sCap) (hg : Whole w g 69 cur) (hn : cs.length = Nat.min sLen dLen * 2)
    (hp : 0 < cs.length → dp = some ⟨g, off, none⟩) (hsrc : Srcs w sp cs) (hfit : off + cs.length ≤ cur.length) (h1 : ∀ v ∈ cs, v.oneCell' = true)
    (h : ∀ w', Hid (Moved w w' g 69 (splice cur off cs)) → wpList Tryz.prog ops Q rest (a.put o.dst (goInt (Nat.min sLen dLen))) w') : wpList Tryz.prog ops Q (o :: rest) a w :=
  BigFrame.wpList_want hgd fun K2 hK => wp_copyP d s ho g off cur cs dp sp dLen dCap sLen sCap hd hs hg hn hp hsrc hfit h1 fun w' hm => hK _ _ (h w' hm)
theorem wpList_roomP (hgd : Region.wanted o (yielded ops a.tmps) = true) (d s : Operand) (ho : o.op = .call { callee := .builtin .append, args := #[d, s], argTypes := #[37, 37] })
    (g i cap : Nat) (cur cs : List Value) (sp : Option Addr) (m mc : Nat) (hd : a.eval d = .slice (some ⟨g, 0, none⟩) i cap) (hs : a.eval s = .slice sp m mc) (hg : Whole w g 69 cur) (hn : cs.length = m * 2)
    (hsrc : Srcs w sp cs) (hroom : i + m ≤ cap) (hfit : i * 2 + cs.length ≤ cur.length) (h1 : ∀ v ∈ cs, v.oneCell' = true)
    (h : ∀ w', Hid (Moved w w' g 69 (splice cur (i * 2) cs)) → wpList Tryz.prog ops Q rest (a.put o.dst (.slice (some ⟨g, 0, none⟩) (i + m) cap)) w') : wpList Tryz.prog ops Q (o :: rest) a w := by
  obtain ⟨i0, hi, hz0, hz1, hz2⟩ := info_pairE
  obtain ⟨w', hr, hm⟩ := run_roomK (P := Tryz.prog) w 37 o.type 69 i0 2 Tryz.underlying37 hi hz1 g i cap sp m mc _ cur hg cs hn hsrc hroom hfit h1
  exact BigFrame.wpList_want hgd fun K2 hK => wp_call2 .append (.inr rfl) d s _ _ ho _ _ hd hs hr (hK _ _ (h w' (Lib.hid hm)))
theorem wpList_clearP (hgd : Region.wanted o (yielded ops a.tmps) = true) (d : Operand) (ho : o.op = .call { callee := .builtin .clear, args := #[d], argTypes := #[37] })
    (g off : Nat) (cur : List Value) (dp : Option Addr) (n c : Nat) (hd : a.eval d = .slice dp n c) (hg : Whole w g 69 cur) (hp : 0 < n → dp = some ⟨g, off, none⟩) (hfit : off + n * 2 ≤ cur.length)
    (h : ∀ w' zs, zs.length = n * 2 → Hid (Moved w w' g 69 (splice cur off zs)) → wpList Tryz.prog ops Q rest (a.put o.dst (.tuple #[])) w') : wpList Tryz.prog ops Q (o :: rest) a w := by
  obtain ⟨w', zs, hr, hl, hm⟩ := run_clearK (P := Tryz.prog) w 37 o.type 69 (.agg #[.string ⟨#[]⟩, .string ⟨#[]⟩]) 2 Tryz.underlying37 Tryz.zeroValue69 rfl (by intro v hv; simp [Value.cells] at hv; subst hv; rfl) g off n c dp _ cur hg hp hfit
  exact BigFrame.wpList_want hgd fun K2 hK => wp_clearK d _ ho _ hd hr (hK _ _ (h w' zs hl (Lib.hid hm)))
theorem wpList_zerosP (hgd : Region.wanted o (yielded ops a.tmps) = true) (d s : Operand) (ho : o.op = .call { callee := .builtin .append, args := #[d, s], argTypes := #[37, 3] })
    (ap : Option Addr) (i cap n : Nat) (olds : List Value) (hd : a.eval d = .slice ap i cap) (hs : a.eval s = .int .i64 n) (hl : olds.length = i * 2) (hsrc : Srcs w ap olds) (h0 : 0 < n) (hg : cap < i + n) (hfit : i + n ≤ 7036874417000)
    (h : ∀ w' c cur, Hid (Whole w' w.heap.size 69 cur ∧ cur.length = c * 2 ∧ cur.take (i * 2) = olds ∧ i + n ≤ c ∧ c ≤ maxLen ∧ w.grownBy w' none ∧ w'.heap.size = w.heap.size + 1) → i + n ≤ c → wpList Tryz.prog ops Q rest (a.put o.dst (.slice (some ⟨w.heap.size, 0, none⟩) (i + n) c)) w') : wpList Tryz.prog ops Q (o :: rest) a w := by
  obtain ⟨i0, hi, hz0, hz1, hz2⟩ := info_pairE
  obtain ⟨w', c, cur, hr, hm⟩ := run_zerosK (P := Tryz.prog) w 37 3 o.type 69 i0 _ 2 32 .i64 _ Tryz.underlying37 Tryz.underlying3 hi hz0 hz1 (by decide) hz2 rfl ap i cap n olds hl hsrc h0 hg (by unfold maxLen; omega) (by omega)
  exact BigFrame.wpList_want hgd fun K2 hK => wp_call2 .append (.inr rfl) d s _ _ ho _ _ hd hs hr (hK _ _ (h w' c cur (Lib.hid hm) hm.2.2.2.1))
end
theorem cellsS_one' (l : List (K × K)) : ∀ v ∈ flatG cellsS l, v.oneCell' = true := by
  intro u hu
  obtain ⟨y, _, hy⟩ := List.mem_flatMap.1 hu
  exact cellsS_one y u hy
end Go.Proofs.YtbifnogocmgddaaGreat
namespace Go.Proofs.YtbifnogocmgddaaGreat
open Go.RowKit

theorem insert_cells {cur A B X Y : List Value} (h : cur.take (A.length + B.length) = A ++ B) (hl : A.length + X.length + B.length ≤ cur.length) (hY : Y = splice cur (A.length + X.length) B) :
    (splice Y A.length X).take (A.length + X.length + B.length) = A ++ X ++ B := by
  have hA : cur.take A.length = A := by
    have := congrArg (List.take A.length) h
    rw [List.take_take, List.take_left, Nat.min_eq_left (by omega)] at this
    exact this
  have hYl : Y.length = cur.length := by rw [hY, length_splice _ _ _ (by omega)]
  have h1 : (splice Y A.length X).take (A.length + X.length) = A ++ X := by
    rw [take_splice_end Y X A.length _ (by omega) rfl, hY, take_splice_lt cur B _ _ (by omega) (by omega), hA]
  have h2 : (splice Y A.length X).drop (A.length + X.length) = B ++ cur.drop (A.length + X.length + B.length) := by
    rw [drop_splice_ge Y X A.length _ (Nat.le_refl _) (by omega), hY]
    unfold splice
    rw [List.drop_append, List.drop_eq_nil_of_le (by simp; omega), List.nil_append, show A.length + X.length - (cur.take (A.length + X.length)).length = 0 by simp; omega, List.drop_zero]
  have h3 : splice Y A.length X = (A ++ X ++ B) ++ cur.drop (A.length + X.length + B.length) := by
    rw [← List.take_append_drop (A.length + X.length) (splice Y A.length X), h1, h2, List.append_assoc (A ++ X)]
  rw [h3]
  exact List.take_left' (by simp only [List.length_append])

theorem overlaps_apart {w : World} {g vb : Nat} {cur cs : List Value} {o la ca lb cb : Nat} (hg : Whole w g 69 cur) (hv : Whole w vb 69 cs) (hne : vb ≠ g) (hc : cur.length ≠ 0) :
    (callFunc 108 #[.slice (some ⟨vb, 0, none⟩) la ca, .slice (some ⟨g, o, none⟩) lb cb]).run Tryz.prog w = .ok (.value (.bool false)) w := by
  rw [run_callFunc_extern Tryz.func108 (by kernel_rfl) (by kernel_rfl) (by kernel_rfl) (e := Extern.SlicesOverlaps.overlaps #[37, 37] #[4]) (by kernel_rfl),
    Lib.run_overlaps_apart w 37 4 69 Tryz.underlying37 2 Tryz.sizeOf69 ⟨vb, 0, none⟩ ⟨g, o, none⟩ la ca lb cb hne _ _ _ _ hv.shape hg.shape hc (hv.frozen 0) (hv.frozen _)]
  rfl

set_option maxHeartbeats 4000000 in
set_option maxRecDepth 100000 in
theorem insert_shift (l : List (K × K)) (i : Nat) (x : K × K) (w : World) (g cap vb : Nat) (cur : List Value) (hg : Whole w g 69 cur) (hv : Whole w vb 69 (cellsS x)) (hne : vb ≠ g) (hi : i < l.length) (hroom : l.length + 1 ≤ cap)
    (hcap : cap ≤ maxLen) (hcl : cur.length = cap * 2) (htk : cur.take (l.length * 2) = flatG cellsS l) :
    Calls Tryz.prog 107 #[.slice (some ⟨g, 0, none⟩) l.length cap, .int .i64 i, .slice (some ⟨vb, 0, none⟩) 1 1] w fun e w' =>
      e = .returned (.slice (some ⟨g, 0, none⟩) (l.length + 1) cap) ∧ ∃ cur', Whole w' g 69 cur' ∧ cur'.length = cap * 2 ∧ cur'.take ((l.length + 1) * 2) = flatG cellsS (l.take i ++ [x] ++ l.drop i) ∧ w.grownBy w' (some g) := by
  have hov := fun lb cb => overlaps_apart (o := (i + 1) * 2) (la := 1) (ca := 1) (lb := lb) (cb := cb) hg hv hne (by omega)
  generalize hn : l.length = n at *
  unfold maxLen at hcap
  have hw1 : IntKind.i64.wrap ((i : Int) + 1) = (i : Int) + 1 := by rw [IntKind.wrap_i64]; omega
  have hw2 : IntKind.i64.wrap ((n : Int) + 1) = (n : Int) + 1 := by rw [IntKind.wrap_i64]; omega
  have hb1 : ¬ ((i : Int) = (n : Int)) := by omega
  have hb2 : ¬ ((cap : Int) < (n : Int) + 1) := by omega
  have hb3 : (i : Int) ≤ (n : Int) := by omega
  have hb4 : (i : Int) + 1 ≤ (n : Int) + 1 := by omega
  have hb5 : (n : Int) + 1 ≤ (cap : Int) := by omega
  have hb6 : (0 : Int) ≤ (i : Int) + 1 := by omega
  have hb7 : ¬ (cap = i) := by omega
  have hb8 : ¬ (cap = i + 1) := by omega
  have hb9 : (i : Int) ≤ (n : Int) + 1 := by omega
  have HG := Lib.hid hg; clear hg
  have HV := Lib.hid hv; clear hv
  have HN := Lib.hid hn; clear hn
  have HT := Lib.hid htk; clear htk
  have HL := Lib.hid hcl; clear hcl
  go_enter Tryz.func107, Tryz.ntmps107
  go_wp2_with fail
  refine wp_region_plan (S := fun _ => True) [(true, 0), (true, 1), (true, 2), (true, 3), (true, 4), (true, 5), (true, 6), (true, 7), (false, 8)] (by kernel_rfl) (by kernel_rfl) (fun _ _ d _ _ h => by cases d <;> exact h) trivial ?_
  repeat (refine Plan.take (v := ?_) rfl rfl ?_ ?_; rotate_left; (focus (intro W hW; go_simp; (try with_reducible rfl); done)); (try simp only [Act.put, List.setIfInBounds_toArray, List.set_cons_zero, List.set_cons_succ]))
  have eA : (l.take i).length = i := by rw [List.length_take, HN.out]; omega
  have eB : (l.drop i).length = n - i := by rw [List.length_drop, HN.out]
  have eX : (cellsS x).length = 2 := rfl
  have fA : (flatG cellsS (l.take i)).length = i * 2 := by rw [flatG_length cellsS_len, eA]
  have fB : (flatG cellsS (l.drop i)).length = (n - i) * 2 := by rw [flatG_length cellsS_len, eB]
  have hcut : flatG cellsS l = flatG cellsS (l.take i) ++ flatG cellsS (l.drop i) := by rw [← flatG_append, List.take_append_drop]
  have HA := Lib.hid fA; clear fA
  have HB := Lib.hid fB; clear fB
  have HC := Lib.hid hcut; clear hcut
  clear eA eB eX
  refine Plan.step rfl rfl fun K2 hK => ?_
  refine wp_copyP _ _ rfl g ((i + 1) * 2) cur (flatG cellsS (l.drop i)) _ _ _ _ _ _ rfl rfl HG.out.drew ?_ (fun _ => rfl) (Srcs.of (HG.out.drew.srcs (i * 2) _ ?_)) ?_ (cellsS_one' _) ?_
  · rw [HB.out, show (n + 1 - i).min (n - i) = n - i from Nat.min_eq_right (by omega)]
  · rw [← HA.out]
    exact cells_at (n := n * 2) (by rw [HT.out, HC.out])
  · rw [HB.out, HL.out]; omega
  intro w2 hm2
  refine hK _ _ trivial ?_
  simp only [Plan]
  clear hK
  have hv2 : Whole w2 vb 69 (cellsS x) := hm2.out.away HV.out.drew hne
  have HV2 := Lib.hid hv2; clear hv2
  obtain ⟨Y, hY⟩ : ∃ Y, Y = splice cur ((i + 1) * 2) (flatG cellsS (l.drop i)) := ⟨_, rfl⟩
  rw [← hY] at hm2
  have hYl : Y.length = cap * 2 := by rw [hY, length_splice _ _ _ (by rw [HB.out, HL.out]; omega), HL.out]
  have HY := Lib.hid hY; clear hY
  have HYL := Lib.hid hYl; clear hYl
  go_wp2_with (with_reducible show wpList _ _ _ (⟨some 82, _, _, _, _, _⟩ :: _) _ _; go_must (refine wpList_copyP rfl _ _ rfl g (i * 2) Y (cellsS x) _ _ _ _ _ _ rfl rfl hm2.out.whole ?c1 (fun _ => rfl) (Srcs.of ?c2) ?c3 (cellsS_one x) ?_))
  case c1 => rw [show Nat.min 1 (n + 1 - i) = 1 from Nat.min_eq_left (by omega)]; rfl
  case c2 => exact HV2.out.srcs 0 _ (fun j v hj => by rwa [Nat.zero_add])
  case c3 => rw [HYL.out]; show i * 2 + 2 ≤ _; omega
  intro w3 hm3
  go_wp2_with fail
  go_ret
  refine ⟨rfl, _, hm3.out.whole, ?_, ?_, ?_⟩
  · rw [length_splice _ _ _ (by rw [HYL.out]; show i * 2 + 2 ≤ _; omega), HYL.out]
  · have h := insert_cells (cur := cur) (A := flatG cellsS (l.take i)) (B := flatG cellsS (l.drop i)) (X := cellsS x) (Y := Y) (by rw [HA.out, HB.out, show i * 2 + (n - i) * 2 = n * 2 by omega, HT.out, HC.out]) (by rw [HA.out, HB.out, HL.out]; show i * 2 + 2 + _ ≤ _; omega) (by rw [HY.out, HA.out, show (i + 1) * 2 = i * 2 + (cellsS x).length by show _ = i * 2 + 2; omega])
    rw [HA.out, HB.out, show i * 2 + (cellsS x).length + (n - i) * 2 = (n + 1) * 2 by show i * 2 + 2 + _ = _; omega] at h
    rw [h, flatG_append, flatG_append]
    simp [flatG]
  · have h1 := hm2.out.grown
    have h2 := hm3.out.grown
    exact ⟨h2.os.trans h1.os, h2.tape.trans h1.tape, h2.output.trans h1.output, Nat.le_trans h1.size h2.size, fun k hk hn => (h2.block k (Nat.lt_of_lt_of_le hk h1.size) hn).trans (h1.block k hk hn)⟩

theorem grown_undrew {w w' : World} {row : Option Nat} (h : w.drew.grownBy w' row) : w.grownBy w' row := ⟨h.os, h.tape, h.output, h.size, h.block⟩
theorem grown_trans {a b c : World} {row : Option Nat} (h1 : a.grownBy b row) (h2 : b.grownBy c row) : a.grownBy c row :=
  ⟨h2.os.trans h1.os, h2.tape.trans h1.tape, h2.output.trans h1.output, Nat.le_trans h1.size h2.size, fun k hk hn => (h2.block k (Nat.lt_of_lt_of_le hk h1.size) hn).trans (h1.block k hk hn)⟩
theorem grown_new {a b c : World} {g : Nat} (h1 : a.grownBy b none) (h2 : b.grownBy c (some g)) (hg : a.heap.size ≤ g) : a.grownBy c none :=
  ⟨h2.os.trans h1.os, h2.tape.trans h1.tape, h2.output.trans h1.output, Nat.le_trans h1.size h2.size, fun k hk _ => (h2.block k (Nat.lt_of_lt_of_le hk h1.size) (by simp; omega)).trans (h1.block k hk (by simp))⟩

set_option maxHeartbeats 4000000 in
set_option maxRecDepth 100000 in
theorem insert_grow (l : List (K × K)) (i : Nat) (x : K × K) (w : World) (g cap vb : Nat) (cur : List Value) (hg : Whole w g 69 cur) (hv : Whole w vb 69 (cellsS x)) (hi : i < l.length) (hroom : cap < l.length + 1)
    (hcap : l.length ≤ cap) (hcl : cur.length = cap * 2) (htk : cur.take (l.length * 2) = flatG cellsS l) (hlen : l.length + 1 ≤ 7036874417000) :
    Calls Tryz.prog 107 #[.slice (some ⟨g, 0, none⟩) l.length cap, .int .i64 i, .slice (some ⟨vb, 0, none⟩) 1 1] w fun e w' =>
      ∃ c, e = .returned (.slice (some ⟨w.heap.size, 0, none⟩) (l.length + 1) c) ∧ ∃ cur', Whole w' w.heap.size 69 cur' ∧ cur'.length = c * 2 ∧ l.length + 1 ≤ c ∧ c ≤ maxLen ∧ cur'.take ((l.length + 1) * 2) = flatG cellsS (l.take i ++ [x] ++ l.drop i) ∧ w.grownBy w' none := by
  generalize hn : l.length = n at *
  obtain rfl : cap = n := by omega
  obtain ⟨d, hd⟩ : ∃ d, cap + 1 = i + d := ⟨cap + 1 - i, by omega⟩
  have hw1 : IntKind.i64.wrap ((i : Int) + 1) = (i : Int) + 1 := by rw [IntKind.wrap_i64]; omega
  have hw2 : IntKind.i64.wrap ((cap : Int) + 1) = (cap : Int) + 1 := by rw [IntKind.wrap_i64]; omega
  have hw3 : IntKind.i64.wrap ((cap : Int) + 1 - (i : Int)) = (d : Int) := by rw [IntKind.wrap_i64]; omega
  have hb1 : ¬ ((i : Int) = (cap : Int)) := by omega
  have hb2 : ((cap : Int) < (cap : Int) + 1) := by omega
  have hb3 : (i : Int) ≤ (cap : Int) := by omega
  have hb4 : (i : Int) ≤ (i : Int) + (d : Int) := by omega
  have hb5 : (i : Int) + 1 ≤ (i : Int) + (d : Int) := by omega
  have hb6 : (0 : Int) ≤ (i : Int) + 1 := by omega
  have hb7 : ¬ (cap = i) := by omega
  have hvlt := hv.size
  have hglt := hg.size
  have eA : (l.take i).length = i := by rw [List.length_take, hn]; omega
  have eB : (l.drop i).length = cap - i := by rw [List.length_drop, hn]
  have fA : (flatG cellsS (l.take i)).length = i * 2 := by rw [flatG_length cellsS_len, eA]
  have fB : (flatG cellsS (l.drop i)).length = (cap - i) * 2 := by rw [flatG_length cellsS_len, eB]
  have hcut : cur.take (cap * 2) = flatG cellsS (l.take i) ++ flatG cellsS (l.drop i) := by rw [htk, ← flatG_append, List.take_append_drop]
  have HA := Lib.hid fA; clear fA
  have HB := Lib.hid fB; clear fB
  have HC := Lib.hid hcut; clear hcut
  clear eA eB htk
  have HG := Lib.hid hg; clear hg
  have HV := Lib.hid hv; clear hv
  have HN := Lib.hid hn; clear hn
  have HL := Lib.hid hcl; clear hcl
  have HD := Lib.hid hd; clear hd
  go_enter Tryz.func107, Tryz.ntmps107
  go_wp2_with (with_reducible show wpList _ _ _ (⟨some 40, _, _, _, _, _⟩ :: _) _ _; go_must (refine wpList_zerosP rfl _ _ rfl (some ⟨g, 0, none⟩) i cap d (flatG cellsS (l.take i)) rfl rfl HA.out (Srcs.of ?c1) ?c2 ?c3 ?c4 ?_))
  case c1 =>
    have h := congrArg (List.take (i * 2)) HC.out
    rw [List.take_take, Nat.min_eq_left (by omega), ← HA.out, List.take_left] at h
    have h2 := cells_at (A := []) (B := flatG cellsS (l.take i)) (cur := cur) h
    exact HG.out.srcs 0 _ h2
  case c2 => have := HD.out; omega
  case c3 => have := HD.out; omega
  case c4 => have := HD.out; omega
  intro w1 c cur1 hz hc
  have hc1 : ¬ (c = i) := by have := HD.out; omega
  have hc2 : ¬ (c = i + 1) := by have := HD.out; omega
  have hv1 : Whole w1 vb 69 (cellsS x) := HV.out.grown hz.out.2.2.2.2.2.1 (by simp)
  have hg1 : Whole w1 g 69 cur := HG.out.grown hz.out.2.2.2.2.2.1 (by simp)
  have HV1 := Lib.hid hv1; clear hv1
  have HG1 := Lib.hid hg1; clear hg1
  clear hc
  go_wp2_with (with_reducible show wpList _ _ _ (⟨some 45, _, _, _, _, _⟩ :: _) _ _; go_must (refine wpList_copyP rfl _ _ rfl w.heap.size (i * 2) cur1 (cellsS x) _ _ _ _ _ _ rfl rfl hz.out.1 ?d1 (fun _ => rfl) (Srcs.of ?d2) ?d3 (cellsS_one x) ?_))
  case d1 => rw [show Nat.min 1 d = 1 from Nat.min_eq_left (by have := HD.out; omega)]; rfl
  case d2 => exact HV1.out.srcs 0 _ (fun j v hj => by rwa [Nat.zero_add])
  case d3 => rw [hz.out.2.1]; show i * 2 + 2 ≤ _; have := hz.out.2.2.2.1; have := HD.out; omega
  intro w2 hm2
  obtain ⟨Y, hY⟩ : ∃ Y, Y = splice cur1 (i * 2) (cellsS x) := ⟨_, rfl⟩
  rw [← hY] at hm2
  have hX2 : (cellsS x).length = 2 := rfl
  have hYl : Y.length = c * 2 := by rw [hY, length_splice _ _ _ (by rw [hX2, hz.out.2.1]; have := hz.out.2.2.2.1; have := HD.out; omega), hz.out.2.1]
  have hYt : Y.take ((i + 1) * 2) = flatG cellsS (l.take i) ++ cellsS x := by
    rw [hY, take_splice_end cur1 _ (i * 2) _ (by rw [hz.out.2.1]; have := hz.out.2.2.2.1; omega) (by rw [hX2]; omega), hz.out.2.2.1]
  have hg2 : Whole w2 g 69 cur := HG1.out.grown hm2.out.grown (by simp; omega)
  have HG2 := Lib.hid hg2; clear hg2
  have HYL := Lib.hid hYl; clear hYl
  have HYT := Lib.hid hYt; clear hYt
  have HX2 := Lib.hid hX2; clear hX2
  clear hY
  go_wp2_with fail
  refine wp_region_plan (S := fun _ => True) [(true, 0), (true, 1), (true, 2), (true, 3), (true, 4), (true, 5), (true, 6), (true, 7), (false, 8)] (by kernel_rfl) (by kernel_rfl) (fun _ _ d _ _ h => by cases d <;> exact h) trivial ?_
  repeat (refine Plan.take (v := ?_) rfl rfl ?_ ?_; rotate_left; (focus (intro W hW; go_simp; (try with_reducible rfl); done)); (try simp only [Act.put, List.setIfInBounds_toArray, List.set_cons_zero, List.set_cons_succ]))
  refine Plan.step rfl rfl fun K2 hK => ?_
  refine wp_copyP _ _ rfl w.heap.size ((i + 1) * 2) Y (flatG cellsS (l.drop i)) _ _ _ _ _ _ rfl rfl hm2.out.whole.drew ?_ (fun _ => rfl) (Srcs.of (HG2.out.drew.srcs (i * 2) _ ?_)) ?_ (cellsS_one' _) ?_
  · rw [HB.out, show Nat.min (cap - i) (i + d - (i + 1)) = cap - i from Nat.min_eq_left (by have := HD.out; omega)]
  · rw [← HA.out]
    exact cells_at (n := cap * 2) HC.out
  · rw [HB.out, HYL.out]; have := hz.out.2.2.2.1; have := HD.out; omega
  intro w3 hm3
  refine hK _ _ trivial ?_
  simp only [Plan]
  clear hK
  go_wp2_with fail
  go_ret
  refine ⟨c, ?_, _, hm3.out.whole, ?_, ?_, hz.out.2.2.2.2.1, ?_, ?_⟩
  · rw [HD.out]; rfl
  · rw [length_splice _ _ _ (by rw [HB.out, HYL.out]; have := hz.out.2.2.2.1; have := HD.out; omega), HYL.out]
  · have := hz.out.2.2.2.1; have := HD.out; omega
  · rw [take_splice_end Y _ ((i + 1) * 2) _ (by rw [HYL.out]; have := hz.out.2.2.2.1; have := HD.out; omega) (by rw [HB.out]; omega), HYT.out, flatG_append, flatG_append]
    simp [flatG]
  · exact grown_new (grown_new hz.out.2.2.2.2.2.1 hm2.out.grown (Nat.le_refl _)) (grown_undrew hm3.out.grown) (Nat.le_refl _)

/-- what is put in: nothing, or one pair in a block of its own -/
def OneAt (w : World) (v : Value) (p : List (K × K)) (vp : Value) : Prop :=
  (p = [] ∧ vp = .slice none 0 0) ∨ ∃ x vb, p = [x] ∧ vp = .slice (some ⟨vb, 0, none⟩) 1 1 ∧ Whole w vb 69 (cellsS x) ∧ some vb ≠ v.ownBlock

theorem Own.slice {α : Type} {enc : α → List Value} {k : Nat} {e : TypeId} {w : World} {base : Nat} {v : Value} {l : List α} (h : Own enc k e w base v l) : ∃ A c, v = .slice A l.length c ∧ l.length ≤ c ∧ c ≤ maxLen := by
  rcases h.row with ⟨rfl, rfl⟩ | ⟨g, cap, cur, rfl, _, _, h1, h2, _⟩
  · exact ⟨none, 0, rfl, Nat.le_refl _, by simp [maxLen]⟩
  · exact ⟨_, _, rfl, h1, h2⟩

set_option maxHeartbeats 4000000 in
set_option maxRecDepth 100000 in
theorem insert_none (A : Option Addr) (n c i : Nat) (hi : i ≤ n) (w : World) :
    Calls Tryz.prog 107 #[.slice A n c, .int .i64 i, .slice none 0 0] w fun e w' => e = .returned (.slice A n c) ∧ w' = w := by
  have hb3 : (i : Int) ≤ (n : Int) := by omega
  go_enter Tryz.func107, Tryz.ntmps107
  go_wp2_with fail
  all_goals (go_ret; exact ⟨rfl, rfl⟩)

set_option maxHeartbeats 4000000 in
set_option maxRecDepth 100000 in
theorem insert_end (l : List (K × K)) (x : K × K) (v : Value) (w : World) (base vb : Nat) (hown : OwnP w base v l) (hbase : base ≤ w.heap.size) (hv : Whole w vb 69 (cellsS x)) (hlen : l.length + 1 ≤ 7036874417000) :
    Calls Tryz.prog 107 #[v, .int .i64 l.length, .slice (some ⟨vb, 0, none⟩) 1 1] w fun e w' =>
      ∃ A' c', e = .returned (.slice A' (l ++ [x]).length c') ∧ OwnP w' base (.slice A' (l ++ [x]).length c') (l ++ [x]) ∧ w.grownBy w' v.ownBlock := by
  obtain ⟨A, c, rfl, hc, hcm⟩ := hown.slice
  have hrd : RdP w (vb + 1) (.slice (some ⟨vb, 0, none⟩) 1 1) [x] := ⟨_, 1, rfl, Nat.le_refl _, fun i hi => ⟨vb, 0, rfl, Nat.lt_succ_self _, fun j u hu => by
    obtain rfl : i = 0 := by simp at hi; omega
    exact hv.cell _ _ (by simpa using hu)⟩⟩
  have HR := Lib.hid hrd; clear hrd
  have HO := Lib.hid hown; clear hown
  have HV := Lib.hid hv; clear hv
  have hb0 : (0 : Int) ≤ (l.length : Int) := by omega
  go_enter Tryz.func107, Tryz.ntmps107
  obtain ⟨i0, hi, hz0, hz1, hz2⟩ := info_pairE
  go_wp2_with (at_builtin; go_must (refine BigFrame.wpList_want rfl fun K2 hK => ?_; refine wp_addAny (enc := cellsS) (k := 2) 37 69 32 i0 _ Tryz.underlying37 hi hz0 hz1 hz2 rfl (by decide) cellsS_len cellsS_one _ _ rfl base _ l rfl HO.out (vb + 1) _ [x] rfl HR.out (by unfold maxLen; simp; omega) (by simp; omega) hbase ?_))
  all_goals
    intro A' c' w1 h1 h2
    have HO1 := Lib.hid h1; clear h1
    have HG1 := Lib.hid h2; clear h2
    refine hK _ _ ?_
    clear hK
    go_wp2_with fail
    go_ret
    rw [show (l ++ [x]).length = l.length + 1 by simp]
    exact ⟨A', c', rfl, HO1.out, by cases A <;> exact HG1.out⟩

theorem sinsert_any (l : List (K × K)) (i : Nat) (hi : i ≤ l.length) (p : List (K × K)) (v vp : Value) (w : World) (base : Nat) (hown : OwnP w base v l) (hbase : base ≤ w.heap.size) (hp : OneAt w v p vp) (hlen : l.length + 1 ≤ 7036874417000) :
    Calls Tryz.prog 107 #[v, .int .i64 i, vp] w fun e w' =>
      ∃ A' c', e = .returned (.slice A' (l.take i ++ p ++ l.drop i).length c') ∧ OwnP w' base (.slice A' (l.take i ++ p ++ l.drop i).length c') (l.take i ++ p ++ l.drop i) ∧ w.grownBy w' v.ownBlock := by
  rcases hp with ⟨rfl, rfl⟩ | ⟨x, vb, rfl, rfl, hv, hne⟩
  · obtain ⟨A, c, rfl, hc, hcm⟩ := hown.slice
    refine (insert_none A l.length c i hi w).mono ?_
    rintro e w' ⟨rfl, rfl⟩
    rw [List.append_nil, List.take_append_drop]
    exact ⟨A, c, rfl, hown, ⟨rfl, rfl, rfl, Nat.le_refl _, fun _ _ _ => rfl⟩⟩
  · by_cases he : i = l.length
    · subst he
      rw [List.take_length, List.drop_length, List.append_nil]
      exact insert_end l x v w base vb hown hbase hv hlen
    · have hlt : i < l.length := by omega
      have hL : (l.take i ++ [x] ++ l.drop i).length = l.length + 1 := by simp; omega
      rcases hown.row with ⟨rfl, rfl⟩ | ⟨g, cap, cur, rfl, hbg, hg, h1, h2, h3, h4⟩
      · simp at hlt
      · have hvg : vb ≠ g := fun e => hne (by rw [e]; rfl)
        by_cases hroom : l.length + 1 ≤ cap
        · refine (insert_shift l i x w g cap vb cur hg hv hvg hlt hroom h2 h3 h4).mono ?_
          rintro e w' ⟨rfl, cur', k1, k2, k3, k4⟩
          exact ⟨some ⟨g, 0, none⟩, cap, by rw [hL], Own.ofRow cellsS_len _ hbg k1 (by rw [hL]; exact hroom) h2 k2 (by rw [hL]; exact k3), k4⟩
        · refine (insert_grow l i x w g cap vb cur hg hv hlt (by omega) h1 h3 h4 hlen).mono ?_
          rintro e w' ⟨c, rfl, cur', k1, k2, k3, k4, k5, k6⟩
          exact ⟨some ⟨w.heap.size, 0, none⟩, c, by rw [hL], Own.ofRow cellsS_len _ hbase k1 (by rw [hL]; exact k3) k4 k2 (by rw [hL]; exact k5), ⟨k6.os, k6.tape, k6.output, k6.size, fun k hk _ => k6.block k hk (by simp)⟩⟩
end Go.Proofs.YtbifnogocmgddaaGreat
namespace Go.Proofs.YtbifnogocmgddaaGreat
open Go.RowKit

theorem grown_drew (w : World) (row : Option Nat) : w.grownBy w.drew row := ⟨rfl, rfl, rfl, Nat.le_refl _, fun _ _ _ => rfl⟩
theorem grown_same (w : World) (row : Option Nat) : w.grownBy w row := ⟨rfl, rfl, rfl, Nat.le_refl _, fun _ _ _ => rfl⟩
/-- what is put in, for a walk -/
theorem OneAt.form {w : World} {v vp : Value} {p : List (K × K)} (h : OneAt w v p vp) : ∃ sp mc, vp = .slice sp p.length mc ∧ p.length ≤ 1 ∧ ∀ w' g, v.ownBlock = some g → w.grownBy w' (some g) → Srcs w' sp (flatG cellsS p) := by
  rcases h with ⟨rfl, rfl⟩ | ⟨x, vb, rfl, rfl, hv, hne⟩
  · exact ⟨none, 0, rfl, by simp, fun w' g _ _ => Srcs.nil _ _⟩
  · refine ⟨some ⟨vb, 0, none⟩, 1, rfl, by simp, fun w' g hg hw => ?_⟩
    have hv' : Whole w' vb 69 (cellsS x) := hv.grown hw (by rw [← hg]; exact hne)
    rw [show flatG cellsS [x] = cellsS x by simp [flatG]]
    exact Srcs.of (hv'.srcs 0 _ (fun j v hj => by rwa [Nat.zero_add]))

set_option maxHeartbeats 8000000 in
set_option maxRecDepth 100000 in
theorem replace_same (l : List (K × K)) (i : Nat) (hi : i ≤ l.length) (p : List (K × K)) (v vp : Value) (w : World) (base : Nat) (hown : OwnP w base v l) (hbase : base ≤ w.heap.size) (hp : OneAt w v p vp) (hlen : l.length + 1 ≤ 7036874417000) :
    Calls Tryz.prog 103 #[v, .int .i64 i, .int .i64 i, vp] w fun e w' =>
      ∃ A' c', e = .returned (.slice A' (l.take i ++ p ++ l.drop i).length c') ∧ OwnP w' base (.slice A' (l.take i ++ p ++ l.drop i).length c') (l.take i ++ p ++ l.drop i) ∧ w.grownBy w' v.ownBlock := by
  have hcon := sinsert_any l i hi p v vp w base hown hbase hp hlen
  obtain ⟨A, c, rfl, hc, hcm⟩ := hown.slice
  obtain ⟨L, hL⟩ : ∃ L, L = l.take i ++ p ++ l.drop i := ⟨_, rfl⟩
  rw [← hL] at hcon ⊢
  generalize L.length = z at hcon ⊢
  generalize (Value.slice A l.length c).ownBlock = row at hcon ⊢
  obtain ⟨sp, mc, rfl, hm, hs⟩ := hp.form
  clear hs hp hown hL
  have HC := Lib.hid hcon; clear hcon
  have hb0 : (i : Int) ≤ (c : Int) := by omega
  generalize l.length = n at *
  generalize p.length = m at *
  by_cases hci : c = i
  · subst hci
    go_enter Tryz.func103, Tryz.ntmps103
    go_wp2_with fail
    refine HC.out.mono ?_
    rintro e w1 ⟨A', c', rfl, h1, h2⟩
    have HO1 := Lib.hid h1; clear h1
    have HG1 := Lib.hid h2; clear h2
    go_wp2_with fail
    go_ret
    exact ⟨A', c', rfl, HO1.out, HG1.out⟩
  · go_enter Tryz.func103, Tryz.ntmps103
    go_wp2_with fail
    refine HC.out.mono ?_
    rintro e w1 ⟨A', c', rfl, h1, h2⟩
    have HO1 := Lib.hid h1; clear h1
    have HG1 := Lib.hid h2; clear h2
    go_wp2_with fail
    go_ret
    exact ⟨A', c', rfl, HO1.out, HG1.out⟩
end Go.Proofs.YtbifnogocmgddaaGreat
namespace Go.Proofs.YtbifnogocmgddaaGreat
open Go.RowKit

set_option maxHeartbeats 8000000 in
set_option maxRecDepth 100000 in
theorem replace_endLt (i n m cap mc g : Nat) (sp : Option Addr) (cur cs : List Value) (w : World) (hg : Whole w g 69 cur) (hcs : cs.length = m * 2) (hs : Srcs w sp cs) (h1 : ∀ v ∈ cs, v.oneCell' = true) (hin : i < n) (hnc : n ≤ cap) (hcm : cap ≤ maxLen) (hm : m ≤ 1) (hcl : cur.length = cap * 2) (hlt : i + m < n) :
    Calls Tryz.prog 103 #[.slice (some ⟨g, 0, none⟩) n cap, .int .i64 i, .int .i64 n, .slice sp m mc] w fun e w' =>
      e = .returned (.slice (some ⟨g, 0, none⟩) (i + m) cap) ∧ ∃ cur', Whole w' g 69 cur' ∧ cur'.length = cap * 2 ∧ cur'.take ((i + m) * 2) = cur.take (i * 2) ++ cs ∧ w.grownBy w' (some g) := by
  unfold maxLen at hcm
  have hb0 : (i : Int) ≤ (n : Int) := by omega
  have hb1 : (n : Int) ≤ (cap : Int) := by omega
  have hb2 : ¬ ((i : Int) = (n : Int)) := by omega
  have hb3 : (i : Int) ≤ (cap : Int) := by omega
  have hb7 : ¬ (cap = i) := by omega
  have HG := Lib.hid hg; clear hg
  have HS := Lib.hid hs; clear hs
  have HCS := Lib.hid hcs; clear hcs
  have HL := Lib.hid hcl; clear hcl
  have H1 := Lib.hid h1; clear h1
  have hc1 : (i : Int) + (m : Int) < (n : Int) := by omega
  have hc2 : ¬ (cap = i + m) := by omega
  have hc3 : (i : Int) + (m : Int) ≤ (n : Int) := by omega
  have hc4 : (0 : Int) ≤ (i : Int) + (m : Int) := by omega
  have hc5 : ((i : Int) + (m : Int)).toNat = i + m := by omega
  go_enter Tryz.func103, Tryz.ntmps103
  go_wp2_with (with_reducible show wpList _ _ _ (⟨some 34, _, _, _, _, _⟩ :: _) _ _; go_must (refine wpList_roomP rfl _ _ rfl g i cap cur cs _ _ _ rfl rfl HG.out HCS.out HS.out ?c1 ?c2 H1.out ?_))
  case c1 => omega
  case c2 => rw [HCS.out, HL.out]; omega
  intro w1 hm1
  obtain ⟨Y, hY⟩ : ∃ Y, Y = splice cur (i * 2) cs := ⟨_, rfl⟩
  rw [← hY] at hm1
  have hYl : Y.length = cap * 2 := by rw [hY, length_splice _ _ _ (by rw [HCS.out, HL.out]; omega), HL.out]
  have hYt : Y.take ((i + m) * 2) = cur.take (i * 2) ++ cs := by rw [hY, take_splice_end cur _ (i * 2) _ (by rw [HL.out]; omega) (by rw [HCS.out]; omega)]
  have HYL := Lib.hid hYl; clear hYl
  have HYT := Lib.hid hYt; clear hYt
  clear hY
  go_wp2_with (with_reducible show wpList _ _ _ (⟨none, _, _, _, _, _⟩ :: _) _ _; go_must (refine wpList_clearP rfl _ rfl g ((i + m) * 2) Y _ _ _ rfl hm1.out.whole (fun _ => rfl) ?d1 ?_))
  case d1 => rw [HYL.out]; omega
  intro w2 zs hz hm2
  have HZ := Lib.hid hz; clear hz
  go_wp2_with fail
  go_ret
  refine ⟨rfl, _, hm2.out.whole, ?_, ?_, grown_trans hm1.out.grown hm2.out.grown⟩
  · rw [length_splice _ _ _ (by rw [HZ.out, HYL.out]; omega), HYL.out]
  · rw [take_splice_lt Y _ _ _ (Nat.le_refl _) (by rw [HYL.out]; omega), HYT.out]

set_option maxHeartbeats 8000000 in
set_option maxRecDepth 100000 in
theorem replace_endEq (i n m cap mc g : Nat) (sp : Option Addr) (cur cs : List Value) (w : World) (hg : Whole w g 69 cur) (hcs : cs.length = m * 2) (hs : Srcs w sp cs) (h1 : ∀ v ∈ cs, v.oneCell' = true) (hin : i < n) (hnc : n ≤ cap) (hcm : cap ≤ maxLen) (hm : m ≤ 1) (hcl : cur.length = cap * 2) (heq : i + m = n) :
    Calls Tryz.prog 103 #[.slice (some ⟨g, 0, none⟩) n cap, .int .i64 i, .int .i64 n, .slice sp m mc] w fun e w' =>
      e = .returned (.slice (some ⟨g, 0, none⟩) (i + m) cap) ∧ ∃ cur', Whole w' g 69 cur' ∧ cur'.length = cap * 2 ∧ cur'.take ((i + m) * 2) = cur.take (i * 2) ++ cs ∧ w.grownBy w' (some g) := by
  unfold maxLen at hcm
  have hb0 : (i : Int) ≤ (n : Int) := by omega
  have hb1 : (n : Int) ≤ (cap : Int) := by omega
  have hb2 : ¬ ((i : Int) = (n : Int)) := by omega
  have hb3 : (i : Int) ≤ (cap : Int) := by omega
  have hb7 : ¬ (cap = i) := by omega
  have HG := Lib.hid hg; clear hg
  have HS := Lib.hid hs; clear hs
  have HCS := Lib.hid hcs; clear hcs
  have HL := Lib.hid hcl; clear hcl
  have H1 := Lib.hid h1; clear h1
  have hc1 : ¬ (i : Int) + (m : Int) < (n : Int) := by omega
  clear heq
  go_enter Tryz.func103, Tryz.ntmps103
  go_wp2_with (with_reducible show wpList _ _ _ (⟨some 34, _, _, _, _, _⟩ :: _) _ _; go_must (refine wpList_roomP rfl _ _ rfl g i cap cur cs _ _ _ rfl rfl HG.out HCS.out HS.out ?c1 ?c2 H1.out ?_))
  case c1 => omega
  case c2 => rw [HCS.out, HL.out]; omega
  intro w1 hm1
  obtain ⟨Y, hY⟩ : ∃ Y, Y = splice cur (i * 2) cs := ⟨_, rfl⟩
  rw [← hY] at hm1
  have hYl : Y.length = cap * 2 := by rw [hY, length_splice _ _ _ (by rw [HCS.out, HL.out]; omega), HL.out]
  have hYt : Y.take ((i + m) * 2) = cur.take (i * 2) ++ cs := by rw [hY, take_splice_end cur _ (i * 2) _ (by rw [HL.out]; omega) (by rw [HCS.out]; omega)]
  have HYL := Lib.hid hYl; clear hYl
  have HYT := Lib.hid hYt; clear hYt
  clear hY
  go_wp2_with fail
  go_ret
  exact ⟨rfl, _, hm1.out.whole, HYL.out, HYT.out, hm1.out.grown⟩
end Go.Proofs.YtbifnogocmgddaaGreat
namespace Go.Proofs.YtbifnogocmgddaaGreat
open Go.RowKit

set_option maxHeartbeats 8000000 in
set_option maxRecDepth 100000 in
theorem replace_midLt (i j n m q cap mc g : Nat) (sp : Option Addr) (cur cs ds : List Value) (w : World) (hg : Whole w g 69 cur) (hcs : cs.length = m * 2) (hs : ∀ w', w.grownBy w' (some g) → Srcs w' sp cs) (h1 : ∀ v ∈ cs, v.oneCell' = true) (hij : i < j) (hjq : j + q = n) (hq : 0 < q) (hnc : n ≤ cap) (hcm : cap ≤ maxLen) (hm : m ≤ 1)
    (hcl : cur.length = cap * 2) (hds : ds.length = q * 2) (hd : ∀ t v, ds[t]? = some v → cur[j * 2 + t]? = some v) (h2 : ∀ v ∈ ds, v.oneCell' = true) (k T : Nat) (hk : k = i + m) (hT : T = k + q) (hc : ¬ (cap = T)) :
    Calls Tryz.prog 103 #[.slice (some ⟨g, 0, none⟩) n cap, .int .i64 i, .int .i64 j, .slice sp m mc] w fun e w' =>
      e = .returned (.slice (some ⟨g, 0, none⟩) T cap) ∧ ∃ cur', Whole w' g 69 cur' ∧ cur'.length = cap * 2 ∧ cur'.take (T * 2) = cur.take (i * 2) ++ cs ++ ds ∧ w.grownBy w' (some g) := by
  unfold maxLen at hcm
  have hb0 : (i : Int) ≤ (j : Int) := by omega
  have hb1 : (j : Int) ≤ (n : Int) := by omega
  have hb2 : ¬ ((i : Int) = (j : Int)) := by omega
  have hb3 : ¬ ((j : Int) = (n : Int)) := by omega
  have hb4 : (i : Int) ≤ (cap : Int) := by omega
  have hb5 : (j : Int) ≤ (cap : Int) := by omega
  have hb6 : ¬ ((cap : Int) < (T : Int)) := by omega
  have hb7 : ¬ (cap = i) := by omega
  have hb8 : ¬ (cap = j) := by omega
  have hb9 : ¬ (cap = k) := by omega
  have hb10 : (T : Int) ≤ (cap : Int) := by omega
  have hb11 : (i : Int) ≤ (T : Int) := by omega
  have hb12 : (k : Int) ≤ (T : Int) := by omega
  have hb13 : (T : Int) ≤ (n : Int) := by omega
  have hb14 : (k : Int) ≤ (j : Int) := by omega
  have hw1 : IntKind.i64.wrap ((i : Int) + (m : Int)) = (k : Int) := by rw [IntKind.wrap_i64]; omega
  have hw2 : IntKind.i64.wrap ((k : Int) + ((n - j : Nat) : Int)) = (T : Int) := by rw [IntKind.wrap_i64]; omega
  have HG := Lib.hid hg; clear hg
  have HS := Lib.hid hs; clear hs
  have HCS := Lib.hid hcs; clear hcs
  have HDS := Lib.hid hds; clear hds
  have HD := Lib.hid hd; clear hd
  have HL := Lib.hid hcl; clear hcl
  have H1 := Lib.hid h1; clear h1
  have H2 := Lib.hid h2; clear h2
  have HK := Lib.hid hk; clear hk
  have HT := Lib.hid hT; clear hT
  have HJ := Lib.hid hjq; clear hjq
  go_enter Tryz.func103, Tryz.ntmps103
  go_wp2_with fail
  refine wp_region_plan (S := fun _ => True) [(true, 0), (true, 1), (true, 2), (true, 3), (true, 4), (true, 5), (true, 6), (true, 7), (true, 8), (true, 9), (true, 10), (true, 11), (true, 12)] (by kernel_rfl) (by kernel_rfl) (fun _ _ d _ _ h => by cases d <;> exact h) trivial ?_
  repeat (refine Plan.take (v := ?_) rfl rfl ?_ ?_; rotate_left; (focus (intro W hW; go_simp; (try with_reducible rfl); done)); (try simp only [Act.put, List.setIfInBounds_toArray, List.set_cons_zero, List.set_cons_succ]))
  simp only [Plan]
  go_wp2_with (with_reducible show wpList _ _ _ (⟨some 97, _, _, _, _, _⟩ :: _) _ _; go_must (refine wpList_copyP rfl _ _ rfl g (i * 2) cur cs _ _ _ _ _ _ rfl rfl HG.out.drew ?c1 (fun _ => rfl) (HS.out _ (grown_drew _ _)) ?c2 H1.out ?_))
  case c1 => rw [HCS.out, show Nat.min m (T - i) = m from Nat.min_eq_left (by have := HT.out; have := HK.out; omega)]
  case c2 => rw [HCS.out, HL.out]; omega
  intro w1 hm1
  obtain ⟨Y, hY⟩ : ∃ Y, Y = splice cur (i * 2) cs := ⟨_, rfl⟩
  rw [← hY] at hm1
  have hYl : Y.length = cap * 2 := by rw [hY, length_splice _ _ _ (by rw [HCS.out, HL.out]; omega), HL.out]
  have hYt : Y.take (k * 2) = cur.take (i * 2) ++ cs := by rw [hY, take_splice_end cur _ (i * 2) _ (by rw [HL.out]; omega) (by rw [HCS.out, HK.out]; omega)]
  have hYd : ∀ t v, ds[t]? = some v → Y[j * 2 + t]? = some v := fun t v ht => by rw [hY, get_splice_ge cur cs (i * 2) _ (by rw [HCS.out]; have := HK.out; omega) (by rw [HL.out]; omega)]; exact HD.out t v ht
  have HYL := Lib.hid hYl; clear hYl
  have HYT := Lib.hid hYt; clear hYt
  have HYD := Lib.hid hYd; clear hYd
  clear hY
  go_wp2_with fail
  refine wp_region_plan (S := fun _ => True) [(true, 0), (true, 1), (true, 2), (true, 3), (true, 4), (true, 5), (true, 6), (true, 7), (true, 8), (false, 9)] (by kernel_rfl) (by kernel_rfl) (fun _ _ d _ _ h => by cases d <;> exact h) trivial ?_
  repeat (refine Plan.take (v := ?_) rfl rfl ?_ ?_; rotate_left; (focus (intro W hW; go_simp; (try with_reducible rfl); done)); (try simp only [Act.put, List.setIfInBounds_toArray, List.set_cons_zero, List.set_cons_succ]))
  refine Plan.step rfl rfl fun K2 hK => ?_
  refine wp_copyP _ _ rfl g (k * 2) Y ds _ _ _ _ _ _ rfl rfl hm1.out.whole.drew ?_ (fun _ => rfl) (Srcs.of (hm1.out.whole.drew.srcs (j * 2) _ HYD.out)) ?_ H2.out ?_
  · rw [HDS.out, show Nat.min (n - j) (T - k) = q from by have := HT.out; have := HJ.out; rw [show n - j = q by omega, show T - k = q by omega]; exact Nat.min_self q]
  · rw [HDS.out, HYL.out]; have := HJ.out; omega
  intro w2 hm2
  refine hK _ _ trivial ?_
  simp only [Plan]
  clear hK K2
  obtain ⟨Z, hZ⟩ : ∃ Z, Z = splice Y (k * 2) ds := ⟨_, rfl⟩
  rw [← hZ] at hm2
  have hZl : Z.length = cap * 2 := by rw [hZ, length_splice _ _ _ (by rw [HDS.out, HYL.out]; have := HJ.out; omega), HYL.out]
  have hZt : Z.take (T * 2) = cur.take (i * 2) ++ cs ++ ds := by rw [hZ, take_splice_end Y _ (k * 2) _ (by rw [HYL.out]; omega) (by rw [HDS.out, HT.out]; omega), HYT.out]
  have HZL := Lib.hid hZl; clear hZl
  have HZT := Lib.hid hZt; clear hZt
  clear hZ
  go_wp2_with (with_reducible show wpList _ _ _ (⟨none, _, _, _, _, _⟩ :: _) _ _; go_must (refine wpList_clearP rfl _ rfl g (T * 2) Z _ _ _ rfl hm2.out.whole (fun _ => rfl) ?d1 ?_))
  case d1 => rw [HZL.out]; omega
  intro w3 zs hz hm3
  have HZ := Lib.hid hz; clear hz
  go_wp2_with fail
  go_ret
  refine ⟨rfl, _, hm3.out.whole, ?_, ?_, grown_trans (grown_undrew hm1.out.grown) (grown_trans (grown_undrew hm2.out.grown) hm3.out.grown)⟩
  · rw [length_splice _ _ _ (by rw [HZ.out, HZL.out]; omega), HZL.out]
  · rw [take_splice_lt Z _ _ _ (Nat.le_refl _) (by rw [HZL.out]; omega), HZT.out]
end Go.Proofs.YtbifnogocmgddaaGreat
namespace Go.Proofs.YtbifnogocmgddaaGreat
open Go.RowKit

set_option maxHeartbeats 8000000 in
set_option maxRecDepth 100000 in
theorem replace_midEq (i j n m q cap mc g : Nat) (sp : Option Addr) (cur cs ds : List Value) (w : World) (hg : Whole w g 69 cur) (hcs : cs.length = m * 2) (hs : ∀ w', w.grownBy w' (some g) → Srcs w' sp cs) (h1 : ∀ v ∈ cs, v.oneCell' = true) (hij : i < j) (hjq : j + q = n) (hq : 0 < q) (hnc : n ≤ cap) (hcm : cap ≤ maxLen) (hm : m ≤ 1)
    (hcl : cur.length = cap * 2) (hds : ds.length = q * 2) (hd : ∀ t v, ds[t]? = some v → cur[j * 2 + t]? = some v) (h2 : ∀ v ∈ ds, v.oneCell' = true) (k T : Nat) (hk : k = i + m) (hT : T = k + q) (hc : cap = T) :
    Calls Tryz.prog 103 #[.slice (some ⟨g, 0, none⟩) n cap, .int .i64 i, .int .i64 j, .slice sp m mc] w fun e w' =>
      e = .returned (.slice (some ⟨g, 0, none⟩) T cap) ∧ ∃ cur', Whole w' g 69 cur' ∧ cur'.length = cap * 2 ∧ cur'.take (T * 2) = cur.take (i * 2) ++ cs ++ ds ∧ w.grownBy w' (some g) := by
  unfold maxLen at hcm
  subst hc
  have hb0 : (i : Int) ≤ (j : Int) := by omega
  have hb1 : (j : Int) ≤ (n : Int) := by omega
  have hb2 : ¬ ((i : Int) = (j : Int)) := by omega
  have hb3 : ¬ ((j : Int) = (n : Int)) := by omega
  have hb4 : (i : Int) ≤ (cap : Int) := by omega
  have hb5 : (j : Int) ≤ (cap : Int) := by omega
  have hb6 : ¬ ((cap : Int) < (cap : Int)) := by omega
  have hb7 : ¬ (cap = i) := by omega
  have hb8 : ¬ (cap = j) := by omega
  have hb9 : ¬ (cap = k) := by omega
  have hb10 : (cap : Int) ≤ (cap : Int) := by omega
  have hb11 : (i : Int) ≤ (cap : Int) := by omega
  have hb12 : (k : Int) ≤ (cap : Int) := by omega
  have hb13 : (cap : Int) ≤ (n : Int) := by omega
  have hb14 : (k : Int) ≤ (j : Int) := by omega
  have hw1 : IntKind.i64.wrap ((i : Int) + (m : Int)) = (k : Int) := by rw [IntKind.wrap_i64]; omega
  have hw2 : IntKind.i64.wrap ((k : Int) + ((n - j : Nat) : Int)) = (cap : Int) := by rw [IntKind.wrap_i64]; omega
  have HG := Lib.hid hg; clear hg
  have HS := Lib.hid hs; clear hs
  have HCS := Lib.hid hcs; clear hcs
  have HDS := Lib.hid hds; clear hds
  have HD := Lib.hid hd; clear hd
  have HL := Lib.hid hcl; clear hcl
  have H1 := Lib.hid h1; clear h1
  have H2 := Lib.hid h2; clear h2
  have HK := Lib.hid hk; clear hk
  have HT := Lib.hid hT; clear hT
  have HJ := Lib.hid hjq; clear hjq
  go_enter Tryz.func103, Tryz.ntmps103
  go_wp2_with fail
  refine wp_region_plan (S := fun _ => True) [(true, 0), (true, 1), (true, 2), (true, 3), (true, 4), (true, 5), (true, 6), (true, 7), (true, 8), (true, 9), (true, 10), (true, 11), (true, 12)] (by kernel_rfl) (by kernel_rfl) (fun _ _ d _ _ h => by cases d <;> exact h) trivial ?_
  repeat (refine Plan.take (v := ?_) rfl rfl ?_ ?_; rotate_left; (focus (intro W hW; go_simp; (try with_reducible rfl); done)); (try simp only [Act.put, List.setIfInBounds_toArray, List.set_cons_zero, List.set_cons_succ]))
  simp only [Plan]
  go_wp2_with (with_reducible show wpList _ _ _ (⟨some 97, _, _, _, _, _⟩ :: _) _ _; go_must (refine wpList_copyP rfl _ _ rfl g (i * 2) cur cs _ _ _ _ _ _ rfl rfl HG.out.drew ?c1 (fun _ => rfl) (HS.out _ (grown_drew _ _)) ?c2 H1.out ?_))
  case c1 => rw [HCS.out, show Nat.min m (cap - i) = m from Nat.min_eq_left (by have := HT.out; have := HK.out; omega)]
  case c2 => rw [HCS.out, HL.out]; omega
  intro w1 hm1
  obtain ⟨Y, hY⟩ : ∃ Y, Y = splice cur (i * 2) cs := ⟨_, rfl⟩
  rw [← hY] at hm1
  have hYl : Y.length = cap * 2 := by rw [hY, length_splice _ _ _ (by rw [HCS.out, HL.out]; omega), HL.out]
  have hYt : Y.take (k * 2) = cur.take (i * 2) ++ cs := by rw [hY, take_splice_end cur _ (i * 2) _ (by rw [HL.out]; omega) (by rw [HCS.out, HK.out]; omega)]
  have hYd : ∀ t v, ds[t]? = some v → Y[j * 2 + t]? = some v := fun t v ht => by rw [hY, get_splice_ge cur cs (i * 2) _ (by rw [HCS.out]; have := HK.out; omega) (by rw [HL.out]; omega)]; exact HD.out t v ht
  have HYL := Lib.hid hYl; clear hYl
  have HYT := Lib.hid hYt; clear hYt
  have HYD := Lib.hid hYd; clear hYd
  clear hY
  go_wp2_with fail
  refine wp_region_plan (S := fun _ => True) [(true, 0), (true, 1), (true, 2), (true, 3), (true, 4), (true, 5), (true, 6), (true, 7), (true, 8), (false, 9)] (by kernel_rfl) (by kernel_rfl) (fun _ _ d _ _ h => by cases d <;> exact h) trivial ?_
  repeat (refine Plan.take (v := ?_) rfl rfl ?_ ?_; rotate_left; (focus (intro W hW; go_simp; (try with_reducible rfl); done)); (try simp only [Act.put, List.setIfInBounds_toArray, List.set_cons_zero, List.set_cons_succ]))
  refine Plan.step rfl rfl fun K2 hK => ?_
  refine wp_copyP _ _ rfl g (k * 2) Y ds _ _ _ _ _ _ rfl rfl hm1.out.whole.drew ?_ (fun _ => rfl) (Srcs.of (hm1.out.whole.drew.srcs (j * 2) _ HYD.out)) ?_ H2.out ?_
  · rw [HDS.out, show Nat.min (n - j) (cap - k) = q from by have := HT.out; have := HJ.out; rw [show n - j = q by omega, show cap - k = q by omega]; exact Nat.min_self q]
  · rw [HDS.out, HYL.out]; have := HJ.out; omega
  intro w2 hm2
  refine hK _ _ trivial ?_
  simp only [Plan]
  clear hK K2
  obtain ⟨Z, hZ⟩ : ∃ Z, Z = splice Y (k * 2) ds := ⟨_, rfl⟩
  rw [← hZ] at hm2
  have hZl : Z.length = cap * 2 := by rw [hZ, length_splice _ _ _ (by rw [HDS.out, HYL.out]; have := HJ.out; omega), HYL.out]
  have hZt : Z.take (cap * 2) = cur.take (i * 2) ++ cs ++ ds := by rw [hZ, take_splice_end Y _ (k * 2) _ (by rw [HYL.out]; omega) (by rw [HDS.out, HT.out]; omega), HYT.out]
  have HZL := Lib.hid hZl; clear hZl
  have HZT := Lib.hid hZt; clear hZt
  clear hZ
  go_wp2_with (with_reducible show wpList _ _ _ (⟨none, _, _, _, _, _⟩ :: _) _ _; go_must (refine wpList_clearP rfl _ rfl g (cap * 2) Z _ _ _ rfl hm2.out.whole (fun h => absurd h (by omega)) ?d1 ?_))
  case d1 => rw [HZL.out]; omega
  intro w3 hm3
  go_wp2_with fail
  go_ret
  refine ⟨rfl, Z, ?_, HZL.out, HZT.out, grown_trans (grown_undrew hm1.out.grown) (grown_trans (grown_undrew hm2.out.grown) hm3.out.grown)⟩
  have h := hm3.out.whole
  rwa [splice_nil] at h
end Go.Proofs.YtbifnogocmgddaaGreat
namespace Go.Proofs.YtbifnogocmgddaaGreat
open Go.RowKit

set_option maxRecDepth 100000 in
/-- a part of the slice, by at most one pair -/
theorem sreplace_any (l : List (K × K)) (i j : Nat) (hij : i ≤ j) (hj : j ≤ l.length) (p : List (K × K)) (v vp : Value) (w : World) (base : Nat) (hown : OwnP w base v l) (hbase : base ≤ w.heap.size) (hp : OneAt w v p vp) (hlen : l.length + 1 ≤ 7036874417000) :
    Calls Tryz.prog 103 #[v, .int .i64 i, .int .i64 j, vp] w fun e w' =>
      ∃ A' c', e = .returned (.slice A' (l.take i ++ p ++ l.drop j).length c') ∧ OwnP w' base (.slice A' (l.take i ++ p ++ l.drop j).length c') (l.take i ++ p ++ l.drop j) ∧ w.grownBy w' v.ownBlock := by
  by_cases he : i = j
  · subst he
    exact replace_same l i hj p v vp w base hown hbase hp hlen
  rcases hown.row with ⟨rfl, rfl⟩ | ⟨g, cap, cur, rfl, hbg, hg, h1, h2, h3, h4⟩
  · simp at hj; omega
  obtain ⟨sp, mc, rfl, hm, hs⟩ := hp.form
  have hs' := hs w g rfl (grown_same _ _)
  have fA : (flatG cellsS (l.take i)) = cur.take (i * 2) := by rw [flatG_take cellsS_len, ← h4, List.take_take, Nat.min_eq_left (by omega)]
  have hcs : (flatG cellsS p).length = p.length * 2 := flatG_length cellsS_len p
  by_cases hjn : j = l.length
  · subst hjn
    rw [List.drop_length, List.append_nil]
    have hL : (l.take i ++ p).length = i + p.length := by rw [List.length_append, List.length_take, Nat.min_eq_left hij]
    have fin : ∀ cur' w', Whole w' g 69 cur' → cur'.length = cap * 2 → cur'.take ((i + p.length) * 2) = cur.take (i * 2) ++ flatG cellsS p → w.grownBy w' (some g) →
        ∃ A' c', Ending.returned (Value.slice (some ⟨g, 0, none⟩) (i + p.length) cap) = .returned (.slice A' (l.take i ++ p).length c') ∧ OwnP w' base (.slice A' (l.take i ++ p).length c') (l.take i ++ p) ∧ w.grownBy w' (Value.slice (some ⟨g, 0, none⟩) l.length cap).ownBlock := fun cur' w' k1 k2 k3 k4 =>
      ⟨some ⟨g, 0, none⟩, cap, by rw [hL], Own.ofRow cellsS_len _ hbg k1 (by rw [hL]; omega) h2 k2 (by rw [hL, k3, flatG_append, fA]), k4⟩
    by_cases hlt : i + p.length < l.length
    · refine (replace_endLt i l.length p.length cap mc g sp cur (flatG cellsS p) w hg hcs hs' (cellsS_one' _) (by omega) h1 h2 hm h3 hlt).mono ?_
      rintro e w' ⟨rfl, cur', k1, k2, k3, k4⟩
      exact fin cur' w' k1 k2 k3 k4
    · refine (replace_endEq i l.length p.length cap mc g sp cur (flatG cellsS p) w hg hcs hs' (cellsS_one' _) (by omega) h1 h2 hm h3 (by omega)).mono ?_
      rintro e w' ⟨rfl, cur', k1, k2, k3, k4⟩
      exact fin cur' w' k1 k2 k3 k4
  · have hd : (l.drop j).length = l.length - j := List.length_drop
    have hds : (flatG cellsS (l.drop j)).length = (l.length - j) * 2 := by rw [flatG_length cellsS_len, hd]
    have hdc : ∀ t v, (flatG cellsS (l.drop j))[t]? = some v → cur[j * 2 + t]? = some v := by
      have h5 : cur.take (l.length * 2) = flatG cellsS (l.take j) ++ flatG cellsS (l.drop j) := by rw [h4, ← flatG_append, List.take_append_drop]
      have h6 := cells_at h5
      rw [flatG_length cellsS_len, List.length_take, Nat.min_eq_left hj] at h6
      exact h6
    have hL : (l.take i ++ p ++ l.drop j).length = i + p.length + (l.length - j) := by rw [List.length_append, List.length_append, List.length_take, Nat.min_eq_left (by omega), hd]
    have fin : ∀ cur' w', Whole w' g 69 cur' → cur'.length = cap * 2 → cur'.take ((i + p.length + (l.length - j)) * 2) = cur.take (i * 2) ++ flatG cellsS p ++ flatG cellsS (l.drop j) → w.grownBy w' (some g) →
        ∃ A' c', Ending.returned (Value.slice (some ⟨g, 0, none⟩) (i + p.length + (l.length - j)) cap) = .returned (.slice A' (l.take i ++ p ++ l.drop j).length c') ∧ OwnP w' base (.slice A' (l.take i ++ p ++ l.drop j).length c') (l.take i ++ p ++ l.drop j) ∧ w.grownBy w' (Value.slice (some ⟨g, 0, none⟩) l.length cap).ownBlock := fun cur' w' k1 k2 k3 k4 =>
      ⟨some ⟨g, 0, none⟩, cap, by rw [hL], Own.ofRow cellsS_len _ hbg k1 (by rw [hL]; omega) h2 k2 (by rw [hL, k3, flatG_append, flatG_append, fA]), k4⟩
    by_cases hc : cap = i + p.length + (l.length - j)
    · refine (replace_midEq i j l.length p.length (l.length - j) cap mc g sp cur (flatG cellsS p) (flatG cellsS (l.drop j)) w hg hcs (fun w' h => hs w' g rfl h) (cellsS_one' _) (by omega) (by omega) (by omega) h1 h2 hm h3 hds hdc (cellsS_one' _) _ _ rfl rfl hc).mono ?_
      rintro e w' ⟨rfl, cur', k1, k2, k3, k4⟩
      exact fin cur' w' k1 k2 k3 k4
    · refine (replace_midLt i j l.length p.length (l.length - j) cap mc g sp cur (flatG cellsS p) (flatG cellsS (l.drop j)) w hg hcs (fun w' h => hs w' g rfl h) (cellsS_one' _) (by omega) (by omega) (by omega) h1 h2 hm h3 hds hdc (cellsS_one' _) _ _ rfl rfl hc).mono ?_
      rintro e w' ⟨rfl, cur', k1, k2, k3, k4⟩
      exact fin cur' w' k1 k2 k3 k4
end Go.Proofs.YtbifnogocmgddaaGreat
namespace Go.Proofs.YtbifnogocmgddaaGreat
open Go.RowKit
attribute [local go_sem] less_eq same_eq le_eq ge_eq gt_eq

/-- cmp.Compare at texts -/
def cmpKey (a b : K) : Int := if a < b then -1 else if b < a then 1 else 0
set_option maxHeartbeats 400000 in
theorem compare_any (a b : K) (w : World) : Calls Tryz.prog 79 #[.string a, .string b] w fun e w' => e = .returned (.int .i64 (cmpKey a b)) ∧ w' = w := by
  by_cases h1 : a < b
  · go_enter Tryz.func79, Tryz.ntmps79
    go_wp2
    go_ret
    exact ⟨by simp [cmpKey, h1], rfl⟩
  · by_cases h2 : a = b
    · subst h2
      go_enter Tryz.func79, Tryz.ntmps79
      go_wp2
      go_ret
      exact ⟨by simp [cmpKey, h1], rfl⟩
    · have h3 : b < a := by grind
      go_enter Tryz.func79, Tryz.ntmps79
      go_wp2
      go_ret
      exact ⟨by simp [cmpKey, h1, h3], rfl⟩

set_option maxHeartbeats 400000 in
theorem next_any (k : K) (w : World) (hk : k.size < 9223372036854775807) : Calls Tryz.prog 95 #[.string k] w fun e w' => e = .returned (.string (k ++ ⟨#[0]⟩)) ∧ w' = w := by
  go_enter Tryz.func95, Tryz.ntmps95
  go_wp2
  go_ret
  exact ⟨rfl, rfl⟩

set_option maxHeartbeats 400000 in
theorem phas_any (s : K × K) (k : K) (w : World) : Calls Tryz.prog 30 #[.agg #[.string s.1, .string s.2], .string k] w fun e w' => e = .returned (.bool (hasB s k)) ∧ Below w.heap.size w w' := by
  unfold hasB
  by_cases h : s.1 ≤ k
  all_goals
    go_enter Tryz.func30, Tryz.ntmps30
    go_wp2
    go_ret
    exact ⟨by simp [h], (Below.refl _ _).alloc (Nat.le_refl _) _⟩
end Go.Proofs.YtbifnogocmgddaaGreat
