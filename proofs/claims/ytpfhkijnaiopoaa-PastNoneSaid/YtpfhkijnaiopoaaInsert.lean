/- slices.Insert of at most one pair into a slice of the call's own. -/
import Derived.Test.YtpfhkijnaiopoaaMoveP
import Derived.Test.YtpfhkijnaiopoaaROne
import Derived.Laws.Externs
namespace Go.Proofs.Ytpfhkijnaiopoaa
open Go.RowKit

theorem insert_cells {cur A B X Y : List Value} (h : cur.take (A.length + B.length) = A ++ B) (hl : A.length + X.length + B.length ≤ cur.length) (hY : Y = splice cur (A.length + X.length) B) :
    (splice Y A.length X).take (A.length + X.length + B.length) = A ++ X ++ B := by
  have hA : cur.take A.length = A := by
    have := congrArg (List.take A.length) h
    rw [List.take_take, List.take_left, Nat.min_eq_left (by omega)] at this
    exact this
  have hYl : Y.length = cur.length := by rw [hY, length_splice _ _ _ (by omega)]
  have h1 : (splice Y A.length X).take (A.length + X.length) = A ++ X := by
    rw [take_splice_end Y X A.length _ (by omega) rfl, hY, take_splice_lt cur B _ _ (by omega) (by omega), hA]
  have h2 : (splice Y A.length X).drop (A.length + X.length) = B ++ cur.drop (A.length + X.length + B.length) := by
    rw [drop_splice_ge Y X A.length _ (Nat.le_refl _) (by omega), hY]
    unfold splice
    rw [List.drop_append, List.drop_eq_nil_of_le (by simp; omega), List.nil_append, show A.length + X.length - (cur.take (A.length + X.length)).length = 0 by simp; omega, List.drop_zero]
  have h3 : splice Y A.length X = (A ++ X ++ B) ++ cur.drop (A.length + X.length + B.length) := by
    rw [← List.take_append_drop (A.length + X.length) (splice Y A.length X), h1, h2, List.append_assoc (A ++ X)]
  rw [h3]
  exact List.take_left' (by simp only [List.length_append])

theorem overlaps_apart {w : World} {g vb : Nat} {cur cs : List Value} {o la ca lb cb : Nat} (hg : Whole w g 56 cur) (hv : Whole w vb 56 cs) (hne : vb ≠ g) (hc : cur.length ≠ 0) :
    (callFunc 63 #[.slice (some ⟨vb, 0, none⟩) la ca, .slice (some ⟨g, o, none⟩) lb cb]).run Try.prog w = .ok (.value (.bool false)) w := by
  rw [run_callFunc_extern Try.func63 (by kernel_rfl) (by kernel_rfl) (by kernel_rfl) (e := Extern.SlicesOverlaps.overlaps #[22, 22] #[4]) (by kernel_rfl),
    Lib.run_overlaps_apart w 22 4 56 Try.underlying22 2 Try.sizeOf56 ⟨vb, 0, none⟩ ⟨g, o, none⟩ la ca lb cb hne _ _ _ _ hv.shape hg.shape hc (hv.frozen 0) (hv.frozen _)]
  rfl

set_option maxHeartbeats 4000000 in
set_option maxRecDepth 100000 in
theorem insert_shift (l : List (K × K)) (i : Nat) (x : K × K) (w : World) (g cap vb : Nat) (cur : List Value) (hg : Whole w g 56 cur) (hv : Whole w vb 56 (cellsS x)) (hne : vb ≠ g) (hi : i < l.length) (hroom : l.length + 1 ≤ cap)
    (hcap : cap ≤ maxLen) (hcl : cur.length = cap * 2) (htk : cur.take (l.length * 2) = flatG cellsS l) :
    Calls Try.prog 62 #[.slice (some ⟨g, 0, none⟩) l.length cap, .int .i64 i, .slice (some ⟨vb, 0, none⟩) 1 1] w fun e w' =>
      e = .returned (.slice (some ⟨g, 0, none⟩) (l.length + 1) cap) ∧ ∃ cur', Whole w' g 56 cur' ∧ cur'.length = cap * 2 ∧ cur'.take ((l.length + 1) * 2) = flatG cellsS (l.take i ++ [x] ++ l.drop i) ∧ w.grownBy w' (some g) := by
  have hov := fun lb cb => overlaps_apart (o := (i + 1) * 2) (la := 1) (ca := 1) (lb := lb) (cb := cb) hg hv hne (by omega)
  generalize hn : l.length = n at *
  unfold maxLen at hcap
  have hw1 : IntKind.i64.wrap ((i : Int) + 1) = (i : Int) + 1 := by rw [IntKind.wrap_i64]; omega
  have hw2 : IntKind.i64.wrap ((n : Int) + 1) = (n : Int) + 1 := by rw [IntKind.wrap_i64]; omega
  have hb1 : ¬ ((i : Int) = (n : Int)) := by omega
  have hb2 : ¬ ((cap : Int) < (n : Int) + 1) := by omega
  have hb3 : (i : Int) ≤ (n : Int) := by omega
  have hb4 : (i : Int) + 1 ≤ (n : Int) + 1 := by omega
  have hb5 : (n : Int) + 1 ≤ (cap : Int) := by omega
  have hb6 : (0 : Int) ≤ (i : Int) + 1 := by omega
  have hb7 : ¬ (cap = i) := by omega
  have hb8 : ¬ (cap = i + 1) := by omega
  have hb9 : (i : Int) ≤ (n : Int) + 1 := by omega
  have HG := Lib.hid hg; clear hg
  have HV := Lib.hid hv; clear hv
  have HN := Lib.hid hn; clear hn
  have HT := Lib.hid htk; clear htk
  have HL := Lib.hid hcl; clear hcl
  go_enter Try.func62, Try.ntmps62
  go_wp2_with fail
  refine wp_region_plan (S := fun _ => True) [(true, 0), (true, 1), (true, 2), (true, 3), (true, 4), (true, 5), (true, 6), (true, 7), (false, 8)] (by kernel_rfl) (by kernel_rfl) (fun _ _ d _ _ h => by cases d <;> exact h) trivial ?_
  repeat (refine Plan.take (v := ?_) rfl rfl ?_ ?_; rotate_left; (focus (intro W hW; go_simp; (try with_reducible rfl); done)); (try simp only [Act.put, List.setIfInBounds_toArray, List.set_cons_zero, List.set_cons_succ]))
  have eA : (l.take i).length = i := by rw [List.length_take, HN.out]; omega
  have eB : (l.drop i).length = n - i := by rw [List.length_drop, HN.out]
  have eX : (cellsS x).length = 2 := rfl
  have fA : (flatG cellsS (l.take i)).length = i * 2 := by rw [flatG_length cellsS_len, eA]
  have fB : (flatG cellsS (l.drop i)).length = (n - i) * 2 := by rw [flatG_length cellsS_len, eB]
  have hcut : flatG cellsS l = flatG cellsS (l.take i) ++ flatG cellsS (l.drop i) := by rw [← flatG_append, List.take_append_drop]
  have HA := Lib.hid fA; clear fA
  have HB := Lib.hid fB; clear fB
  have HC := Lib.hid hcut; clear hcut
  clear eA eB eX
  refine Plan.step rfl rfl fun K2 hK => ?_
  refine wp_copyP _ _ rfl g ((i + 1) * 2) cur (flatG cellsS (l.drop i)) _ _ _ _ _ _ rfl rfl HG.out.drew ?_ (fun _ => rfl) (Srcs.of (HG.out.drew.srcs (i * 2) _ ?_)) ?_ (cellsS_one' _) ?_
  · rw [HB.out, show (n + 1 - i).min (n - i) = n - i from Nat.min_eq_right (by omega)]
  · rw [← HA.out]
    exact cells_at (n := n * 2) (by rw [HT.out, HC.out])
  · rw [HB.out, HL.out]; omega
  intro w2 hm2
  refine hK _ _ trivial ?_
  simp only [Plan]
  clear hK
  have hv2 : Whole w2 vb 56 (cellsS x) := hm2.out.away HV.out.drew hne
  have HV2 := Lib.hid hv2; clear hv2
  obtain ⟨Y, hY⟩ : ∃ Y, Y = splice cur ((i + 1) * 2) (flatG cellsS (l.drop i)) := ⟨_, rfl⟩
  rw [← hY] at hm2
  have hYl : Y.length = cap * 2 := by rw [hY, length_splice _ _ _ (by rw [HB.out, HL.out]; omega), HL.out]
  have HY := Lib.hid hY; clear hY
  have HYL := Lib.hid hYl; clear hYl
  go_wp2_with (with_reducible show wpList _ _ _ (⟨some 82, _, _, _, _, _⟩ :: _) _ _; go_must (refine wpList_copyP rfl _ _ rfl g (i * 2) Y (cellsS x) _ _ _ _ _ _ rfl rfl hm2.out.whole ?c1 (fun _ => rfl) (Srcs.of ?c2) ?c3 (cellsS_one x) ?_))
  case c1 => rw [show Nat.min 1 (n + 1 - i) = 1 from Nat.min_eq_left (by omega)]; rfl
  case c2 => exact HV2.out.srcs 0 _ (fun j v hj => by rwa [Nat.zero_add])
  case c3 => rw [HYL.out]; show i * 2 + 2 ≤ _; omega
  intro w3 hm3
  go_wp2_with fail
  go_ret
  refine ⟨rfl, _, hm3.out.whole, ?_, ?_, ?_⟩
  · rw [length_splice _ _ _ (by rw [HYL.out]; show i * 2 + 2 ≤ _; omega), HYL.out]
  · have h := insert_cells (cur := cur) (A := flatG cellsS (l.take i)) (B := flatG cellsS (l.drop i)) (X := cellsS x) (Y := Y) (by rw [HA.out, HB.out, show i * 2 + (n - i) * 2 = n * 2 by omega, HT.out, HC.out]) (by rw [HA.out, HB.out, HL.out]; show i * 2 + 2 + _ ≤ _; omega) (by rw [HY.out, HA.out, show (i + 1) * 2 = i * 2 + (cellsS x).length by show _ = i * 2 + 2; omega])
    rw [HA.out, HB.out, show i * 2 + (cellsS x).length + (n - i) * 2 = (n + 1) * 2 by show i * 2 + 2 + _ = _; omega] at h
    rw [h, flatG_append, flatG_append]
    simp [flatG]
  · have h1 := hm2.out.grown
    have h2 := hm3.out.grown
    exact ⟨h2.os.trans h1.os, h2.tape.trans h1.tape, h2.output.trans h1.output, Nat.le_trans h1.size h2.size, fun k hk hn => (h2.block k (Nat.lt_of_lt_of_le hk h1.size) hn).trans (h1.block k hk hn)⟩

theorem grown_undrew {w w' : World} {row : Option Nat} (h : w.drew.grownBy w' row) : w.grownBy w' row := ⟨h.os, h.tape, h.output, h.size, h.block⟩
theorem grown_trans {a b c : World} {row : Option Nat} (h1 : a.grownBy b row) (h2 : b.grownBy c row) : a.grownBy c row :=
  ⟨h2.os.trans h1.os, h2.tape.trans h1.tape, h2.output.trans h1.output, Nat.le_trans h1.size h2.size, fun k hk hn => (h2.block k (Nat.lt_of_lt_of_le hk h1.size) hn).trans (h1.block k hk hn)⟩
theorem grown_new {a b c : World} {g : Nat} (h1 : a.grownBy b none) (h2 : b.grownBy c (some g)) (hg : a.heap.size ≤ g) : a.grownBy c none :=
  ⟨h2.os.trans h1.os, h2.tape.trans h1.tape, h2.output.trans h1.output, Nat.le_trans h1.size h2.size, fun k hk _ => (h2.block k (Nat.lt_of_lt_of_le hk h1.size) (by simp; omega)).trans (h1.block k hk (by simp))⟩

set_option maxHeartbeats 4000000 in
set_option maxRecDepth 100000 in
theorem insert_grow (l : List (K × K)) (i : Nat) (x : K × K) (w : World) (g cap vb : Nat) (cur : List Value) (hg : Whole w g 56 cur) (hv : Whole w vb 56 (cellsS x)) (hi : i < l.length) (hroom : cap < l.length + 1)
    (hcap : l.length ≤ cap) (hcl : cur.length = cap * 2) (htk : cur.take (l.length * 2) = flatG cellsS l) (hlen : l.length + 1 ≤ 7036874417000) :
    Calls Try.prog 62 #[.slice (some ⟨g, 0, none⟩) l.length cap, .int .i64 i, .slice (some ⟨vb, 0, none⟩) 1 1] w fun e w' =>
      ∃ c, e = .returned (.slice (some ⟨w.heap.size, 0, none⟩) (l.length + 1) c) ∧ ∃ cur', Whole w' w.heap.size 56 cur' ∧ cur'.length = c * 2 ∧ l.length + 1 ≤ c ∧ c ≤ maxLen ∧ cur'.take ((l.length + 1) * 2) = flatG cellsS (l.take i ++ [x] ++ l.drop i) ∧ w.grownBy w' none := by
  generalize hn : l.length = n at *
  obtain rfl : cap = n := by omega
  obtain ⟨d, hd⟩ : ∃ d, cap + 1 = i + d := ⟨cap + 1 - i, by omega⟩
  have hw1 : IntKind.i64.wrap ((i : Int) + 1) = (i : Int) + 1 := by rw [IntKind.wrap_i64]; omega
  have hw2 : IntKind.i64.wrap ((cap : Int) + 1) = (cap : Int) + 1 := by rw [IntKind.wrap_i64]; omega
  have hw3 : IntKind.i64.wrap ((cap : Int) + 1 - (i : Int)) = (d : Int) := by rw [IntKind.wrap_i64]; omega
  have hb1 : ¬ ((i : Int) = (cap : Int)) := by omega
  have hb2 : ((cap : Int) < (cap : Int) + 1) := by omega
  have hb3 : (i : Int) ≤ (cap : Int) := by omega
  have hb4 : (i : Int) ≤ (i : Int) + (d : Int) := by omega
  have hb5 : (i : Int) + 1 ≤ (i : Int) + (d : Int) := by omega
  have hb6 : (0 : Int) ≤ (i : Int) + 1 := by omega
  have hb7 : ¬ (cap = i) := by omega
  have hvlt := hv.size
  have hglt := hg.size
  have eA : (l.take i).length = i := by rw [List.length_take, hn]; omega
  have eB : (l.drop i).length = cap - i := by rw [List.length_drop, hn]
  have fA : (flatG cellsS (l.take i)).length = i * 2 := by rw [flatG_length cellsS_len, eA]
  have fB : (flatG cellsS (l.drop i)).length = (cap - i) * 2 := by rw [flatG_length cellsS_len, eB]
  have hcut : cur.take (cap * 2) = flatG cellsS (l.take i) ++ flatG cellsS (l.drop i) := by rw [htk, ← flatG_append, List.take_append_drop]
  have HA := Lib.hid fA; clear fA
  have HB := Lib.hid fB; clear fB
  have HC := Lib.hid hcut; clear hcut
  clear eA eB htk
  have HG := Lib.hid hg; clear hg
  have HV := Lib.hid hv; clear hv
  have HN := Lib.hid hn; clear hn
  have HL := Lib.hid hcl; clear hcl
  have HD := Lib.hid hd; clear hd
  go_enter Try.func62, Try.ntmps62
  go_wp2_with (with_reducible show wpList _ _ _ (⟨some 40, _, _, _, _, _⟩ :: _) _ _; go_must (refine wpList_zerosP rfl _ _ rfl (some ⟨g, 0, none⟩) i cap d (flatG cellsS (l.take i)) rfl rfl HA.out (Srcs.of ?c1) ?c2 ?c3 ?c4 ?_))
  case c1 =>
    have h := congrArg (List.take (i * 2)) HC.out
    rw [List.take_take, Nat.min_eq_left (by omega), ← HA.out, List.take_left] at h
    have h2 := cells_at (A := []) (B := flatG cellsS (l.take i)) (cur := cur) h
    exact HG.out.srcs 0 _ h2
  case c2 => have := HD.out; omega
  case c3 => have := HD.out; omega
  case c4 => have := HD.out; omega
  intro w1 c cur1 hz hc
  have hc1 : ¬ (c = i) := by have := HD.out; omega
  have hc2 : ¬ (c = i + 1) := by have := HD.out; omega
  have hv1 : Whole w1 vb 56 (cellsS x) := HV.out.grown hz.out.2.2.2.2.2.1 (by simp)
  have hg1 : Whole w1 g 56 cur := HG.out.grown hz.out.2.2.2.2.2.1 (by simp)
  have HV1 := Lib.hid hv1; clear hv1
  have HG1 := Lib.hid hg1; clear hg1
  clear hc
  go_wp2_with (with_reducible show wpList _ _ _ (⟨some 45, _, _, _, _, _⟩ :: _) _ _; go_must (refine wpList_copyP rfl _ _ rfl w.heap.size (i * 2) cur1 (cellsS x) _ _ _ _ _ _ rfl rfl hz.out.1 ?d1 (fun _ => rfl) (Srcs.of ?d2) ?d3 (cellsS_one x) ?_))
  case d1 => rw [show Nat.min 1 d = 1 from Nat.min_eq_left (by have := HD.out; omega)]; rfl
  case d2 => exact HV1.out.srcs 0 _ (fun j v hj => by rwa [Nat.zero_add])
  case d3 => rw [hz.out.2.1]; show i * 2 + 2 ≤ _; have := hz.out.2.2.2.1; have := HD.out; omega
  intro w2 hm2
  obtain ⟨Y, hY⟩ : ∃ Y, Y = splice cur1 (i * 2) (cellsS x) := ⟨_, rfl⟩
  rw [← hY] at hm2
  have hX2 : (cellsS x).length = 2 := rfl
  have hYl : Y.length = c * 2 := by rw [hY, length_splice _ _ _ (by rw [hX2, hz.out.2.1]; have := hz.out.2.2.2.1; have := HD.out; omega), hz.out.2.1]
  have hYt : Y.take ((i + 1) * 2) = flatG cellsS (l.take i) ++ cellsS x := by
    rw [hY, take_splice_end cur1 _ (i * 2) _ (by rw [hz.out.2.1]; have := hz.out.2.2.2.1; omega) (by rw [hX2]; omega), hz.out.2.2.1]
  have hg2 : Whole w2 g 56 cur := HG1.out.grown hm2.out.grown (by simp; omega)
  have HG2 := Lib.hid hg2; clear hg2
  have HYL := Lib.hid hYl; clear hYl
  have HYT := Lib.hid hYt; clear hYt
  have HX2 := Lib.hid hX2; clear hX2
  clear hY
  go_wp2_with fail
  refine wp_region_plan (S := fun _ => True) [(true, 0), (true, 1), (true, 2), (true, 3), (true, 4), (true, 5), (true, 6), (true, 7), (false, 8)] (by kernel_rfl) (by kernel_rfl) (fun _ _ d _ _ h => by cases d <;> exact h) trivial ?_
  repeat (refine Plan.take (v := ?_) rfl rfl ?_ ?_; rotate_left; (focus (intro W hW; go_simp; (try with_reducible rfl); done)); (try simp only [Act.put, List.setIfInBounds_toArray, List.set_cons_zero, List.set_cons_succ]))
  refine Plan.step rfl rfl fun K2 hK => ?_
  refine wp_copyP _ _ rfl w.heap.size ((i + 1) * 2) Y (flatG cellsS (l.drop i)) _ _ _ _ _ _ rfl rfl hm2.out.whole.drew ?_ (fun _ => rfl) (Srcs.of (HG2.out.drew.srcs (i * 2) _ ?_)) ?_ (cellsS_one' _) ?_
  · rw [HB.out, show Nat.min (cap - i) (i + d - (i + 1)) = cap - i from Nat.min_eq_left (by have := HD.out; omega)]
  · rw [← HA.out]
    exact cells_at (n := cap * 2) HC.out
  · rw [HB.out, HYL.out]; have := hz.out.2.2.2.1; have := HD.out; omega
  intro w3 hm3
  refine hK _ _ trivial ?_
  simp only [Plan]
  clear hK
  go_wp2_with fail
  go_ret
  refine ⟨c, ?_, _, hm3.out.whole, ?_, ?_, hz.out.2.2.2.2.1, ?_, ?_⟩
  · rw [HD.out]; rfl
  · rw [length_splice _ _ _ (by rw [HB.out, HYL.out]; have := hz.out.2.2.2.1; have := HD.out; omega), HYL.out]
  · have := hz.out.2.2.2.1; have := HD.out; omega
  · rw [take_splice_end Y _ ((i + 1) * 2) _ (by rw [HYL.out]; have := hz.out.2.2.2.1; have := HD.out; omega) (by rw [HB.out]; omega), HYT.out, flatG_append, flatG_append]
    simp [flatG]
  · exact grown_new (grown_new hz.out.2.2.2.2.2.1 hm2.out.grown (Nat.le_refl _)) (grown_undrew hm3.out.grown) (Nat.le_refl _)

/-- what is put in: nothing, or one pair in a block of its own -/
def OneAt (w : World) (v : Value) (p : List (K × K)) (vp : Value) : Prop :=
  (p = [] ∧ vp = .slice none 0 0) ∨ ∃ x vb, p = [x] ∧ vp = .slice (some ⟨vb, 0, none⟩) 1 1 ∧ Whole w vb 56 (cellsS x) ∧ some vb ≠ v.ownBlock

theorem Own.slice {α : Type} {enc : α → List Value} {k : Nat} {e : TypeId} {w : World} {base : Nat} {v : Value} {l : List α} (h : Own enc k e w base v l) : ∃ A c, v = .slice A l.length c ∧ l.length ≤ c ∧ c ≤ maxLen := by
  rcases h.row with ⟨rfl, rfl⟩ | ⟨g, cap, cur, rfl, _, _, h1, h2, _⟩
  · exact ⟨none, 0, rfl, Nat.le_refl _, by simp [maxLen]⟩
  · exact ⟨_, _, rfl, h1, h2⟩

set_option maxHeartbeats 4000000 in
set_option maxRecDepth 100000 in
theorem insert_none (A : Option Addr) (n c i : Nat) (hi : i ≤ n) (w : World) :
    Calls Try.prog 62 #[.slice A n c, .int .i64 i, .slice none 0 0] w fun e w' => e = .returned (.slice A n c) ∧ w' = w := by
  have hb3 : (i : Int) ≤ (n : Int) := by omega
  go_enter Try.func62, Try.ntmps62
  go_wp2_with fail
  all_goals (go_ret; exact ⟨rfl, rfl⟩)

set_option maxHeartbeats 4000000 in
set_option maxRecDepth 100000 in
theorem insert_end (l : List (K × K)) (x : K × K) (v : Value) (w : World) (base vb : Nat) (hown : OwnP w base v l) (hbase : base ≤ w.heap.size) (hv : Whole w vb 56 (cellsS x)) (hlen : l.length + 1 ≤ 7036874417000) :
    Calls Try.prog 62 #[v, .int .i64 l.length, .slice (some ⟨vb, 0, none⟩) 1 1] w fun e w' =>
      ∃ A' c', e = .returned (.slice A' (l ++ [x]).length c') ∧ OwnP w' base (.slice A' (l ++ [x]).length c') (l ++ [x]) ∧ w.grownBy w' v.ownBlock := by
  obtain ⟨A, c, rfl, hc, hcm⟩ := hown.slice
  have hrd : RdP w (vb + 1) (.slice (some ⟨vb, 0, none⟩) 1 1) [x] := ⟨_, 1, rfl, Nat.le_refl _, fun i hi => ⟨vb, 0, rfl, Nat.lt_succ_self _, fun j u hu => by
    obtain rfl : i = 0 := by simp at hi; omega
    exact hv.cell _ _ (by simpa using hu)⟩⟩
  have HR := Lib.hid hrd; clear hrd
  have HO := Lib.hid hown; clear hown
  have HV := Lib.hid hv; clear hv
  have hb0 : (0 : Int) ≤ (l.length : Int) := by omega
  go_enter Try.func62, Try.ntmps62
  obtain ⟨i0, hi, hz0, hz1, hz2⟩ := info_pairE
  go_wp2_with (at_builtin; go_must (refine BigFrame.wpList_want rfl fun K2 hK => ?_; refine wp_addAny (enc := cellsS) (k := 2) 22 56 32 i0 _ Try.underlying22 hi hz0 hz1 hz2 rfl (by decide) cellsS_len cellsS_one _ _ rfl base _ l rfl HO.out (vb + 1) _ [x] rfl HR.out (by unfold maxLen; simp; omega) (by simp; omega) hbase ?_))
  all_goals
    intro A' c' w1 h1 h2
    have HO1 := Lib.hid h1; clear h1
    have HG1 := Lib.hid h2; clear h2
    refine hK _ _ ?_
    clear hK
    go_wp2_with fail
    go_ret
    rw [show (l ++ [x]).length = l.length + 1 by simp]
    exact ⟨A', c', rfl, HO1.out, by cases A <;> exact HG1.out⟩

theorem sinsert_any (l : List (K × K)) (i : Nat) (hi : i ≤ l.length) (p : List (K × K)) (v vp : Value) (w : World) (base : Nat) (hown : OwnP w base v l) (hbase : base ≤ w.heap.size) (hp : OneAt w v p vp) (hlen : l.length + 1 ≤ 7036874417000) :
    Calls Try.prog 62 #[v, .int .i64 i, vp] w fun e w' =>
      ∃ A' c', e = .returned (.slice A' (l.take i ++ p ++ l.drop i).length c') ∧ OwnP w' base (.slice A' (l.take i ++ p ++ l.drop i).length c') (l.take i ++ p ++ l.drop i) ∧ w.grownBy w' v.ownBlock := by
  rcases hp with ⟨rfl, rfl⟩ | ⟨x, vb, rfl, rfl, hv, hne⟩
  · obtain ⟨A, c, rfl, hc, hcm⟩ := hown.slice
    refine (insert_none A l.length c i hi w).mono ?_
    rintro e w' ⟨rfl, rfl⟩
    rw [List.append_nil, List.take_append_drop]
    exact ⟨A, c, rfl, hown, ⟨rfl, rfl, rfl, Nat.le_refl _, fun _ _ _ => rfl⟩⟩
  · by_cases he : i = l.length
    · subst he
      rw [List.take_length, List.drop_length, List.append_nil]
      exact insert_end l x v w base vb hown hbase hv hlen
    · have hlt : i < l.length := by omega
      have hL : (l.take i ++ [x] ++ l.drop i).length = l.length + 1 := by simp; omega
      rcases hown.row with ⟨rfl, rfl⟩ | ⟨g, cap, cur, rfl, hbg, hg, h1, h2, h3, h4⟩
      · simp at hlt
      · have hvg : vb ≠ g := fun e => hne (by rw [e]; rfl)
        by_cases hroom : l.length + 1 ≤ cap
        · refine (insert_shift l i x w g cap vb cur hg hv hvg hlt hroom h2 h3 h4).mono ?_
          rintro e w' ⟨rfl, cur', k1, k2, k3, k4⟩
          exact ⟨some ⟨g, 0, none⟩, cap, by rw [hL], Own.ofRow cellsS_len _ hbg k1 (by rw [hL]; exact hroom) h2 k2 (by rw [hL]; exact k3), k4⟩
        · refine (insert_grow l i x w g cap vb cur hg hv hlt (by omega) h1 h3 h4 hlen).mono ?_
          rintro e w' ⟨c, rfl, cur', k1, k2, k3, k4, k5, k6⟩
          exact ⟨some ⟨w.heap.size, 0, none⟩, c, by rw [hL], Own.ofRow cellsS_len _ hbase k1 (by rw [hL]; exact k3) k4 k2 (by rw [hL]; exact k5), ⟨k6.os, k6.tape, k6.output, k6.size, fun k hk _ => k6.block k hk (by simp)⟩⟩
end Go.Proofs.Ytpfhkijnaiopoaa
