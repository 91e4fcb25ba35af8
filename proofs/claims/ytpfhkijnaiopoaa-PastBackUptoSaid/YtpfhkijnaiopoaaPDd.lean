/- The program's Past as a state of the heap; New, Ends, known, none; names, left. -/
import Derived.Test.YtpfhkijnaiopoaaPGh
import Derived.Test.YtpfhkijnaiopoaaApply
import Derived.Test.YtpfhkijnaiopoaaRdG
namespace Go.Proofs.Ytpfhkijnaiopoaa
open Go.RowKit
attribute [local go_sem] less_eq same_eq le_eq ge_eq gt_eq

def encD (d : Dd) : List Value := [.int .i64 d.1, .int .i64 d.2.kind, .string d.2.key, .string d.2.val]
theorem encD_len (d : Dd) : (encD d).length = 4 := rfl
theorem encD_one (d : Dd) : ∀ u ∈ encD d, u.oneCell' = true := by
  intro u hu
  simp [encD] at hu
  rcases hu with rfl | rfl | rfl | rfl <;> rfl
theorem encD_one' (l : List Dd) : ∀ v ∈ flatG encD l, v.oneCell' = true := by
  intro u hu
  obtain ⟨y, _, hy⟩ := List.mem_flatMap.1 hu
  exact encD_one y u hy
abbrev RdD (w : World) (B : Nat) (v : Value) (l : List Dd) : Prop := Rd encD 4 w B v l
abbrev OwnD (w : World) (base : Nat) (v : Value) (l : List Dd) : Prop := Own encD 4 72 w base v l
theorem info_deed : (Try.prog.info? 72).map (fun i => (i.zero, i.size, i.bytes)) = some (some (.agg #[.int .i64 0, .int .i64 0, .string ⟨#[]⟩, .string ⟨#[]⟩]), 4, 48) := by kernel_rfl
theorem RdD.at {w : World} {B : Nat} {v : Value} {l : List Dd} (h : RdD w B v l) : ∃ A c, v = .slice A l.length c ∧ l.length ≤ c ∧ ∀ i (_ : i < l.length), ∃ b o, A = some ⟨b, o, none⟩ ∧ b < B ∧
    w.cell? ⟨b, o + i * 4, none⟩ = some (.int .i64 l[i].1) ∧ w.cell? ⟨b, o + i * 4 + 1, none⟩ = some (.int .i64 l[i].2.kind) ∧ w.cell? ⟨b, o + i * 4 + 2, none⟩ = some (.string l[i].2.key) ∧ w.cell? ⟨b, o + i * 4 + 3, none⟩ = some (.string l[i].2.val) := by
  obtain ⟨A, c, hv, hc, hi⟩ := h
  refine ⟨A, c, hv, hc, fun i hs => ?_⟩
  obtain ⟨b, o, hA, hB, h1⟩ := hi i hs
  exact ⟨b, o, hA, hB, h1 0 _ rfl, h1 1 _ rfl, h1 2 _ rfl, h1 3 _ rfl⟩
theorem Own.mv {α : Type} {enc : α → List Value} {k : Nat} {e : TypeId} {w w' : World} {base : Nat} {v : Value} {l : List α} {D : Nat → Prop} (h : Own enc k e w base v l) (hm : Mv D w w') (hn : ∀ i, v.ownBlock = some i → ¬ D i) : Own enc k e w' base v l := by
  have hlow := fun i (hi : v.ownBlock = some i) => h.low hi
  refine ⟨h.1, ?_⟩
  rcases h.2 with h2 | ⟨g, cap, cur, hv, hg, hh, r⟩
  · exact .inl h2
  · have hob : v.ownBlock = some g := by rw [hv]; rfl
    exact .inr ⟨g, cap, cur, hv, hg, (hm.block g (hlow g hob).2 (hn g hob)).trans hh, r⟩

/-- the Past's cells at block q -/
def PaCells (w : World) (base q : Nat) (G : Nat → Prop) (n : Nat) (p : Pa) : Prop :=
  ∃ bv dv bs ds, Whole w q 65 [.int .i64 p.first, .int .i64 p.last, bv, dv] ∧ OwnP w base bv bs ∧ OwnD w base dv ds ∧ Gh p bs ds n ∧ (∀ i, bv.ownBlock = some i → G i) ∧ (∀ i, dv.ownBlock = some i → G i)
/-- the Past at block q; its blocks are among G; n: how many pairs and changes it has been given -/
structure PaAt (w : World) (base q : Nat) (G : Nat → Prop) (n : Nat) (p : Pa) : Prop where
  blk : PaCells w base q G n p
  me : G q
  low : base ≤ w.heap.size ∧ ∀ i, G i → base ≤ i ∧ i < w.heap.size
section
variable {w w' : World} {base q n : Nat} {G : Nat → Prop} {p : Pa}
theorem PaAt.mv {D : Nat → Prop} (h : PaAt w base q G n p) (hm : Mv D w w') (hn : ∀ i, G i → ¬ D i) : PaAt w' base q G n p := by
  obtain ⟨⟨bv, dv, bs, ds, h1, h2, h3, h4, h5, h6⟩, hq, hl⟩ := h
  exact ⟨⟨bv, dv, bs, ds, hm.whole h1 (hn q hq), h2.mv hm (fun i hi => hn i (h5 i hi)), h3.mv hm (fun i hi => hn i (h6 i hi)), h4, h5, h6⟩, hq, ⟨Nat.le_trans hl.1 hm.size, fun i hi => ⟨(hl.2 i hi).1, Nat.lt_of_lt_of_le (hl.2 i hi).2 hm.size⟩⟩⟩
theorem PaAt.lower {base' : Nat} (h : PaAt w base q G n p) (hb : base' ≤ base) : PaAt w base' q G n p := by
  obtain ⟨⟨bv, dv, bs, ds, h1, h2, h3, h4, h5, h6⟩, hq, hl⟩ := h
  exact ⟨⟨bv, dv, bs, ds, h1, h2.lower hb, h3.lower hb, h4, h5, h6⟩, hq, ⟨Nat.le_trans hb hl.1, fun i hi => ⟨Nat.le_trans hb (hl.2 i hi).1, (hl.2 i hi).2⟩⟩⟩
theorem PaAt.new (h : PaAt w base q G n p) (hb : Below w.heap.size w w') : PaAt w' base q G n p := h.mv (Mv.of_new hb (fun _ => False)) (fun _ _ h => h)
theorem PaAt.first64 (h : PaAt w base q G n p) : I64 p.first := by obtain ⟨_, _, _, _, _, _, _, h4, _⟩ := h.blk; exact h4.i1
theorem PaAt.last64 (h : PaAt w base q G n p) : I64 p.last := by obtain ⟨_, _, _, _, _, _, _, h4, _⟩ := h.blk; exact h4.i2
end
/-- blocks that stood in w and were none of G -/
def Else (w : World) (G : Nat → Prop) : Nat → Prop := fun i => ¬ G i ∧ i < w.heap.size

set_option maxHeartbeats 1000000 in
theorem pnew_any (w : World) :
    Calls Try.prog 26 #[] w fun e w' => ∃ q G, e = .returned (.pointer (some ⟨q, 0, none⟩)) ∧ PaAt w' w.heap.size q G 0 Pa.new ∧ Below w.heap.size w w' := by
  go_enter Try.func26, Try.ntmps26
  go_wp2_with fail
  go_ret
  refine ⟨w.heap.size, fun i => i = w.heap.size, rfl, ⟨⟨.slice none 0 0, .slice none 0 0, [], [], Whole.fresh w _ [_, _, _, _], Own.nil _ _, Own.nil _ _, Gh.new, by simp [Value.ownBlock], by simp [Value.ownBlock]⟩, rfl, ⟨by simp, ?_⟩⟩, (Below.refl _ w).alloc (Nat.le_refl _) _⟩
  rintro i rfl
  simp

set_option maxHeartbeats 1000000 in
theorem pends_any (base q n : Nat) (G : Nat → Prop) (p : Pa) (w : World) (h : PaAt w base q G n p) :
    Calls Try.prog 25 #[.pointer (some ⟨q, 0, none⟩)] w fun e w' => e = .returned (.tuple #[.int .i64 p.first, .int .i64 p.last]) ∧ Below w.heap.size w w' := by
  obtain ⟨bv, dv, bs, ds, hb, _⟩ := h.blk
  have hlt := hb.size
  have c0 := hb.cell 0 _ rfl
  have c1 := hb.cell 1 _ rfl
  clear hb h
  go_enter Try.func25, Try.ntmps25
  go_wp2_with fail
  refine wp_region_planB [(true, 0), (true, 1), (true, 2), (true, 3), (true, 4), (true, 5), (true, 6), (true, 7), (true, 8), (true, 9)] (by kernel_rfl) (by kernel_rfl) (fun _ _ d _ _ h => by cases d <;> exact h) ?_
  repeat (refine PlanB.take (v := ?_) rfl rfl ?_ ?_; rotate_left; (focus (intro W hW; have q0 := (hW.cell (p := ⟨q, 0, none⟩) hlt).trans c0; have q1 := (hW.cell (p := ⟨q, 1, none⟩) hlt).trans c1; go_simp; (try with_reducible rfl); done)); (try simp only [Act.put, List.setIfInBounds_toArray, List.set_cons_zero, List.set_cons_succ]))
  simp only [PlanB]
  go_wp2_with fail
  exact bodyPost_ret (v := .tuple #[.int .i64 p.first, .int .i64 p.last]) (by simp [results, Try.results25, go_sem]) rfl ⟨rfl, (Below.refl _ w).drew⟩

set_option maxHeartbeats 1000000 in
theorem known_any (q : Nat) (p : Pa) (v : Int) (bv dv : Value) (w : World) (hb : Whole w q 65 [.int .i64 p.first, .int .i64 p.last, bv, dv]) :
    Calls Try.prog 33 #[.pointer (some ⟨q, 0, none⟩), .int .i64 v] w fun e w' => e = .returned (.int .i64 (p.known v)) ∧ w' = w := by
  have c0 := hb.cell 0 _ rfl
  have c1 := hb.cell 1 _ rfl
  clear hb
  obtain ⟨R, hR⟩ : ∃ R, R = p.known v := ⟨_, rfl⟩
  rw [← hR]
  unfold Pa.known at hR
  go_enter Try.func33, Try.ntmps33
  by_cases h0 : v < p.first
  · rw [if_pos h0] at hR
    have HR := Lib.hid hR; clear hR
    go_wp2_with fail
    go_ret
    exact ⟨by rw [HR.out]; rfl, rfl⟩
  · rw [if_neg h0] at hR
    by_cases h1 : p.last < v
    · rw [if_pos h1] at hR
      have HR := Lib.hid hR; clear hR
      go_wp2_with fail
      go_ret
      exact ⟨by rw [HR.out]; rfl, rfl⟩
    · rw [if_neg h1] at hR
      have HR := Lib.hid hR; clear hR
      go_wp2_with fail
      go_ret
      exact ⟨by rw [HR.out]; rfl, rfl⟩
set_option maxHeartbeats 1000000 in
theorem known_none (v : Int) (w : World) : Calls Try.prog 33 #[.pointer none, .int .i64 v] w fun e w' => e = .returned (.int .i64 1) ∧ w' = w := by
  go_enter Try.func33, Try.ntmps33
  go_wp2_with fail
  go_ret
  exact ⟨rfl, rfl⟩

set_option maxHeartbeats 1000000 in
theorem pnone_add (v : Int) (vc : Value) (w : World) : Calls Try.prog 14 #[.pointer none, .int .i64 v, vc] w fun e w' => e = .returned (.int .i64 1) ∧ Below w.heap.size w w' := by
  go_enter Try.func14, Try.ntmps14
  go_wp2_with fail
  go_ret
  exact ⟨rfl, Below.refl _ _⟩
set_option maxHeartbeats 1000000 in
theorem pnone_get (k : K) (v : Int) (w : World) : Calls Try.prog 16 #[.pointer none, .string k, .int .i64 v] w fun e w' => e = .returned (.tuple #[.string ⟨#[]⟩, .bool false, .int .i64 1]) ∧ Below w.heap.size w w' := by
  go_enter Try.func16, Try.ntmps16
  go_wp2_with (go_at_call 33; refine (known_none _ _).mono ?_; rintro e w1 ⟨rfl, rfl⟩)
  refine bodyPost_ret (v := .tuple #[.string ⟨#[]⟩, .bool false, .int .i64 1]) (by simp [results, Try.results16, go_sem]) rfl ⟨rfl, ?_⟩
  ((repeat' (first | exact Below.refl _ _ | refine Below.alloc ?_ ?_ _ | refine Below.setCell ?_ ?_ _ | refine Below.drew ?_)); all_goals ((try simp only [World.size_alloc]); omega))
set_option maxHeartbeats 1000000 in
theorem pnone_list (s : K × K) (v most : Int) (w : World) : Calls Try.prog 18 #[.pointer none, spv s, .int .i64 v, .int .i64 most] w fun e w' => ∃ A c, e = .returned (.tuple #[.slice A 0 c, .int .i64 1]) ∧ Below w.heap.size w w' := by
  unfold spv
  go_enter Try.func18, Try.ntmps18
  go_wp2_with (go_at_call 33; refine (known_none _ _).mono ?_; rintro e w1 ⟨rfl, rfl⟩)
  refine bodyPost_ret (v := .tuple #[.slice none 0 0, .int .i64 1]) (by simp [results, Try.results18, go_sem]) rfl ⟨none, 0, rfl, ?_⟩
  ((repeat' (first | exact Below.refl _ _ | refine Below.alloc ?_ ?_ _ | refine Below.setCell ?_ ?_ _ | refine Below.drew ?_)); all_goals ((try simp only [World.size_alloc]); omega))
set_option maxHeartbeats 1000000 in
theorem pnone_forget (v : Int) (w : World) : Calls Try.prog 21 #[.pointer none, .int .i64 v] w fun e w' => e = .returned (.int .i64 1) ∧ Below w.heap.size w w' := by
  go_enter Try.func21, Try.ntmps21
  go_wp2_with fail
  go_ret
  exact ⟨rfl, Below.refl _ _⟩
set_option maxHeartbeats 1000000 in
theorem pnone_back (v : Int) (w : World) : Calls Try.prog 23 #[.pointer none, .int .i64 v] w fun e w' => e = .returned (.int .i64 1) ∧ Below w.heap.size w w' := by
  go_enter Try.func23, Try.ntmps23
  go_wp2_with (go_at_call 33; refine (known_none _ _).mono ?_; rintro e w1 ⟨rfl, rfl⟩)
  go_ret
  exact ⟨rfl, Below.refl _ _⟩
set_option maxHeartbeats 1000000 in
theorem pnone_ends (w : World) : Calls Try.prog 25 #[.pointer none] w fun e w' => e = .returned (.tuple #[.int .i64 0, .int .i64 0]) ∧ Below w.heap.size w w' := by
  go_enter Try.func25, Try.ntmps25
  go_wp2_with fail
  exact bodyPost_ret (v := .tuple #[.int .i64 0, .int .i64 0]) (by simp [results, Try.results25, go_sem]) rfl ⟨rfl, Below.refl _ _⟩

set_option maxHeartbeats 2000000 in
theorem names_any (c : Chg) (k : K) (w : World) : Calls Try.prog 36 #[cval c, .string k] w fun e w' => e = .returned (.bool (namesB c k)) ∧ Below w.heap.size w w' := by
  obtain ⟨kd, x, y⟩ := c
  obtain ⟨R, hR⟩ : ∃ R, R = namesB ⟨kd, x, y⟩ k := ⟨_, rfl⟩
  rw [← hR]
  unfold namesB at hR
  unfold cval
  simp only at hR ⊢
  go_enter Try.func36, Try.ntmps36
  by_cases h3 : kd = 3
  · subst h3
    rw [if_pos rfl] at hR
    have hh := fun W => phas_any (x, y) k W
    rw [← hR] at hh
    have HH := Lib.hid hh; clear hh hR
    go_wp2_with fail
    refine (HH.out _).mono ?_
    rintro e w2 ⟨rfl, hb2⟩
    have HB2 := Lib.hid (((Below.refl _ w).alloc (Nat.le_refl _) (.cells #[.int .i64 3, .string x, .string y] 67)).trans (hb2.mono (by simp)))
    clear hb2
    go_wp2_with fail
    go_ret
    exact ⟨rfl, HB2.out⟩
  · rw [if_neg h3] at hR
    have HR := Lib.hid hR; clear hR
    go_wp2_with fail
    go_ret
    exact ⟨by rw [HR.out]; rfl, (Below.refl _ w).alloc (Nat.le_refl _) _⟩
set_option maxHeartbeats 2000000 in
theorem left_any (c : Chg) (w : World) : Calls Try.prog 37 #[cval c] w fun e w' => e = .returned (.tuple #[.string (leftV c).1, .bool (leftV c).2]) ∧ Below w.heap.size w w' := by
  obtain ⟨kd, x, y⟩ := c
  obtain ⟨R, hR⟩ : ∃ R, R = leftV ⟨kd, x, y⟩ := ⟨_, rfl⟩
  rw [← hR]
  unfold leftV at hR
  unfold cval
  simp only at hR ⊢
  go_enter Try.func37, Try.ntmps37
  by_cases h1 : kd = 1
  · subst h1
    rw [if_pos rfl] at hR
    subst hR
    go_wp2_with fail
    exact bodyPost_ret (v := .tuple #[.string y, .bool true]) (by simp [results, Try.results37, go_sem]) rfl ⟨rfl, (Below.refl _ w).alloc (Nat.le_refl _) _⟩
  · rw [if_neg h1] at hR
    subst hR
    go_wp2_with fail
    exact bodyPost_ret (v := .tuple #[.string ⟨#[]⟩, .bool false]) (by simp [results, Try.results37, go_sem]) rfl ⟨rfl, (Below.refl _ w).alloc (Nat.le_refl _) _⟩
end Go.Proofs.Ytpfhkijnaiopoaa
