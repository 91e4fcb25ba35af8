/- The reference's Past as a state of the heap; From, known, At. -/
import Derived.Test.YtpfhkijnaiopoaaPa
import Derived.Test.YtpfhkijnaiopoaaRdG
namespace Go.Proofs.Ytpfhkijnaiopoaa
open Go.RowKit

/-- one layer: its version, its pairs and where they are -/
structure PRow where
  ver : Int
  a : Option Addr
  c : Nat
  ps : Prs
def PRow.v (x : PRow) : Value := .slice x.a x.ps.length x.c
def encPR (x : PRow) : List Value := [.int .i64 x.ver, x.v]
theorem encPR_len (x : PRow) : (encPR x).length = 2 := rfl
theorem encPR_one (x : PRow) : ∀ u ∈ encPR x, u.oneCell' = true := by
  intro u hu
  simp only [encPR, List.mem_cons, List.not_mem_nil, or_false] at hu
  rcases hu with rfl | rfl <;> rfl
set_option maxRecDepth 100000 in
theorem info_layer : (Try.prog.info? 69).map (fun i => (i.zero, i.size, i.bytes)) = some (some (.agg #[.int .i64 0, .slice none 0 0]), 2, 32) := by kernel_rfl
abbrev OwnPR (w : World) (base : Nat) (v : Value) (l : List PRow) : Prop := Own encPR 2 69 w base v l
abbrev RdPG (w : World) (B : Nat) (G : Nat → Prop) (v : Value) (l : Prs) : Prop := RdG cellsS 2 w B G v l
def PRow.kv (x : PRow) : Int × Prs := (x.ver, x.ps)

/-- the reference's Past at block r, its layers in row ov; their pairs lie in none of these, and in none of E -/
structure RpAt (w : World) (base r : Nat) (ov : Option Nat) (E : Nat → Prop) (p : Pa) : Prop where
  blk : ∃ A cap rs, Whole w r 49 [.slice A (rs : List PRow).length cap, .int .i64 p.first, .int .i64 p.last] ∧ OwnPR w base (.slice A rs.length cap) rs ∧ Value.ownBlock (.slice A rs.length cap) = ov ∧ rs.map PRow.kv = p.l ∧
    ∀ x ∈ rs, RdPG w w.heap.size (fun i => E i ∨ i = r ∨ some i = ov) x.v x.ps
  low : base ≤ r ∧ base ≤ w.heap.size
def RpD (r : Nat) (ov : Option Nat) : Nat → Prop := fun i => i = r ∨ some i = ov
section
variable {w w' : World} {base r : Nat} {ov : Option Nat} {E E' D : Nat → Prop} {p : Pa}
theorem RpAt.size (h : RpAt w base r ov E p) : r < w.heap.size := by
  obtain ⟨A, cap, rs, hb, _⟩ := h.blk
  exact hb.size
theorem RpAt.row (h : RpAt w base r ov E p) {g : Nat} (hg : ov = some g) : base ≤ g ∧ g < w.heap.size := by
  obtain ⟨A, cap, rs, hb, ho, hv, _⟩ := h.blk
  exact ho.low (hv.trans hg)
theorem Own.mvG {α : Type} {enc : α → List Value} {k : Nat} {e : TypeId} {D : Nat → Prop} {v : Value} {l : List α} (h : Own enc k e w base v l) (hm : Mv D w w') (hn : ∀ g, v.ownBlock = some g → ¬ D g) : Own enc k e w' base v l := by
  refine ⟨h.1, ?_⟩
  rcases h.2 with h2 | ⟨g, cap, cur, rfl, hb, hh, r⟩
  · exact .inl h2
  · exact .inr ⟨g, cap, cur, rfl, hb, (hm.block g (Array.getElem?_eq_some_iff.1 hh).1 (hn g rfl)).trans hh, r⟩
/-- what moves is none of its blocks, and none of those in which pairs may lie -/
theorem RpAt.mv (h : RpAt w base r ov E p) (hm : Mv D w w') (h1 : ¬ D r) (h2 : ∀ g, ov = some g → ¬ D g) (h3 : ∀ i, i < w.heap.size → D i → E i) : RpAt w' base r ov E p := by
  obtain ⟨A, cap, rs, hb, ho, hv, hl, hp⟩ := h.blk
  exact ⟨⟨A, cap, rs, hm.whole hb h1, ho.mvG hm (fun g hg => h2 g (hv ▸ hg)), hv, hl, fun x hx => ((hp x hx).mv hm (Nat.le_refl _) fun b hb hd => .inl (h3 b hb hd)).mono hm.size fun _ _ h => h⟩, ⟨h.low.1, Nat.le_trans h.low.2 hm.size⟩⟩
theorem RpAt.new (h : RpAt w base r ov E p) (hb : Below w.heap.size w w') : RpAt w' base r ov E p :=
  h.mv (D := fun i => w.heap.size ≤ i) (Mv.of_below hb) (fun e => by have := h.size; omega) (fun g hg e => by have := (h.row hg).2; omega) (fun i hi e => by omega)
/-- blocks that are new are none of those in which pairs lie -/
theorem RpAt.more (h : RpAt w base r ov E p) (hE : ∀ i, E' i → E i ∨ w.heap.size ≤ i) : RpAt w base r ov E' p := by
  obtain ⟨A, cap, rs, hb, ho, hv, hl, hp⟩ := h.blk
  refine ⟨⟨A, cap, rs, hb, ho, hv, hl, fun x hx => (hp x hx).mono (Nat.le_refl _) fun b hb hg => ?_⟩, h.low⟩
  rcases hg with hg | hg
  · rcases hE b hg with k | k
    · exact .inl k
    · omega
  · exact .inr hg
end
structure RpWent (w w' : World) (base r : Nat) (ov : Option Nat) (E : Nat → Prop) (p : Pa) (ov' : Option Nat) : Prop where
  now : RpAt w' base r ov' E p
  moved : Mv (RpD r ov) w w'
  new : ∀ g, ov' = some g → ov = some g ∨ w.heap.size ≤ g
theorem RpWent.below {w w' : World} {base r : Nat} {ov ov' : Option Nat} {E : Nat → Prop} {p p0 : Pa} (h : RpWent w w' base r ov E p ov') (h0 : RpAt w base r ov E p0) : Below base w w' :=
  h.moved.below h0.low.2 (by
    rintro i (rfl | hi)
    · exact h0.low.1
    · exact (h0.row hi.symm).1)
theorem RpWent.of {w w' : World} {base r : Nat} {ov : Option Nat} {E : Nat → Prop} {p : Pa} (h : RpAt w base r ov E p) (hb : Below w.heap.size w w') : RpWent w w' base r ov E p ov :=
  ⟨h.new hb, Mv.of_new hb _, fun _ h => .inl h⟩

/-- cells of the i-th layer -/
theorem RpAt.layer {w : World} {base r : Nat} {ov : Option Nat} {E : Nat → Prop} {p : Pa} (h : RpAt w base r ov E p) : ∃ A cap rs, Whole w r 49 [.slice A (rs : List PRow).length cap, .int .i64 p.first, .int .i64 p.last] ∧ rs.map PRow.kv = p.l ∧ rs.length ≤ 9223372036854775807 ∧ rs.length ≤ cap ∧
    (∀ x ∈ rs, RdPG w w.heap.size (fun i => E i ∨ i = r ∨ some i = ov) x.v x.ps) ∧
    ∀ i (_ : i < rs.length), ∃ g, A = some ⟨g, 0, none⟩ ∧ g < w.heap.size ∧ w.cell? ⟨g, i * 2, none⟩ = some (.int .i64 rs[i].ver) ∧ w.cell? ⟨g, i * 2 + 1, none⟩ = some rs[i].v := by
  obtain ⟨A, cap, rs, hb, ho, hv, hl, hp⟩ := h.blk
  obtain ⟨A2, c2, e, hc, hi⟩ := Own.rd encPR_len ho
  injection e with e1 e2 e3
  subst e1 e3
  have hmx : rs.length ≤ 9223372036854775807 := by
    rcases ho.row with ⟨_, e⟩ | ⟨g, cap2, cur, e, _, _, h1, h2, _⟩
    · rw [e]; simp
    · unfold maxLen at h2; omega
  refine ⟨A, cap, rs, hb, hl, hmx, hc, hp, fun i hi2 => ?_⟩
  obtain ⟨g, o, hA, hg, h1⟩ := hi i hi2
  have ho0 : o = 0 := by
    rcases ho.form with ⟨e, e0⟩ | ⟨g2, cap, e, _⟩
    · rw [e0] at hi2; simp at hi2
    · rw [hA] at e
      injection e with e _ _
      injection e with e
      injection e
  subst ho0
  simp only [Nat.zero_add] at h1
  exact ⟨g, hA, hg, h1 0 _ rfl, h1 1 _ rfl⟩

set_option maxHeartbeats 4000000 in
set_option maxRecDepth 100000 in
theorem rfrom_any (v : Int) (ps : Prs) (A : Option Addr) (c : Nat) (E : Nat → Prop) (w : World) (hr : RdPG w w.heap.size E (.slice A ps.length c) ps) :
    Calls Try.prog 13 #[.int .i64 v, .slice A ps.length c] w fun e w' => ∃ r ov, e = .returned (.pointer (some ⟨r, 0, none⟩)) ∧ RpAt w' w.heap.size r ov E (Pa.from_ v ps) ∧ Below w.heap.size w w' := by
  go_enter Try.func13, Try.ntmps13
  go_wp2_with fail
  go_ret
  have hb1 : Below w.heap.size w (w.alloc (.cells #[.int .i64 v, .slice A (List.length ps) c] 69)) := (Below.refl _ w).alloc (Nat.le_refl _) _
  have hW1 : Whole (w.alloc (.cells #[.int .i64 v, .slice A (List.length ps) c] 69)) w.heap.size 69 (encPR ⟨v, A, c, ps⟩) := Whole.fresh w _ [_, _]
  have hz1 : (w.alloc (.cells #[.int .i64 v, .slice A (List.length ps) c] 69)).heap.size = w.heap.size + 1 := by simp
  generalize (w.alloc (.cells #[.int .i64 v, .slice A (List.length ps) c] 69)) = w1 at hb1 hW1 hz1 ⊢
  have hb2 : Below w.heap.size w (w1.alloc (.cells #[.slice (some ⟨w.heap.size, 0, none⟩) 1 1, .int .i64 v, .int .i64 v] 49)) := hb1.alloc hb1.size _
  have hW2 : Whole (w1.alloc (.cells #[.slice (some ⟨w.heap.size, 0, none⟩) 1 1, .int .i64 v, .int .i64 v] 49)) (w.heap.size + 1) 49 [.slice (some ⟨w.heap.size, 0, none⟩) 1 1, .int .i64 v, .int .i64 v] := by
    have := Whole.fresh w1 49 [.slice (some ⟨w.heap.size, 0, none⟩) 1 1, .int .i64 v, .int .i64 v]
    rwa [hz1] at this
  have hW3 := hW1.alloc (.cells #[.slice (some ⟨w.heap.size, 0, none⟩) 1 1, .int .i64 v, .int .i64 v] 49)
  generalize (w1.alloc (.cells #[.slice (some ⟨w.heap.size, 0, none⟩) 1 1, .int .i64 v, .int .i64 v] 49)) = w2 at hb2 hW2 hW3 ⊢
  refine ⟨w.heap.size + 1, some w.heap.size, rfl, ⟨⟨some ⟨w.heap.size, 0, none⟩, 1, [⟨v, A, c, ps⟩], hW2, ?_, rfl, rfl, fun x hx => ?_⟩, ⟨Nat.le_succ _, hb2.size⟩⟩, hb2⟩
  · exact Own.ofRow encPR_len [⟨v, A, c, ps⟩] (Nat.le_refl _) hW3 (Nat.le_refl _) (by unfold maxLen; decide) rfl rfl
  · rw [List.mem_singleton.1 hx]
    exact (hr.mv (Mv.of_new hb2 (fun _ => False)) (Nat.le_refl _) fun _ _ h => h.elim).mono hb2.size fun b hb hg => by
      rcases hg with hg | hg | hg
      · exact hg
      · omega
      · injection hg with hg; omega
set_option maxHeartbeats 4000000 in
set_option maxRecDepth 100000 in
theorem rknown_any (base r : Nat) (ov : Option Nat) (E : Nat → Prop) (p : Pa) (v : Int) (w : World) (h : RpAt w base r ov E p) :
    Calls Try.prog 39 #[.pointer (some ⟨r, 0, none⟩), .int .i64 v] w fun e w' => e = .returned (.int .i64 (p.known v)) ∧ w' = w := by
  obtain ⟨R, hR⟩ : ∃ R, R = p.known v := ⟨_, rfl⟩
  rw [← hR]
  unfold Pa.known at hR
  obtain ⟨A, cap, rs, hb, _⟩ := h.blk
  have c1 := hb.cell 1 _ rfl
  have c2 := hb.cell 2 _ rfl
  clear hb h
  by_cases h1 : v < p.first
  · rw [if_pos h1] at hR
    subst hR
    go_enter Try.func39, Try.ntmps39
    go_wp2_with fail
    go_ret
    exact ⟨rfl, rfl⟩
  rw [if_neg h1] at hR
  by_cases h2 : p.last < v
  · rw [if_pos h2] at hR
    subst hR
    go_enter Try.func39, Try.ntmps39
    go_wp2_with fail
    go_ret
    exact ⟨rfl, rfl⟩
  rw [if_neg h2] at hR
  subst hR
  go_enter Try.func39, Try.ntmps39
  go_wp2_with fail
  go_ret
  exact ⟨rfl, rfl⟩

set_option maxHeartbeats 4000000 in
set_option maxRecDepth 100000 in
theorem rat_any (base r : Nat) (ov : Option Nat) (E : Nat → Prop) (p : Pa) (v : Int) (w : World) (h : RpAt w base r ov E p) :
    Calls Try.prog 31 #[.pointer (some ⟨r, 0, none⟩), .int .i64 v] w fun e w' => ∃ A c, e = .returned (.slice A (p.at_ v).length c) ∧ RdPG w' w'.heap.size (fun i => E i ∨ i = r ∨ some i = ov) (.slice A (p.at_ v).length c) (p.at_ v) ∧ Below w.heap.size w w' := by
  obtain ⟨A, cap, rs, hb, hl, hmx, hc, hp, hcell⟩ := h.layer
  have hlen : p.l.length = rs.length := by rw [← hl, List.length_map]
  have c0 := hb.cell 0 _ rfl
  have HB := Lib.hid hb
  have HP := Lib.hid hp
  have HL := Lib.hid hl
  have HCELL := Lib.hid hcell
  have hr := hb.size
  have hw0 : Below w.heap.size w (w.alloc (.cells #[] 56)) := (Below.refl _ w).alloc (Nat.le_refl _) _
  have HW0 := Lib.hid hw0
  clear hb hp hcell hw0 h hl
  go_enter Try.func31, Try.ntmps31
  go_wp2_with fail
  generalize w.alloc (.cells #[] 56) = w0 at HW0 ⊢
  go_loopw [5, 6] (fun ov' iv wr => ∃ (i : Nat) (A' : Option Addr) (c' : Nat), i ≤ rs.length ∧ iv = .int .i64 (i : Int) ∧ ov' = .slice A' (atL (p.l.take i) v).length c' ∧ wr = w0 ∧ RdPG w0 w0.heap.size (fun i => E i ∨ i = r ∨ some i = ov) (.slice A' (atL (p.l.take i) v).length c') (atL (p.l.take i) v)) (fun _ iv _ => rs.length - (intOf iv).toNat)
  case atStart => exact ⟨0, _, _, Nat.zero_le _, rfl, rfl, rfl, RdG.none_ _ _ _ _ _⟩
  case round =>
    obtain ⟨i, A', c', hi, rfl, rfl, hwr, hrd⟩ := hrel
    subst hwr
    have HRD := Lib.hid hrd
    have c0 := (HB.out.below HW0.out hr).cell 0 _ rfl
    have h0 : (0 : Int) ≤ (i : Int) := by omega
    clear hrd
    by_cases hil : i < rs.length
    · have h1 : (i : Int) < (rs.length : Int) := by omega
      have h2 : IntKind.i64.wrap ((i : Int) + 1) = ((i + 1 : Nat) : Int) := by
        rw [IntKind.wrap_i64]
        omega
      obtain ⟨g, rfl, hg, y0, y1⟩ := HCELL.out i hil
      have ht := atL_take p.l v i (by omega)
      have hli : p.l[i]'(by omega) = (rs[i].ver, rs[i].ps) := by
        have : p.l[i]'(by omega) = PRow.kv rs[i] := by simp only [← HL.out, List.getElem_map]
        exact this
      rw [hli] at ht
      have hps := HP.out rs[i] (List.getElem_mem hil)
      generalize rs[i] = x at y0 y1 ht hps
      obtain ⟨xv, xa, xc, xp⟩ := x
      simp only [PRow.v] at y0 y1 ht hps
      have q0 := (HW0.out.cell (p := ⟨g, i * 2, none⟩) hg).trans y0
      have q1 := (HW0.out.cell (p := ⟨g, i * 2 + 1, none⟩) hg).trans y1
      have HT := Lib.hid ht
      have HPS := Lib.hid ((hps.mv (Mv.of_new HW0.out (fun _ => False)) (Nat.le_refl _) fun _ _ h => h.elim).mono HW0.out.size fun _ _ h => h)
      clear y0 y1 ht hps hli
      by_cases hx : xv ≤ v
      · have ht := HT.out
        rw [if_pos hx] at ht
        have HT2 := Lib.hid ht
        clear ht
        go_wp2_with fail
        go_roundw
        case rel => exact ⟨i + 1, xa, xc, by omega, by go_num, by rw [HT2.out], by first | trivial | rfl, by rw [HT2.out]; exact HPS.out⟩
        case measure => simp [intOf]; omega
      · have ht := HT.out
        rw [if_neg hx] at ht
        have HT2 := Lib.hid ht
        clear ht
        go_wp2_with fail
        go_roundw
        case rel => exact ⟨i + 1, A', c', by omega, by go_num, by rw [HT2.out], by first | trivial | rfl, by rw [HT2.out]; exact HRD.out⟩
        case measure => simp [intOf]; omega
    · obtain rfl : i = rs.length := by omega
      have hrd := HRD.out
      have ht : p.l.take rs.length = p.l := by rw [← hlen, List.take_length]
      rw [ht] at hrd ⊢
      clear ht
      have h1 : ¬ ((rs.length : Int) < (rs.length : Int)) := by omega
      have HR2 := Lib.hid hrd
      clear hrd HRD
      go_wp2_with fail
      go_ret
      exact ⟨A', c', rfl, HR2.out, HW0.out⟩
end Go.Proofs.Ytpfhkijnaiopoaa
