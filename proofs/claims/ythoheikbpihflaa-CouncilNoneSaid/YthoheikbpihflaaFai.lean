/- The program's records: the same ones in memory of their own. The program's book at its blocks, over its tape; what its Records answer. What the reference's Seal and Open answer. What the reference's Lay and Same answer, and the law's own fits. The program's records as they stand on a tape. What the program's lay leaves: the deferred note, the two ways of writing. What the program's lay leaves, with either way of writing. An append to a slice of the call's own that says of its block: the old one or a new one. What the program's Add and Reset leave. -/
import Derived.Test.YthoheikbpihflaaFah
import Derived.Test.YthoheikbpihflaaFaa
import Derived.Test.YthoheikbpihflaaFaf
import Derived.Test.YthoheikbpihflaaFag
import Derived.Test.YthoheikbpihflaaFab
import Derived.Test.YthoheikbpihflaaFac
import Derived.Test.YthoheikbpihflaaFad
import Derived.Lib.SlBytesConst
import Derived.Lib.SmallJoins
import Derived.Defers
namespace Go.Proofs.Ythoheikbpihflaa
open Go.RowKit

section
variable {w w' : World} {base base2 : Nat} {v v2 : Value} {l : List UInt8} {rows : List Row}
set_option maxRecDepth 100000 in
/-- bytes and rows of bytes do not lie in one block -/
theorem HoldB.ne_rows (h : HoldB w base v l) (h2 : OwnR w base2 v2 rows) : ∀ g, v.ownBlock = some g → v2.ownBlock ≠ some g := by
  intro g' hg' hg2
  rcases h with ⟨rfl, _⟩ | ⟨g, cap, cur, rfl, hb, hh, r⟩
  · simp [Value.ownBlock] at hg'
  · rcases h2.2 with ⟨rfl, _⟩ | ⟨g2, cap2, cur2, rfl, _, hh2, _⟩
    · simp [Value.ownBlock] at hg2
    · simp only [Value.ownBlock, Option.some.injEq] at hg' hg2
      subst hg' hg2
      rw [hh] at hh2
      injection hh2 with hh2
      injection hh2 with _ ht
      revert ht
      decide
set_option maxRecDepth 100000 in
theorem HoldB.lower (h : HoldB w base v l) (hb : base2 ≤ base) : HoldB w base2 v l := by
  rcases h with h | ⟨g, cap, cur, hv, hg, r⟩
  · exact .inl h
  · exact .inr ⟨g, cap, cur, hv, Nat.le_trans hb hg, r⟩
theorem HoldB.below {B : Nat} (h : HoldB w base v l) (hb : Below B w w') (hB : w.heap.size ≤ B) : HoldB w' base v l :=
  h.mv (D := fun i => B ≤ i) (Mv.of_below hb) (fun g hg hd => by have := (h.low hg).2; omega)
/-- rows that are held, each in its own block or none -/
def HoldRs (w : World) (base : Nat) (rows : List Row) : Prop := ∀ r ∈ rows, HoldB w base r.v r.l
theorem HoldRs.mv {D : Nat → Prop} (h : HoldRs w base rows) (hm : Mv D w w') (hn : ∀ r ∈ rows, ∀ g, r.v.ownBlock = some g → ¬ D g) : HoldRs w' base rows := fun r hr => (h r hr).mv hm (hn r hr)
theorem HoldRs.lower (h : HoldRs w base rows) (hb : base2 ≤ base) : HoldRs w base2 rows := fun r hr => (h r hr).lower hb
theorem HoldRs.below {B : Nat} (h : HoldRs w base rows) (hb : Below B w w') (hB : w.heap.size ≤ B) : HoldRs w' base rows := fun r hr => (h r hr).below hb hB
/-- what grows a slice of rows leaves the bytes -/
theorem HoldRs.grown {rows2 : List Row} (h : HoldRs w base rows) (ho : OwnR w base2 v2 rows2) (hg : w.grownBy w' v2.ownBlock) : HoldRs w' base rows :=
  h.mv (Mv.of_grown hg) (fun r hr g hg2 hd => (h r hr).ne_rows ho g hg2 hd.symm)
theorem HoldRs.nil (w : World) (base : Nat) : HoldRs w base [] := fun r hr => by simp at hr
theorem HoldRs.append {rows2 : List Row} (h : HoldRs w base rows) (h2 : HoldRs w base rows2) : HoldRs w base (rows ++ rows2) := fun r hr => by
  rcases List.mem_append.1 hr with hr | hr
  · exact h r hr
  · exact h2 r hr
theorem HoldB.rdBG {G : Nat → Prop} (h : HoldB w base v l) (hG : ∀ g, v.ownBlock = some g → ¬ G g) : RdBG w w.heap.size G v l := by
  obtain ⟨A, c, hv, hc, hi⟩ := h.rdB.at
  refine ⟨A, c, hv, hc, fun i hs => ?_⟩
  obtain ⟨b, o, hA, hb, h1⟩ := hi i hs
  exact ⟨b, o, hA, hb, hG b (by rw [hv, hA]; rfl), h1⟩
/-- rows of the call's own, read -/
theorem OwnR.held {G : Nat → Prop} (h : OwnR w base v rows) (hr : HoldRs w base2 rows) (h1 : ∀ g, v.ownBlock = some g → ¬ G g) (h2 : ∀ r ∈ rows, ∀ g, r.v.ownBlock = some g → ¬ G g) : RdRs w w.heap.size G v rows := by
  refine ⟨?_, fun r hx => (hr r hx).rdBG (h2 r hx)⟩
  obtain ⟨A, c, hv, hc, hi⟩ := Own.rd encR_len h
  refine ⟨A, c, hv, hc, fun i hs => ?_⟩
  obtain ⟨b, o, hA, hb, h3⟩ := hi i hs
  exact ⟨b, o, hA, hb, h1 b (by rw [hv, hA]; rfl), by have := h3 0 _ rfl; simpa using this⟩
theorem texts_append (a b : List Row) : texts (a ++ b) = texts a ++ texts b := by simp [texts]
end

set_option maxRecDepth 100000 in
/-- a literal of one row -/
theorem RdR.one (w : World) (r : Row) : Rd encR 1 (w.alloc (.cells #[r.v] 56)) (w.heap.size + 1) (.slice (some ⟨w.heap.size, 0, none⟩) 1 1) [r] := by
  refine ⟨_, 1, rfl, Nat.le_refl _, fun i hi => ⟨w.heap.size, 0, rfl, Nat.lt_succ_self _, fun j u hu => ?_⟩⟩
  obtain rfl : i = 0 := by simp at hi; omega
  match j, hu with
  | 0, hu =>
    simp only [encR, List.getElem_cons_zero, List.getElem?_cons_zero, Option.some.injEq] at hu
    subst hu
    exact World.cell?_alloc_at _ _ _ _ rfl
  | j + 1, hu => simp [encR] at hu

set_option maxHeartbeats 4000000 in
set_option maxRecDepth 100000 in
theorem bfresh_any (rows : List Row) (G : Nat → Prop) (v : Value) (w : World) (hv : RdRs w w.heap.size G v rows) (hl : rows.length ≤ 4000000) (hr : ∀ r ∈ rows, r.l.length ≤ 140737488351232) :
    Calls Try.prog 36 #[v] w fun e w' => ∃ A c n, e = .returned (.slice A n c) ∧ ∃ rows', n = rows'.length ∧ OwnR w' w.heap.size (.slice A n c) rows' ∧ HoldRs w' w.heap.size rows' ∧ texts rows' = texts rows ∧ Below w.heap.size w w' := by
  obtain ⟨A, c, rfl, hc, -⟩ := hv.1
  have HV := Lib.hid hv; clear hv
  have HR := Lib.hid hr; clear hr
  have hLl : (texts rows).length = rows.length := by simp [texts]
  have HLL := Lib.hid hLl; clear hLl
  go_enter Try.func36, Try.ntmps36
  go_wp2_with fail
  go_loopw [3, 8] (fun ov iv wr => ∃ (i : Nat) (A' : Option Addr) (c' n : Nat) (rows' : List Row), i ≤ rows.length ∧ iv = .int .i64 (i : Int) ∧ ov = .slice A' n c' ∧ n = rows'.length ∧ OwnR wr w.heap.size (.slice A' n c') rows' ∧ HoldRs wr w.heap.size rows' ∧ texts rows' = (texts rows).take i ∧ Below w.heap.size w wr) (fun _ iv _ => rows.length - (intOf iv).toNat)
  case atStart => exact ⟨0, _, _, 0, [], Nat.zero_le _, rfl, rfl, rfl, Own.nil _ _, HoldRs.nil _ _, rfl, Below.refl _ _⟩
  case round =>
    obtain ⟨i, A', c', n, rows', hi, rfl, rfl, hn, ho, hh, ht, hb⟩ := hrel
    have hbs := hb.size
    have hni : n = i := by
      have := congrArg List.length ht
      rw [List.length_take, HLL.out] at this
      rw [hn]; simp [texts] at this; omega
    by_cases hgo : i < rows.length
    · have h1 : (i : Int) < (rows.length : Int) := by omega
      have hrs := HV.out.mv (Mv.of_below hb) (Nat.le_refl _) (fun b h1 h2 => by omega)
      obtain ⟨⟨A0, c0, e0, -, hcell⟩, hrow⟩ := hrs
      injection e0 with e1 e2 e3
      subst e1 e3
      obtain ⟨b, o, rfl, hbl, -, q0⟩ := hcell i hgo
      have hrd := (hrow rows[i] (List.getElem_mem hgo)).rdB
      have hbig : rows[i].l.length ≤ 140737488351232 := HR.out _ (List.getElem_mem hgo)
      have hnext : (texts rows).take (i + 1) = (texts rows).take i ++ [rows[i].l] := by
        rw [List.take_add_one, List.getElem?_eq_getElem (by rw [HLL.out]; exact hgo)]
        simp [texts]
      have HNX := Lib.hid hnext
      clear hnext hcell hrow e2
      generalize rows[i] = r at q0 hrd hbig HNX
      obtain ⟨ra, rc, rl⟩ := r
      simp only [Row.v] at q0 hrd hbig HNX
      have HO := Lib.hid ho
      have HH := Lib.hid hh
      have HT := Lib.hid ht
      have HB := Lib.hid hb
      have HN := Lib.hid hn
      have HRD := Lib.hid hrd
      have HNI := Lib.hid hni
      clear ho hh ht hb hn hrd hni
      go_wp2_with (at_builtin; go_must (refine wpList_addBG rfl _ _ rfl wr.heap.size _ [] rfl (Own.nil _ _) w.heap.size _ rl rfl HRD.out (by simp only [List.length_nil]; omega) (Nat.le_refl _) ?_))
      intro A1 c1 w1 ho1 hg1
      have hho : HoldB w1 w.heap.size (.slice A1 rl.length c1) rl := (HoldB.ofOwn (show OwnB w1 wr.heap.size (.slice A1 rl.length c1) rl from ho1.out)).lower hbs
      have hB1 : Below wr.heap.size wr w1 := (Below.refl _ wr).grown hg1.out (Nat.le_refl _) (by simp [Value.ownBlock])
      have HO1 := Lib.hid (HO.out.below hB1 (Nat.le_refl _))
      have HH1 := Lib.hid (HH.out.below hB1 (Nat.le_refl _))
      have HHO := Lib.hid hho
      have HB1 := Lib.hid (HB.out.trans (hB1.mono hbs))
      have hbs1 := HB1.out.size
      clear hho hB1 hg1 ho1
      obtain ⟨w2, hw2⟩ : ∃ w2, w2 = w1.alloc (.cells #[.slice A1 rl.length c1] 56) := ⟨_, rfl⟩
      have hone : Rd encR 1 w2 (w1.heap.size + 1) (.slice (some ⟨w1.heap.size, 0, none⟩) 1 1) [⟨A1, c1, rl⟩] := by rw [hw2]; exact RdR.one w1 ⟨A1, c1, rl⟩
      have hB2 : Below w1.heap.size w1 w2 := by rw [hw2]; exact (Below.refl _ w1).alloc (Nat.le_refl _) _
      have HO2 := Lib.hid (HO1.out.below hB2 (Nat.le_refl _))
      have HH2 := Lib.hid (HH1.out.below hB2 (Nat.le_refl _))
      have HHO2 := Lib.hid (HHO.out.below hB2 (Nat.le_refl _))
      have HB2 := Lib.hid (HB1.out.trans (hB2.mono hbs1))
      have HONE := Lib.hid hone
      have HW2 := Lib.hid hw2
      clear hone hB2 hw2
      have hnl : rows'.length + 1 ≤ 9000000000000 := by have := HNI.out; have := HN.out; omega
      have hOO : OwnR w2 w.heap.size (.slice A' n c') rows' := HO2.out
      rw [HN.out] at hOO
      go_wp2_with (at_builtin; go_must (refine wpList_addR rfl _ _ rfl w.heap.size (.slice A' n c') rows' rfl ?x1 (w1.heap.size + 1) _ [⟨A1, c1, rl⟩] rfl ?x2 (by show _ + 1 ≤ _; exact hnl) ?x3 ?_))
      case x1 => rw [← HW2.out]; exact HO2.out
      case x2 => rw [← HW2.out]; exact HONE.out
      case x3 => have := HB2.out.size; rw [HW2.out] at this; exact this
      rw [← HW2.out]
      intro A3 c3 w3 ho3 hg3
      have HO3 := Lib.hid ho3.out
      have HH3 := Lib.hid ((HH2.out.append (show HoldRs w2 w.heap.size [⟨A1, c1, rl⟩] from fun r hr => by rw [List.mem_singleton.1 hr]; exact HHO2.out)).grown HO2.out hg3.out)
      have HB3 := Lib.hid (HO2.out.grown HB2.out hg3.out (Nat.le_refl _) HB2.out.size)
      have ht3 : texts (rows' ++ [⟨A1, c1, rl⟩]) = (texts rows).take (i + 1) := by rw [texts_append, HT.out, HNX.out]; rfl
      have HT3 := Lib.hid ht3
      clear ho3 hg3 ht3 hOO
      obtain ⟨n3, hn3⟩ : ∃ n3, n3 = rows'.length + 1 := ⟨_, rfl⟩
      rw [← hn3] at HO3 ⊢
      have HN3 := Lib.hid (show n3 = (rows' ++ [(⟨A1, c1, rl⟩ : Row)]).length by rw [hn3]; simp); clear hn3
      go_wp2_with fail
      go_roundw
      case rel => exact ⟨i + 1, A3, c3, n3, _, by omega, by go_num, rfl, HN3.out, HO3.out, HH3.out, HT3.out, HB3.out⟩
      case measure => simp [intOf]; omega
    · have h1 : ¬ (i : Int) < (rows.length : Int) := by omega
      have hie : (texts rows).take i = texts rows := List.take_of_length_le (by rw [HLL.out]; omega)
      rw [hie] at ht
      have HO := Lib.hid ho
      have HH := Lib.hid hh
      have HT := Lib.hid ht
      have HB := Lib.hid hb
      have HN := Lib.hid hn
      clear ho hh ht hb hn hie hni
      go_wp2_with fail
      go_ret
      exact ⟨A', c', n, rfl, rows', HN.out, HO.out, HH.out, HT.out, HB.out⟩
end Go.Proofs.Ythoheikbpihflaa
namespace Go.Proofs.Ythoheikbpihflaa
open Go.RowKit

/-- the book at block q over the tape at block p; its blocks and the tape's are among G -/
def BkAt (w : World) (base q p : Nat) (G : Nat → Prop) (b : Bks) : Prop :=
  ∃ (ov : Option Nat) (A : Option Addr) (c n : Nat) (rows : List Row), Whole w q 83 [.pointer (some ⟨p, 0, none⟩), .slice A n c, .bool b.dead] ∧ n = rows.length ∧ OwnR w base (.slice A n c) rows ∧ HoldRs w base rows ∧ texts rows = b.l ∧
    (∀ r ∈ rows, r.l.length ≤ 140737488351232) ∧ TapeAt w base p ov b.t ∧ (∀ r ∈ rows, ∀ g, r.v.ownBlock = some g → ov ≠ some g) ∧
    G q ∧ G p ∧ (∀ g, ov = some g → G g) ∧ (∀ g, Value.ownBlock (.slice A n c) = some g → G g) ∧ (∀ r ∈ rows, ∀ g, r.v.ownBlock = some g → G g) ∧ base ≤ w.heap.size ∧ ∀ i, G i → base ≤ i ∧ i < w.heap.size
theorem TapeAt.uniq {w : World} {base p : Nat} {ov ov2 : Option Nat} {t t2 : Tp} (h : TapeAt w base p ov t) (h2 : TapeAt w base p ov2 t2) : ov = ov2 := by
  obtain ⟨A, c, hb, _, hv, _⟩ := h
  obtain ⟨A2, c2, hb2, _, hv2, _⟩ := h2
  have h3 := hb.cell 1 _ rfl
  rw [hb2.cell 1 _ rfl] at h3
  injection h3 with h3
  rw [← hv, ← hv2, h3]
section
variable {w w' : World} {base q p : Nat} {G : Nat → Prop} {b : Bks}
theorem BkAt.tape (h : BkAt w base q p G b) : ∃ ov, TapeAt w base p ov b.t ∧ ∀ i, TapeD p ov i → G i := by
  obtain ⟨ov, A, c, n, rows, h1, h2, h3, h4, h5, h6, h7, h8, h9, h10, h11, h12, h13, h14, h15⟩ := h
  refine ⟨ov, h7, ?_⟩
  rintro i (rfl | hi)
  · exact h10
  · exact h11 i hi.symm
theorem BkAt.low (h : BkAt w base q p G b) : base ≤ w.heap.size ∧ ∀ i, G i → base ≤ i ∧ i < w.heap.size := by
  obtain ⟨ov, A, c, n, rows, h1, h2, h3, h4, h5, h6, h7, h8, h9, h10, h11, h12, h13, h14, h15⟩ := h
  exact ⟨h14, h15⟩
theorem BkAt.at (h : BkAt w base q p G b) : G q ∧ G p := by
  obtain ⟨ov, A, c, n, rows, h1, h2, h3, h4, h5, h6, h7, h8, h9, h10, h11, h12, h13, h14, h15⟩ := h
  exact ⟨h9, h10⟩
theorem OwnR.mv {D : Nat → Prop} {v : Value} {rows : List Row} (h : OwnR w base v rows) (hm : Mv D w w') (hn : ∀ g, v.ownBlock = some g → ¬ D g) : OwnR w' base v rows := by
  refine ⟨h.1, ?_⟩
  rcases h.2 with h2 | ⟨g, cap, cur, rfl, hb, hh, r⟩
  · exact .inl h2
  · exact .inr ⟨g, cap, cur, rfl, hb, (hm.block g (Array.getElem?_eq_some_iff.1 hh).1 (hn g rfl)).trans hh, r⟩
theorem BkAt.mv {D : Nat → Prop} (h : BkAt w base q p G b) (hm : Mv D w w') (hn : ∀ i, G i → ¬ D i) : BkAt w' base q p G b := by
  obtain ⟨ov, A, c, n, rows, h1, h2, h3, h4, h5, h6, h7, h8, h9, h10, h11, h12, h13, h14, h15⟩ := h
  exact ⟨ov, A, c, n, rows, hm.whole h1 (hn q h9), h2, OwnR.mv h3 hm (fun g hg => hn g (h12 g hg)), h4.mv hm (fun r hr g hg => hn g (h13 r hr g hg)), h5, h6, h7.mv hm (hn p h10) (fun g hg => hn g (h11 g hg)), h8, h9, h10, h11, h12, h13, Nat.le_trans h14 hm.size,
    fun i hi => ⟨(h15 i hi).1, Nat.lt_of_lt_of_le (h15 i hi).2 hm.size⟩⟩
set_option maxRecDepth 100000 in
/-- rows and a block of another type -/
theorem OwnR.off {v : Value} {rows : List Row} (h : OwnR w base v rows) {g : Nat} {T : TypeId} {cs : List Value} (hg : Whole w g T cs) (hne : 56 ≠ T) : v.ownBlock ≠ some g := fun he => Own.apart h hg hne he.symm
set_option maxRecDepth 100000 in
theorem BkAt.went {ov ov' : Option Nat} {t' : Tp} (h : BkAt w base q p G b) (ht : TapeAt w base p ov b.t) (hw : Went w w' base p ov t' ov') : ∃ G', BkAt w' base q p G' { b with t := t' } ∧ ∀ i, G' i → G i ∨ w.heap.size ≤ i := by
  obtain ⟨ov2, A, c, n, rows, h1, h2, h3, h4, h5, h6, h7, h8, h9, h10, h11, h12, h13, h14, h15⟩ := h
  obtain rfl := ht.uniq h7
  obtain ⟨hnow, hm, hnew⟩ := hw
  obtain ⟨k1, k2⟩ := ht.apart h1 (by decide) (by decide)
  have hD : ∀ g, (g ≠ p ∧ ov ≠ some g) → ¬ TapeD p ov g := by
    rintro g ⟨a1, a2⟩ (a | a)
    · exact a1 a
    · exact a2 a.symm
  have hrows : ∀ g, Value.ownBlock (.slice A n c) = some g → g ≠ p ∧ ov ≠ some g := by
    intro g hg
    obtain ⟨A2, c2, hb2, ho2, hv2, _⟩ := ht
    refine ⟨fun e => OwnR.off h3 hb2 (by decide) (e ▸ hg), fun e => ?_⟩
    exact ho2.ne_rows h3 g (hv2.trans e) hg
  have hcont : ∀ r ∈ rows, ∀ g, r.v.ownBlock = some g → g ≠ p ∧ ov ≠ some g := by
    intro r hr g hg
    obtain ⟨A2, c2, hb2, ho2, hv2, _⟩ := ht
    exact ⟨fun e => (h4 r hr).apart hb2 (by decide) (e ▸ hg), h8 r hr g hg⟩
  refine ⟨fun i => G i ∨ ov' = some i, ⟨ov', A, c, n, rows, hm.whole h1 (hD q ⟨k1, k2⟩), h2, OwnR.mv h3 hm (fun g hg => hD g (hrows g hg)), h4.mv hm (fun r hr g hg => hD g (hcont r hr g hg)), h5, h6, hnow, ?_, .inl h9, .inl h10, fun g hg => .inr hg, fun g hg => .inl (h12 g hg), fun r hr g hg => .inl (h13 r hr g hg), Nat.le_trans h14 hm.size, ?_⟩, ?_⟩
  · exact fun r hr g hg => hnew.out (h15 g (h13 r hr g hg)).2 (h8 r hr g hg)
  · rintro i (hi | hi)
    · exact ⟨(h15 i hi).1, Nat.lt_of_lt_of_le (h15 i hi).2 hm.size⟩
    · exact hnow.row hi
  · rintro i (hi | hi)
    · exact .inl hi
    · rcases hnew i hi with h | h
      · exact .inl (h11 i h)
      · exact .inr h
end

set_option maxHeartbeats 1000000 in
set_option maxRecDepth 100000 in
theorem brec_any (base q p : Nat) (G : Nat → Prop) (b : Bks) (w : World) (h : BkAt w base q p G b) (hl : b.l.length ≤ 4000000) :
    Calls Try.prog 20 #[.pointer (some ⟨q, 0, none⟩)] w fun e w' => ∃ A c rows, e = .returned (.slice A rows.length c) ∧ RdRs w' w'.heap.size (fun i => i < w.heap.size) (.slice A rows.length c) rows ∧ texts rows = b.l ∧ Below w.heap.size w w' := by
  obtain ⟨ov, A, c, n, rows, h1, h2, h3, h4, h5, h6, h7, h8, h9, h10, h11, h12, h13, h14, h15⟩ := h
  have c1 := h1.cell 1 _ rfl
  have hrd : RdRs w w.heap.size (fun _ => False) (.slice A n c) rows := OwnR.held h3 h4 (fun _ _ h => h) (fun _ _ _ _ h => h)
  have hrl : rows.length ≤ 4000000 := by have := congrArg List.length h5; simp [texts] at this; omega
  have HF := Lib.hid (bfresh_any rows _ _ w hrd hrl h6)
  have H5 := Lib.hid h5
  clear h1 h2 h3 h4 h5 h6 h7 h8 h9 h10 h11 h12 h13 h14 h15 hrd
  go_enter Try.func20, Try.ntmps20
  go_wp2_with fail
  refine HF.out.mono ?_
  rintro e w1 ⟨A1, c1', n1, rfl, rows1, rfl, ho, hh, ht, hb⟩
  have hrs : RdRs w1 w1.heap.size (fun i => i < w.heap.size) (.slice A1 rows1.length c1') rows1 := OwnR.held ho hh (fun g hg hd => by have := (ho.low hg).1; omega) (fun r hr g hg hd => by have := ((hh r hr).low hg).1; omega)
  have HS := Lib.hid hrs
  have HT := Lib.hid (ht.trans H5.out)
  have HB := Lib.hid hb
  clear ho hh ht hb hrs
  go_wp2_with fail
  go_ret
  exact ⟨A1, c1', rows1, rfl, HS.out, HT.out, HB.out⟩

set_option maxHeartbeats 1000000 in
set_option maxRecDepth 100000 in
theorem bnone_rec (w : World) : Calls Try.prog 20 #[.pointer none] w fun e w' => ∃ A c, e = .returned (.slice A 0 c) ∧ Below w.heap.size w w' := by
  go_enter Try.func20, Try.ntmps20
  go_wp2_with fail
  go_ret
  exact ⟨none, 0, rfl, Below.refl _ _⟩
end Go.Proofs.Ythoheikbpihflaa
namespace Go.Proofs.Ythoheikbpihflaa
open Go.RowKit


set_option maxRecDepth 100000 in
theorem sealed_eq {p r : List UInt8} (hp : p.length = 4) : sealed r = p ++ r ↔ val p = sum r := by
  unfold sealed
  rw [List.append_left_inj]
  constructor
  · intro h
    rw [← h, val_four (sum_lt r)]
  · intro h
    rw [← h, four_val hp]
end Go.Proofs.Ythoheikbpihflaa
namespace Go.Proofs.Ythoheikbpihflaa
open Go.RowKit
attribute [local go_sem] same_str

theorem lay_take (L : List (List UInt8)) (i : Nat) (h : i < L.length) : lay (L.take (i + 1)) = lay (L.take i) ++ recB L[i] := by
  rw [List.take_add_one, List.getElem?_eq_getElem h, lay_append]
  simp [lay]
theorem lay_bound (L : List (List UInt8)) (h : fits L) : (lay L).length ≤ L.length * 65545 := by
  induction L with
  | nil => simp [lay]
  | cons r L ih =>
    have h1 := ih (fun x hx => h x (by simp [hx]))
    have h2 : r.length ≤ 65532 := h r (by simp)
    rw [lay_cons, List.length_append, recB_len, List.length_cons]
    have := enc_len9 (n := r.length + 4) (by omega)
    omega
theorem data_strB (l : List UInt8) : (strB l).data.toList = l := by simp [strB]
theorem strB_size' (a : List UInt8) : (strB a).size = a.length := by simp [strB, ByteArray.size]

end Go.Proofs.Ythoheikbpihflaa
namespace Go.Proofs.Ythoheikbpihflaa
open Go.RowKit

theorem fits_step {rows : List Row} {i : Nat} (hgo : i < rows.length) (h : fits (texts (rows.take i))) (h1 : rows[i].l.length ≤ 65532) : fits (texts (rows.take (i + 1))) := by
  rw [List.take_add_one, List.getElem?_eq_getElem hgo]
  simp only [fits, texts, fitR, Option.toList_some, List.map_append, List.map_cons, List.map_nil, List.mem_append, List.mem_cons, List.not_mem_nil, or_false] at h ⊢
  rintro r (hr | rfl)
  · exact h r hr
  · exact h1
theorem texts_take (rows : List Row) (i : Nat) : texts (rows.take i) = (texts rows).take i := by simp [texts]

set_option maxHeartbeats 4000000 in
set_option maxRecDepth 100000 in
theorem bwrite_any (rows : List Row) (G : Nat → Prop) (v : Value) (w : World) (hv : RdRs w w.heap.size G v rows) (hl : rows.length ≤ 1000) (hr : ∀ r ∈ rows, r.l.length ≤ 140737488351232) :
    Calls Try.prog 69 #[v] w fun e w' => Below w.heap.size w w' ∧
      ((fits (texts rows) ∧ ∃ A c n, e = .returned (.tuple #[.slice A n c, .int .i64 0]) ∧ n = (lay (texts rows)).length ∧ OwnB w' w.heap.size (.slice A n c) (lay (texts rows))) ∨ (¬ fits (texts rows) ∧ e = .returned (.tuple #[.slice none 0 0, .int .i64 6]))) := by
  obtain ⟨A, c, rfl, hc, -⟩ := hv.1
  have HV := Lib.hid hv; clear hv
  have HR := Lib.hid hr; clear hr
  have hLl : (texts rows).length = rows.length := by simp [texts]
  have HLL := Lib.hid hLl; clear hLl
  go_enter Try.func69, Try.ntmps69
  go_wp2_with fail
  go_loopw [4, 11] (fun ov iv wr => ∃ (i : Nat) (A' : Option Addr) (c' n : Nat), i ≤ rows.length ∧ iv = .int .i64 (i : Int) ∧ ov = .slice A' n c' ∧ n = (lay ((texts rows).take i)).length ∧ OwnB wr w.heap.size (.slice A' n c') (lay ((texts rows).take i)) ∧ fits (texts (rows.take i)) ∧ Below w.heap.size w wr) (fun _ iv _ => rows.length - (intOf iv).toNat)
  case atStart => exact ⟨0, _, _, 0, Nat.zero_le _, rfl, rfl, rfl, Own.nil _ _, by simp [texts, fits], Below.refl _ _⟩
  case round =>
    obtain ⟨i, A', c', n, hi, rfl, rfl, hn, ho, hf, hb⟩ := hrel
    have hbs := hb.size
    by_cases hgo : i < rows.length
    · have h1 : (i : Int) < (rows.length : Int) := by omega
      have hbnd := lay_bound ((texts rows).take i) (by rw [← texts_take]; exact hf)
      rw [List.length_take, HLL.out] at hbnd
      have hnb : n ≤ 70000000 := by
        have : min i rows.length ≤ 1000 := by omega
        rw [hn]; omega
      have hrs := HV.out.mv (Mv.of_below hb) (Nat.le_refl _) (fun b h1 h2 => by omega)
      obtain ⟨⟨A0, c0, e0, -, hcell⟩, hrow⟩ := hrs
      injection e0 with e1 e2 e3
      subst e1 e3
      obtain ⟨b, o, rfl, hbl, -, q0⟩ := hcell i hgo
      have hrd := (hrow rows[i] (List.getElem_mem hgo)).rdB.mono hbs
      have hbig : rows[i].l.length ≤ 140737488351232 := HR.out _ (List.getElem_mem hgo)
      have hstep := fits_step hgo hf
      have hall : fits (texts rows) → rows[i].l.length ≤ 65532 := fun h => h _ (List.mem_map.2 ⟨rows[i], List.getElem_mem hgo, rfl⟩)
      have hnext : lay ((texts rows).take (i + 1)) = lay ((texts rows).take i) ++ encT (sealed rows[i].l) := by
        rw [lay_take _ _ (by rw [HLL.out]; exact hgo)]
        simp [texts, recB]
      have HNX := Lib.hid hnext
      have HST := Lib.hid hstep
      have HALL := Lib.hid hall
      clear hnext hcell hrow e2 hstep hall hf
      generalize rows[i] = r at q0 hrd hbig HNX HST HALL
      obtain ⟨ra, rc, rl⟩ := r
      simp only [Row.v] at q0 hrd hbig HNX HST HALL
      have HS := Lib.hid (seal_any rl _ wr hrd (by omega))
      have hsl : (sealed rl).length = rl.length + 4 := slen rl
      have HSL := Lib.hid hsl
      obtain ⟨X, hX⟩ : ∃ X, X = lay ((texts rows).take i) := ⟨_, rfl⟩
      rw [← hX] at ho hn HNX
      have HO := Lib.hid ho
      have HB := Lib.hid hb
      have HN := Lib.hid hn
      have HXX := Lib.hid hX
      clear ho hb hrd hbnd hn hX hsl
      go_wp2_with fail
      refine HS.out.mono ?_
      rintro e w1 ⟨rfl, hro, hb1⟩
      have hcv := run_convB hro.whole
      have HO1 := Lib.hid (HO.out.below hb1 (Nat.le_refl _))
      have HB1 := Lib.hid (HB.out.trans (hb1.mono hbs))
      have hbs1 := HB1.out.size
      have hput := putText_any [] (.slice none 0 0) (strB (sealed rl)) w1 (Rd.nil _ _) (by simp) (by rw [strB_size', HSL.out]; omega)
      have hpa : putTAns [] (strB (sealed rl)) = if rl.length ≤ 65532 then (encT (sealed rl), 0) else ([], 6) := by
        unfold putTAns
        rw [strB_size', HSL.out]
        by_cases h : rl.length ≤ 65532
        · rw [if_neg (by omega), if_pos h, data_strB]; rfl
        · rw [if_pos (by omega), if_neg h]
      rw [hpa] at hput
      have HP := Lib.hid hput
      clear hput hro hb1 hpa
      go_wp2_with fail
      refine HP.out.mono ?_
      rintro e w2 ⟨v2, rfl, hrd2, hb2⟩
      have HO2 := Lib.hid (HO1.out.below hb2 (Nat.le_refl _))
      have HB2 := Lib.hid (HB1.out.trans (hb2.mono hbs1))
      have hbs2 := HB2.out.size
      clear hcv HP HS hb2
      by_cases hfit : rl.length ≤ 65532
      · rw [if_pos hfit] at hrd2 ⊢
        have HRD2 := Lib.hid hrd2
        have HFT := Lib.hid (HST.out hfit)
        have hel : (encT (sealed rl)).length ≤ 65545 := by
          rw [encT, List.length_append, HSL.out]
          have := enc_len9 (n := rl.length + 4) (by omega)
          omega
        clear hrd2
        generalize encT (sealed rl) = E at HRD2 HNX hel
        obtain ⟨A9, c9, hv9, -, -⟩ := HRD2.out
        subst hv9
        have hXl : X.length = n := HN.out.symm
        go_wp2_with (at_builtin; go_must (refine wpList_addBG rfl _ _ rfl w.heap.size (.slice A' n c') X rfl HO2.out w2.heap.size _ E rfl HRD2.out (by omega) hbs2 ?_))
        intro A3 c3 w3 ho3 hg3
        have ho4 : OwnB w3 w.heap.size (.slice A3 (n + E.length) c3) (X ++ E) := by have h := ho3.out; simpa only [List.length_append, hXl] using h
        have HB3 := Lib.hid (HO2.out.grown HB2.out hg3.out (Nat.le_refl _) hbs2)
        clear ho3 hg3
        rw [← HNX.out] at ho4
        obtain ⟨n3, hn3⟩ : ∃ n3, n3 = n + E.length := ⟨_, rfl⟩
        rw [← hn3] at ho4 ⊢
        have HO3 := Lib.hid ho4
        have HN3 := Lib.hid (show n3 = (lay ((texts rows).take (i + 1))).length by rw [hn3, HNX.out, List.length_append, hXl])
        clear hn3 hXl ho4
        go_wp2_with fail
        go_roundw
        case rel => exact ⟨i + 1, A3, c3, n3, by omega, by go_num, rfl, HN3.out, HO3.out, HFT.out, HB3.out⟩
        case measure => simp [intOf]; omega
      · rw [if_neg hfit] at hrd2 ⊢
        have HNF := Lib.hid (show ¬ fits (texts rows) from fun h => hfit (HALL.out h))
        clear hrd2
        go_wp2_with fail
        go_ret2
        exact ⟨HB2.out, .inr ⟨HNF.out, rfl⟩⟩
    · have h1 : ¬ (i : Int) < (rows.length : Int) := by omega
      have hie : (texts rows).take i = texts rows := List.take_of_length_le (by rw [HLL.out]; omega)
      rw [hie] at hn ho
      rw [texts_take, hie] at hf
      have HO := Lib.hid ho
      have HB := Lib.hid hb
      have HN := Lib.hid hn
      have HF := Lib.hid hf
      clear hn ho hb hie hf
      go_wp2_with fail
      go_ret2
      exact ⟨HB.out, .inl ⟨HF.out, A', c', n, rfl, HN.out, HO.out⟩⟩
end Go.Proofs.Ythoheikbpihflaa
namespace Go.Proofs.Ythoheikbpihflaa
open Go.RowKit

set_option maxHeartbeats 1000000 in
set_option maxRecDepth 100000 in
theorem lay1_any (ge gb q : Nat) (x : Int) (old : Value) (u : FrameMode) (w : World) (he : w.cell? ⟨ge, 0, none⟩ = some (.int .i64 x)) (hb : w.cell? ⟨gb, 0, none⟩ = some (.pointer (some ⟨q, 0, none⟩))) (hq : w.cell? ⟨q, 2, none⟩ = some old) (hf : w.frozen? ⟨q, 2, none⟩ = false) :
    CallsD Try.prog 68 #[.pointer (some ⟨ge, 0, none⟩), .pointer (some ⟨gb, 0, none⟩)] u w fun e u' w' => u' = u ∧ (e = .returned (.tuple #[]) ∧ w' = w.setCell ⟨q, 2, none⟩ (.bool (decide (x = 11)))) := by
  go_enter_d Try.func68, Try.ntmps68
  by_cases hx : x = 11
  · subst hx
    go_wp2
    go_end0
    exact ⟨rfl, rfl⟩
  · have hx2 : (x == 11) = false := by simpa using hx
    rw [decide_eq_false hx]
    go_wp2
    go_end0
    exact ⟨rfl, rfl⟩

/-- two writes, one behind the other -/
theorem Went.trans {w w1 w2 : World} {base p : Nat} {ov ov1 ov2 : Option Nat} {t1 t2 : Tp} (h : Went w w1 base p ov t1 ov1) (h2 : Went w1 w2 base p ov1 t2 ov2) : Went w w2 base p ov t2 ov2 := by
  refine ⟨h2.now, h.moved.trans h2.moved ?_, h.new.trans h2.new h.moved.size⟩
  rintro i hi (rfl | hd)
  · exact .inl rfl
  · rcases h.new i hd.symm with h3 | h3
    · exact .inr h3.symm
    · omega
/-- bytes behind the others, that last -/
def Tp.addS (t : Tp) (l : List UInt8) : Int × Tp := if (t.add l).1 ≠ 0 then t.add l else (t.add l).2.sync

set_option maxHeartbeats 2000000 in
set_option maxRecDepth 100000 in
theorem resetF_any (base q p gb : Nat) (ov : Option Nat) (t : Tp) (l : List UInt8) (v : Value) (cq : List Value) (w : World) (h : TapeAt w base p ov t) (hq : Whole w q 83 (.pointer (some ⟨p, 0, none⟩) :: cq)) (hb : Whole w gb 59 [.pointer (some ⟨q, 0, none⟩)])
    (hv : ∀ w1, Mv (TapeD p ov) w w1 → RdB w1 w1.heap.size v l) (hl : l.length ≤ 140737488351232) :
    Calls Try.prog 56 #[v, .pointer (some ⟨gb, 0, none⟩)] w fun e w' => e = .returned (.int .i64 (t.repl l).1) ∧ ∃ ov', Went w w' base p ov (t.repl l).2 ov' := by
  have c0 := hq.cell 0 _ rfl
  have b0 := hb.cell 0 _ rfl
  have HA := Lib.hid (repl_any base p ov t v l w h hv hl)
  clear hq hb hv h
  go_enter Try.func56, Try.ntmps56
  go_wp2_with fail
  refine HA.out.mono ?_
  rintro e w1 ⟨rfl, ov1, hw⟩
  have HW := Lib.hid hw
  clear hw
  go_wp2_with fail
  go_ret
  exact ⟨rfl, ov1, HW.out⟩
end Go.Proofs.Ythoheikbpihflaa
namespace Go.Proofs.Ythoheikbpihflaa
open Go.RowKit

/-- one call of a book that writes by f: what it answers, and the book behind it; its records are those from before -/
def Bks.put (f : Tp → List UInt8 → Int × Tp) (b : Bks) (list : List (List UInt8)) : Int × Bks :=
  if b.dead = true then (11, b) else if ¬ fits list then (6, b) else
  ((f b.t (lay list)).1, { b with t := (f b.t (lay list)).2, dead := decide ((f b.t (lay list)).1 = 11) })
set_option maxRecDepth 100000 in
/-- the note of a book, written anew -/
theorem BkAt.note {w : World} {base q p : Nat} {G : Nat → Prop} {b : Bks} (h : BkAt w base q p G b) (d : Bool) : BkAt (w.setCell ⟨q, 2, none⟩ (.bool d)) base q p G { b with dead := d } := by
  obtain ⟨ov, A, c, n, rows, h1, h2, h3, h4, h5, h6, h7, h8, h9, h10, h11, h12, h13, h14, h15⟩ := h
  have hm : Mv (fun i => i = q) w (w.setCell ⟨q, 2, none⟩ (.bool d)) := (Mv.refl (fun i => i = q) w).setCell (p := ⟨q, 2, none⟩) (fun _ => rfl) _
  obtain ⟨k1, k2⟩ := h7.apart h1 (by decide) (by decide)
  exact ⟨ov, A, c, n, rows, h1.put 2 _, h2, OwnR.mv h3 hm (fun g hg e => OwnR.off h3 h1 (by decide) (e ▸ hg)), h4.mv hm (fun r hr g hg e => (h4 r hr).apart h1 (by decide) (e ▸ hg)), h5, h6, h7.mv hm (fun e => k1 e.symm) (fun g hg e => k2 (e ▸ hg)), h8, h9, h10, h11, h12, h13, by simpa using h14, fun i hi => by simpa using h15 i hi⟩
theorem BkAt.whole {w : World} {base q p : Nat} {G : Nat → Prop} {b : Bks} (h : BkAt w base q p G b) : ∃ v, Whole w q 83 [.pointer (some ⟨p, 0, none⟩), v, .bool b.dead] := by
  obtain ⟨ov, A, c, n, rows, h1, _⟩ := h
  exact ⟨_, h1⟩

set_option maxHeartbeats 8000000 in
set_option maxRecDepth 100000 in
theorem layR_any (base q p gb : Nat) (G : Nat → Prop) (b : Bks) (rows : List Row) (v : Value) (w : World) (h : BkAt w base q p G b) (hv : RdRs w w.heap.size G v rows) (hl : rows.length ≤ 1000) (hr : ∀ r ∈ rows, r.l.length ≤ 140737488351232) (hgb : Whole w gb 59 [.pointer (some ⟨q, 0, none⟩)]) (hgG : ¬ G gb) :
    Calls Try.prog 55 #[.pointer (some ⟨q, 0, none⟩), v, .func (.func 56) #[] #[.pointer (some ⟨gb, 0, none⟩)]] w fun e w' => e = .returned (.int .i64 (b.put Tp.repl (texts rows)).1) ∧ ∃ G', BkAt w' base q p G' (b.put Tp.repl (texts rows)).2 ∧ (∀ i, G' i → G i ∨ w.heap.size ≤ i) ∧ Mv G w w' := by
  have hmf : ∀ (fn : Fn) (first cap : Array Value) (w : World), (Instr.makeFunc fn first cap).run Try.prog w = .ok (.func fn first cap) w := fun _ _ _ _ => rfl
  obtain ⟨R, hR⟩ : ∃ R, R = b.put Tp.repl (texts rows) := ⟨_, rfl⟩
  rw [← hR]
  unfold Bks.put at hR
  have HR := Lib.hid hR; clear hR
  obtain ⟨vq, hq⟩ := h.whole
  have hqs := hq.size
  have hlow := h.low
  -- the two variables of the call's own
  obtain ⟨w2, hw2⟩ : ∃ w2, w2 = (w.alloc (.cells #[.pointer (some ⟨q, 0, none⟩)] 59)).alloc (.cells #[.int .i64 0] 24) := ⟨_, rfl⟩
  have hB2 : Below w.heap.size w w2 := by rw [hw2]; exact ((Below.refl _ w).alloc (Nat.le_refl _) _).alloc (by simp) _
  have hz2 : w2.heap.size = w.heap.size + 2 := by rw [hw2]; simp
  have hbx : Whole w2 w.heap.size 59 [.pointer (some ⟨q, 0, none⟩)] := by rw [hw2]; exact (Whole.fresh w 59 [_]).alloc _
  have hex : Whole w2 (w.heap.size + 1) 24 [.int .i64 0] := by
    have := Whole.fresh (w.alloc (.cells #[.pointer (some ⟨q, 0, none⟩)] 59)) 24 [.int .i64 0]
    rw [hw2]; simpa using this
  have hm2 : Mv (fun _ => False) w w2 := Mv.of_new hB2 _
  have H2 := Lib.hid (h.mv hm2 (fun _ _ h => h))
  have HV2 := Lib.hid (hv.mv hm2 (Nat.le_refl _) (fun _ _ h => h.elim))
  have HGB2 := Lib.hid (hgb.below hB2 hgb.size)
  have HBX := Lib.hid hbx
  have HEX := Lib.hid hex
  have HB2 := Lib.hid hB2
  have HQ2 := Lib.hid (hq.below hB2 hqs)
  have HGG := Lib.hid hgG
  have HLOW := Lib.hid hlow
  have HW2 := Lib.hid hw2
  have c2 := hq.cell 2 _ rfl
  have f2 := hq.frozen 2
  have hgbs := hgb.size
  have HRL := Lib.hid hr
  have HB := Lib.hid h
  clear hbx hex hB2 hm2 hw2 hq h hv hgb hgG hlow hr
  obtain ⟨l, dead, t⟩ := b
  simp only at c2 HR H2 HB
  cases dead with
  | true =>
    have hr := HR.out
    rw [if_pos rfl] at hr
    have HR2 := Lib.hid hr; clear hr
    go_enter_defers Try.func55, Try.ntmps55
    go_wp2_with fail
    obtain ⟨w3, hw3⟩ : ∃ w3, w3 = (w.alloc (.cells #[.pointer (some ⟨q, 0, none⟩)] 59)).alloc (.cells #[.int .i64 11] 24) := ⟨_, rfl⟩
    rw [← hw3]
    have hB3 : Below w.heap.size w w3 := by rw [hw3]; exact ((Below.refl _ w).alloc (Nat.le_refl _) _).alloc (by simp) _
    have hx3 : Whole w3 w.heap.size 59 [.pointer (some ⟨q, 0, none⟩)] := by rw [hw3]; exact (Whole.fresh w 59 [_]).alloc _
    have he3 : Whole w3 (w.heap.size + 1) 24 [.int .i64 11] := by
      have := Whole.fresh (w.alloc (.cells #[.pointer (some ⟨q, 0, none⟩)] 59)) 24 [.int .i64 11]
      rw [hw3]; simpa using this
    have hq3 : Whole w3 q 83 [.pointer (some ⟨p, 0, none⟩), vq, .bool true] := by
      have h1 := HQ2.out
      unfold Whole at h1 ⊢
      rw [hB3.block q hqs, ← HB2.out.block q hqs]
      exact h1
    have hk3 : BkAt w3 base q p G ⟨l, true, t⟩ := HB.out.mv (Mv.of_new hB3 (fun _ => False)) (fun _ _ h => h)
    refine leaves_cons (f := 68) (args := #[.pointer (some ⟨w.heap.size + 1, 0, none⟩), .pointer (some ⟨w.heap.size, 0, none⟩)]) (by simp) (by simp [go_sem]) ?_
    refine (lay1_any (w.heap.size + 1) w.heap.size q 11 _ .returning _ (he3.cell 0 _ rfl) (hx3.cell 0 _ rfl) (hq3.cell 2 _ rfl) (hq3.frozen 2)).mono ?_
    rintro e u' w'' ⟨rfl, rfl, rfl⟩
    have k0 := he3.cell 0 _ rfl
    refine ⟨.int .i64 11, by simp [results, Try.results55, go_sem, k0], ?_⟩
    rw [HR2.out]
    exact ⟨rfl, G, hk3.note _, fun i hi => .inl hi, (Mv.of_new hB3 _).setCell (fun _ => hk3.at.1) _⟩
  | false =>
    have hr := HR.out
    rw [if_neg (by simp)] at hr
    have HR1 := Lib.hid hr; clear hr
    have HWR := Lib.hid (bwrite_any rows G v w2 (HV2.out.mono (by omega) (fun _ _ h => h)) hl HRL.out)
    go_enter_defers Try.func55, Try.ntmps55
    go_wp2_with fail
    (try rw [← HW2.out])
    refine HWR.out.mono ?_
    rintro e w3 ⟨hb3, hcase⟩
    have hx3 : Whole w3 w.heap.size 59 [.pointer (some ⟨q, 0, none⟩)] := HBX.out.below hb3 HBX.out.size
    have he3 : Whole w3 (w.heap.size + 1) 24 [.int .i64 0] := HEX.out.below hb3 HEX.out.size
    have hq3 := HQ2.out.below hb3 (by omega)
    have hgb3 := HGB2.out.below hb3 (by omega)
    have hk3 := H2.out.mv (Mv.of_new hb3 (fun _ => False)) (fun _ _ h => h)
    have hB3 : Below w.heap.size w w3 := HB2.out.trans (hb3.mono (by omega))
    have HX3 := Lib.hid hx3
    have HE3 := Lib.hid he3
    have HQ3 := Lib.hid hq3
    have HGB3 := Lib.hid hgb3
    have HK3 := Lib.hid hk3
    have HB3 := Lib.hid hB3
    have HB23 := Lib.hid hb3
    have e0 := he3.cell 0 _ rfl
    have e0f := he3.frozen 0
    have hes := he3.size
    clear hx3 he3 hq3 hgb3 hk3 hB3 hb3 c2 f2 HWR
    have hne : w.heap.size + 1 ≠ q := by omega
    rcases hcase with ⟨hfit, A, c, n, rfl, hn, ho⟩ | ⟨hnf, rfl⟩
    · have hr := HR1.out
      rw [if_neg (by simpa using hfit)] at hr
      have HR2 := Lib.hid hr
      obtain ⟨ov, htp, hsub⟩ := HK3.out.tape
      have hmE : Mv (fun i => i = w.heap.size + 1) w3 (w3.setCell ⟨w.heap.size + 1, 0, none⟩ (.int .i64 0)) := (Mv.refl (fun i => i = w.heap.size + 1) w3).setCell (p := ⟨w.heap.size + 1, 0, none⟩) (fun _ => rfl) _
      have hgE : ∀ i, G i → i ≠ w.heap.size + 1 := fun i hi => by have := (HLOW.out.2 i hi).2; omega
      have hout : HoldB w3 w2.heap.size (.slice A n c) (lay (texts rows)) := by rw [hn] at ho ⊢; exact HoldB.ofOwn ho
      have hll : (lay (texts rows)).length ≤ 140737488351232 := by
        have := lay_bound _ hfit
        have h2 : (texts rows).length = rows.length := by simp [texts]
        omega
      have hcl := resetF_any base q p gb ov t (lay (texts rows)) (.slice A n c) [vq, .bool false] (w3.setCell ⟨w.heap.size + 1, 0, none⟩ (.int .i64 0)) (htp.mv hmE (fun h => by have := hgE p (hsub p (.inl rfl)); omega) (fun g hg h => by have := hgE g (hsub g (.inr hg.symm)); omega)) (hmE.whole HQ3.out (fun h => hne h.symm)) (hmE.whole HGB3.out (fun h => by omega))
        (fun wx hmx => by
          have hx := (hout.mv hmE (fun g hg h => by have := (hout.low hg).1; omega)).mv hmx (fun g hg hd => by have h1 := (hout.low hg).1; have h2 := (HLOW.out.2 g (hsub g hd)).2; omega)
          exact hx.rdB) hll
      have HCL := Lib.hid hcl
      have HTP := Lib.hid htp
      have HSUB := Lib.hid hsub
      have HME := Lib.hid hmE
      have HGE := Lib.hid hgE
      clear hr hn ho hfit hcl htp hsub hout hll hmE hgE
      go_wp2_with fail
      refine HCL.out.mono ?_
      rintro e w5 ⟨rfl, ov', hw⟩
      have hm5 : Mv (fun i => i = w.heap.size + 1 ∨ G i) w3 w5 := HME.out.mono (fun _ _ h => .inl h) |>.trans hw.moved (fun i _ hd => .inr (HSUB.out i hd))
      have hD : ∀ g, TapeD p ov g → g ≠ w.heap.size + 1 := fun g hg => HGE.out g (HSUB.out g hg)
      obtain ⟨G5, hk5, hG5⟩ := (HK3.out.mv HME.out (fun i hi => HGE.out i hi)).went (HTP.out.mv HME.out (fun h => hD p (.inl rfl) h) (fun g hg h => hD g (.inr hg.symm) h)) hw
      have he5 : Whole w5 (w.heap.size + 1) 24 [.int .i64 0] := hw.moved.whole (HE3.out.put 0 _) (fun h => hD _ h rfl)
      have hx5 : Whole w5 w.heap.size 59 [.pointer (some ⟨q, 0, none⟩)] := hm5.whole HX3.out (fun h => by rcases h with h | h; omega; have := (HLOW.out.2 _ h).2; omega)
      have z5 := he5.cell 0 _ rfl
      have z5f := he5.frozen 0
      have HK5 := Lib.hid hk5
      have HG5 := Lib.hid hG5
      have HE5 := Lib.hid he5
      have HX5 := Lib.hid hx5
      have HM5 := Lib.hid hm5
      have hs5 : w3.heap.size ≤ w5.heap.size := hm5.size
      obtain ⟨r, hr⟩ : ∃ r, r = (Tp.repl t (lay (texts rows))).1 := ⟨_, rfl⟩
      obtain ⟨t2, ht2⟩ : ∃ t2, t2 = (Tp.repl t (lay (texts rows))).2 := ⟨_, rfl⟩
      rw [← hr, ← ht2] at HR2
      rw [← ht2] at HK5
      rw [← hr]
      clear hw hm5 hD hk5 hG5 he5 hx5 hr ht2 HCL
      go_wp2_with fail
      obtain ⟨w9, hw9⟩ : ∃ w9, w9 = w5.setCell ⟨w.heap.size + 1, 0, none⟩ (.int .i64 r) := ⟨_, rfl⟩
      rw [← hw9]
      have hm9 : Mv (fun i => i = w.heap.size + 1) w5 w9 := by rw [hw9]; exact (Mv.refl (fun i => i = w.heap.size + 1) w5).setCell (p := ⟨w.heap.size + 1, 0, none⟩) (fun _ => rfl) _
      have hgE5 : ∀ i, G5 i → i ≠ w.heap.size + 1 := by
        intro i hi
        rcases HG5.out i hi with h | h
        · exact HGE.out i h
        · have hs : (w3.setCell ⟨w.heap.size + 1, 0, none⟩ (.int .i64 0)).heap.size = w3.heap.size := by simp
          omega
      have hk9 := HK5.out.mv hm9 (fun i hi => hgE5 i hi)
      obtain ⟨vq9, hq9⟩ := hk9.whole
      have he9 : Whole w9 (w.heap.size + 1) 24 [.int .i64 r] := by rw [hw9]; exact HE5.out.put 0 _
      have hx9 : Whole w9 w.heap.size 59 [.pointer (some ⟨q, 0, none⟩)] := hm9.whole HX5.out (fun h => by omega)
      refine leaves_cons (f := 68) (args := #[.pointer (some ⟨w.heap.size + 1, 0, none⟩), .pointer (some ⟨w.heap.size, 0, none⟩)]) (by simp) (by simp [go_sem]) ?_
      refine (lay1_any (w.heap.size + 1) w.heap.size q r _ .returning _ (he9.cell 0 _ rfl) (hx9.cell 0 _ rfl) (hq9.cell 2 _ rfl) (hq9.frozen 2)).mono ?_
      rintro e u' w'' ⟨rfl, rfl, rfl⟩
      have k0 := he9.cell 0 _ rfl
      refine ⟨.int .i64 r, by simp [results, Try.results55, go_sem, k0], ?_⟩
      rw [HR2.out]
      have hmw : Mv G w w9 := ((Mv.of_new HB3.out G).trans (D' := fun i => i = w.heap.size + 1 ∨ G i) HM5.out (fun i hi h => by rcases h with h | h; omega; exact h)).trans (D' := fun i => i = w.heap.size + 1) hm9 (fun i hi h => by omega)
      exact ⟨rfl, G5, hk9.note _, fun i hi => by
        rcases HG5.out i hi with h | h
        · exact .inl h
        · have hs : (w3.setCell ⟨w.heap.size + 1, 0, none⟩ (.int .i64 0)).heap.size = w3.heap.size := by simp
          have := HB3.out.size
          exact .inr (by omega), hmw.setCell (fun _ => HK3.out.at.1) _⟩
    · have hr := HR1.out
      rw [if_pos hnf] at hr
      have HR2 := Lib.hid hr
      clear hr hnf
      go_wp2_with fail
      obtain ⟨w9, hw9⟩ : ∃ w9, w9 = (w3.setCell ⟨w.heap.size + 1, 0, none⟩ (.int .i64 6)).setCell ⟨w.heap.size + 1, 0, none⟩ (.int .i64 6) := ⟨_, rfl⟩
      rw [← hw9]
      have hm9 : Mv (fun i => i = w.heap.size + 1) w3 w9 := by rw [hw9]; exact ((Mv.refl (fun i => i = w.heap.size + 1) w3).setCell (p := ⟨w.heap.size + 1, 0, none⟩) (fun _ => rfl) _).setCell (p := ⟨w.heap.size + 1, 0, none⟩) (fun _ => rfl) _
      have hk9 := HK3.out.mv hm9 (fun i hi h => by have := (HLOW.out.2 i hi).2; omega)
      obtain ⟨vq9, hq9⟩ := hk9.whole
      have he9 : Whole w9 (w.heap.size + 1) 24 [.int .i64 6] := by rw [hw9]; exact (HE3.out.put 0 _).put 0 _
      have hx9 : Whole w9 w.heap.size 59 [.pointer (some ⟨q, 0, none⟩)] := hm9.whole HX3.out (fun h => by omega)
      refine leaves_cons (f := 68) (args := #[.pointer (some ⟨w.heap.size + 1, 0, none⟩), .pointer (some ⟨w.heap.size, 0, none⟩)]) (by simp) (by simp [go_sem]) ?_
      refine (lay1_any (w.heap.size + 1) w.heap.size q 6 _ .returning _ (he9.cell 0 _ rfl) (hx9.cell 0 _ rfl) (hq9.cell 2 _ rfl) (hq9.frozen 2)).mono ?_
      rintro e u' w'' ⟨rfl, rfl, rfl⟩
      have k0 := he9.cell 0 _ rfl
      refine ⟨.int .i64 6, by simp [results, Try.results55, go_sem, k0], ?_⟩
      rw [HR2.out]
      have hmw : Mv G w w9 := (Mv.of_new HB3.out G).trans (D' := fun i => i = w.heap.size + 1) hm9 (fun i hi h => by omega)
      exact ⟨rfl, G, hk9.note _, fun i hi => .inl hi, hmw.setCell (fun _ => HK3.out.at.1) _⟩
end Go.Proofs.Ythoheikbpihflaa
namespace Go.Proofs.Ythoheikbpihflaa
open Go.RowKit

section
variable {α : Type} {enc : α → List Value} {k : Nat} {P : Program}
theorem run_append_new (w : World) (base : Nat) (t ty e : TypeId) (i : TypeInfo) (z : Value) (size bytes : Nat) (ht : P.underlying t = some (.slice e)) (hi : P.info? e = some i) (hz : i.zero = some z)
    (hsize : i.size = size) (hby : i.bytes = bytes) (hzs : z.cells.size = size) (hsz : 0 < size)
    (v : Value) (n : Nat) (xs : List Value) (hown : w.ownsRow base e size v n xs)
    (a : Addr) (m c : Nat) (news : List Value) (hl : news.length = m * size) (hnews : ∀ j u, news[j]? = some u → w.cell? (a.add j) = some u) (h1 : ∀ u ∈ news, u.oneCell' = true)
    (h63 : n + m ≤ maxLen) (hbytes : ((n + m) + (n + m) / 4 + 192) * bytes ≤ 281474976710656) (v' : Value) (w' : World) (hrun : (Builtin.append_ #[t, t] ty #[v, .slice (some a) m c]).run P w = .ok v' w') : NewRow w v.ownBlock v'.ownBlock := by
  subst hsize
  subst hby
  have hsmall : n + m ≤ 9223372036854775807 := by simp only [maxLen] at h63; omega
  rcases hown.2 with ⟨rfl, rfl⟩ | ⟨g, cap, cur, rfl, hbg, hg, hnc, hcm, hcs, htake⟩
  · by_cases hm : m = 0
    · subst hm
      have hn : news = [] := List.eq_nil_of_length_eq_zero (by simpa using hl)
      subst hn
      have hr : (Builtin.append_ #[t, t] ty #[.slice none 0 0, .slice (some a) 0 c]).run P w = .ok (.slice none 0 0) w := by
        simp [Builtin.append_, run_underlying ht, sizeOf, typeInfo, hi, Builtin.lenOf, Builtin.firstCells, loadCells, loadCellsFrom]
      rw [hr] at hrun
      injection hrun with h1 h2
      subst h1
      exact NewRow.refl _ _
    · have hr := run_append_nil (P := P) w t ty e i z ht hi hz a m c news hl hnews (by omega) (by omega) (by have hb := hbytes; simp only [Nat.zero_add] at hb; exact Nat.le_trans (Nat.mul_le_mul_right _ (by omega)) hb)
      rw [hr] at hrun
      injection hrun with h1 h2
      subst h1
      intro g hg
      injection hg with hg
      exact .inr (by simp only at hg; omega)
  · by_cases hroom : n + m ≤ cap
    · have hfit : n * i.size + news.length ≤ cur.size := by rw [hl, hcs, ← Nat.add_mul]; exact Nat.mul_le_mul_right _ hroom
      have hr := run_append_room (P := P) w t ty e i ht hi g n cap cur hg a m c news hl hnews h1 hroom hfit
      rw [hr] at hrun
      injection hrun with h1 h2
      subst h1
      exact fun _ h => .inl h
    · have holds : ∀ j u, xs[j]? = some u → w.cell? ((⟨g, 0, none⟩ : Addr).add j) = some u := hown.cells (g := g) rfl
      have hr := run_append_grow (P := P) w t ty e i z ht hi hz ⟨g, 0, none⟩ n cap xs hown.1 holds a m c news hl hnews (by omega) (by omega) (growslice_fits_wide (by omega) hbytes)
      rw [hr] at hrun
      injection hrun with h1 h2
      subst h1
      intro g2 hg2
      injection hg2 with hg2
      exact .inr (by simp only at hg2; omega)

/-- append to a slice of the call's own; its block is the old one or a new one -/
theorem wp_addAnyN (t e : TypeId) (bytes : Nat) (i0 : TypeInfo) (z : Value) (ht : P.underlying t = some (.slice e)) (hi : P.info? e = some i0) (hz0 : i0.zero = some z) (hz1 : i0.size = k) (hz2 : i0.bytes = bytes) (hzs : z.cells.size = k) (hk0 : 0 < k)
    (hk : ∀ x, (enc x).length = k) (hone : ∀ x, ∀ u ∈ enc x, u.oneCell' = true) {o : Oper} {a : Act} {K : Act → World → Prop} {Q : Exit → Act → World → Prop} {w : World} (s x : Operand)
    (ho : o.op = .call { callee := .builtin .append, args := #[s, x], argTypes := #[t, t] })
    (base : Nat) (v : Value) (l : List α) (hs : a.eval s = v) (hown : Own enc k e w base v l) (B : Nat) (v2 : Value) (p : List α) (hx : a.eval x = v2) (hp : Rd enc k w B v2 p)
    (h63 : l.length + p.length ≤ maxLen) (hbytes : ((l.length + p.length) + (l.length + p.length) / 4 + 192) * bytes ≤ 281474976710656) (hbase : base ≤ w.heap.size)
    (h : ∀ A' c' w', Own enc k e w' base (.slice A' (l ++ p).length c') (l ++ p) → w.grownBy w' v.ownBlock → NewRow w v.ownBlock (Value.ownBlock (.slice A' (l ++ p).length c')) → K (a.put o.dst (.slice A' (l ++ p).length c')) w') : o.wp P a w K Q := by
  obtain ⟨A, c, rfl, hc, hi2⟩ := hp
  have main : ∃ v' w', (Builtin.append_ #[t, t] o.type #[v, .slice A p.length c]).run P w = .ok v' w' ∧ w'.ownsRow base e k v' (l ++ p).length (flatG enc (l ++ p)) ∧ w.grownBy w' v.ownBlock ∧ NewRow w v.ownBlock v'.ownBlock := by
    cases A with
    | none =>
      have hp0 : p = [] := by
        cases p with
        | nil => rfl
        | cons y r =>
          obtain ⟨b, o', hA, _⟩ := hi2 0 (by simp)
          cases hA
      subst hp0
      refine ⟨v, w, ?_, by rw [List.append_nil]; exact hown, ⟨rfl, rfl, rfl, Nat.le_refl _, fun _ _ _ => rfl⟩, NewRow.refl _ _⟩
      rcases hown.2 with ⟨rfl, _⟩ | ⟨g, cap, cur, rfl, _, _, hnc, _⟩
      · simp [Builtin.append_, run_underlying ht, sizeOf, typeInfo, hi, Builtin.lenOf, Builtin.firstCells]
      · simp [Builtin.append_, run_underlying ht, sizeOf, typeInfo, hi, Builtin.lenOf, Builtin.firstCells, hnc, storeCells]
    | some ad =>
      have hcells : ∀ j u, (flatG enc p)[j]? = some u → w.cell? (ad.add j) = some u := by
        intro j u hu
        have hjl : j < p.length * k := by
          rcases Nat.lt_or_ge j (p.length * k) with h' | h'
          · exact h'
          · rw [List.getElem?_eq_none (by rw [flatG_length hk]; exact h')] at hu; cases hu
        have hil : j / k < p.length := by rw [Nat.div_lt_iff_lt_mul hk0]; exact hjl
        obtain ⟨b, o', hA, _, h1⟩ := hi2 (j / k) hil
        have hm : j % k < k := Nat.mod_lt _ hk0
        have e1 : j / k * k + j % k = j := Nat.div_add_mod' j k
        have hg := flatG_get hk p (j / k) hil (j % k) hm
        rw [e1, hu] at hg
        have := h1 (j % k) u hg.symm
        injection hA with hA
        rw [hA]
        have hadd : (⟨b, o', none⟩ : Addr).add j = ⟨b, o' + j, none⟩ := by unfold Addr.add; split <;> simp_all
        rw [hadd, ← this]
        congr 2
        omega
      obtain ⟨v', w', hrun, h2, h3, _⟩ := run_append_own_wide (P := P) w base t o.type e i0 z k bytes ht hi hz0 hz1 hz2 hzs hk0 v l.length (flatG enc l) hown ad p.length c (flatG enc p) (flatG_length hk p) hcells
        (fun u hu => by obtain ⟨y, _, hy⟩ := List.mem_flatMap.1 hu; exact hone y u hy) h63 hbytes hbase
      have h9 := run_append_new (P := P) w base t o.type e i0 z k bytes ht hi hz0 hz1 hz2 hzs hk0 v l.length (flatG enc l) hown ad p.length c (flatG enc p) (flatG_length hk p) hcells
        (fun u hu => by obtain ⟨y, _, hy⟩ := List.mem_flatMap.1 hu; exact hone y u hy) h63 hbytes v' w' hrun
      exact ⟨v', w', hrun, by rw [List.length_append, flatG_append]; exact h2, h3, h9⟩
  obtain ⟨v', w', hrun, h2, h3, h9⟩ := main
  have h4 : Own enc k e w' base v' (l ++ p) := h2
  have hv : ∃ A' c', v' = .slice A' (l ++ p).length c' := by
    rcases h4.form with ⟨hv, h0⟩ | ⟨g, cap, hv, _⟩
    · exact ⟨none, 0, by rw [h0]; exact hv⟩
    · exact ⟨_, _, hv⟩
  obtain ⟨A', c', rfl⟩ := hv
  unfold Oper.wp execOp
  simp only [ho, resolve, invoke, builtin, Sem.run_bind, Sem.run_pure, Result.andThen_ok, List.map_toArray, List.map_cons, List.map_nil, hs, hx, hrun]
  exact h A' c' w' h4 h3 h9

end
end Go.Proofs.Ythoheikbpihflaa
namespace Go.Proofs.Ythoheikbpihflaa
open Go.RowKit

theorem Bks.add_put (b : Bks) (list : List (List UInt8)) : b.add list = if (b.put Tp.addS list).1 = 0 then (0, { (b.put Tp.addS list).2 with l := b.l ++ list }) else b.put Tp.addS list := by
  unfold Bks.add Bks.put Tp.addS
  by_cases h1 : b.dead = true
  · rw [if_pos h1, if_pos h1]; simp
  · rw [if_neg h1, if_neg h1]
    by_cases h2 : fits list
    · simp only [h2, not_true, if_false]
      by_cases h3 : (b.t.add (lay list)).1 = 0
      · simp only [h3, ne_eq, not_true, if_false]
        by_cases h4 : (b.t.add (lay list)).2.sync.1 = 0
        · simp [h4]
        · simp only [h4, not_false_eq_true, if_true, if_false]
      · simp only [h3, ne_eq, not_false_eq_true, if_true, if_false]
    · simp [h2]
theorem Bks.reset_put (b : Bks) (list : List (List UInt8)) : b.reset list = if (b.put Tp.repl list).1 = 0 then (0, { (b.put Tp.repl list).2 with l := list }) else b.put Tp.repl list := by
  unfold Bks.reset Bks.put
  by_cases h1 : b.dead = true
  · rw [if_pos h1, if_pos h1]; simp
  · rw [if_neg h1, if_neg h1]
    by_cases h2 : fits list
    · simp only [h2, not_true, if_false]
      by_cases h3 : (b.t.repl (lay list)).1 = 0
      · simp [h3]
      · simp only [h3, ne_eq, not_false_eq_true, if_true, if_false]
    · simp [h2]

section
variable {ops : Array Oper} {rest : List Oper} {o : Oper} {a : Act} {Q : Exit → Act → World → Prop} {w : World}
set_option maxRecDepth 100000 in
/-- rows appended in a region that draws; their block is the old one or a new one -/
theorem wp_addRN {K : Act → World → Prop} (s x : Operand)
    (ho : o.op = .call { callee := .builtin .append, args := #[s, x], argTypes := #[64, 64] })
    (base : Nat) (v : Value) (l : List Row) (hs : a.eval s = v) (hown : OwnR w base v l) (B : Nat) (v2 : Value) (p : List Row) (hx : a.eval x = v2) (hp : Rd encR 1 w B v2 p)
    (hlen : l.length + p.length ≤ 9000000000000) (hbase : base ≤ w.heap.size)
    (h : ∀ A' c' w', OwnR w' base (.slice A' (l ++ p).length c') (l ++ p) → w.grownBy w' v.ownBlock → NewRow w v.ownBlock (Value.ownBlock (.slice A' (l ++ p).length c')) → K (a.put o.dst (.slice A' (l ++ p).length c')) w') : o.wp Try.prog a w K Q := by
  obtain ⟨i0, hi, hz0, hz1, hz2⟩ := info_parts info_row
  exact wp_addAnyN (enc := encR) (k := 1) 64 56 24 i0 _ Try.underlying64 hi hz0 hz1 hz2 rfl (by decide) encR_len encR_one s x ho base v l hs hown B v2 p hx hp (by unfold maxLen; omega) (by omega) hbase fun A' c' w' h1 h2 h3 => h A' c' w' h1 h2 h3
end

set_option maxRecDepth 100000 in
/-- the book behind a new list of records -/
theorem BkAt.relist {w w3 w4 : World} {base q p : Nat} {G : Nat → Prop} {b : Bks} (hk : BkAt w base q p G b) (h3 : Below w.heap.size w w3) {A A4 : Option Addr} {c n c4 n4 : Nat} {rows0 rows4 : List Row} {vp : Value}
    (hq : Whole w q 83 [vp, .slice A n c, .bool b.dead]) (ho : OwnR w3 base (.slice A n c) rows0) (hm : Mv (fun i => some i = Value.ownBlock (.slice A n c)) w3 w4) (hn : n4 = rows4.length) (ho4 : OwnR w4 base (.slice A4 n4 c4) rows4)
    (hnew : ∀ g, Value.ownBlock (.slice A4 n4 c4) = some g → Value.ownBlock (.slice A n c) = some g ∨ w.heap.size ≤ g) (hh : HoldRs w4 base rows4) (hlen : ∀ r ∈ rows4, r.l.length ≤ 140737488351232)
    (hc : ∀ r ∈ rows4, ∀ g, r.v.ownBlock = some g → (w.heap.size ≤ g ∨ (G g ∧ ∀ ov, TapeAt w base p ov b.t → ov ≠ some g))) :
    ∃ G', BkAt (w4.setCell ⟨q, 1, none⟩ (.slice A4 n4 c4)) base q p G' { b with l := texts rows4 } ∧ (∀ i, G' i → G i ∨ w.heap.size ≤ i) ∧ Mv G w (w4.setCell ⟨q, 1, none⟩ (.slice A4 n4 c4)) := by
  obtain ⟨ov, A', c', n', rows, h1, h2, h3', h4, h5, h6, h7, h8, h9, h10, h11, h12, h13, h14, h15⟩ := hk
  have he : (Value.slice A' n' c') = .slice A n c ∧ vp = .pointer (some ⟨p, 0, none⟩) := by
    have e1 := h1.cell 1 _ rfl
    have e0 := h1.cell 0 _ rfl
    rw [hq.cell 1 _ rfl] at e1
    rw [hq.cell 0 _ rfl] at e0
    injection e1 with e1
    injection e0 with e0
    exact ⟨e1.symm, e0⟩
  obtain ⟨he1, rfl⟩ := he
  injection he1 with g1 g2 g3
  subst g1 g2 g3
  clear h3' h4 h5 h6 h8 h2 h13
  obtain ⟨k1, k2⟩ := h7.apart h1 (by decide) (by decide)
  have hz3 := h3.size
  have hz4 := hm.size
  have hw3 := Mv.of_new h3 (fun _ => False)
  have hq3 : Whole w3 q 83 _ := hw3.whole h1 (fun h => h)
  have hq4 : Whole w4 q 83 _ := hm.whole hq3 (fun h => OwnR.off ho hq3 (by decide) h.symm)
  have ht3 : TapeAt w3 base p ov b.t := h7.mv hw3 (fun h => h) (fun _ _ h => h)
  have ht4 : TapeAt w4 base p ov b.t := by
    refine ht3.mv hm ?_ ?_
    · obtain ⟨A2, c2, hb2, ho2, hv2, _⟩ := ht3
      exact fun h => OwnR.off ho hb2 (by decide) h.symm
    · intro g hg hd
      obtain ⟨A2, c2, hb2, ho2, hv2, _⟩ := ht3
      exact ho2.ne_rows ho g (hv2.trans hg) hd.symm
  obtain ⟨w5, hw5⟩ : ∃ w5, w5 = w4.setCell ⟨q, 1, none⟩ (.slice A4 n4 c4) := ⟨_, rfl⟩
  rw [← hw5]
  have hm5 : Mv (fun i => i = q) w4 w5 := by rw [hw5]; exact (Mv.refl (fun i => i = q) w4).setCell (p := ⟨q, 1, none⟩) (fun _ => rfl) _
  have hz5 : w5.heap.size = w4.heap.size := by rw [hw5]; simp
  refine ⟨fun i => G i ∨ (w.heap.size ≤ i ∧ i < w5.heap.size), ⟨ov, A4, c4, n4, rows4, by rw [hw5]; exact hq4.put 1 _, hn, OwnR.mv ho4 hm5 (fun g hg e => OwnR.off ho4 hq4 (by decide) (e ▸ hg)), hh.mv hm5 (fun r hr g hg e => (hh r hr).apart hq4 (by decide) (e ▸ hg)), rfl, hlen, ht4.mv hm5 (fun e => k1 e.symm) (fun g hg e => k2 (e ▸ hg)), ?_, .inl h9, .inl h10, fun g hg => .inl (h11 g hg), ?_, ?_, by omega, ?_⟩, ?_, ?_⟩
  · intro r hr g hg e
    rcases hc r hr g hg with h | ⟨_, h⟩
    · have := (h7.row e).2; omega
    · exact h ov h7 e
  · intro g hg
    rcases hnew g hg with h | h
    · exact .inl (h12 g h)
    · exact .inr ⟨h, by have := (ho4.low hg).2; omega⟩
  · intro r hr g hg
    rcases hc r hr g hg with h | ⟨h, _⟩
    · exact .inr ⟨h, by have := ((hh r hr).low hg).2; omega⟩
    · exact .inl h
  · rintro i (h | h)
    · have := h15 i h; exact ⟨this.1, by omega⟩
    · exact ⟨by omega, h.2⟩
  · rintro i (h | h)
    · exact .inl h
    · exact .inr h.1
  · refine ((Mv.of_new h3 G).trans hm ?_).trans hm5 ?_
    · intro i hi hd
      exact h12 i hd.symm
    · rintro i hi rfl
      exact h9

end Go.Proofs.Ythoheikbpihflaa
