/- The program's book at its blocks, over its tape; what its Records answer. -/
import Derived.Test.YtaenlkopjmgniaaPF
import Derived.Test.YtaenlkopjmgniaaBk
import Derived.Test.YtaenlkopjmgniaaPU
namespace Go.Proofs.Ytaenlkopjmgniaa
open Go.RowKit

/-- the book at block q over the tape at block p; its blocks and the tape's are among G -/
def BkAt (w : World) (base q p : Nat) (G : Nat → Prop) (b : Bks) : Prop :=
  ∃ (ov : Option Nat) (A : Option Addr) (c n : Nat) (rows : List Row), Whole w q 53 [.pointer (some ⟨p, 0, none⟩), .slice A n c, .bool b.dead] ∧ n = rows.length ∧ OwnR w base (.slice A n c) rows ∧ HoldRs w base rows ∧ texts rows = b.l ∧
    (∀ r ∈ rows, r.l.length ≤ 140737488351232) ∧ TapeAt w base p ov b.t ∧ (∀ r ∈ rows, ∀ g, r.v.ownBlock = some g → ov ≠ some g) ∧
    G q ∧ G p ∧ (∀ g, ov = some g → G g) ∧ (∀ g, Value.ownBlock (.slice A n c) = some g → G g) ∧ (∀ r ∈ rows, ∀ g, r.v.ownBlock = some g → G g) ∧ base ≤ w.heap.size ∧ ∀ i, G i → base ≤ i ∧ i < w.heap.size
theorem TapeAt.uniq {w : World} {base p : Nat} {ov ov2 : Option Nat} {t t2 : Tp} (h : TapeAt w base p ov t) (h2 : TapeAt w base p ov2 t2) : ov = ov2 := by
  obtain ⟨A, c, hb, _, hv, _⟩ := h
  obtain ⟨A2, c2, hb2, _, hv2, _⟩ := h2
  have h3 := hb.cell 1 _ rfl
  rw [hb2.cell 1 _ rfl] at h3
  injection h3 with h3
  rw [← hv, ← hv2, h3]
section
variable {w w' : World} {base q p : Nat} {G : Nat → Prop} {b : Bks}
theorem BkAt.tape (h : BkAt w base q p G b) : ∃ ov, TapeAt w base p ov b.t ∧ ∀ i, TapeD p ov i → G i := by
  obtain ⟨ov, A, c, n, rows, h1, h2, h3, h4, h5, h6, h7, h8, h9, h10, h11, h12, h13, h14, h15⟩ := h
  refine ⟨ov, h7, ?_⟩
  rintro i (rfl | hi)
  · exact h10
  · exact h11 i hi.symm
theorem BkAt.low (h : BkAt w base q p G b) : base ≤ w.heap.size ∧ ∀ i, G i → base ≤ i ∧ i < w.heap.size := by
  obtain ⟨ov, A, c, n, rows, h1, h2, h3, h4, h5, h6, h7, h8, h9, h10, h11, h12, h13, h14, h15⟩ := h
  exact ⟨h14, h15⟩
theorem BkAt.at (h : BkAt w base q p G b) : G q ∧ G p := by
  obtain ⟨ov, A, c, n, rows, h1, h2, h3, h4, h5, h6, h7, h8, h9, h10, h11, h12, h13, h14, h15⟩ := h
  exact ⟨h9, h10⟩
theorem OwnR.mv {D : Nat → Prop} {v : Value} {rows : List Row} (h : OwnR w base v rows) (hm : Mv D w w') (hn : ∀ g, v.ownBlock = some g → ¬ D g) : OwnR w' base v rows := by
  refine ⟨h.1, ?_⟩
  rcases h.2 with h2 | ⟨g, cap, cur, rfl, hb, hh, r⟩
  · exact .inl h2
  · exact .inr ⟨g, cap, cur, rfl, hb, (hm.block g (Array.getElem?_eq_some_iff.1 hh).1 (hn g rfl)).trans hh, r⟩
theorem BkAt.mv {D : Nat → Prop} (h : BkAt w base q p G b) (hm : Mv D w w') (hn : ∀ i, G i → ¬ D i) : BkAt w' base q p G b := by
  obtain ⟨ov, A, c, n, rows, h1, h2, h3, h4, h5, h6, h7, h8, h9, h10, h11, h12, h13, h14, h15⟩ := h
  exact ⟨ov, A, c, n, rows, hm.whole h1 (hn q h9), h2, OwnR.mv h3 hm (fun g hg => hn g (h12 g hg)), h4.mv hm (fun r hr g hg => hn g (h13 r hr g hg)), h5, h6, h7.mv hm (hn p h10) (fun g hg => hn g (h11 g hg)), h8, h9, h10, h11, h12, h13, Nat.le_trans h14 hm.size,
    fun i hi => ⟨(h15 i hi).1, Nat.lt_of_lt_of_le (h15 i hi).2 hm.size⟩⟩
set_option maxRecDepth 100000 in
/-- rows and a block of another type -/
theorem OwnR.off {v : Value} {rows : List Row} (h : OwnR w base v rows) {g : Nat} {T : TypeId} {cs : List Value} (hg : Whole w g T cs) (hne : 36 ≠ T) : v.ownBlock ≠ some g := fun he => Own.apart h hg hne he.symm
set_option maxRecDepth 100000 in
theorem BkAt.went {ov ov' : Option Nat} {t' : Tp} (h : BkAt w base q p G b) (ht : TapeAt w base p ov b.t) (hw : Went w w' base p ov t' ov') : ∃ G', BkAt w' base q p G' { b with t := t' } ∧ ∀ i, G' i → G i ∨ w.heap.size ≤ i := by
  obtain ⟨ov2, A, c, n, rows, h1, h2, h3, h4, h5, h6, h7, h8, h9, h10, h11, h12, h13, h14, h15⟩ := h
  obtain rfl := ht.uniq h7
  obtain ⟨hnow, hm, hnew⟩ := hw
  obtain ⟨k1, k2⟩ := ht.apart h1 (by decide) (by decide)
  have hD : ∀ g, (g ≠ p ∧ ov ≠ some g) → ¬ TapeD p ov g := by
    rintro g ⟨a1, a2⟩ (a | a)
    · exact a1 a
    · exact a2 a.symm
  have hrows : ∀ g, Value.ownBlock (.slice A n c) = some g → g ≠ p ∧ ov ≠ some g := by
    intro g hg
    obtain ⟨A2, c2, hb2, ho2, hv2, _⟩ := ht
    refine ⟨fun e => OwnR.off h3 hb2 (by decide) (e ▸ hg), fun e => ?_⟩
    exact ho2.ne_rows h3 g (hv2.trans e) hg
  have hcont : ∀ r ∈ rows, ∀ g, r.v.ownBlock = some g → g ≠ p ∧ ov ≠ some g := by
    intro r hr g hg
    obtain ⟨A2, c2, hb2, ho2, hv2, _⟩ := ht
    exact ⟨fun e => (h4 r hr).apart hb2 (by decide) (e ▸ hg), h8 r hr g hg⟩
  refine ⟨fun i => G i ∨ ov' = some i, ⟨ov', A, c, n, rows, hm.whole h1 (hD q ⟨k1, k2⟩), h2, OwnR.mv h3 hm (fun g hg => hD g (hrows g hg)), h4.mv hm (fun r hr g hg => hD g (hcont r hr g hg)), h5, h6, hnow, ?_, .inl h9, .inl h10, fun g hg => .inr hg, fun g hg => .inl (h12 g hg), fun r hr g hg => .inl (h13 r hr g hg), Nat.le_trans h14 hm.size, ?_⟩, ?_⟩
  · exact fun r hr g hg => hnew.out (h15 g (h13 r hr g hg)).2 (h8 r hr g hg)
  · rintro i (hi | hi)
    · exact ⟨(h15 i hi).1, Nat.lt_of_lt_of_le (h15 i hi).2 hm.size⟩
    · exact hnow.row hi
  · rintro i (hi | hi)
    · exact .inl hi
    · rcases hnew i hi with h | h
      · exact .inl (h11 i h)
      · exact .inr h
end

set_option maxHeartbeats 1000000 in
set_option maxRecDepth 100000 in
theorem brec_any (base q p : Nat) (G : Nat → Prop) (b : Bks) (w : World) (h : BkAt w base q p G b) (hl : b.l.length ≤ 4000000) :
    Calls Try.prog 14 #[.pointer (some ⟨q, 0, none⟩)] w fun e w' => ∃ A c rows, e = .returned (.slice A rows.length c) ∧ RdRs w' w'.heap.size (fun i => i < w.heap.size) (.slice A rows.length c) rows ∧ texts rows = b.l ∧ Below w.heap.size w w' := by
  obtain ⟨ov, A, c, n, rows, h1, h2, h3, h4, h5, h6, h7, h8, h9, h10, h11, h12, h13, h14, h15⟩ := h
  have c1 := h1.cell 1 _ rfl
  have hrd : RdRs w w.heap.size (fun _ => False) (.slice A n c) rows := OwnR.held h3 h4 (fun _ _ h => h) (fun _ _ _ _ h => h)
  have hrl : rows.length ≤ 4000000 := by have := congrArg List.length h5; simp [texts] at this; omega
  have HF := Lib.hid (bfresh_any rows _ _ w hrd hrl h6)
  have H5 := Lib.hid h5
  clear h1 h2 h3 h4 h5 h6 h7 h8 h9 h10 h11 h12 h13 h14 h15 hrd
  go_enter Try.func14, Try.ntmps14
  go_wp2_with fail
  refine HF.out.mono ?_
  rintro e w1 ⟨A1, c1', n1, rfl, rows1, rfl, ho, hh, ht, hb⟩
  have hrs : RdRs w1 w1.heap.size (fun i => i < w.heap.size) (.slice A1 rows1.length c1') rows1 := OwnR.held ho hh (fun g hg hd => by have := (ho.low hg).1; omega) (fun r hr g hg hd => by have := ((hh r hr).low hg).1; omega)
  have HS := Lib.hid hrs
  have HT := Lib.hid (ht.trans H5.out)
  have HB := Lib.hid hb
  clear ho hh ht hb hrs
  go_wp2_with fail
  go_ret
  exact ⟨A1, c1', rows1, rfl, HS.out, HT.out, HB.out⟩

set_option maxHeartbeats 1000000 in
set_option maxRecDepth 100000 in
theorem bnone_rec (w : World) : Calls Try.prog 14 #[.pointer none] w fun e w' => ∃ A c, e = .returned (.slice A 0 c) ∧ Below w.heap.size w w' := by
  go_enter Try.func14, Try.ntmps14
  go_wp2_with fail
  go_ret
  exact ⟨none, 0, rfl, Below.refl _ _⟩
end Go.Proofs.Ytaenlkopjmgniaa
