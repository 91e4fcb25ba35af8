/- The program's records: the same ones in memory of their own. -/
import Derived.Test.YtaenlkopjmgniaaRws
import Derived.Test.YtaenlkopjmgniaaPlanB
namespace Go.Proofs.Ytaenlkopjmgniaa
open Go.RowKit

section
variable {w w' : World} {base base2 : Nat} {v v2 : Value} {l : List UInt8} {rows : List Row}
set_option maxRecDepth 100000 in
/-- bytes and rows of bytes do not lie in one block -/
theorem HoldB.ne_rows (h : HoldB w base v l) (h2 : OwnR w base2 v2 rows) : ∀ g, v.ownBlock = some g → v2.ownBlock ≠ some g := by
  intro g' hg' hg2
  rcases h with ⟨rfl, _⟩ | ⟨g, cap, cur, rfl, hb, hh, r⟩
  · simp [Value.ownBlock] at hg'
  · rcases h2.2 with ⟨rfl, _⟩ | ⟨g2, cap2, cur2, rfl, _, hh2, _⟩
    · simp [Value.ownBlock] at hg2
    · simp only [Value.ownBlock, Option.some.injEq] at hg' hg2
      subst hg' hg2
      rw [hh] at hh2
      injection hh2 with hh2
      injection hh2 with _ ht
      revert ht
      decide
set_option maxRecDepth 100000 in
theorem HoldB.lower (h : HoldB w base v l) (hb : base2 ≤ base) : HoldB w base2 v l := by
  rcases h with h | ⟨g, cap, cur, hv, hg, r⟩
  · exact .inl h
  · exact .inr ⟨g, cap, cur, hv, Nat.le_trans hb hg, r⟩
theorem HoldB.below {B : Nat} (h : HoldB w base v l) (hb : Below B w w') (hB : w.heap.size ≤ B) : HoldB w' base v l :=
  h.mv (D := fun i => B ≤ i) (Mv.of_below hb) (fun g hg hd => by have := (h.low hg).2; omega)
/-- rows that are held, each in its own block or none -/
def HoldRs (w : World) (base : Nat) (rows : List Row) : Prop := ∀ r ∈ rows, HoldB w base r.v r.l
theorem HoldRs.mv {D : Nat → Prop} (h : HoldRs w base rows) (hm : Mv D w w') (hn : ∀ r ∈ rows, ∀ g, r.v.ownBlock = some g → ¬ D g) : HoldRs w' base rows := fun r hr => (h r hr).mv hm (hn r hr)
theorem HoldRs.lower (h : HoldRs w base rows) (hb : base2 ≤ base) : HoldRs w base2 rows := fun r hr => (h r hr).lower hb
theorem HoldRs.below {B : Nat} (h : HoldRs w base rows) (hb : Below B w w') (hB : w.heap.size ≤ B) : HoldRs w' base rows := fun r hr => (h r hr).below hb hB
/-- what grows a slice of rows leaves the bytes -/
theorem HoldRs.grown {rows2 : List Row} (h : HoldRs w base rows) (ho : OwnR w base2 v2 rows2) (hg : w.grownBy w' v2.ownBlock) : HoldRs w' base rows :=
  h.mv (Mv.of_grown hg) (fun r hr g hg2 hd => (h r hr).ne_rows ho g hg2 hd.symm)
theorem HoldRs.nil (w : World) (base : Nat) : HoldRs w base [] := fun r hr => by simp at hr
theorem HoldRs.append {rows2 : List Row} (h : HoldRs w base rows) (h2 : HoldRs w base rows2) : HoldRs w base (rows ++ rows2) := fun r hr => by
  rcases List.mem_append.1 hr with hr | hr
  · exact h r hr
  · exact h2 r hr
theorem HoldB.rdBG {G : Nat → Prop} (h : HoldB w base v l) (hG : ∀ g, v.ownBlock = some g → ¬ G g) : RdBG w w.heap.size G v l := by
  obtain ⟨A, c, hv, hc, hi⟩ := h.rdB.at
  refine ⟨A, c, hv, hc, fun i hs => ?_⟩
  obtain ⟨b, o, hA, hb, h1⟩ := hi i hs
  exact ⟨b, o, hA, hb, hG b (by rw [hv, hA]; rfl), h1⟩
/-- rows of the call's own, read -/
theorem OwnR.held {G : Nat → Prop} (h : OwnR w base v rows) (hr : HoldRs w base2 rows) (h1 : ∀ g, v.ownBlock = some g → ¬ G g) (h2 : ∀ r ∈ rows, ∀ g, r.v.ownBlock = some g → ¬ G g) : RdRs w w.heap.size G v rows := by
  refine ⟨?_, fun r hx => (hr r hx).rdBG (h2 r hx)⟩
  obtain ⟨A, c, hv, hc, hi⟩ := Own.rd encR_len h
  refine ⟨A, c, hv, hc, fun i hs => ?_⟩
  obtain ⟨b, o, hA, hb, h3⟩ := hi i hs
  exact ⟨b, o, hA, hb, h1 b (by rw [hv, hA]; rfl), by have := h3 0 _ rfl; simpa using this⟩
theorem texts_append (a b : List Row) : texts (a ++ b) = texts a ++ texts b := by simp [texts]
end

set_option maxRecDepth 100000 in
/-- a literal of one row -/
theorem RdR.one (w : World) (r : Row) : Rd encR 1 (w.alloc (.cells #[r.v] 36)) (w.heap.size + 1) (.slice (some ⟨w.heap.size, 0, none⟩) 1 1) [r] := by
  refine ⟨_, 1, rfl, Nat.le_refl _, fun i hi => ⟨w.heap.size, 0, rfl, Nat.lt_succ_self _, fun j u hu => ?_⟩⟩
  obtain rfl : i = 0 := by simp at hi; omega
  match j, hu with
  | 0, hu =>
    simp only [encR, List.getElem_cons_zero, List.getElem?_cons_zero, Option.some.injEq] at hu
    subst hu
    exact World.cell?_alloc_at _ _ _ _ rfl
  | j + 1, hu => simp [encR] at hu

set_option maxHeartbeats 4000000 in
set_option maxRecDepth 100000 in
theorem bfresh_any (rows : List Row) (G : Nat → Prop) (v : Value) (w : World) (hv : RdRs w w.heap.size G v rows) (hl : rows.length ≤ 4000000) (hr : ∀ r ∈ rows, r.l.length ≤ 140737488351232) :
    Calls Try.prog 25 #[v] w fun e w' => ∃ A c n, e = .returned (.slice A n c) ∧ ∃ rows', n = rows'.length ∧ OwnR w' w.heap.size (.slice A n c) rows' ∧ HoldRs w' w.heap.size rows' ∧ texts rows' = texts rows ∧ Below w.heap.size w w' := by
  obtain ⟨A, c, rfl, hc, -⟩ := hv.1
  have HV := Lib.hid hv; clear hv
  have HR := Lib.hid hr; clear hr
  have hLl : (texts rows).length = rows.length := by simp [texts]
  have HLL := Lib.hid hLl; clear hLl
  go_enter Try.func25, Try.ntmps25
  go_wp2_with fail
  go_loopw [3, 8] (fun ov iv wr => ∃ (i : Nat) (A' : Option Addr) (c' n : Nat) (rows' : List Row), i ≤ rows.length ∧ iv = .int .i64 (i : Int) ∧ ov = .slice A' n c' ∧ n = rows'.length ∧ OwnR wr w.heap.size (.slice A' n c') rows' ∧ HoldRs wr w.heap.size rows' ∧ texts rows' = (texts rows).take i ∧ Below w.heap.size w wr) (fun _ iv _ => rows.length - (intOf iv).toNat)
  case atStart => exact ⟨0, _, _, 0, [], Nat.zero_le _, rfl, rfl, rfl, Own.nil _ _, HoldRs.nil _ _, rfl, Below.refl _ _⟩
  case round =>
    obtain ⟨i, A', c', n, rows', hi, rfl, rfl, hn, ho, hh, ht, hb⟩ := hrel
    have hbs := hb.size
    have hni : n = i := by
      have := congrArg List.length ht
      rw [List.length_take, HLL.out] at this
      rw [hn]; simp [texts] at this; omega
    by_cases hgo : i < rows.length
    · have h1 : (i : Int) < (rows.length : Int) := by omega
      have hrs := HV.out.mv (Mv.of_below hb) (Nat.le_refl _) (fun b h1 h2 => by omega)
      obtain ⟨⟨A0, c0, e0, -, hcell⟩, hrow⟩ := hrs
      injection e0 with e1 e2 e3
      subst e1 e3
      obtain ⟨b, o, rfl, hbl, -, q0⟩ := hcell i hgo
      have hrd := (hrow rows[i] (List.getElem_mem hgo)).rdB
      have hbig : rows[i].l.length ≤ 140737488351232 := HR.out _ (List.getElem_mem hgo)
      have hnext : (texts rows).take (i + 1) = (texts rows).take i ++ [rows[i].l] := by
        rw [List.take_add_one, List.getElem?_eq_getElem (by rw [HLL.out]; exact hgo)]
        simp [texts]
      have HNX := Lib.hid hnext
      clear hnext hcell hrow e2
      generalize rows[i] = r at q0 hrd hbig HNX
      obtain ⟨ra, rc, rl⟩ := r
      simp only [Row.v] at q0 hrd hbig HNX
      have HO := Lib.hid ho
      have HH := Lib.hid hh
      have HT := Lib.hid ht
      have HB := Lib.hid hb
      have HN := Lib.hid hn
      have HRD := Lib.hid hrd
      have HNI := Lib.hid hni
      clear ho hh ht hb hn hrd hni
      go_wp2_with (at_builtin; go_must (refine wpList_addBG rfl _ _ rfl wr.heap.size _ [] rfl (Own.nil _ _) w.heap.size _ rl rfl HRD.out (by simp only [List.length_nil]; omega) (Nat.le_refl _) ?_))
      intro A1 c1 w1 ho1 hg1
      have hho : HoldB w1 w.heap.size (.slice A1 rl.length c1) rl := (HoldB.ofOwn (show OwnB w1 wr.heap.size (.slice A1 rl.length c1) rl from ho1.out)).lower hbs
      have hB1 : Below wr.heap.size wr w1 := (Below.refl _ wr).grown hg1.out (Nat.le_refl _) (by simp [Value.ownBlock])
      have HO1 := Lib.hid (HO.out.below hB1 (Nat.le_refl _))
      have HH1 := Lib.hid (HH.out.below hB1 (Nat.le_refl _))
      have HHO := Lib.hid hho
      have HB1 := Lib.hid (HB.out.trans (hB1.mono hbs))
      have hbs1 := HB1.out.size
      clear hho hB1 hg1 ho1
      obtain ⟨w2, hw2⟩ : ∃ w2, w2 = w1.alloc (.cells #[.slice A1 rl.length c1] 36) := ⟨_, rfl⟩
      have hone : Rd encR 1 w2 (w1.heap.size + 1) (.slice (some ⟨w1.heap.size, 0, none⟩) 1 1) [⟨A1, c1, rl⟩] := by rw [hw2]; exact RdR.one w1 ⟨A1, c1, rl⟩
      have hB2 : Below w1.heap.size w1 w2 := by rw [hw2]; exact (Below.refl _ w1).alloc (Nat.le_refl _) _
      have HO2 := Lib.hid (HO1.out.below hB2 (Nat.le_refl _))
      have HH2 := Lib.hid (HH1.out.below hB2 (Nat.le_refl _))
      have HHO2 := Lib.hid (HHO.out.below hB2 (Nat.le_refl _))
      have HB2 := Lib.hid (HB1.out.trans (hB2.mono hbs1))
      have HONE := Lib.hid hone
      have HW2 := Lib.hid hw2
      clear hone hB2 hw2
      have hnl : rows'.length + 1 ≤ 9000000000000 := by have := HNI.out; have := HN.out; omega
      have hOO : OwnR w2 w.heap.size (.slice A' n c') rows' := HO2.out
      rw [HN.out] at hOO
      go_wp2_with (at_builtin; go_must (refine wpList_addR rfl _ _ rfl w.heap.size (.slice A' n c') rows' rfl ?x1 (w1.heap.size + 1) _ [⟨A1, c1, rl⟩] rfl ?x2 (by show _ + 1 ≤ _; exact hnl) ?x3 ?_))
      case x1 => rw [← HW2.out]; exact HO2.out
      case x2 => rw [← HW2.out]; exact HONE.out
      case x3 => have := HB2.out.size; rw [HW2.out] at this; exact this
      rw [← HW2.out]
      intro A3 c3 w3 ho3 hg3
      have HO3 := Lib.hid ho3.out
      have HH3 := Lib.hid ((HH2.out.append (show HoldRs w2 w.heap.size [⟨A1, c1, rl⟩] from fun r hr => by rw [List.mem_singleton.1 hr]; exact HHO2.out)).grown HO2.out hg3.out)
      have HB3 := Lib.hid (HO2.out.grown HB2.out hg3.out (Nat.le_refl _) HB2.out.size)
      have ht3 : texts (rows' ++ [⟨A1, c1, rl⟩]) = (texts rows).take (i + 1) := by rw [texts_append, HT.out, HNX.out]; rfl
      have HT3 := Lib.hid ht3
      clear ho3 hg3 ht3 hOO
      obtain ⟨n3, hn3⟩ : ∃ n3, n3 = rows'.length + 1 := ⟨_, rfl⟩
      rw [← hn3] at HO3 ⊢
      have HN3 := Lib.hid (show n3 = (rows' ++ [(⟨A1, c1, rl⟩ : Row)]).length by rw [hn3]; simp); clear hn3
      go_wp2_with fail
      go_roundw
      case rel => exact ⟨i + 1, A3, c3, n3, _, by omega, by go_num, rfl, HN3.out, HO3.out, HH3.out, HT3.out, HB3.out⟩
      case measure => simp [intOf]; omega
    · have h1 : ¬ (i : Int) < (rows.length : Int) := by omega
      have hie : (texts rows).take i = texts rows := List.take_of_length_le (by rw [HLL.out]; omega)
      rw [hie] at ht
      have HO := Lib.hid ho
      have HH := Lib.hid hh
      have HT := Lib.hid ht
      have HB := Lib.hid hb
      have HN := Lib.hid hn
      clear ho hh ht hb hn hie hni
      go_wp2_with fail
      go_ret
      exact ⟨A', c', n, rfl, rows', HN.out, HO.out, HH.out, HT.out, HB.out⟩
end Go.Proofs.Ytaenlkopjmgniaa
