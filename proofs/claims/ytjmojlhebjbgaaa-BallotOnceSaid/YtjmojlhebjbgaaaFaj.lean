/- The program's ballots: Encode. Bytes that may have been cut off ahead of their block's end; what moves and what stays. The program's ballots: ballots out of bytes. The program's ballots: getBallots. -/
import Derived.Test.YtjmojlhebjbgaaaFai
import Derived.Test.YtjmojlhebjbgaaaFac
import Derived.Test.YtjmojlhebjbgaaaFah
namespace Go.Proofs.Ytjmojlhebjbgaaa
open Go.RowKit

theorem pputS_any (x : Sta) (hr : x.gen < 9223372036854775808 ∧ x.epoch < 9223372036854775808 ∧ x.recd < 9223372036854775808) (hft : x.chests.length < 4611686018427387904) (v : Value) (w : World) (hv : RdI w w.heap.size v x.chests) :
    Calls Try.prog 28 #[sval x v] w fun e w' => ∃ v', e = .returned (.tuple #[v', .int .i64 (putSta x).2]) ∧ RdB w' w'.heap.size v' (putSta x).1 ∧ Below w.heap.size w w' := by
  unfold putSta
  by_cases hs : soundS x
  · rw [if_pos hs]
    exact pputS_ok x hs hr hft v w hv
  · rw [if_neg hs]
    refine (pputS_bad x hs hr hft v w hv).mono ?_
    rintro e w' ⟨rfl, hb⟩
    exact ⟨_, rfl, Rd.nil _ _, hb⟩
/-- what the four numbers and the state say of the vow -/
theorem encV_cases (x : Vw) (hf : x.fits) : ((numsAns [x.prom.1, x.prom.2, x.at'.1, x.at'.2]).2 ≠ 0 ∧ encV x = ([], 2)) ∨ ((numsAns [x.prom.1, x.prom.2, x.at'.1, x.at'.2]).2 = 0 ∧ (putSta x.took).2 ≠ 0 ∧ encV x = ([], 2)) ∨
    ((numsAns [x.prom.1, x.prom.2, x.at'.1, x.at'.2]).2 = 0 ∧ (putSta x.took).2 = 0 ∧ lessB x.prom x.at' = true ∧ encV x = ([], 2)) ∨
    ((numsAns [x.prom.1, x.prom.2, x.at'.1, x.at'.2]).2 = 0 ∧ (putSta x.took).2 = 0 ∧ lessB x.prom x.at' = false ∧ encV x = ((numsAns [x.prom.1, x.prom.2, x.at'.1, x.at'.2]).1 ++ (putSta x.took).1, 0) ∧ (numsAns [x.prom.1, x.prom.2, x.at'.1, x.at'.2]).1.length ≤ 36 ∧ (putSta x.took).1.length ≤ 1000) := by
  by_cases h4 : 0 ≤ x.prom.1 ∧ 0 ≤ x.prom.2 ∧ 0 ≤ x.at'.1 ∧ 0 ≤ x.at'.2
  · have hn := nums4 h4
    have hl := encs4_len hf.1
    by_cases hs : soundS x.took
    · have hp : putSta x.took = (staB x.took, 0) := by unfold putSta; rw [if_pos hs]
      cases hL : lessB x.prom x.at' with
      | true =>
        refine .inr (.inr (.inl ⟨by rw [hn], by rw [hp], rfl, ?_⟩))
        unfold encV
        rw [if_neg]
        rintro ⟨_, _, h⟩
        rw [h] at hL
        cases hL
      | false =>
        refine .inr (.inr (.inr ⟨by rw [hn], by rw [hp], rfl, ?_, by rw [hn]; exact hl, by rw [hp]; exact staB_len hs hf.2⟩))
        unfold encV
        rw [if_pos ⟨h4, hs, hL⟩, hn, hp]
        rfl
    · refine .inr (.inl ⟨by rw [hn], by unfold putSta; rw [if_neg hs]; decide, ?_⟩)
      unfold encV
      rw [if_neg]
      rintro ⟨_, h, _⟩
      exact hs h
  · refine .inl ⟨?_, ?_⟩
    · unfold numsAns
      rw [if_neg (by simp), if_pos (by simp; omega)]
      decide
    · unfold encV
      rw [if_neg]
      rintro ⟨h, _, _⟩
      exact h4 h

set_option maxHeartbeats 4000000 in
set_option maxRecDepth 100000 in
theorem vencode_any (x : Vw) (v : Value) (w : World) (hv : RdI w w.heap.size v x.took.chests) (hl : x.took.chests.length ≤ 17592186043904) (hf : x.fits) :
    Calls Try.prog 20 #[vwv x v] w fun e w' => ∃ v', e = .returned (.tuple #[v', .int .i64 (encV x).2]) ∧ RdB w' w'.heap.size v' (encV x).1 ∧ Below w.heap.size w w' := by
  have hcs := encV_cases x hf
  have hfi := hf.1
  have hpb := fun W v' (h : RdBl W W.heap.size v' [x.prom, x.at']) => putBallots_any [x.prom, x.at'] (by
    intro n hn
    simp only [balNums, List.flatMap_cons, List.flatMap_nil, List.mem_append, List.mem_cons, List.not_mem_nil, or_false] at hn
    omega) (by simp) v' W h
  have hps := fun W (h : RdI W W.heap.size v x.took.chests) => pputS_any x.took hf.2 (by omega) v W h
  rw [show balNums [x.prom, x.at'] = [x.prom.1, x.prom.2, x.at'.1, x.at'.2] from rfl] at hpb
  generalize numsAns [x.prom.1, x.prom.2, x.at'.1, x.at'.2] = R at hcs hpb
  generalize putSta x.took = S at hcs hps
  generalize encV x = E at hcs ⊢
  obtain ⟨R1, R2⟩ := R
  obtain ⟨S1, S2⟩ := S
  have hv0 := hv
  obtain ⟨A0, c0, rfl, _, _⟩ := hv0.at
  obtain ⟨⟨p1, p2⟩, ⟨a1, a2⟩, ⟨g, ep, rc, ch⟩⟩ := x
  have hl0 := fun W => pless_any (p1, p2) (a1, a2) W
  unfold vwv
  unfold blv at hl0
  unfold sval at hps
  simp only at hcs hpb hps hl0 hv ⊢
  generalize lessB (p1, p2) (a1, a2) = r at hcs hl0
  have HL := Lib.hid hl0
  have HPS := Lib.hid hps
  have HCS := Lib.hid hcs
  clear hl0 hps hcs hfi hf hl hv0
  obtain ⟨w1, hw1⟩ : ∃ w1, w1 = w.alloc (.cells #[.int .i64 p1, .int .i64 p2, .int .i64 a1, .int .i64 a2, .int .i64 g, .int .i64 ep, .int .i64 rc, .slice A0 ch.length c0] 31) := ⟨_, rfl⟩
  obtain ⟨w2, hw2⟩ : ∃ w2, w2 = w1.alloc (.cells #[.int .i64 p1, .int .i64 p2, .int .i64 a1, .int .i64 a2] 23) := ⟨_, rfl⟩
  have hs1 : w1.heap.size = w.heap.size + 1 := by rw [hw1]; simp
  have hs2 : w2.heap.size = w.heap.size + 1 + 1 := by rw [hw2, World.size_alloc, hs1]
  have hX : Whole w2 w.heap.size 31 [.int .i64 p1, .int .i64 p2, .int .i64 a1, .int .i64 a2, .int .i64 g, .int .i64 ep, .int .i64 rc, .slice A0 ch.length c0] := by
    rw [hw2, hw1]; exact (Whole.fresh w _ [.int .i64 p1, .int .i64 p2, .int .i64 a1, .int .i64 a2, .int .i64 g, .int .i64 ep, .int .i64 rc, .slice A0 ch.length c0]).alloc _
  have hb2 : Below w.heap.size w w2 := by rw [hw2, hw1]; exact ((Below.refl _ w).alloc (Nat.le_refl _) _).alloc (by simp) _
  have hRB : RdBl w2 w2.heap.size (.slice (some ⟨w.heap.size + 1, 0, none⟩) 2 2) [(p1, p2), (a1, a2)] := by
    rw [hw2, World.size_alloc, ← hs1]; exact RdBl.two w1 p1 p2 a1 a2
  have HPB := Lib.hid (hpb w2 _ hRB)
  have HV := Lib.hid hv
  have HX := Lib.hid hX
  have HB2 := Lib.hid hb2
  have HS2 := Lib.hid hs2
  clear hpb hRB hv hX hb2 hs2 hs1
  go_enter Try.func20, Try.ntmps20
  go_wp2_with fail
  rw [← hw1, ← hw2]
  clear hw1 hw2
  refine HPB.out.mono ?_
  rintro e w3 ⟨v3, rfl, ho3, hb3⟩
  have hs2 := HS2.out
  have hX3 := HX.out.below hb3 (by omega)
  have HB3 := Lib.hid (HB2.out.trans (hb3.mono (by omega)))
  have HO3 := Lib.hid ho3
  have HC := Lib.hid (HPS.out w3 ((HV.out.below HB3.out (Nat.le_refl _)).mono HB3.out.size))
  have hz3 : w2.heap.size ≤ w3.heap.size := hb3.size
  have x4 := hX3.cell 4 _ rfl
  have x5 := hX3.cell 5 _ rfl
  have x6 := hX3.cell 6 _ rfl
  have x7 := hX3.cell 7 _ rfl
  have HX3 := Lib.hid hX3
  clear hX3 ho3 hb3
  go_wp2_with fail
  refine HC.out.mono ?_
  rintro e w4 ⟨v4, rfl, hr4, hb4⟩
  have hX4 := HX3.out.below hb4 (by omega)
  have HB4 := Lib.hid (HB3.out.trans (hb4.mono (by omega)))
  have HO4 := Lib.hid (HO3.out.below hb4 (Nat.le_refl _))
  have HR4 := Lib.hid hr4
  have hz4 : w3.heap.size ≤ w4.heap.size := hb4.size
  clear hr4 hb4 x4 x5 x6 x7
  rcases HCS.out with ⟨h1, hE⟩ | ⟨h1, h2, hE⟩ | ⟨h1, h2, h3, hE⟩ | ⟨h1, h2, h3, hE, hn1, hn2⟩
  · have HE := Lib.hid hE
    clear hE HCS hX4
    go_wp2_with fail
    go_ret2
    exact ⟨_, by rw [HE.out]; rfl, by rw [HE.out]; exact Rd.nil _ _, HB4.out⟩
  · have HE := Lib.hid hE
    clear hE HCS hX4
    subst h1
    go_wp2_with fail
    go_ret2
    exact ⟨_, by rw [HE.out]; rfl, by rw [HE.out]; exact Rd.nil _ _, HB4.out⟩
  · have HE := Lib.hid hE
    subst h1 h2
    rw [h3] at HL
    have x0 := hX4.cell 0 _ rfl
    have x1 := hX4.cell 1 _ rfl
    have x2 := hX4.cell 2 _ rfl
    have x3 := hX4.cell 3 _ rfl
    clear hE HCS hX4 h3
    go_wp2_with fail
    refine (HL.out w4).mono ?_
    rintro e w5 ⟨rfl, hb5⟩
    have HB5 := Lib.hid (HB4.out.trans (hb5.mono (by omega)))
    clear hb5 x0 x1 x2 x3
    go_wp2_with fail
    go_ret2
    exact ⟨_, by rw [HE.out]; rfl, by rw [HE.out]; exact Rd.nil _ _, HB5.out⟩
  · have HE := Lib.hid hE
    subst h1 h2
    rw [h3] at HL
    have x0 := hX4.cell 0 _ rfl
    have x1 := hX4.cell 1 _ rfl
    have x2 := hX4.cell 2 _ rfl
    have x3 := hX4.cell 3 _ rfl
    have HN := Lib.hid (show R1.length + S1.length ≤ 100000 from by omega)
    clear hE HCS hX4 h3 hn1 hn2
    go_wp2_with fail
    refine (HL.out w4).mono ?_
    rintro e w5 ⟨rfl, hb5⟩
    have HB5 := Lib.hid (HB4.out.trans (hb5.mono (by omega)))
    have HO5 := Lib.hid ((HO4.out.below hb5 (Nat.le_refl _)).lower (base' := w.heap.size) (by omega))
    have HR5 := Lib.hid (HR4.out.below hb5 (Nat.le_refl _))
    have HZ := Lib.hid HB5.out.size
    clear hb5 x0 x1 x2 x3
    go_wp2_with (at_builtin; go_must (refine wpList_addB rfl _ _ rfl w.heap.size v3 R1 rfl HO5.out w4.heap.size v4 S1 rfl HR5.out (by have := HN.out; omega) HZ.out w.heap.size w HB5.out (Nat.le_refl _) ?_))
    intro A6 c6 w6 ho6 hb6 _
    go_wp2_with fail
    go_ret2
    exact ⟨_, by rw [HE.out]; rfl, by rw [HE.out]; exact ho6.out.rdB, hb6.out⟩
end Go.Proofs.Ytjmojlhebjbgaaa
namespace Go.Proofs.Ytjmojlhebjbgaaa
open Go.RowKit

/-- of the blocks that were there those of D alone have moved -/
structure Mv (D : Nat → Prop) (w w' : World) : Prop where
  os : w'.os = w.os
  tape : w'.tape = w.tape
  output : w'.output = w.output
  size : w.heap.size ≤ w'.heap.size
  block : ∀ i, i < w.heap.size → ¬ D i → w'.heap[i]? = w.heap[i]?
namespace Mv
variable {D D' : Nat → Prop} {w w' w2 : World}
theorem refl (D : Nat → Prop) (w : World) : Mv D w w := ⟨rfl, rfl, rfl, Nat.le_refl _, fun _ _ _ => rfl⟩
theorem mono (h : Mv D w w') (hD : ∀ i, i < w.heap.size → D i → D' i) : Mv D' w w' := ⟨h.os, h.tape, h.output, h.size, fun i hi hn => h.block i hi fun hd => hn (hD i hi hd)⟩
theorem trans (h : Mv D w w') (h2 : Mv D' w' w2) (hD : ∀ i, i < w.heap.size → D' i → D i) : Mv D w w2 :=
  ⟨h2.os.trans h.os, h2.tape.trans h.tape, h2.output.trans h.output, Nat.le_trans h.size h2.size, fun i hi hn => (h2.block i (Nat.lt_of_lt_of_le hi h.size) fun hd => hn (hD i hi hd)).trans (h.block i hi hn)⟩
theorem of_grown {row : Option Nat} (h : w.grownBy w' row) : Mv (fun i => some i = row) w w' := ⟨h.os, h.tape, h.output, h.size, fun i hi hn => h.block i hi hn⟩
theorem grown {row : Option Nat} (h : Mv D w w') (h2 : w'.grownBy w2 row) (hD : ∀ i, i < w.heap.size → some i = row → D i) : Mv D w w2 := h.trans (of_grown h2) hD
theorem alloc (h : Mv D w w') (o : Obj) : Mv D w (w'.alloc o) :=
  h.trans (D' := fun _ => False) ⟨rfl, rfl, rfl, by simp, fun i hi _ => Below.heap_alloc w' o i hi⟩ (fun _ _ h => h.elim)
theorem setCell (h : Mv D w w') {p : Addr} (hp : p.block < w.heap.size → D p.block) (u : Value) : Mv D w (w'.setCell p u) := by
  refine h.trans (D' := fun i => i = p.block) ⟨rfl, rfl, rfl, by simp, fun i hi hn => Below.heap_setCell w' p u i hn⟩ ?_
  rintro i hi rfl
  exact hp hi
theorem drew (h : Mv D w w') : Mv D w w'.drew := ⟨h.os, h.tape, h.output, h.size, h.block⟩
theorem below {B : Nat} (h : Mv D w w') (hB : B ≤ w.heap.size) (hD : ∀ i, D i → B ≤ i) : Below B w w' :=
  ⟨h.os, h.tape, h.output, h.size, fun k hk => h.block k (Nat.lt_of_lt_of_le hk hB) fun hd => by have := hD k hd; omega⟩
theorem of_below {B : Nat} (h : Below B w w') : Mv (fun i => B ≤ i) w w' := ⟨h.os, h.tape, h.output, h.size, fun i _ hn => h.block i (by omega)⟩
theorem of_new (h : Below w.heap.size w w') (D : Nat → Prop) : Mv D w w' := ⟨h.os, h.tape, h.output, h.size, fun i hi _ => h.block i hi⟩
theorem whole {g : Nat} {t : TypeId} {cs : List Value} (hg : Whole w g t cs) (h : Mv D w w') (hn : ¬ D g) : Whole w' g t cs := (h.block g hg.size hn).trans hg
end Mv

/-- a slice of bytes of the call's own; behind it its block may go on -/
def HoldB (w : World) (base : Nat) (v : Value) (l : List UInt8) : Prop :=
  (v = .slice none 0 0 ∧ l = []) ∨ ∃ g cap cur, v = .slice (some ⟨g, 0, none⟩) l.length cap ∧ base ≤ g ∧ w.heap[g]? = some (.cells cur 5 (0, 0)) ∧ l.length ≤ cap ∧ cap ≤ maxLen ∧ cap ≤ cur.size ∧ cur.toList.take l.length = cellsB l
section
variable {w w' : World} {base : Nat} {v : Value} {l : List UInt8}
theorem HoldB.nil (w : World) (base : Nat) : HoldB w base (.slice none 0 0) [] := .inl ⟨rfl, rfl⟩
set_option maxRecDepth 100000 in
theorem HoldB.ofOwn (h : OwnB w base v l) : HoldB w base v l := by
  rcases h.2 with ⟨hv, h0⟩ | ⟨g, cap, cur, hv, hb, hh, hn, hm, hs, ht⟩
  · exact .inl ⟨hv, List.eq_nil_of_length_eq_zero h0⟩
  · rw [flat_cellsB, Nat.mul_one] at ht
    exact .inr ⟨g, cap, cur, hv, hb, hh, hn, hm, by omega, ht⟩
set_option maxRecDepth 100000 in
theorem HoldB.form (h : HoldB w base v l) : (v = .slice none 0 0 ∧ l = []) ∨ ∃ g cap, v = .slice (some ⟨g, 0, none⟩) l.length cap ∧ base ≤ g ∧ g < w.heap.size ∧ l.length ≤ cap := by
  rcases h with h | ⟨g, cap, cur, hv, hb, hh, hn, _⟩
  · exact .inl h
  · exact .inr ⟨g, cap, hv, hb, (Array.getElem?_eq_some_iff.1 hh).1, hn⟩
set_option maxRecDepth 100000 in
theorem HoldB.low (h : HoldB w base v l) {i : Nat} (hi : v.ownBlock = some i) : base ≤ i ∧ i < w.heap.size := by
  rcases h.form with ⟨rfl, _⟩ | ⟨g, cap, rfl, hb, hl, _⟩
  · cases hi
  · simp only [Value.ownBlock, Option.some.injEq] at hi
    subst hi
    exact ⟨hb, hl⟩
set_option maxRecDepth 100000 in
theorem HoldB.cells {g : Nat} {cur : Array Value} (hh : w.heap[g]? = some (.cells cur 5 (0, 0))) (ht : cur.toList.take l.length = cellsB l) (j : Nat) (u : Value) (hu : (cellsB l)[j]? = some u) : w.cell? ((⟨g, 0, none⟩ : Addr).add j) = some u := by
  have hadd : (⟨g, 0, none⟩ : Addr).add j = ⟨g, 0 + j, none⟩ := by unfold Addr.add; split <;> simp_all
  rw [hadd, Nat.zero_add]
  simp only [World.cell?, hh]
  rw [← ht, List.getElem?_take] at hu
  split at hu
  · simpa using hu
  · cases hu
set_option maxRecDepth 100000 in
theorem HoldB.rdB (h : HoldB w base v l) : RdB w w.heap.size v l := by
  rcases h with ⟨rfl, rfl⟩ | ⟨g, cap, cur, rfl, hb, hh, hn, hm, hs, ht⟩
  · exact Rd.nil _ _
  · refine ⟨_, cap, rfl, hn, fun i hi => ⟨g, 0, rfl, (Array.getElem?_eq_some_iff.1 hh).1, fun j u hu => ?_⟩⟩
    match j, hu with
    | 0, hu =>
      simp only [byteEnc, List.getElem?_cons_zero, Option.some.injEq] at hu
      subst hu
      have := HoldB.cells hh ht i _ (cellsB_get l i hi)
      have hadd : (⟨g, 0, none⟩ : Addr).add i = ⟨g, 0 + i, none⟩ := by unfold Addr.add; split <;> simp_all
      rw [hadd] at this
      simpa using this
    | j + 1, hu => simp [byteEnc] at hu
theorem HoldB.mv {D : Nat → Prop} (h : HoldB w base v l) (hm : Mv D w w') (hn : ∀ g, v.ownBlock = some g → ¬ D g) : HoldB w' base v l := by
  rcases h with h | ⟨g, cap, cur, rfl, hb, hh, r⟩
  · exact .inl h
  · exact .inr ⟨g, cap, cur, rfl, hb, (hm.block g (Array.getElem?_eq_some_iff.1 hh).1 (hn g rfl)).trans hh, r⟩
theorem HoldB.alloc (h : HoldB w base v l) (o : Obj) : HoldB (w.alloc o) base v l := h.mv ((Mv.refl (fun _ => False) w).alloc o) (fun _ _ h => h)
set_option maxRecDepth 100000 in
theorem HoldB.apart {g : Nat} {t : TypeId} {cs : List Value} (h : HoldB w base v l) (hg : Whole w g t cs) (hne : 5 ≠ t) : v.ownBlock ≠ some g := by
  rcases h with ⟨rfl, _⟩ | ⟨g', cap, cur, rfl, hb, hh, r⟩
  · simp [Value.ownBlock]
  · intro he
    simp only [Value.ownBlock, Option.some.injEq] at he
    subst he
    unfold Whole at hg
    rw [hg] at hh
    injection hh with hh
    injection hh with _ ht
    exact hne ht.symm
/-- the first n of them, with nothing behind -/
theorem HoldB.cut {A : Option Addr} {m c : Nat} (h : HoldB w base (.slice A m c) l) (n : Nat) (hn : n ≤ l.length) : HoldB w base (.slice A n n) (l.take n) := by
  rcases h with ⟨hv, rfl⟩ | ⟨g, cap, cur, hv, hb, hh, h1, h2, h3, h4⟩
  · injection hv with h1 _ _
    subst h1
    obtain rfl : n = 0 := by simpa using hn
    exact .inl ⟨rfl, rfl⟩
  · injection hv with e1 _ _
    subst e1
    refine .inr ⟨g, n, cur, by simp [Nat.min_eq_left hn], hb, hh, by simp; omega, by omega, by omega, ?_⟩
    rw [List.length_take, Nat.min_eq_left hn, show cellsB (l.take n) = (cellsB l).take n by simp [cellsB], ← h4, List.take_take, Nat.min_eq_left hn]
/-- one of them turned -/
theorem HoldB.set {g m c : Nat} (h : HoldB w base (.slice (some ⟨g, 0, none⟩) m c) l) (i : Nat) (hi : i < l.length) (x : UInt8) : HoldB (w.setCell ⟨g, i, none⟩ (.int .u8 (x.toNat : Int))) base (.slice (some ⟨g, 0, none⟩) m c) (l.set i x) := by
  rcases h with ⟨hv, _⟩ | ⟨g', cap, cur, hv, hb, hh, h1, h2, h3, h4⟩
  · cases hv
  · injection hv with e1 e2 e3
    injection e1 with e1
    injection e1 with e1
    subst e1 e2 e3
    have hs : i < cur.size := by omega
    refine .inr ⟨g, c, cur.set! i (.int .u8 (x.toNat : Int)), by simp, hb, ?_, by simpa using h1, h2, by simpa using h3, ?_⟩
    · simp [World.setCell, Array.getElem?_modify, hh]
    · rw [List.length_set, cellsB_set, ← h4]
      simp [List.take_set]
end

section
variable {ops : Array Oper} {rest : List Oper} {o : Oper} {a : Act} {Q : Exit → Act → World → Prop} {w : World}
/-- the row is the same, or a new one, or none -/
def NewRow (w : World) (o o' : Option Nat) : Prop := ∀ g, o' = some g → o = some g ∨ w.heap.size ≤ g
theorem NewRow.refl (w : World) (o : Option Nat) : NewRow w o o := fun _ h => .inl h
theorem NewRow.out {w : World} {o o' : Option Nat} (h : NewRow w o o') {r : Nat} (hr : r < w.heap.size) (hn : o ≠ some r) : o' ≠ some r := by
  intro he
  rcases h r he with h1 | h1
  · exact hn h1
  · omega
theorem NewRow.low {w : World} {base : Nat} {o o' : Option Nat} (h : NewRow w o o') (hb : base ≤ w.heap.size) (hl : ∀ g, o = some g → base ≤ g) : ∀ g, o' = some g → base ≤ g := by
  intro g he
  rcases h g he with h1 | h1
  · exact hl g h1
  · omega
theorem NewRow.trans {w w' : World} {o o' o2 : Option Nat} (h : NewRow w o o') (h2 : NewRow w' o' o2) (hs : w.heap.size ≤ w'.heap.size) : NewRow w o o2 := by
  intro g he
  rcases h2 g he with h1 | h1
  · exact h g h1
  · exact .inr (Nat.le_trans hs h1)
set_option maxRecDepth 100000 in
theorem run_append_hold (w : World) (base B : Nat) (ty : TypeId) (v v2 : Value) (l p : List UInt8) (ho : HoldB w base v l) (hp : RdB w B v2 p) (hlen : l.length + p.length ≤ 225179981368000) (hb : base ≤ w.heap.size) :
    ∃ A' c' w', (Builtin.append_ #[42, 42] ty #[v, v2]).run Try.prog w = .ok (.slice A' (l ++ p).length c') w' ∧ HoldB w' base (.slice A' (l ++ p).length c') (l ++ p) ∧ w.grownBy w' v.ownBlock ∧ NewRow w v.ownBlock (Value.ownBlock (.slice A' (l ++ p).length c')) := by
  obtain ⟨i0, hi, hz0, hz1, hz2⟩ := info_parts info_u8
  obtain ⟨A2, c2, rfl, hc2, hcell⟩ := hp.at
  have hself : w.grownBy w v.ownBlock := ⟨rfl, rfl, rfl, Nat.le_refl _, fun _ _ _ => rfl⟩
  rcases hpn : p with _ | ⟨x, r⟩
  · -- nothing is appended
    have hform : ∃ A c, v = .slice A l.length c ∧ l.length ≤ c := by
      rcases ho.form with ⟨rfl, rfl⟩ | ⟨g, cap, rfl, _, _, hn⟩
      · exact ⟨none, 0, rfl, Nat.le_refl _⟩
      · exact ⟨_, cap, rfl, hn⟩
    obtain ⟨A, c, rfl, hn⟩ := hform
    subst hpn
    refine ⟨A, c, w, ?_, by simpa using ho, hself, fun _ h => .inl (by simpa using h)⟩
    cases A2 with
    | none => simp [Builtin.append_, run_underlying Try.underlying42, sizeOf, typeInfo, hi, Builtin.lenOf, Builtin.firstCells, hn, storeCells]; cases A <;> simp_all
    | some a2 => simp [Builtin.append_, run_underlying Try.underlying42, sizeOf, typeInfo, hi, Builtin.lenOf, Builtin.firstCells, hn, storeCells, loadCells, loadCellsFrom]; cases A <;> simp_all
  · obtain ⟨b, o', hA, _, _⟩ := hcell 0 (by rw [hpn]; simp)
    rw [← hpn]
    have hpos : 0 < p.length := by rw [hpn]; simp
    subst hA
    have hnews : ∀ j u, (cellsB p)[j]? = some u → w.cell? ((⟨b, o', none⟩ : Addr).add j) = some u := by
      intro j u hu
      have hj : j < p.length := by
        rcases Nat.lt_or_ge j p.length with h' | h'
        · exact h'
        · rw [List.getElem?_eq_none (by rw [cellsB_len]; exact h')] at hu; cases hu
      obtain ⟨b2, o2, hA2, _, h2⟩ := hcell j hj
      simp only [Option.some.injEq, Addr.mk.injEq, and_true] at hA2
      obtain ⟨rfl, rfl⟩ := hA2
      rw [cellsB_get p j hj] at hu
      simp only [Option.some.injEq] at hu
      subst hu
      have hadd : (⟨b, o', none⟩ : Addr).add j = ⟨b, o' + j, none⟩ := by unfold Addr.add; split <;> simp_all
      rw [hadd]
      exact h2
    have hpl := cellsB_len p
    have hll : (l ++ p).length = l.length + p.length := by simp
    have e63 : maxLen = 9223372036854775807 := rfl
    rcases ho with ⟨rfl, rfl⟩ | ⟨g, cap, cur, rfl, hbg, hh, hn, hm, hs, ht⟩
    · have hr := run_append_nil (P := Try.prog) w 42 ty 5 i0 _ Try.underlying42 hi hz0 ⟨b, o', none⟩ p.length c2 (cellsB p) (by rw [hz1, hpl, Nat.mul_one]) hnews hpos (by simp at hlen; omega) (by rw [hz2]; simp at hlen; omega)
      have hge := grownCap_ge w p.length 0 5
      have hgm := grownCap_le_maxLen w p.length 0 5 (by unfold maxLen; simp at hlen; omega)
      simp only [List.nil_append]
      refine ⟨_, _, _, hr, .inr ⟨w.heap.size, _, _, rfl, hb, heap_alloc_new w.drew _, hge, hgm, ?_, ?_⟩, ⟨rfl, rfl, rfl, by simp, fun k hk _ => heap_alloc_old w.drew _ hk⟩, fun g hg => .inr (by injection hg with hg; simp only at hg; omega)⟩
      · have hz : (Value.int IntKind.u8 0).cells.size = 1 := rfl
        simp only [Array.size_append, List.size_toArray, size_zeroCells, hz, hpl]
        omega
      · simp only [Array.toList_append]
        exact List.take_left' hpl
    · by_cases hroom : l.length + p.length ≤ cap
      · have hr := run_append_room (P := Try.prog) w 42 ty 5 i0 Try.underlying42 hi g l.length cap cur hh ⟨b, o', none⟩ p.length c2 (cellsB p) (by rw [hz1, hpl, Nat.mul_one]) hnews (cellsB_one p) hroom (by rw [hz1, hpl]; omega)
        rw [← hll] at hr
        refine ⟨_, _, _, hr, .inr ⟨g, cap, _, rfl, hbg, setRow_heap w g cur _ _ _ hh, by rw [hll]; exact hroom, hm, ?_, ?_⟩, ⟨rfl, rfl, rfl, by simp, fun k _ hk => setRow_other w g k _ (fun e => hk (by simp [Value.ownBlock, e]))⟩, fun _ h => .inl h⟩
        · simp only [List.size_toArray, List.length_append, List.length_take, List.length_drop, Array.length_toList, hpl, hz1]
          omega
        · rw [hz1, Nat.mul_one, ht, cellsB_append, hll]
          exact List.take_left' (by rw [List.length_append, cellsB_len, hpl])
      · have hr := run_append_grow (P := Try.prog) w 42 ty 5 i0 _ Try.underlying42 hi hz0 ⟨g, 0, none⟩ l.length cap (cellsB l) (by rw [hz1, cellsB_len, Nat.mul_one]) (HoldB.cells hh ht) ⟨b, o', none⟩ p.length c2 (cellsB p) (by rw [hz1, hpl, Nat.mul_one]) hnews (by omega) (by omega) (growslice_fits_wide (by omega) (by rw [hz2]; omega))
        have hge := grownCap_ge w (l.length + p.length) cap 5
        have hgm := grownCap_le_maxLen w (l.length + p.length) cap 5 (by unfold maxLen; omega)
        rw [← hll] at hr
        refine ⟨_, _, _, hr, .inr ⟨w.heap.size, _, _, rfl, hb, heap_alloc_new w.drew _, by rw [hll]; exact hge, by rw [hll]; exact hgm, ?_, ?_⟩, ⟨rfl, rfl, rfl, by simp, fun k hk _ => heap_alloc_old w.drew _ hk⟩, fun g hg => .inr (by injection hg with hg; simp only at hg; omega)⟩
        · have hz : (Value.int IntKind.u8 0).cells.size = 1 := rfl
          simp only [Array.size_append, List.size_toArray, size_zeroCells, hz, hpl, cellsB_len]
          omega
        · simp only [Array.toList_append, cellsB_append]
          exact List.take_left' (by rw [List.length_append, cellsB_len, hpl, hll])

set_option maxRecDepth 100000 in
/-- bytes appended to such a slice -/
theorem wpList_addH (hgd : Region.wanted o (yielded ops a.tmps) = true) (s x : Operand)
    (ho : o.op = .call { callee := .builtin .append, args := #[s, x], argTypes := #[42, 42] })
    (base : Nat) (v : Value) (l : List UInt8) (hs : a.eval s = v) (hown : HoldB w base v l) (B : Nat) (v2 : Value) (p : List UInt8) (hx : a.eval x = v2) (hp : RdB w B v2 p)
    (hlen : l.length + p.length ≤ 225179981368000) (hbase : base ≤ w.heap.size)
    (h : ∀ A' c' w', Hid (HoldB w' base (.slice A' (l ++ p).length c') (l ++ p)) → Hid (w.grownBy w' v.ownBlock) → Hid (NewRow w v.ownBlock (Value.ownBlock (.slice A' (l ++ p).length c'))) → wpList Try.prog ops Q rest (a.put o.dst (.slice A' (l ++ p).length c')) w') : wpList Try.prog ops Q (o :: rest) a w := by
  refine BigFrame.wpList_want hgd fun K hK => ?_
  obtain ⟨A', c', w', hr, h2, h3, h4⟩ := run_append_hold w base B o.type v v2 l p hown hp hlen hbase
  unfold Oper.wp execOp
  simp only [ho, resolve, invoke, builtin, Sem.run_bind, Sem.run_pure, Result.andThen_ok, List.map_toArray, List.map_cons, List.map_nil, hs, hx, hr]
  exact hK _ _ (h A' c' w' (Lib.hid h2) (Lib.hid h3) (Lib.hid h4))
end
end Go.Proofs.Ytjmojlhebjbgaaa
namespace Go.Proofs.Ytjmojlhebjbgaaa
open Go.RowKit

/-- the bytes that are left behind so many numbers -/
def stg (l : List UInt8) : Nat → Rest
  | 0 => some l
  | k + 1 => (rdN (stg l k)).2
def stn (l : List UInt8) (k : Nat) : Int := (rdN (stg l k)).1
theorem rd4_stg (l : List UInt8) : rd4 (some l) = ((stn l 0, stn l 1, stn l 2, stn l 3), stg l 4) := rfl
theorem stg_none {l : List UInt8} {k : Nat} (h : stg l k = none) : ∀ m, stg l (k + m) = none
  | 0 => h
  | m + 1 => by
    show (rdN (stg l (k + m))).2 = none
    rw [stg_none h m]
    rfl
/-- what stands in the ballots when so many numbers are read -/
def stc (l : List UInt8) (k j : Nat) : Value := if j < k then .int .i64 (stn l j) else .int .i64 0
structure GbAt (l : List UInt8) (g : Nat) (w : World) (k : Nat) (W : World) (r : List UInt8) (A : Option Addr) (c : Nat) : Prop where
  st : stg l k = some r
  rd : RdB W g (.slice A r.length c) r
  len : r.length < 4611686018427387904
  p : Whole W g 23 [stc l k 0, stc l k 1]
  q : Whole W (g + 1) 23 [stc l k 2, stc l k 3]
  li : Whole W (g + 2) 66 [.pointer (some ⟨g, 0, none⟩), .pointer (some ⟨g + 1, 0, none⟩)]
  mv : Mv (fun b => b = g ∨ b = g + 1) w W
  sz : g + 3 ≤ W.heap.size
theorem GbAt.more {l r : List UInt8} {g k : Nat} {w W W2 : World} {A : Option Addr} {c : Nat} (h : GbAt l g w k W r A c) (hb : Below W.heap.size W W2) : GbAt l g w k W2 r A c :=
  ⟨h.st, h.rd.below hb (by have := h.sz; omega), h.len, h.p.below hb h.p.size, h.q.below hb h.q.size, h.li.below hb h.li.size, h.mv.trans (Mv.of_new hb (fun _ => False)) (fun _ _ h => h.elim), Nat.le_trans h.sz hb.size⟩
theorem GbAt.cell {l r : List UInt8} {g w W A c} {i j : Nat} (h : GbAt l g w (2 * i + j) W r A c) (hi : i < 2) (hj : j < 2) : ∃ z, W.cell? ⟨g + i, j, none⟩ = some (.int .i64 z) ∧ W.frozen? ⟨g + i, j, none⟩ = false := by
  have hz : ∀ k j, ∃ z, stc l k j = .int .i64 z := fun k j => by unfold stc; split <;> exact ⟨_, rfl⟩
  match i, hi with
  | 0, _ =>
    match j, hj with
    | 0, _ => obtain ⟨z, e⟩ := hz 0 0; exact ⟨z, h.p.cell 0 _ (by show some _ = _; rw [← e]), h.p.frozen 0⟩
    | 1, _ => obtain ⟨z, e⟩ := hz 1 1; exact ⟨z, h.p.cell 1 _ (by show some _ = _; rw [← e]), h.p.frozen 1⟩
  | 1, _ =>
    match j, hj with
    | 0, _ => obtain ⟨z, e⟩ := hz 2 2; exact ⟨z, h.q.cell 0 _ (by show some _ = _; rw [← e]), h.q.frozen 0⟩
    | 1, _ => obtain ⟨z, e⟩ := hz 3 3; exact ⟨z, h.q.cell 1 _ (by show some _ = _; rw [← e]), h.q.frozen 1⟩
theorem GbAt.ptr {l r : List UInt8} {g w W A c} {k i : Nat} (h : GbAt l g w k W r A c) (hi : i < 2) : W.cell? ⟨g + 2, i, none⟩ = some (.pointer (some ⟨g + i, 0, none⟩)) := by
  match i, hi with
  | 0, _ => exact h.li.cell 0 _ rfl
  | 1, _ => exact h.li.cell 1 _ rfl
/-- one number more -/
theorem GbAt.step {l r : List UInt8} {g : Nat} {w W : World} {A : Option Addr} {c i j n u : Nat} (h : GbAt l g w (2 * i + j) W r A c) (hi : i < 2) (hj : j < 2) (hn : numAns r = (n, u, 0)) (A' : Option Addr) (c' : Nat)
    (hr : RdB W g (.slice A' (r.drop u).length c') (r.drop u)) : GbAt l g w (2 * i + (j + 1)) (W.setCell ⟨g + i, j, none⟩ (.int .i64 (n : Int))) (r.drop u) A' c' := by
  have hrd : rdN (some r) = ((n : Int), some (r.drop u)) := by rw [rdN, hn]; rfl
  have hst : stg l (2 * i + (j + 1)) = some (r.drop u) := by
    show (rdN (stg l (2 * i + j))).2 = _
    rw [h.st, hrd]
  have hsn : stn l (2 * i + j) = (n : Int) := by unfold stn; rw [h.st, hrd]
  have hb : Below g W (W.setCell ⟨g + i, j, none⟩ (.int .i64 (n : Int))) := (Below.refl _ _).setCell (by show g ≤ g + i; omega) _
  have hpq : Whole (W.setCell ⟨g + i, j, none⟩ (.int .i64 (n : Int))) g 23 [stc l (2 * i + (j + 1)) 0, stc l (2 * i + (j + 1)) 1] ∧ Whole (W.setCell ⟨g + i, j, none⟩ (.int .i64 (n : Int))) (g + 1) 23 [stc l (2 * i + (j + 1)) 2, stc l (2 * i + (j + 1)) 3] := by
    match i, hi with
    | 0, _ =>
      match j, hj with
      | 0, _ => exact ⟨by have := h.p.put 0 (.int .i64 (n : Int)); rw [← hsn] at this; rw [← hsn]; exact this, h.q.away (by show g + 1 ≠ g; omega) _⟩
      | 1, _ => exact ⟨by have := h.p.put 1 (.int .i64 (n : Int)); rw [← hsn] at this; rw [← hsn]; exact this, h.q.away (by show g + 1 ≠ g; omega) _⟩
    | 1, _ =>
      match j, hj with
      | 0, _ => exact ⟨h.p.away (by show g ≠ g + 1; omega) _, by have := h.q.put 0 (.int .i64 (n : Int)); rw [← hsn] at this; rw [← hsn]; exact this⟩
      | 1, _ => exact ⟨h.p.away (by show g ≠ g + 1; omega) _, by have := h.q.put 1 (.int .i64 (n : Int)); rw [← hsn] at this; rw [← hsn]; exact this⟩
  exact ⟨hst, hr.below hb (Nat.le_refl _), by rw [List.length_drop]; have := h.len; omega, hpq.1, hpq.2, h.li.away (by show g + 2 ≠ g + i; omega) _, h.mv.setCell (fun _ => by show g + i = g ∨ g + i = g + 1; omega) _, by simp; exact h.sz⟩
theorem GbAt.drew {l r : List UInt8} {g k : Nat} {w W : World} {A : Option Addr} {c : Nat} (h : GbAt l g w k W r A c) : GbAt l g w k W.drew r A c := h.more ((Below.refl _ _).drew)
theorem GbAt.bad {l r : List UInt8} {g : Nat} {w W : World} {A : Option Addr} {c i j : Nat} (h : GbAt l g w (2 * i + j) W r A c) (hi : i < 2) (hj : j < 2) (hn : (numAns r).2.2 ≠ 0) : stg l 4 = none := by
  have h1 : stg l (2 * i + j + 1) = none := by
    show (rdN (stg l (2 * i + j))).2 = none
    rw [h.st, rdN, if_neg hn]
  have := stg_none h1 (3 - (2 * i + j))
  rwa [show 2 * i + j + 1 + (3 - (2 * i + j)) = 4 by omega] at this
end Go.Proofs.Ytjmojlhebjbgaaa
namespace Go.Proofs.Ytjmojlhebjbgaaa
open Go.RowKit
attribute [local go_sem] less_eq same_eq le_eq ge_eq gt_eq

set_option maxHeartbeats 8000000 in
set_option maxRecDepth 100000 in
theorem getBallots_any (l : List UInt8) (g : Nat) (A0 : Option Addr) (c0 : Nat) (w : World) (h0 : GbAt l g w 0 w l A0 c0) :
    Calls Try.prog 32 #[.slice A0 l.length c0, .slice (some ⟨g + 2, 0, none⟩) 2 2] w fun e w' => Mv (fun b => b = g ∨ b = g + 1) w w' ∧ g + 3 ≤ w'.heap.size ∧
      ((stg l 4 = none ∧ ∃ x : Int, x ≠ 0 ∧ e = .returned (.tuple #[.slice none 0 0, .int .i64 x])) ∨ ∃ r A c, e = .returned (.tuple #[.slice A r.length c, .int .i64 0]) ∧ GbAt l g w 4 w' r A c) := by
  have HG0 := Lib.hid h0
  clear h0
  go_enter Try.func32, Try.ntmps32
  go_wp2_with fail
  go_loopw [0, 15] (fun bv iv wr => ∃ (i : Nat) (r : List UInt8) (A : Option Addr) (c : Nat), i ≤ 2 ∧ iv = .int .i64 i ∧ bv = .slice A r.length c ∧ Hid (GbAt l g w (2 * i) wr r A c)) (fun _ iv _ => 2 - (intOf iv).toNat)
  case atStart => exact ⟨0, l, A0, c0, by omega, rfl, rfl, HG0⟩
  case round =>
    obtain ⟨i, r, A, c, hil, rfl, rfl, HI⟩ := hrel
    clear HG0
    by_cases hlt : i < 2
    · have hp := HI.out.ptr hlt
      have hI0 : (0 : Int) ≤ (i : Int) := by omega
      have hI1 : (i : Int) < 2 := by omega
      obtain ⟨t, ht⟩ : ∃ t, t = wr.heap.size := ⟨_, rfl⟩
      have HT := Lib.hid ht
      clear ht
      go_wp2_with fail
      refine wp_region_planB [(true, 0), (true, 1), (true, 2), (true, 3), (true, 4), (true, 5), (true, 8), (false, 6), (true, 7)] (by kernel_rfl) (by kernel_rfl) (fun _ _ d _ _ h => by cases d <;> exact h) ?_
      iterate 7 (refine PlanB.take (v := ?_) rfl rfl ?_ ?_; rotate_left; (focus (intro W hW; go_simp; (try with_reducible rfl); done)); (try simp only [Act.put, List.setIfInBounds_toArray, List.set_cons_zero, List.set_cons_succ]))
      refine PlanB.step rfl rfl (fun Kk hK => ?_)
      go_simp
      refine hK.out _ _ ((Below.refl _ wr.drew).alloc (Nat.le_refl _) (.cells #[.pointer (some ⟨g + i, 0, none⟩), .pointer (some ⟨g + i, 1, none⟩)] 84)) ?_
      clear hK Kk hp
      (try simp only [Act.put, List.setIfInBounds_toArray, List.set_cons_zero, List.set_cons_succ])
      refine PlanB.take (v := ?_) rfl rfl ?_ ?_; rotate_left; (focus (intro W hW; go_simp; (try with_reducible rfl); done)); (try simp only [Act.put, List.setIfInBounds_toArray, List.set_cons_zero, List.set_cons_succ])
      simp only [PlanB]
      obtain ⟨w1, hw1⟩ : ∃ w1, w1 = (wr.alloc (.cells #[.pointer (some ⟨g + i, 0, none⟩), .pointer (some ⟨g + i, 1, none⟩)] 84)).drew := ⟨_, rfl⟩
      have hI1 : GbAt l g w (2 * i + 0) w1 r A c := by rw [hw1]; exact (HI.out.more ((Below.refl _ wr).alloc (Nat.le_refl _) _)).drew
      have hT1 : Whole w1 t 84 [.pointer (some ⟨g + i, 0, none⟩), .pointer (some ⟨g + i, 1, none⟩)] := by rw [hw1, HT.out]; exact (Whole.fresh wr _ [_, _]).drew
      have hgt : g + 3 ≤ t := by rw [HT.out]; exact HI.out.sz
      rw [← hw1, ← HT.out]
      have HJ := Lib.hid hI1
      have HT1 := Lib.hid hT1
      have HGT := Lib.hid hgt
      clear hw1 hI1 hT1 hgt HI HT
      go_wp2_with fail
      go_loopw [0, 27] (fun bv jv wr => ∃ (j : Nat) (r : List UInt8) (A : Option Addr) (c : Nat), j ≤ 2 ∧ jv = .int .i64 j ∧ bv = .slice A r.length c ∧ Hid (GbAt l g w (2 * i + j) wr r A c) ∧ Hid (Whole wr t 84 [.pointer (some ⟨g + i, 0, none⟩), .pointer (some ⟨g + i, 1, none⟩)])) (fun _ jv _ => 2 - (intOf jv).toNat)
      case atStart => exact ⟨0, r, A, c, by omega, rfl, rfl, HJ, HT1⟩
      case round =>
        obtain ⟨j, r, A, c, hjl, rfl, rfl, HK, HTK⟩ := hrel
        clear HJ HT1
        by_cases hjt : j < 2
        · have hJ0 : (0 : Int) ≤ (j : Int) := by omega
          have hJ1 : (j : Int) < 2 := by omega
          have hq : wr.cell? ⟨t, j, none⟩ = some (.pointer (some ⟨g + i, j, none⟩)) := by
            match j, hjt with
            | 0, _ => exact HTK.out.cell 0 _ rfl
            | 1, _ => exact HTK.out.cell 1 _ rfl
          have hN := num_any r (.slice A r.length c) wr (HK.out.rd.mono (by have := HK.out.sz; omega)) HK.out.len
          have herr := numAns_err r
          have hus := @numAns_used r
          have hst := fun n u (hn : numAns r = (n, u, 0)) W (hW : GbAt l g w (2 * i + j) W r A c) => @GbAt.step l r g w W A c i j n u hW hlt hjt hn
          have hbd := fun h => HK.out.bad hlt hjt h
          obtain ⟨⟨n, u, e⟩, hR⟩ : ∃ R, R = numAns r := ⟨_, rfl⟩
          rw [← hR] at hN herr hus hst hbd
          unfold numVal at hN
          simp only at hN herr hus hst hbd
          have HN := Lib.hid hN
          have HST := Lib.hid hst
          clear hN hst hR
          by_cases he : e = 0
          · subst he
            obtain ⟨hu1, hu2⟩ := hus rfl
            have HST2 := Lib.hid (HST.out n u rfl)
            clear hus herr hbd HST
            obtain ⟨A2, c2, hve, hcap, hi⟩ := RdB.at HK.out.rd
            injection hve with e1 _ e3
            subst e1 e3
            obtain ⟨b, o, hA⟩ : ∃ b o, A = some ⟨b, o, none⟩ := by obtain ⟨b, o, h, _⟩ := hi 0 (by omega); exact ⟨b, o, h⟩
            subst hA
            have HDL := Lib.hid (show (r.drop u).length = r.length - u from by simp)
            have HWI := Lib.hid (fun W A' (hr : RdB W g (.slice (some ⟨b, o, none⟩) r.length c) r) (hA : 0 < r.length - u → A' = some ⟨b, o + u, none⟩) => (show RdB W g (.slice A' (r.length - u) (c - u)) (r.drop u) from by
              have h := hr.window u (r.length - u) (by omega) (c - u) (by omega) A' hA
              rwa [List.take_of_length_le (by simp)] at h))
            have hu3 : (u : Int) ≤ (r.length : Int) := by omega
            have hu4 : (0 : Int) ≤ (u : Int) := by omega
            have hcu : (u : Int) ≤ (c : Int) := by omega
            clear hi
            by_cases hcz : c = u
            · subst hcz
              go_wp2_with fail
              refine HN.out.mono ?_
              rintro x w2 ⟨rfl, hb2⟩
              have hM := HK.out.more hb2
              have hTM := HTK.out.below hb2 HTK.out.size
              obtain ⟨z, hz, hf⟩ := hM.cell hlt hjt
              have HM := Lib.hid hM
              have HTM := Lib.hid hTM
              have HZ := Lib.hid hz
              have HF := Lib.hid hf
              clear hb2 hM hTM hz hf
              go_wp2_with fail
              refine wp_region_plan (S := fun _ => True) [(true, 0), (true, 1), (true, 2), (true, 3), (true, 4), (true, 5), (false, 6), (true, 7)] (by kernel_rfl) (by kernel_rfl) (fun _ _ d _ _ h => by cases d <;> exact h) trivial ?_
              have HM := Lib.hid HM.out.drew
              have HTM := Lib.hid HTM.out.drew
              have hz := (show w2.drew.cell? ⟨g + i, j, none⟩ = _ from HZ.out)
              have hf := (show w2.drew.frozen? ⟨g + i, j, none⟩ = _ from HF.out)
              clear HZ HF
              generalize w2.drew = w3 at HM HTM hz hf ⊢
              have HZ := Lib.hid hz
              have HF := Lib.hid hf
              clear hz hf
              iterate 6 (refine Plan.take (v := ?_) rfl rfl ?_ ?_; rotate_left; (focus (intro W hW; go_simp; (try with_reducible rfl); done)); (try simp only [Act.put, List.setIfInBounds_toArray, List.set_cons_zero, List.set_cons_succ]))
              have hz := HZ.out
              have hf := HF.out
              refine Plan.step rfl rfl (fun Kk hK => ?_)
              go_simp
              refine hK.out _ _ trivial ?_
              clear hK Kk hz hf
              (try simp only [Act.put, List.setIfInBounds_toArray, List.set_cons_zero, List.set_cons_succ])
              refine Plan.take (v := ?_) rfl rfl ?_ ?_; rotate_left; (focus (intro W hW; go_simp; (try with_reducible rfl); done)); (try simp only [Act.put, List.setIfInBounds_toArray, List.set_cons_zero])
              simp only [Plan]
              have hT2 := HTM.out.away (p := ⟨g + i, j, none⟩) (by have := HGT.out; show t ≠ g + i; omega) (.int .i64 (n : Int))
              have hG2 := HST2.out _ HM.out (some ⟨b, o, none⟩) (c - c) (by rw [HDL.out]; exact (HWI.out _ (some ⟨b, o, none⟩) HM.out.rd (by first | exact fun h => absurd h (by omega) | exact fun _ => rfl)))
              generalize w3.setCell ⟨g + i, j, none⟩ (.int .i64 (n : Int)) = w4 at hT2 hG2 ⊢
              have HT2 := Lib.hid hT2
              have HG2 := Lib.hid hG2
              clear hT2 hG2
              go_wp2_with fail
              go_roundw
              case rel => exact ⟨j + 1, r.drop c, (some ⟨b, o, none⟩), (c - c), by omega, by go_num, by rw [HDL.out, show r.length - c = 0 by omega, Nat.sub_self], HG2, HT2⟩
              case measure => simp [intOf]; omega
            · have hcz2 : ¬ (c : Int) = (u : Int) := by omega
              go_wp2_with fail
              refine HN.out.mono ?_
              rintro x w2 ⟨rfl, hb2⟩
              have hM := HK.out.more hb2
              have hTM := HTK.out.below hb2 HTK.out.size
              obtain ⟨z, hz, hf⟩ := hM.cell hlt hjt
              have HM := Lib.hid hM
              have HTM := Lib.hid hTM
              have HZ := Lib.hid hz
              have HF := Lib.hid hf
              clear hb2 hM hTM hz hf
              go_wp2_with fail
              refine wp_region_plan (S := fun _ => True) [(true, 0), (true, 1), (true, 2), (true, 3), (true, 4), (true, 5), (false, 6), (true, 7)] (by kernel_rfl) (by kernel_rfl) (fun _ _ d _ _ h => by cases d <;> exact h) trivial ?_
              have HM := Lib.hid HM.out.drew
              have HTM := Lib.hid HTM.out.drew
              have hz := (show w2.drew.cell? ⟨g + i, j, none⟩ = _ from HZ.out)
              have hf := (show w2.drew.frozen? ⟨g + i, j, none⟩ = _ from HF.out)
              clear HZ HF
              generalize w2.drew = w3 at HM HTM hz hf ⊢
              have HZ := Lib.hid hz
              have HF := Lib.hid hf
              clear hz hf
              iterate 6 (refine Plan.take (v := ?_) rfl rfl ?_ ?_; rotate_left; (focus (intro W hW; go_simp; (try with_reducible rfl); done)); (try simp only [Act.put, List.setIfInBounds_toArray, List.set_cons_zero, List.set_cons_succ]))
              have hz := HZ.out
              have hf := HF.out
              refine Plan.step rfl rfl (fun Kk hK => ?_)
              go_simp
              refine hK.out _ _ trivial ?_
              clear hK Kk hz hf
              (try simp only [Act.put, List.setIfInBounds_toArray, List.set_cons_zero, List.set_cons_succ])
              refine Plan.take (v := ?_) rfl rfl ?_ ?_; rotate_left; (focus (intro W hW; go_simp; (try with_reducible rfl); done)); (try simp only [Act.put, List.setIfInBounds_toArray, List.set_cons_zero])
              simp only [Plan]
              have hT2 := HTM.out.away (p := ⟨g + i, j, none⟩) (by have := HGT.out; show t ≠ g + i; omega) (.int .i64 (n : Int))
              have hG2 := HST2.out _ HM.out (some ⟨b, o + u, none⟩) (c - u) (by rw [HDL.out]; exact (HWI.out _ (some ⟨b, o + u, none⟩) HM.out.rd (by first | exact fun h => absurd h (by omega) | exact fun _ => rfl)))
              generalize w3.setCell ⟨g + i, j, none⟩ (.int .i64 (n : Int)) = w4 at hT2 hG2 ⊢
              have HT2 := Lib.hid hT2
              have HG2 := Lib.hid hG2
              clear hT2 hG2
              go_wp2_with fail
              go_roundw
              case rel => exact ⟨j + 1, r.drop u, (some ⟨b, o + u, none⟩), (c - u), by omega, by go_num, by rw [HDL.out], HG2, HT2⟩
              case measure => simp [intOf]; omega
          · have hnone := hbd he
            have HNO := Lib.hid hnone
            clear herr hus hbd HST
            go_wp2_with fail
            refine HN.out.mono ?_
            rintro x w2 ⟨rfl, hb2⟩
            have hM := HK.out.more hb2
            have HM := Lib.hid hM
            clear hb2 hM
            go_wp2_with fail
            go_ret2
            exact ⟨HM.out.mv, HM.out.sz, .inl ⟨HNO.out, _, by omega, rfl⟩⟩
        · obtain rfl : j = 2 := by omega
          go_wp2_with fail
          go_roundw
          case rel => exact ⟨i + 1, r, A, c, by omega, by go_num, rfl, HK⟩
          case measure => simp [intOf]; omega
    · obtain rfl : i = 2 := by omega
      go_wp2_with fail
      go_ret2
      exact ⟨HI.out.mv, HI.out.sz, .inr ⟨r, A, c, rfl, HI.out⟩⟩
end Go.Proofs.Ytjmojlhebjbgaaa
