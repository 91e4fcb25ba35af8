/- The reference's clock as a state of the heap; bells but one; Stop. -/
import Derived.Test.YtcigodaacdfagaaCkL
import Derived.Test.YtcigodaacdfagaaRdG
import Derived.Test.YtcigodaacdfagaaIntsN
import Derived.Test.YtcigodaacdfagaaPlanB
namespace Go.Proofs.Ytcigodaacdfagaa
open Go.RowKit

def encBl (x : Bl) : List Value := [.int .i64 x.bell, .int .i64 x.at_]
theorem encBl_len (x : Bl) : (encBl x).length = 2 := rfl
theorem encBl_one (x : Bl) : ∀ u ∈ encBl x, u.oneCell' = true := by
  intro u hu
  simp only [encBl, List.mem_cons, List.not_mem_nil, or_false] at hu
  rcases hu with rfl | rfl <;> rfl
set_option maxRecDepth 100000 in
theorem info_bl : (Try.prog.info? 53).map (fun i => (i.zero, i.size, i.bytes)) = some (some (.agg #[.int .i64 0, .int .i64 0]), 2, 16) := by kernel_rfl
abbrev OwnBl (w : World) (base : Nat) (v : Value) (l : List Bl) : Prop := Own encBl 2 53 w base v l

/-- the reference's time and bells, at block r; its row is one of G -/
def RkCells (w : World) (r : Nat) (G : Nat → Prop) (now : Int) (l : List Bl) : Prop :=
  ∃ A cap, Whole w r 29 [.int .i64 now, .slice A l.length cap] ∧ RdG encBl 2 w w.heap.size (fun i => ¬ G i ∨ i = r) (.slice A l.length cap) l
structure RkAt (w : World) (base r : Nat) (G : Nat → Prop) (c : Ck) : Prop where
  blk : RkCells w r G c.now c.l
  me : G r
  low : base ≤ w.heap.size ∧ ∀ i, G i → base ≤ i ∧ i < w.heap.size
  ok : c.Ok
def RkWent (w w' : World) (base r : Nat) (G : Nat → Prop) (c : Ck) : Prop := ∃ G', RkAt w' base r G' c ∧ (∀ i, G' i → G i ∨ w.heap.size ≤ i) ∧ Mv (fun i => i = r) w w'
section
variable {w w' w1 : World} {base r : Nat} {G G' : Nat → Prop} {c : Ck} {now : Int} {l : List Bl}
theorem RkCells.mv {D : Nat → Prop} (h : RkCells w r G now l) (hm : Mv D w w') (hr : G r) (hn : ∀ i, G i → ¬ D i) : RkCells w' r G now l := by
  obtain ⟨A, cap, hb, hrd⟩ := h
  refine ⟨A, cap, hm.whole hb (hn r hr), (hrd.mv hm (Nat.le_refl _) fun b _ hd => .inl fun hg => hn b hg hd).mono hm.size fun _ _ h => h⟩
theorem RkAt.mv {D : Nat → Prop} (h : RkAt w base r G c) (hm : Mv D w w') (hn : ∀ i, G i → ¬ D i) : RkAt w' base r G c :=
  ⟨h.blk.mv hm h.me hn, h.me, ⟨Nat.le_trans h.low.1 hm.size, fun i hi => ⟨(h.low.2 i hi).1, Nat.lt_of_lt_of_le (h.low.2 i hi).2 hm.size⟩⟩, h.ok⟩
theorem RkAt.new (h : RkAt w base r G c) (hb : Below w.heap.size w w') : RkAt w' base r G c := h.mv (Mv.of_new hb (fun _ => False)) (fun _ _ h => h)
theorem RkWent.of (h : RkAt w base r G c) (hb : Below w.heap.size w w') : RkWent w w' base r G c := ⟨G, h.new hb, fun _ h => .inl h, Mv.of_new hb _⟩
theorem RkWent.below {c0 : Ck} (h : RkWent w w' base r G c) (h0 : RkAt w base r G c0) : Below base w w' := by
  obtain ⟨G', _, _, hm⟩ := h
  exact hm.below h0.low.1 (by rintro i rfl; exact (h0.low.2 i h0.me).1)
/-- a new list, behind new blocks -/
theorem RkAt.relist {A : Option Addr} {n cap : Nat} {l' : List Bl} (h : RkAt w base r G c) (hb : Below w.heap.size w w1) (hn : n = l'.length) (ho : OwnBl w1 w.heap.size (.slice A n cap) l') (hok : Ck.Ok { c with l := l' }) :
    RkWent w (w1.setCell ⟨r, 1, none⟩ (.slice A n cap)) base r G { c with l := l' } := by
  subst hn
  obtain ⟨A0, cap0, hw, _⟩ := (h.new hb).blk
  have hr := (h.low.2 r h.me)
  have hm : Mv (fun i => i = r) w1 (w1.setCell ⟨r, 1, none⟩ (.slice A l'.length cap)) := (Mv.refl (fun i => i = r) w1).setCell (p := ⟨r, 1, none⟩) (fun _ => rfl) _
  refine ⟨fun i => G i ∨ (w.heap.size ≤ i ∧ i < w1.heap.size), ⟨⟨A, cap, hw.put 1 _, ?_⟩, .inl h.me, ⟨by simp only [World.size_setCell]; exact Nat.le_trans h.low.1 hb.size, fun i hi => ?_⟩, hok⟩, fun i hi => hi.elim .inl fun h => .inr h.1, ?_⟩
  · have h1 : RdG encBl 2 w1 w1.heap.size (fun i => ¬ (G i ∨ (w.heap.size ≤ i ∧ i < w1.heap.size)) ∨ i = r) (.slice A l'.length cap) l' := RdG.own encBl_len ho fun b hb1 hb2 _ hc => by
      rcases hc with hc | rfl
      · exact hc (.inr ⟨hb1, hb2⟩)
      · omega
    exact (h1.mv hm (Nat.le_refl _) fun b _ hd => .inr hd).mono hm.size fun _ _ h => h
  · simp only [World.size_setCell]
    rcases hi with hi | hi
    · exact ⟨(h.low.2 i hi).1, Nat.lt_of_lt_of_le (h.low.2 i hi).2 hb.size⟩
    · exact ⟨Nat.le_trans h.low.1 hi.1, hi.2⟩
  · exact (Mv.of_new hb (fun i => i = r)).trans hm (fun _ _ h => h)
end
section
variable {ops : Array Oper} {rest : List Oper} {o : Oper} {a : Act} {Q : Exit → Act → World → Prop} {w : World}
set_option maxRecDepth 100000 in
theorem wpList_addBl (hgd : Region.wanted o (yielded ops a.tmps) = true) (s x : Operand)
    (ho : o.op = .call { callee := .builtin .append, args := #[s, x], argTypes := #[27, 27] })
    (base : Nat) (v : Value) (l : List Bl) (hs : a.eval s = v) (hown : OwnBl w base v l) (B : Nat) (v2 : Value) (p : List Bl) (hx : a.eval x = v2) (hp : Rd encBl 2 w B v2 p)
    (hlen : l.length + p.length ≤ 5000000000000) (hbase : base ≤ w.heap.size)
    (h : ∀ A' c' w', Hid (OwnBl w' base (.slice A' (l ++ p).length c') (l ++ p)) → Hid (w.grownBy w' v.ownBlock) → wpList Try.prog ops Q rest (a.put o.dst (.slice A' (l ++ p).length c')) w') : wpList Try.prog ops Q (o :: rest) a w := by
  obtain ⟨i0, hi, hz0, hz1, hz2⟩ := info_parts info_bl
  refine BigFrame.wpList_want hgd fun K hK => ?_
  refine wp_addAny (enc := encBl) (k := 2) 27 53 16 i0 _ Try.underlying27 hi hz0 hz1 hz2 rfl (by decide) encBl_len encBl_one s x ho base v l hs hown B v2 p hx hp (by unfold maxLen; omega) (by omega) hbase fun A' c' w' h1 h2 => ?_
  exact hK _ _ (h A' c' w' (Lib.hid h1) (Lib.hid h2))
end
set_option maxRecDepth 100000 in
theorem RdBl.one (w : World) (x : Bl) : Rd encBl 2 (w.alloc (.cells #[.int .i64 x.bell, .int .i64 x.at_] 53)) (w.heap.size + 1) (.slice (some ⟨w.heap.size, 0, none⟩) 1 1) [x] := by
  have hW : Whole (w.alloc (.cells #[.int .i64 x.bell, .int .i64 x.at_] 53)) w.heap.size 53 [.int .i64 x.bell, .int .i64 x.at_] := Whole.fresh w _ [_, _]
  refine ⟨_, 1, rfl, Nat.le_refl _, fun i hi => ⟨w.heap.size, 0, rfl, Nat.lt_succ_self _, fun j u hu => ?_⟩⟩
  obtain rfl : i = 0 := by simp at hi; omega
  have h1 := hW.cell j u
  simp only [encBl, List.getElem_cons_zero] at hu
  simpa using h1 hu
theorem wo_snoc (b : Int) (l : List Bl) (x : Bl) : wo b (l ++ [x]) = if x.bell = b then wo b l else wo b l ++ [x] := by
  unfold wo
  rw [List.filter_append, List.filter_cons, List.filter_nil]
  by_cases h : x.bell = b
  · rw [if_neg (by simp [h]), if_pos h, List.append_nil]
  · rw [if_pos (by simp [h]), if_neg h]
theorem wo_take (b : Int) (l : List Bl) (i : Nat) (h : i < l.length) : wo b (l.take (i + 1)) = if l[i].bell = b then wo b (l.take i) else wo b (l.take i) ++ [l[i]] := by
  rw [List.take_add_one, List.getElem?_eq_getElem h, Option.toList_some, wo_snoc]

set_option maxHeartbeats 8000000 in
set_option maxRecDepth 100000 in
theorem rwithout_any (base r : Nat) (G : Nat → Prop) (c : Ck) (bell : Int) (w : World) (h : RkAt w base r G c) :
    Calls Try.prog 18 #[.pointer (some ⟨r, 0, none⟩), .int .i64 bell] w fun e w' => ∃ g cap, e = .returned (.slice (some ⟨g, 0, none⟩) (wo bell c.l).length cap) ∧ OwnBl w' w.heap.size (.slice (some ⟨g, 0, none⟩) (wo bell c.l).length cap) (wo bell c.l) ∧ Below w.heap.size w w' := by
  have hlen := h.ok.len
  obtain ⟨A, cap, hb, hrd⟩ := h.blk
  have hr : r < w.heap.size := hb.size
  have HB := Lib.hid hb
  have HR := Lib.hid hrd.rd
  obtain ⟨L, hL⟩ : ∃ L, L = c.l := ⟨_, rfl⟩
  rw [← hL] at hlen HB HR ⊢
  clear h hb hrd hL
  go_enter Try.func18, Try.ntmps18
  go_wp2_with fail
  have HS := Lib.hid (Own.empty (enc := encBl) (k := 2) (e := 53) w w.heap.size (Nat.le_refl _))
  have HB0 := Lib.hid ((Below.refl w.heap.size w).alloc (Nat.le_refl _) (.cells #[] 53))
  generalize w.alloc (.cells #[] 53) = w0 at HS HB0 ⊢
  go_loopw [5, 6] (fun ov iv wr => ∃ (i g c' : Nat), i ≤ L.length ∧ iv = .int .i64 (i : Int) ∧ ov = .slice (some ⟨g, 0, none⟩) (wo bell (L.take i)).length c' ∧ OwnBl wr w.heap.size (.slice (some ⟨g, 0, none⟩) (wo bell (L.take i)).length c') (wo bell (L.take i)) ∧ Below w.heap.size w wr) (fun _ iv _ => L.length - (intOf iv).toNat)
  case atStart => exact ⟨0, w.heap.size, 0, Nat.zero_le _, rfl, rfl, HS.out, HB0.out⟩
  case round =>
    obtain ⟨i, g, c', hi, rfl, rfl, ho, hbw⟩ := hrel
    have HO := Lib.hid ho
    have HBW := Lib.hid hbw
    have hz := hbw.size
    have hbr := HB.out.below hbw hr
    have c1 := hbr.cell 1 _ rfl
    clear ho hbw hbr
    by_cases hil : i < L.length
    · obtain ⟨A2, cap2, e, hc2, hcell⟩ := HR.out.below HBW.out (Nat.le_refl _)
      injection e with e1 e2 e3
      subst e1 e3
      obtain ⟨g2, o2, rfl, hg2, hq⟩ := hcell i hil
      have q0 := hq 0 _ rfl
      have q1 := hq 1 _ rfl
      simp only [Nat.add_zero] at q0
      clear hcell hq e2
      have HT := Lib.hid (wo_take bell L i hil)
      have hlt : (wo bell (L.take i)).length ≤ i := by
        have := ((wo_sub bell (L.take i)).length_le); rw [List.length_take] at this; omega
      generalize L[i] = x at q0 q1 HT
      generalize wo bell (L.take i) = K at HO HT hlt ⊢
      obtain ⟨xb, xa⟩ := x
      simp only at q0 q1
      have HLT := Lib.hid hlt
      have h0 : (0 : Int) ≤ (i : Int) := by omega
      have h1 : (i : Int) < (L.length : Int) := by omega
      have h2 : IntKind.i64.wrap ((i : Int) + 1) = ((i + 1 : Nat) : Int) := by rw [IntKind.wrap_i64]; omega
      clear hlt
      by_cases hx : xb = bell
      · subst hx
        go_wp2_with fail
        have ht := HT.out
        rw [if_pos rfl] at ht
        go_roundw
        case rel => exact ⟨i + 1, g, c', by omega, rfl, by rw [ht], by rw [ht]; exact HO.out, HBW.out⟩
        case measure => simp [intOf]; omega
      · have ht := HT.out
        simp only at ht
        rw [if_neg hx] at ht
        have HT2 := Lib.hid ht
        clear ht HT
        have HRD := Lib.hid (RdBl.one wr ⟨xb, xa⟩)
        simp only at HRD
        have HOA := Lib.hid (HO.out.alloc (.cells #[.int .i64 xb, .int .i64 xa] 53))
        have HZ2 := Lib.hid (show w.heap.size ≤ (wr.alloc (.cells #[.int .i64 xb, .int .i64 xa] 53)).heap.size by simp; omega)
        go_wp2_with (at_builtin; refine wpList_addBl rfl _ _ rfl w.heap.size (.slice (some ⟨g, 0, none⟩) K.length c') K rfl HOA.out (wr.heap.size + 1) (.slice (some ⟨wr.heap.size, 0, none⟩) 1 1) [⟨xb, xa⟩] rfl HRD.out (by have := HLT.out; simp only [List.length_cons, List.length_nil]; omega) HZ2.out ?_)
        intro A4 c4 w4 ho4 hg4
        have ho5 := ho4.out
        have hgd : ∃ g4, A4 = some ⟨g4, 0, none⟩ := by
          rcases ho5.form with ⟨_, e⟩ | ⟨g4, cap4, e, _⟩
          · simp at e
          · injection e with e _ _; exact ⟨g4, e⟩
        obtain ⟨g4, rfl⟩ := hgd
        have HO5 := Lib.hid ho5
        have HB4 := Lib.hid (show Below w.heap.size w w4 from HOA.out.grown (HBW.out.alloc hz _) hg4.out (Nat.le_refl _) (by simp; omega))
        clear ho4 hg4 ho5
        go_wp2_with fail
        go_roundw
        case rel =>
          refine ⟨i + 1, g4, c4, by omega, rfl, ?_, ?_, HB4.out⟩
          · rw [HT2.out]; simp
          · rw [HT2.out]
            have := HO5.out
            simpa using this
        case measure => simp [intOf]; omega
    · have hie : i = L.length := by omega
      subst hie
      go_wp2_with fail
      have ho := HO.out
      rw [List.take_length] at ho ⊢
      go_ret
      exact ⟨g, c', rfl, ho, HBW.out⟩
end Go.Proofs.Ytcigodaacdfagaa
