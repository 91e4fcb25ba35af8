/- The program's clock: the bells whose time has come. -/
import Derived.Test.YtcigodaacdfagaaPf
namespace Go.Proofs.Ytcigodaacdfagaa
open Go.RowKit Go.Sort

def isDue (t : Int) (p : Int × Value) : Bool := match p.2 with
  | .int _ a => decide (a ≤ t)
  | _ => false
/-- of these pairs those that ring -/
def dueOf (t : Int) (S : List (Int × Value)) : List Int := (S.filter (isDue t)).map (·.1)
theorem dueOf_len (t : Int) (S : List (Int × Value)) : (dueOf t S).length ≤ S.length := by
  unfold dueOf
  rw [List.length_map]
  exact List.length_filter_le _ _
theorem dueOf_snoc (t k a : Int) (S : List (Int × Value)) : dueOf t (S ++ [(k, .int .i64 a)]) = if a ≤ t then dueOf t S ++ [k] else dueOf t S := by
  unfold dueOf
  rw [List.filter_append, List.map_append]
  by_cases h : a ≤ t
  · simp [isDue, h]
  · simp [isDue, h]
theorem due_filter {l : List Bl} {t : Int} (hr : l.Pairwise fun x y => x.fore y = true) : Ck.due l t = l.filter fun x => decide (x.at_ ≤ t) := by
  have h : l.filter (fun x => decide (x.at_ ≤ t)) = (Ck.due l t ++ Ck.late l t).filter (fun x => decide (x.at_ ≤ t)) := by rw [Ck.due_late]
  rw [h, List.filter_append, List.filter_eq_self.2 (fun x hx => by simpa using (Ck.mem_due hx).2), List.filter_eq_nil_iff.2 (fun x hx => by have := (Ck.mem_late hr hx).2; simp; omega), List.append_nil]
theorem due_sorted {l : List Bl} {t : Int} (hr : l.Pairwise fun x y => x.fore y = true) (hno : (l.map (·.bell)).Nodup) {S : List (Int × Value)} (hS : S.Perm (l.map prB)) {l' : List Int} (hp : l'.Perm (dueOf t S)) (hs : l'.Pairwise (fun x y => ltOf (cmpB l) y x = false)) :
    l' = (Ck.due l t).map (·.bell) := by
  have h1 : (dueOf t S).Perm ((Ck.due l t).map (·.bell)) := by
    rw [due_filter hr]
    have h2 := (hS.filter (isDue t)).map (·.1)
    rw [List.filter_map, List.map_map] at h2
    exact h2
  refine List.Perm.eq_of_pairwise (le := fun x y => ltOf (cmpB l) y x = false) (fun a b _ _ h2 h3 => ?_) hs ?_ (hp.trans h1)
  · rw [ltB] at h2 h3
    simp only [decide_eq_false_iff_not] at h2 h3
    omega
  · rw [List.pairwise_map]
    refine (hr.sublist (List.takeWhile_sublist _ : (Ck.due l t).Sublist l)).imp_of_mem ?_
    intro x y hx hy hf
    rw [ltB, atOf_mem hno (Ck.mem_due hx).1, atOf_mem hno (Ck.mem_due hy).1]
    have := Bl.fore_iff.1 hf
    simp only [decide_eq_false_iff_not]
    omega

section
variable {ops : Array Oper} {rest : List Oper} {o : Oper} {a : Act} {Q : Exit → Act → World → Prop} {w : World}
set_option maxRecDepth 100000 in
theorem wpList_addIg (hgd : Region.wanted o (yielded ops a.tmps) = true) (s x : Operand)
    (ho : o.op = .call { callee := .builtin .append, args := #[s, x], argTypes := #[33, 33] })
    (base : Nat) (v : Value) (l : List Int) (hs : a.eval s = v) (hown : OwnI w base v l) (B : Nat) (v2 : Value) (p : List Int) (hx : a.eval x = v2) (hp : RdI w B v2 p)
    (hlen : l.length + p.length ≤ 28147497670000) (hbase : base ≤ w.heap.size)
    (h : ∀ A' c' w', Hid (OwnI w' base (.slice A' (l ++ p).length c') (l ++ p)) → Hid (w.grownBy w' v.ownBlock) → wpList Try.prog ops Q rest (a.put o.dst (.slice A' (l ++ p).length c')) w') : wpList Try.prog ops Q (o :: rest) a w := by
  obtain ⟨i0, hi, hz0, hz1, hz2⟩ := info_parts info_int
  refine BigFrame.wpList_want hgd fun K hK => ?_
  refine wp_addAny (enc := encI) (k := 1) 33 3 8 i0 _ Try.underlying33 hi hz0 hz1 hz2 rfl (by decide) encI_len encI_one s x ho base v l hs hown B v2 p hx hp (by unfold maxLen; omega) (by omega) hbase fun A' c' w' h1 h2 => ?_
  exact hK _ _ (h A' c' w' (Lib.hid h1) (Lib.hid h2))
end
theorem OwnI.ne_rng {w : World} {base b r : Nat} {v : Value} {l : List Int} {L T : List (Int × Value)} (h : OwnI w base v l) (hR : RngI w b r L T) : v.ownBlock ≠ some r := by
  rcases Own.row h with ⟨rfl, _⟩ | ⟨g, cap, cur, rfl, _, hW, _⟩
  · simp [Value.ownBlock]
  · have := hR.apart hW
    simpa [Value.ownBlock] using this

set_option maxHeartbeats 8000000 in
set_option maxRecDepth 100000 in
theorem due_any (q : Nat) (G : Nat → Prop) (now : Int) (l : List Bl) (w : World) (h : CkCells w q G now l) (hq : G q) (hlow : ∀ i, G i → i < w.heap.size) (hlen : l.length ≤ 4096) (hr : l.Pairwise fun x y => x.fore y = true) (hno : (l.map (·.bell)).Nodup) :
    Calls Try.prog 19 #[.pointer (some ⟨q, 0, none⟩)] w fun e w' => ∃ A cap, e = .returned (.slice A ((Ck.due l now).map (·.bell)).length cap) ∧ OwnI w' w.heap.size (.slice A ((Ck.due l now).map (·.bell)).length cap) ((Ck.due l now).map (·.bell)) ∧ Below w.heap.size w w' := by
  obtain ⟨m, hW, hm⟩ := h
  have hqs := hlow q hq
  have hW1 := hW.alloc (.cells #[.pointer (some ⟨q, 0, none⟩)] 23)
  have hB1 : Whole (w.alloc (.cells #[.pointer (some ⟨q, 0, none⟩)] 23)) w.heap.size 23 [.pointer (some ⟨q, 0, none⟩)] := Whole.fresh w _ [_]
  have hb1 : Below w.heap.size w (w.alloc (.cells #[.pointer (some ⟨q, 0, none⟩)] 23)) := (Below.refl _ w).alloc (Nat.le_refl _) _
  have c0 := hB1.cell 0 _ rfl
  have c1 := hW1.cell 1 _ rfl
  have HB1 := Lib.hid hB1
  have HW1 := Lib.hid hW1
  have HBW := Lib.hid hb1
  have HRI := Lib.hid hr
  have HNO := Lib.hid hno
  rcases hm with ⟨rfl, rfl⟩ | ⟨b, rfl, hne, hg, hM⟩
  · have hrg := run_range_nilMap (P := Try.prog) (w.alloc (.cells #[.pointer (some ⟨q, 0, none⟩)] 23)) 47 _ _ Try.underlying47
    have hnx : ∀ ty, (Instr.next (.pointer (some ⟨(w.alloc (.cells #[.pointer (some ⟨q, 0, none⟩)] 23)).heap.size, 0, none⟩)) false ty).run Try.prog ((w.alloc (.cells #[.pointer (some ⟨q, 0, none⟩)] 23)).alloc (.mapIter none 0 #[] 0)) = .ok (.tuple #[.bool false]) ((w.alloc (.cells #[.pointer (some ⟨q, 0, none⟩)] 23)).alloc (.mapIter none 0 #[] 0)) := fun ty => run_next_nilMap _ ty 0 0 #[]
    simp only [World.size_alloc] at hnx
    clear hW hW1 hB1 hb1 hr hno hlow hq
    go_enter Try.func19, Try.ntmps19
    go_wp2_with fail
    refine wp_loop_rounds 1 ?_
    rw [rounds_succ]
    go_wp2_with (go_at_call 20; refine (sort_none _ _).mono ?_; rintro e w1 ⟨rfl, rfl⟩)
    go_ret
    refine ⟨none, 0, rfl, Own.nil _ _, HBW.out.alloc (by simp) _⟩
  · have hbs := hlow b hg
    have hM1 : MapI (w.alloc (.cells #[.pointer (some ⟨q, 0, none⟩)] 23)) b (l.map prB) := hM.mv ((Mv.refl (fun _ => False) w).alloc _) (fun h => h)
    obtain ⟨w2, hrg, hR2, hm2, hs2⟩ := hM1.range (P := Try.prog) Try.underlying47
    have hW2 := hm2.whole hW1 (fun h => h)
    have hB2 := hm2.whole hB1 (fun h => h)
    simp only [World.size_alloc] at hrg hR2 hs2
    have hb2 : Below w.heap.size w w2 := hb1.trans (hm2.below (B := w.heap.size) (by simp) (fun _ h => h.elim))
    have HR2 := Lib.hid hR2
    have HW2 := Lib.hid hW2
    have HB2 := Lib.hid hB2
    have HBW2 := Lib.hid hb2
    clear hW hW1 hB1 hb1 hr hno hlow hq hM hM1 hR2 hm2 hW2 hB2 hb2 HB1 HW1 HBW hg
    go_enter Try.func19, Try.ntmps19
    go_wp2_with fail
    clear hrg c0 c1
    go_loopw [3] (fun ov wr => ∃ (S T : List (Int × Value)) (A : Option Addr) (cap : Nat), (S ++ T).Perm (l.map prB) ∧ ov = .slice A (dueOf now S).length cap ∧ OwnI wr w.heap.size (.slice A (dueOf now S).length cap) (dueOf now S) ∧ RngI wr b (w.heap.size + 1) (l.map prB) T ∧
      Whole wr w.heap.size 23 [.pointer (some ⟨q, 0, none⟩)] ∧ Whole wr q 49 [.int .i64 now, .map (some b)] ∧ Below w.heap.size w wr) (fun _ wr => wr.rangeLeft b (w.heap.size + 1))
    case atStart => exact ⟨[], _, none, 0, .refl _, rfl, Own.nil _ _, HR2.out, HB2.out, HW2.out, HBW2.out⟩
    case round =>
      obtain ⟨S, T, A, cap, hp, rfl, ho, hR, hB, hW, hb⟩ := hrel
      have hSl : S.length + T.length = l.length := by
        have := hp.length_eq
        simpa using this
      have hdl := dueOf_len now S
      have HP := Lib.hid hp
      have HO := Lib.hid ho
      have HR := Lib.hid hR
      have HB := Lib.hid hB
      have HW := Lib.hid hW
      have HBD := Lib.hid hb
      have hz := hb.size
      have HLN := Lib.hid hlen
      clear hp ho hb hB hW HR2 HB2 HW2 HBW2
      rcases hR.next (P := Try.prog) 0 with ⟨rfl, hnx⟩ | ⟨k, v, T', w3, hT, hnx, hR3, hm3, hs3, hen⟩
      · clear hR
        have HSORT := Lib.hid (sort_any w.heap.size q b now l wr w.heap.size _ _ HO.out (by omega) HB.out HW.out HR.out.map (fun g hg => ⟨fun e => (Own.apart HO.out HB.out (by decide)) (by rw [hg, e]), by have := (Own.low HO.out hg).1; omega, by have := (Own.low HO.out hg).1; omega⟩))
        go_wp2_with fail
        refine HSORT.out.mono ?_
        rintro e w1 ⟨rfl, l', ho1, hm1, hp1, hs1⟩
        have hpe := HP.out
        rw [List.append_nil] at hpe
        have hl' := due_sorted HRI.out HNO.out hpe hp1 hs1
        have hn' : (dueOf now S).length = ((Ck.due l now).map (·.bell)).length := by rw [← hl', hp1.length_eq]
        rw [hl', hn'] at ho1
        rw [hn'] at hm1 ⊢
        have hfin : Below w.heap.size w w1 := HBD.out.trans (hm1.below hz (fun i hi => (Own.low (by rw [← hn']; exact HO.out) hi).1))
        have HO1 := Lib.hid ho1
        have HF := Lib.hid hfin
        clear ho1 hm1 hp1 hs1 hpe hl' hn' hfin HSORT
        go_wp2_with fail
        go_ret
        exact ⟨A, cap, by rw [List.length_map]; rfl, HO1.out, HF.out⟩
      · obtain ⟨a, rfl, hkv⟩ : ∃ a, v = .int .i64 a ∧ (k, v) ∈ l.map prB := by
          have h1 : (k, v) ∈ S ++ T := List.mem_append_right _ (hT.symm.subset (by simp))
          have h2 := HP.out.subset h1
          obtain ⟨x, _, hx⟩ := List.mem_map.1 h2
          exact ⟨x.at_, (congrArg Prod.snd hx).symm, h2⟩
        have hB3 := hm3.whole HB.out (by omega)
        have hW3 := hm3.whole HW.out (by omega)
        have c0 := hB3.cell 0 _ rfl
        have c1 := hW3.cell 0 _ rfl
        have hTl := hT.length_eq
        simp only [List.length_cons] at hTl
        have hb3 : Below w.heap.size w w3 := HBD.out.trans (hm3.below hz (fun i e => by omega))
        have ho3 : OwnI w3 w.heap.size (.slice A (dueOf now S).length cap) (dueOf now S) := Own.kept HO.out (row := some (w.heap.size + 1)) ⟨hm3.os, hm3.tape, hm3.output, hm3.size, fun i hi hne => hm3.block i hi (fun e => hne (by rw [e]))⟩ (.inr (OwnI.ne_rng HO.out HR.out))
        have hp3 : ((S ++ [(k, Value.int .i64 a)]) ++ T').Perm (l.map prB) := by
          refine List.Perm.trans ?_ HP.out
          rw [List.append_assoc]
          exact hT.symm.append_left S
        have HP3 := Lib.hid hp3
        have HO3 := Lib.hid ho3
        have HR3 := Lib.hid hR3
        have HB3 := Lib.hid hB3
        have HW3 := Lib.hid hW3
        have HBD3 := Lib.hid hb3
        have hlr := HR.out.left_eq
        have hsn := dueOf_snoc now k a S
        clear hp3 ho3 hR3 hB3 hW3 hb3 hkv hT HP HO HR HB HW HBD hR hm3
        by_cases had : a ≤ now
        · rw [if_pos had] at hsn
          have HSN := Lib.hid hsn
          have HLR := Lib.hid hlr
          have HL2 := Lib.hid (show (dueOf now S).length + 1 ≤ 28147497670000 by have := HLN.out; omega)
          clear hsn hlr hdl
          have HRD := Lib.hid (show RdI (w3.alloc (.cells #[.int .i64 k] 3)) (wr.heap.size + 1) (.slice (some ⟨wr.heap.size, 0, none⟩) 1 1) [k] by rw [← hs3]; exact RdI.one w3 k)
          have HOA := Lib.hid (HO3.out.alloc (.cells #[.int .i64 k] 3))
          have HZ2 := Lib.hid (show w.heap.size ≤ (w3.alloc (.cells #[.int .i64 k] 3)).heap.size by simp; omega)
          go_wp2_with (at_builtin; refine wpList_addIg rfl _ _ rfl w.heap.size (.slice A (dueOf now S).length cap) (dueOf now S) rfl HOA.out (wr.heap.size + 1) (.slice (some ⟨wr.heap.size, 0, none⟩) 1 1) [k] rfl HRD.out (by have := HL2.out; simp only [List.length_cons, List.length_nil]; omega) HZ2.out ?_)
          intro A4 c4 w4 ho4 hg4
          have hga : Mv (fun i => (Value.slice A (dueOf now S).length cap).ownBlock = some i) w3 w4 := ((Mv.refl (fun i => (Value.slice A (dueOf now S).length cap).ownBlock = some i) w3).alloc _).grown hg4.out (fun i _ e => e.symm)
          have hlo : ∀ i, (Value.slice A (dueOf now S).length cap).ownBlock = some i → w.heap.size ≤ i := fun i hi => (Own.low HO3.out hi).1
          have hR4 := HR3.out.mv hga (fun e => by have := hlo _ e; omega) (fun e => OwnI.ne_rng HO3.out HR3.out e)
          have hB4 := hga.whole HB3.out (fun e => Own.apart HO3.out HB3.out (by decide) e.symm)
          have hW4 := hga.whole HW3.out (fun e => by have := hlo _ e; omega)
          have hb4 := HBD3.out.trans (hga.below (B := w.heap.size) HBD3.out.size hlo)
          have HO4 := Lib.hid ho4.out
          have HR4 := Lib.hid hR4
          have HB4 := Lib.hid hB4
          have HW4 := Lib.hid hW4
          have HBD4 := Lib.hid hb4
          clear ho4 hg4 hga hlo hR4 hB4 hW4 hb4 HRD HOA HZ2 c0 c1 hnx hen
          go_wp2_with fail
          go_roundw
          case rel => exact ⟨S ++ [(k, Value.int .i64 a)], T', A4, c4, HP3.out, by rw [HSN.out]; simp, by rw [HSN.out]; simpa using HO4.out, HR4.out, HB4.out, HW4.out, HBD4.out⟩
          case measure => rw [HLR.out, HR4.out.left_eq]; omega
        · rw [if_neg had] at hsn
          have HSN := Lib.hid hsn
          have HLR := Lib.hid hlr
          clear hsn hlr hdl
          go_wp2_with fail
          go_roundw
          case rel => exact ⟨S ++ [(k, Value.int .i64 a)], T', A, cap, HP3.out, by rw [HSN.out], by rw [HSN.out]; exact HO3.out, HR3.out, HB3.out, HW3.out, HBD3.out⟩
          case measure => rw [HLR.out, HR3.out.left_eq]; omega
end Go.Proofs.Ytcigodaacdfagaa
