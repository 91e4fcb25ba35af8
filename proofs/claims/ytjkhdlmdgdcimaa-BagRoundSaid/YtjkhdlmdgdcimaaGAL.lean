/- The program's bag: a message laid at a free place. -/
import Derived.Test.YtjkhdlmdgdcimaaGAA
import Derived.Test.YtjkhdlmdgdcimaaRws
import Derived.Test.YtjkhdlmdgdcimaaGenN
namespace Go.Proofs.Ytjkhdlmdgdcimaa
open Go.RowKit Go.Conc

def Bg.put (b : Bg) (x : Ltr) : Int × Bg := if b.room ≤ b.l.length then (10, b) else (0, { b with l := b.l ++ [x] })
theorem Whole.awayC {w : World} {g c : Nat} {T : TypeId} {cs : List Value} (h : Whole w g T cs) (cap : Nat) (buf : Array Value) (cl : Bool) (s r : Nat) (tm : Bool) (hn : g ≠ c) : Whole (w.setChan c cap buf cl s r tm) g T cs := (heap_setChan_ne w c cap buf cl s r tm hn).trans h

set_option maxRecDepth 100000 in
/-- a message written whole -/
theorem OwnM.put {w : World} {base g m c : Nat} {ms : List Ltr} (h : OwnM w base (.slice (some ⟨g, 0, none⟩) m c) ms) (p : Nat) (hp : p < ms.length) (x : Ltr) :
    OwnM (((w.setCell ⟨g, p * 3, none⟩ (.int .i64 x.to)).setCell ⟨g, p * 3 + 1, none⟩ (.string (strB x.text))).setCell ⟨g, p * 3 + 2, none⟩ (.bool x.sp)) base (.slice (some ⟨g, 0, none⟩) m c) (ms.set p x) := by
  have h1 := Own.setAt encL_len h p 0 (.int .i64 x.to) ⟨x.to, ms[p].text, ms[p].sp⟩ hp (by decide) rfl
  have h2 := Own.setAt encL_len h1 p 1 (.string (strB x.text)) ⟨x.to, x.text, ms[p].sp⟩ (by simpa using hp) (by decide) (by rw [List.getElem_set_self]; rfl)
  have h3 := Own.setAt encL_len h2 p 2 (.bool x.sp) x (by simpa using hp) (by decide) (by rw [List.getElem_set_self]; rfl)
  rw [List.set_set, List.set_set] at h3
  exact h3
set_option maxRecDepth 100000 in
theorem wpList_addIN {ops : Array Oper} {rest : List Oper} {o : Oper} {a : Act} {Q : Exit → Act → World → Prop} {w : World} (hgd : Region.wanted o (yielded ops a.tmps) = true) (s x : Operand)
    (ho : o.op = .call { callee := .builtin .append, args := #[s, x], argTypes := #[53, 53] })
    (base : Nat) (v : Value) (l : List Int) (hs : a.eval s = v) (hown : OwnI w base v l) (B : Nat) (v2 : Value) (p : List Int) (hx : a.eval x = v2) (hp : RdI w B v2 p)
    (hlen : l.length + p.length ≤ 28147497670000) (hbase : base ≤ w.heap.size) (N : Nat) (hN : N = (l ++ p).length)
    (h : ∀ A' c' w', Hid (OwnI w' base (.slice A' N c') (l ++ p)) → Hid (w.grownBy w' v.ownBlock) → Hid (NewRow w v.ownBlock (Value.ownBlock (.slice A' N c'))) → wpList Try.prog ops Q rest (a.put o.dst (.slice A' N c')) w') : wpList Try.prog ops Q (o :: rest) a w := by
  subst hN
  obtain ⟨i0, hi, hz0, hz1, hz2⟩ := info_parts info_int
  refine BigFrame.wpList_want hgd fun K hK => ?_
  refine wp_addAnyN (enc := encI) (k := 1) 53 3 8 i0 _ Try.underlying53 hi hz0 hz1 hz2 rfl (by decide) encI_len encI_one s x ho base v l hs hown B v2 p hx hp (by unfold maxLen; omega) (by omega) hbase fun A' c' w' h1 h2 h3 => ?_
  exact hK _ _ (h A' c' w' (Lib.hid h1) (Lib.hid h2) (Lib.hid h3))
theorem Mv.setChan {D : Nat → Prop} {w w' : World} (h : Mv D w w') {c : Nat} (hc : c < w.heap.size → D c) (cap : Nat) (buf : Array Value) (cl : Bool) (s r : Nat) (tm : Bool) : Mv D w (w'.setChan c cap buf cl s r tm) := by
  refine h.trans (D' := fun i => i = c) ⟨rfl, rfl, rfl, by simp [World.setChan], fun i _ hn => heap_setChan_ne w' c cap buf cl s r tm hn⟩ ?_
  rintro i hi rfl
  exact hc hi
set_option maxHeartbeats 4000000 in
set_option maxRecDepth 100000 in
theorem lay_full (base q : Nat) (I : Bi) (b : Bg) (x : Ltr) (w : World) (h : BagIs w base q I b) (hf : I.fr = []) :
    Calls Try.prog 21 #[.pointer (some ⟨q, 0, none⟩), lval x] w fun e w' => e = .returned (.int .i64 10) ∧ Below w.heap.size w w' := by
  have hc := h.chan
  rw [hf] at hc
  have hW := h.whole
  have hq := hW.size
  have hcs := chan_lt hc
  have HC := Lib.hid (show w.heap[I.ch]? = some (.chan b.room #[] false I.s I.r false) from hc)
  have HW := Lib.hid hW
  clear hc hW h hf
  obtain ⟨to, tx, sp⟩ := x
  show Calls Try.prog 21 #[.pointer (some ⟨q, 0, none⟩), .agg #[.int .i64 to, .string (strB tx), .bool sp]] w _
  generalize strB tx = S
  have HS := Lib.hid hq
  have HCS := Lib.hid hcs
  clear hq hcs
  refine calls_of_WN Try.func21 rfl ?_
  simp only [Try.ntmps21, List.size_toArray, List.length_cons, List.length_nil, Nat.reduceAdd, Nat.reduceSub, Array.replicate_succ, Array.replicate_zero, List.push_toArray, List.append_toArray, List.nil_append, List.cons_append]
  refine WN.seq_wp fun K hK => ?_
  go_wp2_with fail
  have hW2 := HW.out.alloc (.cells #[.int .i64 to, .string S, .bool sp] 58)
  have hc2 : (w.alloc (.cells #[.int .i64 to, .string S, .bool sp] 58)).heap[I.ch]? = some (.chan b.room #[] false I.s I.r false) := (Below.heap_alloc w _ I.ch HCS.out).trans HC.out
  have hb2 : Below w.heap.size w (w.alloc (.cells #[.int .i64 to, .string S, .bool sp] 58)) := (Below.refl _ w).alloc (Nat.le_refl _) _
  generalize (w.alloc (.cells #[.int .i64 to, .string S, .bool sp] 58)) = w2 at hW2 hc2 hb2 ⊢
  have z0 := hW2.cell 0 _ rfl
  have HC2 := Lib.hid hc2
  have HB2 := Lib.hid hb2
  clear hc2 hb2 hW2
  refine WN.seq_wp fun K hK => ?_
  go_wp2_with fail
  refine WN.seqK fun K hK => ?_
  refine WN.region_comm [] _ [_, _] ?_
  unfold PreV
  refine ⟨rfl, _, _, CommTo.pass (z := .int .i64 0) ?_ HC2.out, ?_⟩
  · clear hK
    go_simp
    rfl
  · go_wp2_with fail
    refine WN.of_wp ?_
    go_wp2_with fail
    go_ret
    exact ⟨rfl, HB2.out⟩
set_option maxHeartbeats 4000000 in
set_option maxRecDepth 100000 in
theorem lay_ok (base q : Nat) (I : Bi) (b : Bg) (x : Ltr) (w : World) (p : Nat) (fr : List Nat) (h : BagIs w base q I b) (hf : I.fr = p :: fr) (hx : x.text.length ≤ 131072) :
    Calls Try.prog 21 #[.pointer (some ⟨q, 0, none⟩), lval x] w fun e w' => e = .returned (.int .i64 0) ∧ ∃ I', BagIs w' base q I' ⟨b.room, b.l ++ [x]⟩ ∧ (∀ i, BagG q I' i → BagG q I i ∨ w.heap.size ≤ i) ∧ Mv (BagG q I) w w' := by
  have hc := h.chan
  have hall := h.all
  rw [hf] at hc hall
  have hW := h.whole
  have hq := hW.size
  have hcs := chan_lt hc
  have hp := hall.head
  have hqc := h.qc
  have HC := Lib.hid hc
  have HW := Lib.hid hW
  have HH := Lib.hid h
  have HALL := Lib.hid hall
  have HQC := Lib.hid hqc
  clear hc hW hqc
  obtain ⟨to, tx, sp⟩ := x
  show Calls Try.prog 21 #[.pointer (some ⟨q, 0, none⟩), .agg #[.int .i64 to, .string (strB tx), .bool sp]] w _
  obtain ⟨S, hS⟩ : ∃ S, S = strB tx := ⟨_, rfl⟩
  rw [← hS]
  have HSS := Lib.hid hS; clear hS
  have HS := Lib.hid hq
  have HCS := Lib.hid hcs
  clear hq hcs hall h hf
  refine calls_of_WN Try.func21 rfl ?_
  simp only [Try.ntmps21, List.size_toArray, List.length_cons, List.length_nil, Nat.reduceAdd, Nat.reduceSub, Array.replicate_succ, Array.replicate_zero, List.push_toArray, List.append_toArray, List.nil_append, List.cons_append]
  refine WN.seq_wp fun K hK => ?_
  go_wp2_with fail
  obtain ⟨B, hB⟩ : ∃ B, B = w.heap.size := ⟨_, rfl⟩
  obtain ⟨w2, hw2⟩ : ∃ w2, w2 = w.alloc (.cells #[.int .i64 to, .string S, .bool sp] 58) := ⟨_, rfl⟩
  have hV2 : Whole w2 B 58 [.int .i64 to, .string S, .bool sp] := by rw [hw2, hB]; exact Whole.fresh w _ [_, _, _]
  have hb2 : Below w.heap.size w w2 := by rw [hw2]; exact (Below.refl _ w).alloc (Nat.le_refl _) _
  have hh2 := HH.out.mv (Mv.of_new hb2 (fun _ => False)) (fun _ _ h => h)
  rw [← hw2, ← hB]
  have z0 := hh2.whole.cell 0 _ rfl
  have HB := Lib.hid hB
  have HB2 := Lib.hid hb2
  have HV2 := Lib.hid hV2
  have HH2 := Lib.hid hh2
  have hc2 := (hb2.block I.ch HCS.out).trans HC.out
  have HC2 := Lib.hid hc2
  clear hB hw2 hV2 hb2 hh2 hc2
  refine WN.seq_wp fun K hK => ?_
  go_wp2_with fail
  refine WN.seqK fun K hK => ?_
  refine WN.region_comm [] _ [_, _] ?_
  unfold PreV
  refine ⟨rfl, _, _, CommTo.pick (z := .int .i64 0) ?_ HC2.out (by rw [chanN_size]; simp), ?_⟩
  · clear hK
    go_simp
    rfl
  · rw [show (chanN (p :: fr)).getD 0 undef = .int .i64 (p : Int) by simp [chanN], show (chanN (p :: fr)).extract 1 (chanN (p :: fr)).size = chanN fr by simp [chanN, List.take_of_length_le]]
    obtain ⟨w3, hw3⟩ : ∃ w3, w3 = w2.setChan I.ch b.room (chanN fr) false I.s (I.r + 1) false := ⟨_, rfl⟩
    rw [← hw3]
    have HW3 := Lib.hid hw3
    clear hw3 z0
    go_wp2_with fail
    refine WN.of_wp ?_
    go_wp2_with fail
    have hm3 : Mv (fun i => i = I.ch) w2 w3 := by rw [HW3.out]; exact (Mv.refl (fun i => i = I.ch) w2).setChan (fun _ => rfl) _ _ _ _ _ _
    have hq3 := hm3.whole HH2.out.whole HQC.out
    have hBc : B ≠ I.ch := by have := HB.out; have := HCS.out; omega
    have hV3 := hm3.whole HV2.out hBc
    have hg3 := HH2.out.msgs.mvG hm3 (fun g hg e => HH2.out.cg (by rw [← e]; simpa [Value.ownBlock] using hg.symm))
    have ho3 := HH2.out.ord.mvG hm3 (fun g hg e => HH2.out.co hg e)
    have hS0 := And.intro hq3 hV3
    have HG3 := Lib.hid hg3
    have HO3 := Lib.hid ho3
    have HM3 := Lib.hid hm3
    have g0 : (p : Int) < (b.room : Int) := by omega
    have g1 : (0 : Int) ≤ (p : Int) := by omega
    clear hg3 ho3 hm3 hq3 hV3
    refine wp_region_plan (S := fun W => Whole W q 55 [.chan (some I.ch), .slice (some ⟨I.gp, 0, none⟩) b.room b.room, .slice I.O I.ord.length I.c] ∧ Whole W B 58 [.int .i64 to, .string S, .bool sp])
      [(true, 0), (true, 1), (true, 2), (true, 3), (true, 4), (true, 5), (true, 6), (false, 7)] (by kernel_rfl) (by kernel_rfl) (fun _ _ d _ _ h => by cases d <;> exact h) hS0 ?_
    repeat (refine Plan.take (v := ?_) rfl rfl ?_ ?_; rotate_left; (focus (intro W hW; have k0 := hW.1.cell 1 _ rfl; have k1 := hW.2.cell 0 _ rfl; have k2 := hW.2.cell 1 _ rfl; have k3 := hW.2.cell 2 _ rfl; go_simp; (try with_reducible rfl); done)); (try simp only [Act.put, List.setIfInBounds_toArray, List.set_cons_zero, List.set_cons_succ]))
    refine Plan.step rfl rfl (fun Kk hKk => ?_)
    have hpl : p < I.ms.length := by rw [HH.out.mlen]; exact hp
    have hh3 : ∀ j u, (encL I.ms[p])[j]? = some u → w3.cell? ⟨I.gp, p * 3 + j, none⟩ = some u := fun j u hu => by
      rw [World.cell?_of_block (w := w2) (HM3.out.block I.gp (HH2.out.low (.inr (.inr (.inl rfl)))).2 (fun e => HH2.out.cg e.symm))]
      exact HH2.out.letter hpl j u hu
    have p0 : w3.cell? ⟨I.gp, p * 3, none⟩ = some (.int .i64 I.ms[p].to) := hh3 0 _ rfl
    have p1 := hh3 1 _ rfl
    have p2 := hh3 2 _ rfl
    have f0 := HG3.out.stand (p * 3)
    have f1 := HG3.out.stand (p * 3 + 1)
    have f2 := HG3.out.stand (p * 3 + 2)
    clear hh3
    go_simp
    obtain ⟨w4, hw4⟩ : ∃ w4, w4 = (((w3.setCell ⟨I.gp, p * 3, none⟩ (.int .i64 to)).setCell ⟨I.gp, p * 3 + 1, none⟩ (.string S)).setCell ⟨I.gp, p * 3 + 2, none⟩ (.bool sp)).drew := ⟨_, rfl⟩
    have hm4 : Mv (fun i => i = I.gp) w3 w4 := by
      rw [hw4]
      exact ((((Mv.refl (fun i => i = I.gp) w3).setCell (p := ⟨I.gp, p * 3, none⟩) (fun _ => rfl) _).setCell (p := ⟨I.gp, p * 3 + 1, none⟩) (fun _ => rfl) _).setCell (p := ⟨I.gp, p * 3 + 2, none⟩) (fun _ => rfl) _).drew
    have hg4 : OwnM w4 base (.slice (some ⟨I.gp, 0, none⟩) b.room b.room) (I.ms.set p ⟨to, tx, sp⟩) := by
      rw [hw4, HSS.out]
      exact (OwnM.put HG3.out p hpl ⟨to, tx, sp⟩).drew
    have hBg : B ≠ I.gp := by have := (HH.out.low (.inr (.inr (.inl rfl)))).2; have := HB.out; omega
    have hq4 := hm4.whole hS0.1 HH.out.qg
    have hV4 := hm4.whole hS0.2 hBg
    have ho4 := HO3.out.mvG hm4 (fun g hg e => HH.out.go hg e)
    have hc3 : w3.heap[I.ch]? = some (.chan b.room (chanN fr) false I.s (I.r + 1) false) := by rw [HW3.out]; exact heap_setChan w2 _ _ _ _ _ _ _ (chan_lt HC2.out)
    have hc4 := (hm4.block I.ch (chan_lt hc3) HH.out.cg).trans hc3
    rw [← hw4]
    refine hKk.out _ _ ⟨hq4, hV4⟩ ?_
    clear hKk Kk p0 p1 p2 f0 f1 f2
    (try simp only [Act.put, List.setIfInBounds_toArray, List.set_cons_zero, List.set_cons_succ])
    simp only [Plan]
    have y2 := hq4.cell 2 _ rfl
    have y2f := hq4.frozen 2
    have hb4 : base ≤ w4.heap.size := by have := HH2.out.size; have := HM3.out.size; have := hm4.size; omega
    have hq4s := hq4.size
    have HG4 := Lib.hid hg4
    have HQ4 := Lib.hid hq4
    have HO4 := Lib.hid (ho4.alloc (.cells #[.int .i64 (p : Int)] 3))
    have HR4 := Lib.hid (RdI.one w4 (p : Int))
    have HC4 := Lib.hid hc4
    have HM4 := Lib.hid hm4
    have hil : (intsN I.ord).length + 1 ≤ 28147497670000 := by
      have := HH.out.ok.1
      have := HALL.out.all
      rw [intsN_len]
      simp at this
      omega
    have HIL := Lib.hid hil
    obtain ⟨N, hN⟩ : ∃ N, N = (I.ord ++ [p]).length := ⟨_, rfl⟩
    have HN := Lib.hid hN
    have HB4 := Lib.hid hb4
    have hcat : intsN (I.ord ++ [p]) = intsN I.ord ++ [(p : Int)] := by simp [intsN]
    have HCAT := Lib.hid hcat
    clear hg4 hq4 hV4 ho4 hc3 hc4 hm4 hw4 hS0 hil hN hb4 hcat
    go_wp2_with (at_builtin; go_must (refine wpList_addIN rfl _ _ rfl base (.slice I.O I.ord.length I.c) (intsN I.ord) rfl HO4.out (w4.heap.size + 1) _ [(p : Int)] rfl HR4.out HIL.out ?x1 N ?x2 ?_))
    case x1 => have := HB4.out; simp; omega
    case x2 => rw [HN.out, ← HCAT.out, intsN_len]
    intro A6 c6 w6 ho6 hg6 hn6
    obtain ⟨row, hrow⟩ : ∃ row, row = Value.ownBlock (.slice I.O I.ord.length I.c) := ⟨_, rfl⟩
    have hm6 : Mv (fun i => Value.ownBlock (.slice I.O I.ord.length I.c) = some i) w4 w6 := ((Mv.refl _ w4).alloc _).grown hg6.out (fun i _ e => e.symm)
    have hq6 := hm6.whole HQ4.out (fun e => HH.out.qo e rfl)
    have hc6 := (hm6.block I.ch (chan_lt HC4.out) (fun e => HH.out.co e rfl)).trans HC4.out
    have hgM6 := HG4.out.mvG hm6 (fun g hg e => HH.out.go e (by simpa [Value.ownBlock] using hg.symm))
    have x2 := hq6.cell 2 _ rfl
    have x2f := hq6.frozen 2
    have HQ6 := Lib.hid hq6
    have HC6 := Lib.hid hc6
    have HG6 := Lib.hid hgM6
    have HM6 := Lib.hid hm6
    have HOP : Hid (∀ g, Value.ownBlock (.slice A6 N c6) = some g → g ≠ q) := Lib.hid fun g hg => by
      have := ho6.out.apart hq6 (by decide)
      exact fun e => this (by rw [hg, e])
    clear y2 y2f hq6 hc6 hgM6 hm6 hrow row
    go_wp2_with fail
    go_ret
    obtain ⟨w7, hw7⟩ : ∃ w7, w7 = w6.setCell ⟨q, 2, none⟩ (.slice A6 N c6) := ⟨_, rfl⟩
    have hm7 : Mv (fun i => i = q) w6 w7 := by rw [hw7]; exact (Mv.refl (fun i => i = q) w6).setCell (p := ⟨q, 2, none⟩) (fun _ => rfl) _
    have hq7 : Whole w7 q 55 [.chan (some I.ch), .slice (some ⟨I.gp, 0, none⟩) b.room b.room, .slice A6 N c6] := by rw [hw7]; exact HQ6.out.put 2 _
    rw [← hw7]
    have hmW2 : Mv (BagG q I) w w2 := Mv.of_new HB2.out _
    have hmW3 : Mv (BagG q I) w w3 := hmW2.trans HM3.out (fun i _ e => .inr (.inl e))
    have hmW4 : Mv (BagG q I) w w4 := hmW3.trans HM4.out (fun i _ e => .inr (.inr (.inl e)))
    have hmW6 : Mv (BagG q I) w w6 := hmW4.trans HM6.out (fun i _ e => .inr (.inr (.inr e)))
    have hmW7 : Mv (BagG q I) w w7 := hmW6.trans hm7 (fun i _ e => .inl e)
    have hno := HALL.out.out
    refine ⟨rfl, ⟨I.ch, I.gp, A6, c6, I.s, I.r + 1, fr, I.ord ++ [p], I.ms.set p ⟨to, tx, sp⟩⟩, ⟨?_, ?_, ?_, ?_, ?_, HH.out.qlow, HH.out.clow, ?_, ?_, HALL.out.lay, ?_⟩, ?_, ?_⟩
    · show Whole w7 q _ [_, _, .slice A6 (I.ord ++ [p]).length c6]
      rw [← HN.out]; exact hq7
    · exact (hm7.block I.ch (chan_lt HC6.out) (fun e => HQC.out e.symm)).trans HC6.out
    · exact HG6.out.mvG hm7 (fun g hg e => HH.out.qg (by rw [← e]; simpa [Value.ownBlock] using hg.symm))
    · show OwnI w7 base (.slice A6 (I.ord ++ [p]).length c6) (intsN (I.ord ++ [p]))
      rw [← HN.out, HCAT.out]
      exact ho6.out.mvG hm7 (fun g hg e => HOP.out g hg e)
    · obtain ⟨k1, k2, k3⟩ := HH.out.ok
      refine ⟨k1, ?_, fun y hy => ?_⟩
      · have := HALL.out.all
        have := HH.out.len
        simp at this ⊢
        rename_i h9
        simp at h9
        omega
      · rcases List.mem_append.1 hy with hy | hy
        · exact k3 y hy
        · rw [List.mem_singleton.1 hy]; exact hx
    · have := HB4.out
      have h6 := HM6.out.size
      have h7 := hm7.size
      omega
    · show (I.ms.set p _).length = b.room
      rw [List.length_set]; exact HH.out.mlen
    · show b.l ++ [_] = lie (I.ms.set p _) (I.ord ++ [p])
      rw [lie_snoc I.ms I.ord p _ hpl hno, ← HH.out.list]
    · intro i hi
      rcases hi with hi | hi | hi | hi
      · exact .inl (.inl hi)
      · exact .inl (.inr (.inl hi))
      · exact .inl (.inr (.inr (.inl hi)))
      · have hi2 : Value.ownBlock (.slice A6 N c6) = some i := by rw [HN.out]; exact hi
        rcases hn6.out i hi2 with h9 | h9
        · exact .inl (.inr (.inr (.inr h9)))
        · refine .inr ?_
          have h8 := hmW4.size
          have h10 := HB.out
          simp at h9
          omega
    · exact hmW7
end Go.Proofs.Ytjkhdlmdgdcimaa
