/- Code that communicates over channels, in one goroutine where nothing waits: a calculus beside Code.wp, for frames that are not early ones. -/
import Derived.Test.YtjkhdlmdgdcimaaRows
import Derived.WalkKit
import Derived.Lib.Hide
import Derived.Conc.LoneCalls
import Derived.Conc.LoneSelect
namespace Go.Proofs.Ytjkhdlmdgdcimaa
open Go.Conc Go.RowKit

/-- behind the code, entered by any frame that is not an early one, Q holds -/
def WN (P : Program) (c : Code) (Q : Exit → Act → World → Prop) (a : Act) (w : World) : Prop :=
  ∀ (b : Frame) (k : List Item) (cs : List Frame), b.kind ≠ .early → ∃ e a' w', Q e a' w' ∧ Arrives P (lone (b.at a (.code c :: k)) cs w) b k cs e a' w'
section
variable {P : Program} {Q Q' : Exit → Act → World → Prop} {a : Act} {w : World} {x y c : Code}
theorem WN.of_wp (h : c.wp P Q a w) : WN P c Q a w := fun b k cs _ => h b k cs
theorem WN.mono (h : WN P c Q a w) (hq : ∀ e a w, Q e a w → Q' e a w) : WN P c Q' a w := fun b k cs hb => by
  obtain ⟨e, a', w', h1, h2⟩ := h b k cs hb
  exact ⟨e, a', w', hq _ _ _ h1, h2⟩
theorem WN.seq (h : WN P x (Exit.then (fun a w => WN P y Q a w) Q) a w) : WN P (.seq x y) Q a w := fun b k cs hb => by
  obtain ⟨e, a1, w1, h1, h2⟩ := h b (.code y :: k) cs hb
  have out : ∀ (h3 : Q e a1 w1), e ≠ .normal → ∃ e a' w', Q e a' w' ∧ Arrives P (lone (b.at a (.code (.seq x y) :: k)) cs w) b k cs e a' w' := fun h3 hn =>
    ⟨e, a1, w1, h3, .of_steps (.one step_seq) (.pass (x := .code y) rfl (fun _ _ => .inl hn) h2)⟩
  cases e with
  | normal =>
    obtain ⟨e2, a2, w2, h3, h4⟩ := h1 b k cs hb
    exact ⟨e2, a2, w2, h3, .of_steps (.head step_seq h2) h4⟩
  | exit id => exact out h1 (by simp)
  | goto l => exact out h1 (by simp)
  | ret => exact out h1 (by simp)
  | panic ch => exact out h1 (by simp)
  | outgrown => exact out h1 (by simp)
/-- the first part does not communicate -/
theorem WN.seq_wp (h : ∀ K : Act → World → Prop, (∀ a w, WN P y Q a w → K a w) → x.wp P (Exit.then K Q) a w) : WN P (.seq x y) Q a w := WN.seq (WN.of_wp (h _ fun _ _ h => h))
theorem WN.cond {o : Operand} {t : Bool} (ho : a.eval o = .bool t) (h : WN P (if t then x else y) Q a w) : WN P (.cond o x y) Q a w := fun b k cs hb => by
  obtain ⟨e, a1, w1, h1, h2⟩ := h b k cs hb
  exact ⟨e, a1, w1, h1, .of_steps (.one (step_cond ho)) h2⟩
theorem WN.block {id : Nat} (h : WN P c (Exit.inBlock id Q) a w) : WN P (.block id c) Q a w := fun b k cs hb => by
  obtain ⟨e, a1, w1, h1, h2⟩ := h b (.inBlock id :: k) cs hb
  cases e with
  | normal => exact ⟨.normal, a1, w1, h1, .head step_block (Steps.trans h2 (.one step_inBlock))⟩
  | exit id' =>
    by_cases hid : id' = id
    · simp only [Exit.inBlock, hid, if_true] at h1
      exact ⟨.normal, a1, w1, h1, .head step_block (h2 k (by simp [exitTo, hid]))⟩
    · simp only [Exit.inBlock, hid, if_false] at h1
      refine ⟨.exit id', a1, w1, h1, fun k' hk => .head step_block (h2 k' ?_)⟩
      have hne : (id == id') = false := by simp; exact fun h => hid h.symm
      simp [exitTo, hne, hk]
  | goto l => exact ⟨_, a1, w1, h1, fun k' hk => .head step_block (h2 k' (by simp [gotoIn, hk]))⟩
  | ret => exact ⟨_, a1, w1, h1, .of_steps (.one step_block) h2⟩
  | panic ch => exact ⟨_, a1, w1, h1, .of_steps (.one step_block) h2⟩
  | outgrown => exact ⟨_, a1, w1, h1, .of_steps (b := b) (k := k) (cs := cs) (e := .outgrown) (.one step_block) h2⟩
theorem WN.loop (I : Act → World → Prop) (m : Act → World → Nat) (h0 : I a w) (round : ∀ a w, I a w → WN P c (Exit.then (fun a' w' => I a' w' ∧ m a' w' < m a w) Q) a w) : WN P (.loop c) Q a w := fun b k cs hb => by
  have key : ∀ n a w, m a w = n → I a w → ∃ e a' w', Q e a' w' ∧ Arrives P (lone (b.at a (.code c :: .inLoop c :: k)) cs w) b k cs e a' w' := by
    intro n
    induction n using Nat.strongRecOn with
    | _ n ih =>
      intro a w hn hI
      obtain ⟨e, a1, w1, h1, h2⟩ := round a w hI b (.inLoop c :: k) cs hb
      have out : ∀ (h3 : Q e a1 w1), e ≠ .normal → ∃ e a' w', Q e a' w' ∧ Arrives P (lone (b.at a (.code c :: .inLoop c :: k)) cs w) b k cs e a' w' := fun h3 hne =>
        ⟨e, a1, w1, h3, .pass (x := .inLoop c) rfl (fun _ _ => .inl hne) h2⟩
      cases e with
      | normal =>
        obtain ⟨hI1, hlt⟩ := h1
        obtain ⟨e2, a2, w2, h3, h4⟩ := ih (m a1 w1) (hn ▸ hlt) a1 w1 rfl hI1
        exact ⟨e2, a2, w2, h3, .of_steps (Steps.trans h2 (.one step_inLoop)) h4⟩
      | exit id => exact out h1 (by simp)
      | goto l => exact out h1 (by simp)
      | ret => exact out h1 (by simp)
      | panic ch => exact out h1 (by simp)
      | outgrown => exact out h1 (by simp)
  obtain ⟨e, a1, w1, h1, h2⟩ := key _ a w rfl h0
  exact ⟨e, a1, w1, h1, .of_steps (.one step_loop) h2⟩
theorem calls_of_WN {f : FuncId} {fn : Func} {args : Array Value} {R : Ending → World → Prop} (hf : P.funcs[f]? = some fn) (hb : fn.body = some c)
    (h : WN P c (bodyPost P fn R) { tmps := args ++ Array.replicate (fn.ntmps - args.size) undef, defers := [] } w) : Calls P f args w R := fun cs => by
  obtain ⟨b, hbd⟩ : ∃ b : Frame, b = { (default : Frame) with fn := f, kind := .normal } := ⟨_, rfl⟩
  have henter : Frame.enter P f args .normal = b.at { tmps := args ++ Array.replicate (fn.ntmps - args.size) undef, defers := [] } [.code c] := by
    simp [Frame.enter, Frame.at, hf, hb, hbd]
  have hk : b.kind = .normal := by rw [hbd]
  have hfn : b.fn = f := by rw [hbd]
  obtain ⟨e, a', w', h1, h2⟩ := h b [] cs (by rw [hk]; decide)
  rw [← henter] at h2
  cases e with
  | normal =>
    obtain ⟨hd, v, hr, hR⟩ := h1
    exact ⟨.returned v, w', _, hR, Steps.trans h2 (.one step_end), hfn, rfl, hd, hk, fn, by rw [← hf, ← hfn]; rfl, hr⟩
  | ret =>
    obtain ⟨hd, v, hr, hR⟩ := h1
    obtain ⟨todo, hs⟩ := h2
    exact ⟨.returned v, w', _, hR, hs, hfn, rfl, hd, hk, fn, by rw [← hf, ← hfn]; rfl, hr⟩
  | panic chain =>
    obtain ⟨hd, hR⟩ := h1
    obtain ⟨todo, hs⟩ := h2
    exact ⟨.panicked chain, w', _, hR, hs, hfn, rfl, hd, fn, by rw [← hf, ← hfn]; rfl⟩
  | exit id => exact h1.elim
  | goto l => exact h1.elim
  | outgrown => exact ⟨.outgrown, w', b, h1, h2.resolve_left (by rw [hk]; decide), hfn, trivial⟩
end

/-! ### A region in which one operation communicates -/
section
variable {P : Program} {ops : Array Oper} {Q : Exit → Act → World → Prop}
/-- the operations ahead of it each yield a value, or are passed over -/
def PreV (P : Program) (ops : Array Oper) (F : Act → World → Prop) : List Oper → Act → World → Prop
  | [], a, w => F a w
  | o :: r, a, w => if Region.wanted o (yielded ops a.tmps) = true then ∃ v w', (execOp a.eval o).run P w = .ok (.value v) w' ∧ PreV P ops F r (a.put o.dst v) w' else PreV P ops F r (a.put o.dst undef) w
theorem PreV.take {F : Act → World → Prop} {o : Oper} {r : List Oper} {a : Act} {w w' : World} (v : Value) (hw : Region.wanted o (yielded ops a.tmps) = true) (hr : (execOp a.eval o).run P w = .ok (.value v) w') (h : PreV P ops F r (a.put o.dst v) w') : PreV P ops F (o :: r) a w := by
  unfold PreV
  rw [if_pos hw]
  exact ⟨v, w', hr, h⟩
/-- the operation communicates, and yields v -/
def CommTo (P : Program) (o : Oper) (a : Act) (w : World) (v : Value) (w2 : World) : Prop :=
  ∃ cases blocking shape, (execOp a.eval o).run P w = .ok (.comm cases blocking shape) w ∧
    ∀ fr cs es, stepG P true (G fr cs) w = .comm (G fr cs) cases blocking shape w es → step P (solo (G fr cs) w) = .next (solo (G (fr.finish v) cs) w2)
theorem pre_ops {F : Act → World → Prop} (l2 : List Nat)
    (hF : ∀ a w, F a w → ∀ (b : Frame) (k : List Item) (cs : List Frame), b.kind ≠ .early → ∃ e a' w', Q e a' w' ∧ Arrives P (lone (b.at a (.inRegion ops l2 :: k)) cs w) b k cs e a' w') :
    ∀ (pre : List Oper) (n : Nat), (∀ j, j < pre.length → ops[n + j]? = pre[j]?) → ∀ (a : Act) (w : World), PreV P ops F pre a w → ∀ (b : Frame) (k : List Item) (cs : List Frame), b.kind ≠ .early →
      ∃ e a' w', Q e a' w' ∧ Arrives P (lone (b.at a (.inRegion ops (List.range' n pre.length ++ l2) :: k)) cs w) b k cs e a' w'
  | [], n, _, a, w, h, b, k, cs, hb => by simpa using hF a w h b k cs hb
  | o :: r, n, ho, a, w, h, b, k, cs, hb => by
    have h0 : ops[n]? = some o := by simpa using ho 0 (by simp)
    have hr : ∀ j, j < r.length → ops[n + 1 + j]? = r[j]? := fun j hj => by have := ho (j + 1) (by simpa using hj); simpa [Nat.add_assoc, Nat.add_comm 1 j] using this
    have ih := pre_ops l2 hF r (n + 1) hr
    rw [List.length_cons, List.range'_succ, List.cons_append]
    have hfin : ∀ v, (b.at a (.inRegion ops (n :: (List.range' (n + 1) r.length ++ l2)) :: k)).finish v = b.at (a.put o.dst v) (.inRegion ops (List.range' (n + 1) r.length ++ l2) :: k) := by
      intro v; rw [Frame.finish_at, h0]; rfl
    unfold PreV at h
    by_cases hw : Region.wanted o (yielded ops a.tmps) = true
    · rw [if_pos hw] at h
      obtain ⟨v, w1, hrun, hrest⟩ := h
      obtain ⟨e, a2, w2, h3, h4⟩ := ih _ _ hrest b k cs hb
      refine ⟨e, a2, w2, h3, .of_steps (.one (step_lone_go ?_)) h4⟩
      rw [stepG_op h0 hw, ← hfin]
      simp [stepG.apply, hrun]
    · rw [if_neg hw] at h
      obtain ⟨e, a2, w2, h3, h4⟩ := ih _ _ h b k cs hb
      have hs := step_op_skip (P := P) (b := b) (a := a) (k := k) (cs := cs) (w := w) (ops := ops) (i := n) (rest := List.range' (n + 1) r.length ++ l2) (by simpa [h0] using hw)
      rw [h0] at hs
      exact ⟨e, a2, w2, h3, .of_steps (.one hs) h4⟩
theorem WN.region_comm {id : Nat} {a : Act} {w : World} (pre : List Oper) (o : Oper) (post : List Oper)
    (h : PreV P (pre ++ o :: post).toArray (fun a1 w1 => Region.wanted o (yielded (pre ++ o :: post).toArray a1.tmps) = true ∧ ∃ v w2, CommTo P o a1 w1 v w2 ∧ wpList P (pre ++ o :: post).toArray Q post (a1.put o.dst v) w2) pre a w) :
    WN P (.region id (pre ++ o :: post).toArray false) Q a w := fun b k cs hb => by
  obtain ⟨ops, hops⟩ : ∃ ops, ops = (pre ++ o :: post).toArray := ⟨_, rfl⟩
  rw [← hops] at h ⊢
  have hsz : ops.size = pre.length + (1 + post.length) := by rw [hops]; simp; omega
  have ho : ops[pre.length]? = some o := by rw [hops]; simp
  have hpre : ∀ j, j < pre.length → ops[0 + j]? = pre[j]? := fun j hj => by rw [hops]; simp [List.getElem?_append_left hj]
  have hpost : ∀ j, post[j]? = ops[pre.length + 1 + j]? := fun j => by
    rw [hops, List.getElem?_toArray, List.getElem?_append_right (by omega), show pre.length + 1 + j - pre.length = j + 1 by omega, List.getElem?_cons_succ]
  have hrng : List.range ops.size = List.range' 0 pre.length ++ (pre.length :: List.range' (pre.length + 1) post.length) := by
    rw [List.range_eq_range', hsz, ← List.range'_append_1, Nat.zero_add, Nat.add_comm 1, List.range'_succ]
  have hF : ∀ a w, (Region.wanted o (yielded ops a.tmps) = true ∧ ∃ v w2, CommTo P o a w v w2 ∧ wpList P ops Q post (a.put o.dst v) w2) → ∀ (b : Frame) (k : List Item) (cs : List Frame), b.kind ≠ .early →
      ∃ e a' w', Q e a' w' ∧ Arrives P (lone (b.at a (.inRegion ops (pre.length :: List.range' (pre.length + 1) post.length) :: k)) cs w) b k cs e a' w' := by
    rintro a w ⟨hw, v, w2, ⟨cases_, blocking, shape, hrun, hstep⟩, hl⟩ b k cs hb
    rw [← wpOps_eq_wpList post (pre.length + 1) hpost] at hl
    obtain ⟨e, a2, w3, h3, h4⟩ := wp_ops _ _ _ hl b k cs
    have hg := stepG_comm (P := P) (main := true) (b := b) (k := k) (cs := cs) (a := a) (w := w) (rest := List.range' (pre.length + 1) post.length) ho hw hb hrun
    have hs := hstep _ _ _ hg
    rw [Frame.finish_at, ho] at hs
    exact ⟨e, a2, w3, h3, .of_steps (.one hs) h4⟩
  obtain ⟨e, a2, w2, h3, h4⟩ := pre_ops _ hF pre 0 hpre a w h b k cs hb
  rw [← hrng] at h4
  exact ⟨e, a2, w2, h3, .of_steps (.one step_region) h4⟩
end

/-! ### What a communication leaves -/
section
variable {P : Program} {o : Oper} {a : Act} {w : World} {c cap s r : Nat} {buf : Array Value} {z z' v : Value} {tm closed : Bool}
theorem CommTo.send (h : (execOp a.eval o).run P w = .ok (.comm #[scase c v z'] true .send) w) (hc : w.heap[c]? = some (.chan cap buf false s r tm)) (hroom : buf.size < cap) : CommTo P o a w undef (w.setChan c cap (buf.push v) false (s + 1) r tm) :=
  ⟨_, _, _, h, fun _ _ _ hg => step_lone_send_room hg hc hroom⟩
theorem CommTo.recv (ok : Bool) (h : (execOp a.eval o).run P w = .ok (.comm #[rcase c z] true (.recv ok)) w) (hc : w.heap[c]? = some (.chan cap buf closed s r tm)) (hsome : 0 < buf.size) : CommTo P o a w (got ok (buf.getD 0 undef) true) (w.setChan c cap (buf.extract 1 buf.size) closed s (r + 1) tm) :=
  ⟨_, _, _, h, fun _ _ _ hg => step_lone_recv_buf ok hg hc hsome⟩
/-- a select of one receive, with a default: there is something -/
theorem CommTo.pick (h : (execOp a.eval o).run P w = .ok (.comm #[rcase c z] false .select) w) (hc : w.heap[c]? = some (.chan cap buf closed s r tm)) (hsome : 0 < buf.size) : CommTo P o a w (.tuple #[goInt 0, .bool true, buf.getD 0 undef]) (w.setChan c cap (buf.extract 1 buf.size) closed s (r + 1) tm) :=
  ⟨_, _, _, h, fun _ _ _ hg => step_lone_select_recv_buf hg hc hsome⟩
/-- .. there is nothing -/
theorem CommTo.pass (h : (execOp a.eval o).run P w = .ok (.comm #[rcase c z] false .select) w) (hc : w.heap[c]? = some (.chan cap #[] false s r tm)) : CommTo P o a w (.tuple #[goInt (-1), .bool false, z]) w :=
  ⟨_, _, _, h, fun _ _ _ hg => step_lone_select_default hg hc⟩
end
/-! ### How it is walked -/
theorem WN.seqK {P : Program} {Q : Exit → Act → World → Prop} {a : Act} {w : World} {x y : Code} (h : ∀ K : Act → World → Prop, (∀ a w, WN P y Q a w → K a w) → WN P x (Exit.then K Q) a w) : WN P (.seq x y) Q a w := WN.seq (h _ fun _ _ h => h)
theorem run_makeChan {P : Program} {T e : TypeId} {d : ChanDir} {B : Nat} {n : Nat} {w : World} (hT : P.underlying T = some (.chan d e)) (hi : (P.info? e).map (fun i => i.bytes) = some B) (hb : B * n ≤ 281474976710544) (hn : n ≤ 9223372036854775807) :
    (Instr.makeChan T (.int .i64 (n : Int))).run P w = .ok (.chan (some w.heap.size)) (w.alloc (.chan n #[] false 0 0 false)) := by
  obtain ⟨i, hi2, rfl⟩ : ∃ i, P.info? e = some i ∧ i.bytes = B := by
    cases h : P.info? e with
    | none => rw [h] at hi; cases hi
    | some i => rw [h] at hi; exact ⟨i, rfl, by simpa using hi⟩
  have h1 : ¬ ((n : Int) < 0 ∨ (n : Int) > IntKind.i64.max ∨ ((i.bytes : Int) * (n : Int) > 2 ^ 48 - 112)) := by
    have h2 : (i.bytes : Int) * (n : Int) = ((i.bytes * n : Nat) : Int) := by rw [Int.natCast_mul]
    rw [h2]
    simp only [show IntKind.i64.max = 9223372036854775807 from rfl]
    omega
  simp only [Instr.makeChan, asInt, asIntOf, Sem.run_bind, run_underlying hT, Result.andThen_ok, run_typeInfo w hi2, Sem.run_pure, if_neg h1]
  rfl
/-- l with other values in some of its places -/
def patch : List Value → List Nat → List Value → List Value
  | l, s :: S, u :: us => patch (l.set s u) S us
  | l, _, _ => l
theorem WN.loopP {P : Program} {Q : Exit → Act → World → Prop} {c : Code} {w : World} {l : List Value} {ds : List Deferred} (S : List Nat) (us0 : List Value) (rel : List Value → World → Prop) (m : Act → World → Nat) (hn : us0.length = S.length) (h0 : l = patch l S us0) (h1 : rel us0 w)
    (round : ∀ us w, us.length = S.length → rel us w → WN P c (Exit.then (fun a' w' => (∃ us', us'.length = S.length ∧ a' = ⟨(patch l S us').toArray, ds⟩ ∧ rel us' w') ∧ m a' w' < m ⟨(patch l S us).toArray, ds⟩ w) Q) ⟨(patch l S us).toArray, ds⟩ w) : WN P (.loop c) Q ⟨l.toArray, ds⟩ w := by
  refine WN.loop (fun a' w' => ∃ us', us'.length = S.length ∧ a' = ⟨(patch l S us').toArray, ds⟩ ∧ rel us' w') m ⟨us0, hn, by rw [← h0], h1⟩ ?_
  rintro a w ⟨us, hus, rfl, hr⟩
  exact round us w hus hr
def upto (n : Nat) : Array Value := ((List.range n).map fun (k : Nat) => Value.int .i64 (k : Int)).toArray
theorem upto_zero : upto 0 = #[] := rfl
theorem upto_size (n : Nat) : (upto n).size = n := by simp [upto]
theorem upto_push (n : Nat) : (upto n).push (.int .i64 (n : Int)) = upto (n + 1) := by simp [upto, List.range_succ]
theorem heap_setChan_ne (w : World) (c cap : Nat) (buf : Array Value) (cl : Bool) (s r : Nat) (tm : Bool) {i : Nat} (h : i ≠ c) : (w.setChan c cap buf cl s r tm).heap[i]? = w.heap[i]? := by
  simp [World.setChan, Array.getElem?_setIfInBounds, Ne.symm h]
end Go.Proofs.Ytjkhdlmdgdcimaa
