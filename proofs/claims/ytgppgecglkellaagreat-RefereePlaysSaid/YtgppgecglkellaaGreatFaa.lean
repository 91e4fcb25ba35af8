/- From the walk of a law to its statement: whatever the arguments are, if the call returns true and turns nothing that was there, the statement holds. Slices whose elements take some cells each: what they own, how they are read, what append does. For whatever element type. What the arguments' forms say of numbers. (For seats without bytes; others have it in OpenG.) Arguments of laws as data: lists of whatever. Blocks that are known whole: a struct behind a pointer, a variable of the call's own, the row of a slice. Cells moved inside a block that is known whole: copy, append within the room, append of zeros that grows, clear; for elements that take k cells each. Spans of keys over any linear order: what joining, cutting out and building from ends give, in plain lists. -/
import Derived.Test.YtgppgecglkellaaGreatRows
import Derived.ProofKit
import Derived.SizedLaws
import Derived.OneCell
import Derived.OwnWalk
import Derived.Laws.OwnMore
import Derived.Deep.DeepAppendWide
import Derived.WalkKit
import Derived.Lib.Hide
import Derived.Deep.Draws
import Derived.Lib.SmallJoins
import Derived.Deep.Slices
import Derived.ChangeSame
import Derived.Deep.Fields
import Derived.Deep.Strs
import Derived.Laws.CopyOwn
import Derived.Lib.AppendZerosOnto
import Derived.Lib.Overlaps
namespace Go.Proofs.YtgppgecglkellaaGreat
open Go.ChangeShapes Go.WideShapes Go.ChangeAt Go.RowKit

theorem prog_own : ownKnob Tryz.prog.godebug = none := by kernel_rfl
theorem prog_laid : laidOutB Tryz.prog = true := by kernel_rfl

section
variable {H : Type} {enc : TypeId × Value → H} {P : Program}
theorem trodAll_len {w : World} {base : Nat} {sp : Nat → Bool} {held : Bool} : ∀ {ts : List TypeId} {vs : List Value} {ds : List (DataW H)} {ps : List MemPlace}, DataW.TrodAll enc P w base sp held ts vs ds ps → ds.length = ts.length
  | [], [], [], _, _ => rfl
  | _ :: _, _ :: _, _ :: _, _, ⟨_, _, _, h, _⟩ => by simp [trodAll_len h]
theorem trodAll_later (hl : laidOutB P = true) {W W' : World} (hb : Below W.heap.size W W') : ∀ {ts : List TypeId} {vs : List Value} {ds : List (DataW H)} {ps : List MemPlace},
    (ts.all fun t => P.readableRec t && decide (t < P.types.size)) = true → DataW.TrodAll enc P W 0 (fun _ => true) true ts vs ds ps → (∀ x ∈ ps, x.block < W.heap.size) → DataW.TrodAll enc P W' 0 (fun b => decide (b < W.heap.size)) true ts vs ds ps
  | [], [], [], _, _, h, _ => h
  | t :: ts, v :: vs, d :: ds, _, hr, ⟨p, q, h1, h2, rfl⟩, hlt => by
    simp only [List.all_cons, Bool.and_eq_true, decide_eq_true_eq] at hr
    exact ⟨p, q, Below.trod hl hr.1.1 hr.1.2 h1 hb (fun x hx => hlt x (by simp [hx])), trodAll_later hl hb hr.2 h2 (fun x hx => hlt x (by simp [hx])), rfl⟩

/-- the call returns true, and nothing that was there has turned -/
theorem law_post {f : Func} {s : ChangeSpec} {W W' : World} {args : Array Value} {ds gs : List (DataW H)} {before : List MemPlace} {tb : TypeId} (hl : laidOutB P = true) (hr : (f.params.toList.all fun t => P.readableRec t && decide (t < P.types.size)) = true)
    (hs : s.vars = []) (hrt : f.resultTypes = #[tb]) (hb : P.underlying tb = some .bool) (hfn : ∀ ds : List (DataW H), ds.length = f.params.toList.length → s.fn H ds = { results := [.lit (.bool true)], args := ds })
    (hW : DataW.Whole enc P f.params.toList s.vars false W args.toList ds gs before) (hbe : Below W.heap.size W W') : s.post enc P f false true false false W args (.bool true) W' := by
  have hlt : ∀ p ∈ before, p.block < W.heap.size := fun p hp => hW.lt p hp
  have hW' := hW
  obtain ⟨p, q, hA, hV, rfl, _, _⟩ := hW
  rw [hs] at hV
  have hg : gs = [] ∧ q = [] := by
    match gs, hV with
    | [], hq => exact ⟨rfl, hq⟩
  obtain ⟨rfl, rfl⟩ := hg
  have e : s.fn H (ds ++ []) = { results := [.lit (.bool true)], args := ds } := by rw [List.append_nil]; exact hfn ds (trodAll_len hA)
  refine ⟨ds, [], p ++ [], [], p, [], hW', ?_, ?_, ?_, hbe.frame _, fun h => by cases h⟩
  · rw [e, hrt]
    exact trodAll_mk1 (shut_bool hb true)
  · rw [e]
    exact trodAll_later hl hbe hr hA fun x hx => hlt x (by simp [hx])
  · rw [e, hs]
    rfl
end

set_option maxRecDepth 100000 in
/-- a law's statement, out of its walk -/
theorem law_lifted (os : Os) (started : os.Started) (H : Type) (enc : TypeId × Value → H) {f : FuncId} {fn : Func} {s : ChangeSpec} (noInit : Tryz.prog.inits.idxOf? f = none) (hf : Tryz.prog.funcs[f]? = some fn)
    (witness : ∃ (w : World) (tape : Tape) (i : Input), w.os = os ∧ (w.forCall tape i).Shaped Tryz.checked.prog ∧ i.vars = [] ∧ Input.okWide Tryz.checked.prog (w.forCall tape i) .any w.heap.size f i ∧
      s.pre6 enc Tryz.checked.prog fn [] false (w.forCall tape i).memory i.args ∧ Assume.holds {} Tryz.checked.prog (lone (Frame.enter Tryz.checked.prog f i.args .normal) [] (w.forCall tape i)))
    (hr : (fn.params.toList.all fun t => Tryz.prog.readableRec t && decide (t < Tryz.prog.types.size)) = true) (hs : s.vars = []) (hrt : fn.resultTypes = #[4])
    (hfn : ∀ ds : List (DataW H), ds.length = fn.params.toList.length → s.fn H ds = { results := [.lit (.bool true)], args := ds })
    (hlaw : ∀ (W : World) (base : Nat) (args : Array Value) (ds : List (DataW H)) (p : List MemPlace), (∀ (j : Nat) t v, fn.params[j]? = some t → args[j]? = some v → Value.okWide Tryz.prog W .any base t v) →
      DataW.TrodAll enc Tryz.prog W 0 (fun _ => true) true fn.params.toList args.toList ds p → (∀ x ∈ p, x.block < W.heap.size) → (DataW.weightsEach Tryz.prog fn.params.toList ds).all (· ≤ reachBytes) = true →
      Calls Tryz.prog f args W fun e W' => e = .returned (.bool true) ∧ Below W.heap.size W W') :
    ReturnsInHanded {} Tryz.checked os f .any (s.pre6 enc Tryz.prog fn [] false) (s.post enc Tryz.prog fn false true false false) := by
  refine returnsInHanded_of_change_sized (C := Tryz.checked) prog_own started noInit hf witness ?_
  intro W base args ds gs before hval hW _ hz _
  have hW' := hW
  have hlt : ∀ p ∈ before, p.block < W.heap.size := fun p hp => hW'.lt p hp
  obtain ⟨p, q, hA, hV, rfl, _, _⟩ := hW
  rw [hs] at hV
  have hg : gs = [] ∧ q = [] := by
    match gs, hV with
    | [], hq => exact ⟨rfl, hq⟩
  obtain ⟨rfl, rfl⟩ := hg
  have hz' : (DataW.weightsEach Tryz.prog fn.params.toList ds).all (· ≤ reachBytes) = true := by
    have h0 : s.plain.varTypes Tryz.checked.prog = [] := by simp [ChangeSpec.plain, DataSpec.varTypes, hs]
    rw [h0, List.append_nil, List.append_nil] at hz
    exact hz
  exact (hlaw W base args ds p hval hA (fun x hx => hlt x (by simp [hx])) hz').mono fun e W' ⟨he, hb⟩ => ⟨_, he, law_post prog_laid hr hs hrt Tryz.underlying4 hfn hW' hb⟩
end Go.Proofs.YtgppgecglkellaaGreat
namespace Go.Proofs.YtgppgecglkellaaGreat
open Go.RowKit

section
variable {α : Type} {enc : α → List Value} {k : Nat} {P : Program}

def flatG (enc : α → List Value) (l : List α) : List Value := l.flatMap enc
theorem flatG_append (a b : List α) : flatG enc (a ++ b) = flatG enc a ++ flatG enc b := by simp [flatG]
theorem flatG_length (hk : ∀ x, (enc x).length = k) (l : List α) : (flatG enc l).length = l.length * k := by
  induction l with
  | nil => simp [flatG]
  | cons s r ih => rw [show s :: r = [s] ++ r from rfl, flatG_append, List.length_append, ih]; simp [flatG, hk, Nat.add_mul]; omega
theorem flatG_get (hk : ∀ x, (enc x).length = k) : ∀ (l : List α) (i : Nat) (h : i < l.length) (j : Nat), j < k → (flatG enc l)[i * k + j]? = (enc l[i])[j]?
  | t :: r, 0, h, j, hj => by
    simp only [flatG, List.flatMap_cons, Nat.zero_mul, Nat.zero_add, List.getElem_cons_zero]
    rw [List.getElem?_append_left (by rw [hk]; exact hj)]
  | t :: r, i + 1, h, j, hj => by
    have := flatG_get hk r i (by simpa using h) j hj
    simp only [flatG, List.flatMap_cons, List.getElem_cons_succ] at this ⊢
    rw [List.getElem?_append_right (by rw [hk, Nat.add_mul]; omega), hk, show (i + 1) * k + j - k = i * k + j by rw [Nat.add_mul]; omega]
    exact this

/-- a slice value reads as a list; its cells lie below block B -/
def Rd (enc : α → List Value) (k : Nat) (w : World) (B : Nat) (v : Value) (l : List α) : Prop :=
  ∃ A c, v = .slice A l.length c ∧ l.length ≤ c ∧ ∀ i (_ : i < l.length), ∃ b o, A = some ⟨b, o, none⟩ ∧ b < B ∧ ∀ j u, (enc l[i])[j]? = some u → w.cell? ⟨b, o + i * k + j, none⟩ = some u
theorem Rd.below {w w' : World} {B C : Nat} {v : Value} {l : List α} (h : Rd enc k w B v l) (hb : Below C w w') (hC : B ≤ C) : Rd enc k w' B v l := by
  obtain ⟨A, c, hv, hc, hi⟩ := h
  refine ⟨A, c, hv, hc, fun i hs => ?_⟩
  obtain ⟨b, o, hA, hB, h1⟩ := hi i hs
  exact ⟨b, o, hA, hB, fun j u hu => (hb.cell (p := ⟨b, _, none⟩) (Nat.lt_of_lt_of_le hB hC)).trans (h1 j u hu)⟩
theorem Rd.mono {w : World} {B C : Nat} {v : Value} {l : List α} (h : Rd enc k w B v l) (hC : B ≤ C) : Rd enc k w C v l := by
  obtain ⟨A, c, hv, hc, hi⟩ := h
  refine ⟨A, c, hv, hc, fun i hs => ?_⟩
  obtain ⟨b, o, hA, hB, h1⟩ := hi i hs
  exact ⟨b, o, hA, Nat.lt_of_lt_of_le hB hC, h1⟩
theorem Rd.next {w w' : World} {v : Value} {l : List α} (h : Rd enc k w w.heap.size v l) (hb : Below w.heap.size w w') : Rd enc k w' w'.heap.size v l := (h.below hb (Nat.le_refl _)).mono hb.size
theorem Rd.drewN {w : World} {B : Nat} {v : Value} {l : List α} (h : Rd enc k w B v l) (n : Nat) : Rd enc k (w.drewN n) B v l := h
theorem Rd.nil (w : World) (B : Nat) : Rd enc k w B (.slice none 0 0) [] := ⟨none, 0, rfl, Nat.le_refl _, fun i hi => by simp at hi⟩
theorem Rd.none_ (w : World) (B : Nat) (A : Option Addr) (c : Nat) : Rd enc k w B (.slice A 0 c) [] := ⟨A, c, rfl, Nat.zero_le _, fun i hi => by simp at hi⟩
/-- the first n of them -/
theorem Rd.take {w : World} {B : Nat} {A : Option Addr} {c m : Nat} {l : List α} (h : Rd enc k w B (.slice A m c) l) (n : Nat) (hn : n ≤ l.length) : Rd enc k w B (.slice A n c) (l.take n) := by
  obtain ⟨A', c', hv, hc, hi⟩ := h
  injection hv with h1 h2 h3
  subst h1 h3
  refine ⟨A, c, by simp [Nat.min_eq_left hn], by simp; omega, fun i hs => ?_⟩
  have hs' : i < l.length := by simp at hs; omega
  obtain ⟨b, o, hA, hB, h1⟩ := hi i hs'
  exact ⟨b, o, hA, hB, fun j u hu => h1 j u (by simpa using hu)⟩
/-- those from n on -/
theorem Rd.drop {w : World} {B : Nat} {A : Option Addr} {c m : Nat} {l : List α} (h : Rd enc k w B (.slice A m c) l) (n c' : Nat) (hn : n ≤ l.length) (hc' : l.length - n ≤ c') (A' : Option Addr) (hA' : n < l.length → A' = A.map (·.add (n * k))) :
    Rd enc k w B (.slice A' (l.length - n) c') (l.drop n) := by
  obtain ⟨A0, c0, hv, hc, hi⟩ := h
  injection hv with h1 h2 h3
  subst h1 h3
  refine ⟨A', c', by simp, by simpa using hc', fun i hs => ?_⟩
  have hs' : n + i < l.length := by simp at hs; omega
  obtain ⟨b, o, hA, hB, h1⟩ := hi (n + i) hs'
  refine ⟨b, o + n * k, ?_, hB, fun j u hu => ?_⟩
  · rw [hA' (by omega), hA]
    simp only [Option.map_some, Option.some.injEq]
    unfold Addr.add
    split
    · rename_i hz; rw [hz]; rfl
    · rfl
  · have := h1 j u (by simpa using hu)
    rw [← this]
    congr 2
    rw [Nat.add_mul]; omega

/-- a slice of the call's own, no block of it below base, that holds a list -/
def Own (enc : α → List Value) (k : Nat) (e : TypeId) (w : World) (base : Nat) (v : Value) (l : List α) : Prop := w.ownsRow base e k v l.length (flatG enc l)
section
variable {e : TypeId} {w w' : World} {base : Nat} {v : Value} {l : List α}
theorem Own.nil (w : World) (base : Nat) : Own enc k e w base (.slice none 0 0) [] := World.ownsRow_nil w base e k
theorem Own.empty (w : World) (base : Nat) (hb : base ≤ w.heap.size) : Own enc k e (w.alloc (.cells #[] e)) base (.slice (some ⟨w.heap.size, 0, none⟩) 0 0) [] := by
  have h := World.ownsRow_made (base := base) (e := e) (size := k) w #[] 0 hb (by simp [maxLen]) (by simp)
  exact h
theorem Own.form (h : Own enc k e w base v l) : (v = .slice none 0 0 ∧ l = []) ∨ ∃ g cap, v = .slice (some ⟨g, 0, none⟩) l.length cap ∧ base ≤ g ∧ g < w.heap.size ∧ l.length ≤ cap := by
  rcases h.2 with ⟨hv, h0⟩ | ⟨g, cap, cur, hv, hg, hh, hc, _⟩
  · exact .inl ⟨hv, List.eq_nil_of_length_eq_zero h0⟩
  · exact .inr ⟨g, cap, hv, hg, (Array.getElem?_eq_some_iff.1 hh).1, hc⟩
theorem Own.rd (hk : ∀ x, (enc x).length = k) (h : Own enc k e w base v l) : Rd enc k w w.heap.size v l := by
  rcases h.form with ⟨hv, rfl⟩ | ⟨g, cap, rfl, hg, hlt, hc⟩
  · subst hv; exact Rd.nil _ _
  · refine ⟨_, cap, rfl, hc, fun i hi => ⟨g, 0, rfl, hlt, fun j u hu => ?_⟩⟩
    have hj : j < k := by
      rcases Nat.lt_or_ge j k with h' | h'
      · exact h'
      · rw [List.getElem?_eq_none (by rw [hk]; exact h')] at hu; cases hu
    have hlt2 : i * k + j < l.length * k := by
      have := Nat.mul_le_mul_right k (show i + 1 ≤ l.length from hi)
      rw [Nat.add_mul] at this; omega
    unfold Own at h
    rw [Nat.zero_add, h.cellAt _ hlt2, flatG_get hk l i hi j hj]
    exact hu
theorem Own.alloc (h : Own enc k e w base v l) (o : Obj) : Own enc k e (w.alloc o) base v l := World.ownsRow.alloc h o
theorem Own.drewN (h : Own enc k e w base v l) (n : Nat) : Own enc k e (w.drewN n) base v l := h
theorem Own.drew (h : Own enc k e w base v l) : Own enc k e w.drew base v l := h
theorem Own.kept {row : Option Nat} (h : Own enc k e w base v l) (hg : w.grownBy w' row) (hne : v.ownBlock = none ∨ v.ownBlock ≠ row) : Own enc k e w' base v l := World.ownsRow.kept h hg hne
theorem Own.below {B : Nat} (h : Own enc k e w base v l) (hb : Below B w w') (hB : w.heap.size ≤ B) : Own enc k e w' base v l :=
  h.kept (row := none) ⟨hb.os, hb.tape, hb.output, hb.size, fun i hi _ => hb.block i (Nat.lt_of_lt_of_le hi hB)⟩ (by cases v.ownBlock <;> simp)
theorem Own.lower {base' : Nat} (h : Own enc k e w base v l) (hb : base' ≤ base) : Own enc k e w base' v l := by
  refine ⟨h.1, ?_⟩
  rcases h.2 with h2 | ⟨g, cap, cur, hv, hg, r⟩
  · exact .inl h2
  · exact .inr ⟨g, cap, cur, hv, Nat.le_trans hb hg, r⟩
theorem Own.low {i : Nat} (h : Own enc k e w base v l) (hi : v.ownBlock = some i) : base ≤ i ∧ i < w.heap.size := World.ownsRow.lt h i hi
/-- what an append leaves below base is as it was -/
theorem Own.grown {a : World} {B : Nat} {w1 : World} (h : Own enc k e w base v l) (hb : Below B a w) (hg : w.grownBy w1 v.ownBlock) (hB : B ≤ base) (hz : B ≤ w.heap.size) : Below B a w1 :=
  hb.grown hg hz fun _ hj => Nat.le_trans hB (h.low hj).1
end

/-- append of what another slice holds, nil or not, to a slice of the call's own -/
theorem wp_addAny (t e : TypeId) (bytes : Nat) (i0 : TypeInfo) (z : Value) (ht : P.underlying t = some (.slice e)) (hi : P.info? e = some i0) (hz0 : i0.zero = some z) (hz1 : i0.size = k) (hz2 : i0.bytes = bytes) (hzs : z.cells.size = k) (hk0 : 0 < k)
    (hk : ∀ x, (enc x).length = k) (hone : ∀ x, ∀ u ∈ enc x, u.oneCell' = true) {o : Oper} {a : Act} {K : Act → World → Prop} {Q : Exit → Act → World → Prop} {w : World} (s x : Operand)
    (ho : o.op = .call { callee := .builtin .append, args := #[s, x], argTypes := #[t, t] })
    (base : Nat) (v : Value) (l : List α) (hs : a.eval s = v) (hown : Own enc k e w base v l) (B : Nat) (v2 : Value) (p : List α) (hx : a.eval x = v2) (hp : Rd enc k w B v2 p)
    (h63 : l.length + p.length ≤ maxLen) (hbytes : ((l.length + p.length) + (l.length + p.length) / 4 + 192) * bytes ≤ 281474976710656) (hbase : base ≤ w.heap.size)
    (h : ∀ A' c' w', Own enc k e w' base (.slice A' (l ++ p).length c') (l ++ p) → w.grownBy w' v.ownBlock → K (a.put o.dst (.slice A' (l ++ p).length c')) w') : o.wp P a w K Q := by
  obtain ⟨A, c, rfl, hc, hi2⟩ := hp
  have main : ∃ v' w', (Builtin.append_ #[t, t] o.type #[v, .slice A p.length c]).run P w = .ok v' w' ∧ w'.ownsRow base e k v' (l ++ p).length (flatG enc (l ++ p)) ∧ w.grownBy w' v.ownBlock := by
    cases A with
    | none =>
      have hp0 : p = [] := by
        cases p with
        | nil => rfl
        | cons y r =>
          obtain ⟨b, o', hA, _⟩ := hi2 0 (by simp)
          cases hA
      subst hp0
      refine ⟨v, w, ?_, by rw [List.append_nil]; exact hown, ⟨rfl, rfl, rfl, Nat.le_refl _, fun _ _ _ => rfl⟩⟩
      rcases hown.2 with ⟨rfl, _⟩ | ⟨g, cap, cur, rfl, _, _, hnc, _⟩
      · simp [Builtin.append_, run_underlying ht, sizeOf, typeInfo, hi, Builtin.lenOf, Builtin.firstCells]
      · simp [Builtin.append_, run_underlying ht, sizeOf, typeInfo, hi, Builtin.lenOf, Builtin.firstCells, hnc, storeCells]
    | some ad =>
      have hcells : ∀ j u, (flatG enc p)[j]? = some u → w.cell? (ad.add j) = some u := by
        intro j u hu
        have hjl : j < p.length * k := by
          rcases Nat.lt_or_ge j (p.length * k) with h' | h'
          · exact h'
          · rw [List.getElem?_eq_none (by rw [flatG_length hk]; exact h')] at hu; cases hu
        have hil : j / k < p.length := by rw [Nat.div_lt_iff_lt_mul hk0]; exact hjl
        obtain ⟨b, o', hA, _, h1⟩ := hi2 (j / k) hil
        have hm : j % k < k := Nat.mod_lt _ hk0
        have e1 : j / k * k + j % k = j := Nat.div_add_mod' j k
        have hg := flatG_get hk p (j / k) hil (j % k) hm
        rw [e1, hu] at hg
        have := h1 (j % k) u hg.symm
        injection hA with hA
        rw [hA]
        have hadd : (⟨b, o', none⟩ : Addr).add j = ⟨b, o' + j, none⟩ := by unfold Addr.add; split <;> simp_all
        rw [hadd, ← this]
        congr 2
        omega
      obtain ⟨v', w', hrun, h2, h3, _⟩ := run_append_own_wide (P := P) w base t o.type e i0 z k bytes ht hi hz0 hz1 hz2 hzs hk0 v l.length (flatG enc l) hown ad p.length c (flatG enc p) (flatG_length hk p) hcells
        (fun u hu => by obtain ⟨y, _, hy⟩ := List.mem_flatMap.1 hu; exact hone y u hy) h63 hbytes hbase
      exact ⟨v', w', hrun, by rw [List.length_append, flatG_append]; exact h2, h3⟩
  obtain ⟨v', w', hrun, h2, h3⟩ := main
  have h4 : Own enc k e w' base v' (l ++ p) := h2
  have hv : ∃ A' c', v' = .slice A' (l ++ p).length c' := by
    rcases h4.form with ⟨hv, h0⟩ | ⟨g, cap, hv, _⟩
    · exact ⟨none, 0, by rw [h0]; exact hv⟩
    · exact ⟨_, _, hv⟩
  obtain ⟨A', c', rfl⟩ := hv
  unfold Oper.wp execOp
  simp only [ho, resolve, invoke, builtin, Sem.run_bind, Sem.run_pure, Result.andThen_ok, List.map_toArray, List.map_cons, List.map_nil, hs, hx, hrun]
  exact h A' c' w' h4 h3

theorem wpList_addAny (t e : TypeId) (bytes : Nat) (i0 : TypeInfo) (z : Value) (ht : P.underlying t = some (.slice e)) (hi : P.info? e = some i0) (hz0 : i0.zero = some z) (hz1 : i0.size = k) (hz2 : i0.bytes = bytes) (hzs : z.cells.size = k) (hk0 : 0 < k)
    (hk : ∀ x, (enc x).length = k) (hone : ∀ x, ∀ u ∈ enc x, u.oneCell' = true) {ops : Array Oper} {rest : List Oper} {o : Oper} {a : Act} {Q : Exit → Act → World → Prop} {w : World} (hgd : o.guard = none) (s x : Operand)
    (ho : o.op = .call { callee := .builtin .append, args := #[s, x], argTypes := #[t, t] })
    (base : Nat) (v : Value) (l : List α) (hs : a.eval s = v) (hown : Own enc k e w base v l) (B : Nat) (v2 : Value) (p : List α) (hx : a.eval x = v2) (hp : Rd enc k w B v2 p)
    (h63 : l.length + p.length ≤ maxLen) (hbytes : ((l.length + p.length) + (l.length + p.length) / 4 + 192) * bytes ≤ 281474976710656) (hbase : base ≤ w.heap.size)
    (h : ∀ A' c' w', Own enc k e w' base (.slice A' (l ++ p).length c') (l ++ p) → w.grownBy w' v.ownBlock → wpList P ops Q rest (a.put o.dst (.slice A' (l ++ p).length c')) w') : wpList P ops Q (o :: rest) a w :=
  wpList_plain hgd fun _ hK => wp_addAny t e bytes i0 z ht hi hz0 hz1 hz2 hzs hk0 hk hone s x ho base v l hs hown B v2 p hx hp h63 hbytes hbase fun A' c' w' h1 h2 => hK _ _ (h A' c' w' h1 h2)
end
end Go.Proofs.YtgppgecglkellaaGreat
namespace Go.Proofs.YtgppgecglkellaaGreat
theorem int_of_wf {i : Int} (h : (Lit.int .i64 i).wf = true) : -9223372036854775808 ≤ i ∧ i < 9223372036854775808 := by
  have h1 : IntKind.i64.min = -9223372036854775808 := rfl
  have h2 : IntKind.i64.max = 9223372036854775807 := rfl
  simp only [Lit.wf, Bool.and_eq_true, decide_eq_true_eq] at h
  omega
theorem nat_of_wfu8 {i : Int} (h : (Lit.int .u8 i).wf = true) : ∃ n : Nat, i = (n : Int) ∧ n < 256 := by
  have h1 : IntKind.u8.min = 0 := rfl
  have h2 : IntKind.u8.max = 255 := rfl
  simp only [Lit.wf, Bool.and_eq_true, decide_eq_true_eq] at h
  exact ⟨i.toNat, by omega, by omega⟩
theorem nat_of_wfu16 {i : Int} (h : (Lit.int .u16 i).wf = true) : ∃ n : Nat, i = (n : Int) ∧ n < 65536 := by
  have h1 : IntKind.u16.min = 0 := rfl
  have h2 : IntKind.u16.max = 65535 := rfl
  simp only [Lit.wf, Bool.and_eq_true, decide_eq_true_eq] at h
  exact ⟨i.toNat, by omega, by omega⟩
theorem nat_of_wfu32 {i : Int} (h : (Lit.int .u32 i).wf = true) : ∃ n : Nat, i = (n : Int) ∧ n < 2 ^ 32 := by
  have h1 : IntKind.u32.min = 0 := rfl
  have h2 : IntKind.u32.max = 4294967295 := rfl
  simp only [Lit.wf, Bool.and_eq_true, decide_eq_true_eq] at h
  exact ⟨i.toNat, by omega, by omega⟩
end Go.Proofs.YtgppgecglkellaaGreat
namespace Go.Proofs.YtgppgecglkellaaGreat
open Go.ChangeShapes Go.WideShapes Go.ChangeAt Go.RowKit Go.Joins Go.Deep

set_option maxRecDepth 100000 in
theorem addr_add (a : Addr) (n : Nat) (h : a.spot = none) : a.add n = ⟨a.block, a.off + n, none⟩ := by
  unfold Addr.add
  cases a with
  | mk b o s => simp only at h; subst h; split <;> simp_all

theorem array4 {α : Type} {cs : List α} (h : cs.length = 4) : ∃ c0 c1 c2 c3, cs = [c0, c1, c2, c3] := by
  match cs, h with
  | [c0, c1, c2, c3], _ => exact ⟨c0, c1, c2, c3, rfl⟩
section
variable {H : Type} {enc : TypeId × Value → H} {P : Program} {w : World} {base : Nat} {spare : Nat → Bool} {held : Bool}
theorem slice_of {T e : TypeId} (hT : P.underlying T = some (.slice e)) {n : Nat} {v : Value} {y : DataW H × List MemPlace} (h : DataW.trod enc P w base spare held n T [v] = some y) : (∃ a len cap, v = .slice a len cap) ∧ DataW.Trod enc P w base spare held T v y.1 y.2 := by
  have hs : ∃ a len cap, v = .slice a len cap := by
    rcases open_slice hT h with ⟨hcs, _⟩ | ⟨a, len, cap, _, _, _, _, hcs, _⟩
    · exact ⟨none, 0, 0, by simpa using hcs⟩
    · exact ⟨some a, len, cap, by simpa using hcs⟩
  refine ⟨hs, ?_⟩
  obtain ⟨a, len, cap, rfl⟩ := hs
  exact ⟨n, by simpa [Value.cells] using h⟩
end
/-- what is known of the data of a list -/
def SizedL {H α : Type} (Ok : α → DataW H → Prop) (d : DataW H) (l : List α) : Prop := (d = .nil ∧ l = []) ∨ ∃ el sp, d = .slice el sp ∧ el.length = l.length ∧ ∀ i (_ : i < l.length), ∃ d', el[i]? = some d' ∧ Ok l[i] d'
set_option maxRecDepth 100000 in
/-- a slice that came in reads as a list, if each element's cells are known -/
theorem open_rowsF {H α : Type} [Inhabited α] {e2 : α → List Value} {k : Nat} (hk : 0 < k) (he2 : ∀ x, (e2 x).length = k) {T e : TypeId} (hT : Tryz.prog.underlying T = some (.slice e)) (hc : Tryz.prog.cellsOf e = k) (Ok : α → DataW H → Prop)
    {enc : TypeId × Value → H} {W : World} (one : ∀ fuel cs x, DataW.trod enc Tryz.prog W 0 (fun _ => true) true fuel e cs = some x → ∃ s, cs = e2 s ∧ Ok s x.1)
    {v : Value} {d : DataW H} {p : List MemPlace} (hv : ∃ a len cap, v = .slice a len cap) (h : DataW.Trod enc Tryz.prog W 0 (fun _ => true) true T v d p) :
    ∃ l, Rd e2 k W W.heap.size v l ∧ SizedL Ok d l := by
  obtain ⟨a0, len, cap, rfl⟩ := hv
  obtain ⟨fuel, hf⟩ := h
  rcases open_slice hT hf with ⟨hcs, hx⟩ | ⟨a, len', cap', m, n, D, Pl, hcs, _, hl, _, hm, hx, hi⟩
  · simp only [Value.cells] at hcs
    have e : Value.slice a0 len cap = .slice none 0 0 := by simpa using hcs
    injection e with e1 e2 e3
    subst e1 e2 e3
    simp only [Prod.mk.injEq] at hx
    exact ⟨[], Rd.nil _ _, .inl ⟨hx.1, rfl⟩⟩
  · simp only [Value.cells] at hcs
    have e : Value.slice a0 len cap = .slice (some a) len' cap' := by simpa using hcs
    injection e with e1 e2' e3
    subst e1 e2' e3
    simp only [Prod.mk.injEq] at hx
    obtain ⟨rfl, rfl⟩ := hx
    simp only [if_true] at hm
    subst hm
    have hcell : ∀ i, i < len → ∃ s : α, Ok s (D i) ∧ ∀ j, j < k → W.cell? (a.add (i * k + j)) = (e2 s)[j]? := fun i hi' => by
      obtain ⟨cs', hc', ht⟩ := hi i (Nat.lt_of_lt_of_le hi' hl)
      rw [hc] at hc'
      obtain ⟨s, rfl, hok⟩ := one _ _ _ ht
      obtain ⟨_, hlen, hat⟩ := World.cells?_some hc'
      refine ⟨s, hok, fun j hj => ?_⟩
      have h0 := hat j (by omega)
      rw [Go.Deep.add_add] at h0
      exact h0
    obtain ⟨f, hf⟩ : ∃ f : Nat → α, ∀ i, i < len → Ok (f i) (D i) ∧ ∀ j, j < k → W.cell? (a.add (i * k + j)) = (e2 (f i))[j]? := by
      refine ⟨fun i => if h : i < len then (hcell i h).choose else default, fun i hi' => ?_⟩
      simp only [dif_pos hi']
      exact (hcell i hi').choose_spec
    refine ⟨(List.range len).map f, ⟨some a, m, by simp, by simpa using hl, fun i hs => ?_⟩, .inr ⟨_, _, rfl, by simp, fun i hs => ?_⟩⟩
    · have hlt : i < len := by simpa using hs
      have h0 := (hf i hlt).2 0 hk
      rw [List.getElem?_eq_getElem (by rw [he2]; exact hk)] at h0
      have hblk := World.block_lt_of_cell? _ _ h0
      have hba : (a.add (i * k + 0)).block = a.block := by unfold Addr.add; split <;> rfl
      have hsp : a.spot = none := by
        have h0 := (hf 0 (by omega)).2 0 hk
        rw [List.getElem?_eq_getElem (by rw [he2]; exact hk), Nat.zero_mul] at h0
        exact World.cell?_spot (a := a.add (0 + 0)) h0
      refine ⟨a.block, a.off, by cases a; simp only at hsp; subst hsp; rfl, by omega, fun j u hu => ?_⟩
      have hj : j < k := by
        rcases Nat.lt_or_ge j k with h' | h'
        · exact h'
        · rw [List.getElem?_eq_none (by rw [he2]; exact h')] at hu; cases hu
      have h1 := (hf i hlt).2 j hj
      rw [addr_add a _ hsp] at h1
      simp only [List.getElem_map, List.getElem_range] at hu
      rw [hu] at h1
      rw [← h1]
      congr 2
      omega
    · have hlt : i < len := by simpa using hs
      exact ⟨D i, by simp [hlt], by simpa using (hf i hlt).1⟩

theorem weights_el {H : Type} {P : Program} {T e : TypeId} (hu : P.underlying T = some (.slice e)) {el sp : List (DataW H)} {i : Nat} {d' : DataW H} (hi : el[i]? = some d') {n : Nat} (hn : n ∈ d'.weights P e) : n ∈ (DataW.slice el sp).weights P T := by
  have key : ∀ (el : List (DataW H)) (i : Nat), el[i]? = some d' → n ∈ DataW.weightsAll P e el := by
    intro el
    induction el with
    | nil => intro i h; simp at h
    | cons x r ih =>
      intro i h
      cases i with
      | zero => simp at h; subst h; simp [DataW.weightsAll, hn]
      | succ i => simp at h; simp [DataW.weightsAll, ih i h]
  simp only [DataW.weights, hu, List.mem_cons, List.mem_append]
  exact .inr (.inl (key el i hi))

theorem weights_all {H : Type} {P : Program} {ts : List TypeId} {ds : List (DataW H)} (h : (DataW.weightsEach P ts ds).all (· ≤ reachBytes) = true) {j : Nat} {t : TypeId} {d : DataW H} (ht : ts[j]? = some t) (hd : ds[j]? = some d) : ∀ n ∈ d.weights P t, n ≤ reachBytes := fun n hn => by
  have := List.all_eq_true.1 h _ (DataW.weights_mem_each ht hd n hn)
  simpa using this
theorem slice_len {H : Type} {P : Program} {T e : TypeId} (hu : P.underlying T = some (.slice e)) {el sp : List (DataW H)} (hw : ∀ n ∈ (DataW.slice el sp).weights P T, n ≤ reachBytes) : (el.length + sp.length) * P.bytesOf e ≤ 140737488351232 := by
  have := hw ((el.length + sp.length) * P.bytesOf e) (by simp [DataW.weights, hu])
  rwa [show reachBytes = 140737488351232 from rfl] at this
end Go.Proofs.YtgppgecglkellaaGreat
namespace Go.Proofs.YtgppgecglkellaaGreat
open Go.RowKit

/-- block g holds just these cells, of this type -/
def Whole (w : World) (g : Nat) (t : TypeId) (cs : List Value) : Prop := w.heap[g]? = some (.cells cs.toArray t (0, 0))
section
variable {w w' : World} {g : Nat} {t : TypeId} {cs : List Value}
theorem Whole.size (h : Whole w g t cs) : g < w.heap.size := by
  unfold Whole at h
  rcases Nat.lt_or_ge g w.heap.size with hl | hl
  · exact hl
  · rw [Array.getElem?_eq_none hl] at h; cases h
theorem Whole.cell (h : Whole w g t cs) (i : Nat) (v : Value) (hv : cs[i]? = some v) : w.cell? ⟨g, i, none⟩ = some v := by
  unfold Whole at h
  simp only [World.cell?, h, List.getElem?_toArray]
  exact hv
theorem Whole.frozen (h : Whole w g t cs) (i : Nat) : w.frozen? ⟨g, i, none⟩ = false := by
  unfold Whole at h
  simp [World.frozen?, h]
theorem Whole.fresh (w : World) (t : TypeId) (cs : List Value) : Whole (w.alloc (.cells cs.toArray t)) w.heap.size t cs := heap_alloc_new w _
theorem Whole.alloc (h : Whole w g t cs) (o : Obj) : Whole (w.alloc o) g t cs := (Below.heap_alloc w o g h.size).trans h
theorem Whole.put (h : Whole w g t cs) (i : Nat) (u : Value) : Whole (w.setCell ⟨g, i, none⟩ u) g t (cs.set i u) := by
  unfold Whole at h ⊢
  simp [World.setCell, Array.getElem?_modify, h]
theorem Whole.away (h : Whole w g t cs) {p : Addr} (hp : g ≠ p.block) (u : Value) : Whole (w.setCell p u) g t cs := (Below.heap_setCell w p u g hp).trans h
theorem Whole.below {B : Nat} (h : Whole w g t cs) (hb : Below B w w') (hg : g < B) : Whole w' g t cs := (hb.block g hg).trans h
theorem Whole.grown {row : Option Nat} (h : Whole w g t cs) (hg : w.grownBy w' row) (hr : some g ≠ row) : Whole w' g t cs := (hg.block g h.size hr).trans h
theorem Whole.drewN (h : Whole w g t cs) (n : Nat) : Whole (w.drewN n) g t cs := h
theorem Whole.drew (h : Whole w g t cs) : Whole w.drew g t cs := h
/-- blocks of unlike types are not one -/
theorem Whole.apart {t' : TypeId} {cs' : List Value} {g' : Nat} (h : Whole w g t cs) (h' : Whole w g' t' cs') (hne : t ≠ t') : g ≠ g' := by
  rintro rfl
  unfold Whole at h h'
  rw [h] at h'
  injection h' with h'
  injection h' with _ ht
  exact hne ht
theorem Whole.shape (h : Whole w g t cs) : w.shape? g = some (t, cs.length) := by
  unfold Whole at h
  simp [World.shape?, h]
end
/-- a slice of the call's own and a block of another type are not one -/
theorem Own.apart {α : Type} {enc : α → List Value} {k : Nat} {e t : TypeId} {w : World} {base g : Nat} {v : Value} {l : List α} {cs : List Value} (h : Own enc k e w base v l) (hg : Whole w g t cs) (hne : e ≠ t) : some g ≠ v.ownBlock := by
  rcases h.2 with ⟨rfl, _⟩ | ⟨g', cap, cur, rfl, _, hh, _⟩
  · simp [Value.ownBlock]
  · intro he
    have : g = g' := by simpa [Value.ownBlock] using he
    subst this
    unfold Whole at hg
    rw [hg] at hh
    injection hh with hh
    injection hh with _ ht
    exact hne ht.symm
/-- a store into such a block leaves what the slice holds -/
theorem Own.put {α : Type} {enc : α → List Value} {k : Nat} {e t : TypeId} {w : World} {base g : Nat} {v : Value} {l : List α} {cs : List Value} (h : Own enc k e w base v l) (hg : Whole w g t cs) (hne : e ≠ t) (i : Nat) (u : Value) : Own enc k e (w.setCell ⟨g, i, none⟩ u) base v l := by
  refine ⟨h.1, ?_⟩
  rcases h.2 with h2 | ⟨g', cap, cur, hv, hb, hh, r⟩
  · exact .inl h2
  · refine .inr ⟨g', cap, cur, hv, hb, ?_, r⟩
    have hd : g' ≠ g := by
      rintro rfl
      unfold Whole at hg
      rw [hg] at hh
      injection hh with hh
      injection hh with _ ht
      exact hne ht.symm
    exact (Below.heap_setCell w ⟨g, i, none⟩ u g' hd).trans hh
/-- the row of a slice of the call's own, whole -/
theorem Own.row {α : Type} {enc : α → List Value} {k : Nat} {e : TypeId} {w : World} {base : Nat} {v : Value} {l : List α} (h : Own enc k e w base v l) :
    (v = .slice none 0 0 ∧ l = []) ∨ ∃ g cap cur, v = .slice (some ⟨g, 0, none⟩) l.length cap ∧ base ≤ g ∧ Whole w g e cur ∧ l.length ≤ cap ∧ cap ≤ maxLen ∧ cur.length = cap * k ∧ cur.take (l.length * k) = flatG enc l := by
  rcases h.2 with ⟨hv, h0⟩ | ⟨g, cap, cur, hv, hb, hh, h1, h2, h3, h4⟩
  · exact .inl ⟨hv, List.eq_nil_of_length_eq_zero h0⟩
  · exact .inr ⟨g, cap, cur.toList, hv, hb, by unfold Whole; simpa using hh, h1, h2, by simpa using h3, h4⟩
theorem Own.ofRow {α : Type} {enc : α → List Value} {k : Nat} {e : TypeId} (hk : ∀ x, (enc x).length = k) {w : World} {base g cap : Nat} {cur : List Value} (l : List α) (hb : base ≤ g) (hg : Whole w g e cur) (h1 : l.length ≤ cap) (h2 : cap ≤ maxLen)
    (h3 : cur.length = cap * k) (h4 : cur.take (l.length * k) = flatG enc l) : Own enc k e w base (.slice (some ⟨g, 0, none⟩) l.length cap) l :=
  ⟨flatG_length hk l, .inr ⟨g, cap, cur.toArray, rfl, hb, hg, h1, h2, by simpa using h3, by simpa using h4⟩⟩
end Go.Proofs.YtgppgecglkellaaGreat
namespace Go.Proofs.YtgppgecglkellaaGreat
open Go.RowKit
section
variable {P : Program}

theorem Whole.setRow {w : World} {g : Nat} {t : TypeId} {cur : List Value} (h : Whole w g t cur) (cs : List Value) : Whole (w.setRow g cs.toArray) g t cs := setRow_heap w g _ _ t _ h
theorem grown_setRow (w : World) (g : Nat) (cs : Array Value) : w.grownBy (w.setRow g cs) (some g) :=
  ⟨rfl, rfl, rfl, by simp [World.setRow], fun k _ hk => setRow_other w g k cs (fun e => hk (by rw [e]))⟩
theorem size_setRow (w : World) (g : Nat) (cs : Array Value) : (w.setRow g cs).heap.size = w.heap.size := by simp [World.setRow]
theorem splice_nil (cur : List Value) (o : Nat) : splice cur o [] = cur := by simp [splice]

/-- what a move leaves: the block anew, all else as it was -/
structure Moved (w w' : World) (g : Nat) (t : TypeId) (cur : List Value) : Prop where
  whole : Whole w' g t cur
  grown : w.grownBy w' (some g)
  size : w'.heap.size = w.heap.size
theorem Moved.same {w : World} {g : Nat} {t : TypeId} {cur : List Value} (h : Whole w g t cur) : Moved w w g t cur := ⟨h, ⟨rfl, rfl, rfl, Nat.le_refl _, fun _ _ _ => rfl⟩, rfl⟩

/-- where cells are read from: nothing is asked of an empty row's address -/
def Srcs (w : World) (sp : Option Addr) (cs : List Value) : Prop := 0 < cs.length → ∃ ad, sp = some ad ∧ ∀ j v, cs[j]? = some v → w.cell? (ad.add j) = some v
theorem Srcs.nil (w : World) (sp : Option Addr) : Srcs w sp [] := fun h => absurd h (by simp)
theorem Srcs.of {w : World} {ad : Addr} {cs : List Value} (h : ∀ j v, cs[j]? = some v → w.cell? (ad.add j) = some v) : Srcs w (some ad) cs := fun _ => ⟨ad, rfl, h⟩
theorem Srcs.first {w : World} {sp : Option Addr} {cs : List Value} (h : Srcs w sp cs) (size n len cap : Nat) (hl : cs.length = n * size) : (Builtin.firstCells size n (.slice sp len cap)).run P w = .ok cs.toArray w := by
  by_cases h0 : 0 < cs.length
  · obtain ⟨ad, rfl, hc⟩ := h h0
    exact run_firstCells_some w size n ad len cap cs hl hc
  · have hn : cs = [] := List.eq_nil_of_length_eq_zero (by omega)
    subst hn
    cases sp with
    | none => exact run_firstCells_none w size n len cap
    | some a => exact run_firstCells_some w size n a len cap [] hl (fun j v hj => by simp at hj)

/-- cells stored into such a block -/
theorem run_put (w : World) (g o : Nat) (t : TypeId) (dp : Option Addr) (cur cs : List Value) (hg : Whole w g t cur) (hp : 0 < cs.length → dp = some ⟨g, o, none⟩) (hfit : o + cs.length ≤ cur.length) (h1 : ∀ v ∈ cs, v.oneCell' = true) :
    ∃ w', (match dp with | some a => storeCells a cs 0 | none => pure ()).run P w = .ok () w' ∧ Moved w w' g t (splice cur o cs) := by
  by_cases h0 : 0 < cs.length
  · obtain rfl := hp h0
    refine ⟨_, run_storeCells_at P g o t cs 0 cur.toArray w hg (by simpa using hfit) h1, ?_⟩
    simp only [Nat.add_zero, List.append_assoc]
    exact ⟨hg.setRow _, grown_setRow _ _ _, size_setRow _ _ _⟩
  · have hn : cs = [] := List.eq_nil_of_length_eq_zero (by omega)
    subst hn
    rw [splice_nil]
    cases dp with
    | none => exact ⟨w, rfl, Moved.same hg⟩
    | some a => exact ⟨w, rfl, Moved.same hg⟩

theorem run_copyK (w : World) (dT sT ty elem : TypeId) (i0 : TypeInfo) (k : Nat) (hu : P.underlying dT = some (.slice elem)) (hi : P.info? elem = some i0) (hk : i0.size = k) (g o dLen dCap : Nat) (dp sp : Option Addr) (sLen sCap : Nat) (t : TypeId) (cur : List Value)
    (hg : Whole w g t cur) (cs : List Value) (hn : cs.length = Nat.min sLen dLen * k) (hp : 0 < cs.length → dp = some ⟨g, o, none⟩) (hs : Srcs w sp cs) (hfit : o + cs.length ≤ cur.length) (h1 : ∀ v ∈ cs, v.oneCell' = true) :
    ∃ w', (Builtin.copy_ #[dT, sT] ty #[.slice dp dLen dCap, .slice sp sLen sCap]).run P w = .ok (goInt (Nat.min sLen dLen)) w' ∧ Moved w w' g t (splice cur o cs) := by
  obtain ⟨w', hr, hm⟩ := run_put (P := P) w g o t dp cur cs hg hp hfit h1
  refine ⟨w', ?_, hm⟩
  subst hk
  have hf := hs.first (P := P) i0.size (Nat.min sLen dLen) sLen sCap hn
  cases dp with
  | none => 
    have hw : w' = w := by simp at hr; exact hr.symm
    simp [Builtin.copy_, run_underlying hu, Builtin.lenOf, sizeOf, typeInfo, hi, hf, hw]
  | some a => simp [Builtin.copy_, run_underlying hu, Builtin.lenOf, sizeOf, typeInfo, hi, hf, hr]

theorem run_roomK (w : World) (T ty e : TypeId) (i0 : TypeInfo) (k : Nat) (hu : P.underlying T = some (.slice e)) (hi : P.info? e = some i0) (hk : i0.size = k) (g i cap : Nat) (sp : Option Addr) (m mc : Nat) (t : TypeId) (cur : List Value)
    (hg : Whole w g t cur) (cs : List Value) (hn : cs.length = m * k) (hs : Srcs w sp cs) (hroom : i + m ≤ cap) (hfit : i * k + cs.length ≤ cur.length) (h1 : ∀ v ∈ cs, v.oneCell' = true) :
    ∃ w', (Builtin.append_ #[T, T] ty #[.slice (some ⟨g, 0, none⟩) i cap, .slice sp m mc]).run P w = .ok (.slice (some ⟨g, 0, none⟩) (i + m) cap) w' ∧ Moved w w' g t (splice cur (i * k) cs) := by
  subst hk
  obtain ⟨w', hr, hm⟩ := run_put (P := P) w g (i * i0.size) t (some ⟨g, i * i0.size, none⟩) cur cs hg (fun _ => rfl) hfit h1
  refine ⟨w', ?_, hm⟩
  have hf := hs.first (P := P) i0.size m m mc hn
  have hadd : (⟨g, 0, none⟩ : Addr).add (i * i0.size) = ⟨g, i * i0.size, none⟩ := by rw [Addr.add_lit, Nat.zero_add]
  simp only at hr
  simp [Builtin.append_, run_underlying hu, sizeOf, typeInfo, hi, Builtin.lenOf, hroom, hf, hadd, hr]

theorem run_clearK (w : World) (T ty e : TypeId) (z : Value) (k : Nat) (hu : P.underlying T = some (.slice e)) (hz : ∀ w, (zeroValue e).run P w = .ok z w) (hk : z.cells.size = k) (hz1 : ∀ v ∈ z.cells.toList, v.oneCell' = true) (g o n cap : Nat) (dp : Option Addr) (t : TypeId) (cur : List Value)
    (hg : Whole w g t cur) (hp : 0 < n → dp = some ⟨g, o, none⟩) (hfit : o + n * k ≤ cur.length) :
    ∃ w' zs, (Builtin.clear_ #[T] ty #[.slice dp n cap]).run P w = .ok (.tuple #[]) w' ∧ zs.length = n * k ∧ Moved w w' g t (splice cur o zs) := by
  by_cases h0 : n = 0
  · subst h0
    refine ⟨w, [], ?_, by simp, by rw [splice_nil]; exact Moved.same hg⟩
    cases dp <;> simp [Builtin.clear_, run_underlying hu]
  · obtain rfl := hp (by omega)
    have hzl : (Builtin.zeroCells z.cells n).toList.length = n * k := by rw [Array.length_toList, size_zeroCells, hk]
    have h1 : ∀ v ∈ (Builtin.zeroCells z.cells n).toList, v.oneCell' = true := by
      intro v hv
      simp only [Builtin.zeroCells, Array.toList_map, List.mem_map, Array.toList_range, List.mem_range] at hv
      obtain ⟨j, hj, rfl⟩ := hv
      have hpos : 0 < z.cells.size := by
        rcases Nat.eq_zero_or_pos z.cells.size with h | h
        · rw [h] at hj; simp at hj
        · exact h
      have hlt := Nat.mod_lt j hpos
      rw [getElem!_pos z.cells _ hlt]
      exact hz1 _ (by simp)
    obtain ⟨w', hr, hm⟩ := run_put (P := P) w g o t (some ⟨g, o, none⟩) cur _ hg (fun _ => rfl) (by rw [hzl]; exact hfit) h1
    refine ⟨w', _, ?_, hzl, hm⟩
    obtain ⟨n', rfl⟩ : ∃ n', n = n' + 1 := ⟨n - 1, by omega⟩
    simp only at hr
    simp [Builtin.clear_, run_underlying hu, hz, hr]

/-- append(s[:i], make(S, n)...) where there is no room -/
theorem run_zerosK (w : World) (T tn ty e : TypeId) (i0 : TypeInfo) (z : Value) (k bytes : Nat) (kq kn : IntKind) (hu : P.underlying T = some (.slice e)) (htn : P.underlying tn = some (.int kn)) (hi : P.info? e = some i0) (hz : i0.zero = some z) (hk : i0.size = k) (hk0 : 0 < k) (hb : i0.bytes = bytes) (hzs : z.cells.size = k)
    (ap : Option Addr) (i cap n : Nat) (olds : List Value) (ho : olds.length = i * k) (hs : Srcs w ap olds) (h0 : 0 < n) (hg : cap < i + n) (h63 : i + n ≤ maxLen) (hfit : ((i + n) + (i + n) / 4 + 192) * bytes ≤ 281474976710656) :
    ∃ w' c cur, (Builtin.append_ #[T, tn] ty #[.slice ap i cap, .int kq n]).run P w = .ok (.slice (some ⟨w.heap.size, 0, none⟩) (i + n) c) w' ∧ Whole w' w.heap.size e cur ∧ cur.length = c * k ∧ cur.take (i * k) = olds ∧ i + n ≤ c ∧ c ≤ maxLen ∧ w.grownBy w' none ∧ w'.heap.size = w.heap.size + 1 := by
  subst hk hb
  have h48 := growslice_fits_wide hg hfit
  have hge := grownCap_ge w (i + n) cap e
  have hcm : grownCap w (i + n) cap e ≤ maxLen := grownCap_le_maxLen w (i + n) cap e h63
  have hf : (Builtin.firstCells i0.size i (.slice ap i cap)).run P w.drew = .ok olds.toArray w.drew := (show Srcs w.drew ap olds from hs).first (P := P) i0.size i i cap ho
  have hr := Lib.run_append_grow_zeros (P := P) w T tn ty e i0 z kq kn hu htn hi hz ap i cap olds hf n h0 hk0 hg (by unfold maxLen at h63; omega)
    (by have : n * i0.bytes ≤ (i + n + (i + n) / 4 + 192) * i0.bytes := Nat.mul_le_mul_right _ (by omega)
        omega) h48
  refine ⟨_, _, (olds.toArray ++ Builtin.zeroCells z.cells n ++ Builtin.zeroCells z.cells (grownCap w (i + n) cap e - (i + n))).toList, hr, ?_, ?_, ?_, hge, hcm, ⟨rfl, rfl, rfl, by simp, fun j hj hn => (World.grownBy_alloc w.drew _ none).block j hj hn⟩, by simp⟩
  · unfold Whole
    rw [Array.toArray_toList]
    exact heap_alloc_new w.drew _
  · simp only [Array.length_toList, Array.size_append, List.size_toArray, size_zeroCells, hzs, ho, ← Nat.add_mul]
    congr 1
    omega
  · simp only [Array.toList_append, List.append_assoc]
    rw [← ho]
    exact List.take_left

/-- the operations, for a walk -/
theorem wp_call2 {w : World} {o : Oper} {a : Act} {K1 : Act → World → Prop} {Q : Exit → Act → World → Prop} (b : Builtin) (hb : b = .copy ∨ b = .append) (d s : Operand) (t t' : TypeId)
    (ho : o.op = .call { callee := .builtin b, args := #[d, s], argTypes := #[t, t'] }) (v u : Value) (hd : a.eval d = v) (hs : a.eval s = u) {v' : Value} {w' : World}
    (hr : (match b with | .copy => Builtin.copy_ #[t, t'] o.type #[v, u] | _ => Builtin.append_ #[t, t'] o.type #[v, u]).run P w = .ok v' w') (h : K1 (a.put o.dst v') w') : o.wp P a w K1 Q := by
  unfold Oper.wp execOp
  rcases hb with rfl | rfl <;>
  · simp only at hr
    simp only [ho, resolve, invoke, builtin, Sem.run_bind, Sem.run_pure, Result.andThen_ok, List.map_toArray, List.map_cons, List.map_nil, hd, hs, hr]
    exact h
theorem wp_clearK {w : World} {o : Oper} {a : Act} {K1 : Act → World → Prop} {Q : Exit → Act → World → Prop} (d : Operand) (t : TypeId)
    (ho : o.op = .call { callee := .builtin .clear, args := #[d], argTypes := #[t] }) (v : Value) (hd : a.eval d = v) {v' : Value} {w' : World}
    (hr : (Builtin.clear_ #[t] o.type #[v]).run P w = .ok v' w') (h : K1 (a.put o.dst v') w') : o.wp P a w K1 Q := by
  unfold Oper.wp execOp
  simp only [ho, resolve, invoke, builtin, Sem.run_bind, Sem.run_pure, Result.andThen_ok, List.map_toArray, List.map_cons, List.map_nil, hd, hr]
  exact h
end
end Go.Proofs.YtgppgecglkellaaGreat
namespace Go.Proofs.YtgppgecglkellaaGreat
/-- keys stand in the order of their bytes -/
instance : LT ByteArray := ⟨fun a b => a.data.toList < b.data.toList⟩
instance : LE ByteArray := ⟨fun a b => a.data.toList ≤ b.data.toList⟩
instance : DecidableLT ByteArray := fun a b => inferInstanceAs (Decidable (a.data.toList < b.data.toList))
instance : DecidableLE ByteArray := fun a b => inferInstanceAs (Decidable (a.data.toList ≤ b.data.toList))
theorem key_ext {a b : ByteArray} (h : a.data.toList = b.data.toList) : a = b := by
  cases a; cases b; simp at h; simp [h]
instance : Std.LawfulOrderLT ByteArray := ⟨fun a b => Std.LawfulOrderLT.lt_iff a.data.toList b.data.toList⟩
instance : Std.IsLinearOrder ByteArray where
  le_refl a := Std.IsPreorder.le_refl a.data.toList
  le_trans a b c h k := Std.IsPreorder.le_trans a.data.toList b.data.toList c.data.toList h k
  le_antisymm a b h k := key_ext (Std.IsPartialOrder.le_antisymm a.data.toList b.data.toList h k)
  le_total a b := Std.IsLinearPreorder.le_total a.data.toList b.data.toList
abbrev K := ByteArray

/-- a span has a key -/
def has (s : K × K) (k : K) : Prop := s.1 ≤ k ∧ k < s.2
/-- one of the spans has a key -/
def mem (l : List (K × K)) (k : K) : Prop := ∃ s ∈ l, has s k
/-- none empty, rising, none touches the next -/
def Normal : List (K × K) → Prop
  | [] => True
  | s :: r => s.1 < s.2 ∧ (∀ t ∈ r, s.2 < t.1) ∧ Normal r

theorem mem_nil (k : K) : ¬ mem [] k := by simp [mem]
theorem mem_cons (s : K × K) (r : List (K × K)) (k : K) : mem (s :: r) k ↔ has s k ∨ mem r k := by simp [mem]
theorem mem_append (a b : List (K × K)) (k : K) : mem (a ++ b) k ↔ mem a k ∨ mem b k := by simp [mem, or_and_right, exists_or]
theorem mem_perm {a b : List (K × K)} (h : a.Perm b) (k : K) : mem a k ↔ mem b k := by simp [mem, h.mem_iff]

theorem Normal.ne {l : List (K × K)} (h : Normal l) : ∀ t ∈ l, t.1 < t.2 := by
  induction l with
  | nil => simp
  | cons s r ih => intro t ht; rcases List.mem_cons.1 ht with rfl | ht
                   · exact h.1
                   · exact ih h.2.2 t ht
theorem mem_above {s : K × K} {r : List (K × K)} (h : Normal (s :: r)) {k : K} (hk : mem r k) : s.2 < k := by
  obtain ⟨t, ht, h1, _⟩ := hk
  have := h.2.1 t ht
  grind

/-- lists of this form are told apart by their keys -/
theorem normal_ext : ∀ (a b : List (K × K)), Normal a → Normal b → (∀ k, mem a k ↔ mem b k) → a = b
  | [], [], _, _, _ => rfl
  | [], s :: r, _, hb, h => absurd ((h s.1).2 ((mem_cons _ _ _).2 (.inl ⟨Std.IsPreorder.le_refl _, hb.1⟩))) (mem_nil _)
  | s :: r, [], ha, _, h => absurd ((h s.1).1 ((mem_cons _ _ _).2 (.inl ⟨Std.IsPreorder.le_refl _, ha.1⟩))) (mem_nil _)
  | s :: r, t :: q, ha, hb, h => by
    have h1 : s.1 = t.1 := by
      have a1 := (h s.1).1 ((mem_cons _ _ _).2 (.inl ⟨Std.IsPreorder.le_refl _, ha.1⟩))
      have b1 := (h t.1).2 ((mem_cons _ _ _).2 (.inl ⟨Std.IsPreorder.le_refl _, hb.1⟩))
      have a0 := ha.1
      have b0 := hb.1
      rcases (mem_cons _ _ _).1 a1 with a1 | a1 <;> rcases (mem_cons _ _ _).1 b1 with b1 | b1
      · unfold has at a1 b1; grind
      · have := mem_above ha b1; unfold has at a1; grind
      · have := mem_above hb a1; unfold has at b1; grind
      · have := mem_above hb a1; have := mem_above ha b1; grind
    have h2 : s.2 = t.2 := by
      have a0 := ha.1
      have b0 := hb.1
      have na : ¬ mem (s :: r) s.2 := by
        rintro hm
        rcases (mem_cons _ _ _).1 hm with hm | hm
        · unfold has at hm; grind
        · have := mem_above ha hm; grind
      have nb : ¬ mem (t :: q) t.2 := by
        rintro hm
        rcases (mem_cons _ _ _).1 hm with hm | hm
        · unfold has at hm; grind
        · have := mem_above hb hm; grind
      have nb' : ¬ has t s.2 := fun hm => na ((h _).2 ((mem_cons _ _ _).2 (.inl hm)))
      have na' : ¬ has s t.2 := fun hm => nb ((h _).1 ((mem_cons _ _ _).2 (.inl hm)))
      unfold has at na' nb'
      grind
    have hst : s = t := Prod.ext h1 h2
    subst hst
    refine congrArg (s :: ·) (normal_ext r q ha.2.2 hb.2.2 fun k => ?_)
    have hk := h k
    rw [mem_cons, mem_cons] at hk
    constructor
    · intro hm
      have := mem_above ha hm
      rcases hk.1 (.inr hm) with h0 | h0
      · unfold has at h0; grind
      · exact h0
    · intro hm
      have := mem_above hb hm
      rcases hk.2 (.inr hm) with h0 | h0
      · unfold has at h0; grind
      · exact h0

theorem normal_append {a b : List (K × K)} : Normal (a ++ b) ↔ Normal a ∧ Normal b ∧ ∀ s ∈ a, ∀ t ∈ b, s.2 < t.1 := by
  induction a with
  | nil => simp [Normal]
  | cons s r ih =>
    simp only [List.cons_append, Normal, ih, List.mem_append, List.mem_cons]
    constructor
    · rintro ⟨h1, h2, h3, h4, h5⟩
      exact ⟨⟨h1, fun t ht => h2 t (.inl ht), h3⟩, h4, fun u hu t ht => by (rcases hu with rfl | hu); (exact h2 t (.inr ht)); exact h5 u hu t ht⟩
    · rintro ⟨⟨h1, h2, h3⟩, h4, h5⟩
      exact ⟨h1, fun t ht => by ((rcases ht with ht | ht); (exact h2 t ht); exact h5 s (.inl rfl) t ht), h3, h4, fun u hu => h5 u (.inr hu)⟩

/-! ### joining -/
def mx (a b : K) : K := if a < b then b else a
def mn (a b : K) : K := if b < a then b else a
theorem mx_cases (a b : K) : (a < b ∧ mx a b = b) ∨ (¬ a < b ∧ mx a b = a) := by unfold mx; split <;> simp_all
theorem mn_cases (a b : K) : (b < a ∧ mn a b = b) ∨ (¬ b < a ∧ mn a b = a) := by unfold mn; split <;> simp_all

/-- one more span, which begins no earlier than those that are there -/
def jadd (out : List (K × K)) (s : K × K) : List (K × K) :=
  match out.getLast? with
  | none => out ++ [s]
  | some l => if s.1 ≤ l.2 then out.dropLast ++ [(l.1, mx l.2 s.2)] else out ++ [s]
def join (l : List (K × K)) : List (K × K) := l.foldl jadd []

theorem jadd_nil (s : K × K) : jadd [] s = [s] := rfl
theorem jadd_snoc (p : List (K × K)) (l s : K × K) : jadd (p ++ [l]) s = if s.1 ≤ l.2 then p ++ [(l.1, mx l.2 s.2)] else p ++ [l] ++ [s] := by
  simp [jadd]

theorem jadd_ok (out : List (K × K)) (s : K × K) (hn : Normal out) (hs : s.1 < s.2) (hl : ∀ t ∈ out, t.1 ≤ s.1) :
    Normal (jadd out s) ∧ (∀ k, mem (jadd out s) k ↔ mem out k ∨ has s k) ∧ ∀ t ∈ jadd out s, t.1 ≤ s.1 := by
  rcases List.eq_nil_or_concat out with rfl | ⟨p, l, rfl⟩
  · rw [jadd_nil]
    exact ⟨⟨hs, by simp, trivial⟩, fun k => by simp [mem], by simp⟩
  · rw [List.concat_eq_append] at *
    rw [jadd_snoc]
    obtain ⟨n1, n2, n3⟩ := normal_append.1 hn
    have hl0 : l.1 ≤ s.1 := hl l (by simp)
    have n4 : l.1 < l.2 := n2.1
    by_cases h : s.1 ≤ l.2
    · rw [if_pos h]
      have hm := mx_cases l.2 s.2
      refine ⟨normal_append.2 ⟨n1, ⟨by grind, by simp, trivial⟩, fun u hu t ht => ?_⟩, fun k => ?_, fun t ht => ?_⟩
      · simp only [List.mem_singleton] at ht; subst ht; exact n3 u hu l (by simp)
      · simp only [mem_append, mem_cons, mem_nil, or_false, has]; grind
      · simp only [List.mem_append, List.mem_singleton] at ht
        rcases ht with ht | rfl
        · exact hl t (by simp [ht])
        · exact hl0
    · rw [if_neg h]
      refine ⟨normal_append.2 ⟨hn, ⟨hs, by simp, trivial⟩, fun u hu t ht => ?_⟩, fun k => ?_, fun t ht => ?_⟩
      · simp only [List.mem_singleton] at ht; subst ht
        rcases List.mem_append.1 hu with hu | hu
        · have := n3 u hu l (by simp); grind
        · simp only [List.mem_singleton] at hu; subst hu; grind
      · simp only [mem_append, mem_cons, mem_nil, or_false]
      · simp only [List.mem_append, List.mem_singleton] at ht
        rcases ht with ht | rfl
        · exact hl t (by simpa using ht)
        · exact Std.IsPreorder.le_refl _

theorem foldl_ok : ∀ (l out : List (K × K)), Normal out → (∀ s ∈ l, s.1 < s.2) → l.Pairwise (fun a b => a.1 ≤ b.1) → (∀ t ∈ out, ∀ s ∈ l, t.1 ≤ s.1) →
    Normal (l.foldl jadd out) ∧ ∀ k, mem (l.foldl jadd out) k ↔ mem out k ∨ mem l k
  | [], out, hn, _, _, _ => ⟨hn, fun k => by simp [mem]⟩
  | s :: r, out, hn, hs, hp, hl => by
    obtain ⟨a1, a2, a3⟩ := jadd_ok out s hn (hs s (by simp)) fun t ht => hl t ht s (by simp)
    rw [List.pairwise_cons] at hp
    obtain ⟨b1, b2⟩ := foldl_ok r (jadd out s) a1 (fun t ht => hs t (by simp [ht])) hp.2 fun t ht u hu => by
      have := a3 t ht; have := hp.1 u hu; grind
    exact ⟨b1, fun k => by rw [List.foldl_cons, b2, a2, mem_cons, or_assoc]⟩

theorem join_ok (l : List (K × K)) (hs : ∀ s ∈ l, s.1 < s.2) (hp : l.Pairwise fun a b => a.1 ≤ b.1) : Normal (join l) ∧ ∀ k, mem (join l) k ↔ mem l k := by
  obtain ⟨h1, h2⟩ := foldl_ok l [] trivial hs hp (by simp)
  exact ⟨h1, fun k => by simpa [join, mem_nil] using h2 k⟩

/-! ### what is left -/
def piece (a b : K) : List (K × K) := if a < b then [(a, b)] else []
/-- the pieces of from..to outside spans of this form -/
def left : List (K × K) → K → K → List (K × K)
  | [], f, t => piece f t
  | g :: r, f, t => piece f (mn g.1 t) ++ left r (mx f g.2) t

theorem mem_piece (a b k : K) : mem (piece a b) k ↔ a ≤ k ∧ k < b := by
  unfold piece; split <;> simp [mem, has]; grind
theorem normal_piece (a b : K) : Normal (piece a b) := by
  unfold piece; split <;> simp_all [Normal]
theorem left_from : ∀ (l : List (K × K)) (f t : K), ∀ u ∈ left l f t, f ≤ u.1
  | [], f, t, u, hu => by unfold left piece at hu; split at hu <;> simp at hu; subst hu; exact Std.IsPreorder.le_refl _
  | g :: r, f, t, u, hu => by
    rw [left, List.mem_append] at hu
    rcases hu with hu | hu
    · unfold piece at hu; split at hu <;> simp at hu; subst hu; exact Std.IsPreorder.le_refl _
    · have := left_from r _ t u hu; have := mx_cases f g.2; grind
theorem left_ok : ∀ (l : List (K × K)) (f t : K), Normal l → Normal (left l f t) ∧ ∀ k, mem (left l f t) k ↔ (f ≤ k ∧ k < t) ∧ ¬ mem l k
  | [], f, t, _ => ⟨normal_piece f t, fun k => by rw [left, mem_piece]; simp [mem]⟩
  | g :: r, f, t, hn => by
    obtain ⟨a1, a2⟩ := left_ok r (mx f g.2) t hn.2.2
    have c1 := mx_cases f g.2
    have c2 := mn_cases g.1 t
    have c3 := hn.1
    refine ⟨normal_append.2 ⟨normal_piece _ _, a1, fun u hu v hv => ?_⟩, fun k => ?_⟩
    · have := left_from r _ t v hv
      unfold piece at hu; split at hu <;> simp at hu; subst hu; simp only []; grind
    · rw [left, mem_append, mem_piece, a2, mem_cons]
      have c4 : mem r k → g.2 < k := fun h => mem_above hn h
      unfold has
      by_cases hm : mem r k
      · have := c4 hm; simp only [hm]; grind
      · simp only [hm]; grind
end Go.Proofs.YtgppgecglkellaaGreat
