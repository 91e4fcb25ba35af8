/- From the walk of a law to its statement: whatever the arguments are, if the call returns true and turns nothing that was there, the statement holds. Slices whose elements take some cells each: what they own, how they are read, what append does. For whatever element type. Bytes: their cells, rows of them made, stored into, copied, appended to; as texts. Arguments of the laws as data: slices of bytes, nil or not. What the arguments' forms say of numbers. Arguments of laws as data: lists of whatever, lists of bytes. (For seats with bytes.) OpenG has it. A text's bytes appended to a slice of the call's own. -/
import Derived.Test.YtbifnogocmgddaaGreatRows
import Derived.ProofKit
import Derived.SizedLaws
import Derived.OneCell
import Derived.OwnWalk
import Derived.Laws.OwnMore
import Derived.Deep.DeepAppendWide
import Derived.WalkKit
import Derived.Lib.Hide
import Derived.Deep.Draws
import Derived.WalkSpells
import Derived.WalkLawsBesides
import Derived.Lib.EndianBits
import Derived.Sort.Walk0
import Derived.Laws.CopyOwn
import Derived.Laws.BytesArg
import Derived.Deep.OwnRows
import Derived.Lib.SlBytesConst
import Derived.Lib.SmallJoins
import Derived.BigQuiet
import Derived.Deep.QuietTactic
import Derived.Deep.Slices
import Derived.ChangeSame
import Derived.Deep.Fields
import Derived.Deep.Strs
import Derived.Lib.AppendStr
namespace Go.Proofs.YtbifnogocmgddaaGreat
open Go.ChangeShapes Go.WideShapes Go.ChangeAt Go.RowKit

theorem prog_own : ownKnob Tryz.prog.godebug = none := by kernel_rfl
theorem prog_laid : laidOutB Tryz.prog = true := by kernel_rfl

section
variable {H : Type} {enc : TypeId × Value → H} {P : Program}
theorem trodAll_len {w : World} {base : Nat} {sp : Nat → Bool} {held : Bool} : ∀ {ts : List TypeId} {vs : List Value} {ds : List (DataW H)} {ps : List MemPlace}, DataW.TrodAll enc P w base sp held ts vs ds ps → ds.length = ts.length
  | [], [], [], _, _ => rfl
  | _ :: _, _ :: _, _ :: _, _, ⟨_, _, _, h, _⟩ => by simp [trodAll_len h]
theorem trodAll_later (hl : laidOutB P = true) {W W' : World} (hb : Below W.heap.size W W') : ∀ {ts : List TypeId} {vs : List Value} {ds : List (DataW H)} {ps : List MemPlace},
    (ts.all fun t => P.readableRec t && decide (t < P.types.size)) = true → DataW.TrodAll enc P W 0 (fun _ => true) true ts vs ds ps → (∀ x ∈ ps, x.block < W.heap.size) → DataW.TrodAll enc P W' 0 (fun b => decide (b < W.heap.size)) true ts vs ds ps
  | [], [], [], _, _, h, _ => h
  | t :: ts, v :: vs, d :: ds, _, hr, ⟨p, q, h1, h2, rfl⟩, hlt => by
    simp only [List.all_cons, Bool.and_eq_true, decide_eq_true_eq] at hr
    exact ⟨p, q, Below.trod hl hr.1.1 hr.1.2 h1 hb (fun x hx => hlt x (by simp [hx])), trodAll_later hl hb hr.2 h2 (fun x hx => hlt x (by simp [hx])), rfl⟩

/-- the call returns true, and nothing that was there has turned -/
theorem law_post {f : Func} {s : ChangeSpec} {W W' : World} {args : Array Value} {ds gs : List (DataW H)} {before : List MemPlace} {tb : TypeId} (hl : laidOutB P = true) (hr : (f.params.toList.all fun t => P.readableRec t && decide (t < P.types.size)) = true)
    (hs : s.vars = []) (hrt : f.resultTypes = #[tb]) (hb : P.underlying tb = some .bool) (hfn : ∀ ds : List (DataW H), ds.length = f.params.toList.length → s.fn H ds = { results := [.lit (.bool true)], args := ds })
    (hW : DataW.Whole enc P f.params.toList s.vars false W args.toList ds gs before) (hbe : Below W.heap.size W W') : s.post enc P f false true false false W args (.bool true) W' := by
  have hlt : ∀ p ∈ before, p.block < W.heap.size := fun p hp => hW.lt p hp
  have hW' := hW
  obtain ⟨p, q, hA, hV, rfl, _, _⟩ := hW
  rw [hs] at hV
  have hg : gs = [] ∧ q = [] := by
    match gs, hV with
    | [], hq => exact ⟨rfl, hq⟩
  obtain ⟨rfl, rfl⟩ := hg
  have e : s.fn H (ds ++ []) = { results := [.lit (.bool true)], args := ds } := by rw [List.append_nil]; exact hfn ds (trodAll_len hA)
  refine ⟨ds, [], p ++ [], [], p, [], hW', ?_, ?_, ?_, hbe.frame _, fun h => by cases h⟩
  · rw [e, hrt]
    exact trodAll_mk1 (shut_bool hb true)
  · rw [e]
    exact trodAll_later hl hbe hr hA fun x hx => hlt x (by simp [hx])
  · rw [e, hs]
    rfl
end

set_option maxRecDepth 100000 in
/-- a law's statement, out of its walk -/
theorem law_lifted (os : Os) (started : os.Started) (H : Type) (enc : TypeId × Value → H) {f : FuncId} {fn : Func} {s : ChangeSpec} (noInit : Tryz.prog.inits.idxOf? f = none) (hf : Tryz.prog.funcs[f]? = some fn)
    (witness : ∃ (w : World) (tape : Tape) (i : Input), w.os = os ∧ (w.forCall tape i).Shaped Tryz.checked.prog ∧ i.vars = [] ∧ Input.okWide Tryz.checked.prog (w.forCall tape i) .any w.heap.size f i ∧
      s.pre6 enc Tryz.checked.prog fn [] false (w.forCall tape i).memory i.args ∧ Assume.holds {} Tryz.checked.prog (lone (Frame.enter Tryz.checked.prog f i.args .normal) [] (w.forCall tape i)))
    (hr : (fn.params.toList.all fun t => Tryz.prog.readableRec t && decide (t < Tryz.prog.types.size)) = true) (hs : s.vars = []) (hrt : fn.resultTypes = #[4])
    (hfn : ∀ ds : List (DataW H), ds.length = fn.params.toList.length → s.fn H ds = { results := [.lit (.bool true)], args := ds })
    (hlaw : ∀ (W : World) (base : Nat) (args : Array Value) (ds : List (DataW H)) (p : List MemPlace), (∀ (j : Nat) t v, fn.params[j]? = some t → args[j]? = some v → Value.okWide Tryz.prog W .any base t v) →
      DataW.TrodAll enc Tryz.prog W 0 (fun _ => true) true fn.params.toList args.toList ds p → (∀ x ∈ p, x.block < W.heap.size) → (DataW.weightsEach Tryz.prog fn.params.toList ds).all (· ≤ reachBytes) = true →
      Calls Tryz.prog f args W fun e W' => e = .returned (.bool true) ∧ Below W.heap.size W W') :
    ReturnsInHanded {} Tryz.checked os f .any (s.pre6 enc Tryz.prog fn [] false) (s.post enc Tryz.prog fn false true false false) := by
  refine returnsInHanded_of_change_sized (C := Tryz.checked) prog_own started noInit hf witness ?_
  intro W base args ds gs before hval hW _ hz _
  have hW' := hW
  have hlt : ∀ p ∈ before, p.block < W.heap.size := fun p hp => hW'.lt p hp
  obtain ⟨p, q, hA, hV, rfl, _, _⟩ := hW
  rw [hs] at hV
  have hg : gs = [] ∧ q = [] := by
    match gs, hV with
    | [], hq => exact ⟨rfl, hq⟩
  obtain ⟨rfl, rfl⟩ := hg
  have hz' : (DataW.weightsEach Tryz.prog fn.params.toList ds).all (· ≤ reachBytes) = true := by
    have h0 : s.plain.varTypes Tryz.checked.prog = [] := by simp [ChangeSpec.plain, DataSpec.varTypes, hs]
    rw [h0, List.append_nil, List.append_nil] at hz
    exact hz
  exact (hlaw W base args ds p hval hA (fun x hx => hlt x (by simp [hx])) hz').mono fun e W' ⟨he, hb⟩ => ⟨_, he, law_post prog_laid hr hs hrt Tryz.underlying4 hfn hW' hb⟩
end Go.Proofs.YtbifnogocmgddaaGreat
namespace Go.Proofs.YtbifnogocmgddaaGreat
open Go.RowKit

section
variable {α : Type} {enc : α → List Value} {k : Nat} {P : Program}

def flatG (enc : α → List Value) (l : List α) : List Value := l.flatMap enc
theorem flatG_append (a b : List α) : flatG enc (a ++ b) = flatG enc a ++ flatG enc b := by simp [flatG]
theorem flatG_length (hk : ∀ x, (enc x).length = k) (l : List α) : (flatG enc l).length = l.length * k := by
  induction l with
  | nil => simp [flatG]
  | cons s r ih => rw [show s :: r = [s] ++ r from rfl, flatG_append, List.length_append, ih]; simp [flatG, hk, Nat.add_mul]; omega
theorem flatG_get (hk : ∀ x, (enc x).length = k) : ∀ (l : List α) (i : Nat) (h : i < l.length) (j : Nat), j < k → (flatG enc l)[i * k + j]? = (enc l[i])[j]?
  | t :: r, 0, h, j, hj => by
    simp only [flatG, List.flatMap_cons, Nat.zero_mul, Nat.zero_add, List.getElem_cons_zero]
    rw [List.getElem?_append_left (by rw [hk]; exact hj)]
  | t :: r, i + 1, h, j, hj => by
    have := flatG_get hk r i (by simpa using h) j hj
    simp only [flatG, List.flatMap_cons, List.getElem_cons_succ] at this ⊢
    rw [List.getElem?_append_right (by rw [hk, Nat.add_mul]; omega), hk, show (i + 1) * k + j - k = i * k + j by rw [Nat.add_mul]; omega]
    exact this

/-- a slice value reads as a list; its cells lie below block B -/
def Rd (enc : α → List Value) (k : Nat) (w : World) (B : Nat) (v : Value) (l : List α) : Prop :=
  ∃ A c, v = .slice A l.length c ∧ l.length ≤ c ∧ ∀ i (_ : i < l.length), ∃ b o, A = some ⟨b, o, none⟩ ∧ b < B ∧ ∀ j u, (enc l[i])[j]? = some u → w.cell? ⟨b, o + i * k + j, none⟩ = some u
theorem Rd.below {w w' : World} {B C : Nat} {v : Value} {l : List α} (h : Rd enc k w B v l) (hb : Below C w w') (hC : B ≤ C) : Rd enc k w' B v l := by
  obtain ⟨A, c, hv, hc, hi⟩ := h
  refine ⟨A, c, hv, hc, fun i hs => ?_⟩
  obtain ⟨b, o, hA, hB, h1⟩ := hi i hs
  exact ⟨b, o, hA, hB, fun j u hu => (hb.cell (p := ⟨b, _, none⟩) (Nat.lt_of_lt_of_le hB hC)).trans (h1 j u hu)⟩
theorem Rd.mono {w : World} {B C : Nat} {v : Value} {l : List α} (h : Rd enc k w B v l) (hC : B ≤ C) : Rd enc k w C v l := by
  obtain ⟨A, c, hv, hc, hi⟩ := h
  refine ⟨A, c, hv, hc, fun i hs => ?_⟩
  obtain ⟨b, o, hA, hB, h1⟩ := hi i hs
  exact ⟨b, o, hA, Nat.lt_of_lt_of_le hB hC, h1⟩
theorem Rd.next {w w' : World} {v : Value} {l : List α} (h : Rd enc k w w.heap.size v l) (hb : Below w.heap.size w w') : Rd enc k w' w'.heap.size v l := (h.below hb (Nat.le_refl _)).mono hb.size
theorem Rd.drewN {w : World} {B : Nat} {v : Value} {l : List α} (h : Rd enc k w B v l) (n : Nat) : Rd enc k (w.drewN n) B v l := h
theorem Rd.nil (w : World) (B : Nat) : Rd enc k w B (.slice none 0 0) [] := ⟨none, 0, rfl, Nat.le_refl _, fun i hi => by simp at hi⟩
theorem Rd.none_ (w : World) (B : Nat) (A : Option Addr) (c : Nat) : Rd enc k w B (.slice A 0 c) [] := ⟨A, c, rfl, Nat.zero_le _, fun i hi => by simp at hi⟩
/-- the first n of them -/
theorem Rd.take {w : World} {B : Nat} {A : Option Addr} {c m : Nat} {l : List α} (h : Rd enc k w B (.slice A m c) l) (n : Nat) (hn : n ≤ l.length) : Rd enc k w B (.slice A n c) (l.take n) := by
  obtain ⟨A', c', hv, hc, hi⟩ := h
  injection hv with h1 h2 h3
  subst h1 h3
  refine ⟨A, c, by simp [Nat.min_eq_left hn], by simp; omega, fun i hs => ?_⟩
  have hs' : i < l.length := by simp at hs; omega
  obtain ⟨b, o, hA, hB, h1⟩ := hi i hs'
  exact ⟨b, o, hA, hB, fun j u hu => h1 j u (by simpa using hu)⟩
/-- those from n on -/
theorem Rd.drop {w : World} {B : Nat} {A : Option Addr} {c m : Nat} {l : List α} (h : Rd enc k w B (.slice A m c) l) (n c' : Nat) (hn : n ≤ l.length) (hc' : l.length - n ≤ c') (A' : Option Addr) (hA' : n < l.length → A' = A.map (·.add (n * k))) :
    Rd enc k w B (.slice A' (l.length - n) c') (l.drop n) := by
  obtain ⟨A0, c0, hv, hc, hi⟩ := h
  injection hv with h1 h2 h3
  subst h1 h3
  refine ⟨A', c', by simp, by simpa using hc', fun i hs => ?_⟩
  have hs' : n + i < l.length := by simp at hs; omega
  obtain ⟨b, o, hA, hB, h1⟩ := hi (n + i) hs'
  refine ⟨b, o + n * k, ?_, hB, fun j u hu => ?_⟩
  · rw [hA' (by omega), hA]
    simp only [Option.map_some, Option.some.injEq]
    unfold Addr.add
    split
    · rename_i hz; rw [hz]; rfl
    · rfl
  · have := h1 j u (by simpa using hu)
    rw [← this]
    congr 2
    rw [Nat.add_mul]; omega

/-- a slice of the call's own, no block of it below base, that holds a list -/
def Own (enc : α → List Value) (k : Nat) (e : TypeId) (w : World) (base : Nat) (v : Value) (l : List α) : Prop := w.ownsRow base e k v l.length (flatG enc l)
section
variable {e : TypeId} {w w' : World} {base : Nat} {v : Value} {l : List α}
theorem Own.nil (w : World) (base : Nat) : Own enc k e w base (.slice none 0 0) [] := World.ownsRow_nil w base e k
theorem Own.empty (w : World) (base : Nat) (hb : base ≤ w.heap.size) : Own enc k e (w.alloc (.cells #[] e)) base (.slice (some ⟨w.heap.size, 0, none⟩) 0 0) [] := by
  have h := World.ownsRow_made (base := base) (e := e) (size := k) w #[] 0 hb (by simp [maxLen]) (by simp)
  exact h
theorem Own.form (h : Own enc k e w base v l) : (v = .slice none 0 0 ∧ l = []) ∨ ∃ g cap, v = .slice (some ⟨g, 0, none⟩) l.length cap ∧ base ≤ g ∧ g < w.heap.size ∧ l.length ≤ cap := by
  rcases h.2 with ⟨hv, h0⟩ | ⟨g, cap, cur, hv, hg, hh, hc, _⟩
  · exact .inl ⟨hv, List.eq_nil_of_length_eq_zero h0⟩
  · exact .inr ⟨g, cap, hv, hg, (Array.getElem?_eq_some_iff.1 hh).1, hc⟩
theorem Own.rd (hk : ∀ x, (enc x).length = k) (h : Own enc k e w base v l) : Rd enc k w w.heap.size v l := by
  rcases h.form with ⟨hv, rfl⟩ | ⟨g, cap, rfl, hg, hlt, hc⟩
  · subst hv; exact Rd.nil _ _
  · refine ⟨_, cap, rfl, hc, fun i hi => ⟨g, 0, rfl, hlt, fun j u hu => ?_⟩⟩
    have hj : j < k := by
      rcases Nat.lt_or_ge j k with h' | h'
      · exact h'
      · rw [List.getElem?_eq_none (by rw [hk]; exact h')] at hu; cases hu
    have hlt2 : i * k + j < l.length * k := by
      have := Nat.mul_le_mul_right k (show i + 1 ≤ l.length from hi)
      rw [Nat.add_mul] at this; omega
    unfold Own at h
    rw [Nat.zero_add, h.cellAt _ hlt2, flatG_get hk l i hi j hj]
    exact hu
theorem Own.alloc (h : Own enc k e w base v l) (o : Obj) : Own enc k e (w.alloc o) base v l := World.ownsRow.alloc h o
theorem Own.drewN (h : Own enc k e w base v l) (n : Nat) : Own enc k e (w.drewN n) base v l := h
theorem Own.drew (h : Own enc k e w base v l) : Own enc k e w.drew base v l := h
theorem Own.kept {row : Option Nat} (h : Own enc k e w base v l) (hg : w.grownBy w' row) (hne : v.ownBlock = none ∨ v.ownBlock ≠ row) : Own enc k e w' base v l := World.ownsRow.kept h hg hne
theorem Own.below {B : Nat} (h : Own enc k e w base v l) (hb : Below B w w') (hB : w.heap.size ≤ B) : Own enc k e w' base v l :=
  h.kept (row := none) ⟨hb.os, hb.tape, hb.output, hb.size, fun i hi _ => hb.block i (Nat.lt_of_lt_of_le hi hB)⟩ (by cases v.ownBlock <;> simp)
theorem Own.lower {base' : Nat} (h : Own enc k e w base v l) (hb : base' ≤ base) : Own enc k e w base' v l := by
  refine ⟨h.1, ?_⟩
  rcases h.2 with h2 | ⟨g, cap, cur, hv, hg, r⟩
  · exact .inl h2
  · exact .inr ⟨g, cap, cur, hv, Nat.le_trans hb hg, r⟩
theorem Own.low {i : Nat} (h : Own enc k e w base v l) (hi : v.ownBlock = some i) : base ≤ i ∧ i < w.heap.size := World.ownsRow.lt h i hi
/-- what an append leaves below base is as it was -/
theorem Own.grown {a : World} {B : Nat} {w1 : World} (h : Own enc k e w base v l) (hb : Below B a w) (hg : w.grownBy w1 v.ownBlock) (hB : B ≤ base) (hz : B ≤ w.heap.size) : Below B a w1 :=
  hb.grown hg hz fun _ hj => Nat.le_trans hB (h.low hj).1
end

/-- append of what another slice holds, nil or not, to a slice of the call's own -/
theorem wp_addAny (t e : TypeId) (bytes : Nat) (i0 : TypeInfo) (z : Value) (ht : P.underlying t = some (.slice e)) (hi : P.info? e = some i0) (hz0 : i0.zero = some z) (hz1 : i0.size = k) (hz2 : i0.bytes = bytes) (hzs : z.cells.size = k) (hk0 : 0 < k)
    (hk : ∀ x, (enc x).length = k) (hone : ∀ x, ∀ u ∈ enc x, u.oneCell' = true) {o : Oper} {a : Act} {K : Act → World → Prop} {Q : Exit → Act → World → Prop} {w : World} (s x : Operand)
    (ho : o.op = .call { callee := .builtin .append, args := #[s, x], argTypes := #[t, t] })
    (base : Nat) (v : Value) (l : List α) (hs : a.eval s = v) (hown : Own enc k e w base v l) (B : Nat) (v2 : Value) (p : List α) (hx : a.eval x = v2) (hp : Rd enc k w B v2 p)
    (h63 : l.length + p.length ≤ maxLen) (hbytes : ((l.length + p.length) + (l.length + p.length) / 4 + 192) * bytes ≤ 281474976710656) (hbase : base ≤ w.heap.size)
    (h : ∀ A' c' w', Own enc k e w' base (.slice A' (l ++ p).length c') (l ++ p) → w.grownBy w' v.ownBlock → K (a.put o.dst (.slice A' (l ++ p).length c')) w') : o.wp P a w K Q := by
  obtain ⟨A, c, rfl, hc, hi2⟩ := hp
  have main : ∃ v' w', (Builtin.append_ #[t, t] o.type #[v, .slice A p.length c]).run P w = .ok v' w' ∧ w'.ownsRow base e k v' (l ++ p).length (flatG enc (l ++ p)) ∧ w.grownBy w' v.ownBlock := by
    cases A with
    | none =>
      have hp0 : p = [] := by
        cases p with
        | nil => rfl
        | cons y r =>
          obtain ⟨b, o', hA, _⟩ := hi2 0 (by simp)
          cases hA
      subst hp0
      refine ⟨v, w, ?_, by rw [List.append_nil]; exact hown, ⟨rfl, rfl, rfl, Nat.le_refl _, fun _ _ _ => rfl⟩⟩
      rcases hown.2 with ⟨rfl, _⟩ | ⟨g, cap, cur, rfl, _, _, hnc, _⟩
      · simp [Builtin.append_, run_underlying ht, sizeOf, typeInfo, hi, Builtin.lenOf, Builtin.firstCells]
      · simp [Builtin.append_, run_underlying ht, sizeOf, typeInfo, hi, Builtin.lenOf, Builtin.firstCells, hnc, storeCells]
    | some ad =>
      have hcells : ∀ j u, (flatG enc p)[j]? = some u → w.cell? (ad.add j) = some u := by
        intro j u hu
        have hjl : j < p.length * k := by
          rcases Nat.lt_or_ge j (p.length * k) with h' | h'
          · exact h'
          · rw [List.getElem?_eq_none (by rw [flatG_length hk]; exact h')] at hu; cases hu
        have hil : j / k < p.length := by rw [Nat.div_lt_iff_lt_mul hk0]; exact hjl
        obtain ⟨b, o', hA, _, h1⟩ := hi2 (j / k) hil
        have hm : j % k < k := Nat.mod_lt _ hk0
        have e1 : j / k * k + j % k = j := Nat.div_add_mod' j k
        have hg := flatG_get hk p (j / k) hil (j % k) hm
        rw [e1, hu] at hg
        have := h1 (j % k) u hg.symm
        injection hA with hA
        rw [hA]
        have hadd : (⟨b, o', none⟩ : Addr).add j = ⟨b, o' + j, none⟩ := by unfold Addr.add; split <;> simp_all
        rw [hadd, ← this]
        congr 2
        omega
      obtain ⟨v', w', hrun, h2, h3, _⟩ := run_append_own_wide (P := P) w base t o.type e i0 z k bytes ht hi hz0 hz1 hz2 hzs hk0 v l.length (flatG enc l) hown ad p.length c (flatG enc p) (flatG_length hk p) hcells
        (fun u hu => by obtain ⟨y, _, hy⟩ := List.mem_flatMap.1 hu; exact hone y u hy) h63 hbytes hbase
      exact ⟨v', w', hrun, by rw [List.length_append, flatG_append]; exact h2, h3⟩
  obtain ⟨v', w', hrun, h2, h3⟩ := main
  have h4 : Own enc k e w' base v' (l ++ p) := h2
  have hv : ∃ A' c', v' = .slice A' (l ++ p).length c' := by
    rcases h4.form with ⟨hv, h0⟩ | ⟨g, cap, hv, _⟩
    · exact ⟨none, 0, by rw [h0]; exact hv⟩
    · exact ⟨_, _, hv⟩
  obtain ⟨A', c', rfl⟩ := hv
  unfold Oper.wp execOp
  simp only [ho, resolve, invoke, builtin, Sem.run_bind, Sem.run_pure, Result.andThen_ok, List.map_toArray, List.map_cons, List.map_nil, hs, hx, hrun]
  exact h A' c' w' h4 h3

theorem wpList_addAny (t e : TypeId) (bytes : Nat) (i0 : TypeInfo) (z : Value) (ht : P.underlying t = some (.slice e)) (hi : P.info? e = some i0) (hz0 : i0.zero = some z) (hz1 : i0.size = k) (hz2 : i0.bytes = bytes) (hzs : z.cells.size = k) (hk0 : 0 < k)
    (hk : ∀ x, (enc x).length = k) (hone : ∀ x, ∀ u ∈ enc x, u.oneCell' = true) {ops : Array Oper} {rest : List Oper} {o : Oper} {a : Act} {Q : Exit → Act → World → Prop} {w : World} (hgd : o.guard = none) (s x : Operand)
    (ho : o.op = .call { callee := .builtin .append, args := #[s, x], argTypes := #[t, t] })
    (base : Nat) (v : Value) (l : List α) (hs : a.eval s = v) (hown : Own enc k e w base v l) (B : Nat) (v2 : Value) (p : List α) (hx : a.eval x = v2) (hp : Rd enc k w B v2 p)
    (h63 : l.length + p.length ≤ maxLen) (hbytes : ((l.length + p.length) + (l.length + p.length) / 4 + 192) * bytes ≤ 281474976710656) (hbase : base ≤ w.heap.size)
    (h : ∀ A' c' w', Own enc k e w' base (.slice A' (l ++ p).length c') (l ++ p) → w.grownBy w' v.ownBlock → wpList P ops Q rest (a.put o.dst (.slice A' (l ++ p).length c')) w') : wpList P ops Q (o :: rest) a w :=
  wpList_plain hgd fun _ hK => wp_addAny t e bytes i0 z ht hi hz0 hz1 hz2 hzs hk0 hk hone s x ho base v l hs hown B v2 p hx hp h63 hbytes hbase fun A' c' w' h1 h2 => hK _ _ (h A' c' w' h1 h2)
end
end Go.Proofs.YtbifnogocmgddaaGreat
namespace Go.Proofs.YtbifnogocmgddaaGreat
open Go.RowKit

set_option maxRecDepth 100000 in
theorem byte_lt (c : UInt8) : c.toNat < 256 := c.toNat_lt
/-- a byte's cell -/
def byteEnc (c : UInt8) : List Value := [.int .u8 (c.toNat : Int)]
set_option maxRecDepth 100000 in
theorem byteEnc_len (c : UInt8) : (byteEnc c).length = 1 := rfl
set_option maxRecDepth 100000 in
theorem byteEnc_one (c : UInt8) : ∀ u ∈ byteEnc c, u.oneCell' = true := by simp [byteEnc, Value.oneCell']
abbrev RdB (w : World) (B : Nat) (v : Value) (l : List UInt8) : Prop := Rd byteEnc 1 w B v l
set_option maxRecDepth 100000 in
theorem RdB.at {w : World} {B : Nat} {v : Value} {l : List UInt8} (h : RdB w B v l) : ∃ A c, v = .slice A l.length c ∧ l.length ≤ c ∧ ∀ i (_ : i < l.length), ∃ b o, A = some ⟨b, o, none⟩ ∧ b < B ∧ w.cell? ⟨b, o + i, none⟩ = some (.int .u8 (l[i].toNat : Int)) := by
  obtain ⟨A, c, hv, hc, hi⟩ := h
  refine ⟨A, c, hv, hc, fun i hs => ?_⟩
  obtain ⟨b, o, hA, hB, h1⟩ := hi i hs
  have := h1 0 _ rfl
  simp only [Nat.mul_one, Nat.add_zero] at this
  exact ⟨b, o, hA, hB, this⟩
set_option maxRecDepth 100000 in
theorem info_u8 : (Tryz.prog.info? 5).map (fun i => (i.zero, i.size, i.bytes)) = some (some (.int .u8 0), 1, 1) := by kernel_rfl

/-- the cells of bytes -/
def cellsB (l : List UInt8) : List Value := l.map fun c => .int .u8 (c.toNat : Int)
set_option maxRecDepth 100000 in
theorem cellsB_len (l : List UInt8) : (cellsB l).length = l.length := by simp [cellsB]
set_option maxRecDepth 100000 in
theorem flat_cellsB (l : List UInt8) : flatG byteEnc l = cellsB l := by
  induction l with
  | nil => rfl
  | cons c l ih => rw [cellsB, List.map_cons, ← cellsB, ← ih]; rfl
set_option maxRecDepth 100000 in
theorem cellsB_get (l : List UInt8) (i : Nat) (h : i < l.length) : (cellsB l)[i]? = some (.int .u8 (l[i].toNat : Int)) := by simp [cellsB, h]
set_option maxRecDepth 100000 in
theorem cellsB_one (l : List UInt8) : ∀ v ∈ cellsB l, v.oneCell' = true := by
  intro v hv
  obtain ⟨c, _, rfl⟩ := List.mem_map.1 hv
  rfl
set_option maxRecDepth 100000 in
theorem cellsB_append (a b : List UInt8) : cellsB (a ++ b) = cellsB a ++ cellsB b := by simp [cellsB]
set_option maxRecDepth 100000 in
theorem cellsB_set (l : List UInt8) (i : Nat) (c : UInt8) : cellsB (l.set i c) = (cellsB l).set i (.int .u8 (c.toNat : Int)) := by simp [cellsB, List.map_set]

/-- a whole row of bytes -/
def RowB (w : World) (g : Nat) (l : List UInt8) : Prop := w.heap[g]? = some (.cells (cellsB l).toArray 5 (0, 0))
set_option maxRecDepth 100000 in
theorem RowB.lt {w : World} {g : Nat} {l : List UInt8} (h : RowB w g l) : g < w.heap.size := (Array.getElem?_eq_some_iff.1 h).1
set_option maxRecDepth 100000 in
theorem RowB.cell {w : World} {g : Nat} {l : List UInt8} (h : RowB w g l) (i : Nat) (hi : i < l.length) : w.cell? ⟨g, i, none⟩ = some (.int .u8 (l[i].toNat : Int)) := by
  unfold RowB at h
  simp only [World.cell?, h, List.getElem?_toArray]
  exact cellsB_get l i hi
set_option maxRecDepth 100000 in
theorem RowB.frozen {w : World} {g : Nat} {l : List UInt8} (h : RowB w g l) (i : Nat) : w.frozen? ⟨g, i, none⟩ = false := by
  unfold RowB at h
  simp [World.frozen?, h]
set_option maxRecDepth 100000 in
theorem RowB.set {w : World} {g : Nat} {l : List UInt8} (h : RowB w g l) (i : Nat) (c : UInt8) : RowB (w.setCell ⟨g, i, none⟩ (.int .u8 (c.toNat : Int))) g (l.set i c) := by
  unfold RowB at h ⊢
  rw [cellsB_set]
  simp [World.setCell, Array.getElem?_modify, h]
set_option maxRecDepth 100000 in
theorem RowB.below {w w' : World} {g B : Nat} {l : List UInt8} (h : RowB w g l) (hb : Below B w w') (hg : g < B) : RowB w' g l := (hb.block g hg).trans h
set_option maxRecDepth 100000 in
theorem RowB.next {w w' : World} {g : Nat} {l : List UInt8} (h : RowB w g l) (hb : Below w.heap.size w w') : RowB w' g l := h.below hb h.lt
set_option maxRecDepth 100000 in
theorem RowB.alloc {w : World} {g : Nat} {l : List UInt8} (h : RowB w g l) (o : Obj) : RowB (w.alloc o) g l := h.next ((Below.refl _ w).alloc (Nat.le_refl _) o)
set_option maxRecDepth 100000 in
/-- the bytes from k on, up to n of them -/
theorem RowB.rd {w : World} {g : Nat} {l : List UInt8} (h : RowB w g l) (k c : Nat) (m : List UInt8) (hm : m = l.drop k) (hc : m.length ≤ c) : RdB w w.heap.size (.slice (some ⟨g, k, none⟩) m.length c) m := by
  subst hm
  refine ⟨_, c, rfl, hc, fun i hi => ⟨g, k, rfl, h.lt, fun j u hu => ?_⟩⟩
  have hi' : k + i < l.length := by simp at hi; omega
  match j, hu with
  | 0, hu =>
    simp only [byteEnc, List.getElem?_cons_zero, Option.some.injEq] at hu
    subst hu
    simp only [Nat.mul_one, Nat.add_zero]
    rw [h.cell (k + i) hi']
    simp
  | j + 1, hu => simp [byteEnc] at hu
set_option maxRecDepth 100000 in
theorem RowB.whole {w : World} {g : Nat} {l : List UInt8} (h : RowB w g l) : RdB w w.heap.size (.slice (some ⟨g, 0, none⟩) l.length l.length) l := h.rd 0 l.length l (by simp) (Nat.le_refl _)
set_option maxRecDepth 100000 in
theorem RowB.own {w : World} {g base : Nat} {l : List UInt8} (h : RowB w g l) (hb : base ≤ g) (hm : l.length ≤ maxLen) : Own byteEnc 1 5 w base (.slice (some ⟨g, 0, none⟩) l.length l.length) l := by
  refine ⟨by rw [flat_cellsB, cellsB_len]; omega, .inr ⟨g, l.length, _, rfl, hb, h, Nat.le_refl _, hm, by simp [cellsB_len], ?_⟩⟩
  rw [flat_cellsB]
  exact List.take_of_length_le (by simp [cellsB_len])

section
variable {ops : Array Oper} {rest : List Oper} {o : Oper} {a : Act} {Q : Exit → Act → World → Prop} {w : World}
set_option maxRecDepth 100000 in
/-- a new row of zeros -/
theorem wpList_makeB (hg : o.guard = none) (l c : Operand) (hop : o.op = Op.makeSlice 51 l c) (n : Nat) (hl : a.eval l = .int .i64 (n : Int)) (hc : a.eval c = .int .i64 (n : Int)) (hn : n ≤ 281474976710656)
    (hK : ∀ w', RowB w' w.heap.size (List.replicate n 0) → Below w.heap.size w w' → wpList Tryz.prog ops Q rest (a.put o.dst (.slice (some ⟨w.heap.size, 0, none⟩) n n)) w') : wpList Tryz.prog ops Q (o :: rest) a w := by
  obtain ⟨i, hi, hz0, hz1, hz2⟩ := info_parts info_u8
  refine wpList_make_row w hg l c 51 hop 5 i _ Tryz.underlying51 hi hz0 hz1 rfl .i64 .i64 n hl hc (by rw [hz2]; omega) (by omega) (hK _ ?_ ((Below.refl _ w).alloc (Nat.le_refl _) _))
  unfold RowB
  have e : madeCells #[Value.int .u8 0] n = (cellsB (List.replicate n 0)).toArray := by
    apply Array.toList_inj.1
    rw [toList_madeCells_one]
    simp [cellsB]
  rw [e]
  exact heap_alloc_new w _

set_option maxRecDepth 100000 in
/-- bytes copied into a row of the call's own, from off on: as many as there are -/
theorem wpList_copyB (hgd : o.guard = none) (d s : Operand) (ho : o.op = .call { callee := .builtin .copy, args := #[d, s], argTypes := #[51, 51] }) (g off : Nat) (dp : Option Addr) (dCap : Nat) (cur l : List UInt8) (v : Value) (B : Nat)
    (hd : a.eval d = .slice dp l.length dCap) (hdp : 0 < l.length → dp = some ⟨g, off, none⟩) (hs : a.eval s = v) (hv : RdB w B v l) (hg : RowB w g cur) (hfit : off + l.length ≤ cur.length) (C : Nat) (w0 : World) (hb : Below C w0 w) (hC : C ≤ g)
    (h : ∀ w', Hid (RowB w' g (cur.take off ++ (l ++ cur.drop (off + l.length)))) → Below C w0 w' → wpList Tryz.prog ops Q rest (a.put o.dst (goInt l.length)) w') : wpList Tryz.prog ops Q (o :: rest) a w := by
  obtain ⟨i, hi, hz0, hz1, hz2⟩ := info_parts info_u8
  obtain ⟨A, c, rfl, hc, hcell⟩ := hv.at
  have hlen := cellsB_len l
  refine wpList_copy_splice hgd d s _ _ ho 5 Tryz.underlying51 (by rw [hi]; simp [hz1]) dp A l.length dCap l.length c hd hs g off (cellsB cur) 5 hg (cellsB l) (by rw [hlen]; exact (Nat.min_self _).symm) ?_ (by rw [hlen, cellsB_len]; exact hfit) (cellsB_one l) C w0 hb hC ?_
  · rw [hlen]
    intro hpos
    obtain ⟨b, o', hA, hbB, _⟩ := hcell 0 hpos
    refine ⟨hdp hpos, ⟨b, o', none⟩, hA, fun j u hu => ?_⟩
    have hj : j < l.length := by
      rcases Nat.lt_or_ge j l.length with h' | h'
      · exact h'
      · rw [List.getElem?_eq_none (by rw [cellsB_len]; exact h')] at hu; cases hu
    obtain ⟨b2, o2, hA2, _, h2⟩ := hcell j hj
    rw [hA] at hA2
    simp only [Option.some.injEq, Addr.mk.injEq, and_true] at hA2
    obtain ⟨rfl, rfl⟩ := hA2
    rw [cellsB_get l j hj] at hu
    simp only [Option.some.injEq] at hu
    subst hu
    have hadd : (⟨b, o', none⟩ : Addr).add j = ⟨b, o' + j, none⟩ := by unfold Addr.add; split <;> simp_all
    rw [hadd]
    exact h2
  · intro w' hg' hb'
    rw [hlen]
    refine h w' (Lib.hid ?_) hb'
    have := hg'.out
    unfold RowB
    rw [this]
    congr 3
    rw [splice, hlen]
    simp [cellsB, List.map_take, List.map_drop]
end

abbrev OwnB (w : World) (base : Nat) (v : Value) (l : List UInt8) : Prop := Own byteEnc 1 5 w base v l
set_option maxRecDepth 100000 in
theorem OwnB.rdB {w : World} {base : Nat} {v : Value} {l : List UInt8} (h : OwnB w base v l) : RdB w w.heap.size v l := Own.rd byteEnc_len h
set_option maxRecDepth 100000 in
/-- a literal of one byte -/
theorem RdB.one (w : World) (c : UInt8) : RdB (w.alloc (.cells #[.int .u8 (c.toNat : Int)] 5)) (w.heap.size + 1) (.slice (some ⟨w.heap.size, 0, none⟩) 1 1) [c] := by
  refine ⟨_, 1, rfl, Nat.le_refl _, fun i hi => ⟨w.heap.size, 0, rfl, Nat.lt_succ_self _, fun j u hu => ?_⟩⟩
  obtain rfl : i = 0 := by simp at hi; omega
  match j, hu with
  | 0, hu =>
    simp only [byteEnc, List.getElem_cons_zero, List.getElem?_cons_zero, Option.some.injEq] at hu
    subst hu
    exact World.cell?_alloc_at _ _ _ _ rfl
  | j + 1, hu => simp [byteEnc] at hu
set_option maxRecDepth 100000 in
theorem wpList_addB {ops : Array Oper} {rest : List Oper} {o : Oper} {a : Act} {Q : Exit → Act → World → Prop} {w : World} (hgd : o.guard = none) (s x : Operand)
    (ho : o.op = .call { callee := .builtin .append, args := #[s, x], argTypes := #[51, 51] })
    (base : Nat) (v : Value) (l : List UInt8) (hs : a.eval s = v) (hown : OwnB w base v l) (B : Nat) (v2 : Value) (p : List UInt8) (hx : a.eval x = v2) (hp : RdB w B v2 p)
    (hlen : l.length + p.length ≤ 225179981368000) (hbase : base ≤ w.heap.size) (C : Nat) (w0 : World) (hb : Below C w0 w) (hC : C ≤ base)
    (h : ∀ A' c' w', Hid (OwnB w' base (.slice A' (l ++ p).length c') (l ++ p)) → Hid (Below C w0 w') → Hid (base ≤ w'.heap.size) → wpList Tryz.prog ops Q rest (a.put o.dst (.slice A' (l ++ p).length c')) w') : wpList Tryz.prog ops Q (o :: rest) a w := by
  obtain ⟨i0, hi, hz0, hz1, hz2⟩ := info_parts info_u8
  refine wpList_addAny (enc := byteEnc) (k := 1) 51 5 1 i0 _ Tryz.underlying51 hi hz0 hz1 hz2 rfl (by decide) byteEnc_len byteEnc_one hgd s x ho base v l hs hown B v2 p hx hp (by unfold maxLen; omega) (by omega) hbase fun A' c' w' h1 h2 => ?_
  exact h A' c' w' (Lib.hid h1) (Lib.hid (hown.grown hb h2 hC (Nat.le_trans hC hbase))) (Lib.hid (Nat.le_trans hbase h2.size))

set_option maxRecDepth 100000 in
/-- the same for an operation of a region that draws -/
theorem wp_addB {o : Oper} {a : Act} {K : Act → World → Prop} {Q : Exit → Act → World → Prop} {w : World} (s x : Operand)
    (ho : o.op = .call { callee := .builtin .append, args := #[s, x], argTypes := #[51, 51] })
    (base : Nat) (v : Value) (l : List UInt8) (hs : a.eval s = v) (hown : OwnB w base v l) (B : Nat) (v2 : Value) (p : List UInt8) (hx : a.eval x = v2) (hp : RdB w B v2 p)
    (hlen : l.length + p.length ≤ 225179981368000) (hbase : base ≤ w.heap.size) (C : Nat) (w0 : World) (hb : Below C w0 w) (hC : C ≤ base)
    (h : ∀ A' c' w', OwnB w' base (.slice A' (l ++ p).length c') (l ++ p) → Below C w0 w' → base ≤ w'.heap.size → K (a.put o.dst (.slice A' (l ++ p).length c')) w') : o.wp Tryz.prog a w K Q := by
  obtain ⟨i0, hi, hz0, hz1, hz2⟩ := info_parts info_u8
  refine wp_addAny (enc := byteEnc) (k := 1) 51 5 1 i0 _ Tryz.underlying51 hi hz0 hz1 hz2 rfl (by decide) byteEnc_len byteEnc_one s x ho base v l hs hown B v2 p hx hp (by unfold maxLen; omega) (by omega) hbase fun A' c' w' h1 h2 => ?_
  exact h A' c' w' h1 (hown.grown hb h2 hC (Nat.le_trans hC hbase)) (Nat.le_trans hbase h2.size)

set_option maxRecDepth 100000 in
/-- the same where the operation has a guard that says yes -/
theorem wpList_addW {ops : Array Oper} {rest : List Oper} {o : Oper} {a : Act} {Q : Exit → Act → World → Prop} {w : World} (hgd : Region.wanted o (yielded ops a.tmps) = true) (s x : Operand)
    (ho : o.op = .call { callee := .builtin .append, args := #[s, x], argTypes := #[51, 51] })
    (base : Nat) (v : Value) (l : List UInt8) (hs : a.eval s = v) (hown : OwnB w base v l) (B : Nat) (v2 : Value) (p : List UInt8) (hx : a.eval x = v2) (hp : RdB w B v2 p)
    (hlen : l.length + p.length ≤ 225179981368000) (hbase : base ≤ w.heap.size) (C : Nat) (w0 : World) (hb : Below C w0 w) (hC : C ≤ base)
    (h : ∀ A' c' w', Hid (OwnB w' base (.slice A' (l ++ p).length c') (l ++ p)) → Hid (Below C w0 w') → Hid (base ≤ w'.heap.size) → wpList Tryz.prog ops Q rest (a.put o.dst (.slice A' (l ++ p).length c')) w') : wpList Tryz.prog ops Q (o :: rest) a w := by
  obtain ⟨i0, hi, hz0, hz1, hz2⟩ := info_parts info_u8
  refine BigFrame.wpList_want hgd fun K hK => ?_
  refine wp_addAny (enc := byteEnc) (k := 1) 51 5 1 i0 _ Tryz.underlying51 hi hz0 hz1 hz2 rfl (by decide) byteEnc_len byteEnc_one s x ho base v l hs hown B v2 p hx hp (by unfold maxLen; omega) (by omega) hbase fun A' c' w' h1 h2 => ?_
  exact hK _ _ (h A' c' w' (Lib.hid h1) (Lib.hid (hown.grown hb h2 hC (Nat.le_trans hC hbase))) (Lib.hid (Nat.le_trans hbase h2.size)))

/-- a text out of bytes -/
def strB (l : List UInt8) : ByteArray := ⟨l.toArray⟩
set_option maxRecDepth 100000 in
theorem strB_inj {a b : List UInt8} (h : strB a = strB b) : a = b := by
  simpa [strB] using h
set_option maxRecDepth 100000 in
theorem run_convB {w : World} {B : Nat} {v : Value} {l : List UInt8} (hv : RdB w B v l) : (convert 51 9 v).run Tryz.prog w = .ok (.string (strB l)) w := by
  obtain ⟨A, c, rfl, hc, hcell⟩ := hv.at
  rw [run_convert_bytes_string w 51 9 5 _ _ _ Tryz.underlying51 Tryz.underlying5 Tryz.underlying9]
  cases A with
  | none =>
    have : l = [] := by
      cases l with
      | nil => rfl
      | cons x r => obtain ⟨b, o, hA, _⟩ := hcell 0 (by simp); cases hA
    subst this
    simp [Conv.bytesToString, strB, ByteArray.empty, ByteArray.emptyWithCapacity]
    rfl
  | some ad =>
    have hl := run_loadCells_list (P := Tryz.prog) w ad ((l.map fun c => (c.toNat : Int)).map (Value.int .u8)) (fun j u hj => by
      have hjl : j < l.length := by
        rcases Nat.lt_or_ge j l.length with h | h
        · exact h
        · simp [List.getElem?_eq_none (show l.length ≤ j from h)] at hj
      obtain ⟨b, o, hA, _, h1⟩ := hcell j hjl
      simp only [Option.some.injEq] at hA
      subst hA
      have hadd : (⟨b, o, none⟩ : Addr).add j = ⟨b, o + j, none⟩ := by unfold Addr.add; split <;> simp_all
      rw [hadd, h1]
      simp [hjl] at hj
      simp [hj])
    rw [run_bytesToString w ad l.length c (l.map fun c => (c.toNat : Int)) (by simpa using hl), foldl_push_bytes]
    have e : (l.map fun c => (c.toNat : Int)).map (fun n => UInt8.ofNat n.toNat) = l := by
      rw [List.map_map]
      conv => rhs; rw [← List.map_id l]
      exact List.map_congr_left fun x _ => by simp
    rw [e]
    simp [strB, ByteArray.empty, ByteArray.emptyWithCapacity]
    rfl
set_option maxRecDepth 100000 in
theorem same_str (a b : List UInt8) : ((strB a).toList == (strB b).toList) = decide (a = b) := by
  rw [Lib.toList_data, Lib.toList_data]
  rw [Bool.eq_iff_iff]
  simp [strB]

set_option maxRecDepth 100000 in
theorem RdB.lit (w : World) (l : List UInt8) (fr : Nat × Nat) : RdB (w.alloc (.cells (cellsB l).toArray 5 fr)) (w.heap.size + 1) (.slice (some ⟨w.heap.size, 0, none⟩) l.length l.length) l := by
  refine ⟨_, l.length, rfl, Nat.le_refl _, fun i hi => ⟨w.heap.size, 0, rfl, Nat.lt_succ_self _, fun j u hu => ?_⟩⟩
  match j, hu with
  | 0, hu =>
    simp only [byteEnc, List.getElem?_cons_zero, Option.some.injEq] at hu
    subst hu
    rw [World.cell?_alloc_mark, Nat.zero_add, Nat.mul_one, Nat.add_zero, List.getElem?_toArray]
    exact cellsB_get l i hi
  | j + 1, hu => simp [byteEnc] at hu

end Go.Proofs.YtbifnogocmgddaaGreat
namespace Go.Proofs.YtbifnogocmgddaaGreat
open Go.ChangeShapes Go.WideShapes Go.ChangeAt Go.RowKit Go.Joins Go.Deep

set_option maxRecDepth 100000 in
theorem addr_add (a : Addr) (n : Nat) (h : a.spot = none) : a.add n = ⟨a.block, a.off + n, none⟩ := by
  unfold Addr.add
  cases a with
  | mk b o s => simp only at h; subst h; split <;> simp_all

/-- what is known of the data of bytes -/
def SizedB {H : Type} (d : DataW H) (l : List UInt8) : Prop := (d = .nil ∧ l = []) ∨ ∃ el sp, d = .slice el sp ∧ el.length = l.length

set_option maxRecDepth 100000 in
/-- a slice of bytes that came in reads as a list -/
theorem open_bytes {H : Type} {enc : TypeId × Value → H} {W : World} {base : Nat} {v : Value} {d : DataW H} {p : List MemPlace} (hv : Value.okWide Tryz.prog W .any base 51 v) (h : DataW.Trod enc Tryz.prog W 0 (fun _ => true) true 51 v d p) :
    ∃ l, RdB W W.heap.size v l ∧ SizedB d l := by
  obtain ⟨a0, len, cap, rfl⟩ := okWide_slice Tryz.underlying51 hv
  obtain ⟨fuel, hf⟩ := h
  rcases open_ints Tryz.underlying51 Tryz.underlying5 (by kernel_rfl) hf with ⟨hcs, hx⟩ | ⟨a, len', cap', zs, hcs, _, hl, hm, hz, hx, hcell, hwz⟩
  · simp only [Value.cells] at hcs
    have e : Value.slice a0 len cap = .slice none 0 0 := by simpa using hcs
    injection e with e1 e2 e3
    subst e1 e2 e3
    simp only [Prod.mk.injEq] at hx
    exact ⟨[], Rd.nil _ _, .inl ⟨hx.1, rfl⟩⟩
  · simp only [Value.cells] at hcs
    have e : Value.slice a0 len cap = .slice (some a) len' cap' := by simpa using hcs
    injection e with e1 e2 e3
    subst e1 e2 e3
    simp only [Prod.mk.injEq] at hx
    obtain ⟨rfl, rfl⟩ := hx
    simp only [if_true] at hz
    have hb : ∀ n ∈ zs, 0 ≤ n ∧ n < 256 := fun n hn => by
      have h := hwz n hn
      have h1 : IntKind.u8.min = 0 := rfl
      have h2 : IntKind.u8.max = 255 := rfl
      simp only [Lit.wf, Bool.and_eq_true, decide_eq_true_eq] at h
      omega
    refine ⟨(zs.take len).map fun n => UInt8.ofNat n.toNat, ?_, .inr ⟨_, _, rfl, by simp [lits]⟩⟩
    have hlen : ((zs.take len).map fun n => UInt8.ofNat n.toNat).length = len := by simp; omega
    refine ⟨some a, cap, by rw [hlen], by rw [hlen]; exact hl, fun i hi => ?_⟩
    have hi' : i < len := by omega
    have hc := hcell i (by omega)
    have hsp : a.spot = none := by
      have h0 := hcell 0 (by omega)
      have e0 : a.add 0 = a := rfl
      rw [e0] at h0
      exact World.cell?_spot h0
    rw [addr_add a i hsp] at hc
    have hblk := World.block_lt_of_cell? _ _ hc
    refine ⟨a.block, a.off, by cases a; simp only at hsp; subst hsp; rfl, hblk, fun j u hu => ?_⟩
    match j, hu with
    | 0, hu =>
      simp only [byteEnc, List.getElem?_cons_zero, Option.some.injEq] at hu
      subst hu
      have hlt : i < zs.length := by omega
      have := hb zs[i] (List.getElem_mem hlt)
      rw [Nat.mul_one, Nat.add_zero, hc]
      simp [List.getD, hlt]
      omega
    | j + 1, hu => simp [byteEnc] at hu

set_option maxRecDepth 100000 in
theorem SizedB.reach {H : Type} {ts : List TypeId} {ds : List (DataW H)} (h : (DataW.weightsEach Tryz.prog ts ds).all (· ≤ reachBytes) = true) {j : Nat} {d : DataW H} {l : List UInt8} (hs : SizedB d l) (ht : ts[j]? = some 51) (hd : ds[j]? = some d) : l.length ≤ 140737488351232 := by
  rcases hs with ⟨_, rfl⟩ | ⟨el, sp, rfl, he⟩
  · simp
  · have := sized_slice h ht hd Tryz.underlying51
    rw [show Tryz.prog.bytesOf 5 = 1 by kernel_rfl, show reachBytes = 140737488351232 from rfl] at this
    omega

end Go.Proofs.YtbifnogocmgddaaGreat
namespace Go.Proofs.YtbifnogocmgddaaGreat
theorem int_of_wf {i : Int} (h : (Lit.int .i64 i).wf = true) : -9223372036854775808 ≤ i ∧ i < 9223372036854775808 := by
  have h1 : IntKind.i64.min = -9223372036854775808 := rfl
  have h2 : IntKind.i64.max = 9223372036854775807 := rfl
  simp only [Lit.wf, Bool.and_eq_true, decide_eq_true_eq] at h
  omega
theorem nat_of_wfu8 {i : Int} (h : (Lit.int .u8 i).wf = true) : ∃ n : Nat, i = (n : Int) ∧ n < 256 := by
  have h1 : IntKind.u8.min = 0 := rfl
  have h2 : IntKind.u8.max = 255 := rfl
  simp only [Lit.wf, Bool.and_eq_true, decide_eq_true_eq] at h
  exact ⟨i.toNat, by omega, by omega⟩
theorem nat_of_wfu16 {i : Int} (h : (Lit.int .u16 i).wf = true) : ∃ n : Nat, i = (n : Int) ∧ n < 65536 := by
  have h1 : IntKind.u16.min = 0 := rfl
  have h2 : IntKind.u16.max = 65535 := rfl
  simp only [Lit.wf, Bool.and_eq_true, decide_eq_true_eq] at h
  exact ⟨i.toNat, by omega, by omega⟩
theorem nat_of_wfu32 {i : Int} (h : (Lit.int .u32 i).wf = true) : ∃ n : Nat, i = (n : Int) ∧ n < 2 ^ 32 := by
  have h1 : IntKind.u32.min = 0 := rfl
  have h2 : IntKind.u32.max = 4294967295 := rfl
  simp only [Lit.wf, Bool.and_eq_true, decide_eq_true_eq] at h
  exact ⟨i.toNat, by omega, by omega⟩
end Go.Proofs.YtbifnogocmgddaaGreat
namespace Go.Proofs.YtbifnogocmgddaaGreat
open Go.ChangeShapes Go.WideShapes Go.ChangeAt Go.RowKit Go.Joins Go.Deep

theorem array4 {α : Type} {cs : List α} (h : cs.length = 4) : ∃ c0 c1 c2 c3, cs = [c0, c1, c2, c3] := by
  match cs, h with
  | [c0, c1, c2, c3], _ => exact ⟨c0, c1, c2, c3, rfl⟩
section
variable {H : Type} {enc : TypeId × Value → H} {P : Program} {w : World} {base : Nat} {spare : Nat → Bool} {held : Bool}
theorem slice_of {T e : TypeId} (hT : P.underlying T = some (.slice e)) {n : Nat} {v : Value} {y : DataW H × List MemPlace} (h : DataW.trod enc P w base spare held n T [v] = some y) : (∃ a len cap, v = .slice a len cap) ∧ DataW.Trod enc P w base spare held T v y.1 y.2 := by
  have hs : ∃ a len cap, v = .slice a len cap := by
    rcases open_slice hT h with ⟨hcs, _⟩ | ⟨a, len, cap, _, _, _, _, hcs, _⟩
    · exact ⟨none, 0, 0, by simpa using hcs⟩
    · exact ⟨some a, len, cap, by simpa using hcs⟩
  refine ⟨hs, ?_⟩
  obtain ⟨a, len, cap, rfl⟩ := hs
  exact ⟨n, by simpa [Value.cells] using h⟩
end
set_option maxRecDepth 100000 in
/-- a slice of bytes that came in reads as a list -/
theorem open_bytesF {H : Type} {enc : TypeId × Value → H} {W : World} {v : Value} {d : DataW H} {p : List MemPlace} (hv : ∃ a len cap, v = .slice a len cap) (h : DataW.Trod enc Tryz.prog W 0 (fun _ => true) true 51 v d p) :
    ∃ l, RdB W W.heap.size v l ∧ SizedB d l := by
  obtain ⟨a0, len, cap, rfl⟩ := hv
  obtain ⟨fuel, hf⟩ := h
  rcases open_ints Tryz.underlying51 Tryz.underlying5 (by kernel_rfl) hf with ⟨hcs, hx⟩ | ⟨a, len', cap', zs, hcs, _, hl, hm, hz, hx, hcell, hwz⟩
  · simp only [Value.cells] at hcs
    have e : Value.slice a0 len cap = .slice none 0 0 := by simpa using hcs
    injection e with e1 e2 e3
    subst e1 e2 e3
    simp only [Prod.mk.injEq] at hx
    exact ⟨[], Rd.nil _ _, .inl ⟨hx.1, rfl⟩⟩
  · simp only [Value.cells] at hcs
    have e : Value.slice a0 len cap = .slice (some a) len' cap' := by simpa using hcs
    injection e with e1 e2 e3
    subst e1 e2 e3
    simp only [Prod.mk.injEq] at hx
    obtain ⟨rfl, rfl⟩ := hx
    simp only [if_true] at hz
    have hb : ∀ n ∈ zs, 0 ≤ n ∧ n < 256 := fun n hn => by
      have h := hwz n hn
      have h1 : IntKind.u8.min = 0 := rfl
      have h2 : IntKind.u8.max = 255 := rfl
      simp only [Lit.wf, Bool.and_eq_true, decide_eq_true_eq] at h
      omega
    refine ⟨(zs.take len).map fun n => UInt8.ofNat n.toNat, ?_, .inr ⟨_, _, rfl, by simp [lits]⟩⟩
    have hlen : ((zs.take len).map fun n => UInt8.ofNat n.toNat).length = len := by simp; omega
    refine ⟨some a, cap, by rw [hlen], by rw [hlen]; exact hl, fun i hi => ?_⟩
    have hi' : i < len := by omega
    have hc := hcell i (by omega)
    have hsp : a.spot = none := by
      have h0 := hcell 0 (by omega)
      have e0 : a.add 0 = a := rfl
      rw [e0] at h0
      exact World.cell?_spot h0
    rw [addr_add a i hsp] at hc
    have hblk := World.block_lt_of_cell? _ _ hc
    refine ⟨a.block, a.off, by cases a; simp only at hsp; subst hsp; rfl, hblk, fun j u hu => ?_⟩
    match j, hu with
    | 0, hu =>
      simp only [byteEnc, List.getElem?_cons_zero, Option.some.injEq] at hu
      subst hu
      have hlt : i < zs.length := by omega
      have := hb zs[i] (List.getElem_mem hlt)
      rw [Nat.mul_one, Nat.add_zero, hc]
      simp [List.getD, hlt]
      omega
    | j + 1, hu => simp [byteEnc] at hu
/-- what is known of the data of a list -/
def SizedL {H α : Type} (Ok : α → DataW H → Prop) (d : DataW H) (l : List α) : Prop := (d = .nil ∧ l = []) ∨ ∃ el sp, d = .slice el sp ∧ el.length = l.length ∧ ∀ i (_ : i < l.length), ∃ d', el[i]? = some d' ∧ Ok l[i] d'
set_option maxRecDepth 100000 in
/-- a slice that came in reads as a list, if each element's cells are known -/
theorem open_rowsF {H α : Type} [Inhabited α] {e2 : α → List Value} {k : Nat} (hk : 0 < k) (he2 : ∀ x, (e2 x).length = k) {T e : TypeId} (hT : Tryz.prog.underlying T = some (.slice e)) (hc : Tryz.prog.cellsOf e = k) (Ok : α → DataW H → Prop)
    {enc : TypeId × Value → H} {W : World} (one : ∀ fuel cs x, DataW.trod enc Tryz.prog W 0 (fun _ => true) true fuel e cs = some x → ∃ s, cs = e2 s ∧ Ok s x.1)
    {v : Value} {d : DataW H} {p : List MemPlace} (hv : ∃ a len cap, v = .slice a len cap) (h : DataW.Trod enc Tryz.prog W 0 (fun _ => true) true T v d p) :
    ∃ l, Rd e2 k W W.heap.size v l ∧ SizedL Ok d l := by
  obtain ⟨a0, len, cap, rfl⟩ := hv
  obtain ⟨fuel, hf⟩ := h
  rcases open_slice hT hf with ⟨hcs, hx⟩ | ⟨a, len', cap', m, n, D, Pl, hcs, _, hl, _, hm, hx, hi⟩
  · simp only [Value.cells] at hcs
    have e : Value.slice a0 len cap = .slice none 0 0 := by simpa using hcs
    injection e with e1 e2 e3
    subst e1 e2 e3
    simp only [Prod.mk.injEq] at hx
    exact ⟨[], Rd.nil _ _, .inl ⟨hx.1, rfl⟩⟩
  · simp only [Value.cells] at hcs
    have e : Value.slice a0 len cap = .slice (some a) len' cap' := by simpa using hcs
    injection e with e1 e2' e3
    subst e1 e2' e3
    simp only [Prod.mk.injEq] at hx
    obtain ⟨rfl, rfl⟩ := hx
    simp only [if_true] at hm
    subst hm
    have hcell : ∀ i, i < len → ∃ s : α, Ok s (D i) ∧ ∀ j, j < k → W.cell? (a.add (i * k + j)) = (e2 s)[j]? := fun i hi' => by
      obtain ⟨cs', hc', ht⟩ := hi i (Nat.lt_of_lt_of_le hi' hl)
      rw [hc] at hc'
      obtain ⟨s, rfl, hok⟩ := one _ _ _ ht
      obtain ⟨_, hlen, hat⟩ := World.cells?_some hc'
      refine ⟨s, hok, fun j hj => ?_⟩
      have h0 := hat j (by omega)
      rw [Go.Deep.add_add] at h0
      exact h0
    obtain ⟨f, hf⟩ : ∃ f : Nat → α, ∀ i, i < len → Ok (f i) (D i) ∧ ∀ j, j < k → W.cell? (a.add (i * k + j)) = (e2 (f i))[j]? := by
      refine ⟨fun i => if h : i < len then (hcell i h).choose else default, fun i hi' => ?_⟩
      simp only [dif_pos hi']
      exact (hcell i hi').choose_spec
    refine ⟨(List.range len).map f, ⟨some a, m, by simp, by simpa using hl, fun i hs => ?_⟩, .inr ⟨_, _, rfl, by simp, fun i hs => ?_⟩⟩
    · have hlt : i < len := by simpa using hs
      have h0 := (hf i hlt).2 0 hk
      rw [List.getElem?_eq_getElem (by rw [he2]; exact hk)] at h0
      have hblk := World.block_lt_of_cell? _ _ h0
      have hba : (a.add (i * k + 0)).block = a.block := by unfold Addr.add; split <;> rfl
      have hsp : a.spot = none := by
        have h0 := (hf 0 (by omega)).2 0 hk
        rw [List.getElem?_eq_getElem (by rw [he2]; exact hk), Nat.zero_mul] at h0
        exact World.cell?_spot (a := a.add (0 + 0)) h0
      refine ⟨a.block, a.off, by cases a; simp only at hsp; subst hsp; rfl, by omega, fun j u hu => ?_⟩
      have hj : j < k := by
        rcases Nat.lt_or_ge j k with h' | h'
        · exact h'
        · rw [List.getElem?_eq_none (by rw [he2]; exact h')] at hu; cases hu
      have h1 := (hf i hlt).2 j hj
      rw [addr_add a _ hsp] at h1
      simp only [List.getElem_map, List.getElem_range] at hu
      rw [hu] at h1
      rw [← h1]
      congr 2
      omega
    · have hlt : i < len := by simpa using hs
      exact ⟨D i, by simp [hlt], by simpa using (hf i hlt).1⟩

theorem weights_el {H : Type} {P : Program} {T e : TypeId} (hu : P.underlying T = some (.slice e)) {el sp : List (DataW H)} {i : Nat} {d' : DataW H} (hi : el[i]? = some d') {n : Nat} (hn : n ∈ d'.weights P e) : n ∈ (DataW.slice el sp).weights P T := by
  have key : ∀ (el : List (DataW H)) (i : Nat), el[i]? = some d' → n ∈ DataW.weightsAll P e el := by
    intro el
    induction el with
    | nil => intro i h; simp at h
    | cons x r ih =>
      intro i h
      cases i with
      | zero => simp at h; subst h; simp [DataW.weightsAll, hn]
      | succ i => simp at h; simp [DataW.weightsAll, ih i h]
  simp only [DataW.weights, hu, List.mem_cons, List.mem_append]
  exact .inr (.inl (key el i hi))

theorem weights_all {H : Type} {P : Program} {ts : List TypeId} {ds : List (DataW H)} (h : (DataW.weightsEach P ts ds).all (· ≤ reachBytes) = true) {j : Nat} {t : TypeId} {d : DataW H} (ht : ts[j]? = some t) (hd : ds[j]? = some d) : ∀ n ∈ d.weights P t, n ≤ reachBytes := fun n hn => by
  have := List.all_eq_true.1 h _ (DataW.weights_mem_each ht hd n hn)
  simpa using this
theorem slice_len {H : Type} {P : Program} {T e : TypeId} (hu : P.underlying T = some (.slice e)) {el sp : List (DataW H)} (hw : ∀ n ∈ (DataW.slice el sp).weights P T, n ≤ reachBytes) : (el.length + sp.length) * P.bytesOf e ≤ 140737488351232 := by
  have := hw ((el.length + sp.length) * P.bytesOf e) (by simp [DataW.weights, hu])
  rwa [show reachBytes = 140737488351232 from rfl] at this
set_option maxRecDepth 100000 in
theorem SizedB.len {H : Type} {d : DataW H} {l : List UInt8} (hs : SizedB d l) (hw : ∀ n ∈ d.weights Tryz.prog 51, n ≤ reachBytes) : l.length ≤ 140737488351232 := by
  rcases hs with ⟨_, rfl⟩ | ⟨el, sp, rfl, he⟩
  · simp
  · have := slice_len Tryz.underlying51 hw
    rw [show Tryz.prog.bytesOf 5 = 1 by kernel_rfl] at this
    omega
end Go.Proofs.YtbifnogocmgddaaGreat

namespace Go.Proofs.YtbifnogocmgddaaGreat
open Go.RowKit

set_option maxRecDepth 100000 in
theorem strCells_bytes (s : ByteArray) : Lib.strCells s = cellsB s.data.toList := rfl
set_option maxRecDepth 100000 in
theorem data_len (s : ByteArray) : s.data.toList.length = s.size := by simp

set_option maxRecDepth 100000 in
theorem run_append_str (w : World) (base : Nat) (ty : TypeId) (v : Value) (l : List UInt8) (ho : OwnB w base v l) (s : ByteArray) (hlen : l.length + s.size ≤ 225179981368000) (hs : s.size ≤ 140737488355328) (hb : base ≤ w.heap.size) :
    ∃ v' w', (Builtin.append_ #[51, 9] ty #[v, .string s]).run Tryz.prog w = .ok v' w' ∧ OwnB w' base v' (l ++ s.data.toList) ∧ w.grownBy w' v.ownBlock := by
  obtain ⟨i0, hi, hz0, hz1, hz2⟩ := info_parts info_u8
  have small : l.length + s.size ≤ 140737488355328 → ∃ v' w', (Builtin.append_ #[51, 9] ty #[v, .string s]).run Tryz.prog w = .ok v' w' ∧ OwnB w' base v' (l ++ s.data.toList) ∧ w.grownBy w' v.ownBlock := fun hle => by
    obtain ⟨v', w', h1, h2, h3, _⟩ := Lib.run_append_own_string (P := Tryz.prog) w base 51 9 ty 5 i0 Tryz.underlying51 Tryz.underlying9 hi hz0 hz1 hz2 v l.length _ ho s (by unfold maxLen; omega) hle hb
    refine ⟨v', w', h1, ?_, h3⟩
    show w'.ownsRow base _ 1 v' _ _
    rw [List.length_append, data_len, flat_cellsB, cellsB_append, ← strCells_bytes, ← flat_cellsB]
    exact h2
  by_cases hle : l.length + s.size ≤ 140737488355328
  · exact small hle
  rcases ho.form with ⟨_, h0⟩ | ⟨g, cap, rfl, hbg, hglt, hnc⟩
  · rw [h0] at hle; simp at hle; omega
  have hfl : flatG byteEnc (l ++ s.data.toList) = cellsB l ++ Lib.strCells s := by rw [flat_cellsB, cellsB_append, strCells_bytes]
  have hll : (l ++ s.data.toList).length = l.length + s.size := by rw [List.length_append, data_len]
  have hcl := cellsB_len l
  have hsl := Lib.strCells_length s
  rcases ho.2 with ⟨h', _⟩ | ⟨g', cap', cur, h', _, hg, _, hcm, hcs, htake⟩
  · simp at h'
  simp only [Value.slice.injEq, Option.some.injEq, Addr.mk.injEq, and_true, true_and] at h'
  obtain ⟨rfl, rfl⟩ := h'
  rw [flat_cellsB, Nat.mul_one] at htake
  rw [Nat.mul_one] at hcs
  by_cases hroom : l.length + s.size ≤ cap
  · have hr := Lib.run_append_room_string (P := Tryz.prog) w 51 9 ty 5 i0 Tryz.underlying51 Tryz.underlying9 hi hz1 g l.length cap cur hg s hroom (by omega)
    refine ⟨_, _, hr, ⟨by rw [hfl, List.length_append, hcl, hsl, hll, Nat.mul_one], .inr ⟨g, cap, _, by rw [hll], hbg, setRow_heap w g cur _ _ _ hg, by rw [hll]; exact hroom, hcm, ?_, ?_⟩⟩, ⟨rfl, rfl, rfl, by simp, fun k _ hk => setRow_other w g k _ (fun e => hk (by simp [Value.ownBlock, e]))⟩⟩
    · simp only [List.size_toArray, List.length_append, List.length_take, List.length_drop, Array.length_toList, hsl]
      omega
    · rw [htake, hfl, hll, Nat.mul_one]
      exact List.take_left' (by rw [List.length_append, hcl, hsl])
  · have hold : ∀ j u, (cellsB l)[j]? = some u → w.cell? ((⟨g, 0, none⟩ : Addr).add j) = some u := by
      have := World.ownsRow.cells ho (g := g) rfl
      rwa [flat_cellsB] at this
    have hr := Lib.run_append_grow_string (P := Tryz.prog) w 51 9 ty 5 i0 _ Tryz.underlying51 Tryz.underlying9 hi hz0 ⟨g, 0, none⟩ l.length cap (cellsB l) (by rw [hz1, hcl, Nat.mul_one]) hold s (by omega) (by omega) (growslice_fits_wide (by omega) (by rw [hz2]; omega))
    have hge := grownCap_ge w (l.length + s.size) cap 5
    have hgm := grownCap_le_maxLen w (l.length + s.size) cap 5 (by unfold maxLen; omega)
    refine ⟨_, _, hr, ⟨by rw [hfl, List.length_append, hcl, hsl, hll, Nat.mul_one], .inr ⟨w.heap.size, _, _, by rw [hll], hb, heap_alloc_new w.drew _, by rw [hll]; exact hge, hgm, ?_, ?_⟩⟩, ⟨rfl, rfl, rfl, by simp, fun k hk _ => heap_alloc_old w.drew _ hk⟩⟩
    · have hz : (Value.int IntKind.u8 0).cells.size = 1 := rfl
      simp only [Array.size_append, List.size_toArray, size_zeroCells, hz, hcl, hsl]
      omega
    · rw [hfl, hll, Nat.mul_one]
      simp only [Array.toList_append]
      exact List.take_left' (by rw [List.length_append, hcl, hsl])

set_option maxRecDepth 100000 in
theorem wpList_addStr {ops : Array Oper} {rest : List Oper} {o : Oper} {a : Act} {Q : Exit → Act → World → Prop} {w : World} (hw : Region.wanted o (yielded ops a.tmps) = true) (sl x : Operand)
    (ho : o.op = .call { callee := .builtin .append, args := #[sl, x], argTypes := #[51, 9] })
    (base : Nat) (v : Value) (l : List UInt8) (hs : a.eval sl = v) (hown : OwnB w base v l) (s : ByteArray) (hx : a.eval x = .string s)
    (hlen : l.length + s.size ≤ 225179981368000) (hs47 : s.size ≤ 140737488355328) (hbase : base ≤ w.heap.size) (C : Nat) (w0 : World) (hb : Below C w0 w) (hC : C ≤ base)
    (h : ∀ A' c' w', Hid (OwnB w' base (.slice A' (l ++ s.data.toList).length c') (l ++ s.data.toList)) → Hid (Below C w0 w') → Hid (base ≤ w'.heap.size) → wpList Tryz.prog ops Q rest (a.put o.dst (.slice A' (l ++ s.data.toList).length c')) w') : wpList Tryz.prog ops Q (o :: rest) a w := by
  refine BigFrame.wpList_want hw fun K hK => ?_
  obtain ⟨v', w', hr, h2, h3⟩ := run_append_str w base o.type v l hown s hlen hs47 hbase
  have hv : ∃ A' c', v' = .slice A' (l ++ s.data.toList).length c' := by
    rcases h2.form with ⟨hv, h0⟩ | ⟨g, cap, hv, _⟩
    · exact ⟨none, 0, by rw [h0]; exact hv⟩
    · exact ⟨_, _, hv⟩
  obtain ⟨A', c', rfl⟩ := hv
  unfold Oper.wp execOp
  simp only [ho, resolve, invoke, builtin, Sem.run_bind, Sem.run_pure, Result.andThen_ok, List.map_toArray, List.map_cons, List.map_nil, hs, hx, hr]
  exact hK _ _ (h A' c' w' (Lib.hid h2) (Lib.hid (hown.grown hb h3 hC (Nat.le_trans hC hbase))) (Lib.hid (Nat.le_trans hbase h3.size)))
end Go.Proofs.YtbifnogocmgddaaGreat
