/- Slices of ints: read, owned, appended to; those that came in. -/
import Derived.Test.YteelnholmlabmaaOpenN
namespace Go.Proofs.Yteelnholmlabmaa
open Go.ChangeShapes Go.WideShapes Go.ChangeAt Go.RowKit Go.Joins Go.Deep

set_option maxRecDepth 100000 in
theorem info_int : (Try.prog.info? 3).map (fun i => (i.zero, i.size, i.bytes)) = some (some (.int .i64 0), 1, 8) := by kernel_rfl
/-- an int's cell -/
def encI (n : Int) : List Value := [.int .i64 n]
set_option maxRecDepth 100000 in
theorem encI_len (n : Int) : (encI n).length = 1 := rfl
set_option maxRecDepth 100000 in
theorem encI_one (n : Int) : ∀ u ∈ encI n, u.oneCell' = true := by simp [encI, Value.oneCell']
abbrev RdI (w : World) (B : Nat) (v : Value) (l : List Int) : Prop := Rd encI 1 w B v l
abbrev OwnI (w : World) (base : Nat) (v : Value) (l : List Int) : Prop := Own encI 1 3 w base v l
set_option maxRecDepth 100000 in
theorem OwnI.rdI {w : World} {base : Nat} {v : Value} {l : List Int} (h : OwnI w base v l) : RdI w w.heap.size v l := Own.rd encI_len h
set_option maxRecDepth 100000 in
theorem RdI.at {w : World} {B : Nat} {v : Value} {l : List Int} (h : RdI w B v l) : ∃ A c, v = .slice A l.length c ∧ l.length ≤ c ∧ ∀ i (_ : i < l.length), ∃ b o, A = some ⟨b, o, none⟩ ∧ b < B ∧ w.cell? ⟨b, o + i, none⟩ = some (.int .i64 l[i]) := by
  obtain ⟨A, c, hv, hc, hi⟩ := h
  refine ⟨A, c, hv, hc, fun i hs => ?_⟩
  obtain ⟨b, o, hA, hB, h1⟩ := hi i hs
  have := h1 0 _ rfl
  simp only [Nat.mul_one, Nat.add_zero] at this
  exact ⟨b, o, hA, hB, this⟩
set_option maxRecDepth 100000 in
theorem RdI.one (w : World) (n : Int) : RdI (w.alloc (.cells #[.int .i64 n] 3)) (w.heap.size + 1) (.slice (some ⟨w.heap.size, 0, none⟩) 1 1) [n] := by
  refine ⟨_, 1, rfl, Nat.le_refl _, fun i hi => ⟨w.heap.size, 0, rfl, Nat.lt_succ_self _, fun j u hu => ?_⟩⟩
  obtain rfl : i = 0 := by simp at hi; omega
  match j, hu with
  | 0, hu =>
    simp only [encI, List.getElem_cons_zero, List.getElem?_cons_zero, Option.some.injEq] at hu
    subst hu
    exact World.cell?_alloc_at _ _ _ _ rfl
  | j + 1, hu => simp [encI] at hu
set_option maxRecDepth 100000 in
theorem wpList_addI {ops : Array Oper} {rest : List Oper} {o : Oper} {a : Act} {Q : Exit → Act → World → Prop} {w : World} (hgd : Region.wanted o (yielded ops a.tmps) = true) (s x : Operand)
    (ho : o.op = .call { callee := .builtin .append, args := #[s, x], argTypes := #[109, 109] })
    (base : Nat) (v : Value) (l : List Int) (hs : a.eval s = v) (hown : OwnI w base v l) (B : Nat) (v2 : Value) (p : List Int) (hx : a.eval x = v2) (hp : RdI w B v2 p)
    (hlen : l.length + p.length ≤ 28147497670000) (hbase : base ≤ w.heap.size) (C : Nat) (w0 : World) (hb : Below C w0 w) (hC : C ≤ base)
    (h : ∀ A' c' w', Hid (OwnI w' base (.slice A' (l ++ p).length c') (l ++ p)) → Hid (Below C w0 w') → Hid (base ≤ w'.heap.size) → wpList Try.prog ops Q rest (a.put o.dst (.slice A' (l ++ p).length c')) w') : wpList Try.prog ops Q (o :: rest) a w := by
  obtain ⟨i0, hi, hz0, hz1, hz2⟩ := info_parts info_int
  refine BigFrame.wpList_want hgd fun K hK => ?_
  refine wp_addAny (enc := encI) (k := 1) 109 3 8 i0 _ Try.underlying109 hi hz0 hz1 hz2 rfl (by decide) encI_len encI_one s x ho base v l hs hown B v2 p hx hp (by unfold maxLen; omega) (by omega) hbase fun A' c' w' h1 h2 => ?_
  exact hK _ _ (h A' c' w' (Lib.hid h1) (Lib.hid (hown.grown hb h2 hC (Nat.le_trans hC hbase))) (Lib.hid (Nat.le_trans hbase h2.size)))

/-- what is known of the data of ints -/
def SizedI {H : Type} (d : DataW H) (l : List Int) : Prop := (d = .nil ∧ l = []) ∨ ∃ el sp, d = .slice el sp ∧ el.length = l.length
set_option maxRecDepth 100000 in
/-- a slice of ints that came in reads as a list -/
theorem open_intsI {H : Type} {enc : TypeId × Value → H} {W : World} {base : Nat} {v : Value} {d : DataW H} {p : List MemPlace} (hv : Value.okWide Try.prog W .any base 109 v) (h : DataW.Trod enc Try.prog W 0 (fun _ => true) true 109 v d p) :
    ∃ l, RdI W W.heap.size v l ∧ SizedI d l ∧ ∀ n ∈ l, -9223372036854775808 ≤ n ∧ n < 9223372036854775808 := by
  obtain ⟨a0, len, cap, rfl⟩ := okWide_slice Try.underlying109 hv
  obtain ⟨fuel, hf⟩ := h
  rcases open_ints Try.underlying109 Try.underlying3 (by kernel_rfl) hf with ⟨hcs, hx⟩ | ⟨a, len', cap', zs, hcs, _, hl, hm, hz, hx, hcell, hwz⟩
  · simp only [Value.cells] at hcs
    have e : Value.slice a0 len cap = .slice none 0 0 := by simpa using hcs
    injection e with e1 e2 e3
    subst e1 e2 e3
    simp only [Prod.mk.injEq] at hx
    exact ⟨[], Rd.nil _ _, .inl ⟨hx.1, rfl⟩, by simp⟩
  · simp only [Value.cells] at hcs
    have e : Value.slice a0 len cap = .slice (some a) len' cap' := by simpa using hcs
    injection e with e1 e2 e3
    subst e1 e2 e3
    simp only [Prod.mk.injEq] at hx
    obtain ⟨rfl, rfl⟩ := hx
    simp only [if_true] at hz
    have hb : ∀ n ∈ zs, -9223372036854775808 ≤ n ∧ n < 9223372036854775808 := fun n hn => by
      have h := hwz n hn
      have h1 : IntKind.i64.min = -9223372036854775808 := rfl
      have h2 : IntKind.i64.max = 9223372036854775807 := rfl
      simp only [Lit.wf, Bool.and_eq_true, decide_eq_true_eq] at h
      omega
    have hlen : (zs.take len).length = len := by simp; omega
    refine ⟨zs.take len, ⟨some a, cap, by rw [hlen], by rw [hlen]; exact hl, fun i hi => ?_⟩, .inr ⟨_, _, rfl, by simp [lits]⟩, fun n hn => hb n (List.mem_of_mem_take hn)⟩
    have hi' : i < len := by omega
    have hc := hcell i (by omega)
    have hsp : a.spot = none := by
      have h0 := hcell 0 (by omega)
      have e0 : a.add 0 = a := rfl
      rw [e0] at h0
      exact World.cell?_spot h0
    rw [addr_add a i hsp] at hc
    have hblk := World.block_lt_of_cell? _ _ hc
    refine ⟨a.block, a.off, by cases a; simp only at hsp; subst hsp; rfl, hblk, fun j u hu => ?_⟩
    match j, hu with
    | 0, hu =>
      simp only [encI, List.getElem?_cons_zero, Option.some.injEq] at hu
      subst hu
      have hlt : i < zs.length := by omega
      rw [Nat.mul_one, Nat.add_zero, hc]
      simp [List.getD, hlt]
    | j + 1, hu => simp [encI] at hu
set_option maxRecDepth 100000 in
theorem SizedI.reach {H : Type} {ts : List TypeId} {ds : List (DataW H)} (h : (DataW.weightsEach Try.prog ts ds).all (· ≤ reachBytes) = true) {j : Nat} {d : DataW H} {l : List Int} (hs : SizedI d l) (ht : ts[j]? = some 109) (hd : ds[j]? = some d) : l.length ≤ 17592186043904 := by
  rcases hs with ⟨_, rfl⟩ | ⟨el, sp, rfl, he⟩
  · simp
  · have := sized_slice h ht hd Try.underlying109
    rw [show Try.prog.bytesOf 3 = 8 by kernel_rfl, show reachBytes = 140737488351232 from rfl] at this
    omega
end Go.Proofs.Yteelnholmlabmaa
