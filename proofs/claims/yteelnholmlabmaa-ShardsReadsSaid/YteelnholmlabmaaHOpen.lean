/- Arguments of the shards laws as data: bounds, pairs, changes, transactions; and what the second form's bound says of them. -/
import Derived.Test.YteelnholmlabmaaOpenN
import Derived.Test.YteelnholmlabmaaTx
import Derived.Test.YteelnholmlabmaaRSh
namespace Go.Proofs.Yteelnholmlabmaa
open Go.ChangeShapes Go.WideShapes Go.ChangeAt Go.RowKit Go.Joins Go.Deep

def PairD {H : Type} (s : K × K) (d : DataW H) : Prop := d = .agg [.lit (.string s.1.data.toList), .lit (.string s.2.data.toList)]
def ChgD {H : Type} (c : Chg) (d : DataW H) : Prop := ∃ y, d = .agg [y, .lit (.string c.key.data.toList), .lit (.string c.val.data.toList)]

section
variable {H : Type} {enc : TypeId × Value → H} {w : World} {base : Nat} {spare : Nat → Bool} {held : Bool}
set_option maxRecDepth 100000 in
theorem span_of_cells {fuel : Nat} {cs : List Value} {x : DataW H × List MemPlace} (h : DataW.trod enc Try.prog w base spare held fuel 31 cs = some x) : ∃ s : K × K, cs = cellsS s ∧ PairD s x.1 := by
  obtain ⟨y0, y1, n, hx, hlen, h0, h1⟩ := trod_struct2 Try.underlying31 h
  rw [show Try.prog.cellsOf 31 = 2 by kernel_rfl] at hlen
  match cs, hlen with
  | [u, v], _ =>
    have c9 : Try.prog.cellsOf 9 = 1 := by kernel_rfl
    simp [c9] at h0 h1
    obtain ⟨a, ea, xa, ha⟩ := DataW.trod_string Try.underlying9 h0
    obtain ⟨b, eb, xb, hb⟩ := DataW.trod_string Try.underlying9 h1
    simp at ea eb
    exact ⟨(a, b), by rw [ea, eb]; rfl, by rw [hx, xa, xb]; rfl⟩
set_option maxRecDepth 100000 in
theorem pair_of_cells {fuel : Nat} {cs : List Value} {x : DataW H × List MemPlace} (h : DataW.trod enc Try.prog w base spare held fuel 72 cs = some x) : ∃ s : K × K, cs = cellsS s ∧ PairD s x.1 := by
  obtain ⟨y0, y1, n, hx, hlen, h0, h1⟩ := trod_struct2 Try.underlying72 h
  rw [show Try.prog.cellsOf 72 = 2 by kernel_rfl] at hlen
  match cs, hlen with
  | [u, v], _ =>
    have c9 : Try.prog.cellsOf 9 = 1 := by kernel_rfl
    simp [c9] at h0 h1
    obtain ⟨a, ea, xa, ha⟩ := DataW.trod_string Try.underlying9 h0
    obtain ⟨b, eb, xb, hb⟩ := DataW.trod_string Try.underlying9 h1
    simp at ea eb
    exact ⟨(a, b), by rw [ea, eb]; rfl, by rw [hx, xa, xb]; rfl⟩
set_option maxRecDepth 100000 in
theorem key_of_cells {fuel : Nat} {cs : List Value} {x : DataW H × List MemPlace} (h : DataW.trod enc Try.prog w base spare held fuel 9 cs = some x) : ∃ s : K, cs = encK s ∧ True := by
  obtain ⟨a, ea, _, _⟩ := DataW.trod_string Try.underlying9 h
  exact ⟨a, by rw [ea]; rfl, trivial⟩
set_option maxRecDepth 100000 in
theorem chg_of_cells {fuel : Nat} {cs : List Value} {x : DataW H × List MemPlace} (h : DataW.trod enc Try.prog w base spare held fuel 67 cs = some x) : ∃ s : Chg, cs = encC s ∧ ChgD s x.1 := by
  obtain ⟨y0, y1, y2, n, hx, hlen, h0, h1, h2⟩ := trod_struct3 Try.underlying67 h
  rw [show Try.prog.cellsOf 67 = 3 by kernel_rfl] at hlen
  match cs, hlen with
  | [u, v, t], _ =>
    have c9 : Try.prog.cellsOf 9 = 1 := by kernel_rfl
    have c3 : Try.prog.cellsOf 3 = 1 := by kernel_rfl
    simp [c9, c3] at h0 h1 h2
    obtain ⟨m, em, _, _⟩ := DataW.trod_int Try.underlying3 h0
    obtain ⟨a, ea, xa, ha⟩ := DataW.trod_string Try.underlying9 h1
    obtain ⟨b, eb, xb, hb⟩ := DataW.trod_string Try.underlying9 h2
    simp at em ea eb
    exact ⟨⟨m, a, b⟩, by rw [em, ea, eb]; rfl, y0.1, by rw [hx, xa, xb]⟩
end
set_option maxRecDepth 100000 in
theorem SizedL.lenC {H : Type} {d : DataW H} {l : List Chg} (hs : SizedL ChgD d l) (hw : ∀ n ∈ d.weights Try.prog 36, n ≤ reachBytes) : l.length ≤ 3600000000000 ∧ ∀ c ∈ l, smallC c := by
  rcases hs with ⟨_, rfl⟩ | ⟨el, sp, rfl, he, hall⟩
  · simp
  · have h1 := slice_len Try.underlying36 hw
    rw [show Try.prog.bytesOf 67 = 40 by kernel_rfl] at h1
    refine ⟨by omega, fun s hs => ?_⟩
    obtain ⟨i, hi, rfl⟩ := List.getElem_of_mem hs
    obtain ⟨d', h2, y, rfl⟩ := hall i hi
    have hm : ∀ n, n ∈ (DataW.agg [y, .lit (.string l[i].key.data.toList), .lit (.string l[i].val.data.toList)]).weights Try.prog 67 → n ≤ reachBytes := fun n hn => hw n (weights_el Try.underlying36 h2 hn)
    have a := hm l[i].key.data.toList.length (by simp [DataW.weights, DataW.weightsEach, Try.underlying67])
    have b := hm l[i].val.data.toList.length (by simp [DataW.weights, DataW.weightsEach, Try.underlying67])
    rw [show reachBytes = 140737488351232 from rfl] at a b
    have e : ∀ k : K, k.data.toList.length = k.size := fun k => by simp
    rw [e] at a b
    exact ⟨by omega, by omega⟩
set_option maxRecDepth 100000 in
theorem SizedL.lenS {H : Type} {d : DataW H} {l : List (K × K)} (hs : SizedL PairD d l) (hw : ∀ n ∈ d.weights Try.prog 43, n ≤ reachBytes) : l.length < 4611686018427387904 ∧ ∀ s ∈ l, s.1.size < 4611686018427387904 ∧ s.2.size < 4611686018427387904 := by
  rcases hs with ⟨_, rfl⟩ | ⟨el, sp, rfl, he, hall⟩
  · simp
  · have h1 := slice_len Try.underlying43 hw
    rw [show Try.prog.bytesOf 31 = 32 by kernel_rfl] at h1
    refine ⟨by omega, fun s hs => ?_⟩
    obtain ⟨i, hi, rfl⟩ := List.getElem_of_mem hs
    obtain ⟨d', h2, h3⟩ := hall i hi
    unfold PairD at h3
    subst h3
    have hm : ∀ n, n ∈ (DataW.agg [.lit (.string l[i].1.data.toList), .lit (.string l[i].2.data.toList)]).weights Try.prog 31 → n ≤ reachBytes := fun n hn => hw n (weights_el Try.underlying43 h2 hn)
    have a := hm l[i].1.data.toList.length (by simp [DataW.weights, DataW.weightsEach, Try.underlying31])
    have b := hm l[i].2.data.toList.length (by simp [DataW.weights, DataW.weightsEach, Try.underlying31])
    rw [show reachBytes = 140737488351232 from rfl] at a b
    have e : ∀ k : K, k.data.toList.length = k.size := fun k => by simp
    rw [e] at a b
    exact ⟨by omega, by omega⟩
set_option maxRecDepth 100000 in
theorem SizedL.lenP {H : Type} {d : DataW H} {l : List (K × K)} (hs : SizedL PairD d l) (hw : ∀ n ∈ d.weights Try.prog 52, n ≤ reachBytes) : l.length < 4611686018427387904 ∧ ∀ s ∈ l, s.1.size < 4611686018427387904 ∧ s.2.size < 4611686018427387904 := by
  rcases hs with ⟨_, rfl⟩ | ⟨el, sp, rfl, he, hall⟩
  · simp
  · have h1 := slice_len Try.underlying52 hw
    rw [show Try.prog.bytesOf 72 = 32 by kernel_rfl] at h1
    refine ⟨by omega, fun s hs => ?_⟩
    obtain ⟨i, hi, rfl⟩ := List.getElem_of_mem hs
    obtain ⟨d', h2, h3⟩ := hall i hi
    unfold PairD at h3
    subst h3
    have hm : ∀ n, n ∈ (DataW.agg [.lit (.string l[i].1.data.toList), .lit (.string l[i].2.data.toList)]).weights Try.prog 72 → n ≤ reachBytes := fun n hn => hw n (weights_el Try.underlying52 h2 hn)
    have a := hm l[i].1.data.toList.length (by simp [DataW.weights, DataW.weightsEach, Try.underlying72])
    have b := hm l[i].2.data.toList.length (by simp [DataW.weights, DataW.weightsEach, Try.underlying72])
    rw [show reachBytes = 140737488351232 from rfl] at a b
    have e : ∀ k : K, k.data.toList.length = k.size := fun k => by simp
    rw [e] at a b
    exact ⟨by omega, by omega⟩
section
variable {H : Type} {enc : TypeId × Value → H} {W : World}
set_option maxRecDepth 100000 in
theorem spans_of_slice {v : Value} {d : DataW H} {p : List MemPlace} (hv : ∃ a len cap, v = .slice a len cap) (h : DataW.Trod enc Try.prog W 0 (fun _ => true) true 43 v d p) : ∃ l, RdP W W.heap.size v l ∧ SizedL PairD d l :=
  haveI : Inhabited (K × K) := ⟨(⟨#[]⟩, ⟨#[]⟩)⟩
  open_rowsF (by decide) cellsS_len Try.underlying43 (by kernel_rfl) _ (fun _ _ _ h => span_of_cells h) hv h
set_option maxRecDepth 100000 in
theorem chgs_of_slice {v : Value} {d : DataW H} {p : List MemPlace} (hv : ∃ a len cap, v = .slice a len cap) (h : DataW.Trod enc Try.prog W 0 (fun _ => true) true 36 v d p) : ∃ l, RdC W W.heap.size v l ∧ SizedL ChgD d l :=
  haveI : Inhabited Chg := ⟨⟨0, ⟨#[]⟩, ⟨#[]⟩⟩⟩
  open_rowsF (by decide) encC_len Try.underlying36 (by kernel_rfl) _ (fun _ _ _ h => chg_of_cells h) hv h
end
section
variable {H : Type} {enc : TypeId × Value → H} {W : World} {base : Nat} {v : Value} {d : DataW H} {p : List MemPlace}
set_option maxRecDepth 100000 in
theorem open_bounds (hv : Value.okWide Try.prog W .any base 22 v) (h : DataW.Trod enc Try.prog W 0 (fun _ => true) true 22 v d p) (hw : ∀ n ∈ d.weights Try.prog 22, n ≤ reachBytes) : ∃ l : List K, RdK W W.heap.size v l ∧ l.length ≤ 140737488351232 := by
  haveI : Inhabited K := ⟨⟨#[]⟩⟩
  obtain ⟨l, hr, hz⟩ := open_rowsF (H := H) (e2 := encK) (k := 1) (by decide) (fun _ => rfl) Try.underlying22 (by kernel_rfl) (fun _ _ => True) (fun _ _ _ h => key_of_cells h) (by obtain ⟨a, len, cap, rfl⟩ := okWide_slice Try.underlying22 hv; exact ⟨a, len, cap, rfl⟩) h
  refine ⟨l, hr, ?_⟩
  rcases hz with ⟨_, rfl⟩ | ⟨el, sp, rfl, he, hall⟩
  · simp
  · have h1 := slice_len Try.underlying22 hw
    rw [show Try.prog.bytesOf 9 = 16 by kernel_rfl] at h1
    omega
set_option maxRecDepth 100000 in
theorem open_pairs (hv : Value.okWide Try.prog W .any base 52 v) (h : DataW.Trod enc Try.prog W 0 (fun _ => true) true 52 v d p) : ∃ l, RdP W W.heap.size v l ∧ SizedL PairD d l :=
  haveI : Inhabited (K × K) := ⟨(⟨#[]⟩, ⟨#[]⟩)⟩
  open_rowsF (by decide) cellsS_len Try.underlying52 (by kernel_rfl) _ (fun _ _ _ h => pair_of_cells h) (by obtain ⟨a, len, cap, rfl⟩ := okWide_slice Try.underlying52 hv; exact ⟨a, len, cap, rfl⟩) h
set_option maxRecDepth 100000 in
theorem open_chgs (hv : Value.okWide Try.prog W .any base 36 v) (h : DataW.Trod enc Try.prog W 0 (fun _ => true) true 36 v d p) : ∃ l, RdC W W.heap.size v l ∧ SizedL ChgD d l :=
  chgs_of_slice (by obtain ⟨a, len, cap, rfl⟩ := okWide_slice Try.underlying36 hv; exact ⟨a, len, cap, rfl⟩) h
set_option maxRecDepth 100000 in
theorem open_txn (hv : Value.okWide Try.prog W .any base 45 v) (h : DataW.Trod enc Try.prog W 0 (fun _ => true) true 45 v d p) (hw : ∀ n ∈ d.weights Try.prog 45, n ≤ reachBytes) :
    ∃ (t : Txn) (x1 x2 : Value), v = tval t x1 x2 ∧ RdP W W.heap.size x1 t.reads ∧ RdC W W.heap.size x2 t.chgs ∧ fitT t ∧ t.read < 9223372036854775808 := by
  obtain ⟨v0, v1, v2, y0, y1, y2, n, rfl, rfl, _, h0, h1, h2⟩ := open_agg3 Try.underlying45 (by kernel_rfl) (by kernel_rfl) hv h
  obtain ⟨i0, e0, _, g0⟩ := DataW.trod_int Try.underlying3 h0
  simp at e0
  obtain ⟨hs1, ht1⟩ := slice_of Try.underlying43 h1
  obtain ⟨hs2, ht2⟩ := slice_of Try.underlying36 h2
  obtain ⟨l1, hr1, hz1⟩ := spans_of_slice hs1 ht1
  obtain ⟨l2, hr2, hz2⟩ := chgs_of_slice hs2 ht2
  have q1 := hz1.lenS (fun n hn => hw n (by simp only [DataW.weights, Try.underlying45, List.map_cons, List.map_nil, DataW.weightsEach, List.mem_append]; simp only [hn, true_or, or_true]))
  have q2 := hz2.lenC (fun n hn => hw n (by simp only [DataW.weights, Try.underlying45, List.map_cons, List.map_nil, DataW.weightsEach, List.mem_append]; simp only [hn, true_or, or_true]))
  exact ⟨⟨i0, l1, l2⟩, v1, v2, by rw [e0]; rfl, hr1, hr2, ⟨q1.1, q1.2, Nat.lt_of_le_of_lt q2.1 (by omega), q2.2⟩, (int_of_wf g0).2⟩
end
theorem bulk_one {H : Type} (d : DataW H) : 1 ≤ Rows.uptoBulk d := by
  cases d with
  | lit l => cases l <;> simp [Rows.uptoBulk]
  | nil => simp [Rows.uptoBulk]
  | ptr d => simp [Rows.uptoBulk]
  | slice elems spare => simp [Rows.uptoBulk]
  | agg parts => simp [Rows.uptoBulk]
  | iface t d => simp [Rows.uptoBulk]
  | map entries => simp [Rows.uptoBulk]
  | held h => simp [Rows.uptoBulk]
theorem bulk_length {H : Type} (l : List (DataW H)) : l.length ≤ Rows.uptoBulkAll l := by
  induction l with
  | nil => simp [Rows.uptoBulkAll]
  | cons x r ih => have := bulk_one x; simp only [Rows.uptoBulkAll, List.length_cons]; omega
theorem SizedL.bulk {H α : Type} {Ok : α → DataW H → Prop} {d : DataW H} {l : List α} (h : SizedL Ok d l) : l.length ≤ Rows.uptoBulk d := by
  rcases h with ⟨_, rfl⟩ | ⟨el, sp, rfl, he, _⟩
  · simp
  · have := bulk_length el
    simp only [Rows.uptoBulk]
    omega
end Go.Proofs.Yteelnholmlabmaa
