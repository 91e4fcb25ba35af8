/- Arguments of the change laws as data: changes by value, lists of pairs and of changes; how long their keys are. -/
import Derived.Test.YtdkdolcocblhkaaLaw
import Derived.Test.YtdkdolcocblhkaaChg
import Derived.Lib.SmallJoins
import Derived.Deep.Slices
import Derived.Deep.Fields
import Derived.Deep.Strs
import Derived.ChangeSame
namespace Go.Proofs.Ytdkdolcocblhkaa
open Go.ChangeShapes Go.WideShapes Go.ChangeAt Go.RowKit Go.Joins Go.Deep

set_option maxRecDepth 100000 in
theorem addr_add (a : Addr) (n : Nat) (h : a.spot = none) : a.add n = ⟨a.block, a.off + n, none⟩ := by
  unfold Addr.add
  cases a with
  | mk b o s => simp only at h; subst h; split <;> simp_all

/-- what is known of the data of a list -/
def SizedL {H α : Type} (Ok : α → DataW H → Prop) (d : DataW H) (l : List α) : Prop := (d = .nil ∧ l = []) ∨ ∃ el sp, d = .slice el sp ∧ el.length = l.length ∧ ∀ i (_ : i < l.length), ∃ d', el[i]? = some d' ∧ Ok l[i] d'
set_option maxRecDepth 100000 in
/-- a slice that came in reads as a list, if each element's cells are known -/
theorem open_rows {H α : Type} [Inhabited α] {e2 : α → List Value} {k : Nat} (hk : 0 < k) (he2 : ∀ x, (e2 x).length = k) {T e : TypeId} (hT : Try.prog.underlying T = some (.slice e)) (hc : Try.prog.cellsOf e = k) (Ok : α → DataW H → Prop)
    {enc : TypeId × Value → H} {W : World} (one : ∀ fuel cs x, DataW.trod enc Try.prog W 0 (fun _ => true) true fuel e cs = some x → ∃ s, cs = e2 s ∧ Ok s x.1)
    {base : Nat} {v : Value} {d : DataW H} {p : List MemPlace} (hv : Value.okWide Try.prog W .any base T v) (h : DataW.Trod enc Try.prog W 0 (fun _ => true) true T v d p) :
    ∃ l, Rd e2 k W W.heap.size v l ∧ SizedL Ok d l := by
  obtain ⟨a0, len, cap, rfl⟩ := okWide_slice hT hv
  obtain ⟨fuel, hf⟩ := h
  rcases open_slice hT hf with ⟨hcs, hx⟩ | ⟨a, len', cap', m, n, D, Pl, hcs, _, hl, _, hm, hx, hi⟩
  · simp only [Value.cells] at hcs
    have e : Value.slice a0 len cap = .slice none 0 0 := by simpa using hcs
    injection e with e1 e2 e3
    subst e1 e2 e3
    simp only [Prod.mk.injEq] at hx
    exact ⟨[], Rd.nil _ _, .inl ⟨hx.1, rfl⟩⟩
  · simp only [Value.cells] at hcs
    have e : Value.slice a0 len cap = .slice (some a) len' cap' := by simpa using hcs
    injection e with e1 e2' e3
    subst e1 e2' e3
    simp only [Prod.mk.injEq] at hx
    obtain ⟨rfl, rfl⟩ := hx
    simp only [if_true] at hm
    subst hm
    have hcell : ∀ i, i < len → ∃ s : α, Ok s (D i) ∧ ∀ j, j < k → W.cell? (a.add (i * k + j)) = (e2 s)[j]? := fun i hi' => by
      obtain ⟨cs', hc', ht⟩ := hi i (Nat.lt_of_lt_of_le hi' hl)
      rw [hc] at hc'
      obtain ⟨s, rfl, hok⟩ := one _ _ _ ht
      obtain ⟨_, hlen, hat⟩ := World.cells?_some hc'
      refine ⟨s, hok, fun j hj => ?_⟩
      have h0 := hat j (by omega)
      rw [Go.Deep.add_add] at h0
      exact h0
    obtain ⟨f, hf⟩ : ∃ f : Nat → α, ∀ i, i < len → Ok (f i) (D i) ∧ ∀ j, j < k → W.cell? (a.add (i * k + j)) = (e2 (f i))[j]? := by
      refine ⟨fun i => if h : i < len then (hcell i h).choose else default, fun i hi' => ?_⟩
      simp only [dif_pos hi']
      exact (hcell i hi').choose_spec
    refine ⟨(List.range len).map f, ⟨some a, m, by simp, by simpa using hl, fun i hs => ?_⟩, .inr ⟨_, _, rfl, by simp, fun i hs => ?_⟩⟩
    · have hlt : i < len := by simpa using hs
      have h0 := (hf i hlt).2 0 hk
      rw [List.getElem?_eq_getElem (by rw [he2]; exact hk)] at h0
      have hblk := World.block_lt_of_cell? _ _ h0
      have hba : (a.add (i * k + 0)).block = a.block := by unfold Addr.add; split <;> rfl
      have hsp : a.spot = none := by
        have h0 := (hf 0 (by omega)).2 0 hk
        rw [List.getElem?_eq_getElem (by rw [he2]; exact hk), Nat.zero_mul] at h0
        exact World.cell?_spot (a := a.add (0 + 0)) h0
      refine ⟨a.block, a.off, by cases a; simp only at hsp; subst hsp; rfl, by omega, fun j u hu => ?_⟩
      have hj : j < k := by
        rcases Nat.lt_or_ge j k with h' | h'
        · exact h'
        · rw [List.getElem?_eq_none (by rw [he2]; exact h')] at hu; cases hu
      have h1 := (hf i hlt).2 j hj
      rw [addr_add a _ hsp] at h1
      simp only [List.getElem_map, List.getElem_range] at hu
      rw [hu] at h1
      rw [← h1]
      congr 2
      omega
    · have hlt : i < len := by simpa using hs
      exact ⟨D i, by simp [hlt], by simpa using (hf i hlt).1⟩

/-- the data of a pair, of a change -/
def PairD {H : Type} (s : K × K) (d : DataW H) : Prop := d = .agg [.lit (.string s.1.data.toList), .lit (.string s.2.data.toList)]
def ChgD {H : Type} (c : Chg) (d : DataW H) : Prop := ∃ y, d = .agg [y, .lit (.string c.key.data.toList), .lit (.string c.val.data.toList)]

section
variable {H : Type} {enc : TypeId × Value → H} {w : World} {base : Nat} {spare : Nat → Bool} {held : Bool}
set_option maxRecDepth 100000 in
theorem pair_of_cells {fuel : Nat} {cs : List Value} {x : DataW H × List MemPlace} (h : DataW.trod enc Try.prog w base spare held fuel 57 cs = some x) : ∃ s : K × K, cs = cellsS s ∧ PairD s x.1 := by
  obtain ⟨y0, y1, n, hx, hlen, h0, h1⟩ := trod_struct2 Try.underlying57 h
  rw [show Try.prog.cellsOf 57 = 2 by kernel_rfl] at hlen
  match cs, hlen with
  | [u, v], _ =>
    have c9 : Try.prog.cellsOf 9 = 1 := by kernel_rfl
    simp [c9] at h0 h1
    obtain ⟨a, ea, xa, ha⟩ := DataW.trod_string Try.underlying9 h0
    obtain ⟨b, eb, xb, hb⟩ := DataW.trod_string Try.underlying9 h1
    simp at ea eb
    exact ⟨(a, b), by rw [ea, eb]; rfl, by rw [hx, xa, xb]; rfl⟩
set_option maxRecDepth 100000 in
theorem chg_of_cells {fuel : Nat} {cs : List Value} {x : DataW H × List MemPlace} (h : DataW.trod enc Try.prog w base spare held fuel 23 cs = some x) : ∃ s : Chg, cs = encC s ∧ ChgD s x.1 := by
  obtain ⟨y0, y1, y2, n, hx, hlen, h0, h1, h2⟩ := trod_struct3 Try.underlying23 h
  rw [show Try.prog.cellsOf 23 = 3 by kernel_rfl] at hlen
  match cs, hlen with
  | [u, v, t], _ =>
    have c9 : Try.prog.cellsOf 9 = 1 := by kernel_rfl
    have c3 : Try.prog.cellsOf 3 = 1 := by kernel_rfl
    simp [c9, c3] at h0 h1 h2
    obtain ⟨m, em, _, _⟩ := DataW.trod_int Try.underlying3 h0
    obtain ⟨a, ea, xa, ha⟩ := DataW.trod_string Try.underlying9 h1
    obtain ⟨b, eb, xb, hb⟩ := DataW.trod_string Try.underlying9 h2
    simp at em ea eb
    exact ⟨⟨m, a, b⟩, by rw [em, ea, eb]; rfl, y0.1, by rw [hx, xa, xb]⟩
end
set_option maxRecDepth 100000 in
theorem open_pairs {H : Type} {enc : TypeId × Value → H} {W : World} {base : Nat} {v : Value} {d : DataW H} {p : List MemPlace} (hv : Value.okWide Try.prog W .any base 30 v) (h : DataW.Trod enc Try.prog W 0 (fun _ => true) true 30 v d p) :
    ∃ l, RdP W W.heap.size v l ∧ SizedL PairD d l :=
  haveI : Inhabited (K × K) := ⟨(⟨#[]⟩, ⟨#[]⟩)⟩
  open_rows (by decide) cellsS_len Try.underlying30 (by kernel_rfl) _ (fun _ _ _ h => pair_of_cells h) hv h
set_option maxRecDepth 100000 in
theorem open_chgs {H : Type} {enc : TypeId × Value → H} {W : World} {base : Nat} {v : Value} {d : DataW H} {p : List MemPlace} (hv : Value.okWide Try.prog W .any base 24 v) (h : DataW.Trod enc Try.prog W 0 (fun _ => true) true 24 v d p) :
    ∃ l, RdC W W.heap.size v l ∧ SizedL ChgD d l :=
  haveI : Inhabited Chg := ⟨⟨0, ⟨#[]⟩, ⟨#[]⟩⟩⟩
  open_rows (by decide) encC_len Try.underlying24 (by kernel_rfl) _ (fun _ _ _ h => chg_of_cells h) hv h
set_option maxRecDepth 100000 in
theorem SizedL.reachP {H α : Type} {Ok : α → DataW H → Prop} {ts : List TypeId} {ds : List (DataW H)} (h : (DataW.weightsEach Try.prog ts ds).all (· ≤ reachBytes) = true) {j : Nat} {d : DataW H} {l : List α} (hs : SizedL Ok d l) (ht : ts[j]? = some 30) (hd : ds[j]? = some d) : l.length ≤ 4398046510976 := by
  rcases hs with ⟨_, rfl⟩ | ⟨el, sp, rfl, he, _⟩
  · simp
  · have := sized_slice h ht hd Try.underlying30
    rw [show Try.prog.bytesOf 57 = 32 by kernel_rfl, show reachBytes = 140737488351232 from rfl] at this
    omega
set_option maxRecDepth 100000 in
theorem SizedL.reachC {H α : Type} {Ok : α → DataW H → Prop} {ts : List TypeId} {ds : List (DataW H)} (h : (DataW.weightsEach Try.prog ts ds).all (· ≤ reachBytes) = true) {j : Nat} {d : DataW H} {l : List α} (hs : SizedL Ok d l) (ht : ts[j]? = some 24) (hd : ds[j]? = some d) : l.length ≤ 3518437208780 := by
  rcases hs with ⟨_, rfl⟩ | ⟨el, sp, rfl, he, _⟩
  · simp
  · have := sized_slice h ht hd Try.underlying24
    rw [show Try.prog.bytesOf 23 = 40 by kernel_rfl, show reachBytes = 140737488351232 from rfl] at this
    omega
theorem weights_el {H : Type} {P : Program} {T e : TypeId} (hu : P.underlying T = some (.slice e)) {el sp : List (DataW H)} {i : Nat} {d' : DataW H} (hi : el[i]? = some d') {n : Nat} (hn : n ∈ d'.weights P e) : n ∈ (DataW.slice el sp).weights P T := by
  have key : ∀ (el : List (DataW H)) (i : Nat), el[i]? = some d' → n ∈ DataW.weightsAll P e el := by
    intro el
    induction el with
    | nil => intro i h; simp at h
    | cons x r ih =>
      intro i h
      cases i with
      | zero => simp at h; subst h; simp [DataW.weightsAll, hn]
      | succ i => simp at h; simp [DataW.weightsAll, ih i h]
  simp only [DataW.weights, hu, List.mem_cons, List.mem_append]
  exact .inr (.inl (key el i hi))
set_option maxRecDepth 100000 in
theorem SizedL.textsP {H : Type} {ts : List TypeId} {ds : List (DataW H)} (h : (DataW.weightsEach Try.prog ts ds).all (· ≤ reachBytes) = true) {j : Nat} {d : DataW H} {l : List (K × K)} (hs : SizedL PairD d l) (ht : ts[j]? = some 30) (hd : ds[j]? = some d) : ∀ s ∈ l, s.1.size ≤ 140737488351232 ∧ s.2.size ≤ 140737488351232 := by
  rcases hs with ⟨_, rfl⟩ | ⟨el, sp, rfl, he, hall⟩
  · simp
  · intro s hs
    obtain ⟨i, hi, rfl⟩ := List.getElem_of_mem hs
    obtain ⟨d', h1, h2⟩ := hall i hi
    have hm : ∀ n, n ∈ d'.weights Try.prog 57 → n ≤ reachBytes := fun n hn => by
      have := List.all_eq_true.1 h _ (DataW.weights_mem_each ht hd n (weights_el Try.underlying30 h1 hn))
      simpa using this
    unfold PairD at h2
    subst h2
    have a := hm l[i].1.data.toList.length (by simp [DataW.weights, DataW.weightsEach, Try.underlying57])
    have b := hm l[i].2.data.toList.length (by simp [DataW.weights, DataW.weightsEach, Try.underlying57])
    rw [show reachBytes = 140737488351232 from rfl] at a b
    exact ⟨by simpa using a, by simpa using b⟩
set_option maxRecDepth 100000 in
theorem SizedL.textsC {H : Type} {ts : List TypeId} {ds : List (DataW H)} (h : (DataW.weightsEach Try.prog ts ds).all (· ≤ reachBytes) = true) {j : Nat} {d : DataW H} {l : List Chg} (hs : SizedL ChgD d l) (ht : ts[j]? = some 24) (hd : ds[j]? = some d) : ∀ s ∈ l, s.key.size ≤ 140737488351232 ∧ s.val.size ≤ 140737488351232 := by
  rcases hs with ⟨_, rfl⟩ | ⟨el, sp, rfl, he, hall⟩
  · simp
  · intro s hs
    obtain ⟨i, hi, rfl⟩ := List.getElem_of_mem hs
    obtain ⟨d', h1, h2⟩ := hall i hi
    have hm : ∀ n, n ∈ d'.weights Try.prog 23 → n ≤ reachBytes := fun n hn => by
      have := List.all_eq_true.1 h _ (DataW.weights_mem_each ht hd n (weights_el Try.underlying24 h1 hn))
      simpa using this
    obtain ⟨y, rfl⟩ := h2
    have a := hm l[i].key.data.toList.length (by simp [DataW.weights, DataW.weightsEach, Try.underlying23])
    have b := hm l[i].val.data.toList.length (by simp [DataW.weights, DataW.weightsEach, Try.underlying23])
    rw [show reachBytes = 140737488351232 from rfl] at a b
    exact ⟨by simpa using a, by simpa using b⟩
end Go.Proofs.Ytdkdolcocblhkaa
