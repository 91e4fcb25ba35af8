/- Arguments of the past laws as data: pairs, changes, lists of changes, acts, spans; and what the second form's bound says of them. -/
import Derived.Test.YtpfhkijnaiopoaaOpenN
import Derived.Test.YtpfhkijnaiopoaaPActs
import Derived.Test.YtpfhkijnaiopoaaPCl
namespace Go.Proofs.Ytpfhkijnaiopoaa
open Go.ChangeShapes Go.WideShapes Go.ChangeAt Go.RowKit Go.Joins Go.Deep

/-- the data of a pair, of a change -/
def PairD {H : Type} (s : K × K) (d : DataW H) : Prop := d = .agg [.lit (.string s.1.data.toList), .lit (.string s.2.data.toList)]
def ChgD {H : Type} (c : Chg) (d : DataW H) : Prop := ∃ y, d = .agg [y, .lit (.string c.key.data.toList), .lit (.string c.val.data.toList)]
def PClOk {H : Type} (W : World) (a : PCl) (d : DataW H) : Prop := RdC W W.heap.size a.v a.l ∧ SizedL ChgD d a.l
def PActOk {H : Type} (W : World) (a : PAct) (d : DataW H) : Prop := RdC W W.heap.size a.v a.l ∧ I64 a.ver ∧ I64 a.most ∧ ∃ y0 y1 y2 y5, d = .agg [y0, y1, y2, .lit (.string a.key.data.toList), .agg [.lit (.string a.span.1.data.toList), .lit (.string a.span.2.data.toList)], y5] ∧ SizedL ChgD y5 a.l
section
variable {H : Type} {enc : TypeId × Value → H} {w : World} {base : Nat} {spare : Nat → Bool} {held : Bool}
set_option maxRecDepth 100000 in
theorem pair_of_cells {fuel : Nat} {cs : List Value} {x : DataW H × List MemPlace} (h : DataW.trod enc Try.prog w base spare held fuel 56 cs = some x) : ∃ s : K × K, cs = cellsS s ∧ PairD s x.1 := by
  obtain ⟨y0, y1, n, hx, hlen, h0, h1⟩ := trod_struct2 Try.underlying56 h
  rw [show Try.prog.cellsOf 56 = 2 by kernel_rfl] at hlen
  match cs, hlen with
  | [u, v], _ =>
    have c9 : Try.prog.cellsOf 9 = 1 := by kernel_rfl
    simp [c9] at h0 h1
    obtain ⟨a, ea, xa, ha⟩ := DataW.trod_string Try.underlying9 h0
    obtain ⟨b, eb, xb, hb⟩ := DataW.trod_string Try.underlying9 h1
    simp at ea eb
    exact ⟨(a, b), by rw [ea, eb]; rfl, by rw [hx, xa, xb]; rfl⟩
set_option maxRecDepth 100000 in
theorem chg_of_cells {fuel : Nat} {cs : List Value} {x : DataW H × List MemPlace} (h : DataW.trod enc Try.prog w base spare held fuel 67 cs = some x) : ∃ s : Chg, cs = encC s ∧ ChgD s x.1 := by
  obtain ⟨y0, y1, y2, n, hx, hlen, h0, h1, h2⟩ := trod_struct3 Try.underlying67 h
  rw [show Try.prog.cellsOf 67 = 3 by kernel_rfl] at hlen
  match cs, hlen with
  | [u, v, t], _ =>
    have c9 : Try.prog.cellsOf 9 = 1 := by kernel_rfl
    have c3 : Try.prog.cellsOf 3 = 1 := by kernel_rfl
    simp [c9, c3] at h0 h1 h2
    obtain ⟨m, em, _, _⟩ := DataW.trod_int Try.underlying3 h0
    obtain ⟨a, ea, xa, ha⟩ := DataW.trod_string Try.underlying9 h1
    obtain ⟨b, eb, xb, hb⟩ := DataW.trod_string Try.underlying9 h2
    simp at em ea eb
    exact ⟨⟨m, a, b⟩, by rw [em, ea, eb]; rfl, y0.1, by rw [hx, xa, xb]⟩
end
section
variable {H : Type} {enc : TypeId × Value → H} {W : World}
set_option maxRecDepth 100000 in
theorem chgs_of_slice {v : Value} {d : DataW H} {p : List MemPlace} (hv : ∃ a len cap, v = .slice a len cap) (h : DataW.Trod enc Try.prog W 0 (fun _ => true) true 34 v d p) : ∃ l, RdC W W.heap.size v l ∧ SizedL ChgD d l :=
  haveI : Inhabited Chg := ⟨⟨0, ⟨#[]⟩, ⟨#[]⟩⟩⟩
  open_rowsF (by decide) encC_len Try.underlying34 (by kernel_rfl) _ (fun _ _ _ h => chg_of_cells h) hv h
set_option maxRecDepth 100000 in
theorem cl_of_cells {fuel : Nat} {cs : List Value} {x : DataW H × List MemPlace} (h : DataW.trod enc Try.prog W 0 (fun _ => true) true fuel 34 cs = some x) : ∃ a : PCl, cs = encPCl a ∧ PClOk W a x.1 := by
  have hs : ∃ v, cs = [v] ∧ ∃ a len cap, v = Value.slice a len cap := by
    rcases open_slice Try.underlying34 h with ⟨hcs, _⟩ | ⟨a, len, cap, _, _, _, _, hcs, _⟩
    · exact ⟨_, hcs, none, 0, 0, rfl⟩
    · exact ⟨_, hcs, some a, len, cap, rfl⟩
  obtain ⟨v, rfl, hv⟩ := hs
  obtain ⟨_, ht⟩ := slice_of Try.underlying34 h
  obtain ⟨l, hr, hz⟩ := chgs_of_slice hv ht
  exact ⟨⟨v, l⟩, rfl, hr, hz⟩
set_option maxRecDepth 100000 in
theorem pact_of_cells {fuel : Nat} {cs : List Value} {x : DataW H × List MemPlace} (h : DataW.trod enc Try.prog W 0 (fun _ => true) true fuel 36 cs = some x) : ∃ a : PAct, cs = encPA a ∧ PActOk W a x.1 := by
  obtain ⟨xs, n, _, hx, hl, hlen, hff⟩ := DataW.trod_struct Try.underlying36 h
  rw [show Try.prog.cellsOf 36 = 7 by kernel_rfl] at hl
  match cs, hl, xs, hlen, hff, hx with
  | [c0, c1, c2, c3, c4, c5, c6], _, [y0, y1, y2, y3, y4, y5], _, hff, hx =>
    have k3 : Try.prog.cellsOf 3 = 1 := by kernel_rfl
    have k9 : Try.prog.cellsOf 9 = 1 := by kernel_rfl
    have ks : Try.prog.cellsOf 33 = 2 := by kernel_rfl
    have kc : Try.prog.cellsOf 34 = 1 := by kernel_rfl
    have g0 := hff 0 _ rfl
    have g1 := hff 1 _ rfl
    have g2 := hff 2 _ rfl
    have g3 := hff 3 _ rfl
    have g4 := hff 4 _ rfl
    have g5 := hff 5 _ rfl
    simp [k3, k9, ks, kc] at g0 g1 g2 g3 g4 g5
    obtain ⟨i0, e0, _, w0⟩ := DataW.trod_int Try.underlying3 g0
    obtain ⟨i1, e1, _, w1⟩ := DataW.trod_int Try.underlying3 g1
    obtain ⟨i2, e2, _, w2⟩ := DataW.trod_int Try.underlying3 g2
    obtain ⟨a3, e3, x3, _⟩ := DataW.trod_string Try.underlying9 g3
    obtain ⟨z0, z1, n4, hx4, hlen4, h40, h41⟩ := trod_struct2 Try.underlying33 g4
    simp [k9] at h40 h41
    obtain ⟨sa, ea, xa, _⟩ := DataW.trod_string Try.underlying9 h40
    obtain ⟨sb, eb, xb, _⟩ := DataW.trod_string Try.underlying9 h41
    obtain ⟨hv, ht⟩ := slice_of Try.underlying34 g5
    obtain ⟨l, hr, hz⟩ := chgs_of_slice hv ht
    simp at e0 e1 e2 e3 ea eb
    refine ⟨⟨i0, i1, i2, a3, (sa, sb), c6, l⟩, ?_, hr, int_of_wf w1, int_of_wf w2, y0.1, y1.1, y2.1, y5.1, ?_, hz⟩
    · rw [e0, e1, e2, e3, ea, eb]; rfl
    · rw [hx]
      simp [x3, hx4, xa, xb]
end
section
variable {H : Type} {enc : TypeId × Value → H} {W : World} {base : Nat} {v : Value} {d : DataW H} {p : List MemPlace}
set_option maxRecDepth 100000 in
theorem open_pairs (hv : Value.okWide Try.prog W .any base 22 v) (h : DataW.Trod enc Try.prog W 0 (fun _ => true) true 22 v d p) : ∃ l, RdP W W.heap.size v l ∧ SizedL PairD d l :=
  haveI : Inhabited (K × K) := ⟨(⟨#[]⟩, ⟨#[]⟩)⟩
  open_rowsF (by decide) cellsS_len Try.underlying22 (by kernel_rfl) _ (fun _ _ _ h => pair_of_cells h) (by obtain ⟨a, len, cap, rfl⟩ := okWide_slice Try.underlying22 hv; exact ⟨a, len, cap, rfl⟩) h
set_option maxRecDepth 100000 in
theorem open_chgs (hv : Value.okWide Try.prog W .any base 34 v) (h : DataW.Trod enc Try.prog W 0 (fun _ => true) true 34 v d p) : ∃ l, RdC W W.heap.size v l ∧ SizedL ChgD d l :=
  chgs_of_slice (by obtain ⟨a, len, cap, rfl⟩ := okWide_slice Try.underlying34 hv; exact ⟨a, len, cap, rfl⟩) h
set_option maxRecDepth 100000 in
theorem open_lists (hv : Value.okWide Try.prog W .any base 51 v) (h : DataW.Trod enc Try.prog W 0 (fun _ => true) true 51 v d p) : ∃ l, Rd encPCl 1 W W.heap.size v l ∧ SizedL (PClOk W) d l :=
  haveI : Inhabited PCl := ⟨⟨.bool false, []⟩⟩
  open_rowsF (e2 := encPCl) (k := 1) (by decide) (fun _ => rfl) Try.underlying51 (by kernel_rfl) (PClOk W) (fun _ _ _ h => cl_of_cells h) (by obtain ⟨a, len, cap, rfl⟩ := okWide_slice Try.underlying51 hv; exact ⟨a, len, cap, rfl⟩) h
set_option maxRecDepth 100000 in
theorem open_pacts (hv : Value.okWide Try.prog W .any base 23 v) (h : DataW.Trod enc Try.prog W 0 (fun _ => true) true 23 v d p) : ∃ l, Rd encPA 7 W W.heap.size v l ∧ SizedL (PActOk W) d l :=
  haveI : Inhabited PAct := ⟨⟨0, 0, 0, ⟨#[]⟩, (⟨#[]⟩, ⟨#[]⟩), .bool false, []⟩⟩
  open_rowsF (e2 := encPA) (k := 7) (by decide) (fun _ => rfl) Try.underlying23 (by kernel_rfl) (PActOk W) (fun _ _ _ h => pact_of_cells h) (by obtain ⟨a, len, cap, rfl⟩ := okWide_slice Try.underlying23 hv; exact ⟨a, len, cap, rfl⟩) h
set_option maxRecDepth 100000 in
theorem open_span (hv : Value.okWide Try.prog W .any base 33 v) (h : DataW.Trod enc Try.prog W 0 (fun _ => true) true 33 v d p) (hw : ∀ n ∈ d.weights Try.prog 33, n ≤ reachBytes) : ∃ s : K × K, v = spv s ∧ smallS s.1 ∧ smallS s.2 := by
  obtain ⟨a0, b0, y0, z0, m0, rfl, rfl, rfl, hy, hz⟩ := open_agg2 Try.underlying33 (by kernel_rfl) (by kernel_rfl) hv h
  obtain ⟨a, ea, xa, _⟩ := DataW.trod_string Try.underlying9 hy
  obtain ⟨b, eb, xb, _⟩ := DataW.trod_string Try.underlying9 hz
  simp at ea eb
  subst ea eb
  rw [xa, xb] at hw
  have h1 := hw a.data.toList.length (by simp [DataW.weights, DataW.weightsEach, Try.underlying33])
  have h2 := hw b.data.toList.length (by simp [DataW.weights, DataW.weightsEach, Try.underlying33])
  rw [show reachBytes = 140737488351232 from rfl] at h1 h2
  refine ⟨(a, b), rfl, ?_, ?_⟩
  · have : a.size ≤ 140737488351232 := by simpa using h1
    show a.size < _
    omega
  · have : b.size ≤ 140737488351232 := by simpa using h2
    show b.size < _
    omega
set_option maxRecDepth 100000 in
theorem SizedL.smallP {l : List (K × K)} (hs : SizedL PairD d l) (hw : ∀ n ∈ d.weights Try.prog 22, n ≤ reachBytes) : ∀ s ∈ l, smallS s.1 ∧ smallS s.2 := by
  rcases hs with ⟨_, rfl⟩ | ⟨el, sp, rfl, he, hall⟩
  · simp
  · intro s hs
    obtain ⟨i, hi, rfl⟩ := List.getElem_of_mem hs
    obtain ⟨d', h1, h2⟩ := hall i hi
    have hm : ∀ n, n ∈ d'.weights Try.prog 56 → n ≤ reachBytes := fun n hn => hw n (weights_el Try.underlying22 h1 hn)
    unfold PairD at h2
    subst h2
    have a := hm l[i].1.data.toList.length (by simp [DataW.weights, DataW.weightsEach, Try.underlying56])
    have b := hm l[i].2.data.toList.length (by simp [DataW.weights, DataW.weightsEach, Try.underlying56])
    rw [show reachBytes = 140737488351232 from rfl] at a b
    have a' : l[i].1.size ≤ 140737488351232 := by simpa using a
    have b' : l[i].2.size ≤ 140737488351232 := by simpa using b
    exact ⟨by unfold smallS; omega, by unfold smallS; omega⟩
set_option maxRecDepth 100000 in
theorem SizedL.smallC {l : List Chg} (hs : SizedL ChgD d l) (hw : ∀ n ∈ d.weights Try.prog 34, n ≤ reachBytes) : ∀ s ∈ l, Proofs.Ytpfhkijnaiopoaa.smallC s := by
  rcases hs with ⟨_, rfl⟩ | ⟨el, sp, rfl, he, hall⟩
  · simp
  · intro s hs
    obtain ⟨i, hi, rfl⟩ := List.getElem_of_mem hs
    obtain ⟨d', h1, h2⟩ := hall i hi
    have hm : ∀ n, n ∈ d'.weights Try.prog 67 → n ≤ reachBytes := fun n hn => hw n (weights_el Try.underlying34 h1 hn)
    obtain ⟨y, rfl⟩ := h2
    have a := hm l[i].key.data.toList.length (by simp [DataW.weights, DataW.weightsEach, Try.underlying67])
    have b := hm l[i].val.data.toList.length (by simp [DataW.weights, DataW.weightsEach, Try.underlying67])
    rw [show reachBytes = 140737488351232 from rfl] at a b
    have a' : l[i].key.size ≤ 140737488351232 := by simpa using a
    have b' : l[i].val.size ≤ 140737488351232 := by simpa using b
    exact ⟨by omega, by omega⟩
set_option maxRecDepth 100000 in
theorem SizedL.lists {l : List PCl} (hs : SizedL (PClOk W) d l) (hw : ∀ n ∈ d.weights Try.prog 51, n ≤ reachBytes) : ∀ x ∈ l, RdC W W.heap.size x.v x.l ∧ ∀ y ∈ x.l, Proofs.Ytpfhkijnaiopoaa.smallC y := by
  rcases hs with ⟨_, rfl⟩ | ⟨el, sp, rfl, he, hall⟩
  · simp
  · intro s hs
    obtain ⟨i, hi, rfl⟩ := List.getElem_of_mem hs
    obtain ⟨d', h1, h2, h3⟩ := hall i hi
    exact ⟨h2, h3.smallC fun n hn => hw n (weights_el Try.underlying51 h1 hn)⟩
set_option maxRecDepth 100000 in
theorem SizedL.pacts {l : List PAct} (hs : SizedL (PActOk W) d l) (hw : ∀ n ∈ d.weights Try.prog 23, n ≤ reachBytes) : ∀ a ∈ l, I64 a.ver ∧ I64 a.most ∧ smallS a.key ∧ smallS a.span.1 ∧ smallS a.span.2 ∧ RdC W W.heap.size a.v a.l ∧ ∀ c ∈ a.l, Proofs.Ytpfhkijnaiopoaa.smallC c := by
  rcases hs with ⟨_, rfl⟩ | ⟨el, sp, rfl, he, hall⟩
  · simp
  · intro s hs
    obtain ⟨i, hi, rfl⟩ := List.getElem_of_mem hs
    obtain ⟨d', h1, h2, h3, h4, y0, y1, y2, y5, rfl, h5⟩ := hall i hi
    have hm := fun n hn => hw n (weights_el Try.underlying23 h1 hn)
    generalize l[i] = a at h2 h3 h4 h5 hm
    have a1 := hm a.key.data.toList.length (by simp [DataW.weights, DataW.weightsEach, Try.underlying36])
    have a2 := hm a.span.1.data.toList.length (by simp [DataW.weights, DataW.weightsEach, Try.underlying36, Try.underlying33])
    have a3 := hm a.span.2.data.toList.length (by simp [DataW.weights, DataW.weightsEach, Try.underlying36, Try.underlying33])
    rw [show reachBytes = 140737488351232 from rfl] at a1 a2 a3
    have b1 : a.key.size ≤ 140737488351232 := by simpa using a1
    have b2 : a.span.1.size ≤ 140737488351232 := by simpa using a2
    have b3 : a.span.2.size ≤ 140737488351232 := by simpa using a3
    refine ⟨h3, h4, by unfold smallS; omega, by unfold smallS; omega, by unfold smallS; omega, h2, h5.smallC fun n hn => hm n ?_⟩
    simp only [DataW.weights, Try.underlying36, List.map_cons, List.map_nil, DataW.weightsEach, List.mem_append]
    simp only [hn, true_or, or_true]
end
theorem bulk_one {H : Type} (d : DataW H) : 1 ≤ Rows.uptoBulk d := by
  cases d with
  | lit l => cases l <;> simp [Rows.uptoBulk]
  | nil => simp [Rows.uptoBulk]
  | ptr d => simp [Rows.uptoBulk]
  | slice elems spare => simp [Rows.uptoBulk]
  | agg parts => simp [Rows.uptoBulk]
  | iface t d => simp [Rows.uptoBulk]
  | map entries => simp [Rows.uptoBulk]
  | held h => simp [Rows.uptoBulk]
theorem bulk_length {H : Type} (l : List (DataW H)) : l.length ≤ Rows.uptoBulkAll l := by
  induction l with
  | nil => simp [Rows.uptoBulkAll]
  | cons x r ih => have := bulk_one x; simp only [Rows.uptoBulkAll, List.length_cons]; omega
theorem SizedL.bulk {H α : Type} {Ok : α → DataW H → Prop} {d : DataW H} {l : List α} (h : SizedL Ok d l) : l.length ≤ Rows.uptoBulk d := by
  rcases h with ⟨_, rfl⟩ | ⟨el, sp, rfl, he, _⟩
  · simp
  · have := bulk_length el
    simp only [Rows.uptoBulk]
    omega
/-- what lies in the elements counts, too -/
theorem SizedL.bulkOf {H α : Type} {Ok : α → DataW H → Prop} (f : α → Nat) (hf : ∀ a d, Ok a d → f a ≤ Rows.uptoBulk d) {d : DataW H} {l : List α} (h : SizedL Ok d l) : (l.map f).sum ≤ Rows.uptoBulk d := by
  rcases h with ⟨_, rfl⟩ | ⟨el, sp, rfl, he, hall⟩
  · simp
  · have key : ∀ (el : List (DataW H)) (l : List α), el.length = l.length → (∀ i (_ : i < l.length), ∃ d', el[i]? = some d' ∧ Ok l[i] d') → (l.map f).sum ≤ Rows.uptoBulkAll el := by
      intro el
      induction el with
      | nil => intro l he _; cases l with
        | nil => simp
        | cons x r => simp at he
      | cons e el ih => intro l he hall; cases l with
        | nil => simp at he
        | cons x r =>
          have h0 := hall 0 (by simp)
          simp only [List.getElem?_cons_zero, Option.some.injEq, List.getElem_cons_zero] at h0
          obtain ⟨d', rfl, hok⟩ := h0
          have := hf x _ hok
          have := ih r (by simpa using he) fun i hi => by
            have := hall (i + 1) (by simpa using hi)
            simpa using this
          simp only [List.map_cons, List.sum_cons, Rows.uptoBulkAll]
          omega
    have := key el l he hall
    simp only [Rows.uptoBulk]
    omega
end Go.Proofs.Ytpfhkijnaiopoaa
