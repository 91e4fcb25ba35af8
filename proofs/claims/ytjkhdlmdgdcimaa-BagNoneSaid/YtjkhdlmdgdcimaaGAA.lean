/- The program's bag at its blocks: the channel of free places, what lies at each place, and the order. -/
import Derived.Test.YtjkhdlmdgdcimaaRBd
import Derived.Test.YtjkhdlmdgdcimaaInts
import Derived.Test.YtjkhdlmdgdcimaaComm
import Derived.Test.YtjkhdlmdgdcimaaPlanT
namespace Go.Proofs.Ytjkhdlmdgdcimaa
open Go.RowKit Go.Conc

set_option maxRecDepth 100000 in
theorem info_msg : (Try.prog.info? 58).map (fun i => (i.zero, i.size, i.bytes)) = some (some (.agg #[.int .i64 0, .string ⟨#[]⟩, .bool false]), 3, 32) := by kernel_rfl
abbrev OwnM (w : World) (base : Nat) (v : Value) (l : List Ltr) : Prop := Own encL 3 58 w base v l
/-- the free places and those that are taken, each once, all of them -/
structure Pl (fr ord : List Nat) (n : Nat) : Prop where
  once : (fr ++ ord).Nodup
  low : ∀ x ∈ fr ++ ord, x < n
  all : fr.length + ord.length = n
structure Bi where
  ch : Nat
  gp : Nat
  O : Option Addr
  c : Nat
  s : Nat
  r : Nat
  fr : List Nat
  ord : List Nat
  ms : List Ltr
def intsN (l : List Nat) : List Int := l.map fun (k : Nat) => (k : Int)
def chanN (l : List Nat) : Array Value := (l.map fun (k : Nat) => Value.int .i64 (k : Int)).toArray
theorem intsN_len (l : List Nat) : (intsN l).length = l.length := by simp [intsN]
theorem chanN_size (l : List Nat) : (chanN l).size = l.length := by simp [chanN]
/-- the messages at places, in their order -/
def lie (ms : List Ltr) (ord : List Nat) : List Ltr := ord.map fun p => ms[p]?.getD Bg.none_
theorem lie_len (ms : List Ltr) (ord : List Nat) : (lie ms ord).length = ord.length := by simp [lie]
theorem lie_set (ms : List Ltr) (ord : List Nat) (p : Nat) (x : Ltr) (h : p ∉ ord) : lie (ms.set p x) ord = lie ms ord := by
  unfold lie
  apply List.map_congr_left
  intro i hi
  have hne : p ≠ i := fun e => h (e ▸ hi)
  rw [List.getElem?_set_ne hne]
theorem lie_snoc (ms : List Ltr) (ord : List Nat) (p : Nat) (x : Ltr) (hp : p < ms.length) (h : p ∉ ord) : lie (ms.set p x) (ord ++ [p]) = lie ms ord ++ [x] := by
  have := lie_set ms ord p x h
  unfold lie at this ⊢
  rw [List.map_append, this]
  simp [hp]
theorem lie_erase (ms : List Ltr) (ord : List Nat) (k : Nat) : lie ms (ord.eraseIdx k) = (lie ms ord).eraseIdx k := by
  unfold lie
  rw [List.eraseIdx_eq_take_drop_succ, List.eraseIdx_eq_take_drop_succ, List.map_append, List.map_take, List.map_drop]
theorem not_mem_erase {ord : List Nat} (h : ord.Nodup) {k : Nat} (hk : k < ord.length) : ord[k] ∉ ord.eraseIdx k := by
  intro hm
  obtain ⟨j, hj, hne, he⟩ := List.mem_eraseIdx_iff_getElem.1 hm
  exact hne ((List.getElem_inj h).1 he)
theorem lie_turn {ms : List Ltr} {ord : List Nat} (h : ord.Nodup) {k : Nat} (hk : k < ord.length) (x : Ltr) (hp : ord[k] < ms.length) : lie (ms.set ord[k] x) ord = (lie ms ord).set k x := by
  apply List.ext_getElem?
  intro j
  by_cases hj : j < ord.length
  · by_cases he : j = k
    · subst he
      simp [lie, hj, hp]
    · have hne : ord[k] ≠ ord[j] := fun e => he ((List.getElem_inj h).1 e).symm
      rw [List.getElem?_set_ne (by omega)]
      simp [lie, hj, List.getElem?_set_ne hne]
  · rw [List.getElem?_eq_none (by simp [lie]; omega), List.getElem?_eq_none (by simp [lie]; omega)]
theorem Pl.take {fr ord : List Nat} {n : Nat} (h : Pl fr ord n) {k : Nat} (hk : k < ord.length) : Pl (fr ++ [ord[k]]) (ord.eraseIdx k) n := by
  have hp : (fr ++ [ord[k]] ++ ord.eraseIdx k).Perm (fr ++ ord) := by
    rw [List.append_assoc]
    refine List.Perm.append_left fr ?_
    have h1 : ord = ord.take k ++ ord[k] :: ord.drop (k + 1) := by rw [← List.drop_eq_getElem_cons hk, List.take_append_drop]
    have h2 : (ord[k] :: (ord.take k ++ ord.drop (k + 1))).Perm ord := by
      conv => rhs; rw [h1]
      exact List.perm_middle.symm
    rw [List.eraseIdx_eq_take_drop_succ]
    exact h2
  refine ⟨hp.nodup_iff.2 h.once, fun x hx => h.low x (hp.mem_iff.1 hx), ?_⟩
  have := h.all
  rw [List.length_append, List.length_eraseIdx_of_lt hk]
  simp
  omega
theorem Pl.lay {p : Nat} {fr ord : List Nat} {n : Nat} (h : Pl (p :: fr) ord n) : Pl fr (ord ++ [p]) n := by
  have hp : (fr ++ (ord ++ [p])).Perm (p :: fr ++ ord) := by
    rw [← List.append_assoc]
    exact List.perm_append_singleton p (fr ++ ord)
  refine ⟨hp.nodup_iff.2 h.once, fun x hx => h.low x (hp.mem_iff.1 hx), ?_⟩
  have := h.all
  simp at this ⊢
  omega
theorem Pl.new (n : Nat) : Pl (List.range n) [] n := ⟨by simpa using List.nodup_range, by simp, by simp⟩
theorem Pl.nodup {fr ord : List Nat} {n : Nat} (h : Pl fr ord n) : ord.Nodup := (List.nodup_append.1 h.once).2.1
theorem Pl.out {p : Nat} {fr ord : List Nat} {n : Nat} (h : Pl (p :: fr) ord n) : p ∉ ord := fun hm => by
  have := (List.nodup_append.1 h.once).2.2 p (by simp) p hm
  exact this rfl
theorem Pl.at {fr ord : List Nat} {n : Nat} (h : Pl fr ord n) {k : Nat} (hk : k < ord.length) : ord[k] < n := h.low _ (List.mem_append_right _ (List.getElem_mem hk))
theorem Pl.head {p : Nat} {fr ord : List Nat} {n : Nat} (h : Pl (p :: fr) ord n) : p < n := h.low _ (by simp)

structure BagIs (w : World) (base q : Nat) (I : Bi) (b : Bg) : Prop where
  whole : Whole w q 55 [.chan (some I.ch), .slice (some ⟨I.gp, 0, none⟩) b.room b.room, .slice I.O I.ord.length I.c]
  chan : w.heap[I.ch]? = some (.chan b.room (chanN I.fr) false I.s I.r false)
  msgs : OwnM w base (.slice (some ⟨I.gp, 0, none⟩) b.room b.room) I.ms
  ord : OwnI w base (.slice I.O I.ord.length I.c) (intsN I.ord)
  ok : b.Ok
  qlow : base ≤ q
  clow : base ≤ I.ch
  size : base ≤ w.heap.size
  mlen : I.ms.length = b.room
  all : Pl I.fr I.ord b.room
  list : b.l = lie I.ms I.ord
def BagG (q : Nat) (I : Bi) (i : Nat) : Prop := i = q ∨ i = I.ch ∨ i = I.gp ∨ Value.ownBlock (.slice I.O I.ord.length I.c) = some i
/-- the bag at block q; its blocks are those of G -/
def BagAt (w : World) (base q : Nat) (G : Nat → Prop) (b : Bg) : Prop := ∃ I, BagIs w base q I b ∧ ∀ i, G i ↔ BagG q I i
section
variable {w w' : World} {base q : Nat} {I : Bi} {b : Bg}
theorem chan_lt {w : World} {i : Nat} {o : Obj} (h : w.heap[i]? = some o) : i < w.heap.size := (Array.getElem?_eq_some_iff.1 h).1
theorem BagIs.mv {D : Nat → Prop} (h : BagIs w base q I b) (hm : Mv D w w') (hn : ∀ i, BagG q I i → ¬ D i) : BagIs w' base q I b where
  whole := hm.whole h.whole (hn q (.inl rfl))
  chan := (hm.block I.ch (chan_lt h.chan) (hn _ (.inr (.inl rfl)))).trans h.chan
  msgs := h.msgs.mvG hm fun g hg => hn g (.inr (.inr (.inl (by simpa [Value.ownBlock] using hg.symm))))
  ord := h.ord.mvG hm fun g hg => hn g (.inr (.inr (.inr hg)))
  ok := h.ok
  qlow := h.qlow
  clow := h.clow
  size := Nat.le_trans h.size hm.size
  mlen := h.mlen
  all := h.all
  list := h.list
theorem BagIs.low (h : BagIs w base q I b) {i : Nat} (hi : BagG q I i) : base ≤ i ∧ i < w.heap.size := by
  rcases hi with rfl | rfl | rfl | hi
  · exact ⟨h.qlow, h.whole.size⟩
  · exact ⟨h.clow, chan_lt h.chan⟩
  · exact h.msgs.low rfl
  · exact h.ord.low hi
theorem BagIs.len (h : BagIs w base q I b) : b.l.length = I.ord.length := by rw [h.list, lie_len]
theorem BagIs.row (h : BagIs w base q I b) : ∃ cur, Whole w I.gp 58 cur ∧ cur.length = b.room * 3 := by
  rcases h.msgs.2 with ⟨h2, _⟩ | ⟨g, cap, cur, hv, hb, hh, h1, h2, h3, h4⟩
  · cases h2
  · injection hv with e1 e2 e3
    injection e1 with e1
    injection e1 with e1
    subst e1 e3
    exact ⟨cur.toList, by unfold Whole; simpa using hh, by simpa using h3⟩
theorem BagIs.qc (h : BagIs w base q I b) : q ≠ I.ch := fun e => by
  have h1 := h.whole
  have h2 := h.chan
  unfold Whole at h1
  rw [← e, h1] at h2
  cases h2
set_option maxRecDepth 100000 in
theorem BagIs.qg (h : BagIs w base q I b) : q ≠ I.gp := by
  obtain ⟨cur, h1, _⟩ := h.row
  exact h.whole.apart h1 (by decide)
theorem BagIs.cg (h : BagIs w base q I b) : I.ch ≠ I.gp := fun e => by
  obtain ⟨cur, h1, _⟩ := h.row
  have h2 := h.chan
  unfold Whole at h1
  rw [e, h1] at h2
  cases h2
set_option maxRecDepth 100000 in
theorem BagIs.qo (h : BagIs w base q I b) {g : Nat} (hg : Value.ownBlock (.slice I.O I.ord.length I.c) = some g) : g ≠ q := fun e => h.ord.apart h.whole (by decide) (by rw [hg, e])
set_option maxRecDepth 100000 in
theorem BagIs.go (h : BagIs w base q I b) {g : Nat} (hg : Value.ownBlock (.slice I.O I.ord.length I.c) = some g) : g ≠ I.gp := fun e => by
  obtain ⟨cur, h1, _⟩ := h.row
  exact h.ord.apart h1 (by decide) (by rw [hg, e])
theorem BagIs.co (h : BagIs w base q I b) {g : Nat} (hg : Value.ownBlock (.slice I.O I.ord.length I.c) = some g) : g ≠ I.ch := fun e => by
  have h2 := h.chan
  rcases h.ord.2 with ⟨h1, _⟩ | ⟨g2, cap, cur, hv, hb, hh, r⟩
  · rw [h1] at hg; cases hg
  · rw [hv] at hg
    have : g2 = g := by simpa [Value.ownBlock] using hg
    rw [← e, ← this, hh] at h2
    cases h2
theorem BagIs.at (h : BagIs w base q I b) {k : Nat} (hk : k < I.ord.length) : ∃ hb : k < b.l.length, I.ms[I.ord[k]]'(by rw [h.mlen]; exact h.all.at hk) = b.l[k] := by
  have hb : k < b.l.length := by rw [h.len]; exact hk
  refine ⟨hb, ?_⟩
  have hp : I.ord[k] < I.ms.length := by rw [h.mlen]; exact h.all.at hk
  have : b.l[k]? = (lie I.ms I.ord)[k]? := by rw [h.list]
  rw [List.getElem?_eq_getElem hb] at this
  simp [lie, hk, hp] at this
  exact this.symm
/-- where the order says that the k-th lies, and what lies there -/
theorem BagIs.cells (h : BagIs w base q I b) {k : Nat} (hk : k < I.ord.length) : ∃ go, I.O = some ⟨go, 0, none⟩ ∧ I.ord.length ≤ I.c ∧ w.cell? ⟨go, k, none⟩ = some (.int .i64 ((I.ord[k] : Nat) : Int)) := by
  obtain ⟨A, c, e, hc, hi⟩ := RdI.at (Own.rd encI_len h.ord)
  injection e with e1 e2 e3
  have hk2 : k < (intsN I.ord).length := by rw [intsN_len]; exact hk
  obtain ⟨g, o, hA, hg, h1⟩ := hi k hk2
  have ho0 : o = 0 := by
    rcases h.ord.form with ⟨e, e0⟩ | ⟨g2, cap, e, _⟩
    · rw [e0] at hk2; simp at hk2
    · injection e with e _ _
      rw [e1, hA] at e
      injection e with e
      injection e
  subst ho0
  refine ⟨g, by rw [e1, hA], by omega, ?_⟩
  rw [Nat.zero_add] at h1
  rw [h1]
  simp [intsN]
theorem BagIs.letter (h : BagIs w base q I b) {p : Nat} (hp : p < I.ms.length) (j : Nat) (u : Value) (hu : (encL I.ms[p])[j]? = some u) : w.cell? ⟨I.gp, p * 3 + j, none⟩ = some u := by
  obtain ⟨A, c, e, hc, hi⟩ := Own.rd encL_len h.msgs
  injection e with e1 e2 e3
  obtain ⟨g, o, hA, hg, h1⟩ := hi p hp
  rw [← e1] at hA
  injection hA with hA
  injection hA with e4 e5 _
  have := h1 j u hu
  rw [← e4, ← e5, Nat.zero_add] at this
  exact this
end
section
variable {w w' : World} {base q : Nat} {G : Nat → Prop} {b : Bg}
theorem BagAt.low (h : BagAt w base q G b) : base ≤ w.heap.size ∧ ∀ i, G i → base ≤ i ∧ i < w.heap.size := by
  obtain ⟨I, h, hG⟩ := h
  exact ⟨h.size, fun i hi => h.low ((hG i).1 hi)⟩
theorem BagAt.mv {D : Nat → Prop} (h : BagAt w base q G b) (hm : Mv D w w') (hn : ∀ i, G i → ¬ D i) : BagAt w' base q G b := by
  obtain ⟨I, h, hG⟩ := h
  exact ⟨I, h.mv hm (fun i hi => hn i ((hG i).2 hi)), hG⟩
theorem BagAt.ok (h : BagAt w base q G b) : b.Ok := by
  obtain ⟨I, h, hG⟩ := h
  exact h.ok
end
/-- blocks that stood in w and were none of G -/
def Else (w : World) (G : Nat → Prop) : Nat → Prop := fun i => ¬ G i ∧ i < w.heap.size
end Go.Proofs.Ytjkhdlmdgdcimaa
