/- A map whose keys are ints, as pairs in whatever order: looked up, stored into, deleted from, gone through. -/
import Derived.Maps.RangeWalk
import Derived.Maps.OwnSet
import Derived.Test.YtcigodaacdfagaaMv
namespace Go.Proofs.Ytcigodaacdfagaa
open Go.RowKit Go.MapKept
open Go.ChangeMaps (setBlock set_perm modify_eq_set filter_eq_eraseIdx heap_setBlock_same heap_setBlock_other)

def kvE (e : MapEntry) : Value × Value := (e.key, e.val)
def kvI (p : Int × Value) : Value × Value := (.int .i64 p.1, p.2)
/-- block b is a map that has just these, in whatever order -/
def MapI (w : World) (b : Nat) (L : List (Int × Value)) : Prop :=
  ∃ es clock, w.heap[b]? = some (.map es clock) ∧ Stamped es clock ∧ (es.toList.map kvE).Perm (L.map kvI)
def offI (k : Int) (L : List (Int × Value)) : List (Int × Value) := L.filter fun p => decide (p.1 ≠ k)
/-- a range over it is under way: T is still to come -/
def RngI (w : World) (b r : Nat) (L T : List (Int × Value)) : Prop :=
  ∃ es clock since seen c0, w.heap[b]? = some (.map es clock) ∧ Stamped es clock ∧ (es.toList.map kvE).Perm (L.map kvI) ∧ w.heap[r]? = some (.mapIter (some b) since seen c0) ∧
    (∀ x ∈ es.toList, x.born < since) ∧ since ≤ c0 ∧ since ≤ clock ∧ ((leftOf es seen).toList.map kvE).Perm (T.map kvI)

theorem kvI_inj {p q : Int × Value} (h : kvI p = kvI q) : p = q := by
  obtain ⟨a, b⟩ := p
  obtain ⟨c, d⟩ := q
  simp only [kvI, Prod.mk.injEq, Value.int.injEq, true_and] at h
  rw [h.1, h.2]
theorem mem_kvI {L : List (Int × Value)} {k : Int} {v : Value} : (.int .i64 k, v) ∈ L.map kvI ↔ (k, v) ∈ L := by
  constructor
  · intro h
    obtain ⟨p, hp, e⟩ := List.mem_map.1 h
    rw [← kvI_inj (p := p) (q := (k, v)) e]
    exact hp
  · intro h
    exact List.mem_map.2 ⟨_, h, rfl⟩
section
variable {es : List MapEntry} {L : List (Int × Value)}
theorem kv_isKey (h : (es.map kvE).Perm (L.map kvI)) : ∀ x ∈ es, IsKey (.int .i64) x.key := by
  intro x hx
  obtain ⟨p, _, e⟩ := List.mem_map.1 (h.subset (List.mem_map.2 ⟨x, hx, rfl⟩))
  have : x.key = .int .i64 p.1 := (congrArg Prod.fst e).symm
  rw [this]
  rfl
theorem kv_mem (h : (es.map kvE).Perm (L.map kvI)) {x : MapEntry} (hx : x ∈ es) : ∃ p ∈ L, x.key = .int .i64 p.1 ∧ x.val = p.2 := by
  obtain ⟨p, hp, e⟩ := List.mem_map.1 (h.subset (List.mem_map.2 ⟨x, hx, rfl⟩))
  exact ⟨p, hp, (congrArg Prod.fst e).symm, (congrArg Prod.snd e).symm⟩
theorem kv_of (h : (es.map kvE).Perm (L.map kvI)) {k : Int} {v : Value} (hp : (k, v) ∈ L) : ∃ x ∈ es, x.key = .int .i64 k ∧ x.val = v := by
  obtain ⟨x, hx, e⟩ := List.mem_map.1 (h.symm.subset (mem_kvI.2 hp))
  exact ⟨x, hx, congrArg Prod.fst e, congrArg Prod.snd e⟩
open Classical in
theorem kv_off (h : (es.map kvE).Perm (L.map kvI)) (k : Int) : ((es.filter fun x => decide (x.key ≠ .int .i64 k)).map kvE).Perm ((offI k L).map kvI) := by
  have h1 := h.filter (fun q => decide (q.1 ≠ .int .i64 k))
  rw [List.filter_map, List.filter_map] at h1
  have e1 : ((fun q : Value × Value => decide (q.1 ≠ .int .i64 k)) ∘ kvI) = fun p => decide (p.1 ≠ k) := by
    funext p
    refine decide_eq_decide.2 ⟨fun h1 h2 => h1 ?_, fun h1 h2 => h1 ?_⟩
    · simp [kvI, h2]
    · simpa [kvI] using h2
  rw [e1] at h1
  exact h1
end
open Classical in
theorem key_erase {es : List MapEntry} {k : Value} (hd : es.Pairwise fun x y => x.key ≠ y.key) {j : Nat} {e0 : MapEntry} (h : es[j]? = some e0) (hk : e0.key = k) : es.filter (fun x => decide (x.key ≠ k)) = es.eraseIdx j := by
  have h1 := filter_eq_eraseIdx (fun x : MapEntry => decide (x.key = k)) es j e0 h (by simp [hk]) (hd.imp fun {a b} hne hh => by
    simp only [decide_eq_true_eq] at hh
    exact hne (hh.1.trans hh.2.symm))
  rw [← h1]
  congr 1
  funext x
  simp
section
variable {P : Program} {w w' : World} {b r : Nat} {L T : List (Int × Value)} {t kt e : TypeId}
theorem findI (hk : P.underlying kt = some (.int .i64)) (w : World) (k : Int) (es : List MapEntry) (h : ∀ x ∈ es, IsKey (.int .i64) x.key) :
    ((Instr.findKey kt (.int .i64 k) es).run P w = .ok none w ∧ ∀ x ∈ es, x.key ≠ .int .i64 k) ∨ ∃ j x, (Instr.findKey kt (.int .i64 k) es).run P w = .ok (some (j, x.val)) w ∧ es[j]? = some x ∧ x.key = .int .i64 k := by
  rcases findNow_spec (d := .int .i64) (k := .int .i64 k) rfl es 0 h with ⟨h1, h2⟩ | ⟨j, e0, h1, h2, h3⟩
  · exact .inl ⟨MapKept.run_findKey hk h1, h2⟩
  · exact .inr ⟨j, e0, by simpa using MapKept.run_findKey hk h1, h2, h3⟩
theorem MapI.size (h : MapI w b L) : b < w.heap.size := by
  obtain ⟨es, clock, hb, _⟩ := h
  exact (Array.getElem?_eq_some_iff.1 hb).1
theorem MapI.perm {L' : List (Int × Value)} (h : MapI w b L) (hp : L.Perm L') : MapI w b L' := by
  obtain ⟨es, clock, hb, hs, hl⟩ := h
  exact ⟨es, clock, hb, hs, hl.trans (hp.map _)⟩
theorem MapI.mv {D : Nat → Prop} (h : MapI w b L) (hm : Mv D w w') (hn : ¬ D b) : MapI w' b L := by
  have hlt := h.size
  obtain ⟨es, clock, hb, hs, hl⟩ := h
  exact ⟨es, clock, (hm.block b hlt hn).trans hb, hs, hl⟩
theorem MapI.apart {g : Nat} {T : TypeId} {cs : List Value} (h : MapI w b L) (hg : Whole w g T cs) : g ≠ b := by
  rintro rfl
  obtain ⟨es, clock, hb, _⟩ := h
  unfold Whole at hg
  rw [hg] at hb
  cases hb
theorem MapI.made (w : World) : MapI (w.alloc (.map #[] 0)) w.heap.size [] := ⟨#[], 0, (MapKept.heap_alloc w _).1, stamped_empty 0, by simp⟩
theorem MapI.nodup (h : MapI w b L) : (L.map (·.1)).Nodup := by
  obtain ⟨es, clock, hb, hs, hl⟩ := h
  have h3 := ((stamped_iff es clock).1 hs).2.2
  have h4 : (es.toList.map kvE).Pairwise (fun x y => x.1 ≠ y.1) := List.pairwise_map.2 h3
  have h5 := (hl.pairwise_iff (fun {_ _} hne => Ne.symm hne)).1 h4
  rw [List.Nodup, List.pairwise_map]
  exact (List.pairwise_map.1 h5).imp fun hne e1 => hne (by simp [kvI, e1])
theorem MapI.look (h : MapI w b L) (ht : P.underlying t = some (.map kt e)) (hk : P.underlying kt = some (.int .i64)) {k : Int} {v : Value} (hm : (k, v) ∈ L) (c : Bool) :
    (Instr.lookup t (.map (some b)) (.int .i64 k) c).run P w = .ok (if c then .tuple #[v, .bool true] else v) w := by
  obtain ⟨es, clock, hb, hs, hl⟩ := h
  obtain ⟨x, hx, hxk, hxv⟩ := kv_of hl hm
  rcases findI hk w k es.toList (kv_isKey hl) with ⟨_, h2⟩ | ⟨j, e0, h1, h2, h3⟩
  · exact absurd hxk (h2 x hx)
  · have := entry_eq_of_key ((stamped_iff es clock).1 hs).2.2 hx (List.mem_of_getElem? h2) (hxk.trans h3.symm)
    subst this
    simp [Instr.lookup, run_underlying ht, MapKept.run_getObj_map hb, MapKept.run_checkKey hk (show IsKey (.int .i64) (.int .i64 k) from rfl), h1, hxv]
theorem MapI.miss (h : MapI w b L) (ht : P.underlying t = some (.map kt e)) (hk : P.underlying kt = some (.int .i64)) {k : Int} {z : Value} (hm : ∀ p ∈ L, p.1 ≠ k) (hz : (zeroValue e).run P w = .ok z w) (c : Bool) :
    (Instr.lookup t (.map (some b)) (.int .i64 k) c).run P w = .ok (if c then .tuple #[z, .bool false] else z) w := by
  obtain ⟨es, clock, hb, hs, hl⟩ := h
  rcases findI hk w k es.toList (kv_isKey hl) with ⟨h1, _⟩ | ⟨j, e0, h1, h2, h3⟩
  · simp [Instr.lookup, run_underlying ht, MapKept.run_getObj_map hb, MapKept.run_checkKey hk (show IsKey (.int .i64) (.int .i64 k) from rfl), h1, hz]
  · obtain ⟨p, hp, e1, _⟩ := kv_mem hl (List.mem_of_getElem? h2)
    rw [h3] at e1
    injection e1 with _ e1
    exact absurd e1.symm (hm p hp)
theorem MapI.count (h : MapI w b L) (ht : P.underlying t = some (.map kt e)) (ty : TypeId) : (Builtin.len_ #[t] ty #[.map (some b)]).run P w = .ok (.int .i64 (L.length : Int)) w := by
  obtain ⟨es, clock, hb, hs, hl⟩ := h
  have e1 : es.size = L.length := by have := hl.length_eq; simpa using this
  simp [Builtin.len_, run_underlying ht, MapKept.run_getObj_map hb, goInt, Result.andThen, e1]
theorem mapTurned_mv {w w' : World} {b : Nat} {o o' : Obj} (hb : w.heap[b]? = some o) (hw : w' = setBlock w b o') : Mv (fun i => i = b) w w' ∧ w'.heap.size = w.heap.size ∧ w'.heap[b]? = some o' := by
  subst hw
  have hlt := (Array.getElem?_eq_some_iff.1 hb).1
  refine ⟨⟨rfl, rfl, rfl, by simp [setBlock], fun i _ hi => ?_⟩, by simp [setBlock], ?_⟩
  · simp only [setBlock]
    rw [Array.getElem?_setIfInBounds_ne (fun e => hi e.symm)]
  · simp only [setBlock]
    rw [Array.getElem?_setIfInBounds_self_of_lt hlt]
open Classical in
theorem MapI.store (h : MapI w b L) (ht : P.underlying t = some (.map kt e)) (hk : P.underlying kt = some (.int .i64)) (k : Int) (v : Value) :
    ∃ w', (Instr.mapUpdate t (.map (some b)) (.int .i64 k) v).run P w = .ok () w' ∧ MapI w' b ((k, v) :: offI k L) ∧ Mv (fun i => i = b) w w' ∧ w'.heap.size = w.heap.size := by
  obtain ⟨es, clock, hb, hs, hl⟩ := h
  have ik : IsKey (.int .i64) (.int .i64 k) := rfl
  have hoff := kv_off hl k
  rcases findI hk w k es.toList (kv_isKey hl) with ⟨h1, h2⟩ | ⟨j, e0, h1, h2, h3⟩
  · obtain ⟨hm, hz, hn⟩ := mapTurned_mv hb (w' := setBlock w b (.map (es.push ⟨.int .i64 k, v, clock⟩) (clock + 1))) rfl
    refine ⟨_, ?_, ⟨_, _, hn, stamped_push hs h2, ?_⟩, hm, hz⟩
    · simp [Instr.mapUpdate, run_underlying ht, MapKept.run_getObj_map hb, MapKept.run_checkKey hk ik, h1, MapKept.run_setObj_map _ hb, Result.andThen, setBlock]
    · rw [List.filter_eq_self.2 (fun x hx => by simpa using h2 x hx)] at hoff
      rw [Array.toList_push, List.map_append]
      exact List.perm_append_comm.trans (hoff.cons (kvI (k, v)))
  · have hj : es[j]? = some e0 := by simpa using h2
    have hjl : j < es.toList.length := (List.getElem?_eq_some_iff.1 h2).1
    have hkeyf : ∀ e', es[j]? = some e' → ({ e' with key := .int .i64 k, val := v } : MapEntry).key = e'.key := fun e' he' => by rw [hj] at he'; cases he'; exact h3.symm
    obtain ⟨hm, hz, hn⟩ := mapTurned_mv hb (w' := setBlock w b (.map (es.modify j (fun e' => { e' with key := .int .i64 k, val := v })) clock)) rfl
    refine ⟨_, ?_, ⟨_, _, hn, stamped_modify hs _ _ (fun _ _ => rfl) (fun e' _ he' => hkeyf e' he'), ?_⟩, hm, hz⟩
    · simp [Instr.mapUpdate, run_underlying ht, MapKept.run_getObj_map hb, MapKept.run_checkKey hk ik, h1, hj, h3, MapKept.run_keyThatStays ik, MapKept.run_setObj_map _ hb, Result.andThen, setBlock]
    · rw [Array.toList_modify, modify_eq_set _ _ _ _ h2]
      rw [key_erase ((stamped_iff es clock).1 hs).2.2 h2 h3] at hoff
      exact ((set_perm es.toList j hjl _).map kvE).trans (hoff.cons (kvI (k, v)))
theorem erase_list {es : Array MapEntry} {j : Nat} (hj : j < es.size) : (es.eraseIdxIfInBounds j).toList = es.toList.eraseIdx j := by
  unfold Array.eraseIdxIfInBounds
  rw [dif_pos hj]
  simp
open Classical in
theorem delete_run {es : Array MapEntry} {clock : Nat} (hs : Stamped es clock) (hl : (es.toList.map kvE).Perm (L.map kvI)) (hb : w.heap[b]? = some (.map es clock)) (ht : P.underlying t = some (.map kt e)) (hk : P.underlying kt = some (.int .i64)) (k : Int) (ty : TypeId) :
    ∃ es', (Builtin.delete_ #[t, kt] ty #[.map (some b), .int .i64 k]).run P w = .ok (.tuple #[]) (setBlock w b (.map es' clock)) ∧ Stamped es' clock ∧ es'.toList = es.toList.filter (fun x => decide (x.key ≠ .int .i64 k)) := by
  have ik : IsKey (.int .i64) (.int .i64 k) := rfl
  rcases findI hk w k es.toList (kv_isKey hl) with ⟨h1, h2⟩ | ⟨j, e0, h1, h2, h3⟩
  · refine ⟨es, ?_, hs, ?_⟩
    · simp [Builtin.delete_, run_underlying ht, MapKept.run_getObj_map hb, MapKept.run_checkKey hk ik, h1, MapKept.run_setObj_map _ hb, Result.andThen, setBlock]
    · exact (List.filter_eq_self.2 (fun x hx => by simpa using h2 x hx)).symm
  · have hjs : j < es.size := by simpa using (List.getElem?_eq_some_iff.1 h2).1
    refine ⟨es.eraseIdxIfInBounds j, ?_, stamped_erase hs j, ?_⟩
    · simp [Builtin.delete_, run_underlying ht, MapKept.run_getObj_map hb, MapKept.run_checkKey hk ik, h1, MapKept.run_setObj_map _ hb, Result.andThen, setBlock]
    · rw [erase_list hjs, key_erase ((stamped_iff es clock).1 hs).2.2 h2 h3]
open Classical in
theorem MapI.drop (h : MapI w b L) (ht : P.underlying t = some (.map kt e)) (hk : P.underlying kt = some (.int .i64)) (k : Int) (ty : TypeId) :
    ∃ w', (Builtin.delete_ #[t, kt] ty #[.map (some b), .int .i64 k]).run P w = .ok (.tuple #[]) w' ∧ MapI w' b (offI k L) ∧ Mv (fun i => i = b) w w' ∧ w'.heap.size = w.heap.size := by
  obtain ⟨es, clock, hb, hs, hl⟩ := h
  obtain ⟨es', hrun, hs', he⟩ := delete_run hs hl hb ht hk k ty
  obtain ⟨hm, hz, hn⟩ := mapTurned_mv hb (w' := setBlock w b (.map es' clock)) rfl
  exact ⟨_, hrun, ⟨_, _, hn, hs', by rw [he]; exact kv_off hl k⟩, hm, hz⟩

theorem RngI.map (h : RngI w b r L T) : MapI w b L := by
  obtain ⟨es, clock, since, seen, c0, hb, hs, hl, _⟩ := h
  exact ⟨es, clock, hb, hs, hl⟩
theorem RngI.ne (h : RngI w b r L T) : r ≠ b := by
  obtain ⟨es, clock, since, seen, c0, hb, hs, hl, hr, _⟩ := h
  rintro rfl
  rw [hb] at hr
  cases hr
theorem RngI.size (h : RngI w b r L T) : r < w.heap.size := by
  obtain ⟨es, clock, since, seen, c0, hb, hs, hl, hr, _⟩ := h
  exact (Array.getElem?_eq_some_iff.1 hr).1
theorem RngI.mv {D : Nat → Prop} (h : RngI w b r L T) (hm : Mv D w w') (hn : ¬ D b) (hn2 : ¬ D r) : RngI w' b r L T := by
  have h1 := h.map.size
  have h2 := h.size
  obtain ⟨es, clock, since, seen, c0, hb, hs, hl, hr, rest⟩ := h
  exact ⟨es, clock, since, seen, c0, (hm.block b h1 hn).trans hb, hs, hl, (hm.block r h2 hn2).trans hr, rest⟩
theorem RngI.apart {g : Nat} {X : TypeId} {cs : List Value} (h : RngI w b r L T) (hg : Whole w g X cs) : g ≠ r := by
  rintro rfl
  obtain ⟨es, clock, since, seen, c0, hb, hs, hl, hr, _⟩ := h
  unfold Whole at hg
  rw [hg] at hr
  cases hr
/-- how many are still to come, read off the world: for a loop's measure -/
theorem RngI.left_eq (h : RngI w b r L T) : w.rangeLeft b r = T.length := by
  obtain ⟨es, clock, since, seen, c0, hb, _, _, hr, _, _, _, hT⟩ := h
  simp only [World.rangeLeft, hb, hr]
  have := hT.length_eq
  simpa using this
theorem left_list (es : Array MapEntry) (seen : Array Nat) : (leftOf es seen).toList = es.toList.filter fun x => !seen.contains x.born := by
  unfold leftOf
  rw [← Array.toList_filter]
theorem MapI.range (h : MapI w b L) (ht : P.underlying t = some (.map kt e)) :
    ∃ w', (Instr.range t (.map (some b))).run P w = .ok (.pointer (some ⟨w.heap.size, 0, none⟩)) w' ∧ RngI w' b w.heap.size L L ∧ Mv (fun _ => False) w w' ∧ w'.heap.size = w.heap.size + 1 := by
  have hlt := h.size
  obtain ⟨es, clock, hb, hs, hl⟩ := h
  refine ⟨_, run_range_map w t kt e b es clock ht hb, ⟨es, clock, clock, #[], clock, ((MapKept.heap_alloc w _).2 b hlt).trans hb, hs, hl, (MapKept.heap_alloc w _).1, ((stamped_iff es clock).1 hs).1, Nat.le_refl _, Nat.le_refl _, ?_⟩, (Mv.refl _ w).alloc _, by simp⟩
  rw [show (leftOf es #[]).toList = es.toList by rw [left_list]; exact List.filter_eq_self.2 (fun x _ => by simp)]
  exact hl
theorem left_step (l : List MapEntry) (seen : Array Nat) (x : MapEntry) (hnd : (l.map (·.born)).Nodup) (hxe : x ∈ l) (hxs : (!seen.contains x.born) = true) :
    (l.filter fun y => !seen.contains y.born).Perm (x :: l.filter fun y => !(seen.push x.born).contains y.born) := by
  have key : ∀ y : MapEntry, (!(seen.push x.born).contains y.born) = ((!seen.contains y.born) && !(y.born == x.born)) := fun y => by
    rw [contains_push, Bool.not_or]
  simp only [key]
  induction l with
  | nil => simp at hxe
  | cons y l ih =>
    rw [List.map_cons, List.nodup_cons] at hnd
    rw [List.filter_cons, List.filter_cons]
    rcases List.mem_cons.1 hxe with rfl | hxl
    · rw [if_pos hxs, if_neg (by simp)]
      refine List.Perm.cons _ (List.Perm.of_eq (List.filter_congr fun z hz => ?_))
      have : (z.born == x.born) = false := by simpa using fun e => hnd.1 (List.mem_map.2 ⟨z, hz, e⟩)
      rw [this]
      simp
    · have hyx : (y.born == x.born) = false := by simpa using fun e : y.born = x.born => hnd.1 (List.mem_map.2 ⟨x, hxl, e.symm⟩)
      have ih' := ih hnd.2 hxl
      rw [hyx]
      by_cases hy : (!seen.contains y.born) = true
      · rw [if_pos hy, if_pos (by rw [hy]; rfl)]
        exact (ih'.cons y).trans (List.Perm.swap _ _ _)
      · rw [if_neg hy, if_neg (by simpa using hy)]
        exact ih'
theorem RngI.next (h : RngI w b r L T) (ty : TypeId) :
    (T = [] ∧ (Instr.next (.pointer (some ⟨r, 0, none⟩)) false ty).run P w = .ok (.tuple #[.bool false]) w) ∨
    ∃ k v T' w', T.Perm ((k, v) :: T') ∧ (Instr.next (.pointer (some ⟨r, 0, none⟩)) false ty).run P w = .ok (.tuple #[.bool true, .int .i64 k, v]) w' ∧ RngI w' b r L T' ∧ Mv (fun i => i = r) w w' ∧ w'.heap.size = w.heap.size ∧
      (Instr.entry (.pointer (some ⟨r, 0, none⟩))).run P w' = .ok (.tuple #[.int .i64 k, v]) w' := by
  have hne := h.ne
  obtain ⟨es, clock, since, seen, c0, hb, hs, hl, hr, hold, hsc, hsk, hT⟩ := h
  have hst := (stamped_iff es clock).1 hs
  rcases run_next_at (P := P) w ty r b since c0 seen es clock hr hb hold hsc with ⟨h0, hrun⟩ | ⟨x, hx, w1, hal, hrun⟩
  · refine .inl ⟨?_, hrun⟩
    have := hT.length_eq
    rw [List.length_map, List.length_map, Array.length_toList, h0] at this
    exact List.eq_nil_of_length_eq_zero this.symm
  · have hxe : x ∈ es.toList := by
      rw [left_list] at hx
      exact (List.mem_filter.1 hx).1
    obtain ⟨⟨k, v⟩, hp, hk, hv⟩ := kv_mem hl hxe
    simp only at hk hv
    have hr1 : w1.heap[r]? = some (.mapIter (some b) since seen c0) := by rcases hal with rfl | rfl <;> exact hr
    have hb1 : w1.heap[b]? = some (.map es clock) := by rcases hal with rfl | rfl <;> exact hb
    obtain ⟨hm, hz, hn⟩ := mapTurned_mv hr1 (w' := setBlock w1 r (.mapIter (some b) since (seen.push x.born) clock)) rfl
    have hb' := (hm.block b (Array.getElem?_eq_some_iff.1 hb1).1 (fun e => hne e.symm)).trans hb1
    have hw1 : Mv (fun i => i = r) w w1 ∧ w1.heap.size = w.heap.size := by
      rcases hal with rfl | rfl
      · exact ⟨Mv.refl _ _, rfl⟩
      · exact ⟨(Mv.refl _ w).drew, rfl⟩
    have hmem : (k, v) ∈ T := mem_kvI.1 (hT.subset (List.mem_map.2 ⟨x, hx, by simp [kvE, hk, hv]⟩))
    obtain ⟨A, B, rfl⟩ := List.append_of_mem hmem
    have hleft : (leftOf es seen).toList.Perm (x :: (leftOf es (seen.push x.born)).toList) := by
      have hx2 := hx
      rw [left_list] at hx2
      rw [left_list, left_list]
      exact left_step es.toList seen x hst.2.1 hxe (List.mem_filter.1 hx2).2
    refine .inr ⟨k, v, A ++ B, _, List.perm_middle, by rw [← hk, ← hv]; exact hrun, ⟨es, clock, since, seen.push x.born, clock, hb', hs, hl, hn, hold, hsk, hsk, ?_⟩, hw1.1.trans hm (fun _ _ h => h), hz.trans hw1.2, by rw [← hk, ← hv]; exact run_entry_at _ r b since seen es clock x hn hb' hxe hst.2.1⟩
    have h1 := (hleft.map kvE).symm.trans (hT.trans (List.perm_middle.map kvI))
    rw [List.map_cons, List.map_cons, show kvE x = kvI (k, v) by simp [kvE, kvI, hk, hv]] at h1
    exact (List.perm_cons _).1 h1
open Classical in
theorem RngI.drop (h : RngI w b r L T) (ht : P.underlying t = some (.map kt e)) (hk : P.underlying kt = some (.int .i64)) (k : Int) (ty : TypeId) :
    ∃ w', (Builtin.delete_ #[t, kt] ty #[.map (some b), .int .i64 k]).run P w = .ok (.tuple #[]) w' ∧ RngI w' b r (offI k L) (offI k T) ∧ Mv (fun i => i = b) w w' ∧ w'.heap.size = w.heap.size := by
  have hne := h.ne
  have hrs := h.size
  obtain ⟨es, clock, since, seen, c0, hb, hs, hl, hr, hold, hsc, hsk, hT⟩ := h
  obtain ⟨es', hrun, hs', he⟩ := delete_run hs hl hb ht hk k ty
  obtain ⟨hm, hz, hn⟩ := mapTurned_mv hb (w' := setBlock w b (.map es' clock)) rfl
  refine ⟨_, hrun, ⟨es', clock, since, seen, c0, hn, hs', by rw [he]; exact kv_off hl k, (hm.block r hrs hne).trans hr, fun x hx => hold x (by rw [he] at hx; exact (List.mem_filter.1 hx).1), hsc, hsk, ?_⟩, hm, hz⟩
  have h1 := kv_off hT k
  rw [left_list] at h1 ⊢
  rw [he, List.filter_filter]
  rw [List.filter_filter] at h1
  have e1 : (fun x : MapEntry => (!seen.contains x.born) && decide (x.key ≠ .int .i64 k)) = fun x => decide (x.key ≠ .int .i64 k) && (!seen.contains x.born) := by
    funext x
    exact Bool.and_comm _ _
  rw [e1]
  exact h1
end
/-- no map: nothing is found, nothing comes -/
theorem look_noMap {P : Program} {t kt e : TypeId} {w : World} {z : Value} (ht : P.underlying t = some (.map kt e)) (hk : P.underlying kt = some (.int .i64)) (k : Int) (hz : (zeroValue e).run P w = .ok z w) (c : Bool) :
    (Instr.lookup t (.map none) (.int .i64 k) c).run P w = .ok (if c then .tuple #[z, .bool false] else z) w := by
  rcases findI (P := P) hk w k [] (by simp) with ⟨h1, _⟩ | ⟨j, e0, _, h2, _⟩
  · simp [Instr.lookup, run_underlying ht, MapKept.run_checkKey hk (show IsKey (.int .i64) (.int .i64 k) from rfl), h1, hz]
  · simp at h2
end Go.Proofs.Ytcigodaacdfagaa
