/- A map whose keys are ints, as pairs in whatever order: looked up, stored into, deleted from, gone through. A chest at its blocks: its book, its map of logs. The chest's refuse; where a log is; Live. Where the chest has a log; whether it may be pushed; no chest. -/
import Derived.Test.YtmigninibdecmaaGreatFah
import Derived.Test.YtmigninibdecmaaGreatFag
import Derived.Test.YtmigninibdecmaaGreatFak
import Derived.Test.YtmigninibdecmaaGreatFab
import Derived.Maps.RangeWalk
import Derived.Maps.OwnSet
namespace Go.Proofs.YtmigninibdecmaaGreat
open Go.RowKit Go.MapKept
open Go.ChangeMaps (setBlock set_perm modify_eq_set filter_eq_eraseIdx heap_setBlock_same heap_setBlock_other)

def kvE (e : MapEntry) : Value × Value := (e.key, e.val)
def kvI (p : Int × Value) : Value × Value := (.int .i64 p.1, p.2)
/-- block b is a map that has just these, in whatever order -/
def MapI (w : World) (b : Nat) (L : List (Int × Value)) : Prop :=
  ∃ es clock, w.heap[b]? = some (.map es clock) ∧ Stamped es clock ∧ (es.toList.map kvE).Perm (L.map kvI)
def offI (k : Int) (L : List (Int × Value)) : List (Int × Value) := L.filter fun p => decide (p.1 ≠ k)
/-- a range over it is under way: T is still to come -/
def RngI (w : World) (b r : Nat) (L T : List (Int × Value)) : Prop :=
  ∃ es clock since seen c0, w.heap[b]? = some (.map es clock) ∧ Stamped es clock ∧ (es.toList.map kvE).Perm (L.map kvI) ∧ w.heap[r]? = some (.mapIter (some b) since seen c0) ∧
    (∀ x ∈ es.toList, x.born < since) ∧ since ≤ c0 ∧ since ≤ clock ∧ ((leftOf es seen).toList.map kvE).Perm (T.map kvI)

theorem kvI_inj {p q : Int × Value} (h : kvI p = kvI q) : p = q := by
  obtain ⟨a, b⟩ := p
  obtain ⟨c, d⟩ := q
  simp only [kvI, Prod.mk.injEq, Value.int.injEq, true_and] at h
  rw [h.1, h.2]
theorem mem_kvI {L : List (Int × Value)} {k : Int} {v : Value} : (.int .i64 k, v) ∈ L.map kvI ↔ (k, v) ∈ L := by
  constructor
  · intro h
    obtain ⟨p, hp, e⟩ := List.mem_map.1 h
    rw [← kvI_inj (p := p) (q := (k, v)) e]
    exact hp
  · intro h
    exact List.mem_map.2 ⟨_, h, rfl⟩
section
variable {es : List MapEntry} {L : List (Int × Value)}
theorem kv_isKey (h : (es.map kvE).Perm (L.map kvI)) : ∀ x ∈ es, IsKey (.int .i64) x.key := by
  intro x hx
  obtain ⟨p, _, e⟩ := List.mem_map.1 (h.subset (List.mem_map.2 ⟨x, hx, rfl⟩))
  have : x.key = .int .i64 p.1 := (congrArg Prod.fst e).symm
  rw [this]
  rfl
theorem kv_mem (h : (es.map kvE).Perm (L.map kvI)) {x : MapEntry} (hx : x ∈ es) : ∃ p ∈ L, x.key = .int .i64 p.1 ∧ x.val = p.2 := by
  obtain ⟨p, hp, e⟩ := List.mem_map.1 (h.subset (List.mem_map.2 ⟨x, hx, rfl⟩))
  exact ⟨p, hp, (congrArg Prod.fst e).symm, (congrArg Prod.snd e).symm⟩
theorem kv_of (h : (es.map kvE).Perm (L.map kvI)) {k : Int} {v : Value} (hp : (k, v) ∈ L) : ∃ x ∈ es, x.key = .int .i64 k ∧ x.val = v := by
  obtain ⟨x, hx, e⟩ := List.mem_map.1 (h.symm.subset (mem_kvI.2 hp))
  exact ⟨x, hx, congrArg Prod.fst e, congrArg Prod.snd e⟩
open Classical in
theorem kv_off (h : (es.map kvE).Perm (L.map kvI)) (k : Int) : ((es.filter fun x => decide (x.key ≠ .int .i64 k)).map kvE).Perm ((offI k L).map kvI) := by
  have h1 := h.filter (fun q => decide (q.1 ≠ .int .i64 k))
  rw [List.filter_map, List.filter_map] at h1
  have e1 : ((fun q : Value × Value => decide (q.1 ≠ .int .i64 k)) ∘ kvI) = fun p => decide (p.1 ≠ k) := by
    funext p
    refine decide_eq_decide.2 ⟨fun h1 h2 => h1 ?_, fun h1 h2 => h1 ?_⟩
    · simp [kvI, h2]
    · simpa [kvI] using h2
  rw [e1] at h1
  exact h1
end
open Classical in
theorem key_erase {es : List MapEntry} {k : Value} (hd : es.Pairwise fun x y => x.key ≠ y.key) {j : Nat} {e0 : MapEntry} (h : es[j]? = some e0) (hk : e0.key = k) : es.filter (fun x => decide (x.key ≠ k)) = es.eraseIdx j := by
  have h1 := filter_eq_eraseIdx (fun x : MapEntry => decide (x.key = k)) es j e0 h (by simp [hk]) (hd.imp fun {a b} hne hh => by
    simp only [decide_eq_true_eq] at hh
    exact hne (hh.1.trans hh.2.symm))
  rw [← h1]
  congr 1
  funext x
  simp
section
variable {P : Program} {w w' : World} {b r : Nat} {L T : List (Int × Value)} {t kt e : TypeId}
theorem findI (hk : P.underlying kt = some (.int .i64)) (w : World) (k : Int) (es : List MapEntry) (h : ∀ x ∈ es, IsKey (.int .i64) x.key) :
    ((Instr.findKey kt (.int .i64 k) es).run P w = .ok none w ∧ ∀ x ∈ es, x.key ≠ .int .i64 k) ∨ ∃ j x, (Instr.findKey kt (.int .i64 k) es).run P w = .ok (some (j, x.val)) w ∧ es[j]? = some x ∧ x.key = .int .i64 k := by
  rcases findNow_spec (d := .int .i64) (k := .int .i64 k) rfl es 0 h with ⟨h1, h2⟩ | ⟨j, e0, h1, h2, h3⟩
  · exact .inl ⟨MapKept.run_findKey hk h1, h2⟩
  · exact .inr ⟨j, e0, by simpa using MapKept.run_findKey hk h1, h2, h3⟩
theorem MapI.size (h : MapI w b L) : b < w.heap.size := by
  obtain ⟨es, clock, hb, _⟩ := h
  exact (Array.getElem?_eq_some_iff.1 hb).1
theorem MapI.perm {L' : List (Int × Value)} (h : MapI w b L) (hp : L.Perm L') : MapI w b L' := by
  obtain ⟨es, clock, hb, hs, hl⟩ := h
  exact ⟨es, clock, hb, hs, hl.trans (hp.map _)⟩
theorem MapI.mv {D : Nat → Prop} (h : MapI w b L) (hm : Mv D w w') (hn : ¬ D b) : MapI w' b L := by
  have hlt := h.size
  obtain ⟨es, clock, hb, hs, hl⟩ := h
  exact ⟨es, clock, (hm.block b hlt hn).trans hb, hs, hl⟩
theorem MapI.apart {g : Nat} {T : TypeId} {cs : List Value} (h : MapI w b L) (hg : Whole w g T cs) : g ≠ b := by
  rintro rfl
  obtain ⟨es, clock, hb, _⟩ := h
  unfold Whole at hg
  rw [hg] at hb
  cases hb
theorem MapI.made (w : World) : MapI (w.alloc (.map #[] 0)) w.heap.size [] := ⟨#[], 0, (MapKept.heap_alloc w _).1, stamped_empty 0, by simp⟩
theorem MapI.nodup (h : MapI w b L) : (L.map (·.1)).Nodup := by
  obtain ⟨es, clock, hb, hs, hl⟩ := h
  have h3 := ((stamped_iff es clock).1 hs).2.2
  have h4 : (es.toList.map kvE).Pairwise (fun x y => x.1 ≠ y.1) := List.pairwise_map.2 h3
  have h5 := (hl.pairwise_iff (fun {_ _} hne => Ne.symm hne)).1 h4
  rw [List.Nodup, List.pairwise_map]
  exact (List.pairwise_map.1 h5).imp fun hne e1 => hne (by simp [kvI, e1])
theorem MapI.look (h : MapI w b L) (ht : P.underlying t = some (.map kt e)) (hk : P.underlying kt = some (.int .i64)) {k : Int} {v : Value} (hm : (k, v) ∈ L) (c : Bool) :
    (Instr.lookup t (.map (some b)) (.int .i64 k) c).run P w = .ok (if c then .tuple #[v, .bool true] else v) w := by
  obtain ⟨es, clock, hb, hs, hl⟩ := h
  obtain ⟨x, hx, hxk, hxv⟩ := kv_of hl hm
  rcases findI hk w k es.toList (kv_isKey hl) with ⟨_, h2⟩ | ⟨j, e0, h1, h2, h3⟩
  · exact absurd hxk (h2 x hx)
  · have := entry_eq_of_key ((stamped_iff es clock).1 hs).2.2 hx (List.mem_of_getElem? h2) (hxk.trans h3.symm)
    subst this
    simp [Instr.lookup, run_underlying ht, MapKept.run_getObj_map hb, MapKept.run_checkKey hk (show IsKey (.int .i64) (.int .i64 k) from rfl), h1, hxv]
theorem MapI.miss (h : MapI w b L) (ht : P.underlying t = some (.map kt e)) (hk : P.underlying kt = some (.int .i64)) {k : Int} {z : Value} (hm : ∀ p ∈ L, p.1 ≠ k) (hz : (zeroValue e).run P w = .ok z w) (c : Bool) :
    (Instr.lookup t (.map (some b)) (.int .i64 k) c).run P w = .ok (if c then .tuple #[z, .bool false] else z) w := by
  obtain ⟨es, clock, hb, hs, hl⟩ := h
  rcases findI hk w k es.toList (kv_isKey hl) with ⟨h1, _⟩ | ⟨j, e0, h1, h2, h3⟩
  · simp [Instr.lookup, run_underlying ht, MapKept.run_getObj_map hb, MapKept.run_checkKey hk (show IsKey (.int .i64) (.int .i64 k) from rfl), h1, hz]
  · obtain ⟨p, hp, e1, _⟩ := kv_mem hl (List.mem_of_getElem? h2)
    rw [h3] at e1
    injection e1 with _ e1
    exact absurd e1.symm (hm p hp)
theorem MapI.count (h : MapI w b L) (ht : P.underlying t = some (.map kt e)) (ty : TypeId) : (Builtin.len_ #[t] ty #[.map (some b)]).run P w = .ok (.int .i64 (L.length : Int)) w := by
  obtain ⟨es, clock, hb, hs, hl⟩ := h
  have e1 : es.size = L.length := by have := hl.length_eq; simpa using this
  simp [Builtin.len_, run_underlying ht, MapKept.run_getObj_map hb, goInt, Result.andThen, e1]
theorem mapTurned_mv {w w' : World} {b : Nat} {o o' : Obj} (hb : w.heap[b]? = some o) (hw : w' = setBlock w b o') : Mv (fun i => i = b) w w' ∧ w'.heap.size = w.heap.size ∧ w'.heap[b]? = some o' := by
  subst hw
  have hlt := (Array.getElem?_eq_some_iff.1 hb).1
  refine ⟨⟨rfl, rfl, rfl, by simp [setBlock], fun i _ hi => ?_⟩, by simp [setBlock], ?_⟩
  · simp only [setBlock]
    rw [Array.getElem?_setIfInBounds_ne (fun e => hi e.symm)]
  · simp only [setBlock]
    rw [Array.getElem?_setIfInBounds_self_of_lt hlt]
open Classical in
theorem MapI.store (h : MapI w b L) (ht : P.underlying t = some (.map kt e)) (hk : P.underlying kt = some (.int .i64)) (k : Int) (v : Value) :
    ∃ w', (Instr.mapUpdate t (.map (some b)) (.int .i64 k) v).run P w = .ok () w' ∧ MapI w' b ((k, v) :: offI k L) ∧ Mv (fun i => i = b) w w' ∧ w'.heap.size = w.heap.size := by
  obtain ⟨es, clock, hb, hs, hl⟩ := h
  have ik : IsKey (.int .i64) (.int .i64 k) := rfl
  have hoff := kv_off hl k
  rcases findI hk w k es.toList (kv_isKey hl) with ⟨h1, h2⟩ | ⟨j, e0, h1, h2, h3⟩
  · obtain ⟨hm, hz, hn⟩ := mapTurned_mv hb (w' := setBlock w b (.map (es.push ⟨.int .i64 k, v, clock⟩) (clock + 1))) rfl
    refine ⟨_, ?_, ⟨_, _, hn, stamped_push hs h2, ?_⟩, hm, hz⟩
    · simp [Instr.mapUpdate, run_underlying ht, MapKept.run_getObj_map hb, MapKept.run_checkKey hk ik, h1, MapKept.run_setObj_map _ hb, Result.andThen, setBlock]
    · rw [List.filter_eq_self.2 (fun x hx => by simpa using h2 x hx)] at hoff
      rw [Array.toList_push, List.map_append]
      exact List.perm_append_comm.trans (hoff.cons (kvI (k, v)))
  · have hj : es[j]? = some e0 := by simpa using h2
    have hjl : j < es.toList.length := (List.getElem?_eq_some_iff.1 h2).1
    have hkeyf : ∀ e', es[j]? = some e' → ({ e' with key := .int .i64 k, val := v } : MapEntry).key = e'.key := fun e' he' => by rw [hj] at he'; cases he'; exact h3.symm
    obtain ⟨hm, hz, hn⟩ := mapTurned_mv hb (w' := setBlock w b (.map (es.modify j (fun e' => { e' with key := .int .i64 k, val := v })) clock)) rfl
    refine ⟨_, ?_, ⟨_, _, hn, stamped_modify hs _ _ (fun _ _ => rfl) (fun e' _ he' => hkeyf e' he'), ?_⟩, hm, hz⟩
    · simp [Instr.mapUpdate, run_underlying ht, MapKept.run_getObj_map hb, MapKept.run_checkKey hk ik, h1, hj, h3, MapKept.run_keyThatStays ik, MapKept.run_setObj_map _ hb, Result.andThen, setBlock]
    · rw [Array.toList_modify, modify_eq_set _ _ _ _ h2]
      rw [key_erase ((stamped_iff es clock).1 hs).2.2 h2 h3] at hoff
      exact ((set_perm es.toList j hjl _).map kvE).trans (hoff.cons (kvI (k, v)))
theorem erase_list {es : Array MapEntry} {j : Nat} (hj : j < es.size) : (es.eraseIdxIfInBounds j).toList = es.toList.eraseIdx j := by
  unfold Array.eraseIdxIfInBounds
  rw [dif_pos hj]
  simp
open Classical in
theorem delete_run {es : Array MapEntry} {clock : Nat} (hs : Stamped es clock) (hl : (es.toList.map kvE).Perm (L.map kvI)) (hb : w.heap[b]? = some (.map es clock)) (ht : P.underlying t = some (.map kt e)) (hk : P.underlying kt = some (.int .i64)) (k : Int) (ty : TypeId) :
    ∃ es', (Builtin.delete_ #[t, kt] ty #[.map (some b), .int .i64 k]).run P w = .ok (.tuple #[]) (setBlock w b (.map es' clock)) ∧ Stamped es' clock ∧ es'.toList = es.toList.filter (fun x => decide (x.key ≠ .int .i64 k)) := by
  have ik : IsKey (.int .i64) (.int .i64 k) := rfl
  rcases findI hk w k es.toList (kv_isKey hl) with ⟨h1, h2⟩ | ⟨j, e0, h1, h2, h3⟩
  · refine ⟨es, ?_, hs, ?_⟩
    · simp [Builtin.delete_, run_underlying ht, MapKept.run_getObj_map hb, MapKept.run_checkKey hk ik, h1, MapKept.run_setObj_map _ hb, Result.andThen, setBlock]
    · exact (List.filter_eq_self.2 (fun x hx => by simpa using h2 x hx)).symm
  · have hjs : j < es.size := by simpa using (List.getElem?_eq_some_iff.1 h2).1
    refine ⟨es.eraseIdxIfInBounds j, ?_, stamped_erase hs j, ?_⟩
    · simp [Builtin.delete_, run_underlying ht, MapKept.run_getObj_map hb, MapKept.run_checkKey hk ik, h1, MapKept.run_setObj_map _ hb, Result.andThen, setBlock]
    · rw [erase_list hjs, key_erase ((stamped_iff es clock).1 hs).2.2 h2 h3]
open Classical in
theorem MapI.drop (h : MapI w b L) (ht : P.underlying t = some (.map kt e)) (hk : P.underlying kt = some (.int .i64)) (k : Int) (ty : TypeId) :
    ∃ w', (Builtin.delete_ #[t, kt] ty #[.map (some b), .int .i64 k]).run P w = .ok (.tuple #[]) w' ∧ MapI w' b (offI k L) ∧ Mv (fun i => i = b) w w' ∧ w'.heap.size = w.heap.size := by
  obtain ⟨es, clock, hb, hs, hl⟩ := h
  obtain ⟨es', hrun, hs', he⟩ := delete_run hs hl hb ht hk k ty
  obtain ⟨hm, hz, hn⟩ := mapTurned_mv hb (w' := setBlock w b (.map es' clock)) rfl
  exact ⟨_, hrun, ⟨_, _, hn, hs', by rw [he]; exact kv_off hl k⟩, hm, hz⟩

theorem RngI.map (h : RngI w b r L T) : MapI w b L := by
  obtain ⟨es, clock, since, seen, c0, hb, hs, hl, _⟩ := h
  exact ⟨es, clock, hb, hs, hl⟩
theorem RngI.ne (h : RngI w b r L T) : r ≠ b := by
  obtain ⟨es, clock, since, seen, c0, hb, hs, hl, hr, _⟩ := h
  rintro rfl
  rw [hb] at hr
  cases hr
theorem RngI.size (h : RngI w b r L T) : r < w.heap.size := by
  obtain ⟨es, clock, since, seen, c0, hb, hs, hl, hr, _⟩ := h
  exact (Array.getElem?_eq_some_iff.1 hr).1
theorem RngI.mv {D : Nat → Prop} (h : RngI w b r L T) (hm : Mv D w w') (hn : ¬ D b) (hn2 : ¬ D r) : RngI w' b r L T := by
  have h1 := h.map.size
  have h2 := h.size
  obtain ⟨es, clock, since, seen, c0, hb, hs, hl, hr, rest⟩ := h
  exact ⟨es, clock, since, seen, c0, (hm.block b h1 hn).trans hb, hs, hl, (hm.block r h2 hn2).trans hr, rest⟩
theorem RngI.apart {g : Nat} {X : TypeId} {cs : List Value} (h : RngI w b r L T) (hg : Whole w g X cs) : g ≠ r := by
  rintro rfl
  obtain ⟨es, clock, since, seen, c0, hb, hs, hl, hr, _⟩ := h
  unfold Whole at hg
  rw [hg] at hr
  cases hr
/-- how many are still to come, read off the world: for a loop's measure -/
theorem RngI.left_eq (h : RngI w b r L T) : w.rangeLeft b r = T.length := by
  obtain ⟨es, clock, since, seen, c0, hb, _, _, hr, _, _, _, hT⟩ := h
  simp only [World.rangeLeft, hb, hr]
  have := hT.length_eq
  simpa using this
theorem left_list (es : Array MapEntry) (seen : Array Nat) : (leftOf es seen).toList = es.toList.filter fun x => !seen.contains x.born := by
  unfold leftOf
  rw [← Array.toList_filter]
theorem MapI.range (h : MapI w b L) (ht : P.underlying t = some (.map kt e)) :
    ∃ w', (Instr.range t (.map (some b))).run P w = .ok (.pointer (some ⟨w.heap.size, 0, none⟩)) w' ∧ RngI w' b w.heap.size L L ∧ Mv (fun _ => False) w w' ∧ w'.heap.size = w.heap.size + 1 := by
  have hlt := h.size
  obtain ⟨es, clock, hb, hs, hl⟩ := h
  refine ⟨_, run_range_map w t kt e b es clock ht hb, ⟨es, clock, clock, #[], clock, ((MapKept.heap_alloc w _).2 b hlt).trans hb, hs, hl, (MapKept.heap_alloc w _).1, ((stamped_iff es clock).1 hs).1, Nat.le_refl _, Nat.le_refl _, ?_⟩, (Mv.refl _ w).alloc _, by simp⟩
  rw [show (leftOf es #[]).toList = es.toList by rw [left_list]; exact List.filter_eq_self.2 (fun x _ => by simp)]
  exact hl
theorem left_step (l : List MapEntry) (seen : Array Nat) (x : MapEntry) (hnd : (l.map (·.born)).Nodup) (hxe : x ∈ l) (hxs : (!seen.contains x.born) = true) :
    (l.filter fun y => !seen.contains y.born).Perm (x :: l.filter fun y => !(seen.push x.born).contains y.born) := by
  have key : ∀ y : MapEntry, (!(seen.push x.born).contains y.born) = ((!seen.contains y.born) && !(y.born == x.born)) := fun y => by
    rw [contains_push, Bool.not_or]
  simp only [key]
  induction l with
  | nil => simp at hxe
  | cons y l ih =>
    rw [List.map_cons, List.nodup_cons] at hnd
    rw [List.filter_cons, List.filter_cons]
    rcases List.mem_cons.1 hxe with rfl | hxl
    · rw [if_pos hxs, if_neg (by simp)]
      refine List.Perm.cons _ (List.Perm.of_eq (List.filter_congr fun z hz => ?_))
      have : (z.born == x.born) = false := by simpa using fun e => hnd.1 (List.mem_map.2 ⟨z, hz, e⟩)
      rw [this]
      simp
    · have hyx : (y.born == x.born) = false := by simpa using fun e : y.born = x.born => hnd.1 (List.mem_map.2 ⟨x, hxl, e.symm⟩)
      have ih' := ih hnd.2 hxl
      rw [hyx]
      by_cases hy : (!seen.contains y.born) = true
      · rw [if_pos hy, if_pos (by rw [hy]; rfl)]
        exact (ih'.cons y).trans (List.Perm.swap _ _ _)
      · rw [if_neg hy, if_neg (by simpa using hy)]
        exact ih'
theorem RngI.next (h : RngI w b r L T) (ty : TypeId) :
    (T = [] ∧ (Instr.next (.pointer (some ⟨r, 0, none⟩)) false ty).run P w = .ok (.tuple #[.bool false]) w) ∨
    ∃ k v T' w', T.Perm ((k, v) :: T') ∧ (Instr.next (.pointer (some ⟨r, 0, none⟩)) false ty).run P w = .ok (.tuple #[.bool true, .int .i64 k, v]) w' ∧ RngI w' b r L T' ∧ Mv (fun i => i = r) w w' ∧ w'.heap.size = w.heap.size ∧
      (Instr.entry (.pointer (some ⟨r, 0, none⟩))).run P w' = .ok (.tuple #[.int .i64 k, v]) w' := by
  have hne := h.ne
  obtain ⟨es, clock, since, seen, c0, hb, hs, hl, hr, hold, hsc, hsk, hT⟩ := h
  have hst := (stamped_iff es clock).1 hs
  rcases run_next_at (P := P) w ty r b since c0 seen es clock hr hb hold hsc with ⟨h0, hrun⟩ | ⟨x, hx, w1, hal, hrun⟩
  · refine .inl ⟨?_, hrun⟩
    have := hT.length_eq
    rw [List.length_map, List.length_map, Array.length_toList, h0] at this
    exact List.eq_nil_of_length_eq_zero this.symm
  · have hxe : x ∈ es.toList := by
      rw [left_list] at hx
      exact (List.mem_filter.1 hx).1
    obtain ⟨⟨k, v⟩, hp, hk, hv⟩ := kv_mem hl hxe
    simp only at hk hv
    have hr1 : w1.heap[r]? = some (.mapIter (some b) since seen c0) := by rcases hal with rfl | rfl <;> exact hr
    have hb1 : w1.heap[b]? = some (.map es clock) := by rcases hal with rfl | rfl <;> exact hb
    obtain ⟨hm, hz, hn⟩ := mapTurned_mv hr1 (w' := setBlock w1 r (.mapIter (some b) since (seen.push x.born) clock)) rfl
    have hb' := (hm.block b (Array.getElem?_eq_some_iff.1 hb1).1 (fun e => hne e.symm)).trans hb1
    have hw1 : Mv (fun i => i = r) w w1 ∧ w1.heap.size = w.heap.size := by
      rcases hal with rfl | rfl
      · exact ⟨Mv.refl _ _, rfl⟩
      · exact ⟨(Mv.refl _ w).drew, rfl⟩
    have hmem : (k, v) ∈ T := mem_kvI.1 (hT.subset (List.mem_map.2 ⟨x, hx, by simp [kvE, hk, hv]⟩))
    obtain ⟨A, B, rfl⟩ := List.append_of_mem hmem
    have hleft : (leftOf es seen).toList.Perm (x :: (leftOf es (seen.push x.born)).toList) := by
      have hx2 := hx
      rw [left_list] at hx2
      rw [left_list, left_list]
      exact left_step es.toList seen x hst.2.1 hxe (List.mem_filter.1 hx2).2
    refine .inr ⟨k, v, A ++ B, _, List.perm_middle, by rw [← hk, ← hv]; exact hrun, ⟨es, clock, since, seen.push x.born, clock, hb', hs, hl, hn, hold, hsk, hsk, ?_⟩, hw1.1.trans hm (fun _ _ h => h), hz.trans hw1.2, by rw [← hk, ← hv]; exact run_entry_at _ r b since seen es clock x hn hb' hxe hst.2.1⟩
    have h1 := (hleft.map kvE).symm.trans (hT.trans (List.perm_middle.map kvI))
    rw [List.map_cons, List.map_cons, show kvE x = kvI (k, v) by simp [kvE, kvI, hk, hv]] at h1
    exact (List.perm_cons _).1 h1
open Classical in
theorem RngI.drop (h : RngI w b r L T) (ht : P.underlying t = some (.map kt e)) (hk : P.underlying kt = some (.int .i64)) (k : Int) (ty : TypeId) :
    ∃ w', (Builtin.delete_ #[t, kt] ty #[.map (some b), .int .i64 k]).run P w = .ok (.tuple #[]) w' ∧ RngI w' b r (offI k L) (offI k T) ∧ Mv (fun i => i = b) w w' ∧ w'.heap.size = w.heap.size := by
  have hne := h.ne
  have hrs := h.size
  obtain ⟨es, clock, since, seen, c0, hb, hs, hl, hr, hold, hsc, hsk, hT⟩ := h
  obtain ⟨es', hrun, hs', he⟩ := delete_run hs hl hb ht hk k ty
  obtain ⟨hm, hz, hn⟩ := mapTurned_mv hb (w' := setBlock w b (.map es' clock)) rfl
  refine ⟨_, hrun, ⟨es', clock, since, seen, c0, hn, hs', by rw [he]; exact kv_off hl k, (hm.block r hrs hne).trans hr, fun x hx => hold x (by rw [he] at hx; exact (List.mem_filter.1 hx).1), hsc, hsk, ?_⟩, hm, hz⟩
  have h1 := kv_off hT k
  rw [left_list] at h1 ⊢
  rw [he, List.filter_filter]
  rw [List.filter_filter] at h1
  have e1 : (fun x : MapEntry => (!seen.contains x.born) && decide (x.key ≠ .int .i64 k)) = fun x => decide (x.key ≠ .int .i64 k) && (!seen.contains x.born) := by
    funext x
    exact Bool.and_comm _ _
  rw [e1]
  exact h1
end
/-- no map: nothing is found, nothing comes -/
theorem look_noMap {P : Program} {t kt e : TypeId} {w : World} {z : Value} (ht : P.underlying t = some (.map kt e)) (hk : P.underlying kt = some (.int .i64)) (k : Int) (hz : (zeroValue e).run P w = .ok z w) (c : Bool) :
    (Instr.lookup t (.map none) (.int .i64 k) c).run P w = .ok (if c then .tuple #[z, .bool false] else z) w := by
  rcases findI (P := P) hk w k [] (by simp) with ⟨h1, _⟩ | ⟨j, e0, _, h2, _⟩
  · simp [Instr.lookup, run_underlying ht, MapKept.run_checkKey hk (show IsKey (.int .i64) (.int .i64 k) from rfl), h1, hz]
  · simp at h2
end Go.Proofs.YtmigninibdecmaaGreat
namespace Go.Proofs.YtmigninibdecmaaGreat
open Go.RowKit

set_option maxRecDepth 100000 in
theorem info_rec : (Tryz.prog.info? 65).map (fun i => (i.zero, i.size, i.bytes)) = some (some (.agg #[.int .i64 0, .int .i64 0, .int .i64 0, .int .i64 0, .slice none 0 0]), 5, 56) := by kernel_rfl
set_option maxRecDepth 100000 in
theorem info_log : (Tryz.prog.info? 73).map (fun i => (i.zero, i.size)) = some (some (.agg #[.int .i64 0, .int .i64 0, .int .i64 0, .int .i64 0, .slice none 0 0, .int .i64 0, .int .i64 0, .slice none 0 0]), 8) := by kernel_rfl
/-- a record as a value -/
def rcv (K E B N : Int) (v : Value) : Value := .agg #[.int .i64 K, .int .i64 E, .int .i64 B, .int .i64 N, v]
/-- a log as a value -/
def lgv (K E B N : Int) (f : Value) (g k : Int) (h : Value) : Value := .agg #[.int .i64 K, .int .i64 E, .int .i64 B, .int .i64 N, f, .int .i64 g, .int .i64 k, h]
def zlog : Value := lgv 0 0 0 0 (.slice none 0 0) 0 0 (.slice none 0 0)
/-- a log and where its batches are -/
structure LgV where
  g : Lg
  f : List BtV
  F : Option Addr
  nf : Nat
  h : List BtV
  H : Option Addr
  nh : Nat
def LgV.fv (x : LgV) : Value := .slice x.F x.f.length x.nf
def LgV.hv (x : LgV) : Value := .slice x.H x.h.length x.nh
def LgV.v (x : LgV) : Value := lgv 2 x.g.epoch x.g.base 0 x.fv x.g.gone x.g.known x.hv
def LgV.pr (x : LgV) : Int × Value := (x.g.epoch, x.v)
/-- a log's batches where they are: those with which it was laid, and all changes, in blocks of Gf; those that it has in one of its own -/
structure LgIs (w : World) (base : Nat) (Gf : Nat → Prop) (x : LgV) : Prop where
  fe : x.f.map (·.t) = x.g.first
  he : x.h.map (·.t) = x.g.held
  first : RdBts w w.heap.size (fun i => ¬ Gf i) x.fv x.f
  own : OwnBt w base x.hv x.h
  no : ∀ g, x.hv.ownBlock = some g → ¬ Gf g
  parts : ∀ y ∈ x.h, RdG encC 3 w w.heap.size (fun i => ¬ Gf i) y.v y.t.chgs
  ok : x.g.Ok
section
variable {w w' : World} {base : Nat} {Gf Gf' : Nat → Prop} {x : LgV}
theorem LgIs.flen (h : LgIs w base Gf x) : x.f.length = x.g.first.length := by rw [← h.fe, List.length_map]
theorem LgIs.hlen (h : LgIs w base Gf x) : x.h.length = x.g.held.length := by rw [← h.he, List.length_map]
theorem LgIs.fle (h : LgIs w base Gf x) : x.f.length ≤ 24 := by rw [h.flen]; exact h.ok.fl
theorem LgIs.hle (h : LgIs w base Gf x) : x.h.length ≤ 24 := by rw [h.hlen]; exact h.ok.hl
theorem LgIs.mv {D : Nat → Prop} (h : LgIs w base Gf x) (hm : Mv D w w') (hf : ∀ i, Gf i → ¬ D i) (hn : ∀ g, x.hv.ownBlock = some g → ¬ D g) : LgIs w' base Gf x :=
  ⟨h.fe, h.he, (h.first.mv hm (Nat.le_refl _) (fun b _ hd hg => hf b hg hd)).mono hm.size (fun _ _ k => k), h.own.mv hm hn, h.no, fun y hy => ((h.parts y hy).mv hm (Nat.le_refl _) (fun b _ hd hg => hf b hg hd)).mono hm.size (fun _ _ k => k), h.ok⟩
theorem LgIs.new (h : LgIs w base Gf x) (hb : Below w.heap.size w w') : LgIs w' base Gf x := h.mv (Mv.of_new hb (fun _ => False)) (fun _ _ k => k) (fun _ _ k => k)
/-- what it has is read -/
theorem LgIs.held (h : LgIs w base Gf x) : RdBts w w.heap.size (fun _ => False) x.hv x.h := ⟨RdG.own encBt_len h.own (fun _ _ _ _ k => k), fun y hy => (h.parts y hy).mono (Nat.le_refl _) (fun _ _ k => k.elim)⟩
end
/-- the chest at block q, its book at block qb, its tape at block p, its map at block mb -/
structure ChIs (w : World) (base q qb p mb : Nat) (Gb Gf G : Nat → Prop) (h : Ch) (b : Bks) (L : List LgV) : Prop where
  at_ : Whole w q 61 [.pointer (some ⟨qb, 0, none⟩), .int .i64 h.lock, .map (some mb), .bool false]
  bk : BkAt w base qb p Gb b
  map : MapI w mb (L.map LgV.pr)
  logs : L.map (·.g) = h.logs
  log : ∀ x ∈ L, LgIs w base Gf x
  own : ∀ x ∈ L, ∀ g, x.hv.ownBlock = some g → ¬ Gb g ∧ g ≠ q ∧ g ≠ mb ∧ G g
  room : BkOk h b
  lk : 0 ≤ h.lock ∧ h.lock < 4611686018427387904
  nq : ¬ Gb q ∧ ¬ Gf q ∧ G q
  nm : ¬ Gb mb ∧ ¬ Gf mb ∧ G mb ∧ mb ≠ q
  gb : ∀ i, Gb i → G i ∧ ¬ Gf i
  gf : ∀ i, Gf i → G i
  low : base ≤ w.heap.size ∧ ∀ i, G i → base ≤ i ∧ i < w.heap.size
theorem ChIs.mv {w w' : World} {base q qb p mb : Nat} {Gb Gf G : Nat → Prop} {h : Ch} {b : Bks} {L : List LgV} {D : Nat → Prop} (k : ChIs w base q qb p mb Gb Gf G h b L) (hm : Mv D w w') (hn : ∀ i, G i → ¬ D i) : ChIs w' base q qb p mb Gb Gf G h b L :=
  ⟨hm.whole k.at_ (hn q k.nq.2.2), k.bk.mv hm (fun i hi => hn i (k.gb i hi).1), k.map.mv hm (hn mb k.nm.2.2.1), k.logs, fun x hx => (k.log x hx).mv hm (fun i hi => hn i (k.gf i hi)) (fun g hg => hn g (k.own x hx g hg).2.2.2), k.own, k.room, k.lk, k.nq, k.nm, k.gb, k.gf, Nat.le_trans k.low.1 hm.size, fun i hi => ⟨(k.low.2 i hi).1, Nat.lt_of_lt_of_le (k.low.2 i hi).2 hm.size⟩⟩
theorem ChIs.new {w w' : World} {base q qb p mb : Nat} {Gb Gf G : Nat → Prop} {h : Ch} {b : Bks} {L : List LgV} (k : ChIs w base q qb p mb Gb Gf G h b L) (hb : Below w.heap.size w w') : ChIs w' base q qb p mb Gb Gf G h b L := k.mv (Mv.of_new hb (fun _ => False)) (fun _ _ k => k)
theorem ChIs.one {w : World} {base q qb p mb : Nat} {Gb Gf G : Nat → Prop} {h : Ch} {b : Bks} {L : List LgV} (k : ChIs w base q qb p mb Gb Gf G h b L) {g : Lg} (h1 : h.logs = [g]) : ∃ x, L = [x] ∧ x.g = g := by
  have e := k.logs
  rw [h1] at e
  match L, e with
  | [x], e => exact ⟨x, rfl, by simpa using e⟩
def ChAt (w : World) (base q : Nat) (G : Nat → Prop) (h : Ch) : Prop := ∃ qb p mb Gb Gf b L, ChIs w base q qb p mb Gb Gf G h b L
section
variable {w w' : World} {base q : Nat} {G : Nat → Prop} {h : Ch}
theorem ChAt.low (k : ChAt w base q G h) : base ≤ w.heap.size ∧ ∀ i, G i → base ≤ i ∧ i < w.heap.size := by
  obtain ⟨qb, p, mb, Gb, Gf, b, L, k⟩ := k
  exact k.low
theorem ChAt.mv {D : Nat → Prop} (k : ChAt w base q G h) (hm : Mv D w w') (hn : ∀ i, G i → ¬ D i) : ChAt w' base q G h := by
  obtain ⟨qb, p, mb, Gb, Gf, b, L, k⟩ := k
  exact ⟨qb, p, mb, Gb, Gf, b, L, k.mv hm hn⟩
end
end Go.Proofs.YtmigninibdecmaaGreat
namespace Go.Proofs.YtmigninibdecmaaGreat
open Go.RowKit
attribute [local go_sem] less_eq same_eq le_eq ge_eq gt_eq

set_option maxHeartbeats 1000000 in
set_option maxRecDepth 100000 in
theorem isneg_any (n : Int) (w : World) : Calls Tryz.prog 56 #[.int .i64 n] w fun e w' => e = .returned (.bool (decide (n < 0))) ∧ Below w.heap.size w w' := by
  go_enter Tryz.func56, Tryz.ntmps56
  go_wp2_with fail
  go_ret
  exact ⟨rfl, Below.refl _ _⟩
theorem RdI.keep {w : World} {B : Nat} {v : Value} {l : List Int} (h : RdI w B v l) : ∃ A c, v = .slice A l.length c ∧ l.length ≤ c ∧ ∀ i (_ : i < l.length), ∃ b o, A = some ⟨b, o, none⟩ ∧ ∀ W, Below B w W → W.cell? ⟨b, o + i, none⟩ = some (.int .i64 l[i]) := by
  obtain ⟨A, c, hv, hc, hi⟩ := h.at
  refine ⟨A, c, hv, hc, fun i hs => ?_⟩
  obtain ⟨b, o, hA, hB, h1⟩ := hi i hs
  exact ⟨b, o, hA, fun W hW => (hW.cell (p := ⟨b, _, none⟩) hB).trans h1⟩

set_option maxHeartbeats 4000000 in
set_option maxRecDepth 100000 in
/-- no number is below 0 -/
theorem nindex_any (ls : List Int) (v : Value) (w : World) (hv : RdI w w.heap.size v ls) (hn : ∀ n ∈ ls, 0 ≤ n) (hl : ls.length < 4611686018427387904) :
    Calls Tryz.prog 87 #[v, .func (.func 56) #[] #[]] w fun e w' => e = .returned (.int .i64 (-1)) ∧ Below w.heap.size w w' := by
  obtain ⟨A, c, rfl, hc, hk⟩ := hv.keep
  obtain ⟨g, hg⟩ : ∃ g, g = w.heap.size := ⟨_, rfl⟩
  rw [← hg]
  have hgw : Below g w w := Below.refl _ _
  have HK := Lib.hid (fun i (h : i < ls.length) => hk i h)
  have HN := Lib.hid (fun i (h : i < ls.length) => hn ls[i] (List.getElem_mem h))
  clear hv hk hn
  rw [← hg] at HK
  have HG := Lib.hid hg; clear hg
  have HB0 := Lib.hid hgw; clear hgw
  go_enter Tryz.func87, Tryz.ntmps87
  go_wp2_with fail
  go_loopw [8] (fun iv wr => ∃ i : Nat, i ≤ ls.length ∧ iv = .int .i64 i ∧ Hid (Below g w wr)) (fun iv _ => ls.length - (intOf iv).toNat)
  case atStart => exact ⟨0, Nat.zero_le _, rfl, HB0⟩
  case round =>
    obtain ⟨i, hil, rfl, HBW⟩ := hrel
    by_cases hlt : i < ls.length
    · obtain ⟨b, o, rfl, hcell⟩ := HK.out i hlt
      have k0 := hcell wr HBW.out
      clear hcell
      have hI : (i : Int) < (ls.length : Int) := by omega
      have hcc := isneg_any ls[i] wr
      rw [decide_eq_false (by have := HN.out i hlt; omega)] at hcc
      have hgs : g ≤ wr.heap.size := by rw [HG.out]; exact (show Below w.heap.size w wr from by rw [← HG.out]; exact HBW.out).size
      generalize ls[i] = m at k0 hcc
      have HCC := Lib.hid hcc; clear hcc
      go_wp2_with fail
      refine HCC.out.mono ?_
      rintro e w2 ⟨rfl, hb2⟩
      have HB2 := Lib.hid (HBW.out.trans (hb2.mono hgs))
      clear hb2 k0
      go_wp2_with fail
      go_roundw
      case rel => exact ⟨i + 1, by omega, by go_num, HB2⟩
      case measure => simp [intOf]; omega
    · obtain rfl : i = ls.length := by omega
      go_wp2_with fail
      go_ret
      exact ⟨rfl, HBW.out⟩

set_option maxHeartbeats 1000000 in
set_option maxRecDepth 100000 in
theorem ncontains_any (ls : List Int) (v : Value) (w : World) (hv : RdI w w.heap.size v ls) (hn : ∀ n ∈ ls, 0 ≤ n) (hl : ls.length < 4611686018427387904) :
    Calls Tryz.prog 55 #[v, .func (.func 56) #[] #[]] w fun e w' => e = .returned (.bool false) ∧ Below w.heap.size w w' := by
  have HI := Lib.hid (nindex_any ls v w hv hn hl)
  obtain ⟨A, c, rfl, -, -⟩ := hv.at
  clear hv hn hl
  go_enter Tryz.func55, Tryz.ntmps55
  go_wp2_with fail
  refine HI.out.mono ?_
  rintro e w1 ⟨rfl, hb⟩
  have HB := Lib.hid hb
  clear hb
  go_wp2_with fail
  go_ret
  exact ⟨rfl, HB.out⟩

set_option maxHeartbeats 1000000 in
set_option maxRecDepth 100000 in
theorem href_any (q : Nat) (E : Int) (ls : List Int) (v : Value) (w : World) (hd : w.cell? ⟨q, 3, none⟩ = some (.bool false)) (he : 1 ≤ E) (hv : RdI w w.heap.size v ls) (hn : ∀ n ∈ ls, 0 ≤ n) (hl : ls.length < 4611686018427387904) :
    Calls Tryz.prog 24 #[.pointer (some ⟨q, 0, none⟩), .int .i64 E, v] w fun e w' => e = .returned (.int .i64 0) ∧ Below w.heap.size w w' := by
  have HC := Lib.hid (ncontains_any ls v w hv hn hl)
  obtain ⟨A, c, rfl, -, -⟩ := hv.at
  have h1 : ¬ E < 1 := by omega
  clear hv hn hl he
  go_enter Tryz.func24, Tryz.ntmps24
  go_wp2_with fail
  refine HC.out.mono ?_
  rintro e w1 ⟨rfl, hb⟩
  have HB := Lib.hid hb
  clear hb
  go_wp2_with fail
  go_ret
  exact ⟨rfl, HB.out⟩
set_option maxHeartbeats 1000000 in
set_option maxRecDepth 100000 in
theorem hrefn_any (E : Int) (A : Option Addr) (n c : Nat) (w : World) : Calls Tryz.prog 24 #[.pointer none, .int .i64 E, .slice A n c] w fun e w' => e = .returned (.int .i64 1) ∧ Below w.heap.size w w' := by
  go_enter Tryz.func24, Tryz.ntmps24
  go_wp2_with fail
  go_ret
  exact ⟨rfl, Below.refl _ _⟩
end Go.Proofs.YtmigninibdecmaaGreat
namespace Go.Proofs.YtmigninibdecmaaGreat
open Go.RowKit
attribute [local go_sem] less_eq same_eq le_eq ge_eq gt_eq

theorem LgV.v_eq (x : LgV) : x.v = .agg #[.int .i64 2, .int .i64 x.g.epoch, .int .i64 x.g.base, .int .i64 0, .slice x.F x.f.length x.nf, .int .i64 x.g.gone, .int .i64 x.g.known, .slice x.H x.h.length x.nh] := rfl
theorem zlog_eq : zlog = .agg #[.int .i64 0, .int .i64 0, .int .i64 0, .int .i64 0, .slice none 0 0, .int .i64 0, .int .i64 0, .slice none 0 0] := rfl
/-- what a map of logs answers -/
theorem ChIs.look {w : World} {base q qb p mb : Nat} {Gb Gf G : Nat → Prop} {h : Ch} {b : Bks} {L : List LgV} (k : ChIs w base q qb p mb Gb Gf G h b L) {x : LgV} (hx : x ∈ L) (c : Bool) :
    (Instr.lookup 59 (.map (some mb)) (.int .i64 x.g.epoch) c).run Tryz.prog w = .ok (if c then .tuple #[x.v, .bool true] else x.v) w :=
  k.map.look Tryz.underlying59 Tryz.underlying3 (List.mem_map.2 ⟨x, hx, rfl⟩) c

set_option maxHeartbeats 4000000 in
set_option maxRecDepth 100000 in
theorem hfindn_any (E : Int) (A : Option Addr) (n c : Nat) (w : World) :
    Calls Tryz.prog 37 #[.pointer none, .int .i64 E, .slice A n c] w fun e w' => e = .returned (.tuple #[zlog, .int .i64 1]) ∧ Below w.heap.size w w' := by
  rw [zlog_eq]
  obtain ⟨w1, hw1⟩ : ∃ w1, w1 = w.alloc (.cells #[.int .i64 0, .int .i64 0, .int .i64 0, .int .i64 0, .slice none 0 0, .int .i64 0, .int .i64 0, .slice none 0 0] 73) := ⟨_, rfl⟩
  have hb1 : Below w.heap.size w w1 := by rw [hw1]; exact (Below.refl _ w).alloc (Nat.le_refl _) _
  have hR1 : Whole w1 w.heap.size 73 [.int .i64 0, .int .i64 0, .int .i64 0, .int .i64 0, .slice none 0 0, .int .i64 0, .int .i64 0, .slice none 0 0] := by rw [hw1]; exact Whole.fresh w _ [.int .i64 0, .int .i64 0, .int .i64 0, .int .i64 0, .slice none 0 0, .int .i64 0, .int .i64 0, .slice none 0 0]
  have HR := Lib.hid (hrefn_any E A n c w1)
  have HB1 := Lib.hid hb1
  have HR1 := Lib.hid hR1
  clear hb1 hR1
  go_enter Tryz.func37, Tryz.ntmps37
  go_wp2_with fail
  rw [← hw1]
  clear hw1
  refine HR.out.mono ?_
  rintro e w2 ⟨rfl, hb2⟩
  have HB2 := Lib.hid (HB1.out.trans (hb2.mono HB1.out.size))
  have hR2 := HR1.out.below hb2 HR1.out.size
  have HR2 := Lib.hid hR2
  have z0 := hR2.cell 0 _ rfl
  have z1 := hR2.cell 1 _ rfl
  have z2 := hR2.cell 2 _ rfl
  have z3 := hR2.cell 3 _ rfl
  have z4 := hR2.cell 4 _ rfl
  have z5 := hR2.cell 5 _ rfl
  have z6 := hR2.cell 6 _ rfl
  have z7 := hR2.cell 7 _ rfl
  have y0 := hR2.frozen 0
  have y1 := hR2.frozen 1
  have y2 := hR2.frozen 2
  have y3 := hR2.frozen 3
  have y4 := hR2.frozen 4
  have y5 := hR2.frozen 5
  have y6 := hR2.frozen 6
  have y7 := hR2.frozen 7
  have hrs := hR2.size
  clear hR2 hb2 HR HR1
  go_wp2_with fail
  have hZ := HR2.out
  have hZ := ((((((((hZ.put 0 (.int .i64 0)).put 1 (.int .i64 0)).put 2 (.int .i64 0)).put 3 (.int .i64 0)).put 4 (.slice none 0 0)).put 5 (.int .i64 0)).put 6 (.int .i64 0)).put 7 (.slice none 0 0))
  simp only [List.set] at hZ
  have R0 := hZ.cell 0 _ rfl
  have R1 := hZ.cell 1 _ rfl
  have R2 := hZ.cell 2 _ rfl
  have R3 := hZ.cell 3 _ rfl
  have R4 := hZ.cell 4 _ rfl
  have R5 := hZ.cell 5 _ rfl
  have R6 := hZ.cell 6 _ rfl
  have R7 := hZ.cell 7 _ rfl
  exact bodyPost_ret (v := .tuple #[.agg #[.int .i64 0, .int .i64 0, .int .i64 0, .int .i64 0, .slice none 0 0, .int .i64 0, .int .i64 0, .slice none 0 0], .int .i64 1]) (by simp [results, Tryz.results37, go_sem, R0, R1, R2, R3, R4, R5, R6, R7]) rfl ⟨rfl, by (repeat (refine Below.setCell ?_ (by simp; try omega) _)); exact HB2.out⟩

set_option maxHeartbeats 4000000 in
set_option maxRecDepth 100000 in
theorem hfind_any (base q qb p mb : Nat) (Gb Gf G : Nat → Prop) (h : Ch) (b : Bks) (L : List LgV) (x : LgV) (ls : List Int) (v : Value) (w : World) (k : ChIs w base q qb p mb Gb Gf G h b L) (hx : x ∈ L) (hv : RdI w w.heap.size v ls) (hn : ∀ n ∈ ls, 0 ≤ n) (hll : ls.length < 4611686018427387904) :
    Calls Tryz.prog 37 #[.pointer (some ⟨q, 0, none⟩), .int .i64 x.g.epoch, v] w fun e w' => e = .returned (.tuple #[x.v, .int .i64 0]) ∧ Below w.heap.size w w' := by
  obtain ⟨A, c, rfl, -, -⟩ := hv.at
  obtain ⟨w1, hw1⟩ : ∃ w1, w1 = w.alloc (.cells #[.int .i64 0, .int .i64 0, .int .i64 0, .int .i64 0, .slice none 0 0, .int .i64 0, .int .i64 0, .slice none 0 0] 73) := ⟨_, rfl⟩
  have hb1 : Below w.heap.size w w1 := by rw [hw1]; exact (Below.refl _ w).alloc (Nat.le_refl _) _
  have hR1 : Whole w1 w.heap.size 73 [.int .i64 0, .int .i64 0, .int .i64 0, .int .i64 0, .slice none 0 0, .int .i64 0, .int .i64 0, .slice none 0 0] := by rw [hw1]; exact Whole.fresh w _ [.int .i64 0, .int .i64 0, .int .i64 0, .int .i64 0, .slice none 0 0, .int .i64 0, .int .i64 0, .slice none 0 0]
  have k1 := k.new hb1
  have hr := href_any q x.g.epoch ls (.slice A ls.length c) w1 (k1.at_.cell 3 _ rfl) (k1.log x hx).ok.ep.1 (Rd.next (w := w) hv hb1) hn hll
  have hfs : ∀ W, Below w1.heap.size w1 W → (Instr.lookup 59 (.map (some mb)) (.int .i64 x.g.epoch) true).run Tryz.prog W = .ok (.tuple #[x.v, .bool true]) W ∧ W.cell? ⟨q, 2, none⟩ = some (.map (some mb)) := fun W hW => ⟨by simpa using (k1.new hW).look hx true, (k1.new hW).at_.cell 2 _ rfl⟩
  simp only [LgV.v_eq] at hfs ⊢
  generalize x.g.epoch = ep at hr hfs ⊢
  generalize x.g.base = ba at hfs ⊢
  generalize x.g.gone = go at hfs ⊢
  generalize x.g.known = kn at hfs ⊢
  generalize x.f.length = fl at hfs ⊢
  generalize x.h.length = hl at hfs ⊢
  generalize x.F = F at hfs ⊢
  generalize x.H = H at hfs ⊢
  generalize x.nf = nf at hfs ⊢
  generalize x.nh = nh at hfs ⊢
  have HR := Lib.hid hr
  have HF := Lib.hid hfs
  clear k k1 hv hn hll hr hfs
  have HB1 := Lib.hid hb1
  have HR1 := Lib.hid hR1
  clear hb1 hR1
  go_enter Tryz.func37, Tryz.ntmps37
  go_wp2_with fail
  rw [← hw1]
  clear hw1
  refine HR.out.mono ?_
  rintro e w2 ⟨rfl, hb2⟩
  have HB2 := Lib.hid (HB1.out.trans (hb2.mono HB1.out.size))
  have hR2 := HR1.out.below hb2 HR1.out.size
  have HR2 := Lib.hid hR2
  have z0 := hR2.cell 0 _ rfl
  have z1 := hR2.cell 1 _ rfl
  have z2 := hR2.cell 2 _ rfl
  have z3 := hR2.cell 3 _ rfl
  have z4 := hR2.cell 4 _ rfl
  have z5 := hR2.cell 5 _ rfl
  have z6 := hR2.cell 6 _ rfl
  have z7 := hR2.cell 7 _ rfl
  have y0 := hR2.frozen 0
  have y1 := hR2.frozen 1
  have y2 := hR2.frozen 2
  have y3 := hR2.frozen 3
  have y4 := hR2.frozen 4
  have y5 := hR2.frozen 5
  have y6 := hR2.frozen 6
  have y7 := hR2.frozen 7
  have hrs := hR2.size
  obtain ⟨hlk, a2⟩ := HF.out w2 hb2
  clear hR2 hb2 HR HR1 HF
  go_wp2_with fail
  have hZ := HR2.out
  have hZ := ((((((((hZ.put 0 (.int .i64 2)).put 1 (.int .i64 ep)).put 2 (.int .i64 ba)).put 3 (.int .i64 0)).put 4 (.slice F fl nf)).put 5 (.int .i64 go)).put 6 (.int .i64 kn)).put 7 (.slice H hl nh))
  simp only [List.set] at hZ
  have hZ := hZ.alloc (.cells #[.int .i64 2, .int .i64 ep, .int .i64 ba, .int .i64 0, .slice F fl nf, .int .i64 go, .int .i64 kn, .slice H hl nh] 73)
  have R0 := hZ.cell 0 _ rfl
  have R1 := hZ.cell 1 _ rfl
  have R2 := hZ.cell 2 _ rfl
  have R3 := hZ.cell 3 _ rfl
  have R4 := hZ.cell 4 _ rfl
  have R5 := hZ.cell 5 _ rfl
  have R6 := hZ.cell 6 _ rfl
  have R7 := hZ.cell 7 _ rfl
  exact bodyPost_ret (v := .tuple #[.agg #[.int .i64 2, .int .i64 ep, .int .i64 ba, .int .i64 0, .slice F fl nf, .int .i64 go, .int .i64 kn, .slice H hl nh], .int .i64 0]) (by simp [results, Tryz.results37, go_sem, R0, R1, R2, R3, R4, R5, R6, R7]) rfl ⟨rfl, by refine Below.alloc ?_ (by simp; exact HB2.out.size) _; (repeat (refine Below.setCell ?_ (by simp; try omega) _)); exact HB2.out⟩

set_option maxHeartbeats 4000000 in
set_option maxRecDepth 100000 in
theorem hpshn_any (E : Int) (w : World) :
    Calls Tryz.prog 33 #[.pointer none, .int .i64 E] w fun e w' => e = .returned (.tuple #[zlog, .int .i64 1]) ∧ Below w.heap.size w w' := by
  obtain ⟨w1, hw1⟩ : ∃ w1, w1 = w.alloc (.cells #[.int .i64 0, .int .i64 0, .int .i64 0, .int .i64 0, .slice none 0 0, .int .i64 0, .int .i64 0, .slice none 0 0] 73) := ⟨_, rfl⟩
  have hb1 : Below w.heap.size w w1 := by rw [hw1]; exact (Below.refl _ w).alloc (Nat.le_refl _) _
  have hR1 : Whole w1 w.heap.size 73 [.int .i64 0, .int .i64 0, .int .i64 0, .int .i64 0, .slice none 0 0, .int .i64 0, .int .i64 0, .slice none 0 0] := by rw [hw1]; exact Whole.fresh w _ [.int .i64 0, .int .i64 0, .int .i64 0, .int .i64 0, .slice none 0 0, .int .i64 0, .int .i64 0, .slice none 0 0]
  have hfn := hfindn_any E none 0 0 w1
  rw [zlog_eq] at hfn ⊢
  have HF := Lib.hid hfn
  clear hfn
  have HB1 := Lib.hid hb1
  have HR1 := Lib.hid hR1
  clear hb1 hR1
  go_enter Tryz.func33, Tryz.ntmps33
  go_wp2_with fail
  rw [← hw1]
  clear hw1
  refine HF.out.mono ?_
  rintro e w2 ⟨rfl, hb2⟩
  have HB2 := Lib.hid (HB1.out.trans (hb2.mono HB1.out.size))
  have hR2 := HR1.out.below hb2 HR1.out.size
  have HR2 := Lib.hid hR2
  have z0 := hR2.cell 0 _ rfl
  have z1 := hR2.cell 1 _ rfl
  have z2 := hR2.cell 2 _ rfl
  have z3 := hR2.cell 3 _ rfl
  have z4 := hR2.cell 4 _ rfl
  have z5 := hR2.cell 5 _ rfl
  have z6 := hR2.cell 6 _ rfl
  have z7 := hR2.cell 7 _ rfl
  have y0 := hR2.frozen 0
  have y1 := hR2.frozen 1
  have y2 := hR2.frozen 2
  have y3 := hR2.frozen 3
  have y4 := hR2.frozen 4
  have y5 := hR2.frozen 5
  have y6 := hR2.frozen 6
  have y7 := hR2.frozen 7
  have hrs := hR2.size
  clear hR2 hb2 HF HR1
  go_wp2_with fail
  have hZ := HR2.out
  have hZ := ((((((((hZ.put 0 (.int .i64 0)).put 1 (.int .i64 0)).put 2 (.int .i64 0)).put 3 (.int .i64 0)).put 4 (.slice none 0 0)).put 5 (.int .i64 0)).put 6 (.int .i64 0)).put 7 (.slice none 0 0))
  simp only [List.set] at hZ
  have hZ := hZ.alloc (.cells #[.int .i64 0, .int .i64 0, .int .i64 0, .int .i64 0, .slice none 0 0, .int .i64 0, .int .i64 0, .slice none 0 0] 73)
  have R0 := hZ.cell 0 _ rfl
  have R1 := hZ.cell 1 _ rfl
  have R2 := hZ.cell 2 _ rfl
  have R3 := hZ.cell 3 _ rfl
  have R4 := hZ.cell 4 _ rfl
  have R5 := hZ.cell 5 _ rfl
  have R6 := hZ.cell 6 _ rfl
  have R7 := hZ.cell 7 _ rfl
  exact bodyPost_ret (v := .tuple #[.agg #[.int .i64 0, .int .i64 0, .int .i64 0, .int .i64 0, .slice none 0 0, .int .i64 0, .int .i64 0, .slice none 0 0], .int .i64 1]) (by simp [results, Tryz.results33, go_sem, R0, R1, R2, R3, R4, R5, R6, R7]) rfl ⟨rfl, by refine Below.alloc ?_ (by simp; exact HB2.out.size) _; (repeat (refine Below.setCell ?_ (by simp; try omega) _)); exact HB2.out⟩

set_option maxHeartbeats 4000000 in
set_option maxRecDepth 100000 in
theorem hpshl_any (base q qb p mb : Nat) (Gb Gf G : Nat → Prop) (h : Ch) (b : Bks) (L : List LgV) (x : LgV) (w : World) (k : ChIs w base q qb p mb Gb Gf G h b L) (hx : x ∈ L) (hlt : x.g.epoch < h.lock) :
    Calls Tryz.prog 33 #[.pointer (some ⟨q, 0, none⟩), .int .i64 x.g.epoch] w fun e w' => e = .returned (.tuple #[zlog, .int .i64 15]) ∧ Below w.heap.size w w' := by
  obtain ⟨w1, hw1⟩ : ∃ w1, w1 = w.alloc (.cells #[.int .i64 0, .int .i64 0, .int .i64 0, .int .i64 0, .slice none 0 0, .int .i64 0, .int .i64 0, .slice none 0 0] 73) := ⟨_, rfl⟩
  have hb1 : Below w.heap.size w w1 := by rw [hw1]; exact (Below.refl _ w).alloc (Nat.le_refl _) _
  have hR1 : Whole w1 w.heap.size 73 [.int .i64 0, .int .i64 0, .int .i64 0, .int .i64 0, .slice none 0 0, .int .i64 0, .int .i64 0, .slice none 0 0] := by rw [hw1]; exact Whole.fresh w _ [.int .i64 0, .int .i64 0, .int .i64 0, .int .i64 0, .slice none 0 0, .int .i64 0, .int .i64 0, .slice none 0 0]
  have k1 := k.new hb1
  have hfn := hfind_any base q qb p mb Gb Gf G h b L x [] (.slice none 0 0) w1 k1 hx (Rd.nil _ _) (fun n hn => by cases hn) (by simp)
  rw [LgV.v_eq] at hfn
  rw [zlog_eq]
  have ha1 : ∀ W, Below w1.heap.size w1 W → W.cell? ⟨q, 1, none⟩ = some (.int .i64 h.lock) := fun W hW => (k1.at_.below hW k1.at_.size).cell 1 _ rfl
  have HA := Lib.hid ha1
  have hqs := k1.at_.size
  generalize h.lock = lk at hlt HA
  generalize x.g.epoch = ep at hfn hlt ⊢
  generalize x.g.base = ba at hfn ⊢
  generalize x.g.gone = go at hfn ⊢
  generalize x.g.known = kn at hfn ⊢
  generalize x.f.length = fl at hfn ⊢
  generalize x.h.length = hl at hfn ⊢
  generalize x.F = F at hfn ⊢
  generalize x.H = H at hfn ⊢
  generalize x.nf = nf at hfn ⊢
  generalize x.nh = nh at hfn ⊢
  have HF := Lib.hid hfn
  clear k k1 hfn ha1
  have HB1 := Lib.hid hb1
  have HR1 := Lib.hid hR1
  clear hb1 hR1
  go_enter Tryz.func33, Tryz.ntmps33
  go_wp2_with fail
  rw [← hw1]
  clear hw1
  refine HF.out.mono ?_
  rintro e w2 ⟨rfl, hb2⟩
  have HB2 := Lib.hid (HB1.out.trans (hb2.mono HB1.out.size))
  have hR2 := HR1.out.below hb2 HR1.out.size
  have HR2 := Lib.hid hR2
  have z0 := hR2.cell 0 _ rfl
  have z1 := hR2.cell 1 _ rfl
  have z2 := hR2.cell 2 _ rfl
  have z3 := hR2.cell 3 _ rfl
  have z4 := hR2.cell 4 _ rfl
  have z5 := hR2.cell 5 _ rfl
  have z6 := hR2.cell 6 _ rfl
  have z7 := hR2.cell 7 _ rfl
  have y0 := hR2.frozen 0
  have y1 := hR2.frozen 1
  have y2 := hR2.frozen 2
  have y3 := hR2.frozen 3
  have y4 := hR2.frozen 4
  have y5 := hR2.frozen 5
  have y6 := hR2.frozen 6
  have y7 := hR2.frozen 7
  have hrs := hR2.size
  have a1 := HA.out w2 hb2
  have hqs2 : q < w2.heap.size := Nat.lt_of_lt_of_le hqs hb2.size
  clear hR2 hb2 HF HR1
  go_wp2_with fail
  have hZ := HR2.out
  have hZ := ((((((((hZ.put 0 (.int .i64 0)).put 1 (.int .i64 0)).put 2 (.int .i64 0)).put 3 (.int .i64 0)).put 4 (.slice none 0 0)).put 5 (.int .i64 0)).put 6 (.int .i64 0)).put 7 (.slice none 0 0))
  simp only [List.set] at hZ
  have hZ := hZ.alloc (.cells #[.int .i64 2, .int .i64 ep, .int .i64 ba, .int .i64 0, .slice F fl nf, .int .i64 go, .int .i64 kn, .slice H hl nh] 73)
  have R0 := hZ.cell 0 _ rfl
  have R1 := hZ.cell 1 _ rfl
  have R2 := hZ.cell 2 _ rfl
  have R3 := hZ.cell 3 _ rfl
  have R4 := hZ.cell 4 _ rfl
  have R5 := hZ.cell 5 _ rfl
  have R6 := hZ.cell 6 _ rfl
  have R7 := hZ.cell 7 _ rfl
  exact bodyPost_ret (v := .tuple #[.agg #[.int .i64 0, .int .i64 0, .int .i64 0, .int .i64 0, .slice none 0 0, .int .i64 0, .int .i64 0, .slice none 0 0], .int .i64 15]) (by simp [results, Tryz.results33, go_sem, R0, R1, R2, R3, R4, R5, R6, R7]) rfl ⟨rfl, by refine Below.alloc ?_ (by simp; exact HB2.out.size) _; (repeat (refine Below.setCell ?_ (by simp; try omega) _)); exact HB2.out⟩

set_option maxHeartbeats 4000000 in
set_option maxRecDepth 100000 in
theorem hpsh_any (base q qb p mb : Nat) (Gb Gf G : Nat → Prop) (h : Ch) (b : Bks) (L : List LgV) (x : LgV) (w : World) (k : ChIs w base q qb p mb Gb Gf G h b L) (hx : x ∈ L) (hlt : ¬ x.g.epoch < h.lock) :
    Calls Tryz.prog 33 #[.pointer (some ⟨q, 0, none⟩), .int .i64 x.g.epoch] w fun e w' => e = .returned (.tuple #[x.v, .int .i64 0]) ∧ Below w.heap.size w w' := by
  obtain ⟨w1, hw1⟩ : ∃ w1, w1 = w.alloc (.cells #[.int .i64 0, .int .i64 0, .int .i64 0, .int .i64 0, .slice none 0 0, .int .i64 0, .int .i64 0, .slice none 0 0] 73) := ⟨_, rfl⟩
  have hb1 : Below w.heap.size w w1 := by rw [hw1]; exact (Below.refl _ w).alloc (Nat.le_refl _) _
  have hR1 : Whole w1 w.heap.size 73 [.int .i64 0, .int .i64 0, .int .i64 0, .int .i64 0, .slice none 0 0, .int .i64 0, .int .i64 0, .slice none 0 0] := by rw [hw1]; exact Whole.fresh w _ [.int .i64 0, .int .i64 0, .int .i64 0, .int .i64 0, .slice none 0 0, .int .i64 0, .int .i64 0, .slice none 0 0]
  have k1 := k.new hb1
  have hfn := hfind_any base q qb p mb Gb Gf G h b L x [] (.slice none 0 0) w1 k1 hx (Rd.nil _ _) (fun n hn => by cases hn) (by simp)
  rw [LgV.v_eq] at hfn
  rw [LgV.v_eq]
  have ha1 : ∀ W, Below w1.heap.size w1 W → W.cell? ⟨q, 1, none⟩ = some (.int .i64 h.lock) := fun W hW => (k1.at_.below hW k1.at_.size).cell 1 _ rfl
  have HA := Lib.hid ha1
  have hqs := k1.at_.size
  generalize h.lock = lk at hlt HA
  generalize x.g.epoch = ep at hfn hlt ⊢
  generalize x.g.base = ba at hfn ⊢
  generalize x.g.gone = go at hfn ⊢
  generalize x.g.known = kn at hfn ⊢
  generalize x.f.length = fl at hfn ⊢
  generalize x.h.length = hl at hfn ⊢
  generalize x.F = F at hfn ⊢
  generalize x.H = H at hfn ⊢
  generalize x.nf = nf at hfn ⊢
  generalize x.nh = nh at hfn ⊢
  have HF := Lib.hid hfn
  clear k k1 hfn ha1
  have HB1 := Lib.hid hb1
  have HR1 := Lib.hid hR1
  clear hb1 hR1
  go_enter Tryz.func33, Tryz.ntmps33
  go_wp2_with fail
  rw [← hw1]
  clear hw1
  refine HF.out.mono ?_
  rintro e w2 ⟨rfl, hb2⟩
  have HB2 := Lib.hid (HB1.out.trans (hb2.mono HB1.out.size))
  have hR2 := HR1.out.below hb2 HR1.out.size
  have HR2 := Lib.hid hR2
  have z0 := hR2.cell 0 _ rfl
  have z1 := hR2.cell 1 _ rfl
  have z2 := hR2.cell 2 _ rfl
  have z3 := hR2.cell 3 _ rfl
  have z4 := hR2.cell 4 _ rfl
  have z5 := hR2.cell 5 _ rfl
  have z6 := hR2.cell 6 _ rfl
  have z7 := hR2.cell 7 _ rfl
  have y0 := hR2.frozen 0
  have y1 := hR2.frozen 1
  have y2 := hR2.frozen 2
  have y3 := hR2.frozen 3
  have y4 := hR2.frozen 4
  have y5 := hR2.frozen 5
  have y6 := hR2.frozen 6
  have y7 := hR2.frozen 7
  have hrs := hR2.size
  have a1 := HA.out w2 hb2
  have hqs2 : q < w2.heap.size := Nat.lt_of_lt_of_le hqs hb2.size
  clear hR2 hb2 HF HR1
  go_wp2_with fail
  have hZ := HR2.out
  have hZ := ((((((((hZ.put 0 (.int .i64 2)).put 1 (.int .i64 ep)).put 2 (.int .i64 ba)).put 3 (.int .i64 0)).put 4 (.slice F fl nf)).put 5 (.int .i64 go)).put 6 (.int .i64 kn)).put 7 (.slice H hl nh))
  simp only [List.set] at hZ
  have hZ := hZ.alloc (.cells #[.int .i64 2, .int .i64 ep, .int .i64 ba, .int .i64 0, .slice F fl nf, .int .i64 go, .int .i64 kn, .slice H hl nh] 73)
  have R0 := hZ.cell 0 _ rfl
  have R1 := hZ.cell 1 _ rfl
  have R2 := hZ.cell 2 _ rfl
  have R3 := hZ.cell 3 _ rfl
  have R4 := hZ.cell 4 _ rfl
  have R5 := hZ.cell 5 _ rfl
  have R6 := hZ.cell 6 _ rfl
  have R7 := hZ.cell 7 _ rfl
  exact bodyPost_ret (v := .tuple #[.agg #[.int .i64 2, .int .i64 ep, .int .i64 ba, .int .i64 0, .slice F fl nf, .int .i64 go, .int .i64 kn, .slice H hl nh], .int .i64 0]) (by simp [results, Tryz.results33, go_sem, R0, R1, R2, R3, R4, R5, R6, R7]) rfl ⟨rfl, by refine Below.alloc ?_ (by simp; exact HB2.out.size) _; (repeat (refine Below.setCell ?_ (by simp; try omega) _)); exact HB2.out⟩

set_option maxHeartbeats 4000000 in
set_option maxRecDepth 100000 in
theorem hnone_live (e : Int) (w : World) : Calls Tryz.prog 14 #[.pointer none, .int .i64 e] w fun o w' => o = .returned (.int .i64 1) ∧ Below w.heap.size w w' := by
  have hp := hpshn_any e w
  rw [zlog_eq] at hp
  have HP := Lib.hid hp
  clear hp
  go_enter Tryz.func14, Tryz.ntmps14
  go_wp2_with fail
  refine HP.out.mono ?_
  rintro e w2 ⟨rfl, hb2⟩
  have HB2 := Lib.hid hb2
  clear hb2 HP
  go_wp2_with fail
  go_ret
  exact ⟨rfl, HB2.out.alloc HB2.out.size _⟩

set_option maxHeartbeats 4000000 in
set_option maxRecDepth 100000 in
theorem hlivel_any (base q qb p mb : Nat) (Gb Gf G : Nat → Prop) (h : Ch) (b : Bks) (L : List LgV) (x : LgV) (w : World) (k : ChIs w base q qb p mb Gb Gf G h b L) (hx : x ∈ L) (hlt : x.g.epoch < h.lock) :
    Calls Tryz.prog 14 #[.pointer (some ⟨q, 0, none⟩), .int .i64 x.g.epoch] w fun o w' => o = .returned (.int .i64 15) ∧ Below w.heap.size w w' := by
  have hp := hpshl_any base q qb p mb Gb Gf G h b L x w k hx hlt
  rw [zlog_eq] at hp
  clear k hx hlt
  have HP := Lib.hid hp
  clear hp
  go_enter Tryz.func14, Tryz.ntmps14
  go_wp2_with fail
  refine HP.out.mono ?_
  rintro e w2 ⟨rfl, hb2⟩
  have HB2 := Lib.hid hb2
  clear hb2 HP
  go_wp2_with fail
  go_ret
  exact ⟨rfl, HB2.out.alloc HB2.out.size _⟩

set_option maxHeartbeats 4000000 in
set_option maxRecDepth 100000 in
theorem hliveo_any (base q qb p mb : Nat) (Gb Gf G : Nat → Prop) (h : Ch) (b : Bks) (L : List LgV) (x : LgV) (w : World) (k : ChIs w base q qb p mb Gb Gf G h b L) (hx : x ∈ L) (hlt : ¬ x.g.epoch < h.lock) :
    Calls Tryz.prog 14 #[.pointer (some ⟨q, 0, none⟩), .int .i64 x.g.epoch] w fun o w' => o = .returned (.int .i64 0) ∧ Below w.heap.size w w' := by
  have hp := hpsh_any base q qb p mb Gb Gf G h b L x w k hx hlt
  rw [LgV.v_eq] at hp
  clear k hx hlt
  have HP := Lib.hid hp
  clear hp
  go_enter Tryz.func14, Tryz.ntmps14
  go_wp2_with fail
  refine HP.out.mono ?_
  rintro e w2 ⟨rfl, hb2⟩
  have HB2 := Lib.hid hb2
  clear hb2 HP
  go_wp2_with fail
  go_ret
  exact ⟨rfl, HB2.out.alloc HB2.out.size _⟩

theorem hlive_any (base q : Nat) (G : Nat → Prop) (h : Ch) (e : Int) (w : World) (he : 1 ≤ e ∧ e < 4611686018427387904) (hh : ChAt w base q G h) (h1 : ∃ g, h.logs = [g] ∧ g.epoch = e) :
    Calls Tryz.prog 14 #[.pointer (some ⟨q, 0, none⟩), .int .i64 e] w fun o w' => o = .returned (.int .i64 (h.live e)) ∧ Below w.heap.size w w' := by
  obtain ⟨qb, p, mb, Gb, Gf, b, L, k⟩ := hh
  obtain ⟨g, h1, rfl⟩ := h1
  obtain ⟨x, rfl, rfl⟩ := k.one h1
  obtain ⟨logs, lock, units, room⟩ := h
  simp only at h1
  subst h1
  rw [Ch.live_one]
  by_cases hl : x.g.epoch < lock
  · rw [if_pos hl]
    exact hlivel_any base q qb p mb Gb Gf G _ b [x] x w k (by simp) hl
  · rw [if_neg hl]
    exact hliveo_any base q qb p mb Gb Gf G _ b [x] x w k (by simp) hl
end Go.Proofs.YtmigninibdecmaaGreat
