/- How what the heap says of the councils follows their steps; an append to what a ballot was told. -/
import Derived.Test.YtjmojlhebjbgaaaOnC
namespace Go.Proofs.Ytjmojlhebjbgaaa
open Go.RowKit

theorem PlanB.pass {P : Program} {ops : Array Oper} {Q : Exit → Act → World → Prop} {i : Nat} {o : Oper} {r : List (Bool × Nat)} {a : Act} {w : World} (hi : ops.toList[i]? = some o) (hw : Region.wanted o (yielded ops a.tmps) = false)
    (h : PlanB P ops Q r (a.put o.dst undef) w) : PlanB P ops Q ((false, i) :: r) a w := by
  show wpOp P ops Q i _ a w
  unfold wpOp
  have hi' : ops[i]? = some o := by simpa using hi
  simp only [hi', hw, Bool.false_eq_true, if_false]
  exact ⟨Below.refl _ _, h⟩
section
variable {s : Px} {n c k : Nat} {V : Nat → Ev} {R : Nat → List Ew} {M : Nat → Eq4} {Q K : Nat → Nat → Bool} {z : Ev}
theorem Lk.put (L : Lk s n V R M Q K) (hz : z.vw = vowOf (s.p c) (s.a c) (s.t c)) : Lk s n (fun y => if y = c then z else V y) R M Q K :=
  ⟨fun y hy => by
    by_cases e : y = c
    · subst e; simp only [if_true]; exact hz
    · simp only [if_neg e]; exact L.v y hy, L.r, L.m, L.q, L.x⟩
theorem Lk.promise (L : Lk s n V R M Q K) (hz : z.vw = vowOf (k + 1) (s.a c) (s.t c)) : Lk (s.promise c k) n (fun y => if y = c then z else V y) R M Q K :=
  ⟨fun y hy => by
    unfold Px.promise
    by_cases e : y = c
    · subst e; simp only [if_true]; exact hz
    · simp only [if_neg e]; exact L.v y hy, L.r, L.m, L.q, L.x⟩
theorem Lk.tell (L : Lk s n V R M Q K) (hk : k < 6) (hz : z.vw = vowOf (k + 1) (s.a c) (s.t c)) : Lk (s.tell c k) n V (fun j => if j = k then R k ++ [z.ew] else R j) M (fun j => if j = k then (fun y => if y = c then true else Q k y) else Q j) K :=
  ⟨L.v, fun j hj => by
    unfold Px.tell
    by_cases e : j = k
    · subst e
      simp only [if_true]
      rw [List.map_append, L.r j hj, toldOf_append]
      simp only [List.map_cons, List.map_nil]
      rw [show z.ew.x = z.vw from rfl, hz]
    · simp only [if_neg e]; exact L.r j hj, L.m, fun j hj y hy => by
    unfold Px.tell
    by_cases e : j = k
    · subst e
      simp only [if_true, true_and]
      by_cases e2 : y = c
      · simp [e2]
      · simp only [if_neg e2]; exact L.q j hj y hy
    · simp only [e, false_and, if_false]; exact L.q j hj y hy, L.x⟩
theorem Lk.fix {x : Nat} {m : Eq4} (L : Lk s n V R M Q K) (hm : m.g = (x : Int) ∧ m.e = (x : Int) ∧ m.r = 0) : Lk (s.fix k x) n V R (fun j => if j = k then m else M j) Q K :=
  ⟨L.v, L.r, fun j hj => by
    unfold Px.fix
    by_cases e : j = k
    · subst e; simp only [if_true]; exact hm
    · simp only [if_neg e]; exact L.m j hj, L.q, L.x⟩
theorem Lk.take (L : Lk s n V R M Q K) (hz : z.vw = vowOf (k + 1) (k + 1) (s.mine k)) : Lk (s.take c k) n (fun y => if y = c then z else V y) R M Q (fun j => if j = k then (fun y => if y = c then true else K k y) else K j) :=
  ⟨fun y hy => by
    unfold Px.take
    by_cases e : y = c
    · subst e; simp only [if_true]; exact hz
    · simp only [if_neg e]; exact L.v y hy, L.r, L.m, L.q, fun j hj y hy => by
    unfold Px.take
    by_cases e : j = k
    · subst e
      simp only [if_true, true_and]
      by_cases e2 : y = c
      · simp [e2]
      · simp only [if_neg e2]; exact L.x j hj y hy
    · simp only [e, false_and, if_false]; exact L.x j hj y hy⟩
end
theorem wp_addEwN {o : Oper} {a : Act} {KK : Act → World → Prop} {QQ : Exit → Act → World → Prop} {w : World} (s x : Operand) (ho : o.op = .call { callee := .builtin .append, args := #[s, x], argTypes := #[37, 37] })
    (base : Nat) (v : Value) (l : List Ew) (hs : a.eval s = v) (hown : OwnEw w base v l) (B : Nat) (v2 : Value) (p : List Ew) (hx : a.eval x = v2) (hp : RdEw w B v2 p) (hl : l.length + p.length ≤ 1000) (hbase : base ≤ w.heap.size)
    (h : ∀ A' c' w', Hid (OwnEw w' base (.slice A' (l ++ p).length c') (l ++ p)) → Hid (w.grownBy w' v.ownBlock) → Hid (NewRow w v.ownBlock (Value.ownBlock (.slice A' (l ++ p).length c'))) → KK (a.put o.dst (.slice A' (l ++ p).length c')) w') : Oper.wp Try.prog o a w KK QQ := by
  obtain ⟨i0, hi, hz0, hz1, hz2⟩ := info_parts info_vow
  exact wp_addAnyN (enc := encEw) (k := 8) 37 31 80 i0 _ Try.underlying37 hi hz0 hz1 hz2 rfl (by decide) encEw_len encEw_one s x ho base v l hs hown B v2 p hx hp (by unfold maxLen; omega) (by omega) hbase fun A' c' w' h1 h2 h3 => h A' c' w' (Lib.hid h1) (Lib.hid h2) (Lib.hid h3)
/-- a row of vows that has grown and is put into its place, told as one -/
theorem Hp.told {w w1 : World} {I : Ids} {b0 n : Nat} {V : Nat → Ev} {T : Nat → Value} {R : Nat → List Ew} {M : Nat → Eq4} {Q K : Nat → Nat → Bool} {C : Eq4} (H : Hp w I b0 n V T R M Q K C) {k : Nat} (hk : k < 6) {T0 : Value} {R0 : List Ew}
    (ho : OwnEw w1 I.top T0 R0) (hg : w.grownBy w1 (T k).ownBlock) (hn : NewRow w (T k).ownBlock T0.ownBlock) : Hp (w1.setCell ⟨I.t, k, none⟩ T0) I b0 n V (fun j => if j = k then T0 else T j) (fun j => if j = k then R0 else R j) M Q K C := by
  have o := H.ids.o
  have hlow := fun b (hb : (T k).ownBlock = some b) => (Own.low (H.r k hk) hb).1
  have hm : Mv (fun b => b = I.t ∨ (T k).ownBlock = some b) w (w1.setCell ⟨I.t, k, none⟩ T0) := ((Mv.of_grown hg).mono (D' := fun b => b = I.t ∨ (T k).ownBlock = some b) fun i _ h => .inr h.symm).setCell (p := ⟨I.t, k, none⟩) (fun _ => .inl rfl) T0
  refine H.setT hk hm ?_ ?_ hn
  · have ht := H.t.mv (Mv.of_grown hg) (fun h => by have := hlow I.t h.symm; omega)
    have := Tab.set encV1_len ht hk 0 T0 T0 (by decide) rfl
    simpa using this
  · refine Own.mvG ho (D := fun b => b = I.t) ((Mv.refl (fun b => b = I.t) w1).setCell (p := ⟨I.t, k, none⟩) (fun _ => rfl) T0) fun g hg h => ?_
    have := (Own.low ho hg).1
    have h : g = I.t := h
    omega
end Go.Proofs.Ytjmojlhebjbgaaa
