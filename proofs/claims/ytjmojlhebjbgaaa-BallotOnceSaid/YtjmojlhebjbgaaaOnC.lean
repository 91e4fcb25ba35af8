/- What the calls of BallotOnce answer, told with cells alone. -/
import Derived.Test.YtjmojlhebjbgaaaFal
import Derived.Test.YtjmojlhebjbgaaaFag
namespace Go.Proofs.Ytjmojlhebjbgaaa
open Go.RowKit

theorem RdI.none (w : World) (B : Nat) (A : Option Addr) (c : Nat) : RdI w B (.slice A 0 c) [] := ⟨A, c, rfl, Nat.zero_le _, fun i hi => by simp at hi⟩
theorem balOf_int (k : Nat) : balOf (k + 1) = ((k : Int) + 1, (k : Int) % 2) := by
  rw [balOf_succ]
  ext <;> simp
theorem promise_ev (x : Ev) (p a t k : Nat) (hx : x.vw = vowOf p a t) (W : World) :
    Calls Try.prog 12 #[.agg #[.int .i64 x.p1, .int .i64 x.p2, .int .i64 x.a1, .int .i64 x.a2, .int .i64 x.g, .int .i64 x.e, .int .i64 x.r, .slice x.A 0 x.c], .agg #[.int .i64 ((k : Int) + 1), .int .i64 ((k : Int) % 2)]] W fun e w' =>
      ∃ z : Ev, e = .returned (.tuple #[.agg #[.int .i64 z.p1, .int .i64 z.p2, .int .i64 z.a1, .int .i64 z.a2, .int .i64 z.g, .int .i64 z.e, .int .i64 z.r, .slice z.A 0 z.c], .bool (decide (p < k + 1))]) ∧ z.vw = (if p < k + 1 then vowOf (k + 1) a t else vowOf p a t) ∧ Below W.heap.size W w' := by
  have h := ppromise_at x.vw ((k : Int) + 1, (k : Int) % 2) x.A x.c W (RdI.none _ _ _ _) (by simp [Ev.vw])
  refine Calls.mono h ?_
  rintro e w' ⟨A', c', rfl, _, hb⟩
  have hp : promV x.vw ((k : Int) + 1, (k : Int) % 2) = if p < k + 1 then vowOf (k + 1) a t else vowOf p a t := by rw [hx, ← balOf_int, promV_of]
  have hl : lessB x.vw.prom ((k : Int) + 1, (k : Int) % 2) = decide (p < k + 1) := by
    rw [hx, ← balOf_int, show (vowOf p a t).prom = balOf p from rfl, lessB_of]
  have hn : (promV x.vw ((k : Int) + 1, (k : Int) % 2)).took.chests = [] := by rw [hp]; split <;> rfl
  rw [hl]
  generalize promV x.vw ((k : Int) + 1, (k : Int) % 2) = y at hp hn
  refine ⟨⟨y.prom.1, y.prom.2, y.at'.1, y.at'.2, y.took.gen, y.took.epoch, y.took.recd, A', c'⟩, ?_, ?_, hb⟩
  · unfold vwv
    rw [hn]; rfl
  · rw [Ev.of hn]; exact hp
theorem take_ev (x : Ev) (m : Eq4) (p a t k u : Nat) (hx : x.vw = vowOf p a t) (hm : m.g = (u : Int) ∧ m.e = (u : Int) ∧ m.r = 0) (W : World) :
    Calls Try.prog 14 #[.agg #[.int .i64 x.p1, .int .i64 x.p2, .int .i64 x.a1, .int .i64 x.a2, .int .i64 x.g, .int .i64 x.e, .int .i64 x.r, .slice x.A 0 x.c], .agg #[.int .i64 ((k : Int) + 1), .int .i64 ((k : Int) % 2)], .agg #[.int .i64 m.g, .int .i64 m.e, .int .i64 m.r, .slice m.A 0 m.c]] W fun e w' =>
      ∃ z : Ev, e = .returned (.tuple #[.agg #[.int .i64 z.p1, .int .i64 z.p2, .int .i64 z.a1, .int .i64 z.a2, .int .i64 z.g, .int .i64 z.e, .int .i64 z.r, .slice z.A 0 z.c], .bool (!decide (k + 1 < p))]) ∧ z.vw = (if k + 1 < p then vowOf p a t else vowOf (k + 1) (k + 1) u) ∧ Below W.heap.size W w' := by
  have h := ptake_at x.vw ((k : Int) + 1, (k : Int) % 2) ⟨m.g, m.e, m.r, []⟩ x.A x.c m.A m.c W (RdI.none _ _ _ _) (RdI.none _ _ _ _) (by simp [Ev.vw]) (by simp)
  refine Calls.mono h ?_
  rintro e w' ⟨A', c', rfl, _, hb⟩
  have hs : (⟨m.g, m.e, m.r, []⟩ : Sta) = staOf u := by rw [hm.1, hm.2.1, hm.2.2]; rfl
  have hp : takeV x.vw ((k : Int) + 1, (k : Int) % 2) ⟨m.g, m.e, m.r, []⟩ = if k + 1 < p then vowOf p a t else vowOf (k + 1) (k + 1) u := by rw [hx, hs, ← balOf_int, takeV_of]
  have hl : lessB ((k : Int) + 1, (k : Int) % 2) x.vw.prom = decide (k + 1 < p) := by
    rw [hx, ← balOf_int, show (vowOf p a t).prom = balOf p from rfl, lessB_of]
  have hn : (takeV x.vw ((k : Int) + 1, (k : Int) % 2) ⟨m.g, m.e, m.r, []⟩).took.chests = [] := by rw [hp]; split <;> rfl
  rw [hl]
  generalize takeV x.vw ((k : Int) + 1, (k : Int) % 2) ⟨m.g, m.e, m.r, []⟩ = y at hp hn
  refine ⟨⟨y.prom.1, y.prom.2, y.at'.1, y.at'.2, y.took.gen, y.took.epoch, y.took.recd, A', c'⟩, ?_, ?_, hb⟩
  · unfold vwv
    rw [hn]; rfl
  · rw [Ev.of hn]; exact hp
theorem best_e4 (R : List Ew) (tl : List (Nat × Nat)) (p : Nat) (hR : R.map (·.x) = toldOf p tl) (hl : R.length < 4611686018427387904) (A : Option Addr) (c : Nat) (W : World) (hv : RdEw W W.heap.size (.slice A R.length c) R) :
    Calls Try.prog 18 #[.slice A R.length c] W fun e w' => ∃ z : Eq4, e = .returned (.agg #[.int .i64 z.g, .int .i64 z.e, .int .i64 z.r, .slice z.A 0 z.c]) ∧ (z.g = (bestT tl : Int) ∧ z.e = (bestT tl : Int) ∧ z.r = 0) ∧ Below W.heap.size W w' := by
  have hno : ∀ e ∈ R, e.x.took.chests = [] := fun e he => toldOf_none (p := p) (l := tl) (by rw [← hR]; exact List.mem_map.2 ⟨e, he, rfl⟩)
  have h := pbest_at R _ W hv (fun e he => by unfold Ew.v; rw [hno e he]; exact RdI.none _ _ _ _) hl (fun e he => by rw [hno e he]; simp) (staOf (bestT tl)) (by rw [hR, best_told])
  refine Calls.mono h ?_
  rintro e w' ⟨A', c', rfl, _, hb⟩
  exact ⟨⟨(bestT tl : Int), (bestT tl : Int), 0, A', c'⟩, rfl, ⟨rfl, rfl, rfl⟩, hb⟩
theorem same_e4 (x y : Eq4) (u : Nat) (hx : x.g = (u : Int) ∧ x.e = (u : Int) ∧ x.r = 0) (hy : y.g = (u : Int) ∧ y.e = (u : Int) ∧ y.r = 0) (W : World) :
    Calls Try.prog 17 #[.agg #[.int .i64 x.g, .int .i64 x.e, .int .i64 x.r, .slice x.A 0 x.c], .agg #[.int .i64 y.g, .int .i64 y.e, .int .i64 y.r, .slice y.A 0 y.c]] W fun e w' => e = .returned (.bool true) ∧ Below W.heap.size W w' := by
  have h := sameS_eq (staOf u) (by simp [staOf]) (.slice x.A 0 x.c) (.slice y.A 0 y.c) W (RdI.none _ _ _ _) (RdI.none _ _ _ _)
  unfold sval staOf at h
  rw [hx.1, hx.2.1, hx.2.2, hy.1, hy.2.1, hy.2.2]
  exact h
end Go.Proofs.Ytjmojlhebjbgaaa
