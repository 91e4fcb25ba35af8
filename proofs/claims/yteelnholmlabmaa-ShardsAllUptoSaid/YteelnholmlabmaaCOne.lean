/- One change as a row of its own. -/
import Derived.Test.YteelnholmlabmaaRAll
namespace Go.Proofs.Yteelnholmlabmaa
open Go.RowKit

theorem RdC.one (w : World) (s : Chg) : RdC (w.alloc (.cells #[.int .i64 s.kind, .string s.key, .string s.val] 67)) (w.heap.size + 1) (.slice (some ⟨w.heap.size, 0, none⟩) 1 1) [s] := by
  refine ⟨_, 1, rfl, Nat.le_refl _, fun i hi => ⟨w.heap.size, 0, rfl, Nat.lt_succ_self _, fun j u hu => ?_⟩⟩
  obtain rfl : i = 0 := by simp at hi; omega
  match j, hu with
  | 0, hu =>
    simp only [encC, List.getElem_cons_zero, List.getElem?_cons_zero, Option.some.injEq] at hu
    subst hu
    exact World.cell?_alloc_at _ _ _ _ rfl
  | 1, hu =>
    simp only [encC, List.getElem_cons_zero, List.getElem?_cons_succ, List.getElem?_cons_zero, Option.some.injEq] at hu
    subst hu
    exact World.cell?_alloc_at _ _ _ _ rfl
  | 2, hu =>
    simp only [encC, List.getElem_cons_zero, List.getElem?_cons_succ, List.getElem?_cons_zero, Option.some.injEq] at hu
    subst hu
    exact World.cell?_alloc_at _ _ _ _ rfl
  | j + 3, hu => simp [encC] at hu
end Go.Proofs.Yteelnholmlabmaa
