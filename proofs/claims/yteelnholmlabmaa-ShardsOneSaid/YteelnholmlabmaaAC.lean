/- append of changes, with what stands below told (for seats without the reference's Spans). -/
import Derived.Test.YteelnholmlabmaaRCut
namespace Go.Proofs.Yteelnholmlabmaa
open Go.RowKit
theorem wpList_addC {ops : Array Oper} {rest : List Oper} {o : Oper} {a : Act} {Q : Exit → Act → World → Prop} {w : World} (hgd : Region.wanted o (yielded ops a.tmps) = true) (s x : Operand)
    (ho : o.op = .call { callee := .builtin .append, args := #[s, x], argTypes := #[36, 36] })
    (base : Nat) (v : Value) (l : List Chg) (hs : a.eval s = v) (hown : OwnC w base v l) (B : Nat) (v2 : Value) (p : List Chg) (hx : a.eval x = v2) (hp : RdC w B v2 p)
    (hlen : l.length + p.length ≤ 5629499533000) (hbase : base ≤ w.heap.size) (C : Nat) (w0 : World) (hb : Below C w0 w) (hC : C ≤ base)
    (h : ∀ A' c' w', Hid (OwnC w' base (.slice A' (l ++ p).length c') (l ++ p)) → Hid (Below C w0 w') → Hid (base ≤ w'.heap.size) → wpList Try.prog ops Q rest (a.put o.dst (.slice A' (l ++ p).length c')) w') : wpList Try.prog ops Q (o :: rest) a w :=
  wpList_addCg hgd s x ho base v l hs hown B v2 p hx hp hlen hbase C w0 hb hC fun A' c' w' h1 h2 h3 _ => h A' c' w' h1 h2 h3
end Go.Proofs.Yteelnholmlabmaa
