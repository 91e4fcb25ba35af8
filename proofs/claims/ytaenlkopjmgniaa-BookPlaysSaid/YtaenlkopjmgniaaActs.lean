/- Acts of a book as they come in. -/
import Derived.Test.YtaenlkopjmgniaaRws
namespace Go.Proofs.Ytaenlkopjmgniaa
open Go.RowKit

/-- one act, as it came in -/
structure BAct where
  what : Int
  n : Int
  a : Option Addr
  c : Nat
  rows : List Row
  turn : UInt8
def encBA (a : BAct) : List Value := [.int .i64 a.what, .int .i64 a.n, .slice a.a a.rows.length a.c, .int .u8 (a.turn.toNat : Int)]
theorem RdBA.at {w : World} {B : Nat} {v : Value} {l : List BAct} (h : Rd encBA 4 w B v l) : ∃ A c, v = .slice A l.length c ∧ l.length ≤ c ∧ ∀ i (_ : i < l.length), ∃ b o, A = some ⟨b, o, none⟩ ∧ b < B ∧
    w.cell? ⟨b, o + i * 4, none⟩ = some (.int .i64 l[i].what) ∧ w.cell? ⟨b, o + i * 4 + 1, none⟩ = some (.int .i64 l[i].n) ∧ w.cell? ⟨b, o + i * 4 + 2, none⟩ = some (.slice l[i].a l[i].rows.length l[i].c) ∧ w.cell? ⟨b, o + i * 4 + 3, none⟩ = some (.int .u8 (l[i].turn.toNat : Int)) := by
  obtain ⟨A, c, hv, hc, hi⟩ := h
  refine ⟨A, c, hv, hc, fun i hs => ?_⟩
  obtain ⟨b, o, hA, hB, h1⟩ := hi i hs
  exact ⟨b, o, hA, hB, h1 0 _ rfl, h1 1 _ rfl, h1 2 _ rfl, h1 3 _ rfl⟩
theorem texts_len (r : List Row) : (texts r).length = r.length := by simp [texts]

end Go.Proofs.Ytaenlkopjmgniaa
