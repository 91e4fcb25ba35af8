/- Arguments of the laws as data: slices of bytes, nil or not. -/
import Derived.Test.YtjkhdlmdgdcimaaLaw
import Derived.Test.YtjkhdlmdgdcimaaByte
import Derived.Lib.SmallJoins
import Derived.Deep.Slices
import Derived.ChangeSame
namespace Go.Proofs.Ytjkhdlmdgdcimaa
open Go.ChangeShapes Go.WideShapes Go.ChangeAt Go.RowKit Go.Joins Go.Deep

set_option maxRecDepth 100000 in
theorem addr_add (a : Addr) (n : Nat) (h : a.spot = none) : a.add n = ⟨a.block, a.off + n, none⟩ := by
  unfold Addr.add
  cases a with
  | mk b o s => simp only at h; subst h; split <;> simp_all

/-- what is known of the data of bytes -/
def SizedB {H : Type} (d : DataW H) (l : List UInt8) : Prop := (d = .nil ∧ l = []) ∨ ∃ el sp, d = .slice el sp ∧ el.length = l.length

set_option maxRecDepth 100000 in
/-- a slice of bytes that came in reads as a list -/
theorem open_bytes {H : Type} {enc : TypeId × Value → H} {W : World} {base : Nat} {v : Value} {d : DataW H} {p : List MemPlace} (hv : Value.okWide Try.prog W .any base 32 v) (h : DataW.Trod enc Try.prog W 0 (fun _ => true) true 32 v d p) :
    ∃ l, RdB W W.heap.size v l ∧ SizedB d l := by
  obtain ⟨a0, len, cap, rfl⟩ := okWide_slice Try.underlying32 hv
  obtain ⟨fuel, hf⟩ := h
  rcases open_ints Try.underlying32 Try.underlying5 (by kernel_rfl) hf with ⟨hcs, hx⟩ | ⟨a, len', cap', zs, hcs, _, hl, hm, hz, hx, hcell, hwz⟩
  · simp only [Value.cells] at hcs
    have e : Value.slice a0 len cap = .slice none 0 0 := by simpa using hcs
    injection e with e1 e2 e3
    subst e1 e2 e3
    simp only [Prod.mk.injEq] at hx
    exact ⟨[], Rd.nil _ _, .inl ⟨hx.1, rfl⟩⟩
  · simp only [Value.cells] at hcs
    have e : Value.slice a0 len cap = .slice (some a) len' cap' := by simpa using hcs
    injection e with e1 e2 e3
    subst e1 e2 e3
    simp only [Prod.mk.injEq] at hx
    obtain ⟨rfl, rfl⟩ := hx
    simp only [if_true] at hz
    have hb : ∀ n ∈ zs, 0 ≤ n ∧ n < 256 := fun n hn => by
      have h := hwz n hn
      have h1 : IntKind.u8.min = 0 := rfl
      have h2 : IntKind.u8.max = 255 := rfl
      simp only [Lit.wf, Bool.and_eq_true, decide_eq_true_eq] at h
      omega
    refine ⟨(zs.take len).map fun n => UInt8.ofNat n.toNat, ?_, .inr ⟨_, _, rfl, by simp [lits]⟩⟩
    have hlen : ((zs.take len).map fun n => UInt8.ofNat n.toNat).length = len := by simp; omega
    refine ⟨some a, cap, by rw [hlen], by rw [hlen]; exact hl, fun i hi => ?_⟩
    have hi' : i < len := by omega
    have hc := hcell i (by omega)
    have hsp : a.spot = none := by
      have h0 := hcell 0 (by omega)
      have e0 : a.add 0 = a := rfl
      rw [e0] at h0
      exact World.cell?_spot h0
    rw [addr_add a i hsp] at hc
    have hblk := World.block_lt_of_cell? _ _ hc
    refine ⟨a.block, a.off, by cases a; simp only at hsp; subst hsp; rfl, hblk, fun j u hu => ?_⟩
    match j, hu with
    | 0, hu =>
      simp only [byteEnc, List.getElem?_cons_zero, Option.some.injEq] at hu
      subst hu
      have hlt : i < zs.length := by omega
      have := hb zs[i] (List.getElem_mem hlt)
      rw [Nat.mul_one, Nat.add_zero, hc]
      simp [List.getD, hlt]
      omega
    | j + 1, hu => simp [byteEnc] at hu

set_option maxRecDepth 100000 in
theorem SizedB.reach {H : Type} {ts : List TypeId} {ds : List (DataW H)} (h : (DataW.weightsEach Try.prog ts ds).all (· ≤ reachBytes) = true) {j : Nat} {d : DataW H} {l : List UInt8} (hs : SizedB d l) (ht : ts[j]? = some 32) (hd : ds[j]? = some d) : l.length ≤ 140737488351232 := by
  rcases hs with ⟨_, rfl⟩ | ⟨el, sp, rfl, he⟩
  · simp
  · have := sized_slice h ht hd Try.underlying32
    rw [show Try.prog.bytesOf 5 = 1 by kernel_rfl, show reachBytes = 140737488351232 from rfl] at this
    omega

end Go.Proofs.Ytjkhdlmdgdcimaa
