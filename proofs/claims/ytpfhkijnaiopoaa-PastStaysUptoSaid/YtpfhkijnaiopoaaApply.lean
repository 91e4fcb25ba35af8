/- What Apply answers; how many bytes changes weigh. -/
import Derived.Test.YtpfhkijnaiopoaaAfter
namespace Go.Proofs.Ytpfhkijnaiopoaa
open Go.RowKit
attribute [local go_sem] less_eq same_eq le_eq ge_eq gt_eq

/-- what Apply answers: an error, or pairs of the call's own -/
def ApplyIs (w : World) (base : Nat) (v' : Value) (q e : Int) (sb : Bool) (L : List (K × K)) : Prop :=
  (q = e ∧ q ≠ 0 ∧ v' = .slice none 0 0) ∨ (e = 0 ∧ sb = false ∧ q = 2 ∧ v' = .slice none 0 0) ∨ (e = 0 ∧ sb = true ∧ q = 0 ∧ OwnP w base v' L)
theorem ApplyIs.err {w : World} {base : Nat} {q : Int} {sb : Bool} {L : List (K × K)} (h : q ≠ 0) : ApplyIs w base (.slice none 0 0) q q sb L := .inl ⟨rfl, h, rfl⟩
theorem ApplyIs.form {w : World} {base : Nat} {L : List (K × K)} : ApplyIs w base (.slice none 0 0) 2 0 false L := .inr (.inl ⟨rfl, rfl, rfl, rfl⟩)
theorem ApplyIs.ok {w : World} {base : Nat} {v' : Value} {L : List (K × K)} (h : OwnP w base v' L) : ApplyIs w base v' 0 0 true L := .inr (.inr ⟨rfl, rfl, rfl, h⟩)

set_option maxHeartbeats 4000000 in
set_option maxRecDepth 100000 in
theorem papply_any (l : List (K × K)) (cs : List Chg) (hs : ∀ p ∈ l, p.1.size < 4611686018427387904 ∧ p.2.size < 4611686018427387904) (hcs : ∀ c ∈ cs, smallC c) (v vc : Value) (w : World) (hv : RdP w w.heap.size v l) (hvc : RdC w w.heap.size vc cs) (hl : l.length + cs.length ≤ 7036874416000) :
    Calls Try.prog 29 #[v, vc] w fun e w' => ∃ v' q, e = .returned (.tuple #[v', .int .i64 q]) ∧ Below w.heap.size w w' ∧ ApplyIs w' w.heap.size v' q (allAns cs) (soundP l) (applyP l cs) := by
  have hfirst := first_any cs hcs vc w hvc (by omega)
  have hsound := fun W (h : RdP W W.heap.size v l) => psound_any l hs v W h (by omega)
  have haft := fun (h1 : Rises l) (h2 : ∀ c ∈ cs, checkAns c = 0) W (h3 : RdP W W.heap.size v l) (h4 : RdC W W.heap.size vc cs) => after_any l cs h1 h2 hl v vc W h3 h4
  have hsp := @soundP_spec l
  generalize soundP l = sb at hsound hsp ⊢
  have HSP := Lib.hid hsp; clear hsp
  have HF := Lib.hid hfirst; clear hfirst
  have HSD := Lib.hid hsound; clear hsound
  have HAF := Lib.hid haft; clear haft
  have HV := Lib.hid hv; clear hv
  have HVC := Lib.hid hvc; clear hvc
  clear hs hcs
  obtain ⟨q, hq⟩ : ∃ q, q = allAns cs := ⟨_, rfl⟩
  have hq0 := fun (h : q = 0) => allAns_zero.1 (by rw [← hq]; exact h)
  rw [← hq] at HF ⊢
  have HQ := Lib.hid hq0; clear hq0 hq
  go_enter Try.func29, Try.ntmps29
  go_wp2_with fail
  refine HF.out.mono ?_
  rintro e w1 ⟨rfl, hb1⟩
  have HV1 := Lib.hid (HV.out.next hb1)
  have HVC1 := Lib.hid (HVC.out.next hb1)
  have HB1 := Lib.hid hb1; clear hb1
  by_cases h0 : q = 0
  · subst h0
    have HQ0 := Lib.hid (HQ.out rfl)
    clear HQ
    have hsd := HSD.out w1 HV1.out
    cases sb with
    | true =>
      have HR := Lib.hid (HSP.out rfl).1
      have HS := Lib.hid hsd
      clear hsd
      go_wp2_with fail
      refine HS.out.mono ?_
      rintro e w2 ⟨rfl, hb2⟩
      have HV2 := Lib.hid (HV1.out.next hb2)
      have HVC2 := Lib.hid (HVC1.out.next hb2)
      have HB2 := Lib.hid (HB1.out.trans (hb2.mono HB1.out.size)); clear hb2
      clear HV1 HVC1 HB1
      go_wp2_with fail
      refine (HAF.out HR.out HQ0.out w2 HV2.out HVC2.out).mono ?_
      rintro e w3 ⟨A3, c3, rfl, ho3, hb3⟩
      have HO3 := Lib.hid (ho3.lower HB2.out.size); clear ho3
      have HB3 := Lib.hid (HB2.out.trans (hb3.mono HB2.out.size)); clear hb3
      go_wp2_with fail
      go_ret2
      exact ⟨_, _, rfl, HB3.out, ApplyIs.ok HO3.out⟩
    | false =>
      have HS := Lib.hid hsd
      clear hsd
      go_wp2_with fail
      refine HS.out.mono ?_
      rintro e w2 ⟨rfl, hb2⟩
      have HB2 := Lib.hid (HB1.out.trans (hb2.mono HB1.out.size)); clear hb2
      clear HV1 HVC1 HB1
      go_wp2_with fail
      go_ret2
      exact ⟨_, _, rfl, HB2.out, ApplyIs.form⟩
  · have H0 := Lib.hid h0
    go_wp2_with fail
    go_ret2
    exact ⟨_, _, rfl, HB1.out, ApplyIs.err H0.out⟩
end Go.Proofs.Ytpfhkijnaiopoaa
