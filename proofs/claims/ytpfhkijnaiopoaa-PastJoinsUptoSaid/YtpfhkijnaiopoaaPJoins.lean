/- PastJoins is true for every input, where the arguments hold together at most 1048576 values, and leaves its arguments as they were. The bound on the arguments is the given statement UptoSaid. -/
import Derived.Test.YtpfhkijnaiopoaaPOpen
import Derived.Test.YtpfhkijnaiopoaaPFour
import Derived.Deep.CondSized
import Derived.JoinedCond
import Derived.Carry
import Derived.Test.YtpfhkijnaiopoaaLawPJ
namespace Go.Proofs.Ytpfhkijnaiopoaa
open Go.ChangeShapes Go.WideShapes Go.ChangeAt Go.RowKit Go.Joins

set_option maxRecDepth 100000 in
theorem pastJoins_lifted (os : Os) (started : os.Started) (H : Type) (enc : TypeId × Value → H) (F : Stop.Interp) :
    ReturnsInHanded {} Try.checked os 9 .any ((Rows.OpenSpec.upto Rows.pastJoinsSpec).pre6 enc Try.prog Try.f9 Rows.pastJoinsUptoRow.domain false) (((Rows.OpenSpec.upto Rows.pastJoinsSpec).at F).post enc Try.prog Try.f9 false true false false) := by
  refine returnsInHanded_of_cond_sized (C := Try.checked) (s := Rows.OpenSpec.upto Rows.pastJoinsSpec) (k := Rows.uptoSmall) rfl prog_own started (by kernel_rfl) Try.func9
    (OpenSpec.witness (enc := enc) (C := Try.checked) (s := Rows.OpenSpec.upto Rows.pastJoinsSpec) (k := Rows.uptoSmall) rfl false ⟨#[], #[.slice none 0 0, .slice none 0 0, .agg #[.string ⟨#[]⟩, .string ⟨#[]⟩], .string ⟨#[]⟩], []⟩ 8 (by kernel_rfl) (by kernel_rfl) (by kernel_rfl)
      (x := ([.nil, .nil, .agg [.lit (.string []), .lit (.string [])], .lit (.string [])], [], [])) (by kernel_rfl) rfl (by kernel_rfl)) ?_
  intro W base args ds gs before hval0 hW _ hk hsz0 _
  have hval : ∀ (j : Nat) t v, Try.f9.params[j]? = some t → args[j]? = some v → Value.okWide Try.prog W .any base t v := hval0
  have hW' := hW
  obtain ⟨p, q, hA0, hV, rfl, _, _⟩ := hW
  have hA : DataW.TrodAll enc Try.prog W 0 (fun _ => true) true Try.f9.params.toList args.toList ds p := hA0
  obtain ⟨rfl, rfl⟩ := trodVars_none hV
  have hsz : (DataW.weightsEach Try.prog Try.f9.params.toList ds).all (· ≤ reachBytes) = true := by
    have h0 : (Rows.OpenSpec.upto Rows.pastJoinsSpec).bare.plain.varTypes Try.checked.prog = [] := rfl
    rw [h0, List.append_nil, List.append_nil] at hsz0
    exact hsz0
  rw [Try.params9] at hA hval hsz
  have hb : Rows.uptoBulkAll (ds ++ []) ≤ 1048576 := of_decide_eq_true hk
  rw [List.append_nil] at hb
  obtain ⟨v0, v1, v2, v3, d0, d1, d2, d3, p0, p1, p2, p3, rfl, rfl, rfl, h0, h1, h2, h3⟩ := trodAll_four hA
  obtain ⟨l0, hr0, hz0⟩ := open_chgs (hval 0 34 v0 rfl rfl) h0
  have hs0 := hz0.smallC (weights_all hsz (j := 0) rfl rfl)
  obtain ⟨l1, hr1, hz1⟩ := open_chgs (hval 1 34 v1 rfl rfl) h1
  have hs1 := hz1.smallC (weights_all hsz (j := 1) rfl rfl)
  obtain ⟨s2, rfl, hk2, hv2⟩ := open_span (hval 2 33 v2 rfl rfl) h2 (weights_all hsz (j := 2) rfl rfl)
  obtain ⟨k3, rfl, rfl, rfl, hk3⟩ := Go.ChangeMaps.open_string Try.underlying9 (hval 3 9 v3 rfl rfl) h3
  have hl3 : smallS k3 := by
    have := (weights_all hsz (j := 3) rfl rfl) k3.data.toList.length (by simp [DataW.weights])
    rw [show reachBytes = 140737488351232 from rfl] at this
    have : k3.size ≤ 140737488351232 := by simpa using this
    unfold smallS; omega
  have hb0 := hz0.bulk
  have hb1 := hz1.bulk
  simp only [Rows.uptoBulkAll] at hb
  have hmany : many = 3000000 := rfl
  refine (pastJoins_walk l0 l1 s2 k3 _ _ W hr0 hr1 hs0 hs1 hk2 hv2 hl3 (by omega)).mono fun e W' ⟨he, hbe⟩ => ⟨_, he, ?_⟩
  exact law_post prog_laid (by kernel_rfl) rfl rfl Try.underlying4 (fun ds h => by match ds, h with | [a, b, c, d], _ => rfl) hW' hbe

set_option maxRecDepth 100000 in
theorem pastJoins_holds : Rows.PastJoinsUptoSaid :=
  OpenClaim.holds_of_cond 9 Try.f9 rfl rfl rfl rfl rfl rfl rfl ⟨rfl, rfl, rfl, rfl, rfl⟩ rfl rfl rfl rfl rfl (by kernel_rfl) Try.func9 (by kernel_rfl)
    (of_decide_eq_true (by kernel_rfl)) (by unfold Func.isWrapper; rw [if_neg (by decide +kernel)]; exact ⟨rfl, rfl⟩)
    (fun os started H enc _ F => pastJoins_lifted os started H enc F)

#print axioms pastJoins_holds
end Go.Proofs.Ytpfhkijnaiopoaa
