/- ChangeApplies is true for every input, where the arguments hold together at most 1048576 values, and leaves its arguments as they were. The bound on the arguments is the given statement UptoSaid. -/
import Derived.Test.YtdkdolcocblhkaaShut
import Derived.Test.YtdkdolcocblhkaaLawApp
namespace Go.Proofs.Ytdkdolcocblhkaa
open Go.ChangeShapes Go.WideShapes Go.ChangeAt Go.RowKit Go.Joins

set_option maxRecDepth 100000 in
theorem changeApplies_lifted (os : Os) (started : os.Started) (H : Type) (enc : TypeId × Value → H) (F : Stop.Interp) :
    ReturnsInHanded {} Try.checked os 4 .any ((Rows.OpenSpec.upto Rows.changeAppliesSpec).pre6 enc Try.prog Try.f4 Rows.changeAppliesUptoRow.domain false) (((Rows.OpenSpec.upto Rows.changeAppliesSpec).at F).post enc Try.prog Try.f4 false true false false) := by
  refine returnsInHanded_of_cond_sized (C := Try.checked) (s := Rows.OpenSpec.upto Rows.changeAppliesSpec) (k := Rows.uptoSmall) rfl prog_own started (by kernel_rfl) Try.func4
    (OpenSpec.witness (enc := enc) (C := Try.checked) (s := Rows.OpenSpec.upto Rows.changeAppliesSpec) (k := Rows.uptoSmall) rfl false ⟨#[], #[.slice none 0 0, .slice none 0 0], []⟩ 8 (by kernel_rfl) (by kernel_rfl) (by kernel_rfl)
      (x := ([.nil, .nil], [], [])) (by kernel_rfl) rfl (by kernel_rfl)) ?_
  intro W base args ds gs before hval0 hW _ hk hsz0 _
  have hval : ∀ (j : Nat) t v, Try.f4.params[j]? = some t → args[j]? = some v → Value.okWide Try.prog W .any base t v := hval0
  have hW' := hW
  obtain ⟨p, q, hA0, hV, rfl, _, _⟩ := hW
  have hA : DataW.TrodAll enc Try.prog W 0 (fun _ => true) true Try.f4.params.toList args.toList ds p := hA0
  obtain ⟨rfl, rfl⟩ := trodVars_none hV
  have hsz : (DataW.weightsEach Try.prog Try.f4.params.toList ds).all (· ≤ reachBytes) = true := by
    have h0 : (Rows.OpenSpec.upto Rows.changeAppliesSpec).bare.plain.varTypes Try.checked.prog = [] := rfl
    rw [h0, List.append_nil, List.append_nil] at hsz0
    exact hsz0
  rw [Try.params4] at hA hval hsz
  have hb : Rows.uptoBulkAll (ds ++ []) ≤ 1048576 := of_decide_eq_true hk
  rw [List.append_nil] at hb
  obtain ⟨v0, v1, d0, d1, p0, p1, rfl, rfl, rfl, h0, h1⟩ := trodAll_two hA
  obtain ⟨l0, hr0, hz0⟩ := open_pairs (hval 0 30 v0 rfl rfl) h0
  have hn0 := hz0.reachP hsz (j := 0) rfl rfl
  have hs0 := hz0.textsP hsz (j := 0) rfl rfl
  obtain ⟨l1, hr1, hz1⟩ := open_chgs (hval 1 24 v1 rfl rfl) h1
  have hn1 := hz1.reachC hsz (j := 1) rfl rfl
  have hs1 := hz1.textsC hsz (j := 1) rfl rfl
  have hb0 := hz0.bulk
  have hb1 := hz1.bulk
  simp only [Rows.uptoBulkAll] at hb
  refine (changeApplies_walk l0 l1 (smallP_of hs0) (small_of hs1) _ _ W hr0 hr1 (by omega)).mono fun e W' ⟨he, hbe⟩ => ⟨_, he, ?_⟩
  exact law_post prog_laid (by kernel_rfl) rfl rfl Try.underlying4 (fun ds h => by match ds, h with | [a, b], _ => rfl) hW' hbe

set_option maxRecDepth 100000 in
theorem changeApplies_holds : Rows.ChangeAppliesUptoSaid :=
  OpenClaim.holds_of_cond 4 Try.f4 rfl rfl rfl rfl rfl rfl rfl ⟨rfl, rfl, rfl, rfl, rfl⟩ rfl rfl rfl rfl rfl (by kernel_rfl) Try.func4 (by kernel_rfl)
    (of_decide_eq_true (by kernel_rfl)) (by unfold Func.isWrapper; rw [if_neg (by decide +kernel)]; exact ⟨rfl, rfl⟩)
    (fun os started H enc _ F => changeApplies_lifted os started H enc F)

#print axioms changeApplies_holds
end Go.Proofs.Ytdkdolcocblhkaa
