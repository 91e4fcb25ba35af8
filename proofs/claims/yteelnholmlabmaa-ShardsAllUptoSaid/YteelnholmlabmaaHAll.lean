/- ShardsAll is true for every input, where the arguments hold together at most 1048576 values, and leaves its arguments as they were. The bound on the arguments is the given statement UptoSaid. -/
import Derived.Test.YteelnholmlabmaaHOpen
import Derived.Deep.CondSized
import Derived.JoinedCond
import Derived.Carry
import Derived.Test.YteelnholmlabmaaLawHA
namespace Go.Proofs.Yteelnholmlabmaa
open Go.ChangeShapes Go.WideShapes Go.ChangeAt Go.RowKit Go.Joins

set_option maxRecDepth 100000 in
theorem shardsAll_lifted (os : Os) (started : os.Started) (H : Type) (enc : TypeId × Value → H) (F : Stop.Interp) :
    ReturnsInHanded {} Try.checked os 8 .any ((Rows.OpenSpec.upto Rows.shardsAllSpec).pre6 enc Try.prog Try.f8 Rows.shardsAllUptoRow.domain false) (((Rows.OpenSpec.upto Rows.shardsAllSpec).at F).post enc Try.prog Try.f8 false true false false) := by
  refine returnsInHanded_of_cond_sized (C := Try.checked) (s := Rows.OpenSpec.upto Rows.shardsAllSpec) (k := Rows.uptoSmall) rfl prog_own started (by kernel_rfl) Try.func8
    (OpenSpec.witness (enc := enc) (C := Try.checked) (s := Rows.OpenSpec.upto Rows.shardsAllSpec) (k := Rows.uptoSmall) rfl false ⟨#[], #[.slice none 0 0, .slice none 0 0, .slice none 0 0], []⟩ 8 (by kernel_rfl) (by kernel_rfl) (by kernel_rfl)
      (x := ([.nil, .nil, .nil], [], [])) (by kernel_rfl) rfl (by kernel_rfl)) ?_
  intro W base args ds gs before hval0 hW _ hk hsz0 _
  have hval : ∀ (j : Nat) t v, Try.f8.params[j]? = some t → args[j]? = some v → Value.okWide Try.prog W .any base t v := hval0
  have hW' := hW
  obtain ⟨p, q, hA0, hV, rfl, _, _⟩ := hW
  have hA : DataW.TrodAll enc Try.prog W 0 (fun _ => true) true Try.f8.params.toList args.toList ds p := hA0
  obtain ⟨rfl, rfl⟩ := trodVars_none hV
  have hsz : (DataW.weightsEach Try.prog Try.f8.params.toList ds).all (· ≤ reachBytes) = true := by
    have h0 : (Rows.OpenSpec.upto Rows.shardsAllSpec).bare.plain.varTypes Try.checked.prog = [] := rfl
    rw [h0, List.append_nil, List.append_nil] at hsz0
    exact hsz0
  rw [Try.params8] at hA hval hsz
  have hb : Rows.uptoBulkAll (ds ++ []) ≤ 1048576 := of_decide_eq_true hk
  rw [List.append_nil] at hb
  obtain ⟨v0, v1, v2, d0, d1, d2, p0, p1, p2, rfl, rfl, rfl, h0, h1, h2⟩ := trodAll_three hA
  obtain ⟨l0, hr0, hl0⟩ := open_bounds (hval 0 22 v0 rfl rfl) h0 (weights_all hsz (j := 0) rfl rfl)
  obtain ⟨l1, hr1, hz1⟩ := open_pairs (hval 1 52 v1 rfl rfl) h1
  have hs1 := hz1.lenP (weights_all hsz (j := 1) rfl rfl)
  obtain ⟨l2, hr2, hz2⟩ := open_chgs (hval 2 36 v2 rfl rfl) h2
  have hs2 := hz2.lenC (weights_all hsz (j := 2) rfl rfl)
  have hb1 := hz1.bulk
  have hb2 := hz2.bulk
  simp only [Rows.uptoBulkAll] at hb
  refine (shardsAll_walk l0 l1 l2 hs1.2 hs2.2 _ _ _ W hr0 hr1 hr2 hl0 (by omega) (by omega)).mono fun e W' ⟨he, hbe⟩ => ⟨_, he, ?_⟩
  exact law_post prog_laid (by kernel_rfl) rfl rfl Try.underlying4 (fun ds h => by match ds, h with | [a, b, c], _ => rfl) hW' hbe

set_option maxRecDepth 100000 in
theorem shardsAll_holds : Rows.ShardsAllUptoSaid :=
  OpenClaim.holds_of_cond 8 Try.f8 rfl rfl rfl rfl rfl rfl rfl ⟨rfl, rfl, rfl, rfl, rfl⟩ rfl rfl rfl rfl rfl (by kernel_rfl) Try.func8 (by kernel_rfl)
    (of_decide_eq_true (by kernel_rfl)) (by unfold Func.isWrapper; rw [if_neg (by decide +kernel)]; exact ⟨rfl, rfl⟩)
    (fun os started H enc _ F => shardsAll_lifted os started H enc F)

#print axioms shardsAll_holds
end Go.Proofs.Yteelnholmlabmaa
