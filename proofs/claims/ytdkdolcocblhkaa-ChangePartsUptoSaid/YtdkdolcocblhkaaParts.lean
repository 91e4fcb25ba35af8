/- ChangeParts is true for every input, where the arguments hold together at most 1048576 values, and leaves its arguments as they were. The bound on the arguments is the given statement UptoSaid. -/
import Derived.Test.YtdkdolcocblhkaaShut
import Derived.Test.YtdkdolcocblhkaaLawParts
namespace Go.Proofs.Ytdkdolcocblhkaa
open Go.ChangeShapes Go.WideShapes Go.ChangeAt Go.RowKit Go.Joins

set_option maxRecDepth 100000 in
theorem changeParts_lifted (os : Os) (started : os.Started) (H : Type) (enc : TypeId × Value → H) (F : Stop.Interp) :
    ReturnsInHanded {} Try.checked os 9 .any ((Rows.OpenSpec.upto Rows.changePartsSpec).pre6 enc Try.prog Try.f9 Rows.changePartsUptoRow.domain false) (((Rows.OpenSpec.upto Rows.changePartsSpec).at F).post enc Try.prog Try.f9 false true false false) := by
  refine returnsInHanded_of_cond_sized (C := Try.checked) (s := Rows.OpenSpec.upto Rows.changePartsSpec) (k := Rows.uptoSmall) rfl prog_own started (by kernel_rfl) Try.func9
    (OpenSpec.witness (enc := enc) (C := Try.checked) (s := Rows.OpenSpec.upto Rows.changePartsSpec) (k := Rows.uptoSmall) rfl false ⟨#[], #[.slice none 0 0, .slice none 0 0, .slice none 0 0, .agg #[.int .i64 0, .string ⟨#[]⟩, .string ⟨#[]⟩], .agg #[.int .i64 0, .string ⟨#[]⟩, .string ⟨#[]⟩]], []⟩ 8 (by kernel_rfl) (by kernel_rfl) (by kernel_rfl)
      (x := ([.nil, .nil, .nil, .agg [.lit (.int .i64 0), .lit (.string []), .lit (.string [])], .agg [.lit (.int .i64 0), .lit (.string []), .lit (.string [])]], [], [])) (by kernel_rfl) rfl (by kernel_rfl)) ?_
  intro W base args ds gs before hval0 hW _ hk hsz0 _
  have hval : ∀ (j : Nat) t v, Try.f9.params[j]? = some t → args[j]? = some v → Value.okWide Try.prog W .any base t v := hval0
  have hW' := hW
  obtain ⟨p, q, hA0, hV, rfl, _, _⟩ := hW
  have hA : DataW.TrodAll enc Try.prog W 0 (fun _ => true) true Try.f9.params.toList args.toList ds p := hA0
  obtain ⟨rfl, rfl⟩ := trodVars_none hV
  have hsz : (DataW.weightsEach Try.prog Try.f9.params.toList ds).all (· ≤ reachBytes) = true := by
    have h0 : (Rows.OpenSpec.upto Rows.changePartsSpec).bare.plain.varTypes Try.checked.prog = [] := rfl
    rw [h0, List.append_nil, List.append_nil] at hsz0
    exact hsz0
  rw [Try.params9] at hA hval hsz
  have hb : Rows.uptoBulkAll (ds ++ []) ≤ 1048576 := of_decide_eq_true hk
  rw [List.append_nil] at hb
  obtain ⟨v0, v1, v2, v3, v4, d0, d1, d2, d3, d4, p0, p1, p2, p3, p4, rfl, rfl, rfl, h0, h1, h2, h3, h4⟩ := trodAll_five hA
  obtain ⟨l0, hr0, hz0⟩ := open_pairs (hval 0 30 v0 rfl rfl) h0
  have hn0 := hz0.reachP hsz (j := 0) rfl rfl
  have hs0 := hz0.textsP hsz (j := 0) rfl rfl
  obtain ⟨l1, hr1, hz1⟩ := open_chgs (hval 1 24 v1 rfl rfl) h1
  have hn1 := hz1.reachC hsz (j := 1) rfl rfl
  have hs1 := hz1.textsC hsz (j := 1) rfl rfl
  obtain ⟨l2, hr2, hz2⟩ := open_chgs (hval 2 24 v2 rfl rfl) h2
  have hn2 := hz2.reachC hsz (j := 2) rfl rfl
  have hs2 := hz2.textsC hsz (j := 2) rfl rfl
  obtain ⟨c3, rfl, hk3, hv3⟩ := open_chg (hval 3 23 v3 rfl rfl) h3 (weights_all hsz (j := 3) rfl rfl)
  obtain ⟨c4, rfl, hk4, hv4⟩ := open_chg (hval 4 23 v4 rfl rfl) h4 (weights_all hsz (j := 4) rfl rfl)
  have hb0 := hz0.bulk
  have hb1 := hz1.bulk
  have hb2 := hz2.bulk
  simp only [Rows.uptoBulkAll] at hb
  refine (changeParts_walk l0 l1 l2 c3 c4 (smallP_of hs0) (small_of hs1) (small_of hs2) (by exact ⟨by omega, by omega⟩) (by exact ⟨by omega, by omega⟩) _ _ _ W hr0 hr1 hr2 (by omega)).mono fun e W' ⟨he, hbe⟩ => ⟨_, he, ?_⟩
  exact law_post prog_laid (by kernel_rfl) rfl rfl Try.underlying4 (fun ds h => by match ds, h with | [a, b, c, d, e], _ => rfl) hW' hbe

set_option maxRecDepth 100000 in
theorem changeParts_holds : Rows.ChangePartsUptoSaid :=
  OpenClaim.holds_of_cond 9 Try.f9 rfl rfl rfl rfl rfl rfl rfl ⟨rfl, rfl, rfl, rfl, rfl⟩ rfl rfl rfl rfl rfl (by kernel_rfl) Try.func9 (by kernel_rfl)
    (of_decide_eq_true (by kernel_rfl)) (by unfold Func.isWrapper; rw [if_neg (by decide +kernel)]; exact ⟨rfl, rfl⟩)
    (fun os started H enc _ F => changeParts_lifted os started H enc F)

#print axioms changeParts_holds
end Go.Proofs.Ytdkdolcocblhkaa
