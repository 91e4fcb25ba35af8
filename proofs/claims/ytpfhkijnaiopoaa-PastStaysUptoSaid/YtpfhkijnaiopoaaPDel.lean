/- slices.Delete over deeds. -/
import Derived.Test.YtpfhkijnaiopoaaPDd
namespace Go.Proofs.Ytpfhkijnaiopoaa
open Go.RowKit

theorem info_deedE : ∃ i0, Try.prog.info? 72 = some i0 ∧ i0.zero = some (.agg #[.int .i64 0, .int .i64 0, .string ⟨#[]⟩, .string ⟨#[]⟩]) ∧ i0.size = 4 ∧ i0.bytes = 48 := info_parts info_deed
section
variable {ops : Array Oper} {rest : List Oper} {o : Oper} {a : Act} {Q : Exit → Act → World → Prop} {K1 : Act → World → Prop} {w : World}
theorem wp_roomD (d s : Operand) (ho : o.op = .call { callee := .builtin .append, args := #[d, s], argTypes := #[63, 63] })
    (g i cap : Nat) (cur cs : List Value) (sp : Option Addr) (m mc : Nat) (hd : a.eval d = .slice (some ⟨g, 0, none⟩) i cap) (hs : a.eval s = .slice sp m mc) (hg : Whole w g 72 cur) (hn : cs.length = m * 4)
    (hsrc : Srcs w sp cs) (hroom : i + m ≤ cap) (hfit : i * 4 + cs.length ≤ cur.length) (h1 : ∀ v ∈ cs, v.oneCell' = true)
    (h : ∀ w', Hid (Moved w w' g 72 (splice cur (i * 4) cs)) → K1 (a.put o.dst (.slice (some ⟨g, 0, none⟩) (i + m) cap)) w') : Oper.wp Try.prog o a w K1 Q := by
  obtain ⟨i0, hi, hz0, hz1, hz2⟩ := info_deedE
  obtain ⟨w', hr, hm⟩ := run_roomK (P := Try.prog) w 63 o.type 72 i0 4 Try.underlying63 hi hz1 g i cap sp m mc _ cur hg cs hn hsrc hroom hfit h1
  exact wp_call2 .append (.inr rfl) d s _ _ ho _ _ hd hs hr (h w' (Lib.hid hm))
theorem wpList_clearD (hgd : Region.wanted o (yielded ops a.tmps) = true) (d : Operand) (ho : o.op = .call { callee := .builtin .clear, args := #[d], argTypes := #[63] })
    (g off : Nat) (cur : List Value) (dp : Option Addr) (n c : Nat) (hd : a.eval d = .slice dp n c) (hg : Whole w g 72 cur) (hp : 0 < n → dp = some ⟨g, off, none⟩) (hfit : off + n * 4 ≤ cur.length)
    (h : ∀ w' zs, zs.length = n * 4 → Hid (Moved w w' g 72 (splice cur off zs)) → wpList Try.prog ops Q rest (a.put o.dst (.tuple #[])) w') : wpList Try.prog ops Q (o :: rest) a w := by
  obtain ⟨w', zs, hr, hl, hm⟩ := run_clearK (P := Try.prog) w 63 o.type 72 (.agg #[.int .i64 0, .int .i64 0, .string ⟨#[]⟩, .string ⟨#[]⟩]) 4 Try.underlying63 Try.zeroValue72 rfl (by intro v hv; simp [Value.cells] at hv; rcases hv with rfl | rfl <;> rfl) g off n c dp _ cur hg hp hfit
  exact BigFrame.wpList_want hgd fun K2 hK => wp_clearK d _ ho _ hd hr (hK _ _ (h w' zs hl (Lib.hid hm)))
end

set_option maxHeartbeats 8000000 in
set_option maxRecDepth 100000 in
/-- the part from i to j is taken out of a row -/
theorem delete_row (i j n q cap g : Nat) (cur ds : List Value) (w : World) (hg : Whole w g 72 cur) (hij : i < j) (hjq : j + q = n) (hnc : n ≤ cap) (hcm : cap ≤ maxLen)
    (hcl : cur.length = cap * 4) (hds : ds.length = q * 4) (hd : ∀ t v, ds[t]? = some v → cur[j * 4 + t]? = some v) (h2 : ∀ v ∈ ds, v.oneCell' = true) :
    Calls Try.prog 44 #[.slice (some ⟨g, 0, none⟩) n cap, .int .i64 i, .int .i64 j] w fun e w' =>
      e = .returned (.slice (some ⟨g, 0, none⟩) (i + q) cap) ∧ ∃ cur', Whole w' g 72 cur' ∧ cur'.length = cap * 4 ∧ cur'.take ((i + q) * 4) = cur.take (i * 4) ++ ds ∧ w.grownBy w' (some g) := by
  unfold maxLen at hcm
  have hb0 : (i : Int) ≤ (j : Int) := by omega
  have hb1 : (j : Int) ≤ (n : Int) := by omega
  have hb2 : ¬ ((i : Int) = (j : Int)) := by omega
  have hb2b : ((i : Int) == (j : Int)) = false := by simpa using hb2
  have hb3 : (n : Int) ≤ (cap : Int) := by omega
  have hb4 : (i : Int) ≤ (cap : Int) := by omega
  have hb5 : (j : Int) ≤ (cap : Int) := by omega
  have hb7 : ¬ (cap = i) := by omega
  have hb9 : ¬ (cap = i + q) := by omega
  have hq : n - j = q := by omega
  have hb10 : (i : Int) + (q : Int) ≤ (n : Int) := by omega
  have hb11 : (0 : Int) ≤ (i : Int) + (q : Int) := by omega
  have hb12 : ((i : Int) + (q : Int)).toNat = i + q := by omega
  have hsrc : ∀ W, Whole W g 72 cur → ∀ sp, (0 < ds.length → sp = some ⟨g, j * 4, none⟩) → Srcs W sp ds := fun W hW sp h h0 => ⟨_, h h0, hW.srcs _ _ hd⟩
  have HG := Lib.hid hg; clear hg
  have HDS := Lib.hid hds; clear hds
  have HSRC := Lib.hid hsrc; clear hsrc
  have HL := Lib.hid hcl; clear hcl
  have H2 := Lib.hid h2; clear h2 hd
  go_enter Try.func44, Try.ntmps44
  by_cases hc : cap = j
  · have hq0 : q = 0 := by omega
    subst hc
    have hnj : n = cap := by omega
    subst hnj
    subst hq0
    have HD0 := Lib.hid (show ds = [] from List.eq_nil_of_length_eq_zero (by rw [HDS.out, Nat.zero_mul]))
    go_wp2_with fail
    refine wp_region_plan (S := fun _ => True) [(true, 0), (true, 1), (true, 2), (true, 3), (true, 4), (true, 5), (false, 6), (true, 7)] (by kernel_rfl) (by kernel_rfl) (fun _ _ d _ _ h => by cases d <;> exact h) trivial ?_
    repeat (refine Plan.take (v := ?_) rfl rfl ?_ ?_; rotate_left; (focus (intro W hW; go_simp; (try with_reducible rfl); done)); (try simp only [Act.put, List.setIfInBounds_toArray, List.set_cons_zero, List.set_cons_succ]))
    refine Plan.step rfl rfl (fun Kk hK => ?_)
    refine wp_roomD _ _ rfl g i n cur ds _ _ _ rfl rfl HG.out.drew HDS.out (HSRC.out _ HG.out.drew _ (fun h => by rw [HDS.out] at h; simp at h)) (by omega) (by rw [HDS.out, HL.out]; omega) H2.out ?_
    intro w1 hm1
    obtain ⟨Y, hY⟩ : ∃ Y, Y = splice cur (i * 4) ds := ⟨_, rfl⟩
    rw [← hY] at hm1
    have hYl : Y.length = n * 4 := by rw [hY, length_splice _ _ _ (by rw [HDS.out, HL.out]; omega), HL.out]
    have hYt : Y.take (i * 4) = cur.take (i * 4) ++ ds := by rw [hY, take_splice_end cur _ (i * 4) _ (by rw [HL.out]; omega) (by rw [HDS.out]; omega)]
    have HYL := Lib.hid hYl; clear hYl
    have HYT := Lib.hid hYt; clear hYt
    clear hY
    refine hK.out _ _ trivial ?_
    clear hK Kk
    (try simp only [Act.put, List.setIfInBounds_toArray, List.set_cons_zero, List.set_cons_succ])
    repeat (refine Plan.take (v := ?_) rfl rfl ?_ ?_; rotate_left; (focus (intro W hW; go_simp; (try with_reducible rfl); done)); (try simp only [Act.put, List.setIfInBounds_toArray, List.set_cons_zero, List.set_cons_succ]))
    simp only [Plan]
    go_wp2_with (with_reducible show wpList _ _ _ (⟨none, _, _, _, _, _⟩ :: _) _ _; go_must (refine wpList_clearD rfl _ rfl g (i * 4) Y _ _ _ rfl hm1.out.whole (fun _ => rfl) ?d1 ?_))
    case d1 => rw [HYL.out]; omega
    intro w2 zs hz hm2
    have HZ := Lib.hid hz; clear hz
    go_wp2_with fail
    go_ret
    refine ⟨rfl, _, hm2.out.whole, ?_, ?_, grown_trans (grown_drew _ _) (grown_trans hm1.out.grown hm2.out.grown)⟩
    · rw [length_splice _ _ _ (by rw [HZ.out, HYL.out]; omega), HYL.out]
    · rw [Nat.add_zero, take_splice_lt Y _ _ _ (Nat.le_refl _) (by rw [HYL.out]; omega), HYT.out]
  · have hc' : ¬ (cap : Int) = (j : Int) := by omega
    go_wp2_with fail
    refine wp_region_plan (S := fun _ => True) [(true, 0), (true, 1), (true, 2), (true, 3), (true, 4), (true, 5), (false, 6), (true, 7)] (by kernel_rfl) (by kernel_rfl) (fun _ _ d _ _ h => by cases d <;> exact h) trivial ?_
    repeat (refine Plan.take (v := ?_) rfl rfl ?_ ?_; rotate_left; (focus (intro W hW; go_simp; (try with_reducible rfl); done)); (try simp only [Act.put, List.setIfInBounds_toArray, List.set_cons_zero, List.set_cons_succ]))
    refine Plan.step rfl rfl (fun Kk hK => ?_)
    refine wp_roomD _ _ rfl g i cap cur ds _ _ _ rfl rfl HG.out.drew HDS.out (HSRC.out _ HG.out.drew _ (fun _ => rfl)) (by omega) (by rw [HDS.out, HL.out]; omega) H2.out ?_
    intro w1 hm1
    obtain ⟨Y, hY⟩ : ∃ Y, Y = splice cur (i * 4) ds := ⟨_, rfl⟩
    rw [← hY] at hm1
    have hYl : Y.length = cap * 4 := by rw [hY, length_splice _ _ _ (by rw [HDS.out, HL.out]; omega), HL.out]
    have hYt : Y.take ((i + q) * 4) = cur.take (i * 4) ++ ds := by rw [hY, take_splice_end cur _ (i * 4) _ (by rw [HL.out]; omega) (by rw [HDS.out]; omega)]
    have HYL := Lib.hid hYl; clear hYl
    have HYT := Lib.hid hYt; clear hYt
    clear hY
    refine hK.out _ _ trivial ?_
    clear hK Kk
    (try simp only [Act.put, List.setIfInBounds_toArray, List.set_cons_zero, List.set_cons_succ])
    repeat (refine Plan.take (v := ?_) rfl rfl ?_ ?_; rotate_left; (focus (intro W hW; go_simp; (try with_reducible rfl); done)); (try simp only [Act.put, List.setIfInBounds_toArray, List.set_cons_zero, List.set_cons_succ]))
    simp only [Plan]
    go_wp2_with (with_reducible show wpList _ _ _ (⟨none, _, _, _, _, _⟩ :: _) _ _; go_must (refine wpList_clearD rfl _ rfl g ((i + q) * 4) Y _ _ _ rfl hm1.out.whole (fun _ => rfl) ?d1 ?_))
    case d1 => rw [HYL.out]; omega
    intro w2 zs hz hm2
    have HZ := Lib.hid hz; clear hz
    go_wp2_with fail
    go_ret
    refine ⟨rfl, _, hm2.out.whole, ?_, ?_, grown_trans (grown_drew _ _) (grown_trans hm1.out.grown hm2.out.grown)⟩
    · rw [length_splice _ _ _ (by rw [HZ.out, HYL.out]; omega), HYL.out]
    · rw [take_splice_lt Y _ _ _ (Nat.le_refl _) (by rw [HYL.out]; omega), HYT.out]

theorem delete_any (i j : Nat) (base : Nat) (l : List Dd) (v : Value) (w : World) (hij : i ≤ j) (hjl : j ≤ l.length) (h : OwnD w base v l) :
    Calls Try.prog 44 #[v, .int .i64 i, .int .i64 j] w fun e w' => ∃ A c, e = .returned (.slice A (l.take i ++ l.drop j).length c) ∧
      OwnD w' base (.slice A (l.take i ++ l.drop j).length c) (l.take i ++ l.drop j) ∧ w.grownBy w' v.ownBlock ∧ Value.ownBlock (.slice A (l.take i ++ l.drop j).length c) = v.ownBlock := by
  by_cases he : i = j
  · subst he
    rw [List.take_append_drop]
    have hv : ∃ A c, v = .slice A l.length c ∧ l.length ≤ c := by
      obtain ⟨A, c, h1, h2, _⟩ := h.rd encD_len
      exact ⟨A, c, h1, h2⟩
    obtain ⟨A, c, rfl, hc⟩ := hv
    have HO := Lib.hid h; clear h
    have hb0 : (i : Int) ≤ (l.length : Int) := by omega
    have hb1 : (l.length : Int) ≤ (c : Int) := by omega
    have hb2 : (i : Int) ≤ (c : Int) := by omega
    have hbi : ((i : Int) == (i : Int)) = true := by simp
    by_cases hci : i = l.length
    · subst hci
      go_enter Try.func44, Try.ntmps44
      go_wp2_with fail
      go_ret
      exact ⟨A, c, rfl, HO.out, ⟨rfl, rfl, rfl, Nat.le_refl _, fun _ _ _ => rfl⟩, rfl⟩
    · have hci2 : ¬ l.length = i := fun e => hci e.symm
      go_enter Try.func44, Try.ntmps44
      go_wp2_with fail
      go_ret
      exact ⟨A, c, rfl, HO.out, ⟨rfl, rfl, rfl, Nat.le_refl _, fun _ _ _ => rfl⟩, rfl⟩
  · rcases h.row with ⟨rfl, rfl⟩ | ⟨g, cap, cur, rfl, hbg, hg, hlc, hcm, hcl, hct⟩
    · simp at hjl; omega
    · have hd : ∀ t v, (flatG encD (l.drop j))[t]? = some v → cur[j * 4 + t]? = some v := by
        have h5 : cur.take (l.length * 4) = flatG encD (l.take j) ++ flatG encD (l.drop j) := by rw [hct, ← flatG_append, List.take_append_drop]
        have h6 := cells_at h5
        rw [flatG_length encD_len, List.length_take, Nat.min_eq_left hjl] at h6
        exact h6
      have hL : (l.take i ++ l.drop j).length = i + (l.length - j) := by rw [List.length_append, List.length_take, List.length_drop]; omega
      refine (delete_row i j l.length (l.length - j) cap g cur (flatG encD (l.drop j)) w hg (by omega) (by omega) hlc hcm hcl (by rw [flatG_length encD_len, List.length_drop]) hd (encD_one' _)).mono ?_
      rintro e w' ⟨rfl, cur', k1, k2, k3, k4⟩
      refine ⟨some ⟨g, 0, none⟩, cap, by rw [hL], Own.ofRow encD_len _ hbg k1 (by rw [hL]; omega) hcm k2 ?_, k4, rfl⟩
      have hti : cur.take (i * 4) = flatG encD (l.take i) := by
        rw [flatG_take encD_len, ← hct, List.take_take, Nat.min_eq_left (Nat.mul_le_mul_right _ (by omega))]
      rw [hL, k3, flatG_append, hti]
end Go.Proofs.Ytpfhkijnaiopoaa
