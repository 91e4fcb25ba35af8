/- slices.Delete of one int out of a slice of the call's own. -/
import Derived.Test.YtjkhdlmdgdcimaaGAA
import Derived.Test.YtjkhdlmdgdcimaaMoveB
namespace Go.Proofs.Ytjkhdlmdgdcimaa
open Go.RowKit Go.Conc

theorem flatG_encI (l : List Int) : flatG encI l = l.map (Value.int .i64) := by
  induction l with
  | nil => rfl
  | cons x r ih => rw [show flatG encI (x :: r) = encI x ++ flatG encI r by simp [flatG], ih]; rfl
section
variable {ops : Array Oper} {rest : List Oper} {o : Oper} {a : Act} {Q : Exit → Act → World → Prop} {K1 : Act → World → Prop} {w : World}
set_option maxRecDepth 100000 in
theorem wp_roomI (d s : Operand) (ho : o.op = .call { callee := .builtin .append, args := #[d, s], argTypes := #[53, 53] })
    (g i cap : Nat) (cur cs : List Value) (sp : Option Addr) (m mc : Nat) (hd : a.eval d = .slice (some ⟨g, 0, none⟩) i cap) (hs : a.eval s = .slice sp m mc) (hg : Whole w g 3 cur) (hn : cs.length = m)
    (hsrc : Srcs w sp cs) (hroom : i + m ≤ cap) (hfit : i + cs.length ≤ cur.length) (h1 : ∀ v ∈ cs, v.oneCell' = true)
    (h : ∀ w', Moved w w' g 3 (splice cur i cs) → K1 (a.put o.dst (.slice (some ⟨g, 0, none⟩) (i + m) cap)) w') : Oper.wp Try.prog o a w K1 Q := by
  obtain ⟨i0, hi, hz0, hz1, hz2⟩ := info_parts info_int
  obtain ⟨w', hr, hm⟩ := run_roomK (P := Try.prog) w 53 o.type 3 i0 1 Try.underlying53 hi hz1 g i cap sp m mc _ cur hg cs (by omega) hsrc hroom (by omega) h1
  rw [Nat.mul_one] at hm
  exact wp_call2 .append (.inr rfl) d s _ _ ho _ _ hd hs hr (h w' hm)
set_option maxRecDepth 100000 in
theorem wpList_clearI (hgd : Region.wanted o (yielded ops a.tmps) = true) (d : Operand) (ho : o.op = .call { callee := .builtin .clear, args := #[d], argTypes := #[53] })
    (g off : Nat) (cur : List Value) (dp : Option Addr) (n c : Nat) (hd : a.eval d = .slice dp n c) (hg : Whole w g 3 cur) (hp : 0 < n → dp = some ⟨g, off, none⟩) (hfit : off + n ≤ cur.length)
    (h : ∀ w' zs, zs.length = n → Hid (Moved w w' g 3 (splice cur off zs)) → wpList Try.prog ops Q rest (a.put o.dst (.tuple #[])) w') : wpList Try.prog ops Q (o :: rest) a w := by
  obtain ⟨w', zs, hr, hl, hm⟩ := run_clearK (P := Try.prog) w 53 o.type 3 (.int .i64 0) 1 Try.underlying53 Try.zeroValue3 rfl (by intro v hv; simp [Value.cells] at hv; subst hv; rfl) g off n c dp _ cur hg hp (by omega)
  exact BigFrame.wpList_want hgd fun K2 hK => wp_clearK d _ ho _ hd hr (hK _ _ (h w' zs (by omega) (Lib.hid hm)))
end
theorem cells_del {α : Type} (cur L zs : List α) (n k : Nat) (hn : n = L.length) (hk : k < n) (hc : cur.take n = L) (hz : zs.length = 1) (hcl : n ≤ cur.length) :
    (splice (splice cur k (L.drop (k + 1))) (n - 1) zs).take (n - 1) = L.eraseIdx k ∧ (splice (splice cur k (L.drop (k + 1))) (n - 1) zs).length = cur.length := by
  have h1 : (splice cur k (L.drop (k + 1))).length = cur.length := by simp [splice]; omega
  have h2 : (splice (splice cur k (L.drop (k + 1))) (n - 1) zs).length = cur.length := by
    generalize splice cur k (L.drop (k + 1)) = c2 at h1
    simp [splice]; omega
  refine ⟨?_, h2⟩
  have h3 : (splice cur k (L.drop (k + 1))).take (n - 1) = L.eraseIdx k := by
    rw [List.eraseIdx_eq_take_drop_succ]
    unfold splice
    have e1 : cur.take k = L.take k := by rw [← hc, List.take_take, Nat.min_eq_left (by omega)]
    rw [e1, ← List.append_assoc]
    exact List.take_left' (by simp; omega)
  rw [← h3]
  generalize splice cur k (L.drop (k + 1)) = c2 at h1
  unfold splice
  exact List.take_left' (by simp; omega)

set_option maxHeartbeats 4000000 in
set_option maxRecDepth 100000 in
theorem del_any (base g c k j : Nat) (hj : j = k + 1) (l : List Int) (w : World) (ho : OwnI w base (.slice (some ⟨g, 0, none⟩) l.length c) l) (hk : k < l.length) (hl : l.length ≤ 4096) :
    Calls Try.prog 24 #[.slice (some ⟨g, 0, none⟩) l.length c, .int .i64 (k : Int), .int .i64 (j : Int)] w fun e w' =>
      e = .returned (.slice (some ⟨g, 0, none⟩) (l.length - 1) c) ∧ OwnI w' base (.slice (some ⟨g, 0, none⟩) (l.length - 1) c) (l.eraseIdx k) ∧ w.grownBy w' (some g) ∧ w'.heap.size = w.heap.size := by
  obtain ⟨L, hL⟩ : ∃ L, L = l.map (Value.int .i64) := ⟨_, rfl⟩
  have hLn : L.length = l.length := by rw [hL]; simp
  obtain ⟨cur, hgb, hW, hnc, hcm, hcur, htake⟩ : ∃ cur, base ≤ g ∧ Whole w g 3 cur ∧ l.length ≤ c ∧ c ≤ maxLen ∧ cur.length = c ∧ cur.take l.length = L := by
    rcases Own.row ho with ⟨h, _⟩ | ⟨g2, cap, cur, e, h1, h2, h3, h4, h5, h6⟩
    · cases h
    · injection e with e1 e2 e3
      injection e1 with e1
      injection e1 with e1
      subst e1 e3
      exact ⟨cur, h1, h2, h3, h4, by omega, by rw [hL, ← flatG_encI, ← h6, Nat.mul_one]⟩
  have hfin : ∀ (w' : World) (zs : List Value), zs.length = 1 → Whole w' g 3 (splice (splice cur k (L.drop (k + 1))) (l.length - 1) zs) → OwnI w' base (.slice (some ⟨g, 0, none⟩) (l.length - 1) c) (l.eraseIdx k) := fun w' zs hz hW' => by
    obtain ⟨h1, h2⟩ := cells_del cur L zs l.length k hLn.symm hk htake hz (by omega)
    have hlen : (l.eraseIdx k).length = l.length - 1 := List.length_eraseIdx_of_lt hk
    have := Own.ofRow encI_len (l.eraseIdx k) hgb hW' (by omega) hcm (by omega) (by rw [Nat.mul_one, hlen, h1, flatG_encI, hL, List.eraseIdx_eq_take_drop_succ, List.eraseIdx_eq_take_drop_succ]; simp [List.map_take, List.map_drop])
    rwa [hlen] at this
  have HFIN := Lib.hid hfin
  have HW := Lib.hid hW
  have hone : ∀ v ∈ L.drop (k + 1), v.oneCell' = true := fun v hv => by
    have := List.mem_of_mem_drop hv
    rw [hL] at this
    obtain ⟨x, _, rfl⟩ := List.mem_map.1 this
    rfl
  have hcell : ∀ j v, (L.drop (k + 1))[j]? = some v → cur[k + 1 + j]? = some v := fun j v hj => by
    rw [List.getElem?_drop, ← htake] at hj
    rwa [List.getElem?_take_of_lt] at hj
    rw [← List.getElem?_drop, htake] at hj
    have := (List.getElem?_eq_some_iff.1 hj).1
    simp at this
    omega
  have HONE := Lib.hid hone
  have HCELL := Lib.hid hcell
  have HLN := Lib.hid hLn
  have HLD := Lib.hid (show (L.drop (k + 1)).length = l.length - (k + 1) by rw [List.length_drop, hLn])
  generalize L.drop (k + 1) = D at HONE HCELL HLD HFIN
  clear hfin hone hcell hW ho htake hL hLn HLN L
  generalize l.length = n at *
  have g0 : ((k : Int) == (j : Int)) = false := by rw [beq_eq_false_iff_ne]; omega
  have g1 : (k : Int) ≤ (j : Int) := by omega
  have g2 : (j : Int) ≤ (n : Int) := by omega
  have g3 : (n : Int) ≤ (c : Int) := by omega
  have g4 : (k : Int) ≤ (c : Int) := by omega
  have g5 : (0 : Int) ≤ (k : Int) := by omega
  have HJ := Lib.hid hj; clear hj
  go_enter Try.func24, Try.ntmps24
  go_wp2_with fail
  by_cases hck : c = j
  · subst hck
    refine wp_region_plan (S := fun W => True) [(true, 0), (true, 1), (true, 2), (true, 3), (true, 4), (true, 5), (false, 6), (true, 7)] (by kernel_rfl) (by kernel_rfl) (fun _ _ d _ _ h => by cases d <;> exact h) trivial ?_
    repeat (refine Plan.take (v := ?_) rfl rfl ?_ ?_; rotate_left; (focus (intro W hW; go_simp; (try with_reducible rfl); done)); (try simp only [Act.put, List.setIfInBounds_toArray, List.set_cons_zero, List.set_cons_succ]))
    refine Plan.step rfl rfl (fun Kk hKk => ?_)
    refine wp_roomI _ _ rfl g k c cur D (some ⟨g, 0, none⟩) 0 0 rfl rfl HW.out.drew (by have := HLD.out; have := HJ.out; omega) (by have h0 : D = [] := List.eq_nil_of_length_eq_zero (by have := HLD.out; have := HJ.out; omega); rw [h0]; exact Srcs.nil _ _) (by have := HJ.out; omega) (by have := HLD.out; omega) HONE.out ?_
    intro w1 hm1
    refine hKk.out _ _ trivial ?_
    clear hKk Kk
    (try simp only [Act.put, List.setIfInBounds_toArray, List.set_cons_zero, List.set_cons_succ])
    repeat (refine Plan.take (v := ?_) rfl rfl ?_ ?_; rotate_left; (focus (intro W hW; go_simp; (try with_reducible rfl); done)); (try simp only [Act.put, List.setIfInBounds_toArray, List.set_cons_zero, List.set_cons_succ]))
    simp only [Plan]
    have HM1 := Lib.hid hm1
    have HZ := Lib.hid (show k = n - 1 by have := HJ.out; omega)
    have z0 : (k : Int) ≤ (n : Int) := by omega
    have z3 : (k : Int) < (c : Int) := by omega
    clear hm1
    go_wp2_with fail
    obtain ⟨w2, zs, hr, hl, hm2⟩ := run_clearK (P := Try.prog) w1 53 0 3 (.int .i64 0) 1 Try.underlying53 Try.zeroValue3 rfl (by intro v hv; simp [Value.cells] at hv; subst hv; rfl) g k (n - k) (c - k) (some ⟨g, k, none⟩) _ _ HM1.out.whole (fun _ => rfl) (by have := HZ.out; have := HLD.out; simp [splice]; omega)
    rw [hr]
    have HM2 := Lib.hid hm2
    have HL2 := Lib.hid hl
    clear hr hl hm2
    go_wp2_with fail
    go_ret
    have e1 : k = n - 1 := HZ.out
    have hW2 : Whole w2 g 3 (splice (splice cur k D) (n - 1) zs) := by rw [← e1]; exact HM2.out.whole
    refine ⟨by rw [← e1]; rfl, HFIN.out w2 zs (by have := HL2.out; omega) hW2, ?_, by rw [HM2.out.size, HM1.out.size]; rfl⟩
    have hg1 := HM1.out.grown
    have hg2 := HM2.out.grown
    exact ⟨hg2.os.trans hg1.os, hg2.tape.trans hg1.tape, hg2.output.trans hg1.output, Nat.le_trans hg1.size hg2.size, fun i hi hn => (hg2.block i (Nat.lt_of_lt_of_le hi hg1.size) hn).trans (hg1.block i hi hn)⟩
  · have g6 : (j : Int) < (c : Int) := by omega
    refine wp_region_plan (S := fun W => True) [(true, 0), (true, 1), (true, 2), (true, 3), (true, 4), (true, 5), (false, 6), (true, 7)] (by kernel_rfl) (by kernel_rfl) (fun _ _ d _ _ h => by cases d <;> exact h) trivial ?_
    repeat (refine Plan.take (v := ?_) rfl rfl ?_ ?_; rotate_left; (focus (intro W hW; go_simp; (try with_reducible rfl); done)); (try simp only [Act.put, List.setIfInBounds_toArray, List.set_cons_zero, List.set_cons_succ]))
    refine Plan.step rfl rfl (fun Kk hKk => ?_)
    refine wp_roomI _ _ rfl g k c cur D (some ⟨g, j, none⟩) (n - j) (c - j) rfl rfl HW.out.drew (by have := HLD.out; have := HJ.out; omega) (Srcs.of fun i v hv => ?_) (by have := HJ.out; omega) (by have := HLD.out; omega) HONE.out ?_
    · have := HCELL.out i v hv
      rw [← HJ.out] at this
      rw [Addr.add_lit]
      exact HW.out.drew.cell _ _ this
    intro w1 hm1
    refine hKk.out _ _ trivial ?_
    clear hKk Kk
    (try simp only [Act.put, List.setIfInBounds_toArray, List.set_cons_zero, List.set_cons_succ])
    repeat (refine Plan.take (v := ?_) rfl rfl ?_ ?_; rotate_left; (focus (intro W hW; go_simp; (try with_reducible rfl); done)); (try simp only [Act.put, List.setIfInBounds_toArray, List.set_cons_zero, List.set_cons_succ]))
    simp only [Plan]
    obtain ⟨z, hz⟩ : ∃ z, z = k + (n - j) := ⟨_, rfl⟩
    rw [← hz]
    have HM1 := Lib.hid hm1
    have HZ := Lib.hid (show z = n - 1 by have := HJ.out; omega)
    have z0 : (z : Int) ≤ (n : Int) := by have := HJ.out; omega
    have z1 : (n : Int) ≤ (c : Int) := by omega
    have z2 : (0 : Int) ≤ (z : Int) := by omega
    have z3 : (z : Int) < (c : Int) := by have := HZ.out; omega
    clear hm1 hz
    go_wp2_with fail
    obtain ⟨w2, zs, hr, hl, hm2⟩ := run_clearK (P := Try.prog) w1 53 0 3 (.int .i64 0) 1 Try.underlying53 Try.zeroValue3 rfl (by intro v hv; simp [Value.cells] at hv; subst hv; rfl) g z (n - z) (c - z) (some ⟨g, z, none⟩) _ _ HM1.out.whole (fun _ => rfl) (by have := HZ.out; have := HLD.out; simp [splice]; omega)
    rw [hr]
    have HM2 := Lib.hid hm2
    have HL2 := Lib.hid hl
    clear hr hl hm2
    go_wp2_with fail
    go_ret
    have e1 : z = n - 1 := HZ.out
    have hW2 := HM2.out.whole
    rw [e1] at hW2 ⊢
    refine ⟨rfl, HFIN.out w2 zs (by have := HL2.out; omega) hW2, ?_, by rw [HM2.out.size, HM1.out.size]; rfl⟩
    have hg1 := HM1.out.grown
    have hg2 := HM2.out.grown
    exact ⟨hg2.os.trans hg1.os, hg2.tape.trans hg1.tape, hg2.output.trans hg1.output, Nat.le_trans hg1.size hg2.size, fun i hi hn => (hg2.block i (Nat.lt_of_lt_of_le hi hg1.size) hn).trans (hg1.block i hi hn)⟩
end Go.Proofs.Ytjkhdlmdgdcimaa
