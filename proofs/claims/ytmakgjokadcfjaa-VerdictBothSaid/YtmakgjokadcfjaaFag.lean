/- slices.IndexFunc and slices.ContainsFunc at transactions. The reference of verdicts: Pick. The program's Pick. The program's calls of stage 14: Both, Check, Pick, Fill. What the verdict laws say of the simplest lists; lists of lists that are laid down. The reference of verdicts: Both. -/
import Derived.Test.YtmakgjokadcfjaaFac
import Derived.Test.YtmakgjokadcfjaaFaf
import Derived.Test.YtmakgjokadcfjaaFaa
import Derived.Test.YtmakgjokadcfjaaFab
import Derived.Test.YtmakgjokadcfjaaFad
namespace Go.Proofs.Ytmakgjokadcfjaa
open Go.RowKit
attribute [local go_sem] less_eq same_eq le_eq ge_eq gt_eq

set_option maxHeartbeats 1000000 in
set_option maxRecDepth 100000 in
theorem unsound_any (t : Txn) (hft : fitT t) (hr : t.read < 9223372036854775808) (v1 v2 : Value) (w : World) (hv1 : RdP w w.heap.size v1 t.reads) (hv2 : RdC w w.heap.size v2 t.chgs) :
    Calls Try.prog 30 #[tval t v1 v2] w fun e w' => e = .returned (.bool (decide (¬ soundT t))) ∧ Below w.heap.size w w' := by
  have hb1 : Below w.heap.size w (w.alloc (.cells #[.int .i64 t.read, v1, v2] 34)) := (Below.refl _ _).alloc (Nat.le_refl _) _
  have hw1 := hv1.next hb1
  have hw2 := hv2.next hb1
  have HB1 := Lib.hid hb1
  have hz : w.heap.size ≤ (w.alloc (.cells #[.int .i64 t.read, v1, v2] 34)).heap.size := by simp
  by_cases hs : soundT t
  · have hp := pputT_ok t hs hr hft v1 v2 _ hw1 hw2
    rw [decide_eq_false (by simpa using hs)]
    have HP := Lib.hid hp
    clear hp hw1 hw2 hb1 hv1 hv2 hft hr hs
    unfold tval at HP ⊢
    go_enter Try.func30, Try.ntmps30
    go_wp2_with fail
    refine HP.out.mono ?_
    rintro e w2 ⟨v', rfl, -, hb2⟩
    have HB2 := Lib.hid (HB1.out.trans (hb2.mono hz))
    clear hb2 hz
    go_wp2_with fail
    go_ret
    exact ⟨rfl, HB2.out⟩
  · have hp := pputT_bad t hs hr hft v1 v2 _ hw1 hw2
    rw [decide_eq_true hs]
    have HP := Lib.hid hp
    clear hp hw1 hw2 hb1 hv1 hv2 hft hr hs
    unfold tval at HP ⊢
    go_enter Try.func30, Try.ntmps30
    go_wp2_with fail
    refine HP.out.mono ?_
    rintro e w2 ⟨rfl, hb2⟩
    have HB2 := Lib.hid (HB1.out.trans (hb2.mono hz))
    clear hb2 hz
    go_wp2_with fail
    go_ret
    exact ⟨rfl, HB2.out⟩

set_option maxHeartbeats 4000000 in
set_option maxRecDepth 100000 in
theorem tindex_any (ts : List TxV) (v : Value) (w : World) (hv : RdTs w w.heap.size v ts) (hf : ∀ x ∈ ts, fitT x.t) (hr : ∀ x ∈ ts, x.t.read < 9223372036854775808) (hl : ts.length < 4611686018427387904) :
    Calls Try.prog 35 #[v, .func (.func 30) #[] #[]] w fun e w' => ∃ r : Int, e = .returned (.int .i64 r) ∧ decide (0 ≤ r) = decide (∃ j, ∃ h : j < ts.length, ¬ soundT ts[j].t) ∧ Below w.heap.size w w' := by
  obtain ⟨A, c, rfl, hc, hk⟩ := hv.keep
  obtain ⟨g, hg⟩ : ∃ g, g = w.heap.size := ⟨_, rfl⟩
  rw [← hg]
  have hgw : Below g w w := Below.refl _ _
  have HK := Lib.hid (fun i (h : i < ts.length) => hk i h)
  have HCL := Lib.hid (fun i (h : i < ts.length) W (hW : Below w.heap.size w W) => unsound_any ts[i].t (hf _ (List.getElem_mem h)) (hr _ (List.getElem_mem h)) ts[i].v1 ts[i].v2 W (((hv.reads _ (List.getElem_mem h)).below hW (Nat.le_refl _)).mono hW.size) (((hv.chgs _ (List.getElem_mem h)).below hW (Nat.le_refl _)).mono hW.size))
  clear hv hk hf hr
  rw [← hg] at HK HCL
  have HG := Lib.hid hg; clear hg
  obtain ⟨R, hR⟩ : ∃ R, R = decide (∃ j, ∃ h : j < ts.length, ¬ soundT ts[j].t) := ⟨_, rfl⟩
  rw [← hR]
  have HYES := Lib.hid (fun i (h : i < ts.length) (e : ¬ soundT ts[i].t) => (show R = true by rw [hR]; exact decide_eq_true ⟨i, h, e⟩))
  have HNO := Lib.hid (fun (e : ∀ i (h : i < ts.length), ¬ ¬ soundT ts[i].t) => (show R = false by rw [hR]; exact decide_eq_false fun ⟨i, h, f⟩ => e i h f))
  clear hR
  have HB0 := Lib.hid hgw; clear hgw
  go_enter Try.func35, Try.ntmps35
  go_wp2_with fail
  go_loopw [8] (fun iv wr => ∃ i : Nat, i ≤ ts.length ∧ iv = .int .i64 i ∧ Hid (Below g w wr) ∧ Hid (∀ t (_ : t < ts.length), t < i → ¬ ¬ soundT ts[t].t)) (fun iv _ => ts.length - (intOf iv).toNat)
  case atStart => exact ⟨0, Nat.zero_le _, rfl, HB0, Lib.hid (fun t _ h => absurd h (Nat.not_lt_zero _))⟩
  case round =>
    obtain ⟨i, hil, rfl, HBW, HP⟩ := hrel
    by_cases hlt : i < ts.length
    · obtain ⟨b, o, rfl, hcell⟩ := HK.out i hlt
      have k0 := hcell wr HBW.out
      clear hcell
      obtain ⟨k0, k1, k2⟩ := k0
      have hI : (i : Int) < (ts.length : Int) := by omega
      have hcc := HCL.out i hlt wr HBW.out
      have hgs : g ≤ wr.heap.size := by rw [HG.out]; exact (show Below w.heap.size w wr from by rw [← HG.out]; exact HBW.out).size
      have hp : ¬ ¬ soundT ts[i].t → ∀ t (_ : t < ts.length), t < i + 1 → ¬ ¬ soundT ts[t].t := fun e t ht h => by
        by_cases h2 : t < i
        · exact HP.out t ht h2
        · obtain rfl : t = i := by omega
          exact e
      have HPP := Lib.hid hp; clear hp
      have HY := Lib.hid (HYES.out i hlt)
      by_cases hx : ¬ soundT ts[i].t
      · rw [decide_eq_true hx] at hcc
        have HR := Lib.hid (HY.out hx)
        clear hx HPP HY
        generalize ts[i] = z at k0 k1 k2 hcc
        obtain ⟨⟨zr, zl, zc⟩, zx, zy⟩ := z
        unfold tval at hcc
        simp only at k0 k1 k2 hcc
        have HCC := Lib.hid hcc; clear hcc
        go_wp2_with fail
        refine HCC.out.mono ?_
        rintro e w2 ⟨rfl, hb2⟩
        have HB2 := Lib.hid (HBW.out.trans (hb2.mono hgs))
        clear hb2 k0 k1 k2
        go_wp2_with fail
        go_ret
        exact ⟨(i : Int), rfl, by rw [HR.out]; exact decide_eq_true (by omega), HB2.out⟩
      · rw [decide_eq_false hx] at hcc
        have HP2 := Lib.hid (HPP.out hx)
        clear hx HPP HY
        generalize ts[i] = z at k0 k1 k2 hcc
        obtain ⟨⟨zr, zl, zc⟩, zx, zy⟩ := z
        unfold tval at hcc
        simp only at k0 k1 k2 hcc
        have HCC := Lib.hid hcc; clear hcc
        go_wp2_with fail
        refine HCC.out.mono ?_
        rintro e w2 ⟨rfl, hb2⟩
        have HB2 := Lib.hid (HBW.out.trans (hb2.mono hgs))
        clear hb2 k0 k1 k2
        go_wp2_with fail
        go_roundw
        case rel => exact ⟨i + 1, by omega, by go_num, HB2, HP2⟩
        case measure => simp [intOf]; omega
    · obtain rfl : i = ts.length := by omega
      have HR := Lib.hid (HNO.out fun t ht => HP.out t ht ht)
      go_wp2_with fail
      go_ret
      exact ⟨-1, rfl, by rw [HR.out]; rfl, HBW.out⟩

set_option maxHeartbeats 1000000 in
set_option maxRecDepth 100000 in
theorem tcontains_any (ts : List TxV) (v : Value) (w : World) (hv : RdTs w w.heap.size v ts) (hf : ∀ x ∈ ts, fitT x.t) (hr : ∀ x ∈ ts, x.t.read < 9223372036854775808) (hl : ts.length < 4611686018427387904) :
    Calls Try.prog 29 #[v, .func (.func 30) #[] #[]] w fun e w' => e = .returned (.bool (decide (∃ j, ∃ h : j < ts.length, ¬ soundT ts[j].t))) ∧ Below w.heap.size w w' := by
  have HI := Lib.hid (tindex_any ts v w hv hf hr hl)
  obtain ⟨A, c, rfl, -, -⟩ := hv.keep
  clear hv hf hr hl
  generalize decide (∃ j, ∃ h : j < ts.length, ¬ soundT ts[j].t) = R at HI ⊢
  go_enter Try.func29, Try.ntmps29
  go_wp2_with fail
  refine HI.out.mono ?_
  rintro e w1 ⟨r, rfl, hr, hb⟩
  have HB := Lib.hid hb
  clear hb
  have HR := Lib.hid hr
  clear hr
  go_wp2_with fail
  go_ret
  exact ⟨by rw [← HR.out]; rfl, HB.out⟩
end Go.Proofs.Ytmakgjokadcfjaa
namespace Go.Proofs.Ytmakgjokadcfjaa
open Go.RowKit
attribute [local go_sem] less_eq same_eq le_eq ge_eq gt_eq

set_option maxRecDepth 100000 in
theorem info_chgV : (Try.prog.info? 55).map (fun i => (i.zero, i.size, i.bytes)) = some (some (.agg #[.int .i64 0, .string ⟨#[]⟩, .string ⟨#[]⟩]), 3, 40) := by kernel_rfl
set_option maxRecDepth 100000 in
theorem wpList_addCV {ops : Array Oper} {rest : List Oper} {o : Oper} {a : Act} {Q : Exit → Act → World → Prop} {w : World} (hgd : Region.wanted o (yielded ops a.tmps) = true) (s x : Operand)
    (ho : o.op = .call { callee := .builtin .append, args := #[s, x], argTypes := #[32, 32] })
    (base : Nat) (v : Value) (l : List Chg) (hs : a.eval s = v) (hown : OwnC w base v l) (B : Nat) (v2 : Value) (p : List Chg) (hx : a.eval x = v2) (hp : RdC w B v2 p)
    (hlen : l.length + p.length ≤ 5629499533000) (hbase : base ≤ w.heap.size) (C : Nat) (w0 : World) (hb : Below C w0 w) (hC : C ≤ base)
    (h : ∀ A' c' w', Hid (OwnC w' base (.slice A' (l ++ p).length c') (l ++ p)) → Hid (Below C w0 w') → Hid (base ≤ w'.heap.size) → wpList Try.prog ops Q rest (a.put o.dst (.slice A' (l ++ p).length c')) w') : wpList Try.prog ops Q (o :: rest) a w := by
  obtain ⟨i0, hi, hz0, hz1, hz2⟩ := info_parts info_chgV
  refine BigFrame.wpList_want hgd fun K hK => ?_
  refine wp_addAny (enc := encC) (k := 3) 32 55 40 i0 _ Try.underlying32 hi hz0 hz1 hz2 rfl (by decide) encC_len encC_one s x ho base v l hs hown B v2 p hx hp (by unfold maxLen; omega) (by omega) hbase fun A' c' w' h1 h2 => ?_
  exact hK _ _ (h A' c' w' (Lib.hid h1) (Lib.hid (hown.grown hb h2 hC (Nat.le_trans hC hbase))) (Lib.hid (Nat.le_trans hbase h2.size)))

/-! ### what the loop holds -/
def okPick (z : List (Txn × Int)) : Prop := ∀ x ∈ z, okV x.2 ∧ soundT x.1
theorem fines_succ {z : List (Txn × Int)} {i : Nat} (h : i < z.length) : fines (z.take (i + 1)) = fines (z.take i) ++ (if z[i].2 = 1 then z[i].1.chgs else []) := by
  unfold fines
  rw [List.take_succ_eq_append_getElem h, List.flatMap_append]
  simp
theorem okPick_succ {z : List (Txn × Int)} {i : Nat} (h : i < z.length) (g : okPick (z.take i)) (e : okV z[i].2 ∧ soundT z[i].1) : okPick (z.take (i + 1)) := fun x hx => by
  rw [List.take_succ_eq_append_getElem h, List.mem_append] at hx
  rcases hx with hx | hx
  · exact g x hx
  · simp only [List.mem_singleton] at hx
    rw [hx]
    exact e
theorem pick_bad {l : List Txn} {vs : List Int} (hl : l.length = vs.length) {i : Nat} (h : i < (l.zip vs).length) (e : ¬ (okV (l.zip vs)[i].2 ∧ soundT (l.zip vs)[i].1)) : pickAns l vs = ([], 2) := by
  rw [pickAns_eq hl, if_neg (fun g => e (g _ (List.getElem_mem h)))]
theorem pick_good {l : List Txn} {vs : List Int} (hl : l.length = vs.length) (h : okPick ((l.zip vs).take (l.zip vs).length)) : pickAns l vs = (fines (l.zip vs), 0) := by
  rw [pickAns_eq hl, if_pos]
  rw [List.take_length] at h
  exact h
theorem pick_arg {l : List Txn} {vs : List Int} (hl : ¬ l.length = vs.length) : pickAns l vs = ([], 1) := by unfold pickAns; rw [if_neg hl]

set_option maxHeartbeats 8000000 in
set_option maxRecDepth 100000 in
theorem rpick_any (ts : List TxV) (vs : List Int) (v u : Value) (w : World) (hv : RdTs w w.heap.size v ts) (hu : RdI w w.heap.size u vs) (hf : ∀ x ∈ ts, fitT x.t) (hl : ts.length ≤ 40) (_hm : vs.length < 4611686018427387904) :
    Calls Try.prog 16 #[v, u] w fun e w' => ∃ v', e = .returned (.tuple #[v', .int .i64 (pickAns (ts.map (·.t)) vs).2]) ∧ RdC w' w'.heap.size v' (pickAns (ts.map (·.t)) vs).1 ∧ Below w.heap.size w w' := by
  obtain ⟨A, c, rfl, hc, hk⟩ := hv.keep
  obtain ⟨B, d, rfl, hd, hj⟩ := hu.keep
  obtain ⟨R, hR⟩ : ∃ R, R = pickAns (ts.map (·.t)) vs := ⟨_, rfl⟩
  rw [← hR]
  have htl : (ts.map (·.t)).length = ts.length := by simp
  by_cases hne : ts.length = vs.length
  case neg =>
    have hr := hR.trans (pick_arg (by rw [htl]; exact hne))
    have HR := Lib.hid hr
    have hnI : ¬ (ts.length : Int) = (vs.length : Int) := by omega
    have hnb : ((ts.length : Int) == (vs.length : Int)) = false := by simpa using hnI
    clear hR hr hk hj hv hu hf htl
    go_enter Try.func16, Try.ntmps16
    go_wp2_with fail
    go_ret2
    exact ⟨_, by rw [HR.out]; rfl, by rw [HR.out]; exact Rd.nil _ _, Below.refl _ _⟩
  have hne2 : (ts.map (·.t)).length = vs.length := by rw [htl]; exact hne
  obtain ⟨z, hz⟩ : ∃ z, z = (ts.map (·.t)).zip vs := ⟨_, rfl⟩
  have hzl : z.length = ts.length := by rw [hz, List.length_zip, htl]; omega
  have HZI := Lib.hid (fun i (h : i < ts.length) (g : i < vs.length) (e : i < z.length) => (show z[i] = (ts[i].t, vs[i]) from by subst hz; rw [List.getElem_zip, List.getElem_map]))
  have HBAD := Lib.hid (fun i (h : i < z.length) (e : ¬ (okV z[i].2 ∧ soundT z[i].1)) => (show R = ([], 2) from by subst hz; exact hR.trans (pick_bad hne2 h e)))
  have HGOOD := Lib.hid (fun (h : okPick (z.take z.length)) => (show R = (fines z, 0) from by subst hz; exact hR.trans (pick_good hne2 h)))
  have HTX := Lib.hid (fun i (h : i < ts.length) W (hW : Below w.heap.size w W) => (show RdP W W.heap.size ts[i].v1 ts[i].t.reads ∧ RdC W W.heap.size ts[i].v2 ts[i].t.chgs from ⟨((hv.reads _ (List.getElem_mem h)).below hW (Nat.le_refl _)).mono hW.size, ((hv.chgs _ (List.getElem_mem h)).below hW (Nat.le_refl _)).mono hW.size⟩))
  have HF := Lib.hid (fun i (h : i < ts.length) => hf ts[i] (List.getElem_mem h))
  have HK := Lib.hid hk
  have HJ := Lib.hid hj
  have HZL := Lib.hid hzl
  have HNE := Lib.hid hne
  rw [← hne]
  rw [← hne] at hd
  clear hR hz hk hj hv hu hf htl hne2 hzl hne
  obtain ⟨g, hg⟩ : ∃ g, g = w.heap.size := ⟨_, rfl⟩
  have HG := Lib.hid hg
  have HB0 := Lib.hid (show Below g w (w.alloc (.cells #[] 55)) from by rw [hg]; exact (Below.refl _ w).alloc (Nat.le_refl _) _)
  have HO0 := Lib.hid (show OwnC (w.alloc (.cells #[] 55)) g (.slice (some ⟨w.heap.size, 0, none⟩) 0 0) [] from by rw [hg]; exact Own.empty (e := 55) w w.heap.size (Nat.le_refl _))
  have HS0 := Lib.hid (show g ≤ (w.alloc (.cells #[] 55)).heap.size from by rw [hg]; simp)
  clear hg
  go_enter Try.func16, Try.ntmps16
  go_wp2_with fail
  go_loopw [6, 7] (fun ov iv wr => ∃ (i : Nat) (A' : Option Addr) (c' : Nat), i ≤ ts.length ∧ iv = .int .i64 i ∧ ov = .slice A' (fines (z.take i)).length c' ∧ Hid (OwnC wr g (.slice A' (fines (z.take i)).length c') (fines (z.take i))) ∧ Hid (okPick (z.take i)) ∧ Hid ((fines (z.take i)).length ≤ 24 * i) ∧ Hid (Below g w wr) ∧ Hid (g ≤ wr.heap.size)) (fun _ iv _ => ts.length - (intOf iv).toNat)
  case atStart => exact ⟨0, _, _, Nat.zero_le _, rfl, rfl, HO0, Lib.hid (fun x hx => by simp at hx), Lib.hid (by simp [fines]), HB0, HS0⟩
  case round =>
    obtain ⟨i, A', c', hil, rfl, rfl, HO, HOKP, HLN, HB, HGS⟩ := hrel
    clear HO0 HB0 HS0
    have hW : Below w.heap.size w wr := by rw [← HG.out]; exact HB.out
    by_cases hlt : i < ts.length
    · have hlv : i < vs.length := by rw [← HNE.out]; exact hlt
      have hlz : i < z.length := by rw [HZL.out]; exact hlt
      obtain ⟨b, o, rfl, hk3⟩ := HK.out i hlt
      obtain ⟨b2, o2, rfl, hj1⟩ := HJ.out i hlv
      obtain ⟨k0, k1, k2⟩ := hk3 wr hW
      have j0 := hj1 wr hW
      obtain ⟨hp, hc2⟩ := HTX.out i hlt wr hW
      have hsd := rsoundT_any ts[i].t (HF.out i hlt) ts[i].v1 ts[i].v2 wr hp hc2
      have HTX2 := Lib.hid (fun W (hW : Below w.heap.size w W) => (HTX.out i hlt W hW).2)
      have HK3 := Lib.hid hk3
      have HJ1 := Lib.hid hj1
      have hzi := HZI.out i hlt hlv hlz
      have hfs := fines_succ hlz
      have hos := okPick_succ hlz HOKP.out
      have hbd := HBAD.out i hlz
      rw [hzi] at hfs hos hbd
      simp only at hfs hos hbd
      generalize vs[i] = x at j0 HJ1 hfs hos hbd
      generalize ts[i] = T at k0 k1 k2 HK3 hp hc2 hsd HTX2 hfs hos hbd
      obtain ⟨t, v1, v2⟩ := T
      simp only at k0 k1 k2 hp hc2 hsd HTX2 hfs hos hbd HK3
      obtain ⟨A1, d1, rfl, _, _⟩ := hp.at
      obtain ⟨A2, d2, rfl, _, _⟩ := hc2.at
      have hI0 : (0 : Int) ≤ (i : Int) := by omega
      have hI1 : (i : Int) < (ts.length : Int) := by omega
      unfold tval at hsd
      have HSD := Lib.hid hsd
      have HFS := Lib.hid hfs
      have HOS := Lib.hid hos
      have HBD := Lib.hid hbd
      clear hk3 hj1 hp hc2 hsd hzi hfs hos hbd
      by_cases hx1 : x < 1
      · have HR := Lib.hid (HBD.out (fun h => by have := h.1.1; omega))
        go_wp2_with fail
        go_ret2
        exact ⟨_, by rw [HR.out]; rfl, by rw [HR.out]; exact Rd.nil _ _, hW⟩
      by_cases hx3 : 3 < x
      · have HR := Lib.hid (HBD.out (fun h => by have := h.1.2; omega))
        go_wp2_with fail
        go_ret2
        exact ⟨_, by rw [HR.out]; rfl, by rw [HR.out]; exact Rd.nil _ _, hW⟩
      have HWW := Lib.hid hW
      clear hW
      go_wp2_with fail
      refine HSD.out.mono ?_
      rintro e w2 ⟨rfl, hb2⟩
      have HB2 := Lib.hid (HB.out.trans (hb2.mono HGS.out))
      have HO2 := Lib.hid (HO.out.below hb2 (Nat.le_refl _))
      have HG2 := Lib.hid (Nat.le_trans HGS.out hb2.size)
      have hW2 : Below w.heap.size w w2 := by rw [← HG.out]; exact HB2.out
      obtain ⟨k0, k1, k2⟩ := HK3.out w2 hW2
      have j0 := HJ1.out w2 hW2
      have HC2 := Lib.hid (HTX2.out w2 hW2)
      have HW2 := Lib.hid hW2
      clear hb2 hW2 HB HO HGS HWW
      by_cases hs : soundT t
      case neg =>
        have HR := Lib.hid (HBD.out (fun h => hs h.2))
        rw [decide_eq_false hs]
        go_wp2_with fail
        go_ret2
        exact ⟨_, by rw [HR.out]; rfl, by rw [HR.out]; exact Rd.nil _ _, HW2.out⟩
      rw [decide_eq_true hs]
      have HOK2 := Lib.hid (HOS.out ⟨⟨by omega, by omega⟩, hs⟩)
      have hcl : t.chgs.length ≤ 24 := hs.2.2.2.1
      have HLC := Lib.hid hcl
      clear hs hcl
      by_cases hx : x = 1
      · subst hx
        have hfs := HFS.out
        rw [if_pos rfl] at hfs
        have HFS2 := Lib.hid hfs
        have HLN2 := Lib.hid (show (fines (z.take (i + 1))).length ≤ 24 * (i + 1) from by rw [HFS2.out, List.length_append]; have := HLN.out; have := HLC.out; omega)
        have HBND := Lib.hid (show (fines (z.take i)).length + t.chgs.length ≤ 5629499533000 from by have := HLN.out; have := HLC.out; omega)
        clear hfs
        go_wp2_with (at_builtin; go_must (refine wpList_addCV rfl _ _ rfl g _ (fines (z.take i)) rfl HO2.out w2.heap.size _ t.chgs rfl HC2.out HBND.out HG2.out g w HB2.out (Nat.le_refl _) ?_))
        intro A3 c3 w3 ho3 hb3 hg3
        have HL3 := Lib.hid (show (fines (z.take i)).length + t.chgs.length = (fines (z.take (i + 1))).length from by rw [HFS2.out, List.length_append])
        have HO3 := Lib.hid (show OwnC w3 g (.slice A3 (fines (z.take (i + 1))).length c3) (fines (z.take (i + 1))) from by have h := ho3.out; rw [← HFS2.out] at h; (try rw [HL3.out] at h); exact h)
        clear ho3 k0 k1 k2 j0
        go_wp2_with fail
        go_roundw
        case rel => exact ⟨i + 1, A3, c3, by omega, by go_num, by first | rw [← HL3.out] | rw [HFS2.out], HO3, HOK2, HLN2, hb3, hg3⟩
        case measure => simp [intOf]; omega
      · have hfs := HFS.out
        rw [if_neg hx, List.append_nil] at hfs
        have HFS2 := Lib.hid hfs
        have hxb : (x == 1) = false := by simpa using hx
        clear hfs
        go_wp2_with fail
        go_roundw
        case rel => exact ⟨i + 1, A', c', by omega, by go_num, by rw [HFS2.out], by rw [HFS2.out]; exact HO2, HOK2, Lib.hid (by rw [HFS2.out]; have := HLN.out; omega), HB2, HG2⟩
        case measure => simp [intOf]; omega
    · obtain rfl : i = ts.length := by omega
      rw [← HZL.out] at HOKP HO
      rw [← HZL.out]
      have hr := HGOOD.out HOKP.out
      rw [List.take_length] at HO
      rw [List.take_length]
      have HR := Lib.hid hr
      rw [HZL.out]
      have hg0 : ¬ (ts.length : Int) < (ts.length : Int) := by omega
      clear hr
      go_wp2_with fail
      go_ret2
      exact ⟨.slice A' (fines z).length c', by rw [HR.out]; rfl, by rw [HR.out]; exact Own.rd encC_len HO.out, hW⟩
end Go.Proofs.Ytmakgjokadcfjaa
namespace Go.Proofs.Ytmakgjokadcfjaa
open Go.RowKit
attribute [local go_sem] less_eq same_eq le_eq ge_eq gt_eq

/-- one list, laid into a list of lists -/
theorem RdLL.one (w : World) (e : LI) (h : RdI w w.heap.size e.v e.l) : RdLL (w.alloc (.cells #[e.v] 23)) (w.heap.size + 1) (.slice (some ⟨w.heap.size, 0, none⟩) 1 1) [e] := by
  refine ⟨⟨some ⟨w.heap.size, 0, none⟩, 1, rfl, Nat.le_refl _, fun i hi => ⟨w.heap.size, 0, rfl, Nat.lt_succ_self _, fun j u hu => ?_⟩⟩, fun x hx => ?_⟩
  · obtain rfl : i = 0 := by simpa using hi
    match j, hu with
    | 0, hu =>
      simp only [List.getElem_cons_zero, encLI, List.getElem?_cons_zero, Option.some.injEq] at hu
      subst hu
      exact (Whole.fresh w 23 [e.v]).cell 0 _ rfl
    | j + 1, hu => simp [encLI] at hu
  · simp only [List.mem_cons, List.not_mem_nil, or_false] at hx
    rw [hx]
    exact (h.below ((Below.refl _ w).alloc (Nat.le_refl _) _) (Nat.le_refl _)).mono (Nat.le_succ _)
theorem allV_one {e : LI} : allV (lls [e]) ↔ ∀ x ∈ e.l, okV x := by simp [allV, lls]

set_option maxHeartbeats 8000000 in
set_option maxRecDepth 100000 in
theorem ppick_any (ts : List TxV) (vs : List Int) (v u : Value) (w : World) (hv : RdTs w w.heap.size v ts) (hu : RdI w w.heap.size u vs) (hf : ∀ x ∈ ts, fitT x.t) (hr : ∀ x ∈ ts, x.t.read < 9223372036854775808) (hl : ts.length ≤ 40) (hm : vs.length < 4611686018427387904) :
    Calls Try.prog 15 #[v, u] w fun e w' => ∃ v', e = .returned (.tuple #[v', .int .i64 (pickAns (ts.map (·.t)) vs).2]) ∧ RdC w' w'.heap.size v' (pickAns (ts.map (·.t)) vs).1 ∧ Below w.heap.size w w' := by
  obtain ⟨A, c, rfl, hc, hk⟩ := hv.keep
  obtain ⟨B, d, rfl, hd, hj⟩ := hu.keep
  obtain ⟨R, hR⟩ : ∃ R, R = pickAns (ts.map (·.t)) vs := ⟨_, rfl⟩
  rw [← hR]
  have htl : (ts.map (·.t)).length = ts.length := by simp
  by_cases hne : ts.length = vs.length
  case neg =>
    have HR := Lib.hid (hR.trans (pick_arg (by rw [htl]; exact hne)))
    have hnI : ¬ (ts.length : Int) = (vs.length : Int) := by omega
    have hnb : ((ts.length : Int) == (vs.length : Int)) = false := by simpa using hnI
    clear hR hk hj hv hu hf hr htl
    go_enter Try.func15, Try.ntmps15
    go_wp2_with fail
    go_ret2
    exact ⟨_, by rw [HR.out]; rfl, by rw [HR.out]; exact Rd.nil _ _, Below.refl _ _⟩
  have hne2 : (ts.map (·.t)).length = vs.length := by rw [htl]; exact hne
  obtain ⟨z, hz⟩ : ∃ z, z = (ts.map (·.t)).zip vs := ⟨_, rfl⟩
  have hzl : z.length = ts.length := by rw [hz, List.length_zip, htl]; omega
  have HZI := Lib.hid (fun i (h : i < ts.length) (g : i < vs.length) (e : i < z.length) => (show z[i] = (ts[i].t, vs[i]) from by subst hz; rw [List.getElem_zip, List.getElem_map]))
  have HBAD := Lib.hid (fun i (h : i < z.length) (e : ¬ (okV z[i].2 ∧ soundT z[i].1)) => (show R = ([], 2) from by subst hz; exact hR.trans (pick_bad hne2 h e)))
  have HGOOD := Lib.hid (fun (h : okPick (z.take z.length)) => (show R = (fines z, 0) from by subst hz; exact hR.trans (pick_good hne2 h)))
  obtain ⟨w1, hw1⟩ : ∃ w1, w1 = w.alloc (.cells #[.slice B vs.length d] 23) := ⟨_, rfl⟩
  have hb1 : Below w.heap.size w w1 := by rw [hw1]; exact (Below.refl _ w).alloc (Nat.le_refl _) _
  have hkn := pknown_any [⟨vs, B, d⟩] (.slice (some ⟨w.heap.size, 0, none⟩) 1 1) w1 (by
    have h := RdLL.one w ⟨vs, B, d⟩ hu
    rw [hw1, World.size_alloc]
    exact h) (by simp) (by
    intro e he
    simp only [List.mem_cons, List.not_mem_nil, or_false] at he
    rw [he]; exact hm)
  rw [show decide (allV (lls [⟨vs, B, d⟩])) = decide (∀ x ∈ vs, okV x) from decide_eq_decide.2 allV_one] at hkn
  have HTC := Lib.hid (fun W (h : Below w.heap.size w W) => tcontains_any ts _ W (hv.next h) hf hr (by omega))
  have HTX := Lib.hid (fun i (h : i < ts.length) W (hW : Below w.heap.size w W) => (show RdP W W.heap.size ts[i].v1 ts[i].t.reads ∧ RdC W W.heap.size ts[i].v2 ts[i].t.chgs from ⟨((hv.reads _ (List.getElem_mem h)).below hW (Nat.le_refl _)).mono hW.size, ((hv.chgs _ (List.getElem_mem h)).below hW (Nat.le_refl _)).mono hW.size⟩))
  have HK := Lib.hid hk
  have HJ := Lib.hid hj
  have HZL := Lib.hid hzl
  have HNE := Lib.hid hne
  have HB1 := Lib.hid hb1
  have hz1 : w.heap.size ≤ w1.heap.size := hb1.size
  rw [← hne]
  rw [← hne] at hm hd hw1
  clear hR hz hk hj hv hu hf hr htl hne2 hzl hne hb1
  by_cases hall : ∀ x ∈ vs, okV x
  case neg =>
    have HR : Hid (R = ([], 2)) := Lib.hid (by
      apply Classical.byContradiction
      intro hno
      refine hall fun x hx => ?_
      obtain ⟨i, hi, rfl⟩ := List.mem_iff_getElem.1 hx
      have hlt : i < ts.length := by rw [HNE.out]; exact hi
      have hlz : i < z.length := by rw [HZL.out]; exact hlt
      apply Classical.byContradiction
      intro g
      refine hno (HBAD.out i hlz fun h => g ?_)
      have := h.1
      rw [HZI.out i hlt hi hlz] at this
      exact this)
    rw [decide_eq_false hall] at hkn
    have HKN := Lib.hid hkn
    clear hall hkn
    go_enter Try.func15, Try.ntmps15
    go_wp2_with fail
    rw [← hw1]
    clear hw1
    refine HKN.out.mono ?_
    rintro e w2 ⟨rfl, rfl⟩
    go_wp2_with fail
    go_ret2
    exact ⟨_, by rw [HR.out]; rfl, by rw [HR.out]; exact Rd.nil _ _, HB1.out⟩
  rw [decide_eq_true hall] at hkn
  have HKN := Lib.hid hkn
  have HALL := Lib.hid (fun i (h : i < vs.length) => hall vs[i] (List.getElem_mem h))
  have HT1 := Lib.hid (HTC.out w1 HB1.out)
  clear hall hkn HTC
  by_cases hsd : ∃ j, ∃ h : j < ts.length, ¬ soundT ts[j].t
  case pos =>
    have HR : Hid (R = ([], 2)) := Lib.hid (by
      obtain ⟨i, hlt, g⟩ := hsd
      have hi : i < vs.length := by rw [← HNE.out]; exact hlt
      have hlz : i < z.length := by rw [HZL.out]; exact hlt
      refine HBAD.out i hlz fun h => g ?_
      have := h.2
      rw [HZI.out i hlt hi hlz] at this
      exact this)
    rw [decide_eq_true hsd] at HT1
    clear hsd
    go_enter Try.func15, Try.ntmps15
    go_wp2_with fail
    rw [← hw1]
    clear hw1
    refine HKN.out.mono ?_
    rintro e w2 ⟨rfl, rfl⟩
    go_wp2_with fail
    refine HT1.out.mono ?_
    rintro e w3 ⟨rfl, hb3⟩
    have HB3 := Lib.hid (HB1.out.trans (hb3.mono hz1))
    clear hb3
    go_wp2_with fail
    go_ret2
    exact ⟨_, by rw [HR.out]; rfl, by rw [HR.out]; exact Rd.nil _ _, HB3.out⟩
  rw [decide_eq_false hsd] at HT1
  have HSD := Lib.hid (fun i (h : i < ts.length) => (show soundT ts[i].t from Classical.byContradiction fun g => hsd ⟨i, h, g⟩))
  have hgood := HGOOD.out (by
    rw [List.take_length]
    intro x hx
    obtain ⟨i, hlz, rfl⟩ := List.mem_iff_getElem.1 hx
    have hlt : i < ts.length := by rw [← HZL.out]; exact hlz
    have hi : i < vs.length := by rw [← HNE.out]; exact hlt
    rw [HZI.out i hlt hi hlz]
    exact ⟨HALL.out i hi, HSD.out i hlt⟩)
  have HR := Lib.hid hgood
  clear hsd hgood HGOOD HBAD HALL
  go_enter Try.func15, Try.ntmps15
  go_wp2_with fail
  rw [← hw1]
  clear hw1
  refine HKN.out.mono ?_
  rintro e w2 ⟨rfl, rfl⟩
  go_wp2_with fail
  refine HT1.out.mono ?_
  rintro e w3 ⟨rfl, hb3⟩
  have HB3 := Lib.hid (HB1.out.trans (hb3.mono hz1))
  clear hb3 HT1 HB1 HKN
  obtain ⟨g, hg⟩ : ∃ g, g = w.heap.size := ⟨_, rfl⟩
  have HG := Lib.hid hg
  have HS0 := Lib.hid (show g ≤ w3.heap.size from by rw [hg]; exact HB3.out.size)
  have HO0 := Lib.hid (show OwnC w3 g (.slice none 0 0) [] from Own.nil _ _)
  rw [← hg] at HB3
  clear hg
  go_wp2_with fail
  go_loopw [6, 26] (fun ov iv wr => ∃ (i : Nat) (A' : Option Addr) (c' : Nat), i ≤ ts.length ∧ iv = .int .i64 i ∧ ov = .slice A' (fines (z.take i)).length c' ∧ Hid (OwnC wr g (.slice A' (fines (z.take i)).length c') (fines (z.take i))) ∧ Hid ((fines (z.take i)).length ≤ 24 * i) ∧ Hid (Below g w wr) ∧ Hid (g ≤ wr.heap.size)) (fun _ iv _ => ts.length - (intOf iv).toNat)
  case atStart => exact ⟨0, none, 0, Nat.zero_le _, rfl, rfl, HO0, Lib.hid (by simp [fines]), HB3, HS0⟩
  case round =>
    obtain ⟨i, A', c', hil, rfl, rfl, HO, HLN, HB, HGS⟩ := hrel
    clear HO0 HB3 HS0
    have hW : Below w.heap.size w wr := by rw [← HG.out]; exact HB.out
    by_cases hlt : i < ts.length
    · have hlv : i < vs.length := by rw [← HNE.out]; exact hlt
      have hlz : i < z.length := by rw [HZL.out]; exact hlt
      obtain ⟨b, o, rfl, hk3⟩ := HK.out i hlt
      obtain ⟨b2, o2, rfl, hj1⟩ := HJ.out i hlv
      obtain ⟨k0, k1, k2⟩ := hk3 wr hW
      have HJ1 := Lib.hid hj1
      have HTX2 := Lib.hid (HTX.out i hlt)
      have hzi := HZI.out i hlt hlv hlz
      have hfs := fines_succ hlz
      have hcl : ts[i].t.chgs.length ≤ 24 := (HSD.out i hlt).2.2.2.1
      rw [hzi] at hfs
      simp only at hfs
      generalize vs[i] = x at HJ1 hfs
      generalize ts[i] = T at k0 k1 k2 HTX2 hfs hcl
      obtain ⟨t, v1, v2⟩ := T
      simp only at k0 k1 k2 HTX2 hfs hcl
      obtain ⟨A1, d1, rfl, -, -⟩ := (HTX2.out wr hW).1.at
      obtain ⟨A2, d2, rfl, -, -⟩ := (HTX2.out wr hW).2.at
      have hI0 : (0 : Int) ≤ (i : Int) := by omega
      have hI1 : (i : Int) < (ts.length : Int) := by omega
      obtain ⟨wa, hwa⟩ : ∃ wa, wa = wr.alloc (.cells #[.int .i64 t.read, .slice A1 t.reads.length d1, .slice A2 t.chgs.length d2] 34) := ⟨_, rfl⟩
      have hba : Below wr.heap.size wr wa := by rw [hwa]; exact (Below.refl _ wr).alloc (Nat.le_refl _) _
      have HBA := Lib.hid (HB.out.trans (hba.mono HGS.out))
      have HOA := Lib.hid (HO.out.below hba (Nat.le_refl _))
      have HGA := Lib.hid (Nat.le_trans HGS.out hba.size)
      have hWA : Below w.heap.size w wa := by rw [← HG.out]; exact HBA.out
      have HC2 := Lib.hid (HTX2.out wa hWA).2
      have j0 := HJ1.out wa hWA
      have hwh : Whole wa wr.heap.size 34 [.int .i64 t.read, .slice A1 t.reads.length d1, .slice A2 t.chgs.length d2] := by rw [hwa]; exact Whole.fresh wr _ _
      have HWH := Lib.hid hwh
      have HFS := Lib.hid hfs
      have HLC := Lib.hid hcl
      clear hk3 hj1 hzi hfs hcl hba hwh hW hWA
      subst hwa
      by_cases hx : x = 1
      · subst hx
        have hfs := HFS.out
        rw [if_pos rfl] at hfs
        have HFS2 := Lib.hid hfs
        have HLN2 := Lib.hid (show (fines (z.take (i + 1))).length ≤ 24 * (i + 1) from by rw [HFS2.out, List.length_append]; have := HLN.out; have := HLC.out; omega)
        have HBND := Lib.hid (show (fines (z.take i)).length + t.chgs.length ≤ 5629499533000 from by have := HLN.out; have := HLC.out; omega)
        clear hfs
        go_wp2_with (at_builtin; go_must (refine wpList_addCV rfl _ _ rfl g _ (fines (z.take i)) rfl HOA.out _ _ t.chgs rfl HC2.out HBND.out HGA.out g w HBA.out (Nat.le_refl _) ?_))
        intro A3 c3 w5 ho3 hb5 hg5
        have HL3 := Lib.hid (show (fines (z.take i)).length + t.chgs.length = (fines (z.take (i + 1))).length from by rw [HFS2.out, List.length_append])
        have HO3 := Lib.hid (show OwnC w5 g (.slice A3 (fines (z.take (i + 1))).length c3) (fines (z.take (i + 1))) from by have h := ho3.out; rw [← HFS2.out] at h; (try rw [HL3.out] at h); exact h)
        clear ho3 k0 k1 k2 j0
        go_wp2_with fail
        go_roundw
        case rel => exact ⟨i + 1, A3, c3, by omega, by go_num, by first | rw [← HL3.out] | rw [HFS2.out], HO3, HLN2, hb5, hg5⟩
        case measure => simp [intOf]; omega
      · have hfs := HFS.out
        rw [if_neg hx, List.append_nil] at hfs
        have HFS2 := Lib.hid hfs
        have hxb : (x == 1) = false := by simpa using hx
        clear hfs
        go_wp2_with fail
        go_roundw
        case rel => exact ⟨i + 1, A', c', by omega, by go_num, by rw [HFS2.out], by rw [HFS2.out]; exact HOA, Lib.hid (by rw [HFS2.out]; have := HLN.out; omega), HBA, HGA⟩
        case measure => simp [intOf]; omega
    · obtain rfl : i = ts.length := by omega
      rw [← HZL.out] at HO
      rw [← HZL.out]
      rw [List.take_length] at HO
      rw [List.take_length]
      rw [HZL.out]
      have hg0 : ¬ (ts.length : Int) < (ts.length : Int) := by omega
      go_wp2_with fail
      go_ret2
      exact ⟨.slice A' (fines z).length c', by rw [HR.out]; rfl, by rw [HR.out]; exact Own.rd encC_len HO.out, hW⟩
end Go.Proofs.Ytmakgjokadcfjaa
namespace Go.Proofs.Ytmakgjokadcfjaa
end Go.Proofs.Ytmakgjokadcfjaa
namespace Go.Proofs.Ytmakgjokadcfjaa
open Go.RowKit
attribute [local go_sem] less_eq same_eq le_eq ge_eq gt_eq

theorem RdLL.lit (w : World) (ls : List LI) (h : ∀ e ∈ ls, RdI w w.heap.size e.v e.l) : RdLL (w.alloc (.cells (ls.map LI.v).toArray 23)) (w.heap.size + 1) (.slice (some ⟨w.heap.size, 0, none⟩) ls.length ls.length) ls := by
  refine ⟨⟨some ⟨w.heap.size, 0, none⟩, ls.length, rfl, Nat.le_refl _, fun i hi => ⟨w.heap.size, 0, rfl, Nat.lt_succ_self _, fun j u hu => ?_⟩⟩, fun e he => ((h e he).below ((Below.refl _ w).alloc (Nat.le_refl _) _) (Nat.le_refl _)).mono (Nat.le_succ _)⟩
  match j, hu with
  | 0, hu =>
    simp only [encLI, List.getElem?_cons_zero, Option.some.injEq] at hu
    have := (Whole.fresh w 23 (ls.map LI.v)).cell i u (by simp [hi, hu])
    simpa using this
  | j + 1, hu => simp [encLI] at hu
theorem RdI.litN (w : World) (l : List Int) : RdI (w.alloc (.cells (l.map (.int .i64)).toArray 3)) (w.heap.size + 1) (.slice (some ⟨w.heap.size, 0, none⟩) l.length l.length) l := by
  refine ⟨some ⟨w.heap.size, 0, none⟩, l.length, rfl, Nat.le_refl _, fun i hi => ⟨w.heap.size, 0, rfl, Nat.lt_succ_self _, fun j u hu => ?_⟩⟩
  match j, hu with
  | 0, hu =>
    simp only [encI, List.getElem?_cons_zero, Option.some.injEq] at hu
    have := (Whole.fresh w 3 (l.map (.int .i64))).cell i u (by simp [hi, hu])
    simpa using this
  | j + 1, hu => simp [encI] at hu

set_option maxHeartbeats 4000000 in
set_option maxRecDepth 100000 in
theorem awakeD_any (w : World) : Calls Try.prog 11 #[] w fun e w' => e = .returned (.bool true) ∧ Below w.heap.size w w' := by
  obtain ⟨w1, hw1⟩ : ∃ w1, w1 = w.alloc (.cells #[.int .i64 1, .int .i64 1] 3) := ⟨_, rfl⟩
  obtain ⟨w2, hw2⟩ : ∃ w2, w2 = w1.alloc (.cells #[.int .i64 2, .int .i64 1] 3) := ⟨_, rfl⟩
  obtain ⟨w3, hw3⟩ : ∃ w3, w3 = w2.alloc (.cells #[.slice (some ⟨w.heap.size, 0, none⟩) 2 2, .slice (some ⟨w.heap.size + 1, 0, none⟩) 2 2] 23) := ⟨_, rfl⟩
  have hs1 : w1.heap.size = w.heap.size + 1 := by rw [hw1]; simp
  have hs2 : w2.heap.size = w.heap.size + 1 + 1 := by rw [hw2, World.size_alloc, hs1]
  have hs3 : w3.heap.size = w.heap.size + 1 + 1 + 1 := by rw [hw3, World.size_alloc, hs2]
  have r1 : RdI w2 w2.heap.size (.slice (some ⟨w.heap.size, 0, none⟩) 2 2) [1, 1] := by
    have h := RdI.litN w [1, 1]
    have h1 : RdI w1 w1.heap.size (.slice (some ⟨w.heap.size, 0, none⟩) 2 2) [1, 1] := by rw [hs1, hw1]; exact h
    rw [hw2]
    exact h1.next ((Below.refl _ w1).alloc (Nat.le_refl _) _)
  have r2 : RdI w2 w2.heap.size (.slice (some ⟨w.heap.size + 1, 0, none⟩) 2 2) [2, 1] := by
    have h := RdI.litN w1 [2, 1]
    rw [hs1] at h
    rw [hw2, World.size_alloc, hs1]
    exact h
  have hl := RdLL.lit w2 [⟨[1, 1], some ⟨w.heap.size, 0, none⟩, 2⟩, ⟨[2, 1], some ⟨w.heap.size + 1, 0, none⟩, 2⟩] (by
    intro e he
    simp only [List.mem_cons, List.not_mem_nil, or_false] at he
    rcases he with rfl | rfl
    · exact r1
    · exact r2)
  have hb3 : Below w.heap.size w w3 := by rw [hw3, hw2, hw1]; exact (((Below.refl _ w).alloc (Nat.le_refl _) _).alloc (by simp) _).alloc (by simp; omega) _
  have hP := pboth_any [⟨[1, 1], some ⟨w.heap.size, 0, none⟩, 2⟩, ⟨[2, 1], some ⟨w.heap.size + 1, 0, none⟩, 2⟩] (.slice (some ⟨w.heap.size + 1 + 1, 0, none⟩) 2 2) w3 (by
    rw [hs3, hw3, ← hs2]; rw [hs2] at hl ⊢; exact hl) (by simp) (by
    intro e he
    simp only [List.mem_cons, List.not_mem_nil, or_false] at he
    rcases he with rfl | rfl <;> simp)
  rw [show bothAns (lls [⟨[1, 1], some ⟨w.heap.size, 0, none⟩, 2⟩, ⟨[2, 1], some ⟨w.heap.size + 1, 0, none⟩, 2⟩]) = ([2, 1], 0) from (by decide : bothAns [[1, 1], [2, 1]] = ([2, 1], 0))] at hP
  have hC := fun W => pcheckT_any ⟨-1, [], []⟩ ⟨by simp, by simp, by simp, by simp⟩ (.slice none 0 0) (.slice none 0 0) W (Rd.nil _ _) (Rd.nil _ _)
  rw [show checkT ⟨-1, [], []⟩ = 1 from by decide] at hC
  unfold tval at hC
  simp only at hC
  have HP := Lib.hid hP
  have HC := Lib.hid hC
  have HB3 := Lib.hid hb3
  clear hl hb3 hP hC r1 r2 hs1 hs2 hs3
  go_enter Try.func11, Try.ntmps11
  go_wp2_with fail
  (try rw [← hw1]); (try rw [← hw2]); (try rw [← hw3])
  clear hw1 hw2 hw3
  refine HP.out.mono ?_
  rintro e w4 ⟨v, rfl, hr, hb4⟩
  obtain ⟨A, c, rfl, hc, hi⟩ := hr.at
  obtain ⟨b, o, rfl, _, k0⟩ := hi 0 (by simp)
  obtain ⟨b2, o2, e2, _, k1⟩ := hi 1 (by simp)
  injection e2 with e2
  injection e2 with e3 e4
  subst e3 e4
  simp only [List.getElem_cons_zero, List.getElem_cons_succ, Nat.add_zero] at k0 k1
  have HB4 := Lib.hid (HB3.out.trans (hb4.mono HB3.out.size))
  have hcI : (2 : Int) ≤ (c : Int) := by simp at hc; omega
  clear hi hb4 hr hc
  go_wp2_with fail
  refine (HC.out _).mono ?_
  rintro e w5 ⟨rfl, hb5⟩
  have HB5 := Lib.hid (HB4.out.trans (hb5.mono HB4.out.size))
  clear hb5 k0 k1
  go_wp2_with fail
  go_ret
  exact ⟨rfl, HB5.out⟩
end Go.Proofs.Ytmakgjokadcfjaa
namespace Go.Proofs.Ytmakgjokadcfjaa
open Go.RowKit
attribute [local go_sem] less_eq same_eq le_eq ge_eq gt_eq

set_option maxHeartbeats 4000000 in
set_option maxRecDepth 100000 in
theorem rboth_any (ls : List LI) (v : Value) (w : World) (hv : RdLL w w.heap.size v ls) (hl : ls.length < 4611686018427387904) (hs : ∀ e ∈ ls, e.l.length ≤ 17592186043904) :
    Calls Try.prog 10 #[v] w fun e w' => ∃ v', e = .returned (.tuple #[v', .int .i64 (bothAns (lls ls)).2]) ∧ RdI w' w'.heap.size v' (bothAns (lls ls)).1 ∧ Below w.heap.size w w' := by
  obtain ⟨A, c, rfl, hc, hk⟩ := hv.keep
  have HPT := Lib.hid (fun i (h : i < ls.length) => hv.parts ls[i] (List.getElem_mem h))
  have HSM := Lib.hid (fun i (h : i < ls.length) => hs ls[i] (List.getElem_mem h))
  clear hv hs
  have HK := Lib.hid hk; clear hk
  by_cases h0 : ls.length = 0
  · obtain rfl : ls = [] := List.eq_nil_of_length_eq_zero h0
    have HR := Lib.hid (show bothAns (lls []) = ([], 1) from bothAns_none)
    clear HK HPT HSM h0
    go_enter Try.func10, Try.ntmps10
    go_wp2_with fail
    go_ret2
    exact ⟨_, by rw [HR.out]; rfl, by rw [HR.out]; exact Rd.nil _ _, Below.refl _ _⟩
  have h1 : 0 < ls.length := by omega
  obtain ⟨R, hR⟩ : ∃ R, R = bothAns (lls ls) := ⟨_, rfl⟩
  rw [← hR]
  have HARG := Lib.hid (fun h => hR.trans (bothAns_arg (ls := lls ls) h))
  have HFORM := Lib.hid (fun h g => hR.trans (bothAns_form (ls := lls ls) h g))
  have HOK := Lib.hid (fun h g => hR.trans (bothAns_ok (ls := lls ls) h g))
  clear hR
  obtain ⟨n0, hn0⟩ : ∃ n0, n0 = lenV (lls ls) := ⟨_, rfl⟩
  have hn1 : ls[0].l.length = n0 := by rw [hn0, lenV_lls h1]
  have hnb : n0 ≤ 17592186043904 := by rw [← hn1]; exact HSM.out 0 h1
  obtain ⟨b, o, rfl, hk0⟩ := HK.out 0 h1
  rw [hn1] at hk0
  have HK0 := Lib.hid (fun W h => (show W.cell? ⟨b, o, none⟩ = some (.slice ls[0].A n0 ls[0].c) from hk0 W h))
  have HKI := Lib.hid (fun i (h : i < ls.length) => (show ∀ W, Below w.heap.size w W → W.cell? ⟨b, o + i, none⟩ = some (.slice ls[i].A ls[i].l.length ls[i].c) from by
    obtain ⟨b2, o2, e, h2⟩ := HK.out i h
    injection e with e
    injection e with e1 e2
    subst e1 e2
    exact h2))
  have HN0 := Lib.hid hn0
  have HN1 := Lib.hid hn1
  have H0 := Lib.hid h0
  clear hk0 HK hn0 hn1 h0
  obtain ⟨g, hg⟩ : ∃ g, g = w.heap.size := ⟨_, rfl⟩
  have HG := Lib.hid hg; clear hg
  have hne : ¬ (ls.length : Int) = 0 := by omega
  have hneb : ((ls.length : Int) == 0) = false := by simpa using hne
  go_enter Try.func10, Try.ntmps10
  go_wp2_with fail
  clear hne hneb
  go_loopw [4] (fun iv wr => ∃ i : Nat, i ≤ ls.length ∧ iv = .int .i64 i ∧ Hid (evenTo ls i) ∧ Hid (Below g w wr)) (fun iv _ => ls.length - (intOf iv).toNat)
  case atStart => exact ⟨0, Nat.zero_le _, rfl, Lib.hid (fun j _ h => by omega), Lib.hid (by rw [HG.out]; exact Below.refl _ _)⟩
  case round =>
    obtain ⟨i, hil, rfl, HE, HB⟩ := hrel
    by_cases hlt : i < ls.length
    · have hI0 : (0 : Int) ≤ (i : Int) := by omega
      have hI1 : (i : Int) < (ls.length : Int) := by omega
      have hL1 : (0 : Int) < (ls.length : Int) := by omega
      have HWI := Lib.hid (fun W (h : Below g w W) => HKI.out i hlt W (by rw [← HG.out]; exact h))
      have HW0 := Lib.hid (fun W (h : Below g w W) => HK0.out W (by rw [← HG.out]; exact h))
      obtain ⟨m, hm⟩ : ∃ m, m = ls[i].l.length := ⟨_, rfl⟩
      have hstep : m = n0 → evenTo ls (i + 1) := fun e j hj hji => by
        by_cases h : j < i
        · exact HE.out j hj h
        · obtain rfl : j = i := by omega
          rw [← hm, e, HN0.out]
      have hbad : m ≠ n0 → ¬ evenV (lls ls) := fun e => evenTo_bad hlt (by rw [← hm, ← HN0.out]; exact e)
      rw [← hm] at HWI
      have HSTEP := Lib.hid hstep
      have HBAD := Lib.hid hbad
      clear hm hstep hbad
      generalize ls[i].A = Ai at HWI
      generalize ls[i].c = ci at HWI
      generalize ls[0].A = A0 at HW0
      generalize ls[0].c = c0 at HW0
      have hd0 : Below g w wr.drew := HB.out.drew
      have hgs : g ≤ wr.heap.size := by rw [HG.out]; exact (show Below w.heap.size w wr from by rw [← HG.out]; exact HB.out).size
      by_cases hmn : m = n0
      · have HST := Lib.hid (HSTEP.out hmn)
        subst hmn
        go_wp2_with fail
        refine wp_region_planB [(true, 0), (true, 1), (true, 2), (true, 3), (true, 4), (true, 5), (true, 6), (true, 7), (true, 8), (true, 9)] (by kernel_rfl) (by kernel_rfl) (fun _ _ d _ _ h => by cases d <;> exact h) ?_
        iterate 10 (refine PlanB.take (v := ?_) rfl rfl ?_ ?_; rotate_left; (focus (intro W hW; have hW2 := hd0.trans (hW.mono hgs); have ki := HWI.out W hW2; have k0 := HW0.out W hW2; clear hW2; go_simp; (try with_reducible rfl); done)); (try simp only [Act.put, List.setIfInBounds_toArray, List.set_cons_zero, List.set_cons_succ]))
        simp only [PlanB]
        have HBD := Lib.hid hd0
        clear hd0 hgs
        go_wp2_with fail
        go_roundw
        case rel => exact ⟨i + 1, by omega, by go_num, HST, HBD⟩
        case measure => simp [intOf]; omega
      · have hbd := HBAD.out hmn
        have hr := HARG.out hbd
        have HR := Lib.hid hr
        have hmI : ¬ (m : Int) = (n0 : Int) := by omega
        have hmb : ((m : Int) == (n0 : Int)) = false := by simpa using hmI
        clear hbd hr
        go_wp2_with fail
        refine wp_region_planB [(true, 0), (true, 1), (true, 2), (true, 3), (true, 4), (true, 5), (true, 6), (true, 7), (true, 8), (true, 9)] (by kernel_rfl) (by kernel_rfl) (fun _ _ d _ _ h => by cases d <;> exact h) ?_
        iterate 9 (refine PlanB.take (v := ?_) rfl rfl ?_ ?_; rotate_left; (focus (intro W hW; have hW2 := hd0.trans (hW.mono hgs); have ki := HWI.out W hW2; have k0 := HW0.out W hW2; clear hW2; go_simp; (try with_reducible rfl); done)); (try simp only [Act.put, List.setIfInBounds_toArray, List.set_cons_zero, List.set_cons_succ]))
        refine PlanB.take (v := .bool true) rfl rfl ?_ ?_
        · intro W hW
          go_simp
          (try simp [hmI])
        (try simp only [Act.put, List.setIfInBounds_toArray, List.set_cons_zero, List.set_cons_succ])
        simp only [PlanB]
        have HBD := Lib.hid hd0
        clear hd0 hgs hmI hmb
        go_wp2_with fail
        go_ret2
        exact ⟨_, by rw [HR.out]; rfl, by rw [HR.out]; exact Rd.nil _ _, by rw [← HG.out]; exact HBD.out⟩
    · obtain rfl : i = ls.length := by omega
      have HEV := Lib.hid (evenTo_all h1 HE.out)
      have hgs : g ≤ wr.heap.size := by rw [HG.out]; exact (show Below w.heap.size w wr from by rw [← HG.out]; exact HB.out).size
      clear HE HARG
      have hL1 : (0 : Int) < (ls.length : Int) := by omega
      have HB0 := Lib.hid (show Below g w (wr.alloc (.cells #[] 3)) from HB.out.alloc hgs _)
      have HO0 := Lib.hid (show OwnI (wr.alloc (.cells #[] 3)) g (.slice (some ⟨wr.heap.size, 0, none⟩) 0 0) [] from (Own.empty (e := 3) wr wr.heap.size (Nat.le_refl _)).lower hgs)
      have HGS := Lib.hid (show g ≤ (wr.alloc (.cells #[] 3)).heap.size from by rw [World.size_alloc]; omega)
      clear hgs
      have h0n : (bothTo (lls ls) 0).length = 0 := bothTo_length _ _
      have hlen : ∀ k, (bothTo (lls ls) k).length = k := bothTo_length _
      have HLEN := Lib.hid hlen
      clear hlen h0n
      go_wp2_with fail
      go_loopw [5, 6] (fun ov kv wr => ∃ (k : Nat) (A' : Option Addr) (c' : Nat), k ≤ n0 ∧ kv = .int .i64 k ∧ ov = .slice A' k c' ∧ Hid (OwnI wr g (.slice A' k c') (bothTo (lls ls) k)) ∧ Hid (okTo ls k) ∧ Hid (Below g w wr) ∧ Hid (g ≤ wr.heap.size)) (fun _ kv _ => n0 - (intOf kv).toNat)
      case atStart => exact ⟨0, _, _, Nat.zero_le _, rfl, rfl, HO0, Lib.hid (fun i _ j _ h => by omega), HB0, HGS⟩
      case round =>
        obtain ⟨k, A', c', hkn, rfl, rfl, HO, HOKT, HB, HGS⟩ := hrel
        clear HO0 HB0
        have hW : Below w.heap.size w wr := by rw [← HG.out]; exact HB.out
        have k0 := HK0.out wr hW
        generalize ls[0].A = A0 at k0
        generalize ls[0].c = c0 at k0
        by_cases hlt : k < n0
        · have hK1 : (k : Int) < (n0 : Int) := by omega
          obtain ⟨wA, hwA⟩ : ∃ wA, wA = wr := ⟨_, rfl⟩
          rw [← hwA] at k0 hW HO HB HGS ⊢
          clear hwA
          have HWW := Lib.hid hW
          clear hW
          go_wp2_with fail
          clear k0
          go_loopw [7, 8] (fun vv iv wx => ∃ i : Nat, i ≤ ls.length ∧ iv = .int .i64 i ∧ vv = .int .i64 (topV 1 ((colV (lls ls) k).take i)) ∧ Hid (okRow ls k i) ∧ wx = wA) (fun _ iv _ => ls.length - (intOf iv).toNat)
          case atStart => exact ⟨0, Nat.zero_le _, rfl, rfl, Lib.hid (fun j _ _ h => by omega), rfl⟩
          case round =>
            obtain ⟨i, hil, rfl, rfl, HRW, rfl⟩ := hrel
            by_cases hli : i < ls.length
            · have hI0 : (0 : Int) ≤ (i : Int) := by omega
              have hI1 : (i : Int) < (ls.length : Int) := by omega
              have hki : k < ls[i].l.length := by rw [evenV_at HEV.out hli, ← HN0.out]; exact hlt
              have hll : ls[i].l.length = n0 := by rw [evenV_at HEV.out hli, ← HN0.out]
              have ki := HKI.out i hli wr HWW.out
              obtain ⟨A2, c2, ev, hc2, hx2⟩ := (HPT.out i hli).keep
              obtain ⟨b2, o2, eA, hx⟩ := hx2 k hki
              have kx := hx wr HWW.out
              unfold LI.v at ev
              injection ev with ev1 _ ev3
              rw [ev1, eA, hll] at ki
              have hcs := col_succ hli hki
              have htp := topV_append ((colV (lls ls) k).take i) 1 ls[i].l[k]
              rw [← hcs] at htp
              have hrow : okV ls[i].l[k] → okRow ls k (i + 1) := fun e j hj hjk hji => by
                by_cases h : j < i
                · exact HRW.out j hj hjk h
                · obtain rfl : j = i := by omega
                  exact e
              have hbad : ¬ okV ls[i].l[k] → ¬ allV (lls ls) := fun e => okTo_bad hli hki e
              generalize topV 1 ((colV (lls ls) k).take i) = v0 at htp ⊢
              generalize ls[i].l[k] = x at kx htp hrow hbad
              generalize ls[i].c = ci at ki
              have HROW := Lib.hid hrow
              have HTP := Lib.hid htp
              clear hx hx2 ev1 ev3 eA hcs htp hrow hki hll hc2
              by_cases hx1 : x < 1
              · have HR := Lib.hid (HFORM.out HEV.out (hbad (fun h => by have := h.1; omega)))
                clear hbad
                go_wp2_with fail
                go_ret2
                exact ⟨_, by rw [HR.out]; rfl, by rw [HR.out]; exact Rd.nil _ _, by rw [← HG.out]; exact HB.out⟩
              by_cases hx3 : 3 < x
              · have HR := Lib.hid (HFORM.out HEV.out (hbad (fun h => by have := h.2; omega)))
                clear hbad
                go_wp2_with fail
                go_ret2
                exact ⟨_, by rw [HR.out]; rfl, by rw [HR.out]; exact Rd.nil _ _, by rw [← HG.out]; exact HB.out⟩
              have HRW2 := Lib.hid (HROW.out ⟨by omega, by omega⟩)
              clear hbad HROW
              by_cases hxv : v0 < x
              · have HT2 := Lib.hid (show topV 1 ((colV (lls ls) k).take (i + 1)) = x from by rw [HTP.out, if_pos hxv])
                go_wp2_with fail
                go_roundw
                case rel => exact ⟨i + 1, by omega, by go_num, by rw [HT2.out], HRW2, (by first | rfl | trivial)⟩
                case measure => simp [intOf]; omega
              · have HT2 := Lib.hid (show topV 1 ((colV (lls ls) k).take (i + 1)) = v0 from by rw [HTP.out, if_neg hxv])
                go_wp2_with fail
                go_roundw
                case rel => exact ⟨i + 1, by omega, by go_num, by rw [HT2.out], HRW2, (by first | rfl | trivial)⟩
                case measure => simp [intOf]; omega
            · obtain rfl : i = ls.length := by omega
              rw [col_all]
              have HOK2 := Lib.hid (okTo_succ HOKT.out HRW.out)
              have hbs := bothTo_succ (lls ls) k
              generalize topV 1 (colV (lls ls) k) = v0 at hbs ⊢
              have HBS := Lib.hid hbs
              have hgs := HGS.out
              have HOa := Lib.hid (show OwnI (wr.alloc (.cells #[.int .i64 v0] 3)) g (.slice A' k c') (bothTo (lls ls) k) from HO.out.alloc _)
              have HRa := Lib.hid (show RdI (wr.alloc (.cells #[.int .i64 v0] 3)) (wr.heap.size + 1) (.slice (some ⟨wr.heap.size, 0, none⟩) 1 1) [v0] from RdI.one wr v0)
              have HBa := Lib.hid (show Below g w (wr.alloc (.cells #[.int .i64 v0] 3)) from HB.out.alloc hgs _)
              have HSa := Lib.hid (show g ≤ (wr.alloc (.cells #[.int .i64 v0] 3)).heap.size from by rw [World.size_alloc]; omega)
              have HBD := Lib.hid (show (bothTo (lls ls) k).length + [v0].length ≤ 28147497670000 from by rw [HLEN.out]; simp only [List.length_cons, List.length_nil]; omega)
              clear hbs hgs HRW HOKT
              go_wp2_with (at_builtin; go_must (refine wpList_addI rfl _ _ rfl g _ (bothTo (lls ls) k) rfl HOa.out _ _ [v0] rfl HRa.out HBD.out HSa.out g w HBa.out (Nat.le_refl _) ?_))
              intro A2 c2 w2 ho2 hb2 hg2
              have HO2 := Lib.hid (show OwnI w2 g (.slice A2 (k + 1) c2) (bothTo (lls ls) (k + 1)) from by
                have h := ho2.out
                rw [← HBS.out, HLEN.out] at h
                exact h)
              have HL2 := Lib.hid (show (bothTo (lls ls) k ++ [v0]).length = k + 1 from by rw [← HBS.out, HLEN.out])
              clear HOa HRa HBa HSa HO HB HGS ho2
              go_wp2_with fail
              go_roundw
              case rel => exact ⟨k + 1, A2, c2, by omega, by go_num, by rw [HLEN.out], HO2, HOK2, hb2, hg2⟩
              case measure => simp [intOf]; omega
        · obtain rfl : k = n0 := by omega
          have hr := HOK.out HEV.out (okTo_all HEV.out (by rw [← HN0.out]; exact HOKT.out))
          rw [← HN0.out] at hr
          have HR := Lib.hid hr
          clear hr
          go_wp2_with fail
          go_ret2
          exact ⟨.slice A' k c', by rw [HR.out]; rfl, by rw [HR.out]; exact OwnI.rdI HO.out, by rw [← HG.out]; exact HB.out⟩
end Go.Proofs.Ytmakgjokadcfjaa
