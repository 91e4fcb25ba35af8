/- What the program's Carve answers. -/
import Derived.Test.YteelnholmlabmaaShD
namespace Go.Proofs.Yteelnholmlabmaa
open Go.RowKit
attribute [local go_sem] less_eq same_eq le_eq ge_eq gt_eq

theorem wp_addTrN {o : Oper} {a : Act} {K : Act → World → Prop} {Q : Exit → Act → World → Prop} {w : World} (s x : Operand) (ho : o.op = .call { callee := .builtin .append, args := #[s, x], argTypes := #[46, 46] })
    (base : Nat) (v : Value) (l : List Tr) (hs : a.eval s = v) (hown : OwnTr w base v l) (B : Nat) (v2 : Value) (p : List Tr) (hx : a.eval x = v2) (hp : RdTr w B v2 p) (hl : l.length + p.length ≤ 1000) (hbase : base ≤ w.heap.size)
    (h : ∀ A' c' w', Hid (OwnTr w' base (.slice A' (l ++ p).length c') (l ++ p)) → Hid (w.grownBy w' v.ownBlock) → Hid (NewRow w v.ownBlock (Value.ownBlock (.slice A' (l ++ p).length c'))) → K (a.put o.dst (.slice A' (l ++ p).length c')) w') : Oper.wp Try.prog o a w K Q := by
  obtain ⟨i0, hi, hz0, hz1, hz2⟩ := info_parts info_txn
  exact wp_addAnyN (enc := encTr) (k := 3) 46 45 56 i0 _ Try.underlying46 hi hz0 hz1 hz2 rfl (by decide) encTr_len encTr_one s x ho base v l hs hown B v2 p hx hp (by unfold maxLen; omega) (by omega) hbase fun A' c' w' h1 h2 h3 => h A' c' w' (Lib.hid h1) (Lib.hid h2) (Lib.hid h3)
theorem OwnSp.form {w : World} {base : Nat} {v : Value} {l : List (K × K)} (h : OwnSp w base v l) : ∃ A c, v = .slice A l.length c := by
  rcases Own.form h with ⟨h1, h2⟩ | ⟨g, cap, h1, _⟩
  · exact ⟨none, 0, by rw [h1, h2]; rfl⟩
  · exact ⟨_, _, h1⟩
theorem OwnC.form2 {w : World} {base : Nat} {v : Value} {l : List Chg} (h : OwnC w base v l) : ∃ A c, v = .slice A l.length c := by
  rcases Own.form h with ⟨h1, h2⟩ | ⟨g, cap, h1, _⟩
  · exact ⟨none, 0, by rw [h1, h2]; rfl⟩
  · exact ⟨_, _, h1⟩

set_option maxHeartbeats 8000000 in
set_option maxRecDepth 100000 in
theorem pcarve_any (b : List K) (t : Txn) (hft : fitT t) (hrd : t.read < 9223372036854775808) (vb v1 v2 : Value) (w : World) (hb : RdK w w.heap.size vb b) (hv1 : RdP w w.heap.size v1 t.reads) (hv2 : RdC w w.heap.size v2 t.chgs) (hbl : b.length ≤ 140737488351232) :
    Calls Try.prog 19 #[vb, tval t v1 v2] w fun e w' => ∃ v' q, e = .returned (.tuple #[v', .int .i64 q]) ∧ CarveIs w' v' q b t ∧ Below w.heap.size w w' := by
  obtain ⟨W1, hW1⟩ : ∃ W1, W1 = w.alloc (.cells #[.int .i64 t.read, v1, v2] 45) := ⟨_, rfl⟩
  have hB1 : Below w.heap.size w W1 := by rw [hW1]; exact (Below.refl _ w).alloc (Nat.le_refl _) _
  have hs1 : W1.heap.size = w.heap.size + 1 := by rw [hW1]; simp
  have hx1 : Whole W1 w.heap.size 45 [.int .i64 t.read, v1, v2] := by rw [hW1]; exact Whole.fresh w _ [_, _, _]
  have hbK := fun W (h : Below W1.heap.size W1 W) => (show RdK W W.heap.size vb b from (hb.below (hB1.trans (h.mono (by omega))) (Nat.le_refl _)).mono (by have := h.size; omega))
  have hvP := fun W (h : Below W1.heap.size W1 W) => (show RdP W W.heap.size v1 t.reads from (hv1.below (hB1.trans (h.mono (by omega))) (Nat.le_refl _)).mono (by have := h.size; omega))
  have hvC := fun W (h : Below W1.heap.size W1 W) => (show RdC W W.heap.size v2 t.chgs from (hv2.below (hB1.trans (h.mono (by omega))) (Nat.le_refl _)).mono (by have := h.size; omega))
  have HS := Lib.hid (psoundB_any b vb W1 (hbK W1 (Below.refl _ _)))
  have HT := Lib.hid (fun W (h : Below W1.heap.size W1 W) => psoundTx_any t hft hrd v1 v2 W (hvP W h) (hvC W h))
  have HCNT := Lib.hid (fun W (h : Below W1.heap.size W1 W) => pcount_any b vb W (hbK W h) hbl)
  have HPC := Lib.hid (fun n (hn : n ≤ b.length) W (h : Below W1.heap.size W1 W) => ppc_any b n vb W (hbK W h) hn hbl)
  have HX := Lib.hid (fun W (h : Below W1.heap.size W1 W) => hx1.below h hx1.size)
  have HKP := Lib.hid hvP
  have HKC := Lib.hid hvC
  have HB1 := Lib.hid hB1
  obtain ⟨Ab, cb, rfl, _⟩ := hb.at
  obtain ⟨A1, c1, rfl, _⟩ := hv1.at
  obtain ⟨A2, c2, rfl, _⟩ := hv2.at
  clear hb hv1 hv2 hbK hvP hvC hx1 hB1
  obtain ⟨hf1, hf2, hf3, hf4⟩ := hft
  by_cases hok : okB b
  case neg =>
    have hd : decide (okB b) = false := decide_eq_false hok
    rw [hd] at HS
    have HOK := Lib.hid hok; clear hok hd
    unfold tval at HT ⊢
    go_enter Try.func19, Try.ntmps19
    go_wp2_with fail
    rw [← hW1]
    refine HS.out.mono ?_
    rintro e w1 ⟨rfl, hb1⟩
    have HB2 := Lib.hid (HB1.out.trans (hb1.mono (by omega))); clear hb1
    go_wp2_with fail
    exact bodyPost_ret (v := .tuple #[.slice none 0 0, .int .i64 2]) (by simp [results, Try.results19, go_sem]) rfl ⟨_, _, rfl, .inl ⟨fun h => HOK.out h.1, rfl, none, 0, rfl⟩, HB2.out⟩
  have hd : decide (okB b) = true := decide_eq_true hok
  rw [hd] at HS
  have hb7 := hok.1
  have HOK := Lib.hid hok; clear hok hd
  by_cases hst : soundT t
  case neg =>
    have hd : decide (soundT t) = false := decide_eq_false hst
    rw [hd] at HT
    have HST := Lib.hid hst; clear hst hd
    unfold tval at HT ⊢
    go_enter Try.func19, Try.ntmps19
    go_wp2_with fail
    rw [← hW1]
    refine HS.out.mono ?_
    rintro e w1 ⟨rfl, hb1⟩
    have hx := HX.out w1 hb1
    have k0 := hx.cell 0 _ rfl
    have k1 := hx.cell 1 _ rfl
    have k2 := hx.cell 2 _ rfl
    have HTT := Lib.hid (HT.out w1 hb1)
    have hbs := hb1.size
    have HB2 := Lib.hid (HB1.out.trans (hb1.mono (by omega))); clear hb1 hx
    go_wp2_with fail
    refine HTT.out.mono ?_
    rintro e w2 ⟨rfl, hb2⟩
    have HB3 := Lib.hid (HB2.out.trans (hb2.mono (by omega))); clear hb2 k0 k1 k2
    go_wp2_with fail
    exact bodyPost_ret (v := .tuple #[.slice none 0 0, .int .i64 2]) (by simp [results, Try.results19, go_sem]) rfl ⟨_, _, rfl, .inl ⟨fun h => HST.out h.2, rfl, none, 0, rfl⟩, HB3.out⟩
  have hd : decide (soundT t) = true := decide_eq_true hst
  rw [hd] at HT
  have hst2 := hst
  obtain ⟨hr0, hrl, _, hcl, hall⟩ := hst2
  have HST := Lib.hid hst; clear hst hd
  have HCUT := Lib.hid (fun n (hn : n ≤ b.length) W (h : Below W1.heap.size W1 W) => pcutB_ok HOK.out hn t.chgs hf4 hall (.slice A2 t.chgs.length c2) W (HKC.out W h) (by omega))
  have HWI := Lib.hid (fun s W (h : Below W1.heap.size W1 W) => pwithin_any s t.reads (.slice A1 t.reads.length c1) W (HKP.out W h) (by omega))
  have HRS := Lib.hid (fun n => carvesOf_succ b t n)
  clear hall
  obtain ⟨tr, trs, tcs⟩ := t
  unfold carveT at HRS
  unfold tval at HT ⊢
  simp only at hf1 hf2 hf3 hf4 hr0 hrl hcl HT HX HKP HKC HCUT HRS hW1 HWI hrd ⊢
  go_enter Try.func19, Try.ntmps19
  go_wp2_with fail
  rw [← hW1]
  refine HS.out.mono ?_
  rintro e w1 ⟨rfl, hb1⟩
  have hx := HX.out w1 hb1
  have k0 := hx.cell 0 _ rfl
  have k1 := hx.cell 1 _ rfl
  have k2 := hx.cell 2 _ rfl
  have HTT := Lib.hid (HT.out w1 hb1)
  have hbs := hb1.size
  have HB2 := Lib.hid hb1; clear hb1 hx hW1
  go_wp2_with fail
  refine HTT.out.mono ?_
  rintro e w2 ⟨rfl, hb2⟩
  have hs2 := hb2.size
  have HB3 := Lib.hid (show Below W1.heap.size W1 w2 from HB2.out.trans (hb2.mono hbs)); clear hb2 k0 k1 k2 HTT HT HB2
  go_wp2_with fail
  refine (HCNT.out w2 HB3.out).mono ?_
  rintro e w3 ⟨rfl, rfl⟩
  go_wp2_with fail
  go_loopw [6, 21] (fun ov iv wr => ∃ (n : Nat) (A : Option Addr) (c : Nat) (rows : List Tr), n ≤ b.length + 1 ∧ iv = .int .i64 n ∧ ov = .slice A n c ∧ Hid (rows.length = n) ∧ Hid (OwnTr wr W1.heap.size (.slice A n c) rows) ∧ Hid (∀ x ∈ rows, RdG cellsS 2 wr wr.heap.size (fun i => Value.ownBlock (.slice A n c) = some i) x.v1 x.reads ∧ RdG encC 3 wr wr.heap.size (fun i => Value.ownBlock (.slice A n c) = some i) x.v2 x.chgs) ∧ Hid (rows.map Tr.t = carvesOf b ⟨tr, trs, tcs⟩ n) ∧ Hid (Below W1.heap.size W1 wr)) (fun _ iv _ => b.length + 1 - (intOf iv).toNat)
  case atStart => exact ⟨0, none, 0, [], Nat.zero_le _, rfl, rfl, Lib.hid rfl, Lib.hid (Own.nil _ _), Lib.hid (by simp), Lib.hid rfl, HB3⟩
  case round =>
    obtain ⟨n, A, c, rows, hn, rfl, rfl, HRL, HO, HR, HM, HB⟩ := hrel
    have hgr : W1.heap.size ≤ wr.heap.size := HB.out.size
    by_cases hlt : n ≤ b.length
    · have hle : (n : Int) < ((b.length + 1 : Nat) : Int) := by omega
      have hle2 : (n : Int) < (b.length : Int) + 1 := by omega
      have hpc := HPC.out n hlt
      have hcut := HCUT.out n hlt
      have hrs := HRS.out n
      generalize pieceB b n = s at hpc hrs hcut
      have hwi := HWI.out s
      obtain ⟨s1, s2⟩ := s
      simp only at hpc hcut hwi
      have HP := Lib.hid (hpc wr HB.out); clear hpc
      have HCT := Lib.hid hcut; clear hcut
      have HWN := Lib.hid hwi; clear hwi
      have HRS2 := Lib.hid hrs; clear hrs
      go_wp2_with fail
      refine HP.out.mono ?_
      rintro e w4 ⟨rfl, hb4⟩
      have hB4 : Below W1.heap.size W1 w4 := HB.out.trans (hb4.mono hgr)
      have hs4 := hb4.size
      obtain ⟨w5, hw5⟩ : ∃ w5, w5 = w4.alloc (.cells #[.string s1, .string s2] 31) := ⟨_, rfl⟩
      have hZ5 : Whole w5 w4.heap.size 31 [.string s1, .string s2] := by rw [hw5]; exact Whole.fresh w4 _ [_, _]
      have hb5 : Below wr.heap.size wr w5 := by rw [hw5]; exact hb4.alloc hs4 _
      have hB5 : Below W1.heap.size W1 w5 := by rw [hw5]; exact hB4.alloc (by omega) _
      have hs5 : w4.heap.size < w5.heap.size := hZ5.size
      have hT5 := HX.out w5 hB5
      have z0 := hZ5.cell 0 _ rfl
      have z1 := hZ5.cell 1 _ rfl
      have m2 := hT5.cell 2 _ rfl
      rw [hw5] at z0 z1 m2
      have HC5 := Lib.hid (HCT.out w5 hB5)
      have HZ5 := Lib.hid hZ5
      have HW5 := Lib.hid hw5
      have HBB5 := Lib.hid hb5
      have HB5 := Lib.hid hB5
      clear hZ5 hb4 hB4 hb5 hB5 hT5 hw5
      go_wp2_with fail
      rw [← HW5.out]
      refine HC5.out.mono ?_
      rintro e w6 ⟨v6, rfl, hb6, ho6⟩
      obtain ⟨rA, rc, rfl⟩ := OwnC.form2 ho6
      have hs6 := hb6.size
      have hZ6 := HZ5.out.below hb6 HZ5.out.size
      have hB6 : Below W1.heap.size W1 w6 := HB5.out.trans (hb6.mono (by omega))
      have HO6 := Lib.hid (show OwnC w6 wr.heap.size _ _ from ho6.lower (by omega))
      have HBB6 := Lib.hid (show Below wr.heap.size wr w6 from HBB5.out.trans (hb6.mono (by omega)))
      have HB6 := Lib.hid hB6
      have HZ6 := Lib.hid hZ6
      have HX6 := Lib.hid (HX.out w6 hB6)
      obtain ⟨X, hXe⟩ : ∃ X, X = w4.heap.size := ⟨_, rfl⟩
      have HXE := Lib.hid hXe
      rw [← hXe] at HZ6
      clear ho6 hb6 hZ6 hB6 z0 z1 m2
      go_wp2_with fail
      rw [← hXe]
      clear hXe
      obtain ⟨rl, hrl2⟩ : ∃ rl, rl = cutP (s1, s2) tcs := ⟨_, rfl⟩
      rw [← hrl2] at HO6 HRS2 ⊢
      obtain ⟨ms, hms⟩ : ∃ ms, ms = meetP (s1, s2) trs := ⟨_, rfl⟩
      rw [← hms] at HWN HRS2
      have hml : ms.length ≤ 24 := by rw [hms]; exact Nat.le_trans (meetP_len _ _) (by omega)
      clear hrl2 hms
      have hS0 : Whole w6.drew w.heap.size 45 [.int .i64 tr, .slice A1 trs.length c1, .slice A2 tcs.length c2] ∧ Whole w6.drew X 31 [.string s1, .string s2] := ⟨HX6.out.drew, HZ6.out.drew⟩
      refine wp_region_plan (S := fun W => Whole W w.heap.size 45 [.int .i64 tr, .slice A1 trs.length c1, .slice A2 tcs.length c2] ∧ Whole W X 31 [.string s1, .string s2])
        [(true, 0), (true, 1), (true, 2), (true, 3), (true, 4), (true, 5), (true, 7), (false, 6), (true, 8), (false, 9), (false, 10), (true, 11)] (by kernel_rfl) (by kernel_rfl) (fun _ _ d _ _ h => by cases d <;> exact h) hS0 ?_
      obtain ⟨w7, hw7⟩ : ∃ w7, w7 = w6.drew := ⟨_, rfl⟩
      rw [← hw7]
      have hO7 : OwnC w7 wr.heap.size (.slice rA rl.length rc) rl := by rw [hw7]; exact HO6.out.drew
      have hbb7 : Below wr.heap.size wr w7 := by rw [hw7]; exact HBB6.out.drew
      have hB7 : Below W1.heap.size W1 w7 := by rw [hw7]; exact HB6.out.drew
      have HO7 := Lib.hid hO7
      have HBB7 := Lib.hid hbb7
      have HB7 := Lib.hid hB7
      have hsz7 : wr.heap.size ≤ w7.heap.size := hbb7.size
      rw [← hw7] at hS0
      have HS7 := Lib.hid hS0
      clear hw7 hO7 hbb7 hB7 hS0
      iterate 7 (refine Plan.take (v := ?_) rfl rfl ?_ ?_; rotate_left; (focus (intro W hW; have m0 := hW.1.cell 0 _ rfl; have m1 := hW.1.cell 1 _ rfl; have u0 := hW.2.cell 0 _ rfl; have u1 := hW.2.cell 1 _ rfl; go_simp; (try with_reducible rfl); done)); (try simp only [Act.put, List.setIfInBounds_toArray, List.set_cons_zero, List.set_cons_succ]))
      refine Plan.step rfl rfl (fun Kk hKk => ?_)
      go_simp
      refine (HWN.out w7 HB7.out).mono ?_
      rintro e w8 ⟨v8, rfl, ho8, hb8⟩
      obtain ⟨A8, c8, rfl⟩ := OwnSp.form ho8
      have hs8 := hb8.size
      have HO8 := Lib.hid (show OwnSp w8 wr.heap.size _ _ from ho8.lower hsz7)
      have HOC8 := Lib.hid (show OwnC w8 wr.heap.size _ _ from HO7.out.below hb8 (Nat.le_refl _))
      have hS8 := And.intro (HS7.out.1.below hb8 HS7.out.1.size) (HS7.out.2.below hb8 HS7.out.2.size)
      have HBB8 := Lib.hid (show Below wr.heap.size wr w8 from HBB7.out.trans (hb8.mono hsz7))
      have HB8 := Lib.hid (show Below W1.heap.size W1 w8 from HB7.out.trans (hb8.mono (by omega)))
      refine hKk.out _ _ hS8 ?_
      have HS8 := Lib.hid hS8
      clear hKk Kk ho8 hb8 hS8
      (try simp only [Act.put, List.setIfInBounds_toArray, List.set_cons_zero, List.set_cons_succ])
      iterate 1 (refine Plan.take (v := ?_) rfl rfl ?_ ?_; rotate_left; (focus (intro W hW; go_simp; (try with_reducible rfl); done)); (try simp only [Act.put, List.setIfInBounds_toArray, List.set_cons_zero, List.set_cons_succ]))
      refine Plan.step rfl rfl (fun Kk hKk => ?_)
      go_simp
      obtain ⟨x, hx⟩ : ∃ x : Tr, x = ⟨tr, A8, c8, ms, rA, rc, rl⟩ := ⟨_, rfl⟩
      have hx1 : x.v1 = .slice A8 ms.length c8 := by rw [hx]; rfl
      have hx2 : x.v2 = .slice rA rl.length rc := by rw [hx]; rfl
      have hxt : x.t = ⟨tr, ms, rl⟩ := by rw [hx]; rfl
      have hxr : x.reads = ms := by rw [hx]
      have hxc : x.chgs = rl := by rw [hx]
      have hone : RdTr (w8.alloc (.cells #[.int .i64 tr, .slice A8 ms.length c8, .slice rA rl.length rc] 45)) (w8.heap.size + 1) (.slice (some ⟨w8.heap.size, 0, none⟩) 1 1) [x] := by rw [hx]; exact RdTr.one w8 ⟨tr, A8, c8, ms, rA, rc, rl⟩
      have hR1 : RdG cellsS 2 w8 w8.heap.size (fun i => i < wr.heap.size) x.v1 x.reads := by rw [hx1, hxr]; exact RdG.own cellsS_len HO8.out (fun i h1 _ _ h2 => by omega)
      have hR2 : RdG encC 3 w8 w8.heap.size (fun i => i < wr.heap.size) x.v2 x.chgs := by rw [hx2, hxc]; exact RdG.own encC_len HOC8.out (fun i h1 _ _ h2 => by omega)
      have hO8 : OwnTr w8 W1.heap.size (.slice A n c) rows := HO.out.below HBB8.out (Nat.le_refl _)
      have hRO : ∀ y ∈ rows, RdG cellsS 2 w8 wr.heap.size (fun i => Value.ownBlock (.slice A n c) = some i) y.v1 y.reads ∧ RdG encC 3 w8 wr.heap.size (fun i => Value.ownBlock (.slice A n c) = some i) y.v2 y.chgs := fun y hy => ⟨((HR.out y hy).1).mv (Mv.of_new HBB8.out (fun _ => False)) (Nat.le_refl _) (fun _ _ h => h.elim), ((HR.out y hy).2).mv (Mv.of_new HBB8.out (fun _ => False)) (Nat.le_refl _) (fun _ _ h => h.elim)⟩
      have hmap : (rows ++ [x]).map Tr.t = carvesOf b ⟨tr, trs, tcs⟩ (n + 1) := by rw [HRS2.out, List.map_append, HM.out, List.map_singleton, hxt]
      have hS9 := And.intro (HS8.out.1.alloc (.cells #[.int .i64 tr, .slice A8 ms.length c8, .slice rA rl.length rc] 45)) (HS8.out.2.alloc (.cells #[.int .i64 tr, .slice A8 ms.length c8, .slice rA rl.length rc] 45))
      refine hKk.out _ _ hS9 ?_
      have HS9 := Lib.hid hS9
      have HONE := Lib.hid hone
      have HO8T := Lib.hid hO8
      have HR1 := Lib.hid hR1
      have HR2 := Lib.hid hR2
      have HRO := Lib.hid hRO
      have HMAP := Lib.hid hmap
      have hrl2 := HRL.out
      clear hKk Kk hS9 hone hO8 hR1 hR2 hRO hmap hx1 hx2 hxt hxr hxc hx
      (try simp only [Act.put, List.setIfInBounds_toArray, List.set_cons_zero, List.set_cons_succ])
      refine Plan.step rfl rfl (fun Kk hKk => ?_)
      refine wp_addTrN _ _ rfl W1.heap.size (.slice A n c) rows rfl ?g1 (w8.heap.size + 1) _ [x] rfl HONE.out ?g4 ?g2 ?_
      case g1 => exact HO8T.out.alloc _
      case g2 => simp; omega
      case g4 => simp; omega
      intro A9 c9 w9 ho9 hg9 hn9
      have hlen9 : (rows ++ [x]).length = n + 1 := by simp [hrl2]
      rw [hlen9] at ho9 hn9 ⊢
      have hoa := HO8T.out.alloc (.cells #[.int .i64 tr, .slice A8 ms.length c8, .slice rA rl.length rc] 45)
      have hbg9 : Below W1.heap.size W1 w9 := hoa.grown (HB8.out.alloc (by omega) _) hg9.out (Nat.le_refl _) (by simp; omega)
      have hS9 : Whole w9 w.heap.size 45 [.int .i64 tr, .slice A1 trs.length c1, .slice A2 tcs.length c2] ∧ Whole w9 X 31 [.string s1, .string s2] := ⟨HX.out w9 hbg9, HS9.out.2.grown hg9.out (hoa.apart HS9.out.2 (by decide))⟩
      refine hKk.out _ _ hS9 ?_
      clear hKk Kk hS9
      (try simp only [Act.put, List.setIfInBounds_toArray, List.set_cons_zero, List.set_cons_succ])
      iterate 1 (refine Plan.take (v := ?_) rfl rfl ?_ ?_; rotate_left; (focus (intro W hW; go_simp; (try with_reducible rfl); done)); (try simp only [Act.put, List.setIfInBounds_toArray, List.set_cons_zero, List.set_cons_succ]))
      simp only [Plan]
      have hlow := fun k (hk : Value.ownBlock (.slice A n c) = some k) => (HO.out.low hk).2
      have hrall : ∀ y ∈ rows ++ [x], RdG cellsS 2 w9 w9.heap.size (fun i => Value.ownBlock (.slice A9 (n + 1) c9) = some i) y.v1 y.reads ∧ RdG encC 3 w9 w9.heap.size (fun i => Value.ownBlock (.slice A9 (n + 1) c9) = some i) y.v2 y.chgs := fun y hy => by
        have hmv : Mv (fun i => Value.ownBlock (.slice A n c) = some i) w8 w9 := ((Mv.refl (fun i => Value.ownBlock (.slice A n c) = some i) w8).alloc _).grown hg9.out (fun i _ h => h.symm)
        have hsz9 : w8.heap.size < w9.heap.size := by have := hg9.out.size; simp at this; omega
        have hnb : ∀ i, i < w8.heap.size → Value.ownBlock (.slice A9 (n + 1) c9) = some i → Value.ownBlock (.slice A n c) = some i := fun i hi h => by
          rcases hn9.out i h with h1 | h1
          · exact h1
          · simp at h1; omega
        rcases List.mem_append.1 hy with hy | hy
        · exact ⟨((HRO.out y hy).1.mv hmv (by omega) (fun _ _ h => h)).mono (by omega) (fun i hi h => hnb i (by omega) h), ((HRO.out y hy).2.mv hmv (by omega) (fun _ _ h => h)).mono (by omega) (fun i hi h => hnb i (by omega) h)⟩
        · simp at hy; subst hy
          exact ⟨(HR1.out.mv hmv (Nat.le_refl _) (fun i _ h => hlow i h)).mono (by omega) (fun i hi h => hlow i (hnb i hi h)), (HR2.out.mv hmv (Nat.le_refl _) (fun i _ h => hlow i h)).mono (by omega) (fun i hi h => hlow i (hnb i hi h))⟩
      have HR9 := Lib.hid hrall; clear hrall
      have HB9 := Lib.hid hbg9; clear hbg9 hoa hlow
      have HRL9 := Lib.hid hlen9; clear hlen9 hrl2
      generalize rows ++ [x] = rows9 at ho9 HR9 HMAP HRL9
      go_wp2_with fail
      go_roundw
      case rel => exact ⟨n + 1, A9, c9, rows9, by omega, by go_num, rfl, HRL9, ho9, HR9, HMAP, HB9⟩
      case measure => simp [intOf]; omega
    · obtain rfl : n = b.length + 1 := by omega
      have hle : ¬ ((b.length + 1 : Nat) : Int) < ((b.length + 1 : Nat) : Int) := by omega
      go_wp2_with fail
      refine bodyPost_ret (v := .tuple #[.slice A (b.length + 1) c, .int .i64 0]) (by simp [results, Try.results19, go_sem]) rfl ⟨_, _, rfl, .inr ⟨HOK.out, HST.out, rfl, rows, HO.out.rd encTr_len, HM.out, fun x hx => ⟨(HR.out x hx).1.rd, (HR.out x hx).2.rd⟩⟩, HB1.out.trans (HB.out.mono (by omega))⟩
end Go.Proofs.Yteelnholmlabmaa
