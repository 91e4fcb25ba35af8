/- The frame layer's writer: changes. -/
import Derived.Test.YtiijcikdlemndaaFWs
namespace Go.Proofs.Ytiijcikdlemndaa
open Go.RowKit
attribute [local go_sem] less_eq same_eq le_eq ge_eq gt_eq

/-- what the steps of a region of the writer's leave -/
def SW (w0 : World) (base : Nat) (W : World) : Prop := Below base w0 W ∧ Keeps w0 W
theorem SW.next {w0 W W' : World} {base : Nat} (h : SW w0 base W) (hb : Below W.heap.size W W') (hs : base ≤ W.heap.size) : SW w0 base W' := ⟨h.1.trans (hb.mono hs), h.2.trans (Keeps.of hb)⟩
theorem SW.keep {w0 W W' : World} {base : Nat} (h : SW w0 base W) (hb : Below base W W') (hk : Keeps W W') : SW w0 base W' := ⟨h.1.trans hb, h.2.trans hk⟩
theorem Below.drewW {w : World} {B : Nat} (n : Nat) : Below B w (w.drewN n) := ⟨rfl, rfl, rfl, Nat.le_refl _, fun _ _ => rfl⟩
theorem SW.drew (w : World) (base : Nat) : SW w base w.drew := ⟨(Below.refl _ _).drew, .of ((Below.refl _ _).drew)⟩
theorem FW.drew {w : World} {base p : Nat} {l : List UInt8} (h : FW w base p l) : FW w.drew base p l := h

theorem chgB_len (c : Chg) (h : 0 ≤ c.kind ∧ c.kind < 9223372036854775808 ∧ c.key.size ≤ 65536 ∧ c.val.size ≤ 65536) : (chgB c).length ≤ 131099 := by
  have h1 := encT_len c.key h.2.2.1
  have h2 := encT_len c.val h.2.2.2
  have h3 := enc_len9 (n := c.kind.toNat) (by omega)
  rw [chgB, List.length_append, List.length_append]; omega

set_option maxHeartbeats 4000000 in
set_option maxRecDepth 100000 in
theorem fchgs_any (l : List Chg) (hs : ∀ c ∈ l, 0 ≤ c.kind ∧ c.kind < 9223372036854775808 ∧ c.key.size ≤ 65536 ∧ c.val.size ≤ 65536) (hl : l.length ≤ 4096) (v : Value) (base p : Nat) (m : List UInt8) (w : World) (hw : FW w base p m) (hv : RdC w base v l) (hm : m.length ≤ 100000000000000) :
    Calls Try.prog 48 #[.pointer (some ⟨p, 0, none⟩), v] w fun x w' => x = .returned (.pointer (some ⟨p, 0, none⟩)) ∧ FW w' base p (m ++ listB chgB l) ∧ Below base w w' ∧ Keeps w w' := by
  obtain ⟨A, c, rfl, hc, hi⟩ := RdC.at hv
  have hn := fnums_any [(l.length : Int)] (by simp; omega) (by simp) (.slice (some ⟨w.heap.size, 0, none⟩) 1 1) base p m (w.alloc (.cells #[.int .i64 (l.length : Int)] 3)) (hw.more ((Below.refl _ _).alloc (Nat.le_refl _) _) (Nat.le_refl _)) (by rw [World.size_alloc]; exact RdI.one w _) (by omega)
  rw [encs_one, Int.toNat_natCast] at hn
  have hR : m ++ listB chgB l = (m ++ enc l.length) ++ l.flatMap chgB := by simp [listB]
  rw [hR]
  have hel := enc_len9 (n := l.length) (by omega)
  have hsz := hw.size
  have HB0 := Lib.hid (show Below base w (w.alloc (.cells #[.int .i64 (l.length : Int)] 3)) from (Below.refl _ _).alloc hsz _)
  have hml : (m ++ enc l.length).length ≤ m.length + 9 := by rw [List.length_append]; omega
  generalize m ++ enc l.length = m1 at hn hml ⊢
  have HN := Lib.hid hn; clear hn hw hR hel hv
  have HI := Lib.hid hi; clear hi
  have HS := Lib.hid hs; clear hs
  go_enter Try.func48, Try.ntmps48
  go_wp2_with fail
  refine HN.out.mono ?_
  rintro e w1 ⟨rfl, hf1, hb1, hk1⟩
  have HF1 := Lib.hid hf1; clear hf1
  have HB1 := Lib.hid (HB0.out.trans hb1); clear hb1
  have HK1 := Lib.hid ((Keeps.alloc _ _).trans hk1); clear hk1
  go_wp2_with fail
  go_loopw [14] (fun iv wr => ∃ (i : Nat) (m' : List UInt8), i ≤ l.length ∧ iv = .int .i64 i ∧ FW wr base p m' ∧ m' = m1 ++ (l.take i).flatMap chgB ∧ m'.length ≤ m1.length + i * 131099 ∧ Below base w wr ∧ Keeps w wr) (fun iv _ => l.length - (intOf iv).toNat)
  case atStart => exact ⟨0, m1, Nat.zero_le _, rfl, HF1.out, by simp, by omega, HB1.out, HK1.out⟩
  case round =>
    obtain ⟨i, m', hi, rfl, hf, hme, hmln, hbw, hk⟩ := hrel
    have hsz2 := hf.size
    have HF := Lib.hid hf; clear hf
    have HME := Lib.hid hme; clear hme
    have HBW := Lib.hid hbw; clear hbw
    have HK := Lib.hid hk; clear hk
    by_cases hlt : i < l.length
    · obtain ⟨b, o, rfl, hbB, k0, k1, k2⟩ := HI.out i hlt
      have hks := HS.out l[i] (List.getElem_mem hlt)
      rw [← HBW.out.cell (p := ⟨b, _, none⟩) hbB] at k0 k1 k2
      have hnew : m' ++ chgB l[i] = m1 ++ (l.take (i + 1)).flatMap chgB := by
        rw [HME.out, List.take_add_one, List.getElem?_eq_getElem hlt, List.flatMap_append, List.append_assoc]; simp
      have hlen := chgB_len l[i] hks
      generalize l[i] = z at k0 k1 k2 hks hnew hlen
      obtain ⟨kz, x, y⟩ := z
      simp only at k0 k1 k2 hks
      have hnum := fun (W : World) (v : Value) (h1 : FW W base p m') (h2 : RdI W W.heap.size v [kz]) => fnums_any [kz] (by simp; omega) (by simp) v base p m' W h1 h2 (by omega)
      rw [encs_one] at hnum
      have hR2 : chgB ⟨kz, x, y⟩ = enc kz.toNat ++ txts [x, y] := by simp [chgB, txts]
      rw [hR2, ← List.append_assoc] at hnew
      rw [hR2, List.length_append] at hlen
      have htxt := fun (W : World) (g : Nat) (h1 : FW W base p (m' ++ enc kz.toNat)) (h2 : Whole W g 9 [.string x, .string y]) => ftexts_any [x, y] (by simp; exact hks.2.2) 2 rfl (by omega) g base p (m' ++ enc kz.toNat) W h1 h2 (by rw [List.length_append]; omega)
      generalize txts [x, y] = R2 at hnew hlen htxt
      generalize enc kz.toNat = R1 at hnum hnew hlen htxt
      obtain ⟨w5, hw5⟩ : ∃ w5, w5 = wr.alloc (.cells #[.int .i64 kz, .string x, .string y] 89) := ⟨_, rfl⟩
      have hb5 : Below wr.heap.size wr w5 := by rw [hw5]; exact (Below.refl _ _).alloc (Nat.le_refl _) _
      have hC : ∀ W, SW w5 base W → Whole W wr.heap.size 89 [.int .i64 kz, .string x, .string y] := fun W hW => hW.2.2 _ _ _ (by rw [hw5]; exact Whole.fresh _ _ _) (by decide) (by decide)
      have HC := Lib.hid hC; clear hC
      have HF5 := Lib.hid (HF.out.more hb5 (Nat.le_refl _))
      have HB5 := Lib.hid (show Below base w w5 from HBW.out.trans (hb5.mono hsz2))
      have HK5 := Lib.hid (show Keeps w w5 from HK.out.trans (Keeps.of hb5))
      have HW5 := Lib.hid hw5
      have HNUM := Lib.hid hnum
      have HTXT := Lib.hid htxt
      have HNEW := Lib.hid hnew
      clear hnum htxt hnew hw5 hb5 hR2 hks HF HBW HK
      go_wp2_with fail
      rw [← HW5.out]
      clear k0 k1 k2
      refine wp_region_planT (SW w5 base) (.take 0 (.take 1 (.take 2 (.take 5 (.take 6 (.take 7 (.take 8 (.fork 3 (.fork 4 (.step 9 (.step 10 .done)) 9 (.step 4 (.step 10 .done))) 9 (.step 3 (.step 4 (.step 10 .done))))))))))) (by kernel_rfl) (by kernel_rfl) (fun _ _ d _ _ h => by cases d <;> exact h) (SW.drew _ _) ?_
      have hS6 : SW w5 base w5.drew := SW.drew _ _
      have hF6 := HF5.out.drew
      generalize w5.drew = w6 at hS6 hF6 ⊢
      have HS6 := Lib.hid hS6
      have HF6 := Lib.hid hF6
      clear hS6 hF6
      refine PlanT.takeI (v := ?_) rfl rfl ?_ ?_; rotate_left; (focus (intro W hW; have hC := HC.out W hW; have k0 := hC.cell 0 _ rfl; have k1 := hC.cell 1 _ rfl; have k2 := hC.cell 2 _ rfl; go_simp; (try with_reducible rfl); done)); (try simp only [Act.put, List.setIfInBounds_toArray, List.set_cons_zero, List.set_cons_succ])
      refine PlanT.takeI (v := ?_) rfl rfl ?_ ?_; rotate_left; (focus (intro W hW; have hC := HC.out W hW; have k0 := hC.cell 0 _ rfl; have k1 := hC.cell 1 _ rfl; have k2 := hC.cell 2 _ rfl; go_simp; (try with_reducible rfl); done)); (try simp only [Act.put, List.setIfInBounds_toArray, List.set_cons_zero, List.set_cons_succ])
      refine PlanT.takeI (v := ?_) rfl rfl ?_ ?_; rotate_left; (focus (intro W hW; have hC := HC.out W hW; have k0 := hC.cell 0 _ rfl; have k1 := hC.cell 1 _ rfl; have k2 := hC.cell 2 _ rfl; go_simp; (try with_reducible rfl); done)); (try simp only [Act.put, List.setIfInBounds_toArray, List.set_cons_zero, List.set_cons_succ])
      refine PlanT.takeI (v := ?_) rfl rfl ?_ ?_; rotate_left; (focus (intro W hW; have hC := HC.out W hW; have k0 := hC.cell 0 _ rfl; have k1 := hC.cell 1 _ rfl; have k2 := hC.cell 2 _ rfl; go_simp; (try with_reducible rfl); done)); (try simp only [Act.put, List.setIfInBounds_toArray, List.set_cons_zero, List.set_cons_succ])
      refine PlanT.takeI (v := ?_) rfl rfl ?_ ?_; rotate_left; (focus (intro W hW; have hC := HC.out W hW; have k0 := hC.cell 0 _ rfl; have k1 := hC.cell 1 _ rfl; have k2 := hC.cell 2 _ rfl; go_simp; (try with_reducible rfl); done)); (try simp only [Act.put, List.setIfInBounds_toArray, List.set_cons_zero, List.set_cons_succ])
      refine PlanT.takeI (v := ?_) rfl rfl ?_ ?_; rotate_left; (focus (intro W hW; have hC := HC.out W hW; have k0 := hC.cell 0 _ rfl; have k1 := hC.cell 1 _ rfl; have k2 := hC.cell 2 _ rfl; go_simp; (try with_reducible rfl); done)); (try simp only [Act.put, List.setIfInBounds_toArray, List.set_cons_zero, List.set_cons_succ])
      refine PlanT.takeI (v := ?_) rfl rfl ?_ ?_; rotate_left; (focus (intro W hW; have hC := HC.out W hW; have k0 := hC.cell 0 _ rfl; have k1 := hC.cell 1 _ rfl; have k2 := hC.cell 2 _ rfl; go_simp; (try with_reducible rfl); done)); (try simp only [Act.put, List.setIfInBounds_toArray, List.set_cons_zero, List.set_cons_succ])
      refine ⟨?_, ?_⟩
      · refine wpOp_stepT rfl rfl (fun Kk hK => ?_)
        go_simp
        obtain ⟨w10, hw10⟩ : ∃ W, W = w6.alloc (.cells #[.int .i64 kz] 3) := ⟨_, rfl⟩
        have hb10 : Below w6.heap.size w6 w10 := by rw [hw10]; exact (Below.refl _ _).alloc (Nat.le_refl _) _
        have hS10 : SW w5 base w10 := HS6.out.next hb10 HF6.out.size
        have hI10 : RdI w10 w10.heap.size (.slice (some ⟨w6.heap.size, 0, none⟩) 1 1) [kz] := by rw [hw10, World.size_alloc]; exact RdI.one _ _
        obtain ⟨g10, hg10⟩ : ∃ g10, g10 = w6.heap.size := ⟨_, rfl⟩
        rw [← hg10] at hI10 hb10 ⊢
        have HI10 := Lib.hid hI10; clear hI10
        have HF10 := Lib.hid (HF6.out.more hb10 (by rw [hg10]; exact Nat.le_refl _))
        have HS10 := Lib.hid hS10
        rw [← hw10]
        clear hb10 hw10 hg10
        refine hK.out _ _ hS10 ?_
        clear hK Kk hS10
        refine ⟨?_, ?_⟩
        · refine wpOp_stepT rfl rfl (fun Kk hK => ?_)
          go_simp
          go_at_call 31
          refine (HNUM.out _ _ HF10.out HI10.out).mono ?_
          rintro e w11 ⟨rfl, hf11, hb11, hk11⟩
          have hS11 : SW w5 base w11 := HS10.out.keep hb11 hk11
          have HF11 := Lib.hid hf11
          have HS11 := Lib.hid hS11
          refine hK.out _ _ hS11 ?_
          clear hK Kk hS11 hf11 hb11 hk11
          refine wpOp_stepT rfl rfl (fun Kk hK => ?_)
          go_simp
          obtain ⟨w12, hw12⟩ : ∃ W, W = w11.alloc (.cells #[.string x, .string y] 9) := ⟨_, rfl⟩
          have hb12 : Below w11.heap.size w11 w12 := by rw [hw12]; exact (Below.refl _ _).alloc (Nat.le_refl _) _
          have hS12 : SW w5 base w12 := HS11.out.next hb12 HF11.out.size
          have hT12 : Whole w12 w11.heap.size 9 [.string x, .string y] := by rw [hw12]; exact Whole.fresh _ _ _
          obtain ⟨g12, hg12⟩ : ∃ g12, g12 = w11.heap.size := ⟨_, rfl⟩
          rw [← hg12] at hT12 hb12 ⊢
          have HT12 := Lib.hid hT12; clear hT12
          have HF12 := Lib.hid (HF11.out.more hb12 (by rw [hg12]; exact Nat.le_refl _))
          have HS12 := Lib.hid hS12
          rw [← hw12]
          clear hb12 hw12 hg12
          refine hK.out _ _ hS12 ?_
          clear hK Kk hS12
          refine wpOp_stepT rfl rfl (fun Kk hK => ?_)
          go_simp
          go_at_call 32
          refine (HTXT.out _ _ HF12.out HT12.out).mono ?_
          rintro e w13 ⟨rfl, hf13, hb13, hk13⟩
          have hS13 : SW w5 base w13 := HS12.out.keep hb13 hk13
          have HF13 := Lib.hid hf13
          have HS13 := Lib.hid hS13
          refine hK.out _ _ hS13 ?_
          clear hK Kk hS13 hf13 hb13 hk13
          simp only [PlanT]
          go_wp2_with fail
          go_roundw
          case rel => exact ⟨i + 1, m' ++ R1 ++ R2, by omega, by go_num, HF13.out, HNEW.out, by rw [List.length_append, List.length_append]; omega, HB5.out.trans HS13.out.1, HK5.out.trans HS13.out.2⟩
          case measure => simp [intOf]; omega
        · refine wpOp_stepT rfl rfl (fun Kk hK => ?_)
          go_simp
          obtain ⟨w14, hw14⟩ : ∃ W, W = w10.alloc (.cells #[.string x, .string y] 9) := ⟨_, rfl⟩
          have hb14 : Below w10.heap.size w10 w14 := by rw [hw14]; exact (Below.refl _ _).alloc (Nat.le_refl _) _
          have hS14 : SW w5 base w14 := HS10.out.next hb14 HF10.out.size
          have hT14 : Whole w14 w10.heap.size 9 [.string x, .string y] := by rw [hw14]; exact Whole.fresh _ _ _
          obtain ⟨g14, hg14⟩ : ∃ g14, g14 = w10.heap.size := ⟨_, rfl⟩
          rw [← hg14] at hT14 hb14 ⊢
          have HT14 := Lib.hid hT14; clear hT14
          have HF14 := Lib.hid (HF10.out.more hb14 (by rw [hg14]; exact Nat.le_refl _))
          have HS14 := Lib.hid hS14
          rw [← hw14]
          have HI14 := Lib.hid (show RdI w14 w14.heap.size (.slice (some ⟨g10, 0, none⟩) 1 1) [kz] from HI10.out.next (by rw [← hg14]; exact hb14))
          clear hb14 hw14 hg14
          refine hK.out _ _ hS14 ?_
          clear hK Kk hS14
          refine wpOp_stepT rfl rfl (fun Kk hK => ?_)
          go_simp
          go_at_call 31
          refine (HNUM.out _ _ HF14.out HI14.out).mono ?_
          rintro e w15 ⟨rfl, hf15, hb15, hk15⟩
          have hS15 : SW w5 base w15 := HS14.out.keep hb15 hk15
          have HF15 := Lib.hid hf15
          have HS15 := Lib.hid hS15
          have HT15 := Lib.hid (hk15.2 _ _ _ HT14.out (by decide) (by decide))
          refine hK.out _ _ hS15 ?_
          clear hK Kk hS15 hf15 hb15 hk15
          refine wpOp_stepT rfl rfl (fun Kk hK => ?_)
          go_simp
          go_at_call 32
          refine (HTXT.out _ _ HF15.out HT15.out).mono ?_
          rintro e w16 ⟨rfl, hf16, hb16, hk16⟩
          have hS16 : SW w5 base w16 := HS15.out.keep hb16 hk16
          have HF16 := Lib.hid hf16
          have HS16 := Lib.hid hS16
          refine hK.out _ _ hS16 ?_
          clear hK Kk hS16 hf16 hb16 hk16
          simp only [PlanT]
          go_wp2_with fail
          go_roundw
          case rel => exact ⟨i + 1, m' ++ R1 ++ R2, by omega, by go_num, HF16.out, HNEW.out, by rw [List.length_append, List.length_append]; omega, HB5.out.trans HS16.out.1, HK5.out.trans HS16.out.2⟩
          case measure => simp [intOf]; omega
      · refine wpOp_stepT rfl rfl (fun Kk hK => ?_)
        go_simp
        obtain ⟨w17, hw17⟩ : ∃ W, W = w6.alloc (.cells #[.string x, .string y] 9) := ⟨_, rfl⟩
        have hb17 : Below w6.heap.size w6 w17 := by rw [hw17]; exact (Below.refl _ _).alloc (Nat.le_refl _) _
        have hS17 : SW w5 base w17 := HS6.out.next hb17 HF6.out.size
        have hT17 : Whole w17 w6.heap.size 9 [.string x, .string y] := by rw [hw17]; exact Whole.fresh _ _ _
        obtain ⟨g17, hg17⟩ : ∃ g17, g17 = w6.heap.size := ⟨_, rfl⟩
        rw [← hg17] at hT17 hb17 ⊢
        have HT17 := Lib.hid hT17; clear hT17
        have HF17 := Lib.hid (HF6.out.more hb17 (by rw [hg17]; exact Nat.le_refl _))
        have HS17 := Lib.hid hS17
        rw [← hw17]
        clear hb17 hw17 hg17
        refine hK.out _ _ hS17 ?_
        clear hK Kk hS17
        refine wpOp_stepT rfl rfl (fun Kk hK => ?_)
        go_simp
        obtain ⟨w18, hw18⟩ : ∃ W, W = w17.alloc (.cells #[.int .i64 kz] 3) := ⟨_, rfl⟩
        have hb18 : Below w17.heap.size w17 w18 := by rw [hw18]; exact (Below.refl _ _).alloc (Nat.le_refl _) _
        have hS18 : SW w5 base w18 := HS17.out.next hb18 HF17.out.size
        have hI18 : RdI w18 w18.heap.size (.slice (some ⟨w17.heap.size, 0, none⟩) 1 1) [kz] := by rw [hw18, World.size_alloc]; exact RdI.one _ _
        obtain ⟨g18, hg18⟩ : ∃ g18, g18 = w17.heap.size := ⟨_, rfl⟩
        rw [← hg18] at hI18 hb18 ⊢
        have HI18 := Lib.hid hI18; clear hI18
        have HF18 := Lib.hid (HF17.out.more hb18 (by rw [hg18]; exact Nat.le_refl _))
        have HS18 := Lib.hid hS18
        rw [← hw18]
        have HT18 := Lib.hid (HT17.out.below hb18 (by rw [hg18]; exact HT17.out.size))
        clear hb18 hw18 hg18
        refine hK.out _ _ hS18 ?_
        clear hK Kk hS18
        refine wpOp_stepT rfl rfl (fun Kk hK => ?_)
        go_simp
        go_at_call 31
        refine (HNUM.out _ _ HF18.out HI18.out).mono ?_
        rintro e w19 ⟨rfl, hf19, hb19, hk19⟩
        have hS19 : SW w5 base w19 := HS18.out.keep hb19 hk19
        have HF19 := Lib.hid hf19
        have HS19 := Lib.hid hS19
        have HT19 := Lib.hid (hk19.2 _ _ _ HT18.out (by decide) (by decide))
        refine hK.out _ _ hS19 ?_
        clear hK Kk hS19 hf19 hb19 hk19
        refine wpOp_stepT rfl rfl (fun Kk hK => ?_)
        go_simp
        go_at_call 32
        refine (HTXT.out _ _ HF19.out HT19.out).mono ?_
        rintro e w20 ⟨rfl, hf20, hb20, hk20⟩
        have hS20 : SW w5 base w20 := HS19.out.keep hb20 hk20
        have HF20 := Lib.hid hf20
        have HS20 := Lib.hid hS20
        refine hK.out _ _ hS20 ?_
        clear hK Kk hS20 hf20 hb20 hk20
        simp only [PlanT]
        go_wp2_with fail
        go_roundw
        case rel => exact ⟨i + 1, m' ++ R1 ++ R2, by omega, by go_num, HF20.out, HNEW.out, by rw [List.length_append, List.length_append]; omega, HB5.out.trans HS20.out.1, HK5.out.trans HS20.out.2⟩
        case measure => simp [intOf]; omega
    · obtain rfl : i = l.length := by omega
      have hf := HF.out
      rw [HME.out, List.take_length] at hf
      have HF3 := Lib.hid hf; clear hf
      go_wp2_with fail
      go_ret
      exact ⟨rfl, HF3.out, HBW.out, HK.out⟩
end Go.Proofs.Ytiijcikdlemndaa
