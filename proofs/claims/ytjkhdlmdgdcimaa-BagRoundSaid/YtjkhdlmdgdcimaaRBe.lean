/- The reference's bag: what Spoil leaves. -/
import Derived.Test.YtjkhdlmdgdcimaaRBd
import Derived.Test.YtjkhdlmdgdcimaaBgX
namespace Go.Proofs.Ytjkhdlmdgdcimaa
open Go.RowKit

set_option maxHeartbeats 8000000 in
set_option maxRecDepth 100000 in
theorem rspoil_any (base r : Nat) (ov : Option Nat) (b : Bg) (i at_ : Int) (turn : UInt8) (w : World) (h : RbAt w base r ov b) :
    Calls Try.prog 19 #[.pointer (some ⟨r, 0, none⟩), .int .i64 i, .int .i64 at_, .int .u8 (turn.toNat : Int)] w fun e w' => e = .returned (.int .i64 (b.spoil i at_ turn).1) ∧ ∃ ov', RbWent w w' base r ov (b.spoil i at_ turn).2 ov' := by
  obtain ⟨R, hR⟩ : ∃ R, R = b.spoil i at_ turn := ⟨_, rfl⟩
  rw [← hR]
  unfold Bg.spoil at hR
  have hok := h.ok
  have hbl : b.l.length ≤ 4096 := by obtain ⟨k1, k2, k3⟩ := hok; omega
  have hxl := hok.look i
  have HR := Lib.hid hR
  have HB := Lib.hid h
  have HOK := Lib.hid hok
  have hlook := rlook_any base r ov b i w h
  obtain ⟨⟨x, ex⟩, hx⟩ : ∃ X, X = b.look i := ⟨_, rfl⟩
  rw [← hx] at hlook hxl
  have hxv : lval x = .agg #[.int .i64 x.to, .string (strB x.text), .bool x.sp] := rfl
  simp only [hxv] at hlook
  have HL := Lib.hid hlook
  have HX := Lib.hid hx
  obtain ⟨to, tx, sp⟩ := x
  simp only at HL hxl
  obtain ⟨S1, hS1⟩ : ∃ S1, S1 = strB tx := ⟨_, rfl⟩
  have hsz : S1.size = tx.length := by rw [hS1]; simp [strB, ByteArray.size]
  rw [← hS1] at HL
  have HS1 := Lib.hid hS1
  have hrb : r < w.heap.size := h.low.2.1
  clear hR h hok hlook hx hxv hS1
  go_enter Try.func19, Try.ntmps19
  go_wp2_with fail
  refine HL.out.mono ?_
  rintro e w1 ⟨rfl, hb1⟩
  have HB1 := Lib.hid hb1
  have hs1 := hb1.size
  clear hb1 HL
  obtain ⟨w2, hw2⟩ : ∃ w2, w2 = w1.alloc (.cells #[.int .i64 to, .string S1, .bool sp] 36) := ⟨_, rfl⟩
  have hW2 : Whole w2 w1.heap.size 36 [.int .i64 to, .string S1, .bool sp] := by rw [hw2]; exact Whole.fresh w1 _ [_, _, _]
  have hB2 : Below w.heap.size w w2 := by rw [hw2]; exact HB1.out.alloc hs1 _
  have hz2 : w2.heap.size = w1.heap.size + 1 := by rw [hw2]; simp
  have HB2 := Lib.hid hB2
  have HW2 := Lib.hid hw2
  by_cases hi : b.has i
  · have he : ex = 0 := by have := HX.out; rw [Bg.look_at hi] at this; exact (Prod.mk.inj this).2
    subst he
    have hr := HR.out
    rw [if_neg (by simpa using hi), ← HX.out] at hr
    simp only at hr
    by_cases hat : at_ < 0 ∨ (tx.length : Int) ≤ at_
    · rw [if_pos hat] at hr
      have HR2 := Lib.hid hr; clear hr hW2 hB2 hw2 hz2 hi
      by_cases h0 : at_ < 0
      · clear hat
        go_wp2_with fail
        go_ret
        exact ⟨by rw [HR2.out]; rfl, ov, by rw [HR2.out]; exact RbWent.new' HB.out (by have := HB2.out; rw [HW2.out] at this; exact this)⟩
      · have h2 : (tx.length : Int) ≤ at_ := by omega
        clear hat
        go_wp2_with fail
        go_ret
        exact ⟨by rw [HR2.out]; rfl, ov, by rw [HR2.out]; exact RbWent.new' HB.out (by have := HB2.out; rw [HW2.out] at this; exact this)⟩
    · rw [if_neg hat] at hr
      have h0 : ¬ at_ < 0 := by omega
      have h2 : ¬ (tx.length : Int) ≤ at_ := by omega
      obtain ⟨k, rfl⟩ : ∃ k : Nat, at_ = (k : Int) := ⟨at_.toNat, by omega⟩
      have hk : k < tx.length := by omega
      rw [Int.toNat_natCast] at hr
      clear hat
      cases sp with
      | true =>
        rw [if_pos rfl] at hr
        have HR2 := Lib.hid hr; clear hr hW2 hB2 hw2 hz2 hi
        go_wp2_with fail
        go_ret
        exact ⟨by rw [HR2.out]; rfl, ov, by rw [HR2.out]; exact RbWent.new' HB.out (by have := HB2.out; rw [HW2.out] at this; exact this)⟩
      | false =>
        rw [if_neg (by simp)] at hr
        have HR2 := Lib.hid hr; clear hr
        obtain ⟨cv, w3, hkc, hrow, hB3, hz3, hfr⟩ := conv_row w2 tx
        rw [HW2.out, ← HS1.out] at hkc
        rw [show (w1.alloc (.cells #[.int .i64 to, .string S1, .bool false] 36)).heap.size = w1.heap.size + 1 by simp] at hkc
        rw [hz2] at hrow hB3 hz3 hfr
        have q0 : w3.cell? ⟨w1.heap.size + 1, k, none⟩ = some (.int .u8 (tx[k].toNat : Int)) := by
          obtain ⟨A0, c0, e, hc, hcell⟩ := hrow.at
          injection e with e1 e2 e3
          subst e1 e3
          obtain ⟨bb, o, hA, _, h1⟩ := hcell k hk
          injection hA with hA
          injection hA with e4 e5 _
          subst e4 e5
          simpa using h1
        have q0f := hfr k hk
        have hx8 := xor8u tx[k] turn
        obtain ⟨y, hy⟩ : ∃ y, y = tx[k] ^^^ turn := ⟨_, rfl⟩
        rw [← hy] at hx8
        have hput := hrow.put hk y
        have HROW := Lib.hid hput
        have HB3 := Lib.hid hB3
        have HY := Lib.hid hy
        have HZ2 := Lib.hid hz2
        have HZ3 := Lib.hid hz3
        have hB03 : Below w.heap.size w w3 := hB2.trans (hB3.mono (by omega))
        have hb3 : RbAt w3 base r ov b := HB.out.mv (Mv.of_new hB03 (fun _ => False)) (fun h => h) (fun _ _ h => h)
        obtain ⟨m, rfl⟩ : ∃ m : Nat, i = (m : Int) := ⟨i.toNat, by have := hi.1; omega⟩
        have hm : m < b.l.length := by have := hi.2; omega
        rw [Int.toNat_natCast] at HR2
        have hxm : b.l[m] = ⟨to, tx, false⟩ := by have := HX.out; rw [Bg.look_at hi] at this; simpa using (Prod.mk.inj this).1.symm
        obtain ⟨A, c, hbr, ho, hv0⟩ := hb3.whole
        obtain ⟨g, hA⟩ : ∃ g, A = some ⟨g, 0, none⟩ := by
          rcases ho.form with ⟨_, e0⟩ | ⟨g, cap, e, _⟩
          · rw [e0] at hm; simp at hm
          · injection e with e _ _
            exact ⟨g, e⟩
        subst hA
        have hgl := ho.low (i := g) rfl
        have hgw : g < w.heap.size := (HB.out.row (g := g) (by rw [← hv0]; rfl)).2
        have hcl : b.l.length ≤ c := by
          obtain ⟨A0, c0, e, h, _⟩ := Own.rd encL_len ho
          injection e with _ _ e
          rw [e]; exact h
        have p0 := hbr.cell 0 _ rfl
        have p2 : w3.cell? ⟨g, m * 3 + 2, none⟩ = some (.bool false) := by
          obtain ⟨A0, c0, e, _, hcell⟩ := Own.rd encL_len ho
          injection e with e1 _ _
          subst e1
          obtain ⟨bb, o, hA, _, h1⟩ := hcell m hm
          injection hA with hA
          injection hA with e4 e5 _
          subst e4 e5
          have := h1 2 (.bool b.l[m].sp) rfl
          rw [hxm] at this
          simpa using this
        have p2f := ho.stand (m * 3 + 2)
        have hne1 : r ≠ w1.heap.size + 1 := by omega
        have hne2 : g ≠ w1.heap.size + 1 := by omega
        have hmi : (0 : Int) ≤ (m : Int) ∧ (m : Int) < (b.l.length : Int) := ⟨by omega, by omega⟩
        have HO := Lib.hid ho
        have HBR := Lib.hid hbr
        have HB03 := Lib.hid hB03
        have HV0 := Lib.hid hv0
        have HXM := Lib.hid hxm
        clear hput hrow hB3 hy hW2 hB2 hz2 hz3 hw2 hfr hi ho hbr hB03 hb3 hv0 hxm
        have HNE := Lib.hid hne2
        go_wp2_with fail
        have hd : ((turn.toNat : Int) != 0) = decide (turn ≠ 0) := by
          by_cases ht : turn = 0
          · subst ht; rfl
          · have : turn.toNat ≠ 0 := fun h => ht (UInt8.toNat_inj.1 h)
            simp [ht, this]
        rw [hd]
        obtain ⟨sp2, hsp2⟩ : ∃ sp2, sp2 = decide (turn ≠ 0) := ⟨_, rfl⟩
        rw [← hsp2]
        have HSP2 := Lib.hid hsp2
        obtain ⟨gb, hgb⟩ : ∃ gb, gb = w1.heap.size + 1 := ⟨_, rfl⟩
        rw [← hgb] at HROW HNE ⊢
        obtain ⟨w4, hw4⟩ : ∃ w4, w4 = w3.setCell ⟨gb, k, none⟩ (.int .u8 (y.toNat : Int)) := ⟨_, rfl⟩
        rw [← hw4] at HROW ⊢
        have hm4 : Mv (fun i => i = gb) w3 w4 := by rw [hw4]; exact (Mv.refl (fun i => i = gb) w3).setCell (p := ⟨gb, k, none⟩) (fun _ => rfl) _
        have ho4 : OwnL w4 base (.slice (some ⟨g, 0, none⟩) b.l.length c) b.l := HO.out.mvG hm4 (fun g2 hg2 e => by
          have : g = g2 := by simpa [Value.ownBlock] using hg2
          have := HNE.out; omega)
        have hr4 : Whole w4 r 31 _ := hm4.whole HBR.out (fun e => by omega)
        obtain ⟨w5, hw5⟩ : ∃ w5, w5 = (w4.setCell ⟨g, m * 3 + 2, none⟩ (.bool sp2)).drew := ⟨_, rfl⟩
        have hm5 : Mv (fun i => i = g) w4 w5 := by rw [hw5]; exact ((Mv.refl (fun i => i = g) w4).setCell (p := ⟨g, m * 3 + 2, none⟩) (fun _ => rfl) _).drew
        have hx1 : (encL b.l[m]).set 2 (.bool sp2) = encL ⟨to, tx, sp2⟩ := by rw [HXM.out]; rfl
        have ho5 : OwnL w5 base (.slice (some ⟨g, 0, none⟩) b.l.length c) (b.l.set m ⟨to, tx, sp2⟩) := by rw [hw5]; exact (Own.setAt encL_len ho4 m 2 (.bool sp2) ⟨to, tx, sp2⟩ hm (by decide) hx1).drew
        have hgr : g ≠ r := fun e => by
          have := ho4.apart hr4 (by decide)
          exact this (by rw [← e]; rfl)
        have hr5 : Whole w5 r 31 _ := hm5.whole hr4 (fun e => hgr e.symm)
        obtain ⟨S2, hS2⟩ : ∃ S2, S2 = strB (tx.set k y) := ⟨_, rfl⟩
        have hcv : ∀ W, Mv (fun i => i = g) w4 W → (convert 32 9 (.slice (some ⟨gb, 0, none⟩) tx.length cv)).run Try.prog W = .ok (.string S2) W := fun W hW => by
          rw [hS2]
          have h1 : RdB W (gb + 1) (.slice (some ⟨gb, 0, none⟩) tx.length cv) (tx.set k y) := by
            obtain ⟨A0, c0, e, hc0, hcell⟩ := HROW.out
            refine ⟨A0, c0, e, hc0, fun i hi => ?_⟩
            obtain ⟨bb, o, hA, hb9, h1⟩ := hcell i hi
            refine ⟨bb, o, hA, hb9, fun j u hu => ?_⟩
            have hbb : bb = gb := by
              injection e with e1 _ _
              rw [hA] at e1
              injection e1 with e1
              injection e1 with e1
              exact e1.symm
            rw [World.cell?_of_block (w := w4) (hW.block bb (by
              have h9 := h1 j u hu
              exact World.block_lt_of_cell? _ _ h9) (fun h => HNE.out (by omega)))]
            exact h1 j u hu
          exact run_convB h1
        have HCV := Lib.hid hcv
        have p1 : w5.cell? ⟨g, m * 3 + 1, none⟩ = some (.string S1) := by
          obtain ⟨A0, c0, e, _, hcell⟩ := Own.rd encL_len ho5
          injection e with e1 _ _
          subst e1
          obtain ⟨bb, o, hA, _, h1⟩ := hcell m (by simpa using hm)
          injection hA with hA
          injection hA with e4 e5 _
          subst e4 e5
          have := h1 1 (.string S1) (by rw [List.getElem_set_self, HS1.out]; rfl)
          simpa using this
        have p1f := ho5.stand (m * 3 + 1)
        have hS0 : Whole w5 r 31 [.slice (some ⟨g, 0, none⟩) b.l.length c, .int .i64 (b.room : Int)] ∧ (convert 32 9 (.slice (some ⟨gb, 0, none⟩) tx.length cv)).run Try.prog w5 = .ok (.string S2) w5 := ⟨hr5, HCV.out w5 hm5⟩
        have HO5 := Lib.hid ho5
        have HS0 := Lib.hid hS0
        have HM4 := Lib.hid hm4
        have HM5 := Lib.hid hm5
        have HGR := Lib.hid hgr
        have HS2 := Lib.hid hS2
        have HGB := Lib.hid hgb
        have HW5 := Lib.hid hw5
        have P1 := Lib.hid p1
        have P1f := Lib.hid p1f
        clear p0 p2 p2f q0 q0f hne1 hne2 ho4 hr4 ho5 hr5 hcv hm4 hm5 hx1 hS2 hd hsp2 hS0 hgr hgb hw4 hw5 p1 p1f
        refine wp_region_plan (S := fun W => Whole W r 31 [.slice (some ⟨g, 0, none⟩) b.l.length c, .int .i64 (b.room : Int)] ∧ (convert 32 9 (.slice (some ⟨gb, 0, none⟩) tx.length cv)).run Try.prog W = .ok (.string S2) W) [(true, 0), (true, 1), (true, 2), (true, 3), (true, 4), (true, 5), (true, 6), (true, 7), (true, 8), (false, 9)] (by kernel_rfl) (by kernel_rfl) (fun _ _ d _ _ h => by cases d <;> exact h) (by have := HS0.out; rw [HW5.out] at this; exact this) ?_
        rw [← HW5.out]
        repeat (refine Plan.take (v := ?_) rfl rfl ?_ ?_; rotate_left; (focus (intro W hW; have k0 := hW.1.cell 0 _ rfl; have k1 := hW.2; go_simp; (try with_reducible rfl); done)); (try simp only [Act.put, List.setIfInBounds_toArray, List.set_cons_zero, List.set_cons_succ]))
        refine Plan.step rfl rfl (fun Kk hKk => ?_)
        have p1 := P1.out
        have p1f := P1f.out
        go_simp
        refine hKk.out _ _ ⟨HS0.out.1.away (p := ⟨g, m * 3 + 1, none⟩) (fun h => HGR.out (by have : r = g := h; omega)) _, HCV.out _ (HM5.out.setCell (p := ⟨g, m * 3 + 1, none⟩) (fun _ => rfl) _)⟩ ?_
        clear hKk Kk p1 p1f
        (try simp only [Act.put, List.setIfInBounds_toArray, List.set_cons_zero, List.set_cons_succ])
        simp only [Plan]
        go_wp2_with fail
        go_ret
        have hx2 : (encL ((b.l.set m ⟨to, tx, sp2⟩)[m]'(by simpa using hm))).set 1 (.string S2) = encL ⟨to, tx.set k y, sp2⟩ := by rw [List.getElem_set_self, HS2.out]; rfl
        have ho6 := Own.setAt encL_len HO5.out m 1 (.string S2) ⟨to, tx.set k y, sp2⟩ (by simpa using hm) (by decide) hx2
        rw [List.set_set] at ho6
        have hl6 : R = (0, ⟨b.room, b.l.set m ⟨to, tx.set k y, sp2⟩⟩) := by
          rw [HR2.out, HSP2.out, HY.out]
          simp only [Bg.xorAt, List.getElem?_eq_getElem hk, Option.getD_some]
        have hok6 : Bg.Ok ⟨b.room, b.l.set m ⟨to, tx.set k y, sp2⟩⟩ := by
          obtain ⟨k1, k2, k3⟩ := HOK.out
          refine ⟨k1, by simpa using k2, fun z hz => ?_⟩
          rcases List.mem_or_eq_of_mem_set hz with hz | hz
          · exact k3 z hz
          · rw [hz]; simpa using hxl
        rw [hl6]
        have hz9 : base ≤ w.heap.size := HB.out.low.2.2
        refine ⟨rfl, ov, ⟨⟨some ⟨g, 0, none⟩, c, b.l.length, HS0.out.1.away (p := ⟨g, m * 3 + 1, none⟩) (fun h => HGR.out (by have : r = g := h; omega)) _, by simp, ho6, HV0.out, HB.out.low.1, ?_, hok6⟩, ?_, NewRow.refl _ _⟩⟩
        · have h1 := HB03.out.size
          have h2 := HM4.out.size
          have h3 := HM5.out.size
          simp; omega
        · have hgv : some g = ov := by rw [← HV0.out]; rfl
          have h1 : Mv (RbD r ov) w w3 := Mv.of_new HB03.out _
          have h2 : Mv (RbD r ov) w w4 := h1.trans HM4.out (fun i hi e => by have := HGB.out; omega)
          have h3 : Mv (RbD r ov) w w5 := h2.trans HM5.out (fun i _ e => .inr (by rw [e]; exact hgv))
          exact h3.setCell (p := ⟨g, m * 3 + 1, none⟩) (fun _ => .inr hgv) _
  · have he : ex = 4 := by have := HX.out; unfold Bg.look at this; rw [if_neg hi] at this; exact (Prod.mk.inj this).2
    subst he
    have hr := HR.out
    rw [if_pos hi] at hr
    have HR2 := Lib.hid hr; clear hr hW2 hB2 hw2 hz2
    go_wp2_with fail
    go_ret
    exact ⟨by rw [HR2.out]; rfl, ov, by rw [HR2.out]; exact RbWent.new' HB.out (by have := HB2.out; rw [HW2.out] at this; exact this)⟩
end Go.Proofs.Ytjkhdlmdgdcimaa
