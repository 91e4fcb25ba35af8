/- BagTwins's walk. -/
import Derived.Test.YtjkhdlmdgdcimaaBgAwk
import Derived.Test.YtjkhdlmdgdcimaaPlanB
import Derived.Test.YtjkhdlmdgdcimaaBgX
namespace Go.Proofs.Ytjkhdlmdgdcimaa
open Go.RowKit
attribute [local go_sem] same_str

namespace Bg
def tw0 (t : List UInt8) : Bg := ⟨3, [⟨9, t, false⟩]⟩
def tw1 (t : List UInt8) : Bg := ⟨3, [⟨9, t, false⟩, ⟨9, t, false⟩]⟩
def tw2 (t : List UInt8) (k : Nat) (turn : UInt8) : Bg := ⟨3, [⟨9, xorAt t k turn, decide (turn ≠ 0)⟩, ⟨9, t, false⟩]⟩
theorem tw_send {t : List UInt8} (h : t.length ≤ 1000) : (Bg.mk 3 []).send 9 t = (0, tw0 t) := by
  unfold send
  rw [if_neg (by decide), if_neg (by omega), if_neg (by simp)]
  rfl
theorem tw_twin (t : List UInt8) : (tw0 t).twin 0 = (0, tw1 t) := by
  unfold twin
  rw [if_neg (by simp [has, tw0]), if_neg (by simp [tw0])]
  rfl
theorem tw_spoil {t : List UInt8} {k : Nat} (hk : k < t.length) (turn : UInt8) : (tw1 t).spoil 0 (k : Int) turn = (0, tw2 t k turn) := by
  have hl : ((tw1 t).look 0).1 = ⟨9, t, false⟩ := rfl
  unfold spoil
  rw [hl, if_neg (by simp [has, tw1]), if_neg (by simp only; omega), if_neg (by simp)]
  rfl
theorem tw_look1 (t : List UInt8) (k : Nat) (turn : UInt8) : (tw2 t k turn).look 1 = (⟨9, t, false⟩, 0) := rfl
theorem tw_look0 (t : List UInt8) (k : Nat) (turn : UInt8) : (tw2 t k turn).look 0 = (⟨9, xorAt t k turn, decide (turn ≠ 0)⟩, 0) := rfl
end Bg
set_option maxHeartbeats 8000000 in
set_option maxRecDepth 100000 in
theorem bagTwins_walk (t : List UInt8) (v : Value) (at_ : Nat) (turn : UInt8) (w : World) (hv : RdB w w.heap.size v t) (hl : t.length ≤ 140737488351232) (hat : at_ < 256) :
    Calls Try.prog 5 #[v, .int .u8 (at_ : Int), .int .u8 (turn.toNat : Int)] w fun e w' => e = .returned (.bool true) ∧ Below w.heap.size w w' := by
  obtain ⟨A, c, rfl, hc, -⟩ := hv.at
  have HV := Lib.hid hv; clear hv
  have HN := Lib.hid (bnew_any 3 (by decide) (by decide) w)
  by_cases hout : t.length = 0 ∨ 1000 < t.length
  · go_enter Try.func5, Try.ntmps5
    go_wp2_with fail
    refine HN.out.mono ?_
    rintro e w1 ⟨q, G, rfl, hk, hb⟩
    have HB := Lib.hid hb
    have HA := Lib.hid (awake_any w1)
    clear hk hb HN
    go_wp2_with fail
    refine HA.out.mono ?_
    rintro e w2 ⟨rfl, hb⟩
    have HB2 := Lib.hid (HB.out.trans (hb.mono HB.out.size))
    have HA2 := Lib.hid (awake_any w2)
    clear hb HA HB
    rcases hout with h0 | h0
    · have h1 : (t.length : Int) = 0 := by omega
      go_wp2_with fail
      refine HA2.out.mono ?_
      rintro e w3 ⟨rfl, hb⟩
      have HB3 := Lib.hid (HB2.out.trans (hb.mono HB2.out.size))
      clear hb HA2 HB2
      go_wp2_with fail
      go_ret
      exact ⟨rfl, HB3.out⟩
    · have h1 : ¬ (t.length : Int) = 0 := by omega
      have h2 : (1000 : Int) < (t.length : Int) := by omega
      have h3 : ¬ t.length = 0 := by omega
      go_wp2_with fail
      refine HA2.out.mono ?_
      rintro e w3 ⟨rfl, hb⟩
      have HB3 := Lib.hid (HB2.out.trans (hb.mono HB2.out.size))
      clear hb HA2 HB2
      go_wp2_with fail
      go_ret
      exact ⟨rfl, HB3.out⟩
  · have h1 : ¬ (t.length : Int) = 0 := by omega
    have h2 : ¬ (1000 : Int) < (t.length : Int) := by omega
    have h3 : ¬ t.length = 0 := by omega
    have hl2 : t.length ≤ 1000 := by omega
    have hb0 : ((t.length : Int) == 0) = false := by simpa using h3
    have hb1 : decide ((1000 : Int) < (t.length : Int)) = false := by simp; omega
    clear hout
    obtain ⟨k, hk⟩ : ∃ k, k = at_ % t.length := ⟨_, rfl⟩
    have hkl : k < t.length := by rw [hk]; exact Nat.mod_lt _ (by omega)
    have hmod : (at_ : Int) % (t.length : Int) = (k : Int) := by rw [hk]; exact (Int.natCast_emod at_ t.length).symm
    clear hk
    go_enter Try.func5, Try.ntmps5
    go_wp2_with fail
    refine HN.out.mono ?_
    rintro e w1 ⟨q, G, rfl, hk, hb⟩
    rw [show (3 : Int).toNat = 3 from rfl] at hk
    have HB := Lib.hid hb
    have HK := Lib.hid hk
    have HA := Lib.hid (awake_any w1)
    clear hk hb HN
    go_wp2_with fail
    refine HA.out.mono ?_
    rintro e w2 ⟨rfl, hb⟩
    have HB2 := Lib.hid (HB.out.trans (hb.mono HB.out.size))
    have hk2 := HK.out.mv (Mv.of_new hb (fun _ => False)) (fun _ _ h => h)
    have hv2 : RdBG w2 w2.heap.size G (.slice A t.length c) t := (RdBG.of (HV.out.below HB2.out (Nat.le_refl _)) (fun b hb hg => by have := (hk2.low.2 b hg).1; omega)).mono HB2.out.size (fun _ _ h => h)
    have hsd := bsend_any w.heap.size q G _ 9 t _ w2 hk2 hv2 hl
    rw [Bg.tw_send hl2] at hsd
    have HSD := Lib.hid hsd
    have HK2 := Lib.hid hk2
    clear hb HA HB HK hk2 hv2 hsd
    go_wp2_with fail
    refine HSD.out.mono ?_
    rintro e w3 ⟨rfl, G3, hk3, hG3, hm3⟩
    have HB3 := Lib.hid (HB2.out.trans (hm3.below HK2.out.low.1 (fun i hi => (HK2.out.low.2 i hi).1)))
    have HK3 := Lib.hid hk3
    have htw := btwin_any w.heap.size q G3 _ 0 w3 hk3
    rw [Bg.tw_twin] at htw
    have HTW := Lib.hid htw
    clear hk3 hG3 hm3 htw HSD
    go_wp2_with fail
    refine HTW.out.mono ?_
    rintro e w4 ⟨rfl, G4, hk4, hG4, hm4⟩
    have HB4 := Lib.hid (HB3.out.trans (hm4.below HK3.out.low.1 (fun i hi => (HK3.out.low.2 i hi).1)))
    have HK4 := Lib.hid hk4
    have hsp := bspoil_any w.heap.size q G4 _ 0 (k : Int) turn w4 hk4
    rw [Bg.tw_spoil hkl] at hsp
    have HSP := Lib.hid hsp
    clear hk4 hG4 hm4 hsp HTW
    go_wp2_with fail
    refine HSP.out.mono ?_
    rintro e w5 ⟨rfl, G5, hk5, hG5, hm5⟩
    have HB5 := Lib.hid (HB4.out.trans (hm5.below HK4.out.low.1 (fun i hi => (HK4.out.low.2 i hi).1)))
    have HK5 := Lib.hid hk5
    have hlk := blook_any w.heap.size q G5 _ 1 w5 hk5
    rw [Bg.tw_look1] at hlk
    have HLK := Lib.hid hlk
    clear hk5 hG5 hm5 hlk HSP
    go_wp2_with fail
    refine HLK.out.mono ?_
    rintro e w6 ⟨A6, c6, rfl, hr6, hb6⟩
    replace hr6 := hr6.rdB
    have HB6 := Lib.hid (HB5.out.trans (hb6.mono HB5.out.size))
    have hk6 := HK5.out.mv (Mv.of_new hb6 (fun _ => False)) (fun _ _ h => h)
    have HR6 := Lib.hid hr6
    have hlk := blook_any w.heap.size q G5 _ 0 w6 hk6
    rw [Bg.tw_look0] at hlk
    have HLK := Lib.hid hlk
    clear hk6 hb6 hr6 hlk
    go_wp2_with fail
    refine HLK.out.mono ?_
    rintro e w7 ⟨A7, c7, rfl, hr7, hb7⟩
    replace hr7 := hr7.rdB
    have HB7 := Lib.hid (HB6.out.trans (hb7.mono HB6.out.size))
    have HR67 := Lib.hid (HR6.out.below hb7 (Nat.le_refl _))
    have hxl : (Bg.xorAt t k turn).length = t.length := by simp [Bg.xorAt]
    have hz7 := hb7.size
    obtain ⟨X, hX⟩ : ∃ X, X = Bg.xorAt t k turn := ⟨_, rfl⟩
    rw [← hX] at hr7 hxl ⊢
    rw [hxl] at hr7 ⊢
    have hxk : X[k]'(by omega) = t[k] ^^^ turn := by
      simp only [hX, Bg.xorAt, List.getElem_set_self, List.getElem?_eq_getElem hkl, Option.getD_some]
    have HR7 := Lib.hid hr7
    have HXL := Lib.hid hxl
    have HXK := Lib.hid hxk
    clear hb7 hr7 HLK HR6 hX
    obtain ⟨b7, o7, hA7, -, hx7⟩ : ∃ b7 o7, A7 = some ⟨b7, o7, none⟩ ∧ b7 < w7.heap.size ∧ w7.cell? ⟨b7, o7 + k, none⟩ = some (.int .u8 ((t[k] ^^^ turn).toNat : Int)) := by
      obtain ⟨A0, c0, e, hc0, hcell⟩ := HR7.out
      obtain ⟨b, o, hA, hb, h1⟩ := hcell k (by have := HXL.out; omega)
      injection e with e1 _ _
      subst e1
      refine ⟨b, o, hA, hb, ?_⟩
      have := h1 0 _ rfl
      rw [HXK.out] at this
      simpa using this
    subst hA7
    obtain ⟨b0, o0, hA0, hb0', hx0⟩ : ∃ b0 o0, A = some ⟨b0, o0, none⟩ ∧ b0 < w.heap.size ∧ w7.cell? ⟨b0, o0 + k, none⟩ = some (.int .u8 (t[k].toNat : Int)) := by
      obtain ⟨A0, c0, e, hc0, hcell⟩ := RdB.at (HV.out.below HB7.out (Nat.le_refl _))
      obtain ⟨b, o, hA, hb, h1⟩ := hcell k hkl
      injection e with e1 _ _
      subst e1
      exact ⟨b, o, hA, hb, h1⟩
    subst hA0
    have hx8 := xor8u t[k] turn
    obtain ⟨S, hS⟩ : ∃ S, S = strB t := ⟨_, rfl⟩
    have hkk : (0 : Int) ≤ (k : Int) ∧ (k : Int) < (t.length : Int) := ⟨by omega, by omega⟩
    have hcw : ∀ W, Below w7.drew.heap.size w7.drew W → (convert 32 9 (.slice A6 t.length c6)).run Try.prog W = .ok (.string S) W ∧ (convert 32 9 (.slice (some ⟨b0, o0, none⟩) t.length c)).run Try.prog W = .ok (.string S) W ∧
        W.cell? ⟨b7, o7 + k, none⟩ = some (.int .u8 ((t[k] ^^^ turn).toNat : Int)) ∧ W.cell? ⟨b0, o0 + k, none⟩ = some (.int .u8 (t[k].toNat : Int)) := fun W hW => by
      have hd := ((Below.refl w7.heap.size w7).drew).trans hW
      refine ⟨by rw [hS]; exact run_convB (HR67.out.below hd (by omega)), by rw [hS]; exact run_convB (HV.out.below (HB7.out.trans (hd.mono HB7.out.size)) (Nat.le_refl _)), ?_, ?_⟩
      · exact (hd.cell (p := ⟨b7, o7 + k, none⟩) (World.block_lt_of_cell? _ _ hx7)).trans hx7
      · exact (hd.cell (p := ⟨b0, o0 + k, none⟩) (World.block_lt_of_cell? _ _ hx0)).trans hx0
    have HCW := Lib.hid hcw
    clear hcw hS hx7 hx0
    go_wp2_with fail
    refine wp_region_planB [(true, 0), (true, 1), (true, 2), (true, 3), (true, 4), (true, 5), (true, 6), (true, 7), (true, 8), (true, 9), (true, 10), (true, 11), (true, 12), (true, 13), (true, 14), (true, 15), (true, 16), (true, 17), (true, 18), (true, 19), (true, 20), (true, 21), (true, 22), (true, 23), (true, 24), (true, 25), (true, 26), (true, 27), (true, 28), (true, 29), (true, 30), (true, 31), (true, 32), (true, 33), (true, 34), (true, 35), (true, 36), (true, 37)] (by kernel_rfl) (by kernel_rfl) (fun _ _ d _ _ h => by cases d <;> exact h) ?_
    repeat (refine PlanB.take (v := ?_) rfl rfl ?_ ?_; rotate_left; (focus (intro W hW; obtain ⟨k1, k2, k3, k4⟩ := HCW.out W hW; go_simp; (try with_reducible rfl); done)); (try simp only [Act.put, List.setIfInBounds_toArray, List.set_cons_zero, List.set_cons_succ]))
    simp only [PlanB]
    go_wp2_with fail
    go_ret
    exact ⟨rfl, HB7.out.drew⟩
end Go.Proofs.Ytjkhdlmdgdcimaa
