/- The program's clock: Set. -/
import Derived.Test.YtcigodaacdfagaaPb
namespace Go.Proofs.Ytcigodaacdfagaa
open Go.RowKit

theorem set_perm_pairs (b a : Int) (l : List Bl) : ((b, (Value.int .i64 a)) :: offI b (l.map prB)).Perm ((ins ⟨b, a⟩ (wo b l)).map prB) := by
  rw [off_wo]
  exact ((ins_perm ⟨b, a⟩ (wo b l)).map prB).symm
theorem map_is (w : World) (b : Nat) : (binOp .eql 47 (.map (some b)) (.map none)).run Try.prog w = .ok (.bool false) w := by kernel_rfl
theorem map_isnt (w : World) : (binOp .eql 47 (.map none) (.map none)).run Try.prog w = .ok (.bool true) w := by kernel_rfl
set_option maxHeartbeats 4000000 in
theorem cset_any (base q : Nat) (G : Nat → Prop) (c : Ck) (bell at_ : Int) (w : World) (h : CkAt w base q G c) (hb : I64 bell) (ha : I64 at_) :
    Calls Try.prog 9 #[.pointer (some ⟨q, 0, none⟩), .int .i64 bell, .int .i64 at_] w fun e w' => e = .returned (.int .i64 (c.set bell at_).1) ∧ CkWent w w' base q G (c.set bell at_).2 := by
  have H := Lib.hid h
  obtain ⟨m, hW, hm⟩ := h.blk
  have HM := Lib.hid hm
  have HW := Lib.hid hW
  have c0 := hW.cell 0 _ rfl
  have c1 := hW.cell 1 _ rfl
  have f1 := hW.frozen 1
  have hok := h.ok.set bell at_
  obtain ⟨r, hr⟩ : ∃ r, r = c.set bell at_ := ⟨_, rfl⟩
  rw [← hr] at hok ⊢
  unfold Ck.set at hr
  have HOK := Lib.hid hok
  clear h hm hW hok
  go_enter Try.func9, Try.ntmps9
  cases hbo : bellOk bell with
  | false =>
    have hbo' := (not_bellOk bell).1 hbo
    rw [if_pos hbo'] at hr
    subst hr
    go_wp2_with (go_at_call 17; refine (isBell_any _ _).mono ?_; rw [hbo]; rintro e w1 ⟨rfl, rfl⟩)
    go_ret
    exact ⟨rfl, .of H.out (Below.refl _ _)⟩
  | true =>
    have hbo' : ¬ (bell < 0 ∨ 4095 < bell) := fun hc => by rw [(not_bellOk bell).2 hc] at hbo; cases hbo
    rw [if_neg hbo'] at hr
    clear hbo'
    by_cases hold : at_ < c.now
    · rw [if_pos hold] at hr
      subst hr
      go_wp2_with (go_at_call 17; refine (isBell_any _ _).mono ?_; rw [hbo]; rintro e w1 ⟨rfl, rfl⟩)
      go_ret
      exact ⟨rfl, .of H.out (Below.refl _ _)⟩
    rw [if_neg hold] at hr
    by_cases hbig : 1099511627776 < at_
    · rw [if_pos hbig] at hr
      subst hr
      go_wp2_with (go_at_call 17; refine (isBell_any _ _).mono ?_; rw [hbo]; rintro e w1 ⟨rfl, rfl⟩)
      go_ret
      exact ⟨rfl, .of H.out (Below.refl _ _)⟩
    rw [if_neg hbig] at hr
    subst hr
    have HP := Lib.hid (set_perm_pairs bell at_ c.l)
    rcases HM.out with ⟨rfl, hl⟩ | ⟨b, rfl, hne, hg, hM⟩
    · have hlow := H.out.low.2 q H.out.me
      have hM0 := (MapI.made w).mv (D := fun i => i = q) ((Mv.refl (fun i => i = q) (w.alloc (.map #[] 0))).setCell (p := ⟨q, 1, none⟩) (fun _ => rfl) (.map (some w.heap.size))) (by omega)
      have hW0 := (HW.out.alloc (.map #[] 0)).put 1 (.map (some w.heap.size))
      have hm0 : Mv G w ((w.alloc (.map #[] 0)).setCell ⟨q, 1, none⟩ (.map (some w.heap.size))) := ((Mv.refl G w).alloc _).setCell (fun _ => H.out.me) _
      have d1 := hW0.cell 1 _ rfl
      obtain ⟨w2, hup, hM2, hmv, hsz⟩ := hM0.store (P := Try.prog) Try.underlying47 Try.underlying3 bell (.int .i64 at_)
      have HM2 := Lib.hid hM2
      have HMV := Lib.hid hmv
      have HW0 := Lib.hid hW0
      have HM0 := Lib.hid hm0
      have HSZ := Lib.hid hsz
      have HL := Lib.hid hl
      have hnil := map_isnt w
      have c1' := (HW.out.alloc (.map #[] 0)).cell 1 _ rfl
      have f1' := (HW.out.alloc (.map #[] 0)).frozen 1
      have hmk := run_makeMap (P := Try.prog) 47 w
      have HLOW := Lib.hid hlow
      clear hM0 hM2 hmv hW0 hm0 hsz hl hlow
      go_wp2_with (go_at_call 17; refine (isBell_any _ _).mono ?_; rw [hbo]; rintro e w1 ⟨rfl, rfl⟩)
      go_ret
      have hq := HLOW.out
      have hs2 := HSZ.out
      simp only [World.size_setCell, World.size_alloc] at hs2
      have hl := HL.out
      have hp := HP.out
      rw [hl] at hp
      refine ⟨rfl, fun i => G i ∨ i = w1.heap.size, ⟨⟨some w1.heap.size, HMV.out.whole HW0.out (by omega), .inr ⟨_, rfl, by omega, .inr rfl, ?_⟩⟩, .inl H.out.me, ⟨by have := H.out.low.1; omega, fun i hi => ?_⟩, HOK.out⟩, fun i hi => ?_, HM0.out.trans HMV.out (fun i hi e => by omega)⟩
      · have := HM2.out.perm hp
        simpa only [hl] using this
      · rcases hi with hi | rfl
        · have := H.out.low.2 i hi; omega
        · have := H.out.low.1; omega
      · rcases hi with hi | rfl
        · exact .inl hi
        · exact .inr (Nat.le_refl _)
    · obtain ⟨w2, hup, hM2, hmv, hsz⟩ := hM.store (P := Try.prog) Try.underlying47 Try.underlying3 bell (.int .i64 at_)
      have HM2 := Lib.hid hM2
      have HMV := Lib.hid hmv
      have HNE := Lib.hid hne
      have HG := Lib.hid hg
      have hnil := map_is w b
      clear hM hM2 hmv hsz hne hg
      go_wp2_with (go_at_call 17; refine (isBell_any _ _).mono ?_; rw [hbo]; rintro e w1 ⟨rfl, rfl⟩)
      go_ret
      exact ⟨rfl, H.out.turned HW.out HNE.out HG.out rfl HOK.out (Below.refl _ _) HMV.out (HM2.out.perm HP.out)⟩
end Go.Proofs.Ytcigodaacdfagaa
