/- The program's clock: Stop. -/
import Derived.Test.YtcigodaacdfagaaPa
namespace Go.Proofs.Ytcigodaacdfagaa
open Go.RowKit

theorem off_wo (k : Int) (l : List Bl) : offI k (l.map prB) = (wo k l).map prB := by
  unfold offI wo
  rw [List.filter_map]
  rfl
theorem wo_len (k : Int) (l : List Bl) : (wo k l).length = l.length ↔ ∀ x ∈ l, x.bell ≠ k := by
  unfold wo
  rw [List.length_filter_eq_length_iff]
  simp
theorem not_bellOk (n : Int) : bellOk n = false ↔ (n < 0 ∨ 4095 < n) := by
  unfold bellOk
  simp only [decide_eq_false_iff_not, Classical.not_and_iff_not_or_not]
  omega
/-- the clock behind a turn of its map alone -/
theorem CkAt.turned {w w1 w2 : World} {base q b : Nat} {G : Nat → Prop} {c c' : Ck} (h : CkAt w base q G c) (hW : Whole w q 49 [.int .i64 c.now, .map (some b)]) (hne : b ≠ q) (hg : G b) (hn : c'.now = c.now) (hok : c'.Ok)
    (hb : Below w.heap.size w w1) (hm : Mv (fun i => i = b) w1 w2) (hM : MapI w2 b (c'.l.map prB)) : CkWent w w2 base q G c' := by
  have h0 : Mv G w w1 := Mv.of_new hb G
  have h2 : Mv G w w2 := h0.trans hm (fun i _ e => by rw [e]; exact hg)
  refine ⟨G, ⟨⟨some b, ?_, .inr ⟨b, rfl, hne, hg, hM⟩⟩, h.me, ⟨Nat.le_trans h.low.1 h2.size, fun i hi => ⟨(h.low.2 i hi).1, Nat.lt_of_lt_of_le (h.low.2 i hi).2 h2.size⟩⟩, hok⟩, fun _ h => .inl h, h2⟩
  rw [hn]
  exact hm.whole (hW.below hb hW.size) (fun e => hne e.symm)

set_option maxHeartbeats 2000000 in
theorem cstop_any (base q : Nat) (G : Nat → Prop) (c : Ck) (bell : Int) (w : World) (h : CkAt w base q G c) (hb : I64 bell) :
    Calls Try.prog 11 #[.pointer (some ⟨q, 0, none⟩), .int .i64 bell] w fun e w' => e = .returned (.int .i64 (c.stop bell).1) ∧ CkWent w w' base q G (c.stop bell).2 := by
  have H := Lib.hid h
  obtain ⟨m, hW, hm⟩ := h.blk
  have HM := Lib.hid hm
  have HW := Lib.hid hW
  have c1 := hW.cell 1 _ rfl
  have hok := h.ok.stop bell
  obtain ⟨r, hr⟩ : ∃ r, r = c.stop bell := ⟨_, rfl⟩
  rw [← hr] at hok ⊢
  unfold Ck.stop at hr
  have HOK := Lib.hid hok
  clear h hm hW hok
  go_enter Try.func11, Try.ntmps11
  cases hbo : bellOk bell with
  | false =>
    have hbo' := (not_bellOk bell).1 hbo
    rw [if_pos hbo'] at hr
    subst hr
    go_wp2_with (go_at_call 17; refine (isBell_any _ _).mono ?_; rw [hbo]; rintro e w1 ⟨rfl, rfl⟩)
    go_ret
    exact ⟨rfl, .of H.out (Below.refl _ _)⟩
  | true =>
    have hbo' : ¬ (bell < 0 ∨ 4095 < bell) := fun hc => by rw [(not_bellOk bell).2 hc] at hbo; cases hbo
    rw [if_neg hbo'] at hr
    clear hbo'
    rcases HM.out with ⟨rfl, hl⟩ | ⟨b, rfl, hne, hg, hM⟩
    · rw [if_pos (by rw [hl]; rfl)] at hr
      subst hr
      have hlk := look_noMap (P := Try.prog) (w := w) Try.underlying47 Try.underlying3 bell (z := .int .i64 0) (by kernel_rfl) true
      simp only [if_true] at hlk
      go_wp2_with (go_at_call 17; refine (isBell_any _ _).mono ?_; rw [hbo]; rintro e w1 ⟨rfl, rfl⟩)
      go_ret
      exact ⟨rfl, .of H.out (Below.refl _ _)⟩
    · by_cases hin : ∀ x ∈ c.l, x.bell ≠ bell
      · rw [if_pos ((wo_len bell c.l).2 hin)] at hr
        subst hr
        have hlk := hM.miss (P := Try.prog) Try.underlying47 Try.underlying3 (k := bell) (z := .int .i64 0) (by simpa [prB] using hin) (by kernel_rfl) true
        go_wp2_with (go_at_call 17; refine (isBell_any _ _).mono ?_; rw [hbo]; rintro e w1 ⟨rfl, rfl⟩)
        go_ret
        exact ⟨rfl, .of H.out (Below.refl _ _)⟩
      · rw [if_neg (fun e => hin ((wo_len bell c.l).1 e))] at hr
        subst hr
        obtain ⟨x, hx, hxb⟩ : ∃ x ∈ c.l, x.bell = bell := by simpa using hin
        have hlk := hM.look (P := Try.prog) Try.underlying47 Try.underlying3 (k := bell) (v := .int .i64 x.at_) (List.mem_map.2 ⟨x, hx, by rw [← hxb]; rfl⟩) true
        obtain ⟨w2, hdl, hM2, hmv, hsz⟩ := hM.drop (P := Try.prog) Try.underlying47 Try.underlying3 bell 0
        have HM2 := Lib.hid hM2
        have HMV := Lib.hid hmv
        have HNE := Lib.hid hne
        have HG := Lib.hid hg
        clear hM hin hx hM2 hmv hsz hne hg
        go_wp2_with (go_at_call 17; refine (isBell_any _ _).mono ?_; rw [hbo]; rintro e w1 ⟨rfl, rfl⟩)
        go_ret
        refine ⟨rfl, H.out.turned HW.out HNE.out HG.out rfl HOK.out (Below.refl _ _) HMV.out ?_⟩
        rw [← off_wo]
        exact HM2.out
end Go.Proofs.Ytcigodaacdfagaa
