/- The reference's Past: Add. -/
import Derived.Test.YtpfhkijnaiopoaaRq
namespace Go.Proofs.Ytpfhkijnaiopoaa
open Go.RowKit

set_option maxHeartbeats 8000000 in
set_option maxRecDepth 100000 in
theorem radd_any (base r : Nat) (ov : Option Nat) (E : Nat → Prop) (p : Pa) (v : Int) (cs : List Chg) (vc : Value) (w : World) (h : RpAt w base r ov E p) (hE : ∀ i, E i → i < w.heap.size) (hlen : p.l.length ≤ 1000000)
    (hvc : RdC w w.heap.size vc cs) (hsm : ∀ c ∈ cs, smallC c) (hbd : (p.at_ p.last).length + cs.length ≤ 7000000000000) :
    Calls Try.prog 15 #[.pointer (some ⟨r, 0, none⟩), .int .i64 v, vc] w fun e w' => e = .returned (.int .i64 (p.add v cs).1) ∧ ∃ ov', RpWent w w' base r ov E (p.add v cs).2 ov' := by
  obtain ⟨R, hR⟩ : ∃ R, R = p.add v cs := ⟨_, rfl⟩
  rw [← hR]
  unfold Pa.add at hR
  have HALLC := Lib.hid (rall_any cs hsm vc w hvc (by omega))
  obtain ⟨Ac, cc, rfl, hcc, hci⟩ := hvc.at
  have HVC := Lib.hid hvc
  have H := Lib.hid h
  obtain ⟨A, cap, rs, hb, ho, hov, hl, hp⟩ := h.blk
  have hll : rs.length ≤ 1000000 := by rw [← hl, List.length_map] at hlen; exact hlen
  have c0 := hb.cell 0 _ rfl
  have c2 := hb.cell 2 _ rfl
  have HB := Lib.hid hb
  have HO := Lib.hid ho
  have HOV := Lib.hid hov
  have HP := Lib.hid hp
  have HL := Lib.hid hl
  have HE := Lib.hid hE
  have HSM := Lib.hid hsm
  have HCI := Lib.hid hci
  have hr := hb.size
  clear hb ho hov hp hl h hlen hE hvc hsm hci
  by_cases h1 : v ≤ p.last
  · rw [if_pos h1] at hR
    have HR := Lib.hid hR
    clear hR
    go_enter Try.func15, Try.ntmps15
    go_wp2_with fail
    go_ret
    rw [HR.out]
    exact ⟨rfl, ov, RpWent.of H.out (Below.refl _ _)⟩
  rw [if_neg h1] at hR
  obtain ⟨q, hq⟩ : ∃ q, q = allAns cs := ⟨_, rfl⟩
  rw [← hq] at hR HALLC
  by_cases hq0 : q = 0
  · rw [if_neg (by simpa using hq0)] at hR
    have HR := Lib.hid hR
    subst hq0
    clear hR hq
    obtain ⟨P0, hP0⟩ : ∃ P0, P0 = p.at_ p.last := ⟨_, rfl⟩
    rw [← hP0] at HR hbd
    have HP0 := Lib.hid hP0
    clear hP0
    go_enter Try.func15, Try.ntmps15
    go_wp2_with fail
    refine HALLC.out.mono ?_
    rintro e w1 ⟨rfl, hb1⟩
    have hat := rat_any base r ov E p p.last w1 (H.out.new hb1)
    rw [← HP0.out] at hat
    have HAT := Lib.hid hat
    have HB1 := Lib.hid hb1
    have c2 := (HB.out.below hb1 hr).cell 2 _ rfl
    clear hat hb1 HALLC
    go_wp2_with fail
    refine HAT.out.mono ?_
    rintro e w2 ⟨A2, k2, rfl, hr2, hb2⟩
    have HB2 := Lib.hid (HB1.out.trans (hb2.mono HB1.out.size))
    have HR2 := Lib.hid hr2
    clear hr2 hb2 HAT HB1
    go_wp2_with fail
    go_loopw [8, 9] (fun pv iv wr => ∃ (i : Nat) (A' : Option Addr) (c' : Nat), i ≤ cs.length ∧ iv = .int .i64 (i : Int) ∧ pv = .slice A' (applyP P0 (cs.take i)).length c' ∧ RdPG wr wr.heap.size (fun i => E i ∨ i = r ∨ some i = ov) (.slice A' (applyP P0 (cs.take i)).length c') (applyP P0 (cs.take i)) ∧ Below w.heap.size w wr) (fun _ iv _ => cs.length - (intOf iv).toNat)
    case atStart => exact ⟨0, A2, k2, Nat.zero_le _, rfl, rfl, HR2.out, HB2.out⟩
    case round =>
      obtain ⟨i, A', c', hi, rfl, rfl, hrd, hbw⟩ := hrel
      have HRD := Lib.hid hrd
      have HBW := Lib.hid hbw
      have hz := hbw.size
      have h0 : (0 : Int) ≤ (i : Int) := by omega
      clear hrd hbw HR2 HB2
      by_cases hil : i < cs.length
      · have h1 : (i : Int) < (cs.length : Int) := by omega
        have h2 : IntKind.i64.wrap ((i : Int) + 1) = ((i + 1 : Nat) : Int) := by rw [IntKind.wrap_i64]; omega
        obtain ⟨bc, oc, rfl, hbc, y0, y1, y2⟩ := HCI.out i hil
        have q0 := (HBW.out.cell (p := ⟨bc, _, none⟩) hbc).trans y0
        have q1 := (HBW.out.cell (p := ⟨bc, _, none⟩) hbc).trans y1
        have q2 := (HBW.out.cell (p := ⟨bc, _, none⟩) hbc).trans y2
        have ht := applyP_take P0 cs i hil
        have hlt : (applyP P0 (cs.take i)).length ≤ 7000000000000 := by
          have := applyP_len P0 (cs.take i); rw [List.length_take] at this; omega
        have hsc := HSM.out cs[i] (List.getElem_mem hil)
        generalize applyP P0 (cs.take i) = PJ at HRD ht hlt ⊢
        generalize cs[i] = x at q0 q1 q2 ht hsc
        have hone := rone_any PJ x hsc _ wr HRD.out.rd (by omega)
        obtain ⟨xk, xy, xz⟩ := x
        simp only [cval] at q0 q1 q2 hone
        obtain ⟨PN, hPN⟩ : ∃ PN, PN = oneP PJ ⟨xk, xy, xz⟩ := ⟨_, rfl⟩
        rw [← hPN] at ht hone
        have HT := Lib.hid ht
        have HONE := Lib.hid hone
        clear y0 y1 y2 ht hone hPN hlt hsc
        go_wp2_with fail
        refine HONE.out.mono ?_
        rintro e w4 ⟨A4, c4, rfl, ho4, hb4⟩
        have HR4 := Lib.hid (show RdPG w4 w4.heap.size (fun i => E i ∨ i = r ∨ some i = ov) (.slice A4 PN.length c4) PN from RdG.own cellsS_len ho4 fun b hb1 hb2 _ hc => by
          rcases hc with hc | hc | hc
          · have := HE.out b hc; omega
          · omega
          · have := (H.out.row hc.symm).2; omega)
        have HB4 := Lib.hid (HBW.out.trans (hb4.mono hz))
        clear ho4 hb4 HONE
        go_wp2_with fail
        go_roundw
        case rel => exact ⟨i + 1, A4, c4, by omega, by go_num, by rw [HT.out], by rw [HT.out]; exact HR4.out, HB4.out⟩
        case measure => simp [intOf]; omega
      · obtain rfl : i = cs.length := by omega
        have hrd := HRD.out
        rw [List.take_length] at hrd ⊢
        obtain ⟨PN, hPN⟩ : ∃ PN, PN = applyP P0 cs := ⟨_, rfl⟩
        rw [← hPN] at hrd HR ⊢
        have HRN := Lib.hid hrd
        have hbb := HB.out.below HBW.out hr
        have d0 := hbb.cell 0 _ rfl
        have hoA : OwnPR (wr.alloc (.cells #[.int .i64 v, .slice A' PN.length c'] 69)) base (.slice A rs.length cap) rs := (HO.out.mvG (Mv.of_below HBW.out) (fun g hg e => by have := (HO.out.low hg).2; omega)).alloc _
        have HOA := Lib.hid hoA
        have HRX := Lib.hid (RdPR.one wr ⟨v, A', c', PN⟩)
        simp only [PRow.v] at HRX
        have HZA := Lib.hid (show base ≤ (wr.alloc (.cells #[.int .i64 v, .slice A' PN.length c'] 69)).heap.size by have := H.out.low.2; simp; omega)
        have hx : ¬ ((cs.length : Int) < (cs.length : Int)) := by omega
        clear hrd HRD hPN hoA hbb
        go_wp2_with (at_builtin; refine wpList_addPR rfl _ _ rfl base (.slice A rs.length cap) rs rfl HOA.out (wr.heap.size + 1) (.slice (some ⟨wr.heap.size, 0, none⟩) 1 1) [⟨v, A', c', PN⟩] rfl HRX.out (by simp only [List.length_cons, List.length_nil]; omega) HZA.out ?_)
        intro A6 c6 w6 ho6 hg6 hn6
        have hov6 := HOV.out
        have hm6 : Mv (fun i => some i = ov ∨ w.heap.size ≤ i) w w6 := (((Mv.of_below HBW.out).alloc (.cells #[.int .i64 v, .slice A' PN.length c'] 69)).mono fun i _ h => .inr h).grown hg6.out fun i _ hi => .inl (by rw [hi]; exact hov6)
        have hm7 : Mv (fun i => some i = ov) wr w6 := ((Mv.refl (fun i => some i = ov) wr).alloc (.cells #[.int .i64 v, .slice A' PN.length c'] 69)).grown hg6.out fun i _ hi => by rw [hi]; exact hov6
        have hsz6 : wr.heap.size + 1 = (wr.alloc (.cells #[.int .i64 v, .slice A' PN.length c'] 69)).heap.size := by simp
        obtain ⟨RS, hRS⟩ : ∃ RS, RS = rs ++ [(⟨v, A', c', PN⟩ : PRow)] := ⟨_, rfl⟩
        have hrsl : rs.length + 1 = RS.length := by rw [hRS]; simp
        have ho7 : OwnPR w6 base (.slice A6 RS.length c6) RS := by
          rw [← hrsl, hRS]; exact ho6.out
        have hn7 : ∀ g, Value.ownBlock (.slice A6 RS.length c6) = some g → ov = some g ∨ wr.heap.size ≤ g := fun g hg => by
          rw [← hrsl] at hg
          rcases hn6.out g hg with k | k
          · exact .inl (hov6 ▸ k)
          · exact .inr (by omega)
        have hrel := H.out.relist (l' := p.l ++ [(v, PN)]) hm6 (show RS.length = RS.length from rfl) ho7 (by rw [hRS, List.map_append, HL.out]; rfl) (fun g hg => by
          rcases hn7 g hg with k | k
          · exact .inl k
          · exact .inr (by omega)) fun x hx => by
          rw [hRS] at hx
          rcases List.mem_append.1 hx with hx | hx
          · exact ((HP.out x hx).mv hm6 (Nat.le_refl _) fun b hb hd => by
              rcases hd with hd | hd
              · exact .inr (.inr hd)
              · omega).mono hm6.size fun b hb hg => by
              rcases hg with hg | hg | hg | hg
              · exact .inl hg
              · exact .inr (.inl hg)
              · exact .inr (.inr hg)
              · rcases hn7 b hg.symm with k | k
                · exact .inr (.inr k.symm)
                · omega
          · rw [List.mem_singleton.1 hx]
            exact (HRN.out.mv hm7 (Nat.le_refl _) fun b hb hd => .inr (.inr hd)).mono hm7.size fun b hb hg => by
              rcases hg with hg | hg | hg | hg
              · exact .inl hg
              · exact .inr (.inl hg)
              · exact .inr (.inr hg)
              · rcases hn7 b hg.symm with k | k
                · exact .inr (.inr k.symm)
                · omega
        have HREL := Lib.hid (hrel.then (RpAt.put2 hrel.now v))
        have hbb := hm6.whole HB.out (fun e => by
          rcases e with e | e
          · exact HO.out.apart HB.out (by decide) (e.trans hov6.symm)
          · omega)
        have d0 := hbb.cell 0 _ rfl
        have d0f := hbb.frozen 0
        have d2 := hbb.cell 2 _ rfl
        have d2f := hbb.frozen 2
        rw [hrsl]
        clear ho6 hg6 hn6 hm6 hm7 hsz6 hRS hrsl ho7 hn7 hrel hbb hov6
        go_wp2_with fail
        go_ret
        rw [HR.out]
        exact ⟨rfl, _, HREL.out⟩
  · rw [if_pos (by simpa using hq0)] at hR
    have HR := Lib.hid hR
    clear hR hq
    go_enter Try.func15, Try.ntmps15
    go_wp2_with fail
    refine HALLC.out.mono ?_
    rintro e w1 ⟨rfl, hb1⟩
    have HB1 := Lib.hid hb1
    clear hb1 HALLC
    go_wp2_with fail
    go_ret
    rw [HR.out]
    exact ⟨rfl, ov, RpWent.of H.out HB1.out⟩
end Go.Proofs.Ytpfhkijnaiopoaa
