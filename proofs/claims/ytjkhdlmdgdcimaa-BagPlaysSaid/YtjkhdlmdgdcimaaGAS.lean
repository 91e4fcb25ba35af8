/- The program's bag: Spoil. -/
import Derived.Test.YtjkhdlmdgdcimaaGAL
import Derived.Test.YtjkhdlmdgdcimaaGAF
import Derived.Test.YtjkhdlmdgdcimaaBgX
namespace Go.Proofs.Ytjkhdlmdgdcimaa
open Go.RowKit Go.Conc

set_option maxHeartbeats 8000000 in
set_option maxRecDepth 100000 in
theorem spoil_is (base q : Nat) (I : Bi) (b : Bg) (i at_ : Int) (turn : UInt8) (w : World) (h : BagIs w base q I b) :
    Calls Try.prog 18 #[.pointer (some ⟨q, 0, none⟩), .int .i64 i, .int .i64 at_, .int .u8 (turn.toNat : Int)] w fun e w' => e = .returned (.int .i64 (b.spoil i at_ turn).1) ∧ ∃ I', BagIs w' base q I' (b.spoil i at_ turn).2 ∧ (∀ i, BagG q I' i → BagG q I i ∨ w.heap.size ≤ i) ∧ Mv (BagG q I) w w' := by
  obtain ⟨R, hR⟩ : ∃ R, R = b.spoil i at_ turn := ⟨_, rfl⟩
  rw [← hR]
  unfold Bg.spoil at hR
  have same : ∀ (n : Int) (w1 : World), R = (n, b) → Below w.heap.size w w1 → ∃ I', BagIs w1 base q I' R.2 ∧ (∀ i, BagG q I' i → BagG q I i ∨ w.heap.size ≤ i) ∧ Mv (BagG q I) w w1 := fun n w1 hn hb => by
    rw [hn]
    exact ⟨I, h.mv (Mv.of_new hb (fun _ => False)) (fun _ _ h => h), fun i hi => .inl hi, Mv.of_new hb _⟩
  have HSAME := Lib.hid same; clear same
  by_cases hi : b.has i
  · rw [if_neg (by simpa using hi)] at hR
    obtain ⟨h0, h1⟩ := id hi
    obtain ⟨k, rfl⟩ : ∃ k : Nat, i = (k : Int) := ⟨i.toNat, by omega⟩
    have hk : k < I.ord.length := by have := h.len; omega
    obtain ⟨hb, hx⟩ := h.at hk
    have hp := h.all.at hk
    rw [← h.mlen] at hp
    have hr : b.look (k : Int) = (b.l[k], 0) := by rw [Bg.look_at hi]; simp
    have ht := h.ok.look (k : Int)
    rw [hr] at hR ht
    simp only [Int.toNat_natCast] at hR
    rw [← hx] at hR ht
    have hset := fun x => lie_turn h.all.nodup hk x hp
    rw [← h.list] at hset
    have hfind := find_ok base q I b k w h hk
    obtain ⟨p, hpe⟩ : ∃ p, p = I.ord[k] := ⟨_, rfl⟩
    simp only [← hpe] at hfind hp hR ht hset
    have hcell := h.letter hp
    have hgl : I.gp < w.heap.size := (h.low (.inr (.inr (.inl rfl)))).2
    obtain ⟨x, hxe⟩ : ∃ x, x = I.ms[p] := ⟨_, rfl⟩
    rw [← hxe] at hcell ht hR
    obtain ⟨to, tx, sp⟩ := x
    have q1 := hcell 1 _ rfl
    have q2 : w.cell? ⟨I.gp, p * 3 + 2, none⟩ = some (.bool sp) := hcell 2 _ rfl
    simp only at ht hR
    obtain ⟨S, hS⟩ : ∃ S, S = strB tx := ⟨_, rfl⟩
    have hsz : S.size = tx.length := by rw [hS]; simp [strB, ByteArray.size]
    rw [← hS] at q1
    have HS := Lib.hid hS
    have HF := Lib.hid hfind
    have HH := Lib.hid h
    have HX := Lib.hid hxe
    have HSET := Lib.hid hset
    have HT := Lib.hid ht
    clear hfind hcell hpe hr hx ht hi h0 h1 h hS hxe hset hk hb
    have main : ∀ w1, Below w.heap.size w w1 → w1.cell? ⟨I.gp, p * 3 + 1, none⟩ = some (.string S) ∧ w1.cell? ⟨I.gp, p * 3 + 2, none⟩ = some (.bool sp) := fun w1 hb1 =>
      ⟨(hb1.cell (p := ⟨I.gp, p * 3 + 1, none⟩) hgl).trans q1, (hb1.cell (p := ⟨I.gp, p * 3 + 2, none⟩) hgl).trans q2⟩
    have HMAIN := Lib.hid main
    clear main q1 q2
    by_cases hat : at_ < 0 ∨ (tx.length : Int) ≤ at_
    · rw [if_pos hat] at hR
      have HR := Lib.hid hR; clear hR
      by_cases g0 : at_ < 0
      · clear hat
        go_enter Try.func18, Try.ntmps18
        go_wp2_with fail
        refine HF.out.mono ?_
        rintro e w1 ⟨rfl, hb1⟩
        obtain ⟨z1, z2⟩ := HMAIN.out w1 hb1
        have HB1 := Lib.hid hb1
        clear hb1
        go_wp2_with fail
        go_ret
        exact ⟨by rw [HR.out]; rfl, HSAME.out _ _ HR.out HB1.out⟩
      · have g1 : (tx.length : Int) ≤ at_ := by omega
        clear hat
        rw [← hsz] at g1
        go_enter Try.func18, Try.ntmps18
        go_wp2_with fail
        refine HF.out.mono ?_
        rintro e w1 ⟨rfl, hb1⟩
        obtain ⟨z1, z2⟩ := HMAIN.out w1 hb1
        have HB1 := Lib.hid hb1
        clear hb1
        go_wp2_with fail
        go_ret
        exact ⟨by rw [HR.out]; rfl, HSAME.out _ _ HR.out HB1.out⟩
    · rw [if_neg hat] at hR
      have g0 : ¬ at_ < 0 := by omega
      have g1 : ¬ (tx.length : Int) ≤ at_ := by omega
      obtain ⟨j, rfl⟩ : ∃ j : Nat, at_ = (j : Int) := ⟨at_.toNat, by omega⟩
      have hj : j < tx.length := by omega
      rw [Int.toNat_natCast] at hR
      have g2 : (j : Int) < (tx.length : Int) := by omega
      clear hat
      cases sp with
      | true =>
        rw [if_pos rfl] at hR
        have HR := Lib.hid hR; clear hR
        rw [← hsz] at g1
        go_enter Try.func18, Try.ntmps18
        go_wp2_with fail
        refine HF.out.mono ?_
        rintro e w1 ⟨rfl, hb1⟩
        obtain ⟨z1, z2⟩ := HMAIN.out w1 hb1
        have HB1 := Lib.hid hb1
        clear hb1
        go_wp2_with fail
        go_ret
        exact ⟨by rw [HR.out]; rfl, HSAME.out _ _ HR.out HB1.out⟩
      | false =>
        rw [if_neg (by simp)] at hR
        have HR := Lib.hid hR; clear hR
        have g1' : ¬ (S.size : Int) ≤ (j : Int) := by omega
        clear g1
        have HSZ := Lib.hid hsz; clear hsz
        go_enter Try.func18, Try.ntmps18
        go_wp2_with fail
        refine HF.out.mono ?_
        rintro e w1 ⟨rfl, hb1⟩
        obtain ⟨z1, z2⟩ := HMAIN.out w1 hb1
        obtain ⟨cv, w3, hkc, hrow, hB3, hz3, hfr⟩ := conv_row w1 tx
        rw [← HS.out] at hkc
        have q0 : w3.cell? ⟨w1.heap.size, j, none⟩ = some (.int .u8 (tx[j].toNat : Int)) := by
          obtain ⟨A0, c0, e, hc, hcell⟩ := hrow.at
          injection e with e1 e2 e3
          subst e1 e3
          obtain ⟨bb, o, hA, _, h1⟩ := hcell j hj
          injection hA with hA
          injection hA with e4 e5 _
          subst e4 e5
          simpa using h1
        have q0f := hfr j hj
        have hx8 := xor8u tx[j] turn
        obtain ⟨y, hy⟩ : ∃ y, y = tx[j] ^^^ turn := ⟨_, rfl⟩
        rw [← hy] at hx8
        have hput := hrow.put hj y
        have hb3 : Below w.heap.size w w3 := hb1.trans (hB3.mono hb1.size)
        have HROW := Lib.hid hput
        have HB3 := Lib.hid hb3
        have HY := Lib.hid hy
        have HB1 := Lib.hid hb1
        have HZ3 := Lib.hid hz3
        clear hb1 hput hrow hB3 hz3 hfr hb3 hy
        go_wp2_with fail
        obtain ⟨w4, hw4⟩ : ∃ w4, w4 = w3.setCell ⟨w1.heap.size, j, none⟩ (.int .u8 (y.toNat : Int)) := ⟨_, rfl⟩
        rw [← hw4] at HROW ⊢
        have hcv := run_convB HROW.out
        obtain ⟨S2, hS2⟩ : ∃ S2, S2 = strB (tx.set j y) := ⟨_, rfl⟩
        rw [← hS2] at hcv
        rw [hcv]
        have hb4 : Below w.heap.size w w4 := by
          rw [hw4]
          have h1 : Mv (fun i => i = w1.heap.size) w (w3.setCell ⟨w1.heap.size, j, none⟩ (.int .u8 (y.toNat : Int))) := (Mv.of_new HB3.out (fun i => i = w1.heap.size)).setCell (p := ⟨w1.heap.size, j, none⟩) (fun _ => rfl) _
          exact h1.below (Nat.le_refl _) (fun i e => by rw [e]; exact HB1.out.size)
        have hh4 := HH.out.mv (Mv.of_new hb4 (fun _ => False)) (fun _ _ h => h)
        have p1 : w4.cell? ⟨I.gp, p * 3 + 1, none⟩ = some (.string S) := (hb4.cell (p := ⟨I.gp, p * 3 + 1, none⟩) hgl).trans (HMAIN.out w (Below.refl _ _)).1
        have p2 : w4.cell? ⟨I.gp, p * 3 + 2, none⟩ = some (.bool false) := (hb4.cell (p := ⟨I.gp, p * 3 + 2, none⟩) hgl).trans (HMAIN.out w (Below.refl _ _)).2
        have f1 := hh4.msgs.stand (p * 3 + 1)
        have f2 := hh4.msgs.stand (p * 3 + 2)
        have HH4 := Lib.hid hh4
        have HB4 := Lib.hid hb4
        have HS2 := Lib.hid hS2
        clear hw4 hcv hS2 hb4 hh4 z1 z2 hkc q0 q0f hx8
        go_wp2_with fail
        go_ret
        have hd : ((turn.toNat : Int) != 0) = decide (turn ≠ 0) := by
          by_cases ht : turn = 0
          · subst ht; rfl
          · have : turn.toNat ≠ 0 := fun h => ht (UInt8.toNat_inj.1 h)
            simp [ht, this]
        rw [hd]
        obtain ⟨sp2, hsp2⟩ : ∃ sp2, sp2 = decide (turn ≠ 0) := ⟨_, rfl⟩
        rw [← hsp2]
        obtain ⟨w5, hw5⟩ : ∃ w5, w5 = (w4.setCell ⟨I.gp, p * 3 + 1, none⟩ (.string S2)).setCell ⟨I.gp, p * 3 + 2, none⟩ (.bool sp2) := ⟨_, rfl⟩
        rw [← hw5]
        have hm5 : Mv (fun i => i = I.gp) w4 w5 := by
          rw [hw5]
          exact ((Mv.refl (fun i => i = I.gp) w4).setCell (p := ⟨I.gp, p * 3 + 1, none⟩) (fun _ => rfl) _).setCell (p := ⟨I.gp, p * 3 + 2, none⟩) (fun _ => rfl) _
        have hg5 : OwnM w5 base (.slice (some ⟨I.gp, 0, none⟩) b.room b.room) (I.ms.set p ⟨to, tx.set j y, sp2⟩) := by
          have h1 := Own.setAt encL_len HH4.out.msgs p 1 (.string S2) ⟨to, tx.set j y, false⟩ hp (by decide) (by rw [← HX.out, HS2.out]; rfl)
          have h2 := Own.setAt encL_len h1 p 2 (.bool sp2) ⟨to, tx.set j y, sp2⟩ (by simpa using hp) (by decide) (by rw [List.getElem_set_self]; rfl)
          rw [List.set_set] at h2
          rw [hw5]
          exact h2
        have hl5 : R = (0, ⟨b.room, b.l.set k ⟨to, tx.set j y, sp2⟩⟩) := by
          rw [HR.out, hsp2, HY.out]
          simp only [Bg.xorAt, List.getElem?_eq_getElem hj, Option.getD_some]
        rw [hl5]
        have hmA : Mv (BagG q I) w w5 := (Mv.of_new HB4.out (BagG q I)).trans hm5 (fun i _ e => .inr (.inr (.inl e)))
        refine ⟨rfl, { I with ms := I.ms.set p ⟨to, tx.set j y, sp2⟩ }, ⟨hm5.whole HH4.out.whole HH4.out.qg, (hm5.block I.ch (chan_lt HH4.out.chan) HH4.out.cg).trans HH4.out.chan, hg5, HH4.out.ord.mvG hm5 (fun g hg e => HH4.out.go hg e), ?_, HH4.out.qlow, HH4.out.clow, Nat.le_trans HH4.out.size hm5.size, ?_, HH4.out.all, ?_⟩, fun i hi => .inl hi, hmA⟩
        · obtain ⟨k1, k2, k3⟩ := HH.out.ok
          refine ⟨k1, by simpa using k2, fun z hz => ?_⟩
          rcases List.mem_or_eq_of_mem_set hz with hz | hz
          · exact k3 z hz
          · rw [hz]; simpa using HT.out
        · show (I.ms.set p _).length = b.room
          rw [List.length_set]; exact HH4.out.mlen
        · exact (HSET.out _).symm
  · rw [if_pos hi] at hR
    have hfind := find_no base q I b i w h hi
    have HF := Lib.hid hfind
    have HR := Lib.hid hR
    clear hfind hi h hR
    go_enter Try.func18, Try.ntmps18
    go_wp2_with fail
    refine HF.out.mono ?_
    rintro e w1 ⟨rfl, hb1⟩
    have HB1 := Lib.hid hb1
    clear hb1 HF
    go_wp2_with fail
    go_ret
    exact ⟨by rw [HR.out]; rfl, HSAME.out _ _ HR.out HB1.out⟩
theorem bspoil_any (base q : Nat) (G : Nat → Prop) (b : Bg) (i at_ : Int) (turn : UInt8) (w : World) (h : BagAt w base q G b) :
    Calls Try.prog 18 #[.pointer (some ⟨q, 0, none⟩), .int .i64 i, .int .i64 at_, .int .u8 (turn.toNat : Int)] w fun e w' => e = .returned (.int .i64 (b.spoil i at_ turn).1) ∧ ∃ G', BagAt w' base q G' (b.spoil i at_ turn).2 ∧ (∀ i, G' i → G i ∨ w.heap.size ≤ i) ∧ Mv G w w' := by
  obtain ⟨I, h, hG⟩ := h
  refine (spoil_is base q I b i at_ turn w h).mono ?_
  rintro e w' ⟨he, I', h', hn, hm⟩
  exact ⟨he, BagG q I', ⟨I', h', fun _ => Iff.rfl⟩, fun i hi => (hn i hi).imp (hG i).2 id, hm.mono (fun i _ hi => (hG i).2 hi)⟩
end Go.Proofs.Ytjkhdlmdgdcimaa
