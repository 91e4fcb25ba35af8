/- The program's bag: Send and Twin. -/
import Derived.Test.YtjkhdlmdgdcimaaGAL
import Derived.Test.YtjkhdlmdgdcimaaGAF
namespace Go.Proofs.Ytjkhdlmdgdcimaa
open Go.RowKit Go.Conc

theorem lay_any (base q : Nat) (I : Bi) (b : Bg) (x : Ltr) (w : World) (h : BagIs w base q I b) (hx : x.text.length ≤ 131072) :
    Calls Try.prog 21 #[.pointer (some ⟨q, 0, none⟩), lval x] w fun e w' => e = .returned (.int .i64 (b.put x).1) ∧ ∃ I', BagIs w' base q I' (b.put x).2 ∧ (∀ i, BagG q I' i → BagG q I i ∨ w.heap.size ≤ i) ∧ Mv (BagG q I) w w' := by
  have hl := h.len
  have ha := h.all.all
  cases hf : I.fr with
  | nil =>
    rw [hf] at ha
    have hp : b.put x = (10, b) := by unfold Bg.put; rw [if_pos (by simp at ha; omega)]
    rw [hp]
    refine (lay_full base q I b x w h hf).mono ?_
    rintro e w' ⟨he, hb⟩
    exact ⟨he, I, h.mv (Mv.of_new hb (fun _ => False)) (fun _ _ h => h), fun i hi => .inl hi, Mv.of_new hb _⟩
  | cons p fr =>
    rw [hf] at ha
    have hp : b.put x = (0, ⟨b.room, b.l ++ [x]⟩) := by unfold Bg.put; rw [if_neg (by simp at ha; omega)]
    rw [hp]
    exact lay_ok base q I b x w p fr h hf hx

set_option maxHeartbeats 4000000 in
set_option maxRecDepth 100000 in
theorem send_is (base q : Nat) (I : Bi) (b : Bg) (to : Int) (t : List UInt8) (v : Value) (w : World) (h : BagIs w base q I b) (hv : RdB w w.heap.size v t) (ht : t.length ≤ 140737488351232) :
    Calls Try.prog 10 #[.pointer (some ⟨q, 0, none⟩), .int .i64 to, v] w fun e w' => e = .returned (.int .i64 (b.send to t).1) ∧ ∃ I', BagIs w' base q I' (b.send to t).2 ∧ (∀ i, BagG q I' i → BagG q I i ∨ w.heap.size ≤ i) ∧ Mv (BagG q I) w w' := by
  obtain ⟨R, hR⟩ : ∃ R, R = b.send to t := ⟨_, rfl⟩
  rw [← hR]
  unfold Bg.send at hR
  have same : ∀ n : Int, R = (n, b) → ∃ I', BagIs w base q I' R.2 ∧ (∀ i, BagG q I' i → BagG q I i ∨ w.heap.size ≤ i) ∧ Mv (BagG q I) w w := fun n hn => by
    rw [hn]
    exact ⟨I, h, fun i hi => .inl hi, Mv.refl _ _⟩
  have HSAME := Lib.hid same; clear same
  by_cases h0 : to < 0
  · rw [if_pos (.inl h0)] at hR
    have HR := Lib.hid hR
    clear hR h hv
    go_enter Try.func10, Try.ntmps10
    go_wp2_with fail
    go_ret
    exact ⟨by rw [HR.out]; rfl, HSAME.out _ HR.out⟩
  · by_cases h1 : 255 < to
    · rw [if_pos (.inr h1)] at hR
      have HR := Lib.hid hR
      clear hR h hv
      go_enter Try.func10, Try.ntmps10
      go_wp2_with fail
      go_ret
      exact ⟨by rw [HR.out]; rfl, HSAME.out _ HR.out⟩
    · rw [if_neg (by omega)] at hR
      obtain ⟨A, c, hve, hc, hcc⟩ := hv.at
      clear hcc
      by_cases h2 : 131072 < t.length
      · rw [if_pos h2] at hR
        have HR := Lib.hid hR
        subst hve
        clear hv
        generalize t.length = n at *
        have h3 : (131072 : Int) < (n : Int) := by omega
        clear hR h
        go_enter Try.func10, Try.ntmps10
        go_wp2_with fail
        go_ret
        exact ⟨by rw [HR.out]; rfl, HSAME.out _ HR.out⟩
      · rw [if_neg h2] at hR
        have hlay := lay_any base q I b ⟨to, t, false⟩ w h (by simp only; omega)
        have hput : b.put ⟨to, t, false⟩ = R := by rw [hR]; rfl
        rw [hput] at hlay
        have hk := run_convB hv
        subst hve
        have HL := Lib.hid (show Calls Try.prog 21 #[.pointer (some ⟨q, 0, none⟩), .agg #[.int .i64 to, .string (strB t), .bool false]] w _ from hlay)
        have HK := Lib.hid hk
        clear hv hk hlay hput hR
        generalize strB t = S at HL HK
        generalize t.length = n at *
        have h3 : ¬ (131072 : Int) < (n : Int) := by omega
        clear h HSAME
        go_enter Try.func10, Try.ntmps10
        go_wp2_with fail
        rw [HK.out]
        go_wp2_with fail
        refine HL.out.mono ?_
        rintro e w1 ⟨rfl, hI⟩
        have HI := Lib.hid hI
        clear hI
        go_wp2_with fail
        go_ret
        exact ⟨rfl, HI.out⟩
theorem bsend_any (base q : Nat) (G : Nat → Prop) (b : Bg) (to : Int) (t : List UInt8) (v : Value) (w : World) (h : BagAt w base q G b) (hv : RdBG w w.heap.size G v t) (ht : t.length ≤ 140737488351232) :
    Calls Try.prog 10 #[.pointer (some ⟨q, 0, none⟩), .int .i64 to, v] w fun e w' => e = .returned (.int .i64 (b.send to t).1) ∧ ∃ G', BagAt w' base q G' (b.send to t).2 ∧ (∀ i, G' i → G i ∨ w.heap.size ≤ i) ∧ Mv G w w' := by
  obtain ⟨I, h, hG⟩ := h
  refine (send_is base q I b to t v w h hv.rdB ht).mono ?_
  rintro e w' ⟨he, I', h', hn, hm⟩
  exact ⟨he, BagG q I', ⟨I', h', fun _ => Iff.rfl⟩, fun i hi => (hn i hi).imp (hG i).2 id, hm.mono (fun i _ hi => (hG i).2 hi)⟩

set_option maxHeartbeats 4000000 in
set_option maxRecDepth 100000 in
theorem twin_is (base q : Nat) (I : Bi) (b : Bg) (i : Int) (w : World) (h : BagIs w base q I b) :
    Calls Try.prog 16 #[.pointer (some ⟨q, 0, none⟩), .int .i64 i] w fun e w' => e = .returned (.int .i64 (b.twin i).1) ∧ ∃ I', BagIs w' base q I' (b.twin i).2 ∧ (∀ i, BagG q I' i → BagG q I i ∨ w.heap.size ≤ i) ∧ Mv (BagG q I) w w' := by
  obtain ⟨R, hR⟩ : ∃ R, R = b.twin i := ⟨_, rfl⟩
  rw [← hR]
  unfold Bg.twin at hR
  by_cases hi : b.has i
  · rw [if_neg (by simpa using hi)] at hR
    obtain ⟨h0, h1⟩ := id hi
    obtain ⟨k, rfl⟩ : ∃ k : Nat, i = (k : Int) := ⟨i.toNat, by omega⟩
    have hk : k < I.ord.length := by have := h.len; omega
    obtain ⟨hb, hx⟩ := h.at hk
    have hp := h.all.at hk
    rw [← h.mlen] at hp
    have hr : b.look (k : Int) = (b.l[k], 0) := by rw [Bg.look_at hi]; simp
    have ht := h.ok.look (k : Int)
    have hput : b.put b.l[k] = R := by rw [hR, hr]; rfl
    rw [hr] at ht
    rw [← hx] at hput ht
    have hfind := find_ok base q I b k w h hk
    obtain ⟨p, hpe⟩ : ∃ p, p = I.ord[k] := ⟨_, rfl⟩
    simp only [← hpe] at hfind hp hput ht
    have hcell := h.letter hp
    have hgl : I.gp < w.heap.size := (h.low (.inr (.inr (.inl rfl)))).2
    generalize I.ms[p] = x at hcell ht hput
    have q0 : w.cell? ⟨I.gp, p * 3, none⟩ = _ := hcell 0 _ rfl
    have q1 := hcell 1 _ rfl
    have q2 := hcell 2 _ rfl
    have hlay := fun w' h' => lay_any base q I b x w' h' ht
    rw [hput] at hlay
    obtain ⟨to, tx, sp⟩ := x
    have HLAY := Lib.hid hlay
    simp only at q0 q1 q2
    obtain ⟨S, hS⟩ : ∃ S, S = strB tx := ⟨_, rfl⟩
    rw [← hS] at q1
    have HS := Lib.hid hS
    have HF := Lib.hid hfind
    have HH := Lib.hid h
    clear hfind hcell hpe hr hx ht hi h0 h1 h hlay hput hR hS
    go_enter Try.func16, Try.ntmps16
    go_wp2_with fail
    refine HF.out.mono ?_
    rintro e w1 ⟨rfl, hb1⟩
    have z0 : w1.cell? ⟨I.gp, p * 3, none⟩ = some (.int .i64 to) := (hb1.cell (p := ⟨I.gp, p * 3, none⟩) hgl).trans q0
    have z1 : w1.cell? ⟨I.gp, p * 3 + 1, none⟩ = some (.string S) := (hb1.cell (p := ⟨I.gp, p * 3 + 1, none⟩) hgl).trans q1
    have z2 : w1.cell? ⟨I.gp, p * 3 + 2, none⟩ = some (.bool sp) := (hb1.cell (p := ⟨I.gp, p * 3 + 2, none⟩) hgl).trans q2
    have hl1 := HLAY.out w1 (HH.out.mv (Mv.of_new hb1 (fun _ => False)) (fun _ _ h => h))
    have HL1 := Lib.hid (show Calls Try.prog 21 #[.pointer (some ⟨q, 0, none⟩), .agg #[.int .i64 to, .string (strB tx), .bool sp]] w1 _ from hl1)
    rw [← HS.out] at HL1
    have HB1 := Lib.hid hb1
    clear hb1 q0 q1 q2 HF hl1
    go_wp2_with fail
    refine HL1.out.mono ?_
    rintro e w2 ⟨rfl, I', h', hn, hm⟩
    have HI := Lib.hid h'
    have HN := Lib.hid hn
    have HM := Lib.hid hm
    clear h' hn hm
    go_wp2_with fail
    go_ret
    refine ⟨rfl, I', HI.out, fun i hi => (HN.out i hi).imp id (fun h => Nat.le_trans HB1.out.size h), (Mv.of_new HB1.out (BagG q I)).trans HM.out (fun _ _ h => h)⟩
  · rw [if_pos hi] at hR
    have hfind := find_no base q I b i w h hi
    have HF := Lib.hid hfind
    have HR := Lib.hid hR
    have HH := Lib.hid h
    clear hfind hi h hR
    go_enter Try.func16, Try.ntmps16
    go_wp2_with fail
    refine HF.out.mono ?_
    rintro e w1 ⟨rfl, hb1⟩
    have HB1 := Lib.hid hb1
    clear hb1 HF
    go_wp2_with fail
    go_ret
    rw [HR.out]
    exact ⟨rfl, I, HH.out.mv (Mv.of_new HB1.out (fun _ => False)) (fun _ _ h => h), fun i hi => .inl hi, Mv.of_new HB1.out _⟩
theorem btwin_any (base q : Nat) (G : Nat → Prop) (b : Bg) (i : Int) (w : World) (h : BagAt w base q G b) :
    Calls Try.prog 16 #[.pointer (some ⟨q, 0, none⟩), .int .i64 i] w fun e w' => e = .returned (.int .i64 (b.twin i).1) ∧ ∃ G', BagAt w' base q G' (b.twin i).2 ∧ (∀ i, G' i → G i ∨ w.heap.size ≤ i) ∧ Mv G w w' := by
  obtain ⟨I, h, hG⟩ := h
  refine (twin_is base q I b i w h).mono ?_
  rintro e w' ⟨he, I', h', hn, hm⟩
  exact ⟨he, BagG q I', ⟨I', h', fun _ => Iff.rfl⟩, fun i hi => (hn i hi).imp (hG i).2 id, hm.mono (fun i _ hi => (hG i).2 hi)⟩
end Go.Proofs.Ytjkhdlmdgdcimaa
