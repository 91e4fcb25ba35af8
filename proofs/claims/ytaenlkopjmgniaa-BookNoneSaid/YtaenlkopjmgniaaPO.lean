/- What the program's Open leaves. -/
import Derived.Test.YtaenlkopjmgniaaPB
import Derived.Test.YtaenlkopjmgniaaPRd
import Derived.Test.YtaenlkopjmgniaaPW
namespace Go.Proofs.Ytaenlkopjmgniaa
open Go.RowKit

set_option maxRecDepth 100000 in
/-- a new book over a tape, its records in blocks of its own -/
theorem BkAt.made {w w3 : World} {base p n c m : Nat} {ov ov3 : Option Nat} {t0 t : Tp} {A : Option Addr} {rows : List Row} (h0 : TapeAt w base p ov t0) (hs : w.heap.size ≤ w3.heap.size) (ht : TapeAt w3 base p ov3 t) (hn : n = rows.length)
    (ho : OwnR w3 w.heap.size (.slice A n c) rows) (hh : HoldRs w3 w.heap.size rows) (hf : ∀ r ∈ rows, r.l.length ≤ 140737488351232) (hd : ∀ r ∈ rows, ∀ g, r.v.ownBlock = some g → ov3 ≠ some g) (hov : ∀ g, ov3 = some g → ov = some g ∨ w.heap.size ≤ g) (hm : m = w3.heap.size) :
    ∃ G, BkAt (w3.alloc (.cells #[.pointer (some ⟨p, 0, none⟩), .slice A n c, .bool false] 53)) base m p G ⟨texts rows, false, t⟩ ∧ (∀ i, G i → TapeD p ov i ∨ w.heap.size ≤ i) := by
  subst hm
  have hb := h0.low
  refine ⟨fun i => TapeD p ov i ∨ (w.heap.size ≤ i ∧ i < w3.heap.size + 1), ⟨ov3, A, c, n, rows, Whole.fresh w3 53 [_, _, _], hn, ?_, ?_, rfl, hf, ?_, hd, .inr ⟨hs, Nat.lt_succ_self _⟩, .inl (.inl rfl), ?_, ?_, ?_, ?_, ?_⟩, ?_⟩
  · exact (ho.alloc _).lower hb.2.2
  · exact (hh.mv ((Mv.refl (fun _ => False) w3).alloc _) (fun _ _ _ _ h => h)).lower hb.2.2
  · exact ht.mv ((Mv.refl (fun _ => False) w3).alloc _) (fun h => h) (fun _ _ h => h)
  · intro g hg
    rcases hov g hg with h | h
    · exact .inl (.inr h.symm)
    · exact .inr ⟨h, Nat.lt_succ_of_lt (ht.row hg).2⟩
  · intro g hg
    exact .inr ⟨(ho.low hg).1, Nat.lt_succ_of_lt (ho.low hg).2⟩
  · intro r hr g hg
    exact .inr ⟨((hh r hr).low hg).1, Nat.lt_succ_of_lt ((hh r hr).low hg).2⟩
  · simp; omega
  · rintro i ((rfl | h) | h)
    · exact ⟨hb.1, by simp; omega⟩
    · have := h0.row h.symm
      exact ⟨this.1, by simp; omega⟩
    · exact ⟨by omega, by simpa using h.2⟩
  · rintro i (h | h)
    · exact .inl h
    · exact .inr h.1

set_option maxHeartbeats 8000000 in
set_option maxRecDepth 100000 in
theorem bopen_any (base p : Nat) (ov : Option Nat) (t : Tp) (w : World) (h : TapeAt w base p ov t) (h0 : (Bks.opens t).1 = 0) :
    Calls Try.prog 7 #[.pointer (some ⟨p, 0, none⟩)] w fun e w' => ∃ q G, e = .returned (.tuple #[.pointer (some ⟨q, 0, none⟩), .int .i64 0]) ∧ BkAt w' base q p G (Bks.opens t).2 ∧ (∀ i, G i → TapeD p ov i ∨ w.heap.size ≤ i) ∧ Mv (TapeD p ov) w w' := by
  have hd : t.down = false := by
    cases hd : t.down with
    | false => rfl
    | true => unfold Bks.opens at h0; rw [if_pos hd] at h0; cases h0
  have hby := bytes_any base p ov t w h
  simp only [hd, Bool.false_eq_true, if_false] at hby
  have hok := h.ok
  obtain ⟨L, hL⟩ : ∃ L, L = Bks.all t := ⟨_, rfl⟩
  have hLl : L.length ≤ 2000000 := by
    obtain ⟨k1, k2, k3⟩ := hok
    rw [hL]; unfold Bks.all; rw [List.length_append]; omega
  have hop : Bks.opens t = if (readAns L).2 < L.length then (if (t.repl (L.take (readAns L).2)).1 ≠ 0 then ((t.repl (L.take (readAns L).2)).1, ⟨[], false, (t.repl (L.take (readAns L).2)).2⟩) else (0, ⟨(readAns L).1, false, (t.repl (L.take (readAns L).2)).2⟩)) else (0, ⟨(readAns L).1, false, t⟩) := by
    unfold Bks.opens
    rw [if_neg (by rw [hd]; decide), hL]
  rw [show t.sure ++ t.loose = L from hL.symm] at hby
  rw [hop] at h0
  obtain ⟨OP, hOP⟩ : ∃ OP, OP = Bks.opens t := ⟨_, rfl⟩
  rw [← hOP]
  rw [hop] at hOP
  have hfit := (read_take L).1
  have hle : (readAns L).2 ≤ L.length := by
    obtain ⟨_, h2, s, h3, _⟩ := read_take L
    have := congrArg List.length h3
    rw [List.length_append] at this
    omega
  have H := Lib.hid h
  have HBY := Lib.hid hby
  clear hby hok hL hop h hd
  obtain ⟨RL, hRL⟩ : ∃ RL, RL = (readAns L).1 := ⟨_, rfl⟩
  obtain ⟨u, hu⟩ : ∃ u, u = (readAns L).2 := ⟨_, rfl⟩
  rw [← hRL, ← hu] at h0 hOP
  rw [← hRL] at hfit
  rw [← hu] at hle
  have HRL := Lib.hid hRL
  have HU := Lib.hid hu
  have HFIT := Lib.hid hfit
  have H0 := Lib.hid h0
  have HOP := Lib.hid hOP
  clear hRL hu hfit h0 hOP
  go_enter Try.func7, Try.ntmps7
  go_wp2_with fail
  refine HBY.out.mono ?_
  rintro e w1 ⟨A, c, rfl, ho1, hb1⟩
  have HO1 := Lib.hid (HoldB.ofOwn ho1)
  have HP := Lib.hid (pread_any L A c w1 ho1.rdB hLl)
  have HB1 := Lib.hid hb1
  have hbs1 := hb1.size
  have hcl : L.length ≤ c := by
    obtain ⟨A0, c0, e, h, _⟩ := ho1.rdB
    injection e with _ _ e
    rw [e]; exact h
  clear ho1 hb1 HBY
  go_wp2_with fail
  refine HP.out.mono ?_
  rintro e w2 ⟨A', c', n, rfl, rows, hn, ho2, hh2, ht2, hb2⟩
  rw [← HU.out]
  rw [← HRL.out] at ht2
  have HO2 := Lib.hid (ho2.lower hbs1)
  have HH2 := Lib.hid (hh2.lower hbs1)
  have HB2 := Lib.hid (HB1.out.trans (hb2.mono hbs1))
  have HO12 := Lib.hid (HO1.out.below hb2 (Nat.le_refl _))
  have HT2 := Lib.hid ht2
  have HN := Lib.hid hn
  have hbs2 := HB2.out.size
  have htp : TapeAt w2 base p ov t := H.out.mv (Mv.of_new HB2.out (fun _ => False)) (fun h => h) (fun _ _ h => h)
  have HTP := Lib.hid htp
  have hlen : ∀ r ∈ rows, r.l.length ≤ 140737488351232 := by
    intro r hr
    have := HFIT.out r.l (by rw [← HT2.out]; exact List.mem_map.2 ⟨r, hr, rfl⟩)
    unfold fitR at this
    omega
  have HLEN := Lib.hid hlen
  clear ho2 hh2 hb2 ht2 hn htp HP hlen
  by_cases hlt : u < L.length
  · have hlt2 : (u : Int) < (L.length : Int) := by omega
    have h0 := H0.out
    have hop := HOP.out
    rw [if_pos hlt] at h0 hop
    have hr0 : (t.repl (L.take u)).1 = 0 := by
      by_cases h : (t.repl (L.take u)).1 = 0
      · exact h
      · rw [if_pos h] at h0; exact absurd h0 h
    rw [if_neg (by rw [hr0]; decide)] at hop
    have HOP2 := Lib.hid hop; clear hop
    have hrep := repl_any base p ov t (.slice A u c) (L.take u) w2 HTP.out (fun wx hmx => by
      have hx := HO12.out.mv hmx (fun g hg hd => by
        have h1 := (HO12.out.low hg).1
        rcases hd with hd | hd
        · have := H.out.low; omega
        · have := (H.out.row hd.symm).2; omega)
      exact Rd.take (k := 1) hx.rdB u hle) (by simp; omega)
    rw [hr0] at hrep
    have HREP := Lib.hid hrep
    have huc : (u : Int) ≤ (c : Int) := by omega
    clear hrep hr0 h0
    go_wp2_with fail
    refine HREP.out.mono ?_
    rintro e w3 ⟨rfl, ov3, hnow, hmv, hnew⟩
    have hbs3 := hmv.size
    have hDr : ∀ g, w.heap.size ≤ g → ¬ TapeD p ov g := by
      rintro g hg (hd | hd)
      · have := H.out.low; omega
      · have := (H.out.row hd.symm).2; omega
    have HMV := Lib.hid hmv
    have HNEW := Lib.hid hnew
    have HNOW := Lib.hid hnow
    have HD := Lib.hid hDr
    clear hnow hmv hnew hDr HREP
    go_wp2_with fail
    go_ret2
    obtain ⟨G, hG1, hG2⟩ := BkAt.made (m := w3.heap.size) H.out (Nat.le_trans hbs2 hbs3) HNOW.out HN.out (OwnR.mv HO2.out HMV.out (fun g hg => HD.out g (HO2.out.low hg).1)) (HH2.out.mv HMV.out (fun r hr g hg => HD.out g ((HH2.out r hr).low hg).1)) HLEN.out
      (fun r hr g hg => HNEW.out.out ((HH2.out r hr).low hg).2 (fun e => by have := (H.out.row e).2; have := ((HH2.out r hr).low hg).1; omega)) (fun g hg => by rcases HNEW.out g hg with h | h; exact .inl h; exact .inr (Nat.le_trans hbs2 h)) rfl
    refine ⟨w3.heap.size, G, rfl, ?_, hG2, ((Mv.of_new HB2.out _).trans HMV.out (fun _ _ h => h)).alloc _⟩
    rw [HOP2.out, ← HT2.out]
    exact hG1
  · have hlt2 : ¬ (u : Int) < (L.length : Int) := by omega
    have hop := HOP.out
    rw [if_neg hlt] at hop
    have HOP2 := Lib.hid hop; clear hop
    go_wp2_with fail
    go_ret2
    obtain ⟨G, hG1, hG2⟩ := BkAt.made (m := w2.heap.size) H.out hbs2 HTP.out HN.out HO2.out HH2.out HLEN.out (fun r hr g hg e => by have := (H.out.row e).2; have := ((HH2.out r hr).low hg).1; omega) (fun g hg => .inl hg) rfl
    refine ⟨w2.heap.size, G, rfl, ?_, hG2, (Mv.of_new HB2.out _).alloc _⟩
    rw [HOP2.out, ← HT2.out]
    exact hG1

set_option maxHeartbeats 1000000 in
set_option maxRecDepth 100000 in
theorem nbytes (w : World) : Calls Try.prog 20 #[.pointer none] w fun e w' => e = .returned (.tuple #[.slice none 0 0, .int .i64 1]) ∧ w' = w := by
  go_enter Try.func20, Try.ntmps20
  go_wp2_with fail
  go_ret2
  exact ⟨rfl, rfl⟩
set_option maxHeartbeats 1000000 in
set_option maxRecDepth 100000 in
theorem bnone_open (w : World) : Calls Try.prog 7 #[.pointer none] w fun e w' => e = .returned (.tuple #[.pointer none, .int .i64 1]) ∧ Below w.heap.size w w' := by
  have HN := Lib.hid (nbytes w)
  go_enter Try.func7, Try.ntmps7
  go_wp2_with fail
  refine HN.out.mono ?_
  rintro e w1 ⟨rfl, rfl⟩
  go_wp2_with fail
  go_ret2
  exact ⟨rfl, Below.refl _ _⟩
end Go.Proofs.Ytaenlkopjmgniaa
