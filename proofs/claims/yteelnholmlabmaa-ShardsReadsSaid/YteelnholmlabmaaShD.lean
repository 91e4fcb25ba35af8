/- What the program's Carve answers. -/
import Derived.Test.YteelnholmlabmaaShC
import Derived.Test.YteelnholmlabmaaTr
import Derived.Test.YteelnholmlabmaaPTx
import Derived.Test.YteelnholmlabmaaMid
namespace Go.Proofs.Yteelnholmlabmaa
open Go.RowKit
attribute [local go_sem] less_eq same_eq le_eq ge_eq gt_eq

theorem meet_comm (a b : K × K) : meet a b = meet b a := by
  have e1 : mx a.1 b.1 = mx b.1 a.1 := by
    have h1 := mx_cases a.1 b.1
    have h2 := mx_cases b.1 a.1
    grind
  have e2 : mn a.2 b.2 = mn b.2 a.2 := by
    have h1 := mn_cases a.2 b.2
    have h2 := mn_cases b.2 a.2
    grind
  unfold meet
  rw [e1, e2]

set_option maxHeartbeats 2000000 in
set_option maxRecDepth 100000 in
theorem psoundTx_any (t : Txn) (hft : fitT t) (hrd : t.read < 9223372036854775808) (v1 v2 : Value) (w : World) (hv1 : RdP w w.heap.size v1 t.reads) (hv2 : RdC w w.heap.size v2 t.chgs) :
    Calls Try.prog 33 #[tval t v1 v2] w fun e w' => e = .returned (.bool (decide (soundT t))) ∧ Below w.heap.size w w' := by
  have hb1 : Below w.heap.size w (w.alloc (.cells #[.int .i64 t.read, v1, v2] 45)) := (Below.refl _ _).alloc (Nat.le_refl _) _
  have HB1 := Lib.hid hb1
  by_cases hs : soundT t
  · rw [decide_eq_true hs]
    have HP := Lib.hid (pputT_ok t hs hrd hft v1 v2 _ (hv1.next hb1) (hv2.next hb1))
    obtain ⟨A1, c1, rfl, _⟩ := hv1.at
    obtain ⟨A2, c2, rfl, _⟩ := hv2.at
    clear hv1 hv2 hs hb1
    unfold tval at HP ⊢
    go_enter Try.func33, Try.ntmps33
    go_wp2_with fail
    refine HP.out.mono ?_
    rintro e w2 ⟨v', rfl, _, hb2⟩
    have HB2 := Lib.hid (HB1.out.trans (hb2.mono (by simp))); clear hb2
    go_wp2_with fail
    go_ret
    exact ⟨rfl, HB2.out⟩
  · rw [decide_eq_false hs]
    have HP := Lib.hid (pputT_bad t hs hrd hft v1 v2 _ (hv1.next hb1) (hv2.next hb1))
    obtain ⟨A1, c1, rfl, _⟩ := hv1.at
    obtain ⟨A2, c2, rfl, _⟩ := hv2.at
    clear hv1 hv2 hs hb1
    unfold tval at HP ⊢
    go_enter Try.func33, Try.ntmps33
    go_wp2_with fail
    refine HP.out.mono ?_
    rintro e w2 ⟨rfl, hb2⟩
    have HB2 := Lib.hid (HB1.out.trans (hb2.mono (by simp))); clear hb2
    go_wp2_with fail
    go_ret
    exact ⟨rfl, HB2.out⟩

set_option maxHeartbeats 4000000 in
set_option maxRecDepth 100000 in
theorem pwithin_any (s : K × K) (l : List (K × K)) (v : Value) (w : World) (hv : RdP w w.heap.size v l) (hl : l.length ≤ 900) :
    Calls Try.prog 34 #[.agg #[.string s.1, .string s.2], v] w fun e w' => ∃ v', e = .returned v' ∧ OwnSp w' w.heap.size v' (meetP s l) ∧ Below w.heap.size w w' := by
  obtain ⟨A, c, rfl, hc, hi⟩ := hv.at
  obtain ⟨s1, s2⟩ := s
  have HI := Lib.hid hi; clear hi
  have HM := Lib.hid (fun (r : K × K) W => meet_any (s1, s2) r W)
  have HE := Lib.hid (fun (r : K × K) W => empty_any r W)
  obtain ⟨g, hg⟩ : ∃ g, g = w.heap.size := ⟨_, rfl⟩
  have HG := Lib.hid hg
  obtain ⟨w1, hw1⟩ : ∃ w1, w1 = w.alloc (.cells #[.string s1, .string s2] 31) := ⟨_, rfl⟩
  have hX : Whole w1 g 31 [.string s1, .string s2] := by rw [hw1, hg]; exact Whole.fresh w _ [_, _]
  have hb1 : Below g w w1 := by rw [hw1, hg]; exact (Below.refl _ w).alloc (Nat.le_refl _) _
  have hs1 : w1.heap.size = g + 1 := by rw [hw1, hg]; simp
  have HX := Lib.hid hX; clear hX
  have HB1 := Lib.hid hb1; clear hb1
  have HS1 := Lib.hid hs1; clear hs1
  have HMT := Lib.hid (fun i (h : i < l.length) => meetP_take (s1, s2) l i h)
  clear hv
  go_enter Try.func34, Try.ntmps34
  go_wp2_with fail
  rw [← hw1, ← hg]
  clear hw1 hg
  go_loopw [5, 11] (fun ov iv wr => ∃ (i : Nat) (ms : List (K × K)) (A' : Option Addr) (c' : Nat), i ≤ l.length ∧ iv = .int .i64 i ∧ ov = .slice A' ms.length c' ∧ Hid (OwnSp wr w1.heap.size (.slice A' ms.length c') ms) ∧ Hid (ms = meetP (s1, s2) (l.take i)) ∧ Hid (Below w1.heap.size w1 wr)) (fun _ iv _ => l.length - (intOf iv).toNat)
  case atStart => exact ⟨0, [], none, 0, Nat.zero_le _, rfl, rfl, Lib.hid (Own.nil _ _), Lib.hid rfl, Lib.hid (Below.refl _ _)⟩
  case round =>
    obtain ⟨i, ms, A', c', hil, rfl, rfl, HO, HMS, HB⟩ := hrel
    have hbs := HB.out.size
    have hml : ms.length ≤ i := by
      rw [HMS.out]
      exact Nat.le_trans (meetP_len _ _) (by rw [List.length_take]; omega)
    by_cases hlt : i < l.length
    · obtain ⟨b, o, rfl, hbB, k0, k1⟩ := HI.out i hlt
      have hlow : ∀ W, Below g w W → W.cell? ⟨b, o + i * 2, none⟩ = some (.string l[i].1) ∧ W.cell? ⟨b, o + i * 2 + 1, none⟩ = some (.string l[i].2) := fun W hW => ⟨(hW.cell (p := ⟨b, _, none⟩) (by rw [HG.out]; exact hbB)).trans k0, (hW.cell (p := ⟨b, _, none⟩) (by rw [HG.out]; exact hbB)).trans k1⟩
      have hmt := HMT.out i hlt
      rw [← HMS.out] at hmt
      rw [meet_comm] at hmt
      have hwr : Below g w wr := HB1.out.trans (HB.out.mono (by have := HS1.out; omega))
      obtain ⟨q0, q1⟩ := hlow wr hwr
      clear k0 k1 hlow
      generalize l[i] = r at q0 q1 hmt
      obtain ⟨r1, r2⟩ := r
      simp only at q0 q1
      have hmm := HM.out (r1, r2)
      generalize meet (s1, s2) (r1, r2) = m at hmt hmm
      obtain ⟨m1, m2⟩ := m
      simp only at hmm hmt
      unfold spv at hmm
      simp only at hmm
      have HMM := Lib.hid hmm; clear hmm
      have HMT2 := Lib.hid hmt; clear hmt
      have hXr := HX.out.below HB.out (by have := HS1.out; omega)
      have hgr : g < wr.heap.size := hXr.size
      obtain ⟨w2, hw2⟩ : ∃ w2, w2 = wr.alloc (.cells #[.string r1, .string r2] 31) := ⟨_, rfl⟩
      have hX2 : Whole w2 g 31 [.string s1, .string s2] := by rw [hw2]; exact hXr.alloc _
      have hY2 : Whole w2 wr.heap.size 31 [.string r1, .string r2] := by rw [hw2]; exact Whole.fresh wr _ [_, _]
      have hB2 : Below w1.heap.size w1 w2 := by rw [hw2]; exact HB.out.alloc hbs _
      have hO2 : OwnSp w2 w1.heap.size (.slice A' ms.length c') ms := by rw [hw2]; exact HO.out.alloc _
      have x0 := hX2.cell 0 _ rfl
      have x1 := hX2.cell 1 _ rfl
      have y0 := hY2.cell 0 _ rfl
      have y1 := hY2.cell 1 _ rfl
      rw [hw2] at x0 x1 y0 y1
      have HW2 := Lib.hid hw2; clear hw2
      have HB2 := Lib.hid hB2
      have HO2 := Lib.hid hO2
      have hs2 := hB2.size
      clear hX2 hY2 hB2 hO2 hXr
      go_wp2_with fail
      rw [← HW2.out]
      refine (HMM.out w2).mono ?_
      rintro e w3 ⟨rfl, hb3⟩
      have hs3 := hb3.size
      have HB3 := Lib.hid (HB2.out.trans (hb3.mono hs2))
      have HO3 := Lib.hid (HO2.out.below hb3 (Nat.le_refl _))
      clear hb3 x0 x1 y0 y1 q0 q1
      obtain ⟨w4, hw4⟩ : ∃ w4, w4 = w3.alloc (.cells #[.string m1, .string m2] 31) := ⟨_, rfl⟩
      have hZ4 : Whole w4 w3.heap.size 31 [.string m1, .string m2] := by rw [hw4]; exact Whole.fresh w3 _ [_, _]
      have hB4 : Below w1.heap.size w1 w4 := by rw [hw4]; exact HB3.out.alloc (by omega) _
      have hO4 : OwnSp w4 w1.heap.size (.slice A' ms.length c') ms := by rw [hw4]; exact HO3.out.alloc _
      have z0 := hZ4.cell 0 _ rfl
      have z1 := hZ4.cell 1 _ rfl
      rw [hw4] at z0 z1
      have HW4 := Lib.hid hw4; clear hw4
      have HB4 := Lib.hid hB4
      have HO4 := Lib.hid hO4
      have hs4 := hB4.size
      have HZ4 := Lib.hid hZ4
      clear hZ4 hB4 hO4
      go_wp2_with fail
      rw [← HW4.out]
      have hee := HE.out (m1, m2) w4
      simp only at hee
      refine hee.mono ?_
      rintro e w5 ⟨rfl, hb5⟩
      have hZ5 := HZ4.out.below hb5 HZ4.out.size
      have u0 := hZ5.cell 0 _ rfl
      have u1 := hZ5.cell 1 _ rfl
      have hs5 := hb5.size
      have HB5 := Lib.hid (HB4.out.trans (hb5.mono hs4))
      have HO5 := Lib.hid (HO4.out.below hb5 (Nat.le_refl _))
      clear hb5 z0 z1 hee hZ5
      by_cases hm : m2 ≤ m1
      · have hd := decide_eq_true hm
        rw [hd]
        have hmt := HMT2.out
        rw [if_neg (by grind), List.append_nil] at hmt
        have HMS2 := Lib.hid hmt.symm
        clear hmt hm hd u0 u1
        go_wp2_with fail
        go_roundw
        case rel => exact ⟨i + 1, ms, A', c', by omega, by go_num, rfl, HO5, HMS2, HB5⟩
        case measure => simp [intOf]; omega
      · have hd := decide_eq_false hm
        rw [hd]
        have hmt := HMT2.out
        rw [if_pos (by grind)] at hmt
        have HMS2 := Lib.hid hmt.symm
        clear hmt hm hd
        have hbw : w1.heap.size ≤ w5.heap.size := by omega
        go_wp2_with (at_builtin; go_must (refine wpList_addSp rfl _ _ rfl w1.heap.size (.slice A' ms.length c') ms rfl ?f1 (w5.heap.size + 1) _ [(m1, m2)] rfl ?f3 ?f4 ?f2 ?_))
        case f1 => exact HO5.out.alloc _
        case f2 => simp; omega
        case f3 => exact RdSp.one w5 (m1, m2)
        case f4 => simp; omega
        intro A6 c6 w6 ho6 hg6
        have hb6 : Below w1.heap.size w1 w6 := (HO5.out.alloc (.cells #[.string m1, .string m2] 31)).grown (HB5.out.alloc hbw _) hg6.out (Nat.le_refl _) (by simp; omega)
        have HB6 := Lib.hid hb6; clear hb6
        obtain ⟨ms2, hms2⟩ : ∃ ms2, ms2 = ms ++ [(m1, m2)] := ⟨_, rfl⟩
        have hlen : ms.length + 1 = ms2.length := by rw [hms2]; simp
        rw [← hms2] at ho6 HMS2
        (try rw [← hms2])
        (try rw [hlen])
        (try rw [hlen] at ho6)
        have HL := Lib.hid hlen
        clear hms2 hlen u0 u1
        go_wp2_with fail
        go_roundw
        case rel => exact ⟨i + 1, ms2, A6, c6, by omega, by go_num, rfl, ho6, HMS2, HB6⟩
        case measure => simp [intOf]; omega
    · obtain rfl : i = l.length := by omega
      have hms := HMS.out
      rw [List.take_length] at hms
      have HMS2 := Lib.hid hms; clear hms
      go_wp2_with fail
      go_ret
      refine ⟨_, rfl, ?_, ?_⟩
      · rw [← HMS2.out]; exact HO.out.lower (by have := HS1.out; have := HG.out; omega)
      · have h := HB1.out.trans (HB.out.mono (by have := HS1.out; omega)); rwa [HG.out] at h
end Go.Proofs.Yteelnholmlabmaa
