/- The reference's small functions: numbers and changes behind bytes; whether a transaction, a batch, a state is sound. -/
import Derived.Test.YtiijcikdlemndaaFSn2
namespace Go.Proofs.Ytiijcikdlemndaa
open Go.RowKit
attribute [local go_sem] less_eq same_eq le_eq ge_eq gt_eq

set_option maxHeartbeats 1000000 in
set_option maxRecDepth 100000 in
theorem least_any (l : List Int) (v : Value) (w : World) (B : Nat) (hv : RdI w B v l) (hl : l.length < 4611686018427387904) :
    Calls Try.prog 34 #[v] w fun e w' => e = .returned (.bool (decide (∀ n ∈ l, 0 ≤ n))) ∧ w' = w := by
  obtain ⟨A, c, rfl, hc, hi⟩ := hv.at
  obtain ⟨D, hD⟩ : ∃ D, D = decide (∀ n ∈ l, 0 ≤ n) := ⟨_, rfl⟩
  rw [← hD]
  have HD := Lib.hid hD; clear hD
  have HI := Lib.hid hi; clear hi
  clear hv
  go_enter Try.func34, Try.ntmps34
  go_wp2_with fail
  go_loop [3] (fun iv => ∃ i : Nat, i ≤ l.length ∧ iv = .int .i64 i ∧ Hid (∀ n ∈ l.take i, 0 ≤ n)) (fun iv => l.length - (intOf iv).toNat)
  case atStart => exact ⟨0, Nat.zero_le _, rfl, Lib.hid (by simp)⟩
  case round =>
    obtain ⟨i, hil, rfl, HALL⟩ := hrel
    by_cases hlt : i < l.length
    · obtain ⟨b, o, rfl, hbB, h1⟩ := HI.out i hlt
      have hyes : 0 ≤ l[i] → ∀ n ∈ l.take (i + 1), 0 ≤ n := fun h n hn => by
        rw [List.take_add_one, List.getElem?_eq_getElem hlt, List.mem_append] at hn
        rcases hn with hn | hn
        · exact HALL.out n hn
        · simp only [Option.toList_some, List.mem_singleton] at hn; rw [hn]; exact h
      have hno : ¬ (0 ≤ l[i]) → D = false := fun h => by rw [HD.out]; exact decide_eq_false fun hall => h (hall _ (List.getElem_mem hlt))
      generalize l[i] = z at h1 hyes hno
      have HY := Lib.hid hyes; clear hyes
      have HN := Lib.hid hno; clear hno
      by_cases hz : z < 0
      · go_wp2_with fail
        go_ret
        exact ⟨by rw [HN.out (by omega)]; rfl, rfl⟩
      · go_wp2_with fail
        go_round
        case rel => exact ⟨i + 1, by omega, by go_num, Lib.hid (HY.out (by omega))⟩
        case measure => simp [intOf]; omega
    · have hd : D = true := by
        rw [HD.out]
        have := HALL.out
        rw [List.take_of_length_le (by omega)] at this
        exact decide_eq_true this
      have HD2 := Lib.hid hd; clear hd
      go_wp2_with fail
      go_ret
      exact ⟨by rw [HD2.out]; rfl, rfl⟩

set_option maxHeartbeats 2000000 in
set_option maxRecDepth 100000 in
theorem rnums5_any (l : List Int) (hr : ∀ n ∈ l, 0 ≤ n ∧ n < 9223372036854775808) (hl : l.length ≤ 4096) (v : Value) (m : List UInt8) (A : Option Addr) (c : Nat) (w : World) (base : Nat) (ho : OwnB w base (.slice A m.length c) m) (hb : base ≤ w.heap.size) (hv : RdI w base v l) (hm : m.length ≤ 200000000000000) :
    Calls Try.prog 35 #[.slice A m.length c, v] w fun e w' => ∃ A' c', e = .returned (.slice A' (m ++ encs l).length c') ∧ OwnB w' base (.slice A' (m ++ encs l).length c') (m ++ encs l) ∧ Below base w w' ∧ base ≤ w'.heap.size := by
  obtain ⟨A3, c3, rfl, _, hi⟩ := hv.at
  have HI := Lib.hid hi; clear hi hv
  have HH := Lib.hid hr; clear hr
  have HO := Lib.hid ho; clear ho
  go_enter Try.func35, Try.ntmps35
  go_wp2_with fail
  go_loopw [0, 5] (fun sv iv wr => ∃ (i : Nat) (m' : List UInt8) (A' : Option Addr) (c' : Nat), i ≤ l.length ∧ iv = .int .i64 i ∧ sv = .slice A' m'.length c' ∧ OwnB wr base (.slice A' m'.length c') m' ∧ m' = m ++ encs (l.take i) ∧ m'.length ≤ m.length + i * 9 ∧ Below base w wr ∧ base ≤ wr.heap.size) (fun _ iv _ => l.length - (intOf iv).toNat)
  case atStart => exact ⟨0, m, A, c, Nat.zero_le _, rfl, rfl, HO.out, by simp [encs], by omega, Below.refl _ _, hb⟩
  case round =>
    obtain ⟨i, m', A', c', hil, rfl, rfl, ho, hme, hml, hbw, hbs⟩ := hrel
    have HO2 := Lib.hid ho; clear ho
    have HME := Lib.hid hme; clear hme
    have HB := Lib.hid hbw; clear hbw
    by_cases hlt : i < l.length
    · obtain ⟨b, o, rfl, hbB, h1⟩ := HI.out i hlt
      rw [← HB.out.cell (p := ⟨b, _, none⟩) hbB] at h1
      have hmem := HH.out l[i] (List.getElem_mem hlt)
      have hnew : m' ++ enc (l[i]).toNat = m ++ encs (l.take (i + 1)) := by
        rw [HME.out, List.take_add_one, List.getElem?_eq_getElem hlt, encs_append, List.append_assoc]; simp [encs]
      generalize l[i] = z at h1 hmem hnew
      obtain ⟨n, rfl⟩ : ∃ n : Nat, z = (n : Int) := ⟨z.toNat, by omega⟩
      rw [Int.toNat_natCast] at hnew
      have hp := rput_any n (by omega) m' A' c' wr base HO2.out hbs (by omega)
      have hl9 := enc_len9 (n := n) (by omega)
      generalize hE : enc n = E at hp hnew hl9
      have hlen : (m' ++ E).length ≤ m.length + (i + 1) * 9 := by rw [List.length_append]; omega
      generalize m' ++ E = m2 at hp hnew hlen
      have HP := Lib.hid hp; clear hp
      have HNEW := Lib.hid hnew; clear hnew hE
      go_wp2_with fail
      refine HP.out.mono ?_
      rintro e w2 ⟨A2, c2, rfl, ho2, hb2, hs2⟩
      have HO3 := Lib.hid ho2; clear ho2
      have HB2 := Lib.hid (HB.out.trans hb2); clear hb2
      go_wp2_with fail
      go_roundw
      case rel => exact ⟨i + 1, m2, A2, c2, by omega, by go_num, rfl, HO3.out, HNEW.out, hlen, HB2.out, hs2⟩
      case measure => simp [intOf]; omega
    · obtain rfl : i = l.length := by omega
      have hm2 : m' = m ++ encs l := by rw [HME.out, List.take_length]
      have HM2 := Lib.hid hm2; clear hm2
      go_wp2_with fail
      go_ret
      rw [← HM2.out]
      exact ⟨A', c', rfl, HO2.out, HB.out, hbs⟩

set_option maxHeartbeats 4000000 in
set_option maxRecDepth 100000 in
theorem rchgs5_any (l : List Chg) (hs : ∀ c ∈ l, 0 ≤ c.kind ∧ c.kind < 9223372036854775808 ∧ c.key.size ≤ 65536 ∧ c.val.size ≤ 65536) (hl : l.length ≤ 4096) (v : Value) (m : List UInt8) (A : Option Addr) (c : Nat) (w : World) (base : Nat) (ho : OwnB w base (.slice A m.length c) m) (hb : base ≤ w.heap.size) (hv : RdC w base v l) (hm : m.length ≤ 100000000000000) :
    Calls Try.prog 50 #[.slice A m.length c, v] w fun e w' => ∃ A' c', e = .returned (.slice A' (m ++ listB chgB l).length c') ∧ OwnB w' base (.slice A' (m ++ listB chgB l).length c') (m ++ listB chgB l) ∧ Below base w w' ∧ base ≤ w'.heap.size := by
  obtain ⟨A3, c3, rfl, _, hi⟩ := hv.at
  have hp := rput_any l.length (by omega) m A c w base ho hb (by omega)
  have hR : m ++ listB chgB l = (m ++ enc l.length) ++ l.flatMap chgB := by simp [listB]
  rw [hR]
  have hel := enc_len9 (n := l.length) (by omega)
  have hml : (m ++ enc l.length).length ≤ m.length + 9 := by rw [List.length_append]; omega
  generalize m ++ enc l.length = m1 at hp hml ⊢
  have HP := Lib.hid hp; clear hp hR hel
  have HI := Lib.hid hi; clear hi hv
  have HS := Lib.hid hs; clear hs
  clear ho
  go_enter Try.func50, Try.ntmps50
  go_wp2_with fail
  refine HP.out.mono ?_
  rintro e w1 ⟨A1, c1, rfl, ho1, hb1, hs1⟩
  have HO1 := Lib.hid ho1; clear ho1
  have HB1 := Lib.hid hb1; clear hb1
  go_wp2_with fail
  go_loopw [0, 5] (fun sv iv wr => ∃ (i : Nat) (m' : List UInt8) (A' : Option Addr) (c' : Nat), i ≤ l.length ∧ iv = .int .i64 i ∧ sv = .slice A' m'.length c' ∧ OwnB wr base (.slice A' m'.length c') m' ∧ m' = m1 ++ (l.take i).flatMap chgB ∧ m'.length ≤ m1.length + i * 131099 ∧ Below base w wr ∧ base ≤ wr.heap.size) (fun _ iv _ => l.length - (intOf iv).toNat)
  case atStart => exact ⟨0, m1, A1, c1, Nat.zero_le _, rfl, rfl, HO1.out, by simp, by omega, HB1.out, hs1⟩
  case round =>
    obtain ⟨i, m', A', c', hil, rfl, rfl, ho, hme, hmln, hbw, hbs⟩ := hrel
    have HO2 := Lib.hid ho; clear ho
    have HME := Lib.hid hme; clear hme
    have HB := Lib.hid hbw; clear hbw
    by_cases hlt : i < l.length
    · obtain ⟨b, o, rfl, hbB, k0, k1, k2⟩ := HI.out i hlt
      have hks := HS.out l[i] (List.getElem_mem hlt)
      rw [← HB.out.cell (p := ⟨b, _, none⟩) hbB] at k0 k1 k2
      have hnew : m' ++ chgB l[i] = m1 ++ (l.take (i + 1)).flatMap chgB := by
        rw [HME.out, List.take_add_one, List.getElem?_eq_getElem hlt, List.flatMap_append, List.append_assoc]; simp
      have hlen := chgB_len l[i] hks
      generalize l[i] = z at k0 k1 k2 hks hnew hlen
      obtain ⟨kz, x, y⟩ := z
      simp only at k0 k1 k2 hks
      obtain ⟨n, rfl⟩ : ∃ n : Nat, kz = (n : Int) := ⟨kz.toNat, by omega⟩
      have hR2 : m' ++ chgB ⟨(n : Int), x, y⟩ = ((m' ++ enc n) ++ encT x.data.toList) ++ encT y.data.toList := by simp [chgB]
      rw [hR2] at hnew
      have hl9 := enc_len9 (n := n) (by omega)
      have hlx := encT_len x hks.2.2.1
      have hly := encT_len y hks.2.2.2
      have hlm : (m' ++ enc n).length ≤ m'.length + 9 := by rw [List.length_append]; omega
      have hput := fun (W : World) (h1 : OwnB W base (.slice A' m'.length c') m') (h2 : base ≤ W.heap.size) => rput_any n (by omega) m' A' c' W base h1 h2 (by omega)
      generalize hm2 : m' ++ enc n = m2 at hput hnew hlm
      have htx := fun (A : Option Addr) (c : Nat) (W : World) (h1 : OwnB W base (.slice A m2.length c) m2) (h2 : base ≤ W.heap.size) => rputText_any x (by omega) m2 A c W base h1 h2 (by omega)
      have hlm3 : (m2 ++ encT x.data.toList).length ≤ m2.length + x.size + 9 := by rw [List.length_append]; omega
      generalize hm3 : m2 ++ encT x.data.toList = m3 at htx hnew hlm3
      have hty := fun (A : Option Addr) (c : Nat) (W : World) (h1 : OwnB W base (.slice A m3.length c) m3) (h2 : base ≤ W.heap.size) => rputText_any y (by omega) m3 A c W base h1 h2 (by omega)
      have hlm4 : (m3 ++ encT y.data.toList).length ≤ m3.length + y.size + 9 := by rw [List.length_append]; omega
      generalize hm4 : m3 ++ encT y.data.toList = m4 at hty hnew hlm4
      have HPUT := Lib.hid hput; clear hput
      have HTX := Lib.hid htx; clear htx
      have HTY := Lib.hid hty; clear hty
      have HNEW := Lib.hid hnew; clear hnew
      clear hR2 hm2 hm3 hm4
      have HC0 := Lib.hid (fun W (hW : Below base wr W) => (hW.cell (p := ⟨b, o + i * 3, none⟩) hbB).trans k0)
      have HC1 := Lib.hid (fun W (hW : Below base wr W) => (hW.cell (p := ⟨b, o + i * 3 + 1, none⟩) hbB).trans k1)
      have HC2 := Lib.hid (fun W (hW : Below base wr W) => (hW.cell (p := ⟨b, o + i * 3 + 2, none⟩) hbB).trans k2)
      have hi1 : (i : Int) < (l.length : Int) := by omega
      have hi0 : (0 : Int) ≤ (i : Int) := by omega
      clear k0 k1 k2
      go_wp2_with fail
      refine wp_region_planT (fun W => Below base wr W) (.take 0 (.take 1 (.take 2 (.take 3 (.take 4 (.take 5 (.take 7 (.take 8 (.take 9 (.take 10 (.take 11 (.take 13 (.take 14 (.take 15 (.take 16 (.take 17 (.step 6 (.step 12 (.step 18 (.take 19 .done)))))))))))))))))))) (by kernel_rfl) (by kernel_rfl) (fun _ _ d _ _ h => by cases d <;> exact h) ((Below.refl _ _).drew) ?_
      repeat (first | (refine PlanT.takeI (v := ?_) rfl rfl ?_ ?_; rotate_left; (focus (intro W hW; have k0 := (HC0.out W hW); have k1 := (HC1.out W hW); have k2 := (HC2.out W hW); go_simp; (try with_reducible rfl); done)); (try simp only [Act.put, List.setIfInBounds_toArray, List.set_cons_zero, List.set_cons_succ])) | (refine PlanT.skip rfl rfl ?_; (try simp only [Act.put, List.setIfInBounds_toArray, List.set_cons_zero, List.set_cons_succ])))
      have ho1' : OwnB wr.drew base (.slice A' m'.length c') m' := HO2.out
      have hsd : base ≤ wr.drew.heap.size := hbs
      have hbd : Below base wr wr.drew := (Below.refl _ _).drew
      generalize wr.drew = wd at ho1' hsd hbd ⊢
      refine wpOp_stepT rfl rfl (fun Kk hK => ?_)
      go_simp
      go_at_call 68
      refine (HPUT.out wd ho1' hsd).mono ?_
      rintro e w2 ⟨A2, c2, rfl, ho2, hb2, hs2⟩
      have hbd2 := hbd.trans hb2
      refine hK.out _ _ hbd2 ?_
      clear hK Kk
      refine wpOp_stepT rfl rfl (fun Kk hK => ?_)
      go_simp
      go_at_call 37
      refine (HTX.out A2 c2 w2 ho2 hs2).mono ?_
      rintro e w3 ⟨A4, c4, rfl, ho3, hb3, hs3⟩
      have hbd3 := hbd2.trans hb3
      refine hK.out _ _ hbd3 ?_
      clear hK Kk
      refine wpOp_stepT rfl rfl (fun Kk hK => ?_)
      go_simp
      go_at_call 37
      refine (HTY.out A4 c4 w3 ho3 hs3).mono ?_
      rintro e w4 ⟨A5, c5, rfl, ho4, hb4, hs4⟩
      have hbd4 := hbd3.trans hb4
      refine hK.out _ _ hbd4 ?_
      clear hK Kk
      first | (refine PlanT.takeI (v := ?_) rfl rfl ?_ ?_; rotate_left; (focus (intro W hW;  go_simp; (try with_reducible rfl); done)); (try simp only [Act.put, List.setIfInBounds_toArray, List.set_cons_zero, List.set_cons_succ])) | (refine PlanT.skip rfl rfl ?_; (try simp only [Act.put, List.setIfInBounds_toArray, List.set_cons_zero, List.set_cons_succ]))
      simp only [PlanT]
      have HO4 := Lib.hid ho4
      have HB4 := Lib.hid (HB.out.trans hbd4)
      clear ho1' hsd hbd ho2 hb2 hs2 hbd2 ho3 hb3 hs3 hbd3 ho4 hb4 hbd4
      go_wp2_with fail
      go_roundw
      case rel => exact ⟨i + 1, m4, A5, c5, by omega, by go_num, rfl, HO4.out, HNEW.out, by omega, HB4.out, hs4⟩
      case measure => simp [intOf]; omega
    · obtain rfl : i = l.length := by omega
      have hm2 : m' = m1 ++ l.flatMap chgB := by rw [HME.out, List.take_length]
      have HM2 := Lib.hid hm2; clear hm2
      go_wp2_with fail
      go_ret
      rw [← HM2.out]
      exact ⟨A', c', rfl, HO2.out, HB.out, hbs⟩

set_option maxHeartbeats 4000000 in
set_option maxRecDepth 100000 in
theorem rsoundT_any (t : Txn) (hft : fitT t) (v1 v2 : Value) (w : World) (hv1 : RdP w w.heap.size v1 t.reads) (hv2 : RdC w w.heap.size v2 t.chgs) :
    Calls Try.prog 49 #[tval t v1 v2] w fun e w' => e = .returned (.bool (decide (soundT t))) ∧ Below w.heap.size w w' := by
  obtain ⟨h1, h2, h3, h4⟩ := hft
  obtain ⟨read, reads, chgs⟩ := t
  obtain ⟨R, hR⟩ : ∃ R, R = decide (soundT ⟨read, reads, chgs⟩) := ⟨_, rfl⟩
  rw [← hR]
  unfold soundT at hR
  unfold tval
  simp only at hR h1 h2 h3 h4 hv1 hv2 ⊢
  obtain ⟨A1, c1, rfl, _, hi⟩ := hv1.at
  obtain ⟨A2, c2, rfl, _, _⟩ := hv2.at
  have hno : ¬ (0 ≤ read ∧ reads.length ≤ 24 ∧ (∀ s ∈ reads, okSpan s) ∧ chgs.length ≤ 24 ∧ allAns chgs = 0) → R = false := fun h => by rw [hR]; exact decide_eq_false h
  have hyes : 0 ≤ read ∧ reads.length ≤ 24 ∧ (∀ s ∈ reads, okSpan s) ∧ chgs.length ≤ 24 ∧ allAns chgs = 0 → R = true := fun h => by rw [hR]; exact decide_eq_true h
  have HNO := Lib.hid hno; clear hno
  have HYES := Lib.hid hyes; clear hyes
  have hb1 : Below w.heap.size w (w.alloc (.cells #[.int .i64 read, .slice A1 reads.length c1, .slice A2 chgs.length c2] 36)) := (Below.refl _ _).alloc (Nat.le_refl _) _
  have hA := rall_any chgs h4 (.slice A2 chgs.length c2) _ (hv2.next hb1) h3
  have HA := Lib.hid hA; clear hA
  have HB1 := Lib.hid hb1; clear hb1
  have HI := Lib.hid hi; clear hi
  have HS := Lib.hid h2; clear h2
  clear hR hv1 hv2 h4
  by_cases g1 : read < 0
  · go_enter Try.func49, Try.ntmps49
    go_wp2_with fail
    go_ret
    exact ⟨by rw [HNO.out (by omega)]; rfl, HB1.out⟩
  by_cases g2 : (24 : Int) < (reads.length : Int)
  · go_enter Try.func49, Try.ntmps49
    go_wp2_with fail
    go_ret
    exact ⟨by rw [HNO.out (by omega)]; rfl, HB1.out⟩
  by_cases g3 : (24 : Int) < (chgs.length : Int)
  · go_enter Try.func49, Try.ntmps49
    go_wp2_with fail
    go_ret
    exact ⟨by rw [HNO.out (by omega)]; rfl, HB1.out⟩
  generalize allAns chgs = q at HA HNO HYES
  go_enter Try.func49, Try.ntmps49
  go_wp2_with fail
  refine HA.out.mono ?_
  rintro e w2 ⟨rfl, hb2⟩
  rw [World.size_alloc] at hb2
  have HB2 := Lib.hid hb2; clear hb2
  have HBW := Lib.hid (show Below w.heap.size w w2 from HB1.out.trans (HB2.out.mono (by omega)))
  by_cases g4 : q = 0
  · subst g4
    go_wp2_with fail
    go_loopw [3] (fun iv wr => ∃ i : Nat, i ≤ reads.length ∧ iv = .int .i64 i ∧ Below (w.heap.size + 1) (w.alloc (.cells #[.int .i64 read, .slice A1 reads.length c1, .slice A2 chgs.length c2] 36)) wr ∧ Hid (∀ s ∈ reads.take i, okSpan s)) (fun iv _ => reads.length - (intOf iv).toNat)
    case atStart => exact ⟨0, Nat.zero_le _, rfl, HB2.out, Lib.hid (by simp)⟩
    case round =>
      obtain ⟨i, hil, rfl, hbw, HALL⟩ := hrel
      have hBw : Below w.heap.size w wr := HB1.out.trans (hbw.mono (by omega))
      have p1 := box_cell hbw 1 _ rfl
      have HBR := Lib.hid hbw; clear hbw
      have HBW2 := Lib.hid hBw; clear hBw
      by_cases hlt : i < reads.length
      · obtain ⟨b, o, rfl, hbB, k0, k1⟩ := HI.out i hlt
        rw [← HBW2.out.cell (p := ⟨b, _, none⟩) hbB] at k0 k1
        have hsm := HS.out reads[i] (List.getElem_mem hlt)
        have hyes : okSpan reads[i] → ∀ s ∈ reads.take (i + 1), okSpan s := fun h n hn => by
          rw [List.take_add_one, List.getElem?_eq_getElem hlt, List.mem_append] at hn
          rcases hn with hn | hn
          · exact HALL.out n hn
          · simp only [Option.toList_some, List.mem_singleton] at hn; rw [hn]; exact h
        have hno : ¬ okSpan reads[i] → R = false := fun h => HNO.out fun hall => h (hall.2.2.1 _ (List.getElem_mem hlt))
        generalize reads[i] = z at k0 k1 hyes hno hsm
        obtain ⟨x, y⟩ := z
        unfold okSpan at hyes hno
        simp only at k0 k1 hsm hyes hno
        have HY := Lib.hid hyes; clear hyes
        have HN := Lib.hid hno; clear hno
        have hwr : wr.heap.size ≤ wr.drew.heap.size := Nat.le_refl _
        have hbs2 : b < wr.heap.size := by have := HBW2.out.size; omega
        have hws2 : w.heap.size < wr.heap.size := by have := HBR.out.size; simp at this; omega
        have HK0 := Lib.hid (fun W (hW : Below wr.heap.size wr W) => (hW.cell (p := ⟨b, o + i * 2, none⟩) hbs2).trans k0)
        have HK1 := Lib.hid (fun W (hW : Below wr.heap.size wr W) => (hW.cell (p := ⟨b, o + i * 2 + 1, none⟩) hbs2).trans k1)
        have HK2 := Lib.hid (fun W (hW : Below wr.heap.size wr W) => (hW.cell (p := ⟨w.heap.size, 1, none⟩) hws2).trans p1)
        have hi1 : (i : Int) < (reads.length : Int) := by omega
        have hi0 : (0 : Int) ≤ (i : Int) := by omega
        clear hbs2 hws2 hwr
        have HBD := Lib.hid (show Below w.heap.size w wr.drew from HBW2.out.drew)
        have HBRD := Lib.hid (HBR.out.drew)
        by_cases ha : (17 : Int) < (x.size : Int)
        · have hf := HN.out (fun h => by omega)
          have HF := Lib.hid hf; clear hf
          go_wp2_with fail
          clear k0 k1 p1
          refine wp_region_planT (fun W => Below wr.heap.size wr W) (.take 0 (.take 1 (.take 2 (.take 3 (.take 4 (.take 5 (.take 6 (.take 7 (.take 8 (.take 9 (.take 10 (.take 11 (.take 12 (.take 13 (.take 14 (.take 15 (.take 16 (.take 17 (.take 18 (.take 19 (.take 20 (.take 21 (.take 22 (.take 23 (.take 24 (.take 25 (.take 26 (.take 27 (.take 28 (.take 29 (.take 30 (.take 31 (.take 32 .done))))))))))))))))))))))))))))))))) (by kernel_rfl) (by kernel_rfl) (fun _ _ d _ _ h => by cases d <;> exact h) ((Below.refl _ _).drew) ?_
          repeat (first | (refine PlanT.takeI (v := ?_) rfl rfl ?_ ?_; rotate_left; (focus (intro W hW; have k0 := HK0.out W hW; have k1 := HK1.out W hW; have k2 := HK2.out W hW; go_simp; (try with_reducible rfl); done)); (try simp only [Act.put, List.setIfInBounds_toArray, List.set_cons_zero, List.set_cons_succ])) | (refine PlanT.skip rfl rfl ?_; (try simp only [Act.put, List.setIfInBounds_toArray, List.set_cons_zero, List.set_cons_succ])))
          simp only [PlanT]
          go_wp2_with fail
          go_ret
          exact ⟨by rw [HF.out]; rfl, HBD.out⟩
        have HDA := Lib.hid (show decide ((17 : Int) < (x.size : Int)) = false from decide_eq_false ha)
        by_cases hb : (17 : Int) < (y.size : Int)
        · have hf := HN.out (fun h => by omega)
          have HF := Lib.hid hf; clear hf
          go_wp2_with fail
          clear k0 k1 p1
          refine wp_region_planT (fun W => Below wr.heap.size wr W) (.take 0 (.take 1 (.take 2 (.take 3 (.take 4 (.take 5 (.take 6 (.take 7 (.take 8 (.take 9 (.take 10 (.take 11 (.take 12 (.take 13 (.take 14 (.take 15 (.take 16 (.take 17 (.take 18 (.take 19 (.take 20 (.take 21 (.take 22 (.take 23 (.take 24 (.take 25 (.take 26 (.take 27 (.take 28 (.take 29 (.take 30 (.take 31 (.take 32 .done))))))))))))))))))))))))))))))))) (by kernel_rfl) (by kernel_rfl) (fun _ _ d _ _ h => by cases d <;> exact h) ((Below.refl _ _).drew) ?_
          repeat (first | (refine PlanT.takeI (v := ?_) rfl rfl ?_ ?_; rotate_left; (focus (intro W hW; have k0 := HK0.out W hW; have k1 := HK1.out W hW; have k2 := HK2.out W hW; have kda := HDA.out; go_simp; (try with_reducible rfl); done)); (try simp only [Act.put, List.setIfInBounds_toArray, List.set_cons_zero, List.set_cons_succ])) | (refine PlanT.skip rfl rfl ?_; (try simp only [Act.put, List.setIfInBounds_toArray, List.set_cons_zero, List.set_cons_succ])))
          simp only [PlanT]
          go_wp2_with fail
          go_ret
          exact ⟨by rw [HF.out]; rfl, HBD.out⟩
        have HDB := Lib.hid (show decide ((17 : Int) < (y.size : Int)) = false from decide_eq_false hb)
        by_cases hxy : y < x
        · have hf := HN.out (fun h => h.2.2 hxy)
          have HF := Lib.hid hf; clear hf
          go_wp2_with fail
          clear k0 k1 p1
          refine wp_region_planT (fun W => Below wr.heap.size wr W) (.take 0 (.take 1 (.take 2 (.take 3 (.take 4 (.take 5 (.take 6 (.take 7 (.take 8 (.take 9 (.take 10 (.take 11 (.take 12 (.take 13 (.take 14 (.take 15 (.take 16 (.take 17 (.take 18 (.take 19 (.take 20 (.take 21 (.take 22 (.take 23 (.take 24 (.take 25 (.take 26 (.take 27 (.take 28 (.take 29 (.take 30 (.take 31 (.take 32 .done))))))))))))))))))))))))))))))))) (by kernel_rfl) (by kernel_rfl) (fun _ _ d _ _ h => by cases d <;> exact h) ((Below.refl _ _).drew) ?_
          repeat (first | (refine PlanT.takeI (v := ?_) rfl rfl ?_ ?_; rotate_left; (focus (intro W hW; have k0 := HK0.out W hW; have k1 := HK1.out W hW; have k2 := HK2.out W hW; have kda := HDA.out; have kdb := HDB.out; go_simp; (try with_reducible rfl); done)); (try simp only [Act.put, List.setIfInBounds_toArray, List.set_cons_zero, List.set_cons_succ])) | (refine PlanT.skip rfl rfl ?_; (try simp only [Act.put, List.setIfInBounds_toArray, List.set_cons_zero, List.set_cons_succ])))
          simp only [PlanT]
          go_wp2_with fail
          go_ret
          exact ⟨by rw [HF.out]; rfl, HBD.out⟩
        · have HDC := Lib.hid (show decide (y < x) = false from decide_eq_false hxy)
          have hok := HY.out ⟨by omega, by omega, hxy⟩
          have HOK := Lib.hid hok; clear hok
          go_wp2_with fail
          clear k0 k1 p1
          refine wp_region_planT (fun W => Below wr.heap.size wr W) (.take 0 (.take 1 (.take 2 (.take 3 (.take 4 (.take 5 (.take 6 (.take 7 (.take 8 (.take 9 (.take 10 (.take 11 (.take 12 (.take 13 (.take 14 (.take 15 (.take 16 (.take 17 (.take 18 (.take 19 (.take 20 (.take 21 (.take 22 (.take 23 (.take 24 (.take 25 (.take 26 (.take 27 (.take 28 (.take 29 (.take 30 (.take 31 (.take 32 .done))))))))))))))))))))))))))))))))) (by kernel_rfl) (by kernel_rfl) (fun _ _ d _ _ h => by cases d <;> exact h) ((Below.refl _ _).drew) ?_
          repeat (first | (refine PlanT.takeI (v := ?_) rfl rfl ?_ ?_; rotate_left; (focus (intro W hW; have k0 := HK0.out W hW; have k1 := HK1.out W hW; have k2 := HK2.out W hW; have kda := HDA.out; have kdb := HDB.out; have kdc := HDC.out; go_simp; (try with_reducible rfl); done)); (try simp only [Act.put, List.setIfInBounds_toArray, List.set_cons_zero, List.set_cons_succ])) | (refine PlanT.skip rfl rfl ?_; (try simp only [Act.put, List.setIfInBounds_toArray, List.set_cons_zero, List.set_cons_succ])))
          simp only [PlanT]
          go_wp2_with fail
          go_roundw
          case rel => exact ⟨i + 1, by omega, by go_num, HBRD.out, Lib.hid HOK.out⟩
          case measure => simp [intOf]; omega
      · have hd : R = true := HYES.out ⟨by omega, by omega, by
          have := HALL.out
          rwa [List.take_of_length_le (by omega)] at this, by omega, trivial⟩
        have HD2 := Lib.hid hd; clear hd
        go_wp2_with fail
        go_ret
        exact ⟨by rw [HD2.out]; rfl, HBW2.out⟩
  · have hf := HNO.out (fun h => g4 h.2.2.2.2)
    have HF := Lib.hid hf; clear hf
    go_wp2_with fail
    go_ret
    exact ⟨by rw [HF.out]; rfl, HBW.out⟩
end Go.Proofs.Ytiijcikdlemndaa
