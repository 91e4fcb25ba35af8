/- The program's bounds: whether they are sound, how many pieces they make, and the piece of a key (slices.BinarySearch at texts). -/
import Derived.Test.YteelnholmlabmaaRSh
import Derived.Deep.LoopGhost
namespace Go.Proofs.Yteelnholmlabmaa
open Go.RowKit
attribute [local go_sem] less_eq same_eq le_eq ge_eq gt_eq

set_option maxHeartbeats 400000 in
theorem isnan_any (k : K) (w : World) : Calls Try.prog 39 #[.string k] w fun e w' => e = .returned (.bool false) ∧ w' = w := by
  go_enter Try.func39, Try.ntmps39
  go_wp2
  go_ret
  exact ⟨by simp, rfl⟩
set_option maxHeartbeats 400000 in
theorem cless_any (a b : K) (w : World) : Calls Try.prog 38 #[.string a, .string b] w fun e w' => e = .returned (.bool (decide (a < b))) ∧ w' = w := by
  have hn : ∀ (k : K) (w : World), Calls Try.prog 49 #[.string k] w fun e w' => e = .returned (.bool false) ∧ w' = w := fun k w => by
    go_enter Try.func49, Try.ntmps49
    go_wp2
    go_ret
    exact ⟨by simp, rfl⟩
  have HN := Lib.hid hn
  clear hn
  go_enter Try.func38, Try.ntmps38
  go_wp2_with fail
  refine (HN.out a w).mono ?_
  rintro e w1 ⟨rfl, rfl⟩
  go_wp2_with fail
  go_ret
  exact ⟨rfl, rfl⟩

set_option maxHeartbeats 400000 in
theorem pcount_any (l : List K) (v : Value) (w : World) (hv : RdK w w.heap.size v l) (hl : l.length ≤ 140737488351232) :
    Calls Try.prog 28 #[v] w fun e w' => e = .returned (.int .i64 ((l.length + 1 : Nat) : Int)) ∧ w' = w := by
  obtain ⟨A, c, rfl, hc, hi⟩ := hv.at
  have hw : IntKind.i64.wrap ((l.length : Int) + 1) = ((l.length + 1 : Nat) : Int) := by rw [IntKind.wrap_i64]; omega
  go_enter Try.func28, Try.ntmps28
  go_wp2_with fail
  go_ret
  exact ⟨by first | rfl | (simp; omega) | simp, rfl⟩

set_option maxHeartbeats 8000000 in
set_option maxRecDepth 100000 in
theorem psoundB_any (l : List K) (v : Value) (w : World) (hv : RdK w w.heap.size v l) :
    Calls Try.prog 26 #[v] w fun e w' => e = .returned (.bool (decide (okB l))) ∧ Below w.heap.size w w' := by
  obtain ⟨A, c, rfl, hc, hi⟩ := hv.at
  have HI := Lib.hid hi
  clear hi hv
  have HB0 := Lib.hid (Below.refl w.heap.size w)
  go_enter Try.func26, Try.ntmps26
  by_cases h7 : l.length ≤ 7
  case neg =>
    have hno := decide_eq_false (show ¬ okB l from fun h => h7 h.1)
    have h7i : (8 : Int) ≤ (l.length : Int) := by omega
    have HNO := Lib.hid hno
    clear hno
    go_wp2_with fail
    go_ret
    exact ⟨by rw [HNO.out]; rfl, HB0.out⟩
  have h7i : ¬ (8 : Int) ≤ (l.length : Int) := by omega
  go_wp2_with fail
  go_loopw [10] (fun iv wr => ∃ i : Nat, i ≤ l.length ∧ iv = .int .i64 (i : Int) ∧ (∀ j (h : j < l.length), j < i → okAt l j h) ∧ Below w.heap.size w wr) (fun iv _ => l.length - (intOf iv).toNat)
  case atStart => exact ⟨0, Nat.zero_le _, rfl, fun j _ hj => by omega, HB0.out⟩
  case round =>
    obtain ⟨i, hil, rfl, hok, hbw⟩ := hrel
    have HOK := Lib.hid hok
    have HBW := Lib.hid hbw
    clear hok hbw
    by_cases hlt : i < l.length
    · obtain ⟨b, o, rfl, hB, k0⟩ := HI.out i hlt
      rw [← HBW.out.cell (p := ⟨b, o + i, none⟩) hB] at k0
      have hno : (¬ 1 ≤ l[i].size ∨ ¬ l[i].size ≤ 16) → ¬ okB l := fun h1 h2 => by have := ((okB_at.1 h2).2 i hlt).1; omega
      have hno2 : ∀ j (e : j + 1 = i), ¬ l[j] < l[i] → ¬ okB l := fun j e h1 h2 => h1 (((okB_at.1 h2).2 i hlt).2 j e)
      have hyes : 1 ≤ l[i].size → l[i].size ≤ 16 → (∀ j (e : j + 1 = i), l[j] < l[i]) → ∀ j (h : j < l.length), j < i + 1 → okAt l j h := fun h1 h2 h3 j h hj => by
        rcases Nat.lt_or_ge j i with h4 | h4
        · exact HOK.out j h h4
        · have e : j = i := by omega
          subst e
          exact ⟨⟨h1, h2⟩, h3⟩
      have h0 : (0 : Int) ≤ (i : Int) := by omega
      have h1 : (i : Int) < (l.length : Int) := by omega
      by_cases hi0 : i = 0
      · have HNO1 := Lib.hid hno
        have HY := Lib.hid hyes
        clear hno hno2 hyes
        subst hi0
        simp only [Nat.add_zero] at k0
        generalize hx : l[0] = x at k0
        have HX := Lib.hid hx
        clear hx HOK
        have h1 : (0 : Int) < (l.length : Int) := by omega
        by_cases ha : x = ⟨#[]⟩
        · have HNO := Lib.hid (HNO1.out (.inl (by rw [HX.out, ha]; decide)))
          subst ha
          go_wp2_with fail
          go_ret
          exact ⟨by rw [decide_eq_false HNO.out]; rfl, HBW.out⟩
        have hxs : ¬ x.size = 0 := fun h => ha (by
          have : x.data = #[] := Array.eq_empty_of_size_eq_zero h
          cases x; simp only at this; rw [this])
        have hxe : (ByteArray.toList x).isEmpty = false := by
          rw [Lib.toList_data]
          cases hd : x.data.toList with
          | nil => exact absurd (by have e : x.data.toList.length = x.size := by simp
                                    rw [hd] at e; simpa using e.symm) hxs
          | cons a r => rfl
        by_cases hb : 16 < x.size
        · have HNO := Lib.hid (HNO1.out (.inr (by rw [HX.out]; omega)))
          have k4 : (16 : Int) < (x.size : Int) := by omega
          go_wp2_with fail
          go_ret
          exact ⟨by rw [decide_eq_false HNO.out]; rfl, HBW.out⟩
        have k4 : ¬ (16 : Int) < (x.size : Int) := by omega
        have HYES := Lib.hid (HY.out (by rw [HX.out]; omega) (by rw [HX.out]; omega) (fun j e => by omega))
        go_wp2_with fail
        go_roundw
        case rel => exact ⟨0 + 1, by omega, rfl, HYES.out, HBW.out⟩
        case measure => simp [intOf]; omega
      · obtain ⟨b2, o2, eA, hB2, k1⟩ := HI.out (i - 1) (by omega)
        obtain ⟨rfl, rfl⟩ : b = b2 ∧ o = o2 := by simpa using eA
        rw [← HBW.out.cell (p := ⟨b, o + (i - 1), none⟩) hB2] at k1
        have hno3 : ¬ l[i - 1]'(by omega) < l[i] → ¬ okB l := hno2 (i - 1) (by omega)
        have hyes2 : 1 ≤ l[i].size → l[i].size ≤ 16 → l[i - 1]'(by omega) < l[i] → ∀ j (h : j < l.length), j < i + 1 → okAt l j h := fun e1 e2 e3 => hyes e1 e2 (fun j e => by
          have e4 : j = i - 1 := by omega
          subst e4
          exact e3)
        obtain ⟨m, hm⟩ : ∃ m, i - 1 = m := ⟨_, rfl⟩
        have hmi : m + 1 = i := by omega
        have hml : m < l.length := by omega
        have eqm : l[i - 1]'(by omega) = l[m] := by simp only [hm]
        rw [eqm, hm] at k1
        rw [eqm] at hno3 hyes2
        generalize l[i] = x at k0 hno hno3 hyes2
        generalize l[m] = y at k1 hno3 hyes2
        have HNO1 := Lib.hid hno
        have HNO2 := Lib.hid hno3
        have HY := Lib.hid hyes2
        clear hno hno2 hno3 hyes hyes2 eqm hm HOK eA
        have hw1 : IntKind.i64.wrap ((i : Int) - 1) = (m : Int) := by rw [IntKind.wrap_i64]; omega
        have h4 : (0 : Int) < (i : Int) := by omega
        have h5 : (0 : Int) ≤ (m : Int) := by omega
        have h6 : (m : Int) < (l.length : Int) := by omega
        have HMI := Lib.hid hmi
        clear hmi hi0
        by_cases ha : x = ⟨#[]⟩
        · have HNO := Lib.hid (HNO1.out (.inl (by rw [ha]; decide)))
          subst ha
          go_wp2_with fail
          go_ret
          exact ⟨by rw [decide_eq_false HNO.out]; rfl, HBW.out⟩
        have hxs : ¬ x.size = 0 := fun h => ha (by
          have : x.data = #[] := Array.eq_empty_of_size_eq_zero h
          cases x; simp only at this; rw [this])
        have hxe : (ByteArray.toList x).isEmpty = false := by
          rw [Lib.toList_data]
          cases hd : x.data.toList with
          | nil => exact absurd (by have e : x.data.toList.length = x.size := by simp
                                    rw [hd] at e; simpa using e.symm) hxs
          | cons a r => rfl
        by_cases hb : 16 < x.size
        · have HNO := Lib.hid (HNO1.out (.inr (by omega)))
          have k4 : (16 : Int) < (x.size : Int) := by omega
          go_wp2_with fail
          go_ret
          exact ⟨by rw [decide_eq_false HNO.out]; rfl, HBW.out⟩
        have k4 : ¬ (16 : Int) < (x.size : Int) := by omega
        by_cases hq : x ≤ y
        · have HNO := Lib.hid (HNO2.out (by grind))
          have k5 := decide_eq_true hq
          go_wp2_with fail
          go_ret
          exact ⟨by rw [decide_eq_false HNO.out]; rfl, HBW.out⟩
        have k5 := decide_eq_false hq
        have HYES := Lib.hid (HY.out (by omega) (by omega) (by grind))
        go_wp2_with fail
        go_roundw
        case rel => exact ⟨i + 1, by omega, by go_num, HYES.out, HBW.out⟩
        case measure => simp [intOf]; omega
    · have h1 : ¬ (i : Int) < (l.length : Int) := by omega
      have HYES := Lib.hid (show okB l from okB_at.2 ⟨h7, fun j h => HOK.out j h (by omega)⟩)
      clear HOK
      go_wp2_with fail
      go_ret
      exact ⟨by rw [decide_eq_true HYES.out]; rfl, HBW.out⟩

set_option maxHeartbeats 4000000 in
set_option maxRecDepth 100000 in
theorem bsearchK_any (l : List K) (hr : ∀ j i (_ : i < j) (hj : j < l.length), l[i] < l[j]) (k : K) (v : Value) (w : World) (hv : RdK w w.heap.size v l) (hl : l.length < 4611686018427387904) :
    Calls Try.prog 27 #[v, .string k] w fun e w' => ∃ (n : Nat) (b : Bool), e = .returned (.tuple #[.int .i64 (n : Int), .bool b]) ∧ (if b then n + 1 else n) = whichB l k ∧ (b = true → n < l.length) ∧ n ≤ l.length ∧ Below w.heap.size w w' := by
  obtain ⟨A, c, rfl, hc, hi⟩ := hv.at
  have HI := Lib.hid hi; clear hi
  have HR := Lib.hid hr; clear hr
  clear hv
  obtain ⟨g, hg⟩ : ∃ g, g = w.heap.size := ⟨_, rfl⟩
  have HG := Lib.hid hg; clear hg
  have HC := Lib.hid cless_any
  have HN := Lib.hid isnan_any
  go_enter Try.func27, Try.ntmps27
  go_wp2_with fail
  go_loopg [7, 8] l.length (fun kx s9 s10 wr => ∃ lo hi : Nat, s9 = .int .i64 lo ∧ s10 = .int .i64 hi ∧ lo ≤ hi ∧ hi ≤ l.length ∧ hi - lo ≤ kx ∧ Hid (Below g w wr) ∧
    Hid ((∀ t (_ : t < l.length), t < lo → l[t] < k) ∧ (∀ t (_ : t < l.length), hi ≤ t → ¬ l[t] < k)))
  case atStart => exact ⟨0, l.length, rfl, rfl, Nat.zero_le _, Nat.le_refl _, by omega, Lib.hid (Below.refl _ _), Lib.hid ⟨fun t _ ht => absurd ht (Nat.not_lt_zero _), fun t h1 h2 => by omega⟩⟩
  case round =>
    obtain ⟨lo, hi, rfl, rfl, hlh, hin, hgk, HB, HM⟩ := hrel
    by_cases hlt : lo < hi
    · have hh : (lo + hi) / 2 < l.length := by omega
      obtain ⟨b, o, rfl, hbB, k0⟩ := HI.out ((lo + hi) / 2) hh
      rw [← HB.out.cell (p := ⟨b, _, none⟩) (by rw [HG.out]; exact hbB)] at k0
      have hmid : ∀ t (_ : t < l.length), (t < (lo + hi) / 2 → l[t] < l[(lo + hi) / 2]) ∧ ((lo + hi) / 2 < t → l[(lo + hi) / 2] < l[t]) := fun t ht => ⟨fun h => HR.out _ _ h hh, fun h => HR.out _ _ h ht⟩
      have HMID := Lib.hid hmid; clear hmid
      by_cases hx : l[(lo + hi) / 2] < k
      · have hlo : ∀ t (_ : t < l.length), t < (lo + hi) / 2 + 1 → l[t] < k := fun t ht h => by
          rcases Nat.lt_or_ge t ((lo + hi) / 2) with h1 | h1
          · have := (HMID.out t ht).1 h1; grind
          · have e : t = (lo + hi) / 2 := by omega
            subst e; exact hx
        have HLO := Lib.hid hlo; clear hlo HMID
        have hd := decide_eq_true hx
        clear hx
        generalize l[(lo + hi) / 2] = z at k0 hd
        go_wp2_with fail
        refine (HC.out z k wr).mono ?_
        rintro e w2 ⟨rfl, rfl⟩
        rw [hd]
        clear k0 hd
        go_wp2_with fail
        go_roundg (hi - ((lo + hi) / 2 + 1))
        case measure => omega
        case rel => exact ⟨(lo + hi) / 2 + 1, hi, by rw [show ((lo : Int) + (hi : Int)) / 2 + 1 = (((lo + hi) / 2 + 1 : Nat) : Int) by omega], rfl, by omega, hin, Nat.le_refl _, HB, Lib.hid ⟨HLO.out, HM.out.2⟩⟩
      · have hhi : ∀ t (_ : t < l.length), (lo + hi) / 2 ≤ t → ¬ l[t] < k := fun t ht h => by
          rcases Nat.lt_or_ge ((lo + hi) / 2) t with h1 | h1
          · have := (HMID.out t ht).2 h1; grind
          · have e : t = (lo + hi) / 2 := by omega
            subst e; exact hx
        have HHI := Lib.hid hhi; clear hhi HMID
        have hd := decide_eq_false hx
        clear hx
        generalize l[(lo + hi) / 2] = z at k0 hd
        go_wp2_with fail
        refine (HC.out z k wr).mono ?_
        rintro e w2 ⟨rfl, rfl⟩
        rw [hd]
        clear k0 hd
        go_wp2_with fail
        go_roundg ((lo + hi) / 2 - lo)
        case measure => omega
        case rel => exact ⟨lo, (lo + hi) / 2, rfl, by rw [show ((lo : Int) + (hi : Int)) / 2 = (((lo + hi) / 2 : Nat) : Int) by omega], by omega, by omega, Nat.le_refl _, HB, Lib.hid ⟨HM.out.1, HHI.out⟩⟩
    · obtain rfl : hi = lo := by omega
      have hwl := whichB_le l k
      have hwlow := whichB_low l k
      have hwhigh := whichB_high l k
      by_cases hn : hi < l.length
      · obtain ⟨b, o, rfl, hbB, k0⟩ := HI.out hi hn
        rw [← HB.out.cell (p := ⟨b, _, none⟩) (by rw [HG.out]; exact hbB)] at k0
        by_cases he : l[hi] = k
        · have hw : hi + 1 = whichB l k := by
            have h1 : hi < whichB l k := by
              rcases Nat.lt_or_ge hi (whichB l k) with h | h
              · exact h
              · exfalso
                have hlt2 : whichB l k < l.length := by omega
                have h2 := hwhigh hlt2
                rcases Nat.lt_or_ge (whichB l k) hi with h3 | h3
                · have := HR.out hi _ h3 hn
                  grind
                · have e : whichB l k = hi := by omega
                  simp only [e] at h2
                  exact h2 (by rw [he]; exact Std.IsPreorder.le_refl _)
            rcases Nat.lt_or_ge (hi + 1) (whichB l k) with h2 | h2
            · exfalso
              have h3 := hwlow (hi + 1) h2 (by omega)
              have h4 := HR.out (hi + 1) hi (by omega) (by omega)
              grind
            · omega
          have HW := Lib.hid hw; clear hw hwl hwlow hwhigh
          rw [he] at k0
          clear he
          go_wp2_with fail
          go_ret2
          exact ⟨hi, true, rfl, HW.out, fun _ => hn, hin, by have h := HB.out; rwa [HG.out] at h⟩
        · have hw : hi = whichB l k := by
            have hne : ¬ l[hi] ≤ k := fun h => by
              have := HM.out.2 hi hn (Nat.le_refl _)
              grind
            rcases Nat.lt_trichotomy hi (whichB l k) with h | h | h
            · exact absurd (hwlow hi h hn) hne
            · exact h
            · exfalso
              have hlt2 : whichB l k < l.length := by omega
              have h2 := hwhigh hlt2
              have := HM.out.1 _ hlt2 h
              grind
          have HW := Lib.hid hw; clear hw hwl hwlow hwhigh
          generalize l[hi] = z at k0 he
          go_wp2_with fail
          refine (HN.out z wr).mono ?_
          rintro e w2 ⟨rfl, rfl⟩
          go_wp2_with fail
          go_ret2
          exact ⟨hi, false, rfl, HW.out, by simp, hin, by have h := HB.out; rwa [HG.out] at h⟩
      · have hw : hi = whichB l k := by
          rcases Nat.lt_trichotomy hi (whichB l k) with h | h | h
          · omega
          · exact h
          · exfalso
            have hlt2 : whichB l k < l.length := by omega
            have h2 := hwhigh hlt2
            have := HM.out.1 _ hlt2 h
            grind
        have HW := Lib.hid hw; clear hw hwl hwlow hwhigh
        go_wp2_with fail
        go_ret2
        exact ⟨hi, false, rfl, HW.out, by simp, hin, by have h := HB.out; rwa [HG.out] at h⟩

set_option maxHeartbeats 4000000 in
set_option maxRecDepth 100000 in
theorem pwhich_any (b : List K) (k : K) (vb : Value) (w : World) (hb : RdK w w.heap.size vb b) (hbl : b.length ≤ 140737488351232) (_hk : k.size < 4611686018427387904) :
    Calls Try.prog 10 #[vb, .string k] w fun e w' => e = .returned (.tuple #[.int .i64 (if okB b then (whichB b k : Int) else 0), .int .i64 (if okB b then 0 else 2)]) ∧ Below w.heap.size w w' := by
  have HS := Lib.hid (psoundB_any b vb w hb)
  by_cases hok : okB b
  · rw [if_pos hok, if_pos hok]
    rw [decide_eq_true hok] at HS
    have HK := Lib.hid (fun W (h : Below w.heap.size w W) => bsearchK_any b hok.rise k vb W ((hb.below h (Nat.le_refl _)).mono h.size) (by omega))
    obtain ⟨Ab, cb, rfl, _⟩ := hb.at
    clear hb hok
    go_enter Try.func10, Try.ntmps10
    go_wp2_with fail
    refine HS.out.mono ?_
    rintro e w1 ⟨rfl, hb1⟩
    have HB1 := Lib.hid hb1; clear hb1
    go_wp2_with fail
    refine (HK.out w1 HB1.out).mono ?_
    rintro e w2 ⟨n, is, rfl, hn, hn2, hn3, hb2⟩
    have HB2 := Lib.hid (HB1.out.trans (hb2.mono HB1.out.size)); clear hb2
    cases is with
    | true =>
      have hl : n < b.length := hn2 rfl
      have HN := Lib.hid hn; clear hn hn2 hn3
      have hw : IntKind.i64.wrap ((n : Int) + 1) = ((n + 1 : Nat) : Int) := by rw [IntKind.wrap_i64]; omega
      go_wp2_with fail
      go_ret2
      exact ⟨by have h := HN.out; simp only [if_true] at h; rw [← h]; first | rfl | simp, HB2.out⟩
    | false =>
      have HN := Lib.hid hn; clear hn hn2 hn3
      go_wp2_with fail
      go_ret2
      exact ⟨by have h := HN.out; simp only [Bool.false_eq_true, if_false] at h; rw [← h]; first | rfl | simp, HB2.out⟩
  · rw [if_neg hok, if_neg hok]
    rw [decide_eq_false hok] at HS
    obtain ⟨Ab, cb, rfl, _⟩ := hb.at
    clear hb hok
    go_enter Try.func10, Try.ntmps10
    go_wp2_with fail
    refine HS.out.mono ?_
    rintro e w1 ⟨rfl, hb1⟩
    have HB1 := Lib.hid hb1; clear hb1
    go_wp2_with fail
    go_ret2
    exact ⟨rfl, HB1.out⟩
end Go.Proofs.Yteelnholmlabmaa
