/- The reference's clock: Set. -/
import Derived.Test.YtcigodaacdfagaaRl
namespace Go.Proofs.Ytcigodaacdfagaa
open Go.RowKit

theorem take_while_of {α : Type} (p : α → Bool) : ∀ (l : List α) (i : Nat), i ≤ l.length → (∀ j (h : j < l.length), j < i → p l[j] = true) → (∀ h : i < l.length, p l[i] = false) → l.takeWhile p = l.take i ∧ l.dropWhile p = l.drop i
  | [], i, _, _, _ => by simp
  | x :: r, 0, _, _, h => by
    have h0 : p x = false := h (Nat.zero_lt_succ _)
    rw [List.takeWhile_cons, List.dropWhile_cons, h0]
    exact ⟨rfl, rfl⟩
  | x :: r, i + 1, hi, ha, h => by
    have h0 : p x = true := ha 0 (Nat.zero_lt_succ _) (Nat.zero_lt_succ _)
    obtain ⟨h1, h2⟩ := take_while_of p r i (Nat.le_of_succ_le_succ hi) (fun j hj hji => ha (j + 1) (Nat.succ_lt_succ hj) (Nat.succ_lt_succ hji)) (fun hl => h (Nat.succ_lt_succ hl))
    rw [List.takeWhile_cons, List.dropWhile_cons, h0, h1, h2]
    exact ⟨rfl, rfl⟩
theorem ins_of {x : Bl} {l : List Bl} {i : Nat} (hi : i ≤ l.length) (ha : ∀ j (h : j < l.length), j < i → l[j].fore x = true) (hn : ∀ h : i < l.length, l[i].fore x = false) : ins x l = l.take i ++ x :: l.drop i := by
  obtain ⟨h1, h2⟩ := take_while_of (·.fore x) l i hi ha hn
  unfold ins
  rw [h1, h2]
theorem fore_ahead {bell at_ : Int} (x : Bl) (h : x.at_ < at_) : x.fore ⟨bell, at_⟩ = true := Bl.fore_iff.2 (.inl h)
theorem fore_same {bell at_ : Int} (x : Bl) (h : x.at_ = at_) (h2 : x.bell < bell) : x.fore ⟨bell, at_⟩ = true := Bl.fore_iff.2 (.inr ⟨h, h2⟩)
theorem not_fore {bell at_ : Int} (x : Bl) (h : ¬ x.at_ < at_) (h2 : x.at_ = at_ → ¬ x.bell < bell) : x.fore ⟨bell, at_⟩ = false := by
  cases e : x.fore ⟨bell, at_⟩
  · rfl
  · rcases Bl.fore_iff.1 e with k | ⟨k, k2⟩
    · exact absurd k h
    · exact absurd k2 (h2 k)

set_option maxHeartbeats 8000000 in
set_option maxRecDepth 100000 in
theorem rset_any (base r : Nat) (G : Nat → Prop) (c : Ck) (bell at_ : Int) (w : World) (h : RkAt w base r G c) :
    Calls Try.prog 10 #[.pointer (some ⟨r, 0, none⟩), .int .i64 bell, .int .i64 at_] w fun e w' => e = .returned (.int .i64 (c.set bell at_).1) ∧ RkWent w w' base r G (c.set bell at_).2 := by
  obtain ⟨R, hR⟩ : ∃ R, R = c.set bell at_ := ⟨_, rfl⟩
  rw [← hR]
  unfold Ck.set at hR
  have H := Lib.hid h
  have HW := Lib.hid (rwithout_any base r G c bell w h)
  obtain ⟨A0, cap0, hb0, _⟩ := h.blk
  have c0 := hb0.cell 0 _ rfl
  by_cases hb : bell < 0 ∨ 4095 < bell
  · rw [if_pos hb] at hR
    have HR := Lib.hid hR
    clear hR h hb0
    rcases (show bell < 0 ∨ (¬ bell < 0 ∧ 4095 < bell) by omega) with h1 | ⟨h1, h2⟩
    all_goals
      clear hb
      go_enter Try.func10, Try.ntmps10
      go_wp2_with fail
      go_ret
      rw [HR.out]
      exact ⟨rfl, RkWent.of H.out (Below.refl _ _)⟩
  rw [if_neg hb] at hR
  have h1 : ¬ bell < 0 := by omega
  have h2 : ¬ 4095 < bell := by omega
  by_cases hold : at_ < c.now
  · rw [if_pos hold] at hR
    have HR := Lib.hid hR
    clear hR h hb0 hb
    go_enter Try.func10, Try.ntmps10
    go_wp2_with fail
    go_ret
    rw [HR.out]
    exact ⟨rfl, RkWent.of H.out (Below.refl _ _)⟩
  rw [if_neg hold] at hR
  by_cases hbig : 1099511627776 < at_
  · rw [if_pos hbig] at hR
    have HR := Lib.hid hR
    clear hR h hb0 hb
    go_enter Try.func10, Try.ntmps10
    go_wp2_with fail
    go_ret
    rw [HR.out]
    exact ⟨rfl, RkWent.of H.out (Below.refl _ _)⟩
  rw [if_neg hbig] at hR
  have hok := h.ok.set bell at_
  unfold Ck.set at hok
  rw [if_neg hb, if_neg hold, if_neg hbig] at hok
  have hlen := h.ok.len
  have hle := (wo_sub bell c.l).length_le
  have HB0 := Lib.hid hb0
  obtain ⟨K, hK⟩ : ∃ K, K = wo bell c.l := ⟨_, rfl⟩
  rw [← hK] at HW hR hle hok
  have HR := Lib.hid hR
  have HOK := Lib.hid hok
  have hkl : K.length ≤ 4096 := by omega
  clear hR hok hb h hb0 hK hle hlen
  go_enter Try.func10, Try.ntmps10
  go_wp2_with fail
  refine HW.out.mono ?_
  rintro e w1 ⟨g, cap, rfl, ho, hb1⟩
  have HO := Lib.hid ho
  have HB1 := Lib.hid hb1
  have hrd := Own.rd encBl_len ho
  have hcap : K.length ≤ cap := by
    obtain ⟨A', c', e, hc, _⟩ := hrd
    injection e with _ _ e
    omega
  have HRD := Lib.hid hrd
  have hz1 := hb1.size
  clear ho hb1 hrd HW c0
  go_wp2_with fail
  go_loopw [8] (fun kv wr => ∃ i : Nat, i ≤ K.length ∧ kv = .int .i64 (i : Int) ∧ wr = w1 ∧ ∀ j (h : j < K.length), j < i → K[j].fore ⟨bell, at_⟩ = true) (fun kv _ => K.length - (intOf kv).toNat)
  case atStart => exact ⟨0, Nat.zero_le _, rfl, rfl, fun j _ h => by omega⟩
  case round =>
    obtain ⟨i, hi, rfl, rfl, hall⟩ := hrel
    have HALL := Lib.hid hall
    clear hall
    have hstay : ((∃ hil : i < K.length, K[i].at_ < at_) ∨ (∃ hil : i < K.length, K[i].at_ = at_ ∧ K[i].bell < bell)) ∨ ((i = K.length ∨ (∃ hil : i < K.length, ¬ K[i].at_ < at_ ∧ K[i].at_ = at_ ∧ ¬ K[i].bell < bell) ∨ (∃ hil : i < K.length, ¬ K[i].at_ < at_ ∧ ¬ K[i].at_ = at_)) ∧ ins ⟨bell, at_⟩ K = K.take i ++ ⟨bell, at_⟩ :: K.drop i) := by
      rcases Nat.lt_or_ge i K.length with hil | hil
      · rcases Int.lt_or_le K[i].at_ at_ with k | k
        · exact .inl (.inl ⟨hil, k⟩)
        · by_cases k2 : K[i].at_ = at_
          · by_cases k3 : K[i].bell < bell
            · exact .inl (.inr ⟨hil, k2, k3⟩)
            · exact .inr ⟨.inr (.inl ⟨hil, by omega, k2, k3⟩), ins_of hi HALL.out fun h => not_fore _ (by omega) fun _ => k3⟩
          · exact .inr ⟨.inr (.inr ⟨hil, by omega, k2⟩), ins_of hi HALL.out fun h => not_fore _ (by omega) fun e => absurd e k2⟩
      · exact .inr ⟨.inl (by omega), ins_of hi HALL.out fun h => by omega⟩
    have hcells : i < K.length → ∃ b o, (some ⟨g, 0, none⟩ : Option Addr) = some ⟨b, o, none⟩ ∧ wr.cell? ⟨b, o + i * 2, none⟩ = some (.int .i64 (K.getD i default).bell) ∧ wr.cell? ⟨b, o + i * 2 + 1, none⟩ = some (.int .i64 (K.getD i default).at_) := fun hil => by
      obtain ⟨A2, c2, e, _, hc⟩ := HRD.out
      injection e with e1 _ _
      subst e1
      obtain ⟨b2, o2, hA, _, hq⟩ := hc i hil
      rw [show K.getD i default = K[i] by simp [List.getD, hil]]
      exact ⟨b2, o2, hA, hq 0 _ rfl, hq 1 _ rfl⟩
    have HC := Lib.hid hcells
    clear hcells
    have h0 : (0 : Int) ≤ (i : Int) := by omega
    rcases hstay with (⟨hil, k⟩ | ⟨hil, k, k2⟩) | ⟨hleave, hins⟩
    · have h3 : (i : Int) < (K.length : Int) := by omega
      have h4 : IntKind.i64.wrap ((i : Int) + 1) = ((i + 1 : Nat) : Int) := by rw [IntKind.wrap_i64]; omega
      obtain ⟨b2, o2, e, q0, q1⟩ := HC.out hil
      injection e with e
      injection e with e1 e2 _
      subst e1 e2
      have HF := Lib.hid (show ∀ j (h : j < K.length), j < i + 1 → K[j].fore ⟨bell, at_⟩ = true from fun j h hj => by
        rcases Nat.lt_or_ge j i with h' | h'
        · exact HALL.out j h h'
        · obtain rfl : j = i := by omega
          exact fore_ahead _ k)
      rw [show K.getD i default = K[i] by simp [List.getD, hil]] at q0 q1
      generalize K[i] = x at q0 q1 k
      obtain ⟨xb, xa⟩ := x
      simp only [Nat.zero_add] at q0 q1
      simp only at k
      go_wp2_with fail
      go_roundw
      case rel => exact ⟨i + 1, by omega, rfl, by first | trivial | rfl, HF.out⟩
      case measure => simp [intOf]; omega
    · have h3 : (i : Int) < (K.length : Int) := by omega
      have h4 : IntKind.i64.wrap ((i : Int) + 1) = ((i + 1 : Nat) : Int) := by rw [IntKind.wrap_i64]; omega
      obtain ⟨b2, o2, e, q0, q1⟩ := HC.out hil
      injection e with e
      injection e with e1 e2 _
      subst e1 e2
      have HF := Lib.hid (show ∀ j (h : j < K.length), j < i + 1 → K[j].fore ⟨bell, at_⟩ = true from fun j h hj => by
        rcases Nat.lt_or_ge j i with h' | h'
        · exact HALL.out j h h'
        · obtain rfl : j = i := by omega
          exact fore_same _ k k2)
      rw [show K.getD i default = K[i] by simp [List.getD, hil]] at q0 q1
      generalize K[i] = x at q0 q1 k k2
      obtain ⟨xb, xa⟩ := x
      simp only [Nat.zero_add] at q0 q1
      simp only at k k2
      subst k
      have hirr : ¬ xa < xa := by omega
      go_wp2_with fail
      go_roundw
      case rel => exact ⟨i + 1, by omega, rfl, by first | trivial | rfl, HF.out⟩
      case measure => simp [intOf]; omega
    · obtain ⟨P1, hP1⟩ : ∃ P1, P1 = K.take i := ⟨_, rfl⟩
      obtain ⟨P2, hP2⟩ : ∃ P2, P2 = K.drop i := ⟨_, rfl⟩
      rw [← hP1, ← hP2] at hins
      have hl1 : P1.length = i := by rw [hP1, List.length_take]; omega
      have hl2 : P2.length = K.length - i := by rw [hP2, List.length_drop]
      have hrb : r < w.heap.size := HB0.out.size
      have hic : (i : Int) ≤ (cap : Int) := by omega
      have hem := Own.empty (enc := encBl) (k := 2) (e := 53) wr wr.heap.size (Nat.le_refl _)
      have hB2 : Below wr.heap.size wr (wr.alloc (.cells #[] 53)) := (Below.refl _ wr).alloc (Nat.le_refl _) _
      have hz2 : wr.heap.size ≤ (wr.alloc (.cells #[] 53)).heap.size := hB2.size
      have hp1 := Rd.take HRD.out i hi
      rw [← hP1] at hp1
      have HP1 := Lib.hid (hp1.below hB2 (Nat.le_refl _))
      have HEM := Lib.hid hem
      have HB2 := Lib.hid hB2
      have HZ2 := Lib.hid hz2
      have HL1 := Lib.hid hl1
      have HL2 := Lib.hid hl2
      have HINS := Lib.hid hins
      have HP2 := Lib.hid hP2
      have HHI := Lib.hid hi
      have HKL := Lib.hid hkl
      have HCAP := Lib.hid hcap
      have HZ1 := Lib.hid hz1
      clear hp1 hem hB2 hz2 hl1 hl2 hins hP1 hP2 hkl hcap hz1
      have hcond : ¬ ((i : Int) < (K.length : Int)) ∨ (∃ xb, (i : Int) < (K.length : Int) ∧ (wr.cell? ⟨g, 0 + i * 2, none⟩ = some (.int .i64 xb)) ∧ (wr.cell? ⟨g, 0 + i * 2 + 1, none⟩ = some (.int .i64 at_)) ∧ ¬ at_ < at_ ∧ ¬ xb < bell) ∨ (∃ xb xa, (i : Int) < (K.length : Int) ∧ (wr.cell? ⟨g, 0 + i * 2, none⟩ = some (.int .i64 xb)) ∧ (wr.cell? ⟨g, 0 + i * 2 + 1, none⟩ = some (.int .i64 xa)) ∧ ¬ xa < at_ ∧ ¬ xa = at_) := by
        rcases hleave with hl | ⟨hil, k1, k2, k3⟩ | ⟨hil, k1, k2⟩
        · exact .inl (by omega)
        all_goals
          obtain ⟨b2, o2, e, q0, q1⟩ := HC.out hil
          injection e with e
          injection e with e1 e2 _
          subst e1 e2
          rw [show K.getD i default = K[i] by simp [List.getD, hil]] at q0 q1
        · rw [k2] at q1
          exact .inr (.inl ⟨_, by omega, q0, q1, by omega, k3⟩)
        · exact .inr (.inr ⟨_, _, by omega, q0, q1, k1, k2⟩)
      clear hleave hi HALL
      rcases hcond with hl | ⟨xb, h3, q0, q1, k1, k3⟩ | ⟨xb, xa, h3, q0, q1, k1, k2⟩
      all_goals
        try simp only [Nat.zero_add] at q0 q1
        go_wp2_with (at_builtin; refine wpList_addBl rfl _ _ rfl wr.heap.size (.slice (some ⟨wr.heap.size, 0, none⟩) 0 0) [] rfl HEM.out wr.heap.size (.slice (some ⟨g, 0, none⟩) i cap) P1 rfl HP1.out (by have := HL1.out; have := HHI.out; have := HKL.out; simp only [List.length_nil]; omega) HZ2.out ?_)
        intro A3 c3 w3 ho3 hg3
        have ho4 : OwnBl w3 wr.heap.size (.slice A3 P1.length c3) P1 := by simpa using ho3.out
        have hB3 : Below wr.heap.size wr w3 := HEM.out.grown HB2.out hg3.out (Nat.le_refl _) HZ2.out
        have HOA := Lib.hid (ho4.alloc (.cells #[.int .i64 bell, .int .i64 at_] 53))
        have HB4 := Lib.hid (hB3.alloc hB3.size (.cells #[.int .i64 bell, .int .i64 at_] 53))
        have HZ4 := Lib.hid HB4.out.size
        have HRX := Lib.hid (RdBl.one w3 ⟨bell, at_⟩)
        simp only at HRX
        have HN1 := Lib.hid (show P1.length + [(⟨bell, at_⟩ : Bl)].length ≤ 5000000000000 by have := HL1.out; have := HHI.out; have := HKL.out; simp only [List.length_cons, List.length_nil]; omega)
        clear ho3 hg3 ho4 hB3
        go_wp2_with (at_builtin; refine wpList_addBl rfl _ _ rfl wr.heap.size (.slice A3 P1.length c3) P1 rfl HOA.out (w3.heap.size + 1) (.slice (some ⟨w3.heap.size, 0, none⟩) 1 1) [⟨bell, at_⟩] rfl HRX.out HN1.out HZ4.out ?_)
        intro A5 c5 w5 ho5 hg5
        have ho6 : OwnBl w5 wr.heap.size (.slice A5 (P1.length + 1) c5) (P1 ++ [⟨bell, at_⟩]) := by simpa using ho5.out
        have hB5 : Below wr.heap.size wr w5 := HOA.out.grown HB4.out hg5.out (Nat.le_refl _) HZ4.out
        obtain ⟨Q, hQ⟩ : ∃ Q, Q = P1 ++ [(⟨bell, at_⟩ : Bl)] := ⟨_, rfl⟩
        rw [← hQ] at ho6
        have hql : P1.length + 1 = Q.length := by rw [hQ]; simp
        rw [hql] at ho6 ⊢
        have HQ := Lib.hid hQ
        have HQL := Lib.hid hql
        have HO6 := Lib.hid ho6
        have HB5 := Lib.hid hB5
        have HZ5 := Lib.hid hB5.size
        have hbr := (HB0.out.below HB1.out hrb).below hB5 (Nat.lt_of_lt_of_le hrb HZ1.out)
        have p1 := hbr.cell 1 _ rfl
        have p1f := hbr.frozen 1
        have HBR := Lib.hid hbr
        have hkc : (K.length : Int) ≤ (cap : Int) := by have := HCAP.out; omega
        have hik : (i : Int) ≤ (K.length : Int) := by have := HHI.out; omega
        have HN2 := Lib.hid (show Q.length + P2.length ≤ 5000000000000 by have := HL1.out; have := HL2.out; have := HQL.out; have := HHI.out; have := HKL.out; omega)
        clear ho5 hg5 ho6 hB5 hQ hql hbr
        by_cases hc : cap = i
        case' pos =>
          first
          | (exfalso; have := HCAP.out; omega)
          | (have hlen : K.length = i := by have := HHI.out; have := HCAP.out; omega
             have HY := Lib.hid (show P2 = [] from List.eq_nil_of_length_eq_zero (by have := HL2.out; omega)))
        case' neg =>
          have hy : Rd encBl 2 w5 wr.heap.size (.slice (some ⟨g, i * 2, none⟩) (K.length - i) (cap - i)) P2 := by
            have := Rd.drop (HRD.out.below HB5.out (Nat.le_refl _)) i (cap - i) HHI.out (by have := HCAP.out; omega) (some ⟨g, i * 2, none⟩) (fun _ => by simp only [Option.map_some]; unfold Addr.add; split <;> simp_all)
            rwa [← HP2.out] at this
          have HY := Lib.hid hy
          clear hy
        all_goals
          go_wp2_with (at_builtin; refine wpList_addBl rfl _ _ rfl wr.heap.size (.slice A5 Q.length c5) Q rfl HO6.out wr.heap.size _ P2 rfl ?y1 HN2.out HZ5.out ?_)
          case y1 => first | exact HY.out | (rw [HY.out]; exact Rd.none_ _ _ _ _)
          intro A7 c7 w7 ho7 hg7
          have ho8 : OwnBl w7 wr.heap.size (.slice A7 (Q.length + P2.length) c7) (Q ++ P2) := by have h := ho7.out; simpa only [List.length_append] using h
          have hB7 : Below wr.heap.size wr w7 := HO6.out.grown HB5.out hg7.out (Nat.le_refl _) HZ5.out
          have hbr := (HB0.out.below HB1.out hrb).below hB7 (Nat.lt_of_lt_of_le hrb HZ1.out)
          have p1 := hbr.cell 1 _ rfl
          have p1f := hbr.frozen 1
          have HO8 := Lib.hid ho8
          have HB7 := Lib.hid hB7
          clear ho7 hg7 ho8 hB7 hbr
          go_wp2_with fail
          go_ret
          have hl : Q ++ P2 = ins ⟨bell, at_⟩ K := by rw [HINS.out, HQ.out]; simp
          have hok := HOK.out
          rw [← hl] at hok
          rw [HR.out]
          refine ⟨rfl, ?_⟩
          have := H.out.relist (HB1.out.trans (HB7.out.mono HZ1.out)) (show Q.length + P2.length = (Q ++ P2).length by simp) (HO8.out.lower HZ1.out) hok
          rw [hl] at this
          exact this
end Go.Proofs.Ytcigodaacdfagaa
