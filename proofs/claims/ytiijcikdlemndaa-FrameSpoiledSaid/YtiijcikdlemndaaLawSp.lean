/- The walk of the law FrameSpoiled. -/
import Derived.Test.YtiijcikdlemndaaAwk
namespace Go.Proofs.Ytiijcikdlemndaa
open Go.RowKit

theorem addB_get (m : List UInt8) (t k : Nat) (hm : m.length = 4) (hk : k < 4) : (addB m (four t))[k]? = some (m[k] ^^^ byteAt t k) := by
  match m, hm, k, hk with
  | [a, b, c, d], _, 0, _ => rfl
  | [a, b, c, d], _, 1, _ => rfl
  | [a, b, c, d], _, 2, _ => rfl
  | [a, b, c, d], _, 3, _ => rfl
theorem addB_len (m : List UInt8) (t : Nat) (hm : m.length = 4) : (addB m (four t)).length = 4 := by simp [addB, four, hm]

/-- the row behind k bytes -/
def rowK (x : Nat) (p m s : List UInt8) (t k : Nat) : List UInt8 := (four x ++ p ++ (addB m (four t)).take k) ++ (m.drop k ++ s)
theorem rowK_zero (x : Nat) (p m s : List UInt8) (t : Nat) : rowK x p m s t 0 = four x ++ (p ++ (m ++ s)) := by simp [rowK]
theorem rowK_four (x : Nat) (p m s : List UInt8) (t : Nat) (hm : m.length = 4) : rowK x p m s t 4 = four x ++ (p ++ (addB m (four t) ++ s)) := by
  rw [rowK, List.take_of_length_le (by rw [addB_len m t hm]; exact Nat.le_refl _), List.drop_eq_nil_of_le (by omega)]
  simp
theorem rowK_len (x : Nat) (p m s : List UInt8) (t k : Nat) (hm : m.length = 4) (hk : k ≤ 4) : (rowK x p m s t k).length = p.length + 4 + s.length + 4 := by
  have := addB_len m t hm
  have h4 : (four x).length = 4 := rfl
  simp only [rowK, List.length_append, List.length_take, List.length_drop, this, hm, h4]
  omega
theorem rowK_get (x : Nat) (p m s : List UInt8) (t k : Nat) (hm : m.length = 4) (hk : k < 4) (h : 4 + p.length + k < (rowK x p m s t k).length) : (rowK x p m s t k)[4 + p.length + k] = m[k] := by
  have h4 : (four x).length = 4 := rfl
  have hq : (four x ++ p ++ (addB m (four t)).take k).length = 4 + p.length + k := by
    simp only [List.length_append, List.length_take, addB_len m t hm, h4]; omega
  have e := List.drop_eq_getElem_cons (show k < m.length by omega)
  have : (rowK x p m s t k)[4 + p.length + k]? = some m[k] := by
    rw [rowK, List.getElem?_append_right (by omega), hq, Nat.sub_self, e]; rfl
  rw [List.getElem?_eq_getElem h] at this
  exact Option.some.inj this
theorem rowK_set (x : Nat) (p m s : List UInt8) (t k : Nat) (hm : m.length = 4) (hk : k < 4) : (rowK x p m s t k).set (4 + p.length + k) (m[k] ^^^ byteAt t k) = rowK x p m s t (k + 1) := by
  have h4 : (four x).length = 4 := rfl
  have hq : (four x ++ p ++ (addB m (four t)).take k).length = 4 + p.length + k := by
    simp only [List.length_append, List.length_take, addB_len m t hm, h4]; omega
  have e := List.drop_eq_getElem_cons (show k < m.length by omega)
  rw [rowK, List.set_append_right _ _ (by omega), hq, Nat.sub_self, e, List.cons_append, List.set_cons_zero, rowK, List.take_add_one, addB_get m t k hm hk]
  simp
theorem openAns_burst {p m s : List UInt8} {t : Nat} (hm : m.length = 4) (ht : t < 2 ^ 32) (h0 : t ≠ 0) : openAns (rowK (sum (p ++ (m ++ s))) p m s t 4) = ([], 2) := by
  rw [rowK_four _ _ _ _ _ hm, openAns, if_neg (by simp [four]), show ∀ z, (four (sum (p ++ (m ++ s))) ++ z).take 4 = four (sum (p ++ (m ++ s))) from fun _ => rfl,
    show ∀ z, (four (sum (p ++ (m ++ s))) ++ z).drop 4 = z from fun _ => rfl, val_four (sum_lt _), if_neg]
  exact fun h => burst p m s t hm ht h0 h.symm


theorem decode_burst {l : List UInt8} (h : openAns l = ([], 2)) : decodeAns l = (zeroM, 2) := by
  rw [decodeAns, h, if_neg (by simp)]

set_option maxHeartbeats 4000000 in
set_option maxRecDepth 100000 in
theorem frameSpoiled_walk (m : Msg) (hf : fitsM m) (v : Value) (n t : Nat) (hn : n < 65536) (ht : t < 2 ^ 32) (w : World) (hv : RdB w w.heap.size v m.body) (hl : m.body.length ≤ 140737488351232) :
    Calls Try.prog 8 #[mval m v, .int .u16 (n : Int), .int .u32 (t : Int)] w fun e w' => e = .returned (.bool true) ∧ Below w.heap.size w w' := by
  have hb1 : Below w.heap.size w (w.alloc (.cells #[.int .i64 m.kind, .int .i64 m.frm, .int .i64 m.to, .int .i64 m.epoch, .int .i64 m.a, .int .i64 m.b, .int .i64 m.c, v] 24)) := (Below.refl _ _).alloc (Nat.le_refl _) _
  obtain ⟨A, c, hvv, _, _⟩ := hv.at
  have hv1 := hv.next hb1
  subst hvv
  by_cases hs : soundM m
  · have henc := pencode_ok m hs hf (.slice A m.body.length c) _ hv1 (by omega)
    have hml := msgIn_len m hs hf
    simp only [mval] at henc ⊢
    have HENC := Lib.hid henc
    have HB1 := Lib.hid hb1
    clear henc hb1 hv hv1 hs
    go_enter Try.func8, Try.ntmps8
    go_wp2_with fail
    refine HENC.out.mono ?_
    rintro e w1 ⟨g, l, hle, hg, rfl, hrow, hb⟩
    rw [hle] at hml
    rw [World.size_alloc] at hg hb
    have hbw : Below w.heap.size w w1 := HB1.out.trans (hb.mono (by omega))
    have hgw : w.heap.size ≤ g := by omega
    have hsl := sealed_len l
    clear hle hb hg
    have HBW := Lib.hid hbw
    have hg1 := hrow.lt
    clear hbw
    by_cases h0 : t = 0
    · subst h0
      generalize (sealed l).length = sl at hsl ⊢
      clear hrow
      go_wp2_with fail
      refine (awake_any _).mono ?_
      rintro e w2 ⟨rfl, hb2⟩
      have HB2 := Lib.hid (HBW.out.trans (hb2.mono (by omega))); clear hb2
      go_wp2_with fail
      refine (awake_any _).mono ?_
      rintro e w3 ⟨rfl, hb3⟩
      have HB3 := Lib.hid (HB2.out.trans (hb3.mono HB2.out.size)); clear hb3
      go_wp2_with fail
      go_ret
      exact ⟨rfl, HB3.out⟩
    by_cases h4 : l.length < 4
    · have ht0 : ((t : Int) == 0) = false := by simp; omega
      have hlt8 : (((sealed l).length : Nat) : Int) < 8 := by omega
      generalize (sealed l).length = sl at hsl hlt8 ⊢
      clear hrow
      go_wp2_with fail
      refine (awake_any _).mono ?_
      rintro e w2 ⟨rfl, hb2⟩
      have HB2 := Lib.hid (HBW.out.trans (hb2.mono (by omega))); clear hb2
      go_wp2_with fail
      refine (awake_any _).mono ?_
      rintro e w3 ⟨rfl, hb3⟩
      have HB3 := Lib.hid (HB2.out.trans (hb3.mono HB2.out.size)); clear hb3
      go_wp2_with fail
      go_ret
      exact ⟨rfl, HB3.out⟩
    obtain ⟨i, hi⟩ : ∃ i, i = n % (l.length - 3) := ⟨_, rfl⟩
    have hil : i < l.length - 3 := by rw [hi]; exact Nat.mod_lt _ (by omega)
    obtain ⟨p, mm, s, rfl, hp, hm⟩ : ∃ p mm s, l = p ++ (mm ++ s) ∧ p.length = i ∧ mm.length = 4 :=
      ⟨l.take i, (l.drop i).take 4, (l.drop i).drop 4, by rw [List.take_append_drop, List.take_append_drop], by simp; omega, by simp; omega⟩
    have hans := decode_burst (openAns_burst (p := p) (s := s) hm ht h0)
    have hz : sealed (p ++ (mm ++ s)) = rowK (sum (p ++ (mm ++ s))) p mm s t 0 := by rw [rowK_zero]; rfl
    rw [hz, rowK_len _ _ _ _ _ _ hm (Nat.zero_le _)]
    rw [hz] at hrow
    generalize sum (p ++ (mm ++ s)) = x at hrow hans
    have hlen : (p ++ (mm ++ s)).length = p.length + 4 + s.length := by simp [hm]; omega
    rw [hlen] at hi hml h4 hil
    rw [hp] at hi hml h4 hil ⊢
    have hgt : ∀ k (hk : k < 4) (h : 4 + i + k < (rowK x p mm s t k).length), (rowK x p mm s t k)[4 + i + k] = mm[k] := fun k hk h => by
      subst hp; exact rowK_get x p mm s t k hm hk h
    have hst : ∀ k (hk : k < 4), (rowK x p mm s t k).set (4 + i + k) (mm[k] ^^^ byteAt t k) = rowK x p mm s t (k + 1) := fun k hk => by
      subst hp; exact rowK_set x p mm s t k hm hk
    have hkl : ∀ k, k ≤ 4 → (rowK x p mm s t k).length = i + 4 + s.length + 4 := fun k hk => by rw [rowK_len _ _ _ _ _ _ hm hk, hp]
    generalize s.length = q at *
    have hrem : (n : Int).tmod ((i : Int) + 4 + q + 4 - 7) = (i : Int) := by
      rw [Int.tmod_eq_emod_of_nonneg (by omega), show ((i : Int) + 4 + q + 4 - 7) = ((i + 4 + q - 3 : Nat) : Int) by omega]
      exact_mod_cast hi.symm
    have hq1 : ¬ ((i : Int) + 4 + q + 4 < 8) := by omega
    have ht0 : ((t : Int) == 0) = false := by simp; omega
    have hw1 : IntKind.i64.wrap ((i : Int) + 4 + q + 4 - 7) = (i : Int) + 4 + q + 4 - 7 := by rw [IntKind.wrap_i64]; omega
    have hne7 : ¬ ((i : Int) + 4 + q + 4 - 7 = 0) := by omega
    clear hil hz hi hp hlen h4 hsl
    have HANS := Lib.hid hans; clear hans
    have HGT := Lib.hid hgt; clear hgt
    have HST := Lib.hid hst; clear hst
    have HKL := Lib.hid hkl; clear hkl
    have HR1 := Lib.hid hrow; clear hrow
    go_wp2_with fail
    refine (awake_any _).mono ?_
    rintro e w2 ⟨rfl, hb2⟩
    have hr2 := HR1.out.next hb2
    have hb2w := HBW.out.trans (hb2.mono (by omega))
    have HR2 := Lib.hid hr2
    have HB2 := Lib.hid hb2w
    have hgs : w.heap.size ≤ g := hgw
    clear hr2 hb2w hb2 hg1 hgw
    go_wp2_with fail
    go_loopw [10] (fun kv wr => ∃ k : Nat, k ≤ 4 ∧ kv = .int .i64 k ∧ RowB wr g (rowK x p mm s t k) ∧ Below w.heap.size w wr) (fun kv _ => 4 - (intOf kv).toNat)
    case atStart => exact ⟨0, Nat.zero_le _, rfl, HR2.out, HB2.out⟩
    case round =>
      obtain ⟨k, hk, rfl, hr, hb⟩ := hrel
      by_cases hlt : k < 4
      · have hcl : 4 + i + k < (rowK x p mm s t k).length := by rw [HKL.out k hk]; omega
        have hc0 := hr.cell (4 + i + k) hcl
        rw [HGT.out k hlt] at hc0
        have hf0 := hr.frozen (4 + i + k)
        have hcv := byteAt_conv (t := t) k
        rw [IntKind.wrap_u8] at hcv
        have hx8 : bits .xor .u8 (mm[k].toNat : Int) ((byteAt t k).toNat : Int) = ((mm[k] ^^^ byteAt t k).toNat : Int) := by
          rw [toNat_xor]; exact xor8 (byte_lt _) (byte_lt _)
        have hset := hr.set (4 + i + k) (mm[k] ^^^ byteAt t k)
        rw [HST.out k hlt] at hset
        have hbs := hb.setCell (p := ⟨g, 4 + i + k, none⟩) hgs (.int .u8 ((mm[k] ^^^ byteAt t k).toNat : Int))
        have hi1 : (4 : Int) + i + k < (i : Int) + 4 + q + 4 := by omega
        have hi0 : ¬ ((4 : Int) + i + k < 0) := by omega
        have hwr : IntKind.i64.wrap ((4 : Int) + i + k) = (4 : Int) + i + k := by rw [IntKind.wrap_i64]; omega
        have hw8 : IntKind.i64.wrap (8 * (k : Int)) = 8 * (k : Int) := by rw [IntKind.wrap_i64]; omega
        have htn : ((4 : Int) + i + k).toNat = 4 + i + k := by omega
        rw [← hx8, ← hcv] at hset hbs
        have HS := Lib.hid hset
        have HBS := Lib.hid hbs
        clear hr hb hset hbs hcl
        go_wp2_with fail
        refine wp_region_plan (S := fun _ => True) [(true, 0), (true, 1), (true, 2), (true, 3), (true, 4), (true, 6), (true, 7), (true, 8), (true, 9), (true, 10), (false, 5), (true, 11), (true, 12), (false, 13)] (by kernel_rfl) (by kernel_rfl) (fun _ _ d _ _ h => by cases d <;> exact h) trivial ?_
        repeat (refine Plan.take (v := ?_) rfl rfl ?_ ?_; rotate_left; (focus (intro W hW; go_simp; (try with_reducible rfl); done)); (try simp only [Act.put, List.setIfInBounds_toArray, List.set_cons_zero, List.set_cons_succ]))
        refine Plan.step rfl rfl (fun Kk hK => ?_)
        go_simp
        refine hK.out _ _ trivial ?_
        clear hK Kk
        (try simp only [Act.put, List.setIfInBounds_toArray, List.set_cons_zero, List.set_cons_succ])
        repeat (refine Plan.take (v := ?_) rfl rfl ?_ ?_; rotate_left; (focus (intro W hW; go_simp; (try with_reducible rfl); done)); (try simp only [Act.put, List.setIfInBounds_toArray, List.set_cons_zero, List.set_cons_succ]))
        refine Plan.step rfl rfl (fun Kk hK => ?_)
        go_simp
        refine hK.out _ _ trivial ?_
        clear hK Kk
        (try simp only [Act.put, List.setIfInBounds_toArray, List.set_cons_zero, List.set_cons_succ])
        simp only [Plan]
        go_wp2_with fail
        go_roundw
        case rel => exact ⟨k + 1, by omega, by go_num, HS.out, HBS.out.drew⟩
        case measure => simp [intOf]; omega
      · obtain rfl : k = 4 := by omega
        have hrd := hr.whole
        rw [HKL.out 4 (Nat.le_refl _)] at hrd
        have hop := pdecode_any _ _ wr hrd (by rw [HKL.out 4 (Nat.le_refl _)]; omega)
        rw [HANS.out] at hop
        simp only [mval, zeroM] at hop
        have HOP := Lib.hid hop
        have HB := Lib.hid hb
        clear hrd hop hr hb
        go_wp2_with fail
        refine HOP.out.mono ?_
        rintro e w5 ⟨v5, rfl, hr5, hb5⟩
        obtain ⟨A5, c5, rfl, _, _⟩ := hr5.at
        clear hr5
        have HB5 := Lib.hid (HB.out.trans (hb5.mono HB.out.size))
        clear hb5
        go_wp2_with fail
        go_ret
        exact ⟨rfl, HB5.out.alloc HB5.out.size _⟩
  · have henc := pencode_bad m hs hf (.slice A m.body.length c) _ hv1 (by omega)
    simp only [mval] at henc ⊢
    have HENC := Lib.hid henc
    have HB1 := Lib.hid hb1
    clear henc hb1 hv hv1 hs
    go_enter Try.func8, Try.ntmps8
    go_wp2_with fail
    refine HENC.out.mono ?_
    rintro e w1 ⟨rfl, hb⟩
    have HBW := Lib.hid (HB1.out.trans (hb.mono (by simp))); clear hb
    go_wp2_with fail
    refine (awake_any _).mono ?_
    rintro e w2 ⟨rfl, hb2⟩
    have HB2 := Lib.hid (HBW.out.trans (hb2.mono HBW.out.size)); clear hb2
    go_wp2_with fail
    refine (awake_any _).mono ?_
    rintro e w3 ⟨rfl, hb3⟩
    have HB3 := Lib.hid (HB2.out.trans (hb3.mono HB2.out.size)); clear hb3
    go_wp2_with fail
    go_ret
    exact ⟨rfl, HB3.out⟩
end Go.Proofs.Ytiijcikdlemndaa
