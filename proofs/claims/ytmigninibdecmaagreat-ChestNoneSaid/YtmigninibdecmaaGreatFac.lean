/- What Seal and Open answer, the program's and the reference's. What Open answers, the program's. Frames as plain data: what is laid, what is read; the one undoes the other. Blocks that are known whole: a struct behind a pointer, a variable of the call's own. Appends that say what else they leave. The writer: what its calls leave. -/
import Derived.Test.YtmigninibdecmaaGreatFab
import Derived.Test.YtmigninibdecmaaGreatFaa
namespace Go.Proofs.YtmigninibdecmaaGreat
open Go.RowKit

/-- a number out of bytes, the lowest first -/
def val : List UInt8 → Nat
  | [] => 0
  | c :: r => c.toNat + 256 * val r
set_option maxRecDepth 100000 in
theorem val_append (a b : List UInt8) : val (a ++ b) = val a + 256 ^ a.length * val b := by
  induction a with
  | nil => simp [val]
  | cons c a ih => rw [List.cons_append, val, ih, val, List.length_cons, Nat.pow_succ, Nat.mul_add, Nat.add_assoc, Nat.mul_comm (256 ^ a.length) 256, Nat.mul_assoc]
set_option maxRecDepth 100000 in
theorem val_lt : ∀ l : List UInt8, val l < 256 ^ l.length
  | [] => by simp [val]
  | c :: l => by
    have := val_lt l
    have := byte_lt c
    rw [val, List.length_cons, Nat.pow_succ]
    omega
set_option maxRecDepth 100000 in
theorem val_four {t : Nat} (h : t < 2 ^ 32) : val (four t) = t := by
  simp only [four, val, byteAt_toNat]
  simp only [Nat.mul_zero, Nat.pow_zero, Nat.div_one, Nat.reduceMul, Nat.reducePow]
  omega
set_option maxRecDepth 100000 in
theorem four_val {l : List UInt8} (h : l.length = 4) : four (val l) = l := by
  match l, h with
  | [a, b, c, d], _ =>
    have ha := byte_lt a
    have hb := byte_lt b
    have hc := byte_lt c
    have hd := byte_lt d
    simp only [four, val, byteAt, Nat.mul_zero, Nat.pow_zero, Nat.div_one, Nat.reduceMul, Nat.reducePow, Nat.add_zero]
    have e : ∀ (x : Nat) (y : UInt8), x % 256 = y.toNat → UInt8.ofNat x = y := fun x y h => by
      apply UInt8.toNat_inj.1
      simpa using h
    rw [e _ a (by omega), e _ b (by omega), e _ c (by omega), e _ d (by omega)]
set_option maxRecDepth 100000 in
theorem fill_set (F : List UInt8) (j m : Nat) (h : j < F.length) : ((F.take j) ++ List.replicate (m + 1) 0).set j F[j] = F.take (j + 1) ++ List.replicate m 0 := by
  rw [List.set_append_right _ _ (by simp; omega)]
  simp only [List.length_take, Nat.min_eq_left (Nat.le_of_lt h), Nat.sub_self, List.replicate_succ, List.set_cons_zero]
  rw [List.take_add_one, List.getElem?_eq_getElem h, Option.toList_some, List.append_assoc, List.singleton_append]

set_option maxHeartbeats 400000 in
set_option maxRecDepth 100000 in
theorem ahead_any (l : List UInt8) (h4 : 4 ≤ l.length) (v : Value) (w : World) (B : Nat) (hv : RdB w B v l) : Calls Tryz.prog 105 #[v] w fun e w' => e = .returned (.int .u32 (val (l.take 4) : Nat)) ∧ w' = w := by
  obtain ⟨A, c, rfl, hc, hi⟩ := hv.at
  have HI := Lib.hid hi; clear hi
  have HV := Lib.hid hv; clear hv
  go_enter Tryz.func105, Tryz.ntmps105
  go_wp2
  go_loop [3, 5] (fun rv i => ∃ j q : Nat, j ≤ 4 ∧ i = .int .i64 j ∧ rv = .int .u32 q ∧ q = val (l.take j)) (fun _ i => 4 - (intOf i).toNat)
  case atStart => exact ⟨0, 0, Nat.zero_le _, rfl, rfl, rfl⟩
  case round =>
    obtain ⟨j, q, hj, rfl, rfl, he⟩ := hrel
    have hq := val_lt (l.take j)
    rw [← he, List.length_take, Nat.min_eq_left (by omega)] at hq
    have HE := Lib.hid he; clear he
    by_cases hlt : j < 4
    · obtain ⟨b, o, rfl, hbB, h1⟩ := HI.out j (by omega)
      have h2 := byte32 (l[j]'(by omega))
      have hx : l[j].toNat * 2 ^ (8 * j) < 4294967296 := by
        have h8 := byte_lt l[j]
        have hp : 2 ^ (8 * j) ≤ 2 ^ (8 * 3) := Nat.pow_le_pow_right (by decide) (by omega)
        calc _ ≤ 255 * 2 ^ (8 * 3) := Nat.mul_le_mul (by omega) hp
          _ < _ := by decide
      have hor : bits .or .u32 (q : Int) ((l[j].toNat : Int) * 2 ^ (8 * j) % 4294967296) = ((q + l[j].toNat * 2 ^ (8 * j) : Nat) : Int) := by
        have e : ((l[j].toNat : Int) * 2 ^ (8 * j) % 4294967296) = ((l[j].toNat * 2 ^ (8 * j) : Nat) : Int) := by
          have : ((l[j].toNat : Int) * 2 ^ (8 * j)) = ((l[j].toNat * 2 ^ (8 * j) : Nat) : Int) := by simp
          rw [this]; omega
        rw [e]
        have hq2 : q < 2 ^ (8 * j) := by rw [Nat.pow_mul]; exact hq
        have hp : 2 ^ (8 * j) ≤ 2 ^ 32 := Nat.pow_le_pow_right (by decide) (by omega)
        have := bits_join_low .u32 32 (by decide) wraps_u32 (8 * j) (q : Int) ((l[j].toNat * 2 ^ (8 * j) : Nat) : Int) (by omega) (by exact_mod_cast hq2) (by exact_mod_cast Nat.lt_of_lt_of_le hq2 hp) (by omega) (by simp) (by exact_mod_cast hx)
        rw [this]; simp
      have hs : q + l[j].toNat * 2 ^ (8 * j) = val (l.take (j + 1)) := by
        rw [List.take_add_one, List.getElem?_eq_getElem (by omega), val_append, ← HE.out, List.length_take, Nat.min_eq_left (by omega), Nat.pow_mul, Nat.mul_comm]
        simp [val]
      have HS := Lib.hid hs; clear hs hx
      go_wp2_with fail
      go_round
      case rel => exact ⟨j + 1, _, by omega, by go_num, rfl, HS.out⟩
      case measure => simp [intOf]; omega
    · go_wp2_with fail
      go_ret
      exact ⟨by rw [HE.out, show j = 4 by omega]; rfl, rfl⟩

def sealed (l : List UInt8) : List UInt8 := four (sum l) ++ l
set_option maxRecDepth 100000 in
theorem byteAt_conv {t : Nat} (j : Nat) : IntKind.u8.wrap ((t : Int) / 2 ^ (8 * j)) = ((byteAt t j).toNat : Int) := by
  rw [IntKind.wrap_u8, byteAt_toNat]
  simp
set_option maxRecDepth 100000 in
theorem four_get (t j : Nat) (h : j < (four t).length) : (four t)[j] = byteAt t j := by
  match j, h with
  | 0, _ => rfl
  | 1, _ => rfl
  | 2, _ => rfl
  | 3, _ => rfl

set_option maxHeartbeats 1000000 in
set_option maxRecDepth 100000 in
theorem seal_any (l : List UInt8) (v : Value) (w : World) (hv : RdB w w.heap.size v l) (hl : l.length ≤ 140737488355328) : Calls Tryz.prog 133 #[v] w fun e w' => e = .returned (.slice (some ⟨w.heap.size, 0, none⟩) (sealed l).length (sealed l).length) ∧ RowB w' w.heap.size (sealed l) ∧ Below w.heap.size w w' := by
  have hsum := sum_any l v w _ hv (by omega)
  obtain ⟨A, c, rfl, hc, _⟩ := hv.at
  obtain ⟨t, ht⟩ : ∃ t, t = sum l := ⟨_, rfl⟩
  have htl : t < 2 ^ 32 := by rw [ht]; exact sum_lt l
  rw [← ht] at hsum
  have HT := Lib.hid ht; clear ht
  have HS := Lib.hid hsum; clear hsum
  have HV := Lib.hid hv; clear hv
  obtain ⟨g, hg⟩ : ∃ g, g = w.heap.size := ⟨_, rfl⟩
  have HG := Lib.hid hg
  have hw : IntKind.i64.wrap (4 + (l.length : Int)) = ((l.length + 4 : Nat) : Int) := by rw [IntKind.wrap_i64]; omega
  clear hg
  go_enter Tryz.func133, Tryz.ntmps133
  go_wp2_with fail
  refine HS.out.mono ?_
  rintro e w1 ⟨rfl, rfl⟩
  go_wp2_with (refine wpList_makeB rfl _ _ rfl (l.length + 4) ?c1 ?c2 (by omega) ?c3)
  case c1 => rfl
  case c2 => rfl
  intro w2 hr2 hb2
  rw [← HG.out] at hr2
  rw [show w1.heap.size = g from HG.out.symm]
  have HR2 := Lib.hid hr2; clear hr2
  have HB2 := Lib.hid hb2; clear hb2
  go_wp2_with fail
  go_loopw [12] (fun i wr => ∃ j : Nat, j ≤ 4 ∧ i = .int .i64 j ∧ RowB wr g ((four t).take j ++ List.replicate (l.length + 4 - j) 0) ∧ Below g w1 wr) (fun i _ => 4 - (intOf i).toNat)
  case atStart => exact ⟨0, Nat.zero_le _, rfl, HR2.out, by rw [HG.out]; exact HB2.out⟩
  case round =>
    obtain ⟨j, hj, rfl, hr, hb⟩ := hrel
    by_cases hlt : j < 4
    · have hfl : j < (four t).length := hlt
      have hcl : j < ((four t).take j ++ List.replicate (l.length + 4 - j) (0 : UInt8)).length := by simp [four]; omega
      have hc0 := hr.cell j hcl
      have hf0 := hr.frozen j
      have hset := hr.set j (byteAt t j)
      rw [show l.length + 4 - j = (l.length + 4 - (j + 1)) + 1 by omega, ← four_get t j hfl, fill_set _ _ _ hfl, four_get t j hfl] at hset
      have hcv := byteAt_conv (t := t) j
      have hbs := hb.setCell (p := ⟨g, j, none⟩) (Nat.le_refl _) (.int .u8 ((byteAt t j).toNat : Int))
      have HR := Lib.hid hset
      have HB := Lib.hid hbs
      clear hr hset hbs
      go_wp2_with fail
      go_roundw
      case rel => exact ⟨j + 1, by omega, by go_num, HR.out, HB.out⟩
      case measure => simp [intOf]; omega
    · obtain rfl : j = 4 := by omega
      rw [show l.length + 4 - 4 = l.length by omega, show (four t).take 4 = four t from rfl] at hr
      have hfit : 4 + l.length ≤ (four t ++ List.replicate l.length (0 : UInt8)).length := by simp [four]; omega
      have hfin : (four t ++ List.replicate l.length (0 : UInt8)).take 4 ++ (l ++ (four t ++ List.replicate l.length (0 : UInt8)).drop (4 + l.length)) = sealed l := by
        rw [sealed, ← HT.out, List.take_append_of_le_length (by simp [four]), show (four t).take 4 = four t from rfl, List.drop_eq_nil_of_le (by simp [four]; omega), List.append_nil]
      have hle : (sealed l).length = l.length + 4 := by simp [sealed, four]
      have hrv : RdB wr g (.slice A l.length c) l := by have := HV.out; rw [← HG.out] at this; exact this.below hb (Nat.le_refl _)
      have HR := Lib.hid hr
      have HB := Lib.hid hb
      have HF := Lib.hid hfin
      have HL := Lib.hid hle
      have HRV := Lib.hid hrv
      clear hr hb hfin hle hrv
      by_cases hz : l = []
      · subst hz
        go_wp2_with (refine wpList_copyB rfl (.tmp 25) (.tmp 26) rfl g 4 _ _ (four t ++ List.replicate ([] : List UInt8).length 0) [] _ g rfl ?c1 rfl HRV.out HR.out hfit g w1 HB.out (Nat.le_refl _) ?c2)
        case c1 => intro h; simp at h
        intro w4 hr4 hb4
        go_wp2_with fail
        go_ret
        exact ⟨by rw [HL.out, ← HG.out]; rfl, by rw [← HG.out, ← HF.out]; simpa using hr4.out, by rw [← HG.out]; exact hb4⟩
      · go_wp2_with (with_reducible show wpList _ _ _ (⟨some 27, _, _, _, _, _⟩ :: _) _ _; go_must (refine wpList_copyB rfl (.tmp 25) (.tmp 26) rfl g 4 (some ⟨g, 4, none⟩) _ (four t ++ List.replicate l.length 0) l (.slice A l.length c) g rfl ?d1 rfl HRV.out HR.out hfit g w1 HB.out (Nat.le_refl _) ?d2))
        intro w4 hr4 hb4
        go_wp2_with fail
        go_ret
        exact ⟨by rw [HL.out, ← HG.out]; rfl, by rw [← HG.out, ← HF.out]; simpa using hr4.out, by rw [← HG.out]; exact hb4⟩
end Go.Proofs.YtmigninibdecmaaGreat
namespace Go.Proofs.YtmigninibdecmaaGreat
open Go.RowKit

/-- what Open answers: the bytes, and the error's number -/
def openAns (l : List UInt8) : List UInt8 × Int :=
  if l.length < 4 then ([], 3) else if val (l.take 4) = sum (l.drop 4) then (l.drop 4, 0) else ([], 2)

set_option maxRecDepth 100000 in
theorem openAns_sealed (l : List UInt8) : openAns (sealed l) = (l, 0) := by
  unfold openAns sealed
  rw [if_neg (by simp [four]), show (four (sum l) ++ l).take 4 = four (sum l) from rfl, show (four (sum l) ++ l).drop 4 = l from rfl, val_four (sum_lt l), if_pos rfl]

set_option maxRecDepth 100000 in
theorem RdB.tail {w : World} {B b o c : Nat} {p r : List UInt8} (h : RdB w B (.slice (some ⟨b, o, none⟩) (p ++ r).length c) (p ++ r)) (hp : p.length = 4) (c' : Nat) (hc : r.length ≤ c') : RdB w B (.slice (some ⟨b, o + 4, none⟩) r.length c') r := by
  have := Rd.drop (k := 1) h 4 c' (by simp [hp]) (by simp [hp]; omega) (some ⟨b, o + 4, none⟩) (fun _ => by simp [Addr.add])
  rw [show (p ++ r).drop 4 = r by rw [← hp]; simp, show (p ++ r).length - 4 = r.length by simp [hp]] at this
  exact this

set_option maxHeartbeats 1000000 in
set_option maxRecDepth 100000 in
theorem open_any (l : List UInt8) (v : Value) (w : World) (hv : RdB w w.heap.size v l) (hl : l.length ≤ 140737488355328) : Calls Tryz.prog 76 #[v] w fun e w' => ∃ v', e = .returned (.tuple #[v', .int .i64 (openAns l).2]) ∧ RdB w' w'.heap.size v' (openAns l).1 ∧ Below w.heap.size w w' := by
  by_cases h4 : l.length < 4
  · obtain ⟨A, c, rfl, hc, _⟩ := hv.at
    rw [show openAns l = ([], 3) by rw [openAns, if_pos h4]]
    clear hv
    go_enter Tryz.func76, Tryz.ntmps76
    go_wp2_with fail
    go_ret2
    exact ⟨_, rfl, Rd.nil _ _, Below.refl _ _⟩
  · obtain ⟨p, r, rfl, hp⟩ : ∃ p r, l = p ++ r ∧ p.length = 4 := ⟨l.take 4, l.drop 4, by simp, by simp; omega⟩
    have hah := ahead_any (p ++ r) (by omega) v w _ hv
    obtain ⟨A, c, rfl, hc, hi⟩ := hv.at
    obtain ⟨b, o, rfl, hbB, _⟩ := hi 0 (by simp [hp]; omega)
    clear hi
    obtain ⟨c', rfl⟩ : ∃ c', c = c' + 4 := ⟨c - 4, by simp [hp] at hc; omega⟩
    have hlen : (p ++ r).length = r.length + 4 := by simp [hp]; omega
    have htl := hv.tail hp c' (by simp [hp] at hc; omega)
    rw [show (p ++ r).take 4 = p by rw [← hp]; simp] at hah
    have hans : openAns (p ++ r) = if val p = sum r then (r, 0) else ([], 2) := by
      rw [openAns, if_neg h4, show (p ++ r).take 4 = p by rw [← hp]; simp, show (p ++ r).drop 4 = r by rw [← hp]; simp]
    rw [hans]
    rw [hlen] at hah hv hc hl ⊢
    clear hans hlen h4
    obtain ⟨x, hx⟩ : ∃ x, x = val p := ⟨_, rfl⟩
    rw [← hx] at hah ⊢
    clear hx
    have hcr : r.length ≤ c' := by omega
    have HA := Lib.hid hah; clear hah
    have HT := Lib.hid htl
    have HV := Lib.hid hv; clear hv
    obtain ⟨tp, htp⟩ : ∃ tp, tp = Value.slice (if c' = 0 then some ⟨b, o, none⟩ else some ⟨b, o + 4, none⟩) r.length c' := ⟨_, rfl⟩
    have hrt : RdB w w.heap.size tp r := by
      subst htp
      split
      · have : r = [] := List.eq_nil_of_length_eq_zero (by omega)
        subst this
        exact Rd.none_ _ _ _ _
      · exact HT.out
    have hsm := sum_any r tp w _ hrt (by omega)
    have HRT := Lib.hid hrt; clear hrt
    have HS := Lib.hid hsm; clear hsm
    have HX := Lib.hid htp
    clear htp HT
    by_cases hxs : x = sum r
    · rw [if_pos hxs]
      rw [← hxs] at HS
      clear hxs
      by_cases hc0 : c' = 0
      · have hr0 : r = [] := List.eq_nil_of_length_eq_zero (by omega)
        subst hc0 hr0
        have htp := HX.out
        simp only [if_true] at htp
        subst htp
        go_enter Tryz.func76, Tryz.ntmps76
        go_wp2_with fail
        refine HA.out.mono ?_
        rintro e w1 ⟨rfl, rfl⟩
        go_wp2_with fail
        refine HS.out.mono ?_
        rintro e w2 ⟨rfl, rfl⟩
        go_wp2_with (refine wpList_makeB rfl _ _ rfl 0 ?pa ?pb (by omega) ?pc)
        case pa => rfl
        case pb => rfl
        intro w3 hr3 hb3
        have hrt3 : RdB w3 w2.heap.size (.slice (some ⟨b, o, none⟩) 0 0) ([] : List UInt8) := HRT.out.below hb3 (Nat.le_refl _)
        have HR3 := Lib.hid hr3; clear hr3
        have HRT3 := Lib.hid hrt3; clear hrt3
        have HB3 := Lib.hid hb3; clear hb3
        go_wp2_with (with_reducible show wpList _ _ _ (⟨some 21, _, _, _, _, _⟩ :: _) _ _; go_must (refine wpList_copyB rfl (.tmp 19) (.tmp 20) rfl w2.heap.size 0 (some ⟨w2.heap.size, 0, none⟩) _ ([] : List UInt8) ([] : List UInt8) (.slice (some ⟨b, o, none⟩) 0 0) w2.heap.size rfl (fun _ => rfl) rfl HRT3.out HR3.out (by simp) w2.heap.size w2 HB3.out (Nat.le_refl _) ?pd))
        intro w4 hr4 hb4
        go_wp2_with fail
        go_ret2
        have hr5 : RowB w4 w2.heap.size ([] : List UInt8) := by simpa using hr4.out
        exact ⟨_, rfl, hr5.rd 0 0 _ rfl (Nat.le_refl _), hb4⟩
      · have htp := HX.out
        rw [if_neg hc0] at htp
        subst htp
        go_enter Tryz.func76, Tryz.ntmps76
        go_wp2_with fail
        refine HA.out.mono ?_
        rintro e w1 ⟨rfl, rfl⟩
        go_wp2_with fail
        refine HS.out.mono ?_
        rintro e w2 ⟨rfl, rfl⟩
        go_wp2_with (refine wpList_makeB rfl _ _ rfl r.length ?qa ?qb (by omega) ?qc)
        case qa => rfl
        case qb => rfl
        intro w3 hr3 hb3
        have hrt3 : RdB w3 w2.heap.size (.slice (some ⟨b, o + 4, none⟩) r.length c') r := HRT.out.below hb3 (Nat.le_refl _)
        have HR3 := Lib.hid hr3; clear hr3
        have HRT3 := Lib.hid hrt3; clear hrt3
        have HB3 := Lib.hid hb3; clear hb3
        go_wp2_with (with_reducible show wpList _ _ _ (⟨some 21, _, _, _, _, _⟩ :: _) _ _; go_must (refine wpList_copyB rfl (.tmp 19) (.tmp 20) rfl w2.heap.size 0 (some ⟨w2.heap.size, 0, none⟩) _ (List.replicate r.length 0 : List UInt8) r (.slice (some ⟨b, o + 4, none⟩) r.length c') w2.heap.size rfl (fun _ => rfl) rfl HRT3.out HR3.out (by simp) w2.heap.size w2 HB3.out (Nat.le_refl _) ?qd))
        intro w4 hr4 hb4
        go_wp2_with fail
        go_ret2
        have hr5 : RowB w4 w2.heap.size r := by simpa using hr4.out
        exact ⟨_, rfl, hr5.rd 0 r.length _ rfl (Nat.le_refl _), hb4⟩
    · rw [if_neg hxs]
      obtain ⟨y, hy⟩ : ∃ y, y = sum r := ⟨_, rfl⟩
      rw [← hy] at HS hxs
      clear hy
      by_cases hc0 : c' = 0
      · have hr0 : r = [] := List.eq_nil_of_length_eq_zero (by omega)
        subst hc0 hr0
        have htp := HX.out
        simp only [if_true] at htp
        subst htp
        go_enter Tryz.func76, Tryz.ntmps76
        go_wp2_with fail
        refine HA.out.mono ?_
        rintro e w1 ⟨rfl, rfl⟩
        go_wp2_with fail
        refine HS.out.mono ?_
        rintro e w2 ⟨rfl, rfl⟩
        go_wp2_with fail
        go_ret2
        exact ⟨_, rfl, Rd.nil _ _, Below.refl _ _⟩
      · have htp := HX.out
        rw [if_neg hc0] at htp
        subst htp
        go_enter Tryz.func76, Tryz.ntmps76
        go_wp2_with fail
        refine HA.out.mono ?_
        rintro e w1 ⟨rfl, rfl⟩
        go_wp2_with fail
        refine HS.out.mono ?_
        rintro e w2 ⟨rfl, rfl⟩
        go_wp2_with fail
        go_ret2
        exact ⟨_, rfl, Rd.nil _ _, Below.refl _ _⟩
end Go.Proofs.YtmigninibdecmaaGreat
namespace Go.Proofs.YtmigninibdecmaaGreat
open Go.RowKit

/-- what is not read yet; none: something was not as it has to be -/
abbrev Rest := Option (List UInt8)
def rdN : Rest → Int × Rest
  | none => (0, none)
  | some l => if (numAns l).2.2 = 0 then (((numAns l).1 : Int), some (l.drop (numAns l).2.1)) else (0, none)
def rdT : Rest → List UInt8 × Rest
  | none => ([], none)
  | some l => if (textAns l).2.2 = 0 then ((textAns l).1, some (l.drop (textAns l).2.1)) else ([], none)

theorem rdN_enc {n : Nat} (h : n < 9223372036854775808) (s : List UInt8) : rdN (some (enc n ++ s)) = ((n : Int), some s) := by
  rw [rdN, numAns_enc h, if_pos rfl]
  simp
theorem rdN_once {S : Rest} {n : Int} {r : List UInt8} (h : rdN S = (n, some r)) : ∃ k : Nat, n = (k : Int) ∧ k < 9223372036854775808 ∧ S = some (enc k ++ r) := by
  cases S with
  | none => simp [rdN] at h
  | some l =>
    rw [rdN] at h
    split at h
    · rename_i h0
      obtain ⟨m, u, e⟩ : ∃ m u, numAns l = (m, u, 0) := ⟨_, _, Prod.ext rfl (Prod.ext rfl h0)⟩
      obtain ⟨h1, h2, _, s, h3⟩ := numAns_once e
      rw [e] at h
      simp only [Prod.mk.injEq, Option.some.injEq] at h
      refine ⟨m, h.1.symm, enc_lt (by omega), ?_⟩
      rw [← h.2, h3, h1, List.drop_left]
    · simp at h
theorem rdN_lt (S : Rest) : 0 ≤ (rdN S).1 ∧ (rdN S).1 < 9223372036854775808 := by
  rcases hh : rdN S with ⟨n, _ | r⟩
  · cases S with
    | none => simp [rdN] at hh; simp [← hh]
    | some l => rw [rdN] at hh; split at hh <;> simp at hh; simp [← hh]
  · obtain ⟨k, rfl, hk, _⟩ := rdN_once hh
    simp only
    omega
theorem textAns_enc {t : List UInt8} (h : t.length ≤ 65536) (s : List UInt8) : textAns (encT t ++ s) = (t, (encT t).length, 0) := by
  have e : encT t ++ s = enc t.length ++ (t ++ s) := by simp [encT]
  rw [textAns, e, numAns_enc (by omega)]
  simp only
  rw [if_neg (by simp), if_neg (by omega), if_neg (by simp), List.drop_left, List.take_left, encT, List.length_append]
theorem rdT_enc {t : List UInt8} (h : t.length ≤ 65536) (s : List UInt8) : rdT (some (encT t ++ s)) = (t, some s) := by
  rw [rdT, textAns_enc h, if_pos rfl]
  simp
theorem rdT_once {S : Rest} {t r : List UInt8} (h : rdT S = (t, some r)) : t.length ≤ 65536 ∧ S = some (encT t ++ r) := by
  cases S with
  | none => simp [rdT] at h
  | some l =>
    rw [rdT] at h
    split at h
    · rename_i h0
      simp only [Prod.mk.injEq, Option.some.injEq] at h
      obtain ⟨rfl, rfl⟩ := h
      unfold textAns at h0 ⊢
      by_cases h1 : (numAns l).2.2 = 0
      · obtain ⟨m, u, e⟩ : ∃ m u, numAns l = (m, u, 0) := ⟨_, _, Prod.ext rfl (Prod.ext rfl h1)⟩
        obtain ⟨k1, k2, _, s, k3⟩ := numAns_once e
        rw [e] at h0 ⊢
        simp only at h0 ⊢
        rw [if_neg (by simp)] at h0 ⊢
        by_cases h2 : m > 65536
        · rw [if_pos h2] at h0; simp at h0
        · rw [if_neg h2] at h0 ⊢
          by_cases h3 : l.length - u < m
          · rw [if_pos h3] at h0; simp at h0
          · rw [if_neg h3]
            simp only
            rw [k3, k1] at h3 ⊢
            simp only [List.length_append, Nat.add_sub_cancel_left, Nat.not_lt] at h3
            rw [List.drop_left]
            refine ⟨by simp; omega, ?_⟩
            have e1 : (s.take m).length = m := by simp; omega
            rw [← List.drop_drop, List.drop_left, encT, e1, List.append_assoc, List.take_append_drop]
      · rw [if_pos h1] at h0
        exact absurd h0 h1
    · simp at h
theorem rdT_len (S : Rest) : (rdT S).1.length ≤ 65536 := by
  rcases hh : rdT S with ⟨t, _ | r⟩
  · cases S with
    | none => simp [rdT] at hh; simp [hh]
    | some l => rw [rdT] at hh; split at hh <;> simp at hh; simp [hh]
  · exact (rdT_once hh).1
/-- behind each reading there are no more bytes than before -/
theorem rdN_shrink {S : Rest} {r : List UInt8} (h : (rdN S).2 = some r) : ∃ l, S = some l ∧ r.length ≤ l.length := by
  obtain ⟨k, _, _, e⟩ := rdN_once (n := (rdN S).1) (r := r) (by rw [← h])
  exact ⟨_, e, by simp⟩
theorem rdT_shrink {S : Rest} {r : List UInt8} (h : (rdT S).2 = some r) : ∃ l, S = some l ∧ r.length ≤ l.length := by
  obtain ⟨_, e⟩ := rdT_once (t := (rdT S).1) (r := r) (by rw [← h])
  exact ⟨_, e, by simp⟩

/-! ### so many of them -/
section
variable {α : Type} (one : Rest → α × Rest)
def repS : Nat → Rest → Rest
  | 0, S => S
  | i + 1, S => (one (repS i S)).2
def repL : Nat → Rest → List α
  | 0, _ => []
  | i + 1, S => repL i S ++ [(one (repS one i S)).1]
theorem repL_len (S : Rest) : ∀ i, (repL one i S).length = i
  | 0 => rfl
  | i + 1 => by rw [repL, List.length_append, repL_len S i]; rfl
/-- how many, at most so many -/
def rdCount (most : Nat) (S : Rest) : Int × Rest := if (rdN S).1 > (most : Int) then (0, none) else rdN S
def rdList (most : Nat) (S : Rest) : List α × Rest := (repL one (rdCount most S).1.toNat (rdCount most S).2, repS one (rdCount most S).1.toNat (rdCount most S).2)
theorem rdCount_le (most : Nat) (S : Rest) : 0 ≤ (rdCount most S).1 ∧ (rdCount most S).1 ≤ most := by
  unfold rdCount
  have := rdN_lt S
  split
  · simp
  · exact ⟨this.1, by omega⟩
theorem rdList_len (most : Nat) (S : Rest) : (rdList one most S).1.length ≤ most := by
  have := rdCount_le most S
  rw [rdList, repL_len]
  omega
variable (hone : ∀ S, (one S).2 ≠ none → S ≠ none)
include hone in
theorem repS_none (i : Nat) : repS one i none = none := by
  induction i with
  | zero => rfl
  | succ i ih =>
    rw [repS, ih]
    cases h : (one none).2 with
    | none => rfl
    | some r => exact absurd rfl (hone none (by rw [h]; simp))
include hone in
theorem repS_add (i j : Nat) {S : Rest} (h : repS one (i + j) S ≠ none) : repS one i S ≠ none := by
  induction j with
  | zero => exact h
  | succ j ih => exact ih (hone _ h)
variable {one} {f : α → List UInt8}
theorem rep_enc : ∀ (i : Nat) (l : List α) (s : List UInt8), (∀ x ∈ l, ∀ s, one (some (f x ++ s)) = (x, some s)) → i ≤ l.length → repS one i (some (l.flatMap f ++ s)) = some ((l.drop i).flatMap f ++ s) ∧ repL one i (some (l.flatMap f ++ s)) = l.take i
  | 0, l, s, _, _ => ⟨by simp [repS], by simp [repL]⟩
  | i + 1, l, s, ho, h => by
    obtain ⟨h1, h2⟩ := rep_enc i l s ho (by omega)
    have hlt : i < l.length := h
    have e := List.drop_eq_getElem_cons hlt
    have h3 := ho l[i] (List.getElem_mem hlt) ((l.drop (i + 1)).flatMap f ++ s)
    rw [← List.append_assoc] at h3
    constructor
    · rw [repS, h1, e, List.flatMap_cons, h3]
    · rw [repL, h1, h2, e, List.flatMap_cons, h3, List.take_add_one, List.getElem?_eq_getElem hlt]
      rfl
/-- how many, and each of them -/
def listB (f : α → List UInt8) (l : List α) : List UInt8 := enc l.length ++ l.flatMap f
theorem rdList_enc (most : Nat) (hm : most < 9223372036854775808) (l : List α) (s : List UInt8) (ho : ∀ x ∈ l, ∀ s, one (some (f x ++ s)) = (x, some s)) (hl : l.length ≤ most) : rdList one most (some (listB f l ++ s)) = (l, some s) := by
  have e : rdCount most (some (listB f l ++ s)) = ((l.length : Int), some (l.flatMap f ++ s)) := by
    unfold rdCount listB
    rw [List.append_assoc, rdN_enc (by omega), if_neg (by simp only; omega)]
  obtain ⟨h1, h2⟩ := rep_enc l.length l s ho (Nat.le_refl _)
  rw [rdList, e]
  simp only [Int.toNat_natCast]
  rw [h1, h2]
  simp
end

/-! ### messages -/
structure Msg where
  kind : Int
  frm : Int
  to : Int
  epoch : Int
  a : Int
  b : Int
  c : Int
  body : List UInt8
instance : DecidableEq Msg := fun x y => decidable_of_iff (x.kind = y.kind ∧ x.frm = y.frm ∧ x.to = y.to ∧ x.epoch = y.epoch ∧ x.a = y.a ∧ x.b = y.b ∧ x.c = y.c ∧ x.body = y.body)
  ⟨fun h => by cases x; cases y; simp only at h; obtain ⟨rfl, rfl, rfl, rfl, rfl, rfl, rfl, rfl⟩ := h; rfl, fun h => by subst h; simp⟩
def zeroM : Msg := ⟨0, 0, 0, 0, 0, 0, 0, []⟩
def Msg.nums (m : Msg) : List Int := [m.kind, m.frm, m.to, m.epoch, m.a, m.b, m.c]
def soundM (m : Msg) : Prop := (1 ≤ m.kind ∧ m.kind ≤ 20) ∧ (0 ≤ m.frm ∧ m.frm ≤ 255) ∧ (0 ≤ m.to ∧ m.to ≤ 255) ∧ 0 ≤ m.epoch ∧ 0 ≤ m.a ∧ 0 ≤ m.b ∧ 0 ≤ m.c ∧ m.body.length ≤ 65536
instance (m : Msg) : Decidable (soundM m) := by unfold soundM; exact inferInstance
def msgIn (m : Msg) : List UInt8 := encs m.nums ++ encT m.body
def encodeAns (m : Msg) : List UInt8 × Int := if soundM m then (sealed (msgIn m), 0) else ([], 2)
def rdMsg (S : Rest) : Msg × Rest :=
  let k := rdN S; let f := rdN k.2; let t := rdN f.2; let e := rdN t.2; let a := rdN e.2; let b := rdN a.2; let c := rdN b.2; let x := rdT c.2
  (⟨k.1, f.1, t.1, e.1, a.1, b.1, c.1, x.1⟩, x.2)
def decodeAns (l : List UInt8) : Msg × Int :=
  if (openAns l).2 = 0 ∧ (rdMsg (some (openAns l).1)).2 = some [] ∧ soundM (rdMsg (some (openAns l).1)).1 then ((rdMsg (some (openAns l).1)).1, 0) else (zeroM, 2)
theorem msgIn_eq (m : Msg) (s : List UInt8) : msgIn m ++ s = enc m.kind.toNat ++ (enc m.frm.toNat ++ (enc m.to.toNat ++ (enc m.epoch.toNat ++ (enc m.a.toNat ++ (enc m.b.toNat ++ (enc m.c.toNat ++ (encT m.body ++ s))))))) := by
  simp [msgIn, encs, Msg.nums]
def fitsM (m : Msg) : Prop := m.kind < 9223372036854775808 ∧ m.frm < 9223372036854775808 ∧ m.to < 9223372036854775808 ∧ m.epoch < 9223372036854775808 ∧ m.a < 9223372036854775808 ∧ m.b < 9223372036854775808 ∧ m.c < 9223372036854775808
theorem rdMsg_enc {m : Msg} (hs : soundM m) (hf : fitsM m) (s : List UInt8) : rdMsg (some (msgIn m ++ s)) = (m, some s) := by
  obtain ⟨⟨h1, _⟩, ⟨h2, _⟩, ⟨h3, _⟩, h4, h5, h6, h7, h8⟩ := hs
  obtain ⟨f1, f2, f3, f4, f5, f6, f7⟩ := hf
  have key : ∀ (n : Int) (s : List UInt8), 0 ≤ n → n < 9223372036854775808 → rdN (some (enc n.toNat ++ s)) = (n, some s) := fun n s h0 h1 => by
    rw [rdN_enc (by omega)]
    simp only [Prod.mk.injEq, and_true]
    omega
  rw [msgIn_eq, rdMsg]
  simp only [key _ _ (show 0 ≤ m.kind by omega) f1, key _ _ h2 f2, key _ _ h3 f3, key _ _ h4 f4, key _ _ h5 f5, key _ _ h6 f6, key _ _ h7 f7, rdT_enc h8]
theorem rdMsg_once {l R : List UInt8} {m : Msg} (h : rdMsg (some l) = (m, some R)) : l = msgIn m ++ R ∧ fitsM m := by
  unfold rdMsg at h
  simp only [Prod.mk.injEq] at h
  obtain ⟨rfl, h⟩ := h
  obtain ⟨_, e8⟩ := rdT_once (t := (rdT _).1) (Prod.ext rfl h)
  obtain ⟨k7, n7, l7, e7⟩ := rdN_once (n := (rdN _).1) (Prod.ext rfl e8)
  obtain ⟨k6, n6, l6, e6⟩ := rdN_once (n := (rdN _).1) (Prod.ext rfl e7)
  obtain ⟨k5, n5, l5, e5⟩ := rdN_once (n := (rdN _).1) (Prod.ext rfl e6)
  obtain ⟨k4, n4, l4, e4⟩ := rdN_once (n := (rdN _).1) (Prod.ext rfl e5)
  obtain ⟨k3, n3, l3, e3⟩ := rdN_once (n := (rdN _).1) (Prod.ext rfl e4)
  obtain ⟨k2, n2, l2, e2⟩ := rdN_once (n := (rdN _).1) (Prod.ext rfl e3)
  obtain ⟨k1, n1, l1, e1⟩ := rdN_once (n := (rdN _).1) (Prod.ext rfl e2)
  constructor
  · rw [msgIn_eq]
    simp only [n1, n2, n3, n4, n5, n6, n7, Int.toNat_natCast]
    exact Option.some.inj e1
  · unfold fitsM
    simp only [n1, n2, n3, n4, n5, n6, n7]
    omega
/-- what was laid is read as it was -/
theorem decode_encode {m : Msg} (hs : soundM m) (hf : fitsM m) : decodeAns (sealed (msgIn m)) = (m, 0) := by
  have h := rdMsg_enc hs hf []
  rw [List.append_nil] at h
  rw [decodeAns, openAns_sealed]
  simp only [h]
  rw [if_pos ⟨trivial, trivial, hs⟩]

/-! ### spans, changes -/
def spanB (s : K × K) : List UInt8 := encT s.1.data.toList ++ encT s.2.data.toList
def chgB (c : Chg) : List UInt8 := enc c.kind.toNat ++ (encT c.key.data.toList ++ encT c.val.data.toList)
def rdSpan (S : Rest) : (K × K) × Rest := let a := rdT S; let b := rdT a.2; ((strB a.1, strB b.1), b.2)
def rdChg (S : Rest) : Chg × Rest := let k := rdN S; let a := rdT k.2; let b := rdT a.2; (⟨k.1, strB a.1, strB b.1⟩, b.2)
theorem strB_data (k : K) : strB k.data.toList = k := by cases k; rfl
theorem rdSpan_enc {s : K × K} (h : s.1.size ≤ 17 ∧ s.2.size ≤ 17) (r : List UInt8) : rdSpan (some (spanB s ++ r)) = (s, some r) := by
  have e : ∀ k : K, k.data.toList.length = k.size := fun k => by simp
  rw [spanB, List.append_assoc, rdSpan]
  simp only [rdT_enc (show s.1.data.toList.length ≤ 65536 by rw [e]; omega), rdT_enc (show s.2.data.toList.length ≤ 65536 by rw [e]; omega), strB_data]
theorem rdChg_enc {c : Chg} (h : checkAns c = 0) (r : List UInt8) : rdChg (some (chgB c ++ r)) = (c, some r) := by
  have e : ∀ k : K, k.data.toList.length = k.size := fun k => by simp
  have h3 : (c.kind = 1 ∨ c.kind = 2 ∨ c.kind = 3) ∧ c.key.size ≤ 64 ∧ c.val.size ≤ 64 := by
    unfold checkAns at h
    split at h
    · split at h
      · cases h
      · exact ⟨.inl (by assumption), by omega, by omega⟩
    · split at h
      · split at h
        · cases h
        · exact ⟨.inr (.inl (by assumption)), by omega, by omega⟩
      · split at h
        · split at h
          · cases h
          · exact ⟨.inr (.inr (by assumption)), by omega, by omega⟩
        · cases h
  obtain ⟨k, x, y⟩ := c
  simp only at h3
  rw [chgB, List.append_assoc, List.append_assoc, rdChg]
  simp only [rdN_enc (show k.toNat < 9223372036854775808 by omega), rdT_enc (show x.data.toList.length ≤ 65536 by rw [e]; omega), rdT_enc (show y.data.toList.length ≤ 65536 by rw [e]; omega), strB_data]
  congr 2
  omega
theorem rdSpan_none {S : Rest} (h : (rdSpan S).2 ≠ none) : S ≠ none := by rintro rfl; exact h rfl
theorem rdChg_none {S : Rest} (h : (rdChg S).2 ≠ none) : S ≠ none := by rintro rfl; exact h rfl
theorem rdN_none {S : Rest} (h : (rdN S).2 ≠ none) : S ≠ none := by rintro rfl; exact h rfl
theorem rdSpan_len (S : Rest) : (rdSpan S).1.1.size ≤ 65536 ∧ (rdSpan S).1.2.size ≤ 65536 := ⟨by simpa [rdSpan, strB, ByteArray.size] using rdT_len S, by simpa [rdSpan, strB, ByteArray.size] using rdT_len (rdT S).2⟩
theorem rdChg_len (S : Rest) : (rdChg S).1.key.size ≤ 65536 ∧ (rdChg S).1.val.size ≤ 65536 := ⟨by simpa [rdChg, strB, ByteArray.size] using rdT_len (rdN S).2, by simpa [rdChg, strB, ByteArray.size] using rdT_len (rdT (rdN S).2).2⟩
theorem repL_all {α : Type} {one : Rest → α × Rest} {p : α → Prop} (h : ∀ S, p (one S).1) (S : Rest) : ∀ i, ∀ x ∈ repL one i S, p x
  | 0, x, hx => by simp [repL] at hx
  | i + 1, x, hx => by
    rw [repL, List.mem_append] at hx
    rcases hx with hx | hx
    · exact repL_all h S i x hx
    · simp only [List.mem_singleton] at hx; rw [hx]; exact h _
theorem allAns_all : ∀ {l : List Chg}, allAns l = 0 → ∀ c ∈ l, checkAns c = 0
  | [], _, c, hc => by simp at hc
  | x :: r, h, c, hc => by
    rw [allAns] at h
    split at h
    · rcases List.mem_cons.1 hc with rfl | hc
      · assumption
      · exact allAns_all h c hc
    · exact absurd h (by assumption)

/-! ### transactions -/
structure Txn where
  read : Int
  reads : List (K × K)
  chgs : List Chg
instance : DecidableEq Txn := fun x y => decidable_of_iff (x.read = y.read ∧ x.reads = y.reads ∧ x.chgs = y.chgs) ⟨fun h => by cases x; cases y; simp only at h; obtain ⟨rfl, rfl, rfl⟩ := h; rfl, fun h => by subst h; simp⟩
def zeroT : Txn := ⟨0, [], []⟩
def okSpan (s : K × K) : Prop := s.1.size ≤ 17 ∧ s.2.size ≤ 17 ∧ ¬ s.2 < s.1
instance (s : K × K) : Decidable (okSpan s) := by unfold okSpan; exact inferInstance
def soundT (t : Txn) : Prop := 0 ≤ t.read ∧ t.reads.length ≤ 24 ∧ (∀ s ∈ t.reads, okSpan s) ∧ t.chgs.length ≤ 24 ∧ allAns t.chgs = 0
instance (t : Txn) : Decidable (soundT t) := by unfold soundT; exact inferInstance
def txnB (t : Txn) : List UInt8 := enc t.read.toNat ++ (listB spanB t.reads ++ listB chgB t.chgs)
def putTxn (t : Txn) : List UInt8 × Int := if soundT t then (txnB t, 0) else ([], 2)
def rdTxn (S : Rest) : Txn × Rest := let a := rdN S; let b := rdList rdSpan 24 a.2; let c := rdList rdChg 24 b.2; (⟨a.1, b.1, c.1⟩, c.2)
def getTxn (l : List UInt8) : Txn × Int := if (rdTxn (some l)).2 = some [] ∧ soundT (rdTxn (some l)).1 then ((rdTxn (some l)).1, 0) else (zeroT, 2)
theorem get_putT {t : Txn} (hs : soundT t) (hf : t.read < 9223372036854775808) : getTxn (txnB t) = (t, 0) := by
  have hs0 := hs
  obtain ⟨h1, h2, h3, h4, h5⟩ := hs
  have e1 := rdN_enc (n := t.read.toNat) (by omega) (listB spanB t.reads ++ listB chgB t.chgs)
  have e2 := rdList_enc (one := rdSpan) (f := spanB) 24 (by omega) t.reads (listB chgB t.chgs) (fun x hx s => rdSpan_enc ⟨(h3 x hx).1, (h3 x hx).2.1⟩ s) h2
  have e3 := rdList_enc (one := rdChg) (f := chgB) 24 (by omega) t.chgs [] (fun x hx s => rdChg_enc (allAns_all h5 x hx) s) h4
  rw [List.append_nil] at e3
  have e : rdTxn (some (txnB t)) = (t, some []) := by
    rw [rdTxn, txnB]
    simp only [e1, e2, e3, Int.toNat_of_nonneg h1]
  rw [getTxn, e, if_pos ⟨rfl, hs0⟩]

/-! ### batches -/
structure Bat where
  prev : Int
  version : Int
  known : Int
  chgs : List Chg
instance : DecidableEq Bat := fun x y => decidable_of_iff (x.prev = y.prev ∧ x.version = y.version ∧ x.known = y.known ∧ x.chgs = y.chgs) ⟨fun h => by cases x; cases y; simp only at h; obtain ⟨rfl, rfl, rfl, rfl⟩ := h; rfl, fun h => by subst h; simp⟩
def zeroB : Bat := ⟨0, 0, 0, []⟩
def soundB (x : Bat) : Prop := (0 ≤ x.prev ∧ 0 ≤ x.version ∧ 0 ≤ x.known) ∧ x.chgs.length ≤ 4096 ∧ allAns x.chgs = 0
instance (x : Bat) : Decidable (soundB x) := by unfold soundB; exact inferInstance
def batB (x : Bat) : List UInt8 := encs [x.prev, x.version, x.known] ++ listB chgB x.chgs
def putBat (x : Bat) : List UInt8 × Int := if soundB x then (batB x, 0) else ([], 2)
def rdBat (S : Rest) : Bat × Rest := let a := rdN S; let b := rdN a.2; let c := rdN b.2; let d := rdList rdChg 4096 c.2; (⟨a.1, b.1, c.1, d.1⟩, d.2)
def getBat (l : List UInt8) : Bat × Int := if (rdBat (some l)).2 = some [] ∧ soundB (rdBat (some l)).1 then ((rdBat (some l)).1, 0) else (zeroB, 2)
theorem get_putB {x : Bat} (hs : soundB x) (hf : x.prev < 9223372036854775808 ∧ x.version < 9223372036854775808 ∧ x.known < 9223372036854775808) : getBat (batB x) = (x, 0) := by
  have hs0 := hs
  obtain ⟨⟨h1, h2, h3⟩, h4, h5⟩ := hs
  obtain ⟨f1, f2, f3⟩ := hf
  have e1 := rdN_enc (n := x.prev.toNat) (by omega) (enc x.version.toNat ++ (enc x.known.toNat ++ listB chgB x.chgs))
  have e2 := rdN_enc (n := x.version.toNat) (by omega) (enc x.known.toNat ++ listB chgB x.chgs)
  have e3 := rdN_enc (n := x.known.toNat) (by omega) (listB chgB x.chgs)
  have e4 := rdList_enc (one := rdChg) (f := chgB) 4096 (by omega) x.chgs [] (fun c hc s => rdChg_enc (allAns_all h5 c hc) s) h4
  rw [List.append_nil] at e4
  have eb : batB x = enc x.prev.toNat ++ (enc x.version.toNat ++ (enc x.known.toNat ++ listB chgB x.chgs)) := by simp [batB, encs]
  have e : rdBat (some (batB x)) = (x, some []) := by
    rw [rdBat, eb]
    simp only [e1, e2, e3, e4, Int.toNat_of_nonneg h1, Int.toNat_of_nonneg h2, Int.toNat_of_nonneg h3]
  rw [getBat, e, if_pos ⟨rfl, hs0⟩]

/-! ### states -/
structure Sta where
  gen : Int
  epoch : Int
  recd : Int
  chests : List Int
instance : DecidableEq Sta := fun x y => decidable_of_iff (x.gen = y.gen ∧ x.epoch = y.epoch ∧ x.recd = y.recd ∧ x.chests = y.chests) ⟨fun h => by cases x; cases y; simp only at h; obtain ⟨rfl, rfl, rfl, rfl⟩ := h; rfl, fun h => by subst h; simp⟩
def zeroS : Sta := ⟨0, 0, 0, []⟩
def soundS (x : Sta) : Prop := (0 ≤ x.gen ∧ 0 ≤ x.epoch ∧ 0 ≤ x.recd) ∧ x.chests.length ≤ 16 ∧ ∀ n ∈ x.chests, 0 ≤ n ∧ n ≤ 255
instance (x : Sta) : Decidable (soundS x) := by unfold soundS; exact inferInstance
def staB (x : Sta) : List UInt8 := encs [x.gen, x.epoch, x.recd, (x.chests.length : Int)] ++ encs x.chests
def putSta (x : Sta) : List UInt8 × Int := if soundS x then (staB x, 0) else ([], 2)
def rdSta (S : Rest) : Sta × Rest := let a := rdN S; let b := rdN a.2; let c := rdN b.2; let d := rdList rdN 16 c.2; (⟨a.1, b.1, c.1, d.1⟩, d.2)
def getSta (l : List UInt8) : Sta × Int := if (rdSta (some l)).2 = some [] ∧ soundS (rdSta (some l)).1 then ((rdSta (some l)).1, 0) else (zeroS, 2)
theorem get_putS {x : Sta} (hs : soundS x) (hf : x.gen < 9223372036854775808 ∧ x.epoch < 9223372036854775808 ∧ x.recd < 9223372036854775808) : getSta (staB x) = (x, 0) := by
  have hs0 := hs
  obtain ⟨⟨h1, h2, h3⟩, h4, h5⟩ := hs
  obtain ⟨f1, f2, f3⟩ := hf
  have e1 := rdN_enc (n := x.gen.toNat) (by omega) (enc x.epoch.toNat ++ (enc x.recd.toNat ++ listB (fun n : Int => enc n.toNat) x.chests))
  have e2 := rdN_enc (n := x.epoch.toNat) (by omega) (enc x.recd.toNat ++ listB (fun n : Int => enc n.toNat) x.chests)
  have e3 := rdN_enc (n := x.recd.toNat) (by omega) (listB (fun n : Int => enc n.toNat) x.chests)
  have e4 := rdList_enc (one := rdN) (f := fun n : Int => enc n.toNat) 16 (by omega) x.chests [] (fun n hn s => by
    have := h5 n hn
    rw [rdN_enc (by omega)]
    simp only [Prod.mk.injEq, and_true]
    omega) h4
  rw [List.append_nil] at e4
  have eb : staB x = enc x.gen.toNat ++ (enc x.epoch.toNat ++ (enc x.recd.toNat ++ listB (fun n : Int => enc n.toNat) x.chests)) := by simp [staB, encs, listB]
  have e : rdSta (some (staB x)) = (x, some []) := by
    rw [rdSta, eb]
    simp only [e1, e2, e3, e4, Int.toNat_of_nonneg h1, Int.toNat_of_nonneg h2, Int.toNat_of_nonneg h3]
  rw [getSta, e, if_pos ⟨rfl, hs0⟩]
end Go.Proofs.YtmigninibdecmaaGreat
namespace Go.Proofs.YtmigninibdecmaaGreat
open Go.RowKit

/-- block g holds just these cells, of this type -/
def Whole (w : World) (g : Nat) (t : TypeId) (cs : List Value) : Prop := w.heap[g]? = some (.cells cs.toArray t (0, 0))
section
variable {w w' : World} {g : Nat} {t : TypeId} {cs : List Value}
set_option maxRecDepth 100000 in
theorem Whole.size (h : Whole w g t cs) : g < w.heap.size := by
  unfold Whole at h
  rcases Nat.lt_or_ge g w.heap.size with hl | hl
  · exact hl
  · rw [Array.getElem?_eq_none hl] at h; cases h
set_option maxRecDepth 100000 in
theorem Whole.cell (h : Whole w g t cs) (i : Nat) (v : Value) (hv : cs[i]? = some v) : w.cell? ⟨g, i, none⟩ = some v := by
  unfold Whole at h
  simp only [World.cell?, h, List.getElem?_toArray]
  exact hv
set_option maxRecDepth 100000 in
theorem Whole.frozen (h : Whole w g t cs) (i : Nat) : w.frozen? ⟨g, i, none⟩ = false := by
  unfold Whole at h
  simp [World.frozen?, h]
set_option maxRecDepth 100000 in
theorem Whole.fresh (w : World) (t : TypeId) (cs : List Value) : Whole (w.alloc (.cells cs.toArray t)) w.heap.size t cs := heap_alloc_new w _
set_option maxRecDepth 100000 in
theorem Whole.alloc (h : Whole w g t cs) (o : Obj) : Whole (w.alloc o) g t cs := (Below.heap_alloc w o g h.size).trans h
set_option maxRecDepth 100000 in
theorem Whole.put (h : Whole w g t cs) (i : Nat) (u : Value) : Whole (w.setCell ⟨g, i, none⟩ u) g t (cs.set i u) := by
  unfold Whole at h ⊢
  simp [World.setCell, Array.getElem?_modify, h]
set_option maxRecDepth 100000 in
theorem Whole.away (h : Whole w g t cs) {p : Addr} (hp : g ≠ p.block) (u : Value) : Whole (w.setCell p u) g t cs := (Below.heap_setCell w p u g hp).trans h
set_option maxRecDepth 100000 in
theorem Whole.below {B : Nat} (h : Whole w g t cs) (hb : Below B w w') (hg : g < B) : Whole w' g t cs := (hb.block g hg).trans h
set_option maxRecDepth 100000 in
theorem Whole.grown {row : Option Nat} (h : Whole w g t cs) (hg : w.grownBy w' row) (hr : some g ≠ row) : Whole w' g t cs := (hg.block g h.size hr).trans h
set_option maxRecDepth 100000 in
theorem Whole.drewN (h : Whole w g t cs) (n : Nat) : Whole (w.drewN n) g t cs := h
set_option maxRecDepth 100000 in
theorem Whole.drew (h : Whole w g t cs) : Whole w.drew g t cs := h
set_option maxRecDepth 100000 in
/-- blocks of unlike types are not one -/
theorem Whole.apart {t' : TypeId} {cs' : List Value} {g' : Nat} (h : Whole w g t cs) (h' : Whole w g' t' cs') (hne : t ≠ t') : g ≠ g' := by
  rintro rfl
  unfold Whole at h h'
  rw [h] at h'
  injection h' with h'
  injection h' with _ ht
  exact hne ht
end
set_option maxRecDepth 100000 in
/-- a slice of the call's own and a block of another type are not one -/
theorem Own.apart {α : Type} {enc : α → List Value} {k : Nat} {e t : TypeId} {w : World} {base g : Nat} {v : Value} {l : List α} {cs : List Value} (h : Own enc k e w base v l) (hg : Whole w g t cs) (hne : e ≠ t) : some g ≠ v.ownBlock := by
  rcases h.2 with ⟨rfl, _⟩ | ⟨g', cap, cur, rfl, _, hh, _⟩
  · simp [Value.ownBlock]
  · intro he
    have : g = g' := by simpa [Value.ownBlock] using he
    subst this
    unfold Whole at hg
    rw [hg] at hh
    injection hh with hh
    injection hh with _ ht
    exact hne ht.symm
set_option maxRecDepth 100000 in
/-- a store into such a block leaves what the slice holds -/
theorem Own.put {α : Type} {enc : α → List Value} {k : Nat} {e t : TypeId} {w : World} {base g : Nat} {v : Value} {l : List α} {cs : List Value} (h : Own enc k e w base v l) (hg : Whole w g t cs) (hne : e ≠ t) (i : Nat) (u : Value) : Own enc k e (w.setCell ⟨g, i, none⟩ u) base v l := by
  refine ⟨h.1, ?_⟩
  rcases h.2 with h2 | ⟨g', cap, cur, hv, hb, hh, r⟩
  · exact .inl h2
  · refine .inr ⟨g', cap, cur, hv, hb, ?_, r⟩
    have hd : g' ≠ g := by
      rintro rfl
      unfold Whole at hg
      rw [hg] at hh
      injection hh with hh
      injection hh with _ ht
      exact hne ht.symm
    exact (Below.heap_setCell w ⟨g, i, none⟩ u g' hd).trans hh

section
variable {ops : Array Oper} {rest : List Oper} {o : Oper} {a : Act} {Q : Exit → Act → World → Prop} {w : World}
set_option maxRecDepth 100000 in
/-- bytes appended; what grew is told -/
theorem wpList_addBG (hgd : Region.wanted o (yielded ops a.tmps) = true) (s x : Operand)
    (ho : o.op = .call { callee := .builtin .append, args := #[s, x], argTypes := #[41, 41] })
    (base : Nat) (v : Value) (l : List UInt8) (hs : a.eval s = v) (hown : OwnB w base v l) (B : Nat) (v2 : Value) (p : List UInt8) (hx : a.eval x = v2) (hp : RdB w B v2 p)
    (hlen : l.length + p.length ≤ 225179981368000) (hbase : base ≤ w.heap.size)
    (h : ∀ A' c' w', Hid (OwnB w' base (.slice A' (l ++ p).length c') (l ++ p)) → Hid (w.grownBy w' v.ownBlock) → wpList Tryz.prog ops Q rest (a.put o.dst (.slice A' (l ++ p).length c')) w') : wpList Tryz.prog ops Q (o :: rest) a w := by
  obtain ⟨i0, hi, hz0, hz1, hz2⟩ := info_parts info_u8
  refine BigFrame.wpList_want hgd fun K hK => ?_
  refine wp_addAny (enc := byteEnc) (k := 1) 41 5 1 i0 _ Tryz.underlying41 hi hz0 hz1 hz2 rfl (by decide) byteEnc_len byteEnc_one s x ho base v l hs hown B v2 p hx hp (by unfold maxLen; omega) (by omega) hbase fun A' c' w' h1 h2 => ?_
  exact hK _ _ (h A' c' w' (Lib.hid h1) (Lib.hid h2))
set_option maxRecDepth 100000 in
/-- a text's bytes appended; what grew is told -/
theorem wpList_addStrG (hw : Region.wanted o (yielded ops a.tmps) = true) (sl x : Operand)
    (ho : o.op = .call { callee := .builtin .append, args := #[sl, x], argTypes := #[41, 9] })
    (base : Nat) (v : Value) (l : List UInt8) (hs : a.eval sl = v) (hown : OwnB w base v l) (s : ByteArray) (hx : a.eval x = .string s)
    (hlen : l.length + s.size ≤ 225179981368000) (hs47 : s.size ≤ 140737488355328) (hbase : base ≤ w.heap.size)
    (h : ∀ A' c' w', Hid (OwnB w' base (.slice A' (l ++ s.data.toList).length c') (l ++ s.data.toList)) → Hid (w.grownBy w' v.ownBlock) → wpList Tryz.prog ops Q rest (a.put o.dst (.slice A' (l ++ s.data.toList).length c')) w') : wpList Tryz.prog ops Q (o :: rest) a w := by
  refine BigFrame.wpList_want hw fun K hK => ?_
  obtain ⟨v', w', hr, h2, h3⟩ := run_append_str w base o.type v l hown s hlen hs47 hbase
  have hv : ∃ A' c', v' = .slice A' (l ++ s.data.toList).length c' := by
    rcases h2.form with ⟨hv, h0⟩ | ⟨g, cap, hv, _⟩
    · exact ⟨none, 0, by rw [h0]; exact hv⟩
    · exact ⟨_, _, hv⟩
  obtain ⟨A', c', rfl⟩ := hv
  unfold Oper.wp execOp
  simp only [ho, resolve, invoke, builtin, Sem.run_bind, Sem.run_pure, Result.andThen_ok, List.map_toArray, List.map_cons, List.map_nil, hs, hx, hr]
  exact hK _ _ (h A' c' w' (Lib.hid h2) (Lib.hid h3))
end
end Go.Proofs.YtmigninibdecmaaGreat
namespace Go.Proofs.YtmigninibdecmaaGreat
open Go.RowKit

/-- a writer at block p: what was written till now, and its error -/
def Wr (w : World) (base p : Nat) (l : List UInt8) (e : Int) : Prop :=
  ∃ A c, Whole w p 171 [.slice A l.length c, .int .i64 e] ∧ OwnB w base (.slice A l.length c) l ∧ base ≤ p ∧ base ≤ w.heap.size
set_option maxRecDepth 100000 in
theorem Wr.more {w w' : World} {base p B : Nat} {l : List UInt8} {e : Int} (h : Wr w base p l e) (hb : Below B w w') (hB : w.heap.size ≤ B) : Wr w' base p l e := by
  obtain ⟨A, c, hw, ho, hp, hs⟩ := h
  exact ⟨A, c, hw.below hb (Nat.lt_of_lt_of_le hw.size hB), ho.below hb hB, hp, Nat.le_trans hs hb.size⟩

set_option maxHeartbeats 1000000 in
set_option maxRecDepth 100000 in
theorem clone_any (l : List UInt8) (v : Value) (w : World) (hv : RdB w w.heap.size v l) (hl : l.length ≤ 140737488351232) :
    Calls Tryz.prog 116 #[v] w fun e w' => ∃ A c, e = .returned (.slice A l.length c) ∧ OwnB w' w.heap.size (.slice A l.length c) l ∧ Below w.heap.size w w' := by
  obtain ⟨A, c, rfl, hc, hi⟩ := hv.at
  have HV := Lib.hid hv; clear hv
  cases A with
  | none =>
    have hl0 : l = [] := by
      cases l with
      | nil => rfl
      | cons x r => obtain ⟨b, o, hA, _⟩ := hi 0 (by simp); cases hA
    subst hl0
    clear hi
    have hnil := fun W => Lib.run_eql_slice_nil (P := Tryz.prog) W 41 5 none 0 c 0 0 Tryz.underlying41
    go_enter Tryz.func116, Tryz.ntmps116
    go_wp2_with fail
    go_ret
    exact ⟨_, _, rfl, Own.nil _ _, Below.refl _ _⟩
  | some ad =>
    clear hi
    have hnil := fun W => Lib.run_eql_slice_nil (P := Tryz.prog) W 41 5 (some ad) l.length c 0 0 Tryz.underlying41
    go_enter Tryz.func116, Tryz.ntmps116
    go_wp2_with (at_builtin; go_must (refine wpList_addBG rfl _ _ rfl w.heap.size _ [] rfl (Own.empty _ _ (Nat.le_refl _)) w.heap.size _ l rfl (HV.out.below ((Below.refl _ _).alloc (Nat.le_refl _) _) (Nat.le_refl _)) (by simp; omega) (by simp) ?_))
    intro A' c' w' ho hg
    have HO := Lib.hid (show OwnB w' w.heap.size (.slice A' l.length c') l from ho.out)
    have HG := Lib.hid hg.out
    go_wp2_with fail
    go_ret
    exact ⟨A', c', rfl, HO.out, ((Below.refl _ w).alloc (Nat.le_refl _) _).grown HG.out (by simp) (by simp [Value.ownBlock])⟩

set_option maxHeartbeats 1000000 in
set_option maxRecDepth 100000 in
theorem behind_any (l : List UInt8) (v : Value) (w : World) (hv : RdB w w.heap.size v l) (hl : l.length ≤ 140737488351232) :
    Calls Tryz.prog 92 #[v] w fun e w' => ∃ p, e = .returned (.pointer (some ⟨p, 0, none⟩)) ∧ Wr w' w.heap.size p l 0 ∧ Below w.heap.size w w' := by
  have hc := clone_any l v w hv hl
  have HC := Lib.hid hc; clear hc
  clear hv
  go_enter Tryz.func92, Tryz.ntmps92
  go_wp2_with fail
  refine HC.out.mono ?_
  rintro e w1 ⟨A, c, rfl, ho, hb⟩
  have HO := Lib.hid ho; clear ho
  have HB := Lib.hid hb; clear hb
  go_wp2_with fail
  go_ret
  exact ⟨_, rfl, ⟨A, c, Whole.fresh _ _ [_, _], HO.out.alloc _, HB.out.size, by simp; exact Nat.le_succ_of_le HB.out.size⟩, HB.out.alloc HB.out.size _⟩

/-- the first error -/
def firstErr (e f : Int) : Int := if e = 0 then f else e
def IsZ (e : Int) : Prop := e = 0

set_option maxHeartbeats 1000000 in
set_option maxRecDepth 100000 in
theorem or_any (e f : Int) (g c : Nat) (w : World) (h0 : w.cell? ⟨g, 0, none⟩ = some (.int .i64 e)) (h1 : w.cell? ⟨g, 1, none⟩ = some (.int .i64 f)) :
    Calls Tryz.prog 134 #[.slice (some ⟨g, 0, none⟩) 2 c] w fun x w' => x = .returned (.int .i64 (firstErr e f)) ∧ w' = w := by
  obtain ⟨R, hR⟩ : ∃ R, R = firstErr e f := ⟨_, rfl⟩
  rw [← hR]
  unfold firstErr at hR
  have HR := Lib.hid hR; clear hR
  go_enter Tryz.func134, Tryz.ntmps134
  go_wp2_with fail
  go_loop [8] (fun kv => kv = .int .i64 0 ∨ (kv = .int .i64 1 ∧ IsZ e) ∨ (kv = .int .i64 2 ∧ IsZ e ∧ IsZ f)) (fun kv => 2 - (intOf kv).toNat)
  case atStart => exact .inl rfl
  case round =>
    rcases hrel with rfl | ⟨rfl, he⟩ | ⟨rfl, he, hf⟩
    · by_cases hz : e = 0
      · have HZ : IsZ e := hz
        subst hz
        go_wp2_with fail
        go_round
        case rel => exact .inr (.inl ⟨by go_num, HZ⟩)
        case measure => simp [intOf]
      · have hr := HR.out
        rw [if_neg hz] at hr
        have HR2 := Lib.hid hr; clear hr
        go_wp2_with fail
        go_ret
        exact ⟨by rw [HR2.out]; rfl, rfl⟩
    · have hr := HR.out
      rw [if_pos (show e = 0 from he)] at hr
      have HR2 := Lib.hid hr; clear hr
      by_cases hz : f = 0
      · have HZ : IsZ f := hz
        subst hz
        go_wp2_with fail
        go_round
        case rel => exact .inr (.inr ⟨by go_num, he, HZ⟩)
        case measure => simp [intOf]
      · go_wp2_with fail
        go_ret
        exact ⟨by rw [HR2.out]; rfl, rfl⟩
    · have hr := HR.out
      rw [if_pos (show e = 0 from he), show f = 0 from hf] at hr
      have HR2 := Lib.hid hr; clear hr
      go_wp2_with fail
      go_ret
      exact ⟨by rw [HR2.out]; rfl, rfl⟩

set_option maxHeartbeats 1000000 in
set_option maxRecDepth 100000 in
theorem wfail_any (base p : Nat) (l : List UInt8) (e f : Int) (w : World) (hw : Wr w base p l e) :
    Calls Tryz.prog 117 #[.pointer (some ⟨p, 0, none⟩), .int .i64 f] w fun x w' => x = .returned (.pointer (some ⟨p, 0, none⟩)) ∧ Wr w' base p l (firstErr e f) ∧ Below base w w' := by
  obtain ⟨A, c, hb, ho, hp, hs⟩ := hw
  have c0 := hb.cell 0 _ rfl
  have c1 := hb.cell 1 _ rfl
  have f1 := hb.frozen 1
  have hlt := hb.size
  have HB := Lib.hid hb; clear hb
  have HO := Lib.hid ho; clear ho
  go_enter Tryz.func117, Tryz.ntmps117
  go_wp2_with fail
  refine (or_any e f w.heap.size 2 _ (by go_simp) (by go_simp)).mono ?_
  rintro x w1 ⟨rfl, rfl⟩
  go_wp2_with fail
  go_ret
  refine ⟨rfl, ⟨A, c, (HB.out.put 1 _).alloc _, (HO.out.put HB.out (by decide) 1 _).alloc _, hp, by simp; omega⟩, ((Below.refl _ _).setCell hp _).alloc (by simpa using hs) _⟩

set_option maxHeartbeats 1000000 in
set_option maxRecDepth 100000 in
theorem wdoneO_any (base p : Nat) (l : List UInt8) (e : Int) (w : World) (hw : Wr w base p l e) :
    Calls Tryz.prog 94 #[.pointer (some ⟨p, 0, none⟩)] w fun x w' => ∃ v', x = .returned (.tuple #[v', .int .i64 e]) ∧ OwnB w' base v' (if e = 0 then l else []) ∧ Below base w w' := by
  obtain ⟨A, c, hb, ho, hp, hs⟩ := hw
  have c0 := hb.cell 0 _ rfl
  have c1 := hb.cell 1 _ rfl
  have hlt := hb.size
  have HO := Lib.hid ho; clear ho
  clear hb
  by_cases he : e = 0
  · subst he
    go_enter Tryz.func94, Tryz.ntmps94
    go_wp2_with fail
    go_ret2
    exact ⟨_, rfl, HO.out, Below.refl _ _⟩
  · rw [if_neg he]
    go_enter Tryz.func94, Tryz.ntmps94
    go_wp2_with fail
    refine wp_region_planB [(true, 0), (true, 1), (true, 2), (true, 3), (true, 4), (true, 5)] (by kernel_rfl) (by kernel_rfl) (fun _ _ d _ _ h => by cases d <;> exact h) ?_
    repeat (refine PlanB.take (v := ?_) rfl rfl ?_ ?_; rotate_left; (focus (intro W hW; have k1 := (hW.cell (p := ⟨p, 1, none⟩) hlt).trans c1; go_simp; (try with_reducible rfl); done)); (try simp only [Act.put, List.setIfInBounds_toArray, List.set_cons_zero, List.set_cons_succ]))
    simp only [PlanB]
    go_wp2_with fail
    go_ret2
    exact ⟨_, rfl, Own.nil _ _, (Below.refl _ _).drew⟩
theorem wdone_any (base p : Nat) (l : List UInt8) (e : Int) (w : World) (hw : Wr w base p l e) :
    Calls Tryz.prog 94 #[.pointer (some ⟨p, 0, none⟩)] w fun x w' => ∃ v', x = .returned (.tuple #[v', .int .i64 e]) ∧ RdB w' w'.heap.size v' (if e = 0 then l else []) ∧ Below base w w' := by
  refine (wdoneO_any base p l e w hw).mono ?_
  rintro x w' ⟨v', h1, h2, h3⟩
  exact ⟨v', h1, h2.rdB, h3⟩
end Go.Proofs.YtmigninibdecmaaGreat
