/- The walk of the law SpanKeys. -/
import Derived.Test.YtmfpidihcjnnkaaLawJoins
import Derived.BigQuiet
import Derived.Deep.QuietTactic
namespace Go.Proofs.Ytmfpidihcjnnkaa
open Go.RowKit
attribute [local go_sem] less_eq same_eq le_eq ge_eq gt_eq

/-- how many spans of a list have a key -/
def cnt (k : K) (l : List (K × K)) : Nat := l.countP fun t => hasB t k
/-- whether any has: 1, or 0 -/
def oneB (b : Bool) : Nat := if b then 1 else 0
theorem hasB_iff (s : K × K) (k : K) : hasB s k = true ↔ has s k := by simp [hasB, has]
theorem any_memB (l : List (K × K)) (k : K) : (l.any fun t => hasB t k) = true ↔ mem l k := by
  rw [List.any_eq_true]
  exact ⟨fun ⟨t, h1, h2⟩ => ⟨t, h1, (hasB_iff t k).1 h2⟩, fun ⟨t, h1, h2⟩ => ⟨t, h1, (hasB_iff t k).2 h2⟩⟩
theorem cnt_normal (k : K) : ∀ l : List (K × K), Normal l → cnt k l = oneB (l.any fun t => hasB t k)
  | [], _ => rfl
  | s :: r, h => by
    have ht : Normal r := ((normal_append (a := [s]) (b := r)).1 h).2.1
    have ih := cnt_normal k r ht
    unfold cnt at ih ⊢
    rw [List.countP_cons, ih, List.any_cons]
    cases hx : hasB s k
    · simp
    · have : (r.any fun t => hasB t k) = false := by
        rw [Bool.eq_false_iff]
        intro hy
        have h1 := mem_above h ((any_memB r k).1 hy)
        have h2 := ((hasB_iff s k).1 hx).2
        grind
      rw [this]
      rfl
theorem cnt_of {l J : List (K × K)} {k : K} (hn : Normal J) (hm : ∀ k, mem J k ↔ mem l k) : cnt k J = oneB (l.any fun t => hasB t k) := by
  rw [cnt_normal k J hn]
  congr 1
  rw [Bool.eq_iff_iff, any_memB, any_memB]
  exact hm k
theorem cnt_left {l R : List (K × K)} {s : K × K} {k : K} (hn : Normal R) (hm : ∀ k, mem R k ↔ has s k ∧ ¬ mem l k) : cnt k R = oneB (hasB s k && !(l.any fun t => hasB t k)) := by
  rw [cnt_normal k R hn]
  congr 1
  rw [Bool.eq_iff_iff, any_memB, hm k, Bool.and_eq_true, hasB_iff, Bool.not_eq_true', Bool.eq_false_iff, ne_eq, any_memB]
theorem any_take {l : List (K × K)} (k : K) {j : Nat} (h : j < l.length) : ((l.take (j + 1)).any fun t => hasB t k) = (((l.take j).any fun t => hasB t k) || hasB l[j] k) := by
  rw [List.take_succ_eq_append_getElem h, List.any_append]; simp
theorem cnt_take {l : List (K × K)} (k : K) {j : Nat} (h : j < l.length) : cnt k (l.take (j + 1)) = cnt k (l.take j) + oneB (hasB l[j] k) := by
  unfold cnt
  rw [List.take_succ_eq_append_getElem h, List.countP_append]
  simp [oneB, List.countP_cons]
theorem cnt_le (k : K) (l : List (K × K)) (j : Nat) : cnt k (l.take j) ≤ j := Nat.le_trans List.countP_le_length (by simp; omega)
theorem Normal.step {J : List (K × K)} (h : Normal J) {j m : Nat} (hj : j < J.length) (hmJ : m < J.length) (hm : j = m + 1) : decide (J[j].1 ≤ J[m].2) = false := by
  subst hm
  have h1 := normal_append.1 (show Normal (J.take (m + 1) ++ J.drop (m + 1)) by rw [List.take_append_drop]; exact h)
  have h2 := h1.2.2 J[m] (List.mem_take_iff_getElem.2 ⟨m, by omega, rfl⟩) J[m + 1] (List.mem_drop_iff_getElem.2 ⟨0, by omega, by simp⟩)
  rw [decide_eq_false_iff_not]
  grind
theorem Normal.full {J : List (K × K)} (h : Normal J) {j : Nat} (hj : j < J.length) : decide (J[j].2 ≤ J[j].1) = false := by
  have h2 := h.ne J[j] (List.getElem_mem hj)
  rw [decide_eq_false_iff_not]
  grind

theorem RdS.at {w : World} {B n c : Nat} {A : Option Addr} {l : List (K × K)} (h : RdS w B (.slice A n c) l) (j : Nat) (hj : j < l.length) : ∃ b o, A = some ⟨b, o, none⟩ ∧ b < B ∧ w.cell? ⟨b, o + j * 2, none⟩ = some (.string l[j].1) ∧ w.cell? ⟨b, o + j * 2 + 1, none⟩ = some (.string l[j].2) := by
  obtain ⟨A', c', hv, _, hi⟩ := h
  injection hv with h1 h2 h3
  subst h1
  exact hi j l[j] (List.getElem?_eq_getElem hj)
theorem RdS.cell2 {w : World} {B n c b o : Nat} {l : List (K × K)} (h : RdS w B (.slice (some ⟨b, o, none⟩) n c) l) (m : Nat) (hm : m < l.length) : w.cell? ⟨b, o + m * 2 + 1, none⟩ = some (.string l[m].2) := by
  obtain ⟨b', o', he, _, _, h2⟩ := h.at m hm
  injection he with he
  injection he with h3 h4
  subst h3 h4
  exact h2

/-- a span that stands in memory, and the end of the one ahead of it, in whatever world the law comes to -/
def HeldJ (z : World) (b o1 o2 o3 : Nat) (x y u : K) (W : World) : Prop := W.cell? ⟨b, o1, none⟩ = some (.string x) ∧ W.cell? ⟨b, o2, none⟩ = some (.string y) ∧ W.cell? ⟨b, o3, none⟩ = some (.string u) ∧ Below z.heap.size z W ∧ b < z.heap.size
theorem HeldJ.below {z : World} {b o1 o2 o3 : Nat} {x y u : K} {W W' : World} (h : HeldJ z b o1 o2 o3 x y u W) (hb : Below W.heap.size W W') : HeldJ z b o1 o2 o3 x y u W' :=
  have hl := Nat.lt_of_lt_of_le h.2.2.2.2 h.2.2.2.1.size
  ⟨(hb.cell (p := ⟨b, o1, none⟩) hl).trans h.1, (hb.cell (p := ⟨b, o2, none⟩) hl).trans h.2.1, (hb.cell (p := ⟨b, o3, none⟩) hl).trans h.2.2.1, h.2.2.2.1.trans (hb.mono h.2.2.2.1.size), h.2.2.2.2⟩

theorem HeldB.below {z : World} {b o1 o2 : Nat} {x y : K} {W W' : World} (h : HeldB z b o1 o2 x y W) (hb : Below W.heap.size W W') : HeldB z b o1 o2 x y W' :=
  have hl := Nat.lt_of_lt_of_le h.2.2.2 h.2.2.1.size
  ⟨(hb.cell (p := ⟨b, o1, none⟩) hl).trans h.1, (hb.cell (p := ⟨b, o2, none⟩) hl).trans h.2.1, h.2.2.1.trans (hb.mono h.2.2.1.size), h.2.2.2⟩

set_option maxHeartbeats 4000000 in
set_option maxRecDepth 100000 in
theorem spanKeys_walk (s : K × K) (l0 : List (K × K)) (v : Value) (k : K) (w : World) (hv : RdS w w.heap.size v l0) : Calls Try.prog 9 #[.agg #[.string s.1, .string s.2], v, .string k] w fun e w' => e = .returned (.bool true) ∧ Below w.heap.size w w' := by
  obtain ⟨A, c, rfl, hc⟩ := hv.form
  have hold : HeldW w w.heap.size s (w.alloc (.cells #[.string s.1, .string s.2] 23)).drew := ⟨World.cell?_alloc_at _ _ _ _ rfl, World.cell?_alloc_at _ _ _ _ rfl, ((Below.refl _ w).alloc (Nat.le_refl _) _).drew, by show _ < (w.alloc _).heap.size; simp⟩
  by_cases hlong : 200 < l0.length
  · obtain ⟨l, hl⟩ : ∃ l, l = l0.take 200 := ⟨_, rfl⟩
    have hn : l.length = 200 := by rw [hl]; simp; omega
    have hv2 : RdS w w.heap.size (.slice A l.length c) l := by rw [hn, hl]; exact hv.take 200 (by omega)
    have hll : l.length ≤ 200 := by omega
    clear hl hv
    have HV := Lib.hid hv2; clear hv2
    go_enter Try.func9, Try.ntmps9
    go_wp2_with fail
    rw [show (Value.slice A 200 c) = .slice A l.length c by rw [hn]]
    clear hlong hc hn
    refine wp_region_plan (S := HeldW w w.heap.size s) [(true, 0), (true, 2), (true, 3), (false, 1), (false, 4), (true, 5), (true, 6)] (by kernel_rfl) (by kernel_rfl) (fun _ _ d _ _ h => by cases d <;> exact h) hold ?_
    repeat (first | (refine Plan.take (v := ?_) rfl rfl ?_ ?_; rotate_left; (focus (intro W hW; obtain ⟨c1, c2, _, _⟩ := hW; go_simp; (try with_reducible rfl); done)); (try simp only [Act.put, List.setIfInBounds_toArray, List.set_cons_zero, List.set_cons_succ])) | (refine Plan.skip rfl rfl ?_; (try simp only [Act.put, List.setIfInBounds_toArray, List.set_cons_zero, List.set_cons_succ])) | (refine Plan.pass rfl rfl hold ?_; (try simp only [Act.put, List.setIfInBounds_toArray, List.set_cons_zero, List.set_cons_succ])) | (refine Plan.step rfl rfl (fun Kk hK => ?_); go_simp; (first | (go_at_call 21; (with_reducible refine (join_any l _ _ ((HV.out.below hold.bel (Nat.le_refl _)).mono hold.bel.size) (by omega)).mono ?_); rintro e w1 ⟨v1, J, rfl, ho1, hb, hn1, hm1, hl1⟩; have hr1 := ho1.rd; clear ho1; have HN1 := Lib.hid hn1; have HM1 := Lib.hid hm1; clear hn1 hm1) | (go_at_call 23; (with_reducible refine (without_any s l _ _ ((HV.out.below hold.bel (Nat.le_refl _)).mono hold.bel.size) (by omega)).mono ?_); rintro e w3 ⟨v2, R, rfl, ho2, hb, hn2, hm2, hl2⟩; replace hr1 := hr1.next hb; have hr2 := ho2.rd; clear ho2; have HN2 := Lib.hid hn2; have HM2 := Lib.hid hm2; clear hn2 hm2)); refine hK.out _ _ (hold.below hb) ?_; replace hold := hold.below hb; clear hK Kk hb; (try simp only [Act.put, List.setIfInBounds_toArray, List.set_cons_zero, List.set_cons_succ])))
    simp only [Plan]
    have HV3 := Lib.hid (HV.out.next hold.bel)
    obtain ⟨A1, c1, rfl, _⟩ := hr1.form
    obtain ⟨A2, c2, rfl, _⟩ := hr2.form
    have HR1 := Lib.hid hr1; clear hr1
    have HR2 := Lib.hid hr2; clear hr2
    have hhold := hold
    have HH := Lib.hid hhold; clear hhold hold HV
    go_wp2_with fail
    go_loopw [9, 12] (fun av i wr => ∃ j a : Nat, j ≤ l.length ∧ i = .int .i64 j ∧ av = .int .i64 a ∧ Below w3.heap.size w3 wr ∧ a = oneB ((l.take j).any fun t => hasB t k)) (fun _ i _ => l.length - (intOf i).toNat)
    case atStart => exact ⟨0, 0, Nat.zero_le _, rfl, rfl, ⟨rfl, rfl, rfl, Nat.le_refl _, fun _ _ => rfl⟩, by simp [oneB]⟩
    case round =>
      obtain ⟨j, a, hj, rfl, rfl, hb, ha⟩ := hrel
      have HA := Lib.hid ha; clear ha
      have hz := hb.size
      have HB := Lib.hid hb
      by_cases hlt : j < l.length
      · obtain ⟨b, o, rfl, hbB, h1, h2⟩ := HV3.out.at j hlt
        have g1 := (hb.cell (p := ⟨b, o + j * 2, none⟩) hbB).trans h1
        have g2 := (hb.cell (p := ⟨b, o + j * 2 + 1, none⟩) hbB).trans h2
        clear h1 h2
        have hc1 := has_any l[j] k wr
        rw [show (decide (l[j].1 ≤ k) && decide (k < l[j].2)) = hasB l[j] k from rfl] at hc1
        have HT := Lib.hid (any_take k hlt)
        clear hb
        cases hx : hasB l[j] k
        · rw [hx] at hc1
          have HX := Lib.hid hx; clear hx
          go_wp2_with fail
          refine hc1.mono ?_
          rintro e w4 ⟨rfl, hb4⟩
          have HB4 := Lib.hid hb4; clear hb4
          go_wp2_with fail
          go_roundw
          case rel => exact ⟨j + 1, a, by omega, by go_num, rfl, HB.out.trans (HB4.out.mono hz), by rw [HA.out, HT.out, HX.out, Bool.or_false]⟩
          case measure => simp [intOf]; omega
        · rw [hx] at hc1
          have HX := Lib.hid hx; clear hx
          go_wp2_with fail
          refine hc1.mono ?_
          rintro e w4 ⟨rfl, hb4⟩
          have HB4 := Lib.hid hb4; clear hb4
          go_wp2_with fail
          go_roundw
          case rel => exact ⟨j + 1, 1, by omega, by go_num, rfl, HB.out.trans (HB4.out.mono hz), by rw [HT.out, HX.out, Bool.or_true]; rfl⟩
          case measure => simp [intOf]; omega
      · have hje : j = l.length := by omega
        subst hje
        have ha := HA.out
        rw [List.take_length] at ha
        have HA2 := Lib.hid ha
        clear hb ha HA
        go_wp2_with fail
        go_loopw [10, 13] (fun av i wr => ∃ j a2 : Nat, j ≤ J.length ∧ i = .int .i64 j ∧ av = .int .i64 a2 ∧ Below w3.heap.size w3 wr ∧ a2 = cnt k (J.take j)) (fun _ i _ => J.length - (intOf i).toNat)
        case atStart => exact ⟨0, 0, Nat.zero_le _, rfl, rfl, HB.out, by simp [cnt]⟩
        case round =>
          clear HB hz
          obtain ⟨j, a2, hj, rfl, rfl, hb, ha⟩ := hrel
          have hac : a2 ≤ j := by rw [ha]; exact cnt_le k J j
          have HA := Lib.hid ha; clear ha
          have hz := hb.size
          have HB := Lib.hid hb
          by_cases hlt : j < J.length
          · obtain ⟨b, o, rfl, hbB, h1, h2⟩ := HR1.out.at j hlt
            have g1 := (hb.cell (p := ⟨b, o + j * 2, none⟩) hbB).trans h1
            have g2 := (hb.cell (p := ⟨b, o + j * 2 + 1, none⟩) hbB).trans h2
            clear h1 h2
            have hc1 := has_any J[j] k wr
            rw [show (decide (J[j].1 ≤ k) && decide (k < J[j].2)) = hasB J[j] k from rfl] at hc1
            have HT := Lib.hid (cnt_take k hlt)
            have he := fun W => empty_any J[j] W
            rw [HN1.out.full hlt] at he
            have HE := Lib.hid he; clear he
            clear hb
            cases hx : hasB J[j] k
            · rw [hx] at hc1
              have HX := Lib.hid hx; clear hx
              go_wp2_with fail
              refine hc1.mono ?_
              rintro e w4 ⟨rfl, hb4⟩
              have k1 := (hb4.cell (p := ⟨b, o + j * 2, none⟩) (Nat.lt_of_lt_of_le hbB hz)).trans g1
              have k2 := (hb4.cell (p := ⟨b, o + j * 2 + 1, none⟩) (Nat.lt_of_lt_of_le hbB hz)).trans g2
              have hb34 := HB.out.trans (hb4.mono hz)
              clear g1 g2 hb4
              have HB34 := Lib.hid hb34; clear hb34
              rcases Nat.eq_zero_or_pos j with h0 | h0
              · subst h0
                go_wp2_with fail
                have hold : HeldB w3 b o (o + 1) J[0].1 J[0].2 w4.drew := ⟨by simpa using k1, by simpa using k2, HB34.out.drew, hbB⟩
                clear k1 k2
                refine wp_region_plan (S := HeldB w3 b o (o + 1) J[0].1 J[0].2) [(true, 0), (true, 1), (true, 2), (true, 3), (false, 4), (true, 5), (true, 6), (true, 7), (true, 8), (true, 9), (true, 10), (true, 11), (true, 12), (true, 13), (true, 14), (true, 15), (true, 16), (true, 17), (true, 18), (true, 19), (true, 20), (true, 21), (true, 22)] (by kernel_rfl) (by kernel_rfl) (fun _ _ d _ _ h => by cases d <;> exact h) hold ?_
                repeat (first | (refine Plan.take (v := ?_) rfl rfl ?_ ?_; rotate_left; (focus (intro W hW; obtain ⟨c1, c2, _, _⟩ := hW; go_simp; (try with_reducible rfl); done)); (try simp only [Act.put, List.setIfInBounds_toArray, List.set_cons_zero, List.set_cons_succ])) | (refine Plan.skip rfl rfl ?_; (try simp only [Act.put, List.setIfInBounds_toArray, List.set_cons_zero, List.set_cons_succ])) | (refine Plan.pass rfl rfl hold ?_; (try simp only [Act.put, List.setIfInBounds_toArray, List.set_cons_zero, List.set_cons_succ])) | (refine Plan.step rfl rfl (fun Kk hK => ?_); go_simp; (go_at_call 14; (with_reducible refine (HE.out _).mono ?_); rintro e w5 ⟨rfl, hb⟩); refine hK.out _ _ (hold.below hb) ?_; replace hold := hold.below hb; clear hK Kk hb; (try simp only [Act.put, List.setIfInBounds_toArray, List.set_cons_zero, List.set_cons_succ])))
                simp only [Plan]
                go_wp2_with fail
                go_roundw
                case rel => exact ⟨0 + 1, a2, by omega, by go_num, by go_num, hold.2.2.1, by rw [HT.out, HX.out, HA.out]; rfl⟩
                case measure => simp [intOf]; omega
              · obtain ⟨m, hm⟩ : ∃ m, j = m + 1 := ⟨j - 1, by omega⟩
                have hmJ : m < J.length := by omega
                have k3 : w4.cell? ⟨b, o + m * 2 + 1, none⟩ = some (.string J[m].2) := (HB34.out.cell (p := ⟨b, o + m * 2 + 1, none⟩) hbB).trans (HR1.out.cell2 m hmJ)
                have hle := HN1.out.step hlt hmJ hm
                have wr1 : IntKind.i64.wrap ((j : Int) - 1) = (m : Int) := by rw [IntKind.wrap_i64]; omega
                have wr2 : (0 : Int) ≤ (m : Int) := by omega
                have wr3 : (m : Int) < (J.length : Int) := by omega
                have wr4 : (0 : Int) < (j : Int) := by omega
                have wr5 : IntKind.i64.wrap (j : Int) = (j : Int) := by rw [IntKind.wrap_i64]; omega
                have wr6 : (j : Int) < (J.length : Int) := by omega
                clear hm
                go_wp2_with fail
                have hold : HeldJ w3 b (o + j * 2) (o + j * 2 + 1) (o + m * 2 + 1) J[j].1 J[j].2 J[m].2 w4.drew := ⟨k1, k2, k3, HB34.out.drew, hbB⟩
                clear k1 k2 k3
                refine wp_region_plan (S := HeldJ w3 b (o + j * 2) (o + j * 2 + 1) (o + m * 2 + 1) J[j].1 J[j].2 J[m].2) [(true, 0), (true, 1), (true, 2), (true, 3), (false, 4), (true, 5), (true, 6), (true, 7), (true, 8), (true, 9), (true, 10), (true, 11), (true, 12), (true, 13), (true, 14), (true, 15), (true, 16), (true, 17), (true, 18), (true, 19), (true, 20), (true, 21), (true, 22)] (by kernel_rfl) (by kernel_rfl) (fun _ _ d _ _ h => by cases d <;> exact h) hold ?_
                repeat (first | (refine Plan.take (v := ?_) rfl rfl ?_ ?_; rotate_left; (focus (intro W hW; obtain ⟨c1, c2, c3, _, _⟩ := hW; go_simp; (try with_reducible rfl); done)); (try simp only [Act.put, List.setIfInBounds_toArray, List.set_cons_zero, List.set_cons_succ])) | (refine Plan.skip rfl rfl ?_; (try simp only [Act.put, List.setIfInBounds_toArray, List.set_cons_zero, List.set_cons_succ])) | (refine Plan.pass rfl rfl hold ?_; (try simp only [Act.put, List.setIfInBounds_toArray, List.set_cons_zero, List.set_cons_succ])) | (refine Plan.step rfl rfl (fun Kk hK => ?_); go_simp; (go_at_call 14; (with_reducible refine (HE.out _).mono ?_); rintro e w5 ⟨rfl, hb⟩); refine hK.out _ _ (hold.below hb) ?_; replace hold := hold.below hb; clear hK Kk hb; (try simp only [Act.put, List.setIfInBounds_toArray, List.set_cons_zero, List.set_cons_succ])))
                simp only [Plan]
                go_wp2_with fail
                go_roundw
                case rel => exact ⟨j + 1, a2, by omega, by go_num, by go_num, hold.2.2.2.1, by rw [HT.out, HX.out, HA.out]; rfl⟩
                case measure => simp [intOf]; omega
            · rw [hx] at hc1
              have HX := Lib.hid hx; clear hx
              go_wp2_with fail
              refine hc1.mono ?_
              rintro e w4 ⟨rfl, hb4⟩
              have k1 := (hb4.cell (p := ⟨b, o + j * 2, none⟩) (Nat.lt_of_lt_of_le hbB hz)).trans g1
              have k2 := (hb4.cell (p := ⟨b, o + j * 2 + 1, none⟩) (Nat.lt_of_lt_of_le hbB hz)).trans g2
              have hb34 := HB.out.trans (hb4.mono hz)
              clear g1 g2 hb4
              have HB34 := Lib.hid hb34; clear hb34
              rcases Nat.eq_zero_or_pos j with h0 | h0
              · subst h0
                go_wp2_with fail
                have hold : HeldB w3 b o (o + 1) J[0].1 J[0].2 w4.drew := ⟨by simpa using k1, by simpa using k2, HB34.out.drew, hbB⟩
                clear k1 k2
                refine wp_region_plan (S := HeldB w3 b o (o + 1) J[0].1 J[0].2) [(true, 0), (true, 1), (true, 2), (true, 3), (false, 4), (true, 5), (true, 6), (true, 7), (true, 8), (true, 9), (true, 10), (true, 11), (true, 12), (true, 13), (true, 14), (true, 15), (true, 16), (true, 17), (true, 18), (true, 19), (true, 20), (true, 21), (true, 22)] (by kernel_rfl) (by kernel_rfl) (fun _ _ d _ _ h => by cases d <;> exact h) hold ?_
                repeat (first | (refine Plan.take (v := ?_) rfl rfl ?_ ?_; rotate_left; (focus (intro W hW; obtain ⟨c1, c2, _, _⟩ := hW; go_simp; (try with_reducible rfl); done)); (try simp only [Act.put, List.setIfInBounds_toArray, List.set_cons_zero, List.set_cons_succ])) | (refine Plan.skip rfl rfl ?_; (try simp only [Act.put, List.setIfInBounds_toArray, List.set_cons_zero, List.set_cons_succ])) | (refine Plan.pass rfl rfl hold ?_; (try simp only [Act.put, List.setIfInBounds_toArray, List.set_cons_zero, List.set_cons_succ])) | (refine Plan.step rfl rfl (fun Kk hK => ?_); go_simp; (go_at_call 14; (with_reducible refine (HE.out _).mono ?_); rintro e w5 ⟨rfl, hb⟩); refine hK.out _ _ (hold.below hb) ?_; replace hold := hold.below hb; clear hK Kk hb; (try simp only [Act.put, List.setIfInBounds_toArray, List.set_cons_zero, List.set_cons_succ])))
                simp only [Plan]
                go_wp2_with fail
                go_roundw
                case rel => exact ⟨0 + 1, a2 + 1, by omega, by go_num, by go_num, hold.2.2.1, by rw [HT.out, HX.out, HA.out]; rfl⟩
                case measure => simp [intOf]; omega
              · obtain ⟨m, hm⟩ : ∃ m, j = m + 1 := ⟨j - 1, by omega⟩
                have hmJ : m < J.length := by omega
                have k3 : w4.cell? ⟨b, o + m * 2 + 1, none⟩ = some (.string J[m].2) := (HB34.out.cell (p := ⟨b, o + m * 2 + 1, none⟩) hbB).trans (HR1.out.cell2 m hmJ)
                have hle := HN1.out.step hlt hmJ hm
                have wr1 : IntKind.i64.wrap ((j : Int) - 1) = (m : Int) := by rw [IntKind.wrap_i64]; omega
                have wr2 : (0 : Int) ≤ (m : Int) := by omega
                have wr3 : (m : Int) < (J.length : Int) := by omega
                have wr4 : (0 : Int) < (j : Int) := by omega
                have wr5 : IntKind.i64.wrap (j : Int) = (j : Int) := by rw [IntKind.wrap_i64]; omega
                have wr6 : (j : Int) < (J.length : Int) := by omega
                clear hm
                go_wp2_with fail
                have hold : HeldJ w3 b (o + j * 2) (o + j * 2 + 1) (o + m * 2 + 1) J[j].1 J[j].2 J[m].2 w4.drew := ⟨k1, k2, k3, HB34.out.drew, hbB⟩
                clear k1 k2 k3
                refine wp_region_plan (S := HeldJ w3 b (o + j * 2) (o + j * 2 + 1) (o + m * 2 + 1) J[j].1 J[j].2 J[m].2) [(true, 0), (true, 1), (true, 2), (true, 3), (false, 4), (true, 5), (true, 6), (true, 7), (true, 8), (true, 9), (true, 10), (true, 11), (true, 12), (true, 13), (true, 14), (true, 15), (true, 16), (true, 17), (true, 18), (true, 19), (true, 20), (true, 21), (true, 22)] (by kernel_rfl) (by kernel_rfl) (fun _ _ d _ _ h => by cases d <;> exact h) hold ?_
                repeat (first | (refine Plan.take (v := ?_) rfl rfl ?_ ?_; rotate_left; (focus (intro W hW; obtain ⟨c1, c2, c3, _, _⟩ := hW; go_simp; (try with_reducible rfl); done)); (try simp only [Act.put, List.setIfInBounds_toArray, List.set_cons_zero, List.set_cons_succ])) | (refine Plan.skip rfl rfl ?_; (try simp only [Act.put, List.setIfInBounds_toArray, List.set_cons_zero, List.set_cons_succ])) | (refine Plan.pass rfl rfl hold ?_; (try simp only [Act.put, List.setIfInBounds_toArray, List.set_cons_zero, List.set_cons_succ])) | (refine Plan.step rfl rfl (fun Kk hK => ?_); go_simp; (go_at_call 14; (with_reducible refine (HE.out _).mono ?_); rintro e w5 ⟨rfl, hb⟩); refine hK.out _ _ (hold.below hb) ?_; replace hold := hold.below hb; clear hK Kk hb; (try simp only [Act.put, List.setIfInBounds_toArray, List.set_cons_zero, List.set_cons_succ])))
                simp only [Plan]
                go_wp2_with fail
                go_roundw
                case rel => exact ⟨j + 1, a2 + 1, by omega, by go_num, by go_num, hold.2.2.2.1, by rw [HT.out, HX.out, HA.out]; rfl⟩
                case measure => simp [intOf]; omega
          · have hje : j = J.length := by omega
            subst hje
            have ha := HA.out
            rw [List.take_length] at ha
            have HA3 := Lib.hid ha
            clear hb ha HA
            go_wp2_with fail
            go_loopw [11, 14] (fun av i wr => ∃ j a3 : Nat, j ≤ R.length ∧ i = .int .i64 j ∧ av = .int .i64 a3 ∧ Below w3.heap.size w3 wr ∧ a3 = cnt k (R.take j)) (fun _ i _ => R.length - (intOf i).toNat)
            case atStart => exact ⟨0, 0, Nat.zero_le _, rfl, rfl, HB.out, by simp [cnt]⟩
            case round =>
              clear HB hz
              obtain ⟨j, a3, hj, rfl, rfl, hb, ha⟩ := hrel
              have hac : a3 ≤ j := by rw [ha]; exact cnt_le k R j
              have HA := Lib.hid ha; clear ha
              have hz := hb.size
              have HB := Lib.hid hb
              by_cases hlt : j < R.length
              · obtain ⟨b, o, rfl, hbB, h1, h2⟩ := HR2.out.at j hlt
                have g1 := (hb.cell (p := ⟨b, o + j * 2, none⟩) hbB).trans h1
                have g2 := (hb.cell (p := ⟨b, o + j * 2 + 1, none⟩) hbB).trans h2
                clear h1 h2
                have hc1 := has_any R[j] k wr
                rw [show (decide (R[j].1 ≤ k) && decide (k < R[j].2)) = hasB R[j] k from rfl] at hc1
                have HT := Lib.hid (cnt_take k hlt)
                clear hb
                cases hx : hasB R[j] k
                · rw [hx] at hc1
                  have HX := Lib.hid hx; clear hx
                  go_wp2_with fail
                  refine hc1.mono ?_
                  rintro e w4 ⟨rfl, hb4⟩
                  have HB4 := Lib.hid hb4; clear hb4
                  go_wp2_with fail
                  go_roundw
                  case rel => exact ⟨j + 1, a3, by omega, by go_num, by go_num, HB.out.trans (HB4.out.mono hz), by rw [HT.out, HX.out, HA.out]; rfl⟩
                  case measure => simp [intOf]; omega
                · rw [hx] at hc1
                  have HX := Lib.hid hx; clear hx
                  go_wp2_with fail
                  refine hc1.mono ?_
                  rintro e w4 ⟨rfl, hb4⟩
                  have HB4 := Lib.hid hb4; clear hb4
                  go_wp2_with fail
                  go_roundw
                  case rel => exact ⟨j + 1, a3 + 1, by omega, by go_num, by go_num, HB.out.trans (HB4.out.mono hz), by rw [HT.out, HX.out, HA.out]; rfl⟩
                  case measure => simp [intOf]; omega
              · have hje : j = R.length := by omega
                subst hje
                have ha := HA.out
                rw [List.take_length] at ha
                have HA4 := Lib.hid ha
                clear hb ha HA
                have q2 := HA2.out
                have q3 := HA3.out
                have q4 := HA4.out
                rw [cnt_of HN1.out HM1.out] at q3
                rw [cnt_left HN2.out HM2.out] at q4
                generalize (l.any fun t => hasB t k) = x at q2 q3 q4
                have hh := HH.out.below HB.out
                have k1 := hh.1
                have k2 := hh.2.1
                have hc1 := fun W => has_any s k W
                rw [show (decide (s.1 ≤ k) && decide (k < s.2)) = hasB s k from rfl] at hc1
                generalize hasB s k = y at q4 hc1
                subst q2 q3 q4
                have hlow : w.heap.size < wr.heap.size := hh.2.2.2
                have hbw := hh.bel
                have HBW := Lib.hid hbw; clear hbw hh HB hz HA2 HA3 HA4
                have HC := Lib.hid hc1; clear hc1
                cases x <;> cases y
                all_goals
                  simp only [oneB, Bool.not_true, Bool.not_false, Bool.and_true, Bool.and_false, Bool.and_self, if_true, Bool.false_eq_true, if_false]
                  go_wp2_with fail
                  refine (awake_any _).mono ?_
                  rintro e w6 ⟨rfl, hb6⟩
                  have e1 := (hb6.cell (p := ⟨w.heap.size, 0, none⟩) hlow).trans k1
                  have e2 := (hb6.cell (p := ⟨w.heap.size, 1, none⟩) hlow).trans k2
                  have HB6 := Lib.hid hb6; clear hb6
                  go_wp2_with fail
                  refine (HC.out _).mono ?_
                  rintro e w7 ⟨rfl, hb7⟩
                  have HB7 := Lib.hid hb7; clear hb7
                  go_wp2_with fail
                  go_ret
                  exact ⟨rfl, (HBW.out.trans (HB6.out.mono HBW.out.size)).trans (HB7.out.mono (Nat.le_trans HBW.out.size HB6.out.size))⟩
  · obtain ⟨l, hl⟩ : ∃ l, l = l0 := ⟨_, rfl⟩
    subst hl
    have hll : l.length ≤ 200 := by omega
    have HV := Lib.hid hv; clear hv
    go_enter Try.func9, Try.ntmps9
    go_wp2_with fail
    clear hlong hc
    refine wp_region_plan (S := HeldW w w.heap.size s) [(true, 0), (true, 2), (true, 3), (false, 1), (false, 4), (true, 5), (true, 6)] (by kernel_rfl) (by kernel_rfl) (fun _ _ d _ _ h => by cases d <;> exact h) hold ?_
    repeat (first | (refine Plan.take (v := ?_) rfl rfl ?_ ?_; rotate_left; (focus (intro W hW; obtain ⟨c1, c2, _, _⟩ := hW; go_simp; (try with_reducible rfl); done)); (try simp only [Act.put, List.setIfInBounds_toArray, List.set_cons_zero, List.set_cons_succ])) | (refine Plan.skip rfl rfl ?_; (try simp only [Act.put, List.setIfInBounds_toArray, List.set_cons_zero, List.set_cons_succ])) | (refine Plan.pass rfl rfl hold ?_; (try simp only [Act.put, List.setIfInBounds_toArray, List.set_cons_zero, List.set_cons_succ])) | (refine Plan.step rfl rfl (fun Kk hK => ?_); go_simp; (first | (go_at_call 21; (with_reducible refine (join_any l _ _ ((HV.out.below hold.bel (Nat.le_refl _)).mono hold.bel.size) (by omega)).mono ?_); rintro e w1 ⟨v1, J, rfl, ho1, hb, hn1, hm1, hl1⟩; have hr1 := ho1.rd; clear ho1; have HN1 := Lib.hid hn1; have HM1 := Lib.hid hm1; clear hn1 hm1) | (go_at_call 23; (with_reducible refine (without_any s l _ _ ((HV.out.below hold.bel (Nat.le_refl _)).mono hold.bel.size) (by omega)).mono ?_); rintro e w3 ⟨v2, R, rfl, ho2, hb, hn2, hm2, hl2⟩; replace hr1 := hr1.next hb; have hr2 := ho2.rd; clear ho2; have HN2 := Lib.hid hn2; have HM2 := Lib.hid hm2; clear hn2 hm2)); refine hK.out _ _ (hold.below hb) ?_; replace hold := hold.below hb; clear hK Kk hb; (try simp only [Act.put, List.setIfInBounds_toArray, List.set_cons_zero, List.set_cons_succ])))
    simp only [Plan]
    have HV3 := Lib.hid (HV.out.next hold.bel)
    obtain ⟨A1, c1, rfl, _⟩ := hr1.form
    obtain ⟨A2, c2, rfl, _⟩ := hr2.form
    have HR1 := Lib.hid hr1; clear hr1
    have HR2 := Lib.hid hr2; clear hr2
    have hhold := hold
    have HH := Lib.hid hhold; clear hhold hold HV
    go_wp2_with fail
    go_loopw [9, 12] (fun av i wr => ∃ j a : Nat, j ≤ l.length ∧ i = .int .i64 j ∧ av = .int .i64 a ∧ Below w3.heap.size w3 wr ∧ a = oneB ((l.take j).any fun t => hasB t k)) (fun _ i _ => l.length - (intOf i).toNat)
    case atStart => exact ⟨0, 0, Nat.zero_le _, rfl, rfl, ⟨rfl, rfl, rfl, Nat.le_refl _, fun _ _ => rfl⟩, by simp [oneB]⟩
    case round =>
      obtain ⟨j, a, hj, rfl, rfl, hb, ha⟩ := hrel
      have HA := Lib.hid ha; clear ha
      have hz := hb.size
      have HB := Lib.hid hb
      by_cases hlt : j < l.length
      · obtain ⟨b, o, rfl, hbB, h1, h2⟩ := HV3.out.at j hlt
        have g1 := (hb.cell (p := ⟨b, o + j * 2, none⟩) hbB).trans h1
        have g2 := (hb.cell (p := ⟨b, o + j * 2 + 1, none⟩) hbB).trans h2
        clear h1 h2
        have hc1 := has_any l[j] k wr
        rw [show (decide (l[j].1 ≤ k) && decide (k < l[j].2)) = hasB l[j] k from rfl] at hc1
        have HT := Lib.hid (any_take k hlt)
        clear hb
        cases hx : hasB l[j] k
        · rw [hx] at hc1
          have HX := Lib.hid hx; clear hx
          go_wp2_with fail
          refine hc1.mono ?_
          rintro e w4 ⟨rfl, hb4⟩
          have HB4 := Lib.hid hb4; clear hb4
          go_wp2_with fail
          go_roundw
          case rel => exact ⟨j + 1, a, by omega, by go_num, rfl, HB.out.trans (HB4.out.mono hz), by rw [HA.out, HT.out, HX.out, Bool.or_false]⟩
          case measure => simp [intOf]; omega
        · rw [hx] at hc1
          have HX := Lib.hid hx; clear hx
          go_wp2_with fail
          refine hc1.mono ?_
          rintro e w4 ⟨rfl, hb4⟩
          have HB4 := Lib.hid hb4; clear hb4
          go_wp2_with fail
          go_roundw
          case rel => exact ⟨j + 1, 1, by omega, by go_num, rfl, HB.out.trans (HB4.out.mono hz), by rw [HT.out, HX.out, Bool.or_true]; rfl⟩
          case measure => simp [intOf]; omega
      · have hje : j = l.length := by omega
        subst hje
        have ha := HA.out
        rw [List.take_length] at ha
        have HA2 := Lib.hid ha
        clear hb ha HA
        go_wp2_with fail
        go_loopw [10, 13] (fun av i wr => ∃ j a2 : Nat, j ≤ J.length ∧ i = .int .i64 j ∧ av = .int .i64 a2 ∧ Below w3.heap.size w3 wr ∧ a2 = cnt k (J.take j)) (fun _ i _ => J.length - (intOf i).toNat)
        case atStart => exact ⟨0, 0, Nat.zero_le _, rfl, rfl, HB.out, by simp [cnt]⟩
        case round =>
          clear HB hz
          obtain ⟨j, a2, hj, rfl, rfl, hb, ha⟩ := hrel
          have hac : a2 ≤ j := by rw [ha]; exact cnt_le k J j
          have HA := Lib.hid ha; clear ha
          have hz := hb.size
          have HB := Lib.hid hb
          by_cases hlt : j < J.length
          · obtain ⟨b, o, rfl, hbB, h1, h2⟩ := HR1.out.at j hlt
            have g1 := (hb.cell (p := ⟨b, o + j * 2, none⟩) hbB).trans h1
            have g2 := (hb.cell (p := ⟨b, o + j * 2 + 1, none⟩) hbB).trans h2
            clear h1 h2
            have hc1 := has_any J[j] k wr
            rw [show (decide (J[j].1 ≤ k) && decide (k < J[j].2)) = hasB J[j] k from rfl] at hc1
            have HT := Lib.hid (cnt_take k hlt)
            have he := fun W => empty_any J[j] W
            rw [HN1.out.full hlt] at he
            have HE := Lib.hid he; clear he
            clear hb
            cases hx : hasB J[j] k
            · rw [hx] at hc1
              have HX := Lib.hid hx; clear hx
              go_wp2_with fail
              refine hc1.mono ?_
              rintro e w4 ⟨rfl, hb4⟩
              have k1 := (hb4.cell (p := ⟨b, o + j * 2, none⟩) (Nat.lt_of_lt_of_le hbB hz)).trans g1
              have k2 := (hb4.cell (p := ⟨b, o + j * 2 + 1, none⟩) (Nat.lt_of_lt_of_le hbB hz)).trans g2
              have hb34 := HB.out.trans (hb4.mono hz)
              clear g1 g2 hb4
              have HB34 := Lib.hid hb34; clear hb34
              rcases Nat.eq_zero_or_pos j with h0 | h0
              · subst h0
                go_wp2_with fail
                have hold : HeldB w3 b o (o + 1) J[0].1 J[0].2 w4.drew := ⟨by simpa using k1, by simpa using k2, HB34.out.drew, hbB⟩
                clear k1 k2
                refine wp_region_plan (S := HeldB w3 b o (o + 1) J[0].1 J[0].2) [(true, 0), (true, 1), (true, 2), (true, 3), (false, 4), (true, 5), (true, 6), (true, 7), (true, 8), (true, 9), (true, 10), (true, 11), (true, 12), (true, 13), (true, 14), (true, 15), (true, 16), (true, 17), (true, 18), (true, 19), (true, 20), (true, 21), (true, 22)] (by kernel_rfl) (by kernel_rfl) (fun _ _ d _ _ h => by cases d <;> exact h) hold ?_
                repeat (first | (refine Plan.take (v := ?_) rfl rfl ?_ ?_; rotate_left; (focus (intro W hW; obtain ⟨c1, c2, _, _⟩ := hW; go_simp; (try with_reducible rfl); done)); (try simp only [Act.put, List.setIfInBounds_toArray, List.set_cons_zero, List.set_cons_succ])) | (refine Plan.skip rfl rfl ?_; (try simp only [Act.put, List.setIfInBounds_toArray, List.set_cons_zero, List.set_cons_succ])) | (refine Plan.pass rfl rfl hold ?_; (try simp only [Act.put, List.setIfInBounds_toArray, List.set_cons_zero, List.set_cons_succ])) | (refine Plan.step rfl rfl (fun Kk hK => ?_); go_simp; (go_at_call 14; (with_reducible refine (HE.out _).mono ?_); rintro e w5 ⟨rfl, hb⟩); refine hK.out _ _ (hold.below hb) ?_; replace hold := hold.below hb; clear hK Kk hb; (try simp only [Act.put, List.setIfInBounds_toArray, List.set_cons_zero, List.set_cons_succ])))
                simp only [Plan]
                go_wp2_with fail
                go_roundw
                case rel => exact ⟨0 + 1, a2, by omega, by go_num, by go_num, hold.2.2.1, by rw [HT.out, HX.out, HA.out]; rfl⟩
                case measure => simp [intOf]; omega
              · obtain ⟨m, hm⟩ : ∃ m, j = m + 1 := ⟨j - 1, by omega⟩
                have hmJ : m < J.length := by omega
                have k3 : w4.cell? ⟨b, o + m * 2 + 1, none⟩ = some (.string J[m].2) := (HB34.out.cell (p := ⟨b, o + m * 2 + 1, none⟩) hbB).trans (HR1.out.cell2 m hmJ)
                have hle := HN1.out.step hlt hmJ hm
                have wr1 : IntKind.i64.wrap ((j : Int) - 1) = (m : Int) := by rw [IntKind.wrap_i64]; omega
                have wr2 : (0 : Int) ≤ (m : Int) := by omega
                have wr3 : (m : Int) < (J.length : Int) := by omega
                have wr4 : (0 : Int) < (j : Int) := by omega
                have wr5 : IntKind.i64.wrap (j : Int) = (j : Int) := by rw [IntKind.wrap_i64]; omega
                have wr6 : (j : Int) < (J.length : Int) := by omega
                clear hm
                go_wp2_with fail
                have hold : HeldJ w3 b (o + j * 2) (o + j * 2 + 1) (o + m * 2 + 1) J[j].1 J[j].2 J[m].2 w4.drew := ⟨k1, k2, k3, HB34.out.drew, hbB⟩
                clear k1 k2 k3
                refine wp_region_plan (S := HeldJ w3 b (o + j * 2) (o + j * 2 + 1) (o + m * 2 + 1) J[j].1 J[j].2 J[m].2) [(true, 0), (true, 1), (true, 2), (true, 3), (false, 4), (true, 5), (true, 6), (true, 7), (true, 8), (true, 9), (true, 10), (true, 11), (true, 12), (true, 13), (true, 14), (true, 15), (true, 16), (true, 17), (true, 18), (true, 19), (true, 20), (true, 21), (true, 22)] (by kernel_rfl) (by kernel_rfl) (fun _ _ d _ _ h => by cases d <;> exact h) hold ?_
                repeat (first | (refine Plan.take (v := ?_) rfl rfl ?_ ?_; rotate_left; (focus (intro W hW; obtain ⟨c1, c2, c3, _, _⟩ := hW; go_simp; (try with_reducible rfl); done)); (try simp only [Act.put, List.setIfInBounds_toArray, List.set_cons_zero, List.set_cons_succ])) | (refine Plan.skip rfl rfl ?_; (try simp only [Act.put, List.setIfInBounds_toArray, List.set_cons_zero, List.set_cons_succ])) | (refine Plan.pass rfl rfl hold ?_; (try simp only [Act.put, List.setIfInBounds_toArray, List.set_cons_zero, List.set_cons_succ])) | (refine Plan.step rfl rfl (fun Kk hK => ?_); go_simp; (go_at_call 14; (with_reducible refine (HE.out _).mono ?_); rintro e w5 ⟨rfl, hb⟩); refine hK.out _ _ (hold.below hb) ?_; replace hold := hold.below hb; clear hK Kk hb; (try simp only [Act.put, List.setIfInBounds_toArray, List.set_cons_zero, List.set_cons_succ])))
                simp only [Plan]
                go_wp2_with fail
                go_roundw
                case rel => exact ⟨j + 1, a2, by omega, by go_num, by go_num, hold.2.2.2.1, by rw [HT.out, HX.out, HA.out]; rfl⟩
                case measure => simp [intOf]; omega
            · rw [hx] at hc1
              have HX := Lib.hid hx; clear hx
              go_wp2_with fail
              refine hc1.mono ?_
              rintro e w4 ⟨rfl, hb4⟩
              have k1 := (hb4.cell (p := ⟨b, o + j * 2, none⟩) (Nat.lt_of_lt_of_le hbB hz)).trans g1
              have k2 := (hb4.cell (p := ⟨b, o + j * 2 + 1, none⟩) (Nat.lt_of_lt_of_le hbB hz)).trans g2
              have hb34 := HB.out.trans (hb4.mono hz)
              clear g1 g2 hb4
              have HB34 := Lib.hid hb34; clear hb34
              rcases Nat.eq_zero_or_pos j with h0 | h0
              · subst h0
                go_wp2_with fail
                have hold : HeldB w3 b o (o + 1) J[0].1 J[0].2 w4.drew := ⟨by simpa using k1, by simpa using k2, HB34.out.drew, hbB⟩
                clear k1 k2
                refine wp_region_plan (S := HeldB w3 b o (o + 1) J[0].1 J[0].2) [(true, 0), (true, 1), (true, 2), (true, 3), (false, 4), (true, 5), (true, 6), (true, 7), (true, 8), (true, 9), (true, 10), (true, 11), (true, 12), (true, 13), (true, 14), (true, 15), (true, 16), (true, 17), (true, 18), (true, 19), (true, 20), (true, 21), (true, 22)] (by kernel_rfl) (by kernel_rfl) (fun _ _ d _ _ h => by cases d <;> exact h) hold ?_
                repeat (first | (refine Plan.take (v := ?_) rfl rfl ?_ ?_; rotate_left; (focus (intro W hW; obtain ⟨c1, c2, _, _⟩ := hW; go_simp; (try with_reducible rfl); done)); (try simp only [Act.put, List.setIfInBounds_toArray, List.set_cons_zero, List.set_cons_succ])) | (refine Plan.skip rfl rfl ?_; (try simp only [Act.put, List.setIfInBounds_toArray, List.set_cons_zero, List.set_cons_succ])) | (refine Plan.pass rfl rfl hold ?_; (try simp only [Act.put, List.setIfInBounds_toArray, List.set_cons_zero, List.set_cons_succ])) | (refine Plan.step rfl rfl (fun Kk hK => ?_); go_simp; (go_at_call 14; (with_reducible refine (HE.out _).mono ?_); rintro e w5 ⟨rfl, hb⟩); refine hK.out _ _ (hold.below hb) ?_; replace hold := hold.below hb; clear hK Kk hb; (try simp only [Act.put, List.setIfInBounds_toArray, List.set_cons_zero, List.set_cons_succ])))
                simp only [Plan]
                go_wp2_with fail
                go_roundw
                case rel => exact ⟨0 + 1, a2 + 1, by omega, by go_num, by go_num, hold.2.2.1, by rw [HT.out, HX.out, HA.out]; rfl⟩
                case measure => simp [intOf]; omega
              · obtain ⟨m, hm⟩ : ∃ m, j = m + 1 := ⟨j - 1, by omega⟩
                have hmJ : m < J.length := by omega
                have k3 : w4.cell? ⟨b, o + m * 2 + 1, none⟩ = some (.string J[m].2) := (HB34.out.cell (p := ⟨b, o + m * 2 + 1, none⟩) hbB).trans (HR1.out.cell2 m hmJ)
                have hle := HN1.out.step hlt hmJ hm
                have wr1 : IntKind.i64.wrap ((j : Int) - 1) = (m : Int) := by rw [IntKind.wrap_i64]; omega
                have wr2 : (0 : Int) ≤ (m : Int) := by omega
                have wr3 : (m : Int) < (J.length : Int) := by omega
                have wr4 : (0 : Int) < (j : Int) := by omega
                have wr5 : IntKind.i64.wrap (j : Int) = (j : Int) := by rw [IntKind.wrap_i64]; omega
                have wr6 : (j : Int) < (J.length : Int) := by omega
                clear hm
                go_wp2_with fail
                have hold : HeldJ w3 b (o + j * 2) (o + j * 2 + 1) (o + m * 2 + 1) J[j].1 J[j].2 J[m].2 w4.drew := ⟨k1, k2, k3, HB34.out.drew, hbB⟩
                clear k1 k2 k3
                refine wp_region_plan (S := HeldJ w3 b (o + j * 2) (o + j * 2 + 1) (o + m * 2 + 1) J[j].1 J[j].2 J[m].2) [(true, 0), (true, 1), (true, 2), (true, 3), (false, 4), (true, 5), (true, 6), (true, 7), (true, 8), (true, 9), (true, 10), (true, 11), (true, 12), (true, 13), (true, 14), (true, 15), (true, 16), (true, 17), (true, 18), (true, 19), (true, 20), (true, 21), (true, 22)] (by kernel_rfl) (by kernel_rfl) (fun _ _ d _ _ h => by cases d <;> exact h) hold ?_
                repeat (first | (refine Plan.take (v := ?_) rfl rfl ?_ ?_; rotate_left; (focus (intro W hW; obtain ⟨c1, c2, c3, _, _⟩ := hW; go_simp; (try with_reducible rfl); done)); (try simp only [Act.put, List.setIfInBounds_toArray, List.set_cons_zero, List.set_cons_succ])) | (refine Plan.skip rfl rfl ?_; (try simp only [Act.put, List.setIfInBounds_toArray, List.set_cons_zero, List.set_cons_succ])) | (refine Plan.pass rfl rfl hold ?_; (try simp only [Act.put, List.setIfInBounds_toArray, List.set_cons_zero, List.set_cons_succ])) | (refine Plan.step rfl rfl (fun Kk hK => ?_); go_simp; (go_at_call 14; (with_reducible refine (HE.out _).mono ?_); rintro e w5 ⟨rfl, hb⟩); refine hK.out _ _ (hold.below hb) ?_; replace hold := hold.below hb; clear hK Kk hb; (try simp only [Act.put, List.setIfInBounds_toArray, List.set_cons_zero, List.set_cons_succ])))
                simp only [Plan]
                go_wp2_with fail
                go_roundw
                case rel => exact ⟨j + 1, a2 + 1, by omega, by go_num, by go_num, hold.2.2.2.1, by rw [HT.out, HX.out, HA.out]; rfl⟩
                case measure => simp [intOf]; omega
          · have hje : j = J.length := by omega
            subst hje
            have ha := HA.out
            rw [List.take_length] at ha
            have HA3 := Lib.hid ha
            clear hb ha HA
            go_wp2_with fail
            go_loopw [11, 14] (fun av i wr => ∃ j a3 : Nat, j ≤ R.length ∧ i = .int .i64 j ∧ av = .int .i64 a3 ∧ Below w3.heap.size w3 wr ∧ a3 = cnt k (R.take j)) (fun _ i _ => R.length - (intOf i).toNat)
            case atStart => exact ⟨0, 0, Nat.zero_le _, rfl, rfl, HB.out, by simp [cnt]⟩
            case round =>
              clear HB hz
              obtain ⟨j, a3, hj, rfl, rfl, hb, ha⟩ := hrel
              have hac : a3 ≤ j := by rw [ha]; exact cnt_le k R j
              have HA := Lib.hid ha; clear ha
              have hz := hb.size
              have HB := Lib.hid hb
              by_cases hlt : j < R.length
              · obtain ⟨b, o, rfl, hbB, h1, h2⟩ := HR2.out.at j hlt
                have g1 := (hb.cell (p := ⟨b, o + j * 2, none⟩) hbB).trans h1
                have g2 := (hb.cell (p := ⟨b, o + j * 2 + 1, none⟩) hbB).trans h2
                clear h1 h2
                have hc1 := has_any R[j] k wr
                rw [show (decide (R[j].1 ≤ k) && decide (k < R[j].2)) = hasB R[j] k from rfl] at hc1
                have HT := Lib.hid (cnt_take k hlt)
                clear hb
                cases hx : hasB R[j] k
                · rw [hx] at hc1
                  have HX := Lib.hid hx; clear hx
                  go_wp2_with fail
                  refine hc1.mono ?_
                  rintro e w4 ⟨rfl, hb4⟩
                  have HB4 := Lib.hid hb4; clear hb4
                  go_wp2_with fail
                  go_roundw
                  case rel => exact ⟨j + 1, a3, by omega, by go_num, by go_num, HB.out.trans (HB4.out.mono hz), by rw [HT.out, HX.out, HA.out]; rfl⟩
                  case measure => simp [intOf]; omega
                · rw [hx] at hc1
                  have HX := Lib.hid hx; clear hx
                  go_wp2_with fail
                  refine hc1.mono ?_
                  rintro e w4 ⟨rfl, hb4⟩
                  have HB4 := Lib.hid hb4; clear hb4
                  go_wp2_with fail
                  go_roundw
                  case rel => exact ⟨j + 1, a3 + 1, by omega, by go_num, by go_num, HB.out.trans (HB4.out.mono hz), by rw [HT.out, HX.out, HA.out]; rfl⟩
                  case measure => simp [intOf]; omega
              · have hje : j = R.length := by omega
                subst hje
                have ha := HA.out
                rw [List.take_length] at ha
                have HA4 := Lib.hid ha
                clear hb ha HA
                have q2 := HA2.out
                have q3 := HA3.out
                have q4 := HA4.out
                rw [cnt_of HN1.out HM1.out] at q3
                rw [cnt_left HN2.out HM2.out] at q4
                generalize (l.any fun t => hasB t k) = x at q2 q3 q4
                have hh := HH.out.below HB.out
                have k1 := hh.1
                have k2 := hh.2.1
                have hc1 := fun W => has_any s k W
                rw [show (decide (s.1 ≤ k) && decide (k < s.2)) = hasB s k from rfl] at hc1
                generalize hasB s k = y at q4 hc1
                subst q2 q3 q4
                have hlow : w.heap.size < wr.heap.size := hh.2.2.2
                have hbw := hh.bel
                have HBW := Lib.hid hbw; clear hbw hh HB hz HA2 HA3 HA4
                have HC := Lib.hid hc1; clear hc1
                cases x <;> cases y
                all_goals
                  simp only [oneB, Bool.not_true, Bool.not_false, Bool.and_true, Bool.and_false, Bool.and_self, if_true, Bool.false_eq_true, if_false]
                  go_wp2_with fail
                  refine (awake_any _).mono ?_
                  rintro e w6 ⟨rfl, hb6⟩
                  have e1 := (hb6.cell (p := ⟨w.heap.size, 0, none⟩) hlow).trans k1
                  have e2 := (hb6.cell (p := ⟨w.heap.size, 1, none⟩) hlow).trans k2
                  have HB6 := Lib.hid hb6; clear hb6
                  go_wp2_with fail
                  refine (HC.out _).mono ?_
                  rintro e w7 ⟨rfl, hb7⟩
                  have HB7 := Lib.hid hb7; clear hb7
                  go_wp2_with fail
                  go_ret
                  exact ⟨rfl, (HBW.out.trans (HB6.out.mono HBW.out.size)).trans (HB7.out.mono (Nat.le_trans HBW.out.size HB6.out.size))⟩
end Go.Proofs.Ytmfpidihcjnnkaa
