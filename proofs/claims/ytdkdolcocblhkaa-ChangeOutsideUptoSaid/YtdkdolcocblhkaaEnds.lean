/- The reference's ends: each key once, rising: what Insert and ends answer. -/
import Derived.Test.YtdkdolcocblhkaaSmall
import Derived.Test.YtdkdolcocblhkaaGen
import Derived.Test.YtdkdolcocblhkaaSeq
namespace Go.Proofs.Ytdkdolcocblhkaa
open Go.RowKit
attribute [local go_sem] less_eq same_eq le_eq ge_eq gt_eq

def encK (x : K) : List Value := [.string x]
theorem encK_len (x : K) : (encK x).length = 1 := rfl
theorem encK_one (x : K) : ∀ u ∈ encK x, u.oneCell' = true := by intro u hu; simp [encK] at hu; subst hu; rfl
theorem info_keys : (Try.prog.info? 9).map (fun i => (i.zero, i.size, i.bytes)) = some (some (.string ⟨#[]⟩), 1, 16) := by kernel_rfl
abbrev RdK (w : World) (B : Nat) (v : Value) (l : List K) : Prop := Rd encK 1 w B v l
abbrev OwnK (w : World) (base : Nat) (v : Value) (l : List K) : Prop := Own encK 1 9 w base v l

theorem RdK.cell {w : World} {B : Nat} {A : Option Addr} {m c : Nat} {l : List K} (h : RdK w B (.slice A m c) l) {i : Nat} (hi : i < l.length) : ∃ b o, A = some ⟨b, o, none⟩ ∧ b < B ∧ w.cell? ⟨b, o + i, none⟩ = some (.string l[i]) := by
  obtain ⟨A', c', hv, _, hc⟩ := h
  injection hv with h1 _ _
  subst h1
  obtain ⟨b, o, hA, hB, h1⟩ := hc i hi
  exact ⟨b, o, hA, hB, by simpa using h1 0 (.string l[i]) rfl⟩

theorem RdK.one (w : World) (s : K) : RdK (w.alloc (.cells #[.string s] 9)) (w.heap.size + 1) (.slice (some ⟨w.heap.size, 0, none⟩) 1 1) [s] := by
  refine ⟨_, 1, rfl, Nat.le_refl _, fun i hi => ⟨w.heap.size, 0, rfl, by omega, fun j u hu => ?_⟩⟩
  obtain rfl : i = 0 := by simpa using hi
  rw [World.cell?_alloc_at _ _ _ _ rfl]
  match j, hu with
  | 0, hu => simpa [encK] using hu

/-- how many of the first keys are below one -/
def lead (s : K) : List K → Nat
  | [] => 0
  | x :: r => if x < s then lead s r + 1 else 0
def ins (l : List K) (s : K) : List K := if l[lead s l]? = some s then l else l.take (lead s l) ++ s :: l.drop (lead s l)
theorem lead_eq : ∀ (s : K) (l : List K) (j : Nat), j ≤ l.length → (∀ i (h : i < l.length), i < j → l[i] < s) → (∀ (h : j < l.length), ¬ l[j] < s) → lead s l = j
  | s, [], j, hj, _, _ => by simp at hj; simp [lead, hj]
  | s, x :: r, 0, _, _, h2 => by have := h2 (by simp); simp only [List.getElem_cons_zero] at this; rw [lead, if_neg this]
  | s, x :: r, j + 1, hj, h1, h2 => by
    have h0 := h1 0 (by simp) (by omega)
    simp only [List.getElem_cons_zero] at h0
    rw [lead, if_pos h0, lead_eq s r j (by simpa using hj) (fun i h hij => by have := h1 (i + 1) (by simpa using h) (by omega); simpa using this) (fun h => by have := h2 (by simpa using h); simpa using this)]

set_option maxHeartbeats 1000000 in
set_option maxRecDepth 100000 in
theorem insert_any (l : List K) (s : K) (v : Value) (w : World) (hv : RdK w w.heap.size v l) (hl : l.length ≤ 1000) : Calls Try.prog 72 #[v, .string s] w fun e w' =>
    ∃ A c, e = .returned (.slice A (ins l s).length c) ∧ RdK w' w'.heap.size (.slice A (ins l s).length c) (ins l s) ∧ Below w.heap.size w w' := by
  obtain ⟨A, c, rfl, hc⟩ : ∃ A c, v = .slice A l.length c ∧ l.length ≤ c := by obtain ⟨A, c, h1, h2, _⟩ := hv; exact ⟨A, c, h1, h2⟩
  obtain ⟨i0, hi0, hz0, hz1, hz2⟩ := info_parts info_keys
  obtain ⟨R, hR⟩ : ∃ R, R = ins l s := ⟨_, rfl⟩
  rw [← hR]
  have HR := Lib.hid hR; clear hR
  have HV := Lib.hid hv; clear hv
  have HI0 := Lib.hid hi0; clear hi0
  have HZ0 := Lib.hid hz0; clear hz0
  have HZ1 := Lib.hid hz1; clear hz1
  have HZ2 := Lib.hid hz2; clear hz2
  go_enter Try.func72, Try.ntmps72
  go_wp2
  go_loop [5] (fun v => ∃ j : Nat, j ≤ l.length ∧ v = .int .i64 j ∧ ∀ i (h : i < l.length), i < j → l[i] < s) (fun i => l.length - (intOf i).toNat)
  case atStart => exact ⟨0, Nat.zero_le _, rfl, fun i _ h => by omega⟩
  case round =>
    obtain ⟨j, hj, rfl, hall⟩ := hrel
    have HA := Lib.hid hall; clear hall
    by_cases hlt : j < l.length
    · obtain ⟨b, o, rfl, hb, hcell⟩ := HV.out.cell hlt
      by_cases hx : l[j] < s
      · go_wp2_with fail
        go_round
        case rel => exact ⟨j + 1, by omega, by go_num, fun i h hij => by
          rcases Nat.lt_or_ge i j with h' | h'
          · exact HA.out i h h'
          · obtain rfl : i = j := by omega
            exact hx⟩
        case measure => simp [intOf]; omega
      · have hlead : lead s l = j := lead_eq s l j hj HA.out (fun _ => hx)
        by_cases he : l[j] = s
        · have hans : ins l s = l := by rw [ins, hlead, List.getElem?_eq_getElem hlt, he, if_pos rfl]
          subst he
          have HN := Lib.hid hans; clear hlead hans
          go_wp2_with fail
          go_ret
          obtain rfl := HR.out.trans HN.out
          exact ⟨_, _, rfl, HV.out, Below.refl _ _⟩
        · have hans : ins l s = l.take j ++ s :: l.drop j := by rw [ins, hlead, List.getElem?_eq_getElem hlt, if_neg (by simpa using he)]
          have HN := Lib.hid hans; clear hlead hans
          go_wp2_with (at_builtin; go_must (refine wpList_addAny (enc := encK) (k := 1) 88 9 16 i0 _ Try.underlying88 HI0.out HZ0.out HZ1.out HZ2.out rfl (by decide) encK_len encK_one rfl _ _ rfl w.heap.size (.slice (some ⟨w.heap.size, 0, none⟩) 0 0) [] rfl ?_ w.heap.size _ (l.take j) rfl ?_ (by simp; unfold maxLen; omega) (by simp; omega) ?_ ?_))
          · exact Own.empty _ _ (Nat.le_refl _)
          · simpa using (HV.out.take j hj).below ((Below.refl _ _).alloc (Nat.le_refl _) _) (Nat.le_refl _)
          intro A1 c1 w1 ho1 hg1
          have hb1 : Below w.heap.size w w1 := (Own.empty (enc := encK) (k := 1) (e := 9) w w.heap.size (Nat.le_refl _)).grown ((Below.refl _ w).alloc (Nat.le_refl _) _) hg1 (Nat.le_refl _) (by simp)
          have hz1 := hb1.size
          have HO1 := Lib.hid ho1; clear ho1
          have HB1 := Lib.hid hb1; clear hb1 hg1
          go_wp2_with (at_builtin; go_must (refine wpList_addAny (enc := encK) (k := 1) 88 9 16 i0 _ Try.underlying88 HI0.out HZ0.out HZ1.out HZ2.out rfl (by decide) encK_len encK_one rfl _ _ rfl w.heap.size (.slice A1 j c1) (l.take j) rfl ?_ (w1.heap.size + 1) _ [s] rfl ?_ (by simp; unfold maxLen; omega) (by simp; omega) ?_ ?_))
          · simpa using HO1.out.alloc (.cells #[.string s] 9)
          · exact RdK.one w1 s
          · simp; omega
          intro A2 c2 w2 ho2 hg2
          have hb2 : Below w.heap.size w w2 := (HO1.out.alloc (.cells #[.string s] 9)).grown (HB1.out.alloc hz1 _) hg2 (Nat.le_refl _) (by simp; omega)
          have hz2 := hb2.size
          have HO2 := Lib.hid ho2; clear ho2
          have HB2 := Lib.hid hb2; clear hb2 hg2
          go_wp2_with (at_builtin; go_must (refine wpList_addAny (enc := encK) (k := 1) 88 9 16 i0 _ Try.underlying88 HI0.out HZ0.out HZ1.out HZ2.out rfl (by decide) encK_len encK_one rfl _ _ rfl w.heap.size (.slice A2 (j + 1) c2) (l.take j ++ [s]) rfl ?_ w.heap.size _ (l.drop j) rfl ?_ (by simp; unfold maxLen; omega) (by simp; omega) ?_ ?_))
          · exact HO2.out
          · exact (HV.out.drop j (c - j) hj (by omega) (some ⟨b, o + j, none⟩) (fun _ => by simp [Addr.add_lit])).below HB2.out (Nat.le_refl _)
          · exact hz2
          intro A3 c3 w3 ho3 hg3
          have hb3 : Below w.heap.size w w3 := HO2.out.grown HB2.out hg3 (Nat.le_refl _) hz2
          have HO3 := Lib.hid ho3; clear ho3
          have HB3 := Lib.hid hb3; clear hb3 hg3
          go_wp2_with fail
          go_ret
          obtain rfl := HR.out.trans HN.out
          rw [show (l.take j ++ s :: l.drop j).length = j + (l.length - j + 1) by simp; omega]
          exact ⟨A3, c3, rfl, HO3.out.rd encK_len, HB3.out⟩
    · obtain rfl : j = l.length := by omega
      have hlead : lead s l = l.length := lead_eq s l _ hj HA.out (fun h => by omega)
      have hans : ins l s = l.take l.length ++ s :: l.drop l.length := by rw [ins, hlead, List.getElem?_eq_none (Nat.le_refl _), if_neg (by simp)]
      have HN := Lib.hid hans; clear hlead hans
      go_wp2_with (at_builtin; go_must (refine wpList_addAny (enc := encK) (k := 1) 88 9 16 i0 _ Try.underlying88 HI0.out HZ0.out HZ1.out HZ2.out rfl (by decide) encK_len encK_one rfl _ _ rfl w.heap.size (.slice (some ⟨w.heap.size, 0, none⟩) 0 0) [] rfl ?_ w.heap.size _ (l.take l.length) rfl ?_ (by simp; unfold maxLen; omega) (by simp; omega) ?_ ?_))
      · exact Own.empty _ _ (Nat.le_refl _)
      · simpa using (HV.out.take l.length hj).below ((Below.refl _ _).alloc (Nat.le_refl _) _) (Nat.le_refl _)
      intro A1 c1 w1 ho1 hg1
      have hb1 : Below w.heap.size w w1 := (Own.empty (enc := encK) (k := 1) (e := 9) w w.heap.size (Nat.le_refl _)).grown ((Below.refl _ w).alloc (Nat.le_refl _) _) hg1 (Nat.le_refl _) (by simp)
      have hz1 := hb1.size
      have HO1 := Lib.hid ho1; clear ho1
      have HB1 := Lib.hid hb1; clear hb1 hg1
      go_wp2_with (at_builtin; go_must (refine wpList_addAny (enc := encK) (k := 1) 88 9 16 i0 _ Try.underlying88 HI0.out HZ0.out HZ1.out HZ2.out rfl (by decide) encK_len encK_one rfl _ _ rfl w.heap.size (.slice A1 l.length c1) (l.take l.length) rfl ?_ (w1.heap.size + 1) _ [s] rfl ?_ (by simp; unfold maxLen; omega) (by simp; omega) ?_ ?_))
      · simpa using HO1.out.alloc (.cells #[.string s] 9)
      · exact RdK.one w1 s
      · simp; omega
      intro A2 c2 w2 ho2 hg2
      have hb2 : Below w.heap.size w w2 := (HO1.out.alloc (.cells #[.string s] 9)).grown (HB1.out.alloc hz1 _) hg2 (Nat.le_refl _) (by simp; omega)
      have hz2 := hb2.size
      have HO2 := Lib.hid ho2; clear ho2
      have HB2 := Lib.hid hb2; clear hb2 hg2
      go_wp2_with (at_builtin; go_must (refine wpList_addAny (enc := encK) (k := 1) 88 9 16 i0 _ Try.underlying88 HI0.out HZ0.out HZ1.out HZ2.out rfl (by decide) encK_len encK_one rfl _ _ rfl w.heap.size (.slice A2 (l.length + 1) c2) (l.take l.length ++ [s]) rfl ?_ w.heap.size _ (l.drop l.length) rfl ?_ (by simp; unfold maxLen; omega) (by simp; omega) ?_ ?_))
      · simpa using HO2.out
      · exact Rd.none_ _ _ _ _
      · exact Rd.none_ _ _ _ _
      · exact hz2
      all_goals
        intro A3 c3 w3 ho3 hg3
        have hb3 : Below w.heap.size w w3 := HO2.out.grown HB2.out hg3 (Nat.le_refl _) hz2
        have HO3 := Lib.hid ho3; clear ho3
        have HB3 := Lib.hid hb3; clear hb3 hg3
        go_wp2_with fail
        go_ret
        obtain rfl := HR.out.trans HN.out
        rw [show l.take l.length ++ s :: l.drop l.length = l ++ [s] by simp]
        exact ⟨A3, c3, by rw [List.length_append]; rfl, by simpa using HO3.out.rd encK_len, HB3.out⟩
end Go.Proofs.Ytdkdolcocblhkaa
