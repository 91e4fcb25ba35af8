/- The records that bytes begin with, as the program reads them. -/
import Derived.Test.YtaenlkopjmgniaaPF
import Derived.Test.YtaenlkopjmgniaaRBk
import Derived.Test.YtaenlkopjmgniaaOpnH
import Derived.Test.YtaenlkopjmgniaaRd3
namespace Go.Proofs.Ytaenlkopjmgniaa
open Go.RowKit

theorem readGo_none {f : Nat} {b : List UInt8} (h : oneAns b = none) : readGo f b = ([], 0) := by
  cases f with
  | zero => rfl
  | succ f => rw [readGo, h]
/-- how far the reading of l has come: the records, the bytes used -/
def ReadInv (l : List UInt8) (rs : List (List UInt8)) (u : Nat) : Prop :=
  ∃ f, f + rs.length = l.length ∧ rs.length ≤ u ∧ u ≤ l.length ∧ readAns l = (rs ++ (readGo f (l.drop u)).1, u + (readGo f (l.drop u)).2)
theorem ReadInv.start (l : List UInt8) : ReadInv l [] 0 := ⟨l.length, by simp, by simp, by simp, by simp [readAns]⟩
theorem ReadInv.stop {l : List UInt8} {rs : List (List UInt8)} {u : Nat} (h : ReadInv l rs u) (ho : oneAns (l.drop u) = none) : readAns l = (rs, u) := by
  obtain ⟨f, _, _, _, h⟩ := h
  rw [h, readGo_none ho]
  simp
theorem ReadInv.next {l : List UInt8} {rs : List (List UInt8)} {u : Nat} (h : ReadInv l rs u) {r : List UInt8} {n : Nat} (ho : oneAns (l.drop u) = some (r, n)) : ReadInv l (rs ++ [r]) (u + n) ∧ 0 < n ∧ r.length ≤ 65532 := by
  obtain ⟨f, h1, h2, h3, h4⟩ := h
  obtain ⟨hf, hn, s, hs⟩ := one_take ho
  have h5 := recB_ge r
  have hlen : n + s.length = l.length - u := by
    have := congrArg List.length hs
    rw [List.length_drop, List.length_append] at this
    omega
  match f, h1, h4 with
  | 0, h1, h4 => omega
  | f + 1, h1, h4 =>
    refine ⟨⟨f, by simp; omega, by simp; omega, by omega, ?_⟩, by omega, hf⟩
    rw [h4, readGo, ho]
    simp only [List.drop_drop, Prod.mk.injEq]
    exact ⟨by simp, by omega⟩
theorem ReadInv.len {l : List UInt8} {rs : List (List UInt8)} {u : Nat} (h : ReadInv l rs u) : rs.length ≤ l.length ∧ u ≤ l.length := by
  obtain ⟨f, h1, h2, h3, h4⟩ := h
  omega

set_option maxHeartbeats 8000000 in
set_option maxRecDepth 100000 in
theorem pread_any (l : List UInt8) (A : Option Addr) (c : Nat) (w : World) (hv : RdB w w.heap.size (.slice A l.length c) l) (hl : l.length ≤ 2000000) :
    Calls Try.prog 21 #[.slice A l.length c] w fun e w' => ∃ A' c' n, e = .returned (.tuple #[.slice A' n c', .int .i64 ((readAns l).2 : Int)]) ∧ ∃ rows, n = rows.length ∧ OwnR w' w.heap.size (.slice A' n c') rows ∧ HoldRs w' w.heap.size rows ∧ texts rows = (readAns l).1 ∧ Below w.heap.size w w' := by
  have hcl : l.length ≤ c := by obtain ⟨A0, c0, e, h, _⟩ := hv; injection e with _ _ e; rw [e]; exact h
  have HV := Lib.hid hv; clear hv
  obtain ⟨R, hR⟩ : ∃ R, R = readAns l := ⟨_, rfl⟩
  rw [← hR]
  have HR := Lib.hid hR; clear hR
  go_enter Try.func21, Try.ntmps21
  go_wp2_with fail
  go_loopw [2, 3] (fun ov uv wr => ∃ (u : Nat) (A' : Option Addr) (c' n : Nat) (rows : List Row), u ≤ l.length ∧ uv = .int .i64 (u : Int) ∧ ov = .slice A' n c' ∧ n = rows.length ∧ OwnR wr w.heap.size (.slice A' n c') rows ∧ HoldRs wr w.heap.size rows ∧ ReadInv l (texts rows) u ∧ Below w.heap.size w wr) (fun _ uv _ => l.length - (intOf uv).toNat)
  case atStart => exact ⟨0, _, _, 0, [], Nat.zero_le _, rfl, rfl, rfl, Own.nil _ _, HoldRs.nil _ _, ReadInv.start l, Below.refl _ _⟩
  case round =>
    obtain ⟨u, A', c', n, rows, hu, rfl, rfl, hn, ho, hh, hi, hb⟩ := hrel
    have hbs := hb.size
    have HO := Lib.hid ho
    have HH := Lib.hid hh
    have HI := Lib.hid hi
    have HB := Lib.hid hb
    have HN := Lib.hid hn
    clear ho hh hi hb hn
    by_cases hend : l.length = u
    · have hone : oneAns (l.drop u) = none := by rw [List.drop_eq_nil_of_le (by omega)]; exact one_nil
      have HK := Lib.hid (HR.out.trans (HI.out.stop hone))
      clear hone
      subst hend
      have HTX := Lib.hid (fun (A2 : Option Addr) (c2 : Nat) => text_any [] (.slice A2 0 c2) wr (Rd.none_ _ _ _ _) (by simp))
      by_cases hcu : c = l.length
      · subst hcu
        go_wp2_with fail
        refine (HTX.out _ _).mono ?_
        rintro e w1 ⟨rfl, hb1⟩
        have ht : textVal (textAns []) = .tuple #[.string (strB []), .int .i64 0, .int .i64 3] := rfl
        rw [ht]
        have HO1 := Lib.hid (HO.out.below hb1 (Nat.le_refl _))
        have HH1 := Lib.hid (HH.out.below hb1 (Nat.le_refl _))
        have HB1 := Lib.hid (HB.out.trans (hb1.mono hbs))
        clear hb1 ht
        go_wp2_with fail
        go_ret2
        exact ⟨A', c', n, by rw [HK.out]; rfl, rows, HN.out, HO1.out, HH1.out, by rw [HK.out], HB1.out⟩
      · go_wp2_with fail
        refine (HTX.out _ _).mono ?_
        rintro e w1 ⟨rfl, hb1⟩
        have ht : textVal (textAns []) = .tuple #[.string (strB []), .int .i64 0, .int .i64 3] := rfl
        rw [ht]
        have HO1 := Lib.hid (HO.out.below hb1 (Nat.le_refl _))
        have HH1 := Lib.hid (HH.out.below hb1 (Nat.le_refl _))
        have HB1 := Lib.hid (HB.out.trans (hb1.mono hbs))
        clear hb1 ht
        go_wp2_with fail
        go_ret2
        exact ⟨A', c', n, by rw [HK.out]; rfl, rows, HN.out, HO1.out, HH1.out, by rw [HK.out], HB1.out⟩
    · have hul : u < l.length := by omega
      have hcu : ¬ c = u := by omega
      have hcu2 : u ≤ c := by omega
      obtain ⟨b, o, hA⟩ : ∃ b o, A = some ⟨b, o, none⟩ := by
        obtain ⟨A0, c0, e, _, hi⟩ := HV.out.at
        injection e with e _ _
        subst e
        obtain ⟨b, o, h, _⟩ := hi 0 (by omega)
        exact ⟨b, o, h⟩
      subst hA
      have hrd : RdB wr wr.heap.size (.slice (some ⟨b, o + u, none⟩) (l.length - u) (c - u)) (l.drop u) :=
        (Rd.drop (k := 1) (HV.out.below HB.out (Nat.le_refl _)) u (c - u) hu (by omega) (some ⟨b, o + u, none⟩) (fun _ => by simp [Addr.add])).mono hbs
      have htx := text_any (l.drop u) _ wr hrd (by simp; omega)
      obtain ⟨T, hT⟩ : ∃ T, T = textAns (l.drop u) := ⟨_, rfl⟩
      rw [← hT] at htx
      have HTX := Lib.hid htx
      have HT := Lib.hid hT
      clear hrd htx hT
      obtain ⟨s, m, e⟩ := T
      simp only [textVal] at HTX
      go_wp2_with fail
      refine HTX.out.mono ?_
      rintro e' w1 ⟨rfl, hb1⟩
      have HO1 := Lib.hid (HO.out.below hb1 (Nat.le_refl _))
      have HH1 := Lib.hid (HH.out.below hb1 (Nat.le_refl _))
      have HB1 := Lib.hid (HB.out.trans (hb1.mono hbs))
      have hbs1 := HB1.out.size
      clear hb1 HTX
      by_cases he : e = 0
      · subst he
        have hm : m ≤ l.length := by
          have h := HT.out
          unfold textAns at h
          rcases hx : numAns (l.drop u) with ⟨x1, x2, x3⟩
          rw [hx] at h
          simp only at h
          split at h
          · simp only [Prod.mk.injEq] at h; omega
          · split at h
            · simp only [Prod.mk.injEq] at h; omega
            · split at h
              · simp only [Prod.mk.injEq] at h; omega
              · rename_i h5 h6 h7
                simp only [Prod.mk.injEq] at h
                obtain ⟨h8, _, _, sx, h9⟩ := numAns_once (show numAns (l.drop u) = (x1, x2, 0) by rw [hx]; simp; omega)
                have h10 : (l.drop u).length = l.length - u := by simp
                have h11 := congrArg List.length h9
                rw [List.length_append, ← h8] at h11
                omega
        have hsl : s.length ≤ 140737488355328 := by
          have h := HT.out
          unfold textAns at h
          split at h
          · simp only [Prod.mk.injEq] at h; rw [h.1]; simp
          · split at h
            · simp only [Prod.mk.injEq] at h; rw [h.1]; simp
            · split at h
              · simp only [Prod.mk.injEq] at h; rw [h.1]; simp
              · simp only [Prod.mk.injEq] at h; rw [h.1]; simp; omega
        obtain ⟨c2, w2, hkc, hr2, hb2, hlt2⟩ := conv_any w1 s
        have HO2 := Lib.hid (HO1.out.below hb2 (Nat.le_refl _))
        have HH2 := Lib.hid (HH1.out.below hb2 (Nat.le_refl _))
        have HB2 := Lib.hid (HB1.out.trans (hb2.mono hbs1))
        have hbs2 := HB2.out.size
        have HOP := Lib.hid (open_hold s _ w2 hr2 hsl)
        have hov := HOP
        clear hr2 hb2 hsl hov
        go_wp2_with fail
        refine HOP.out.mono ?_
        rintro e' w3 ⟨v3, rfl, hho, hb3⟩
        have HO3 := Lib.hid (HO2.out.below hb3 (Nat.le_refl _))
        have HH3 := Lib.hid (HH2.out.below hb3 (Nat.le_refl _))
        have HB3 := Lib.hid (HB2.out.trans (hb3.mono hbs2))
        have hho3 := hho.lower hbs2
        have hbs3 := HB3.out.size
        have hone : oneAns (l.drop u) = if (openAns s).2 = 0 then some ((openAns s).1, m) else none := by
          unfold oneAns
          rw [← HT.out]
          simp
        have HONE := Lib.hid hone
        clear hb3 hho hone hkc HOP
        obtain ⟨X, hX⟩ : ∃ X, X = openAns s := ⟨_, rfl⟩
        rw [← hX] at hho3 HONE ⊢
        clear hX
        obtain ⟨x, y⟩ := X
        simp only at hho3 HONE ⊢
        have HHO3 := Lib.hid hho3; clear hho3
        by_cases hy : y = 0
        · subst hy
          rw [if_pos rfl] at HONE
          obtain ⟨hnx, hm0, hx6⟩ := HI.out.next HONE.out
          have hle := hnx.len
          have hnl : rows.length + 1 ≤ 9000000000000 := by have := HI.out.len.1; simp [texts] at this; omega
          have HNX := Lib.hid hnx
          clear hnx
          obtain ⟨A1, c1, hv3⟩ : ∃ A1 c1, v3 = .slice A1 x.length c1 := by
            rcases HHO3.out.form with ⟨h1, h2⟩ | ⟨g, cap, h1, _⟩
            · exact ⟨none, 0, by rw [h1, h2]; rfl⟩
            · exact ⟨_, _, h1⟩
          subst hv3
          obtain ⟨w4, hw4⟩ : ∃ w4, w4 = w3.alloc (.cells #[.slice A1 x.length c1] 36) := ⟨_, rfl⟩
          have hone : Rd encR 1 w4 (w3.heap.size + 1) (.slice (some ⟨w3.heap.size, 0, none⟩) 1 1) [⟨A1, c1, x⟩] := by rw [hw4]; exact RdR.one w3 ⟨A1, c1, x⟩
          have hB4 : Below w3.heap.size w3 w4 := by rw [hw4]; exact (Below.refl _ w3).alloc (Nat.le_refl _) _
          have HO4 := Lib.hid (HO3.out.below hB4 (Nat.le_refl _))
          have HH4 := Lib.hid (HH3.out.below hB4 (Nat.le_refl _))
          have HHO4 := Lib.hid (HHO3.out.below hB4 (Nat.le_refl _))
          have HB4 := Lib.hid (HB3.out.trans (hB4.mono hbs3))
          have HON := Lib.hid hone
          have HW4 := Lib.hid hw4
          clear hone hB4 hw4
          go_wp2_with (at_builtin; go_must (refine wpList_addR rfl _ _ rfl w.heap.size (.slice A' n c') rows rfl ?x1 (w3.heap.size + 1) _ [⟨A1, c1, x⟩] rfl ?x2 (by show _ + 1 ≤ _; exact hnl) ?x3 ?_))
          case x1 => rw [← HW4.out]; exact HO4.out
          case x2 => rw [← HW4.out]; exact HON.out
          case x3 => have := HB4.out.size; rw [HW4.out] at this; exact this
          rw [← HW4.out]
          intro A5 c5 w5 ho5 hg5
          have HO5 := Lib.hid ho5.out
          have HH5 := Lib.hid ((HH4.out.append (show HoldRs w4 w.heap.size [⟨A1, c1, x⟩] from fun r hr => by rw [List.mem_singleton.1 hr]; exact HHO4.out)).grown HO4.out hg5.out)
          have HB5 := Lib.hid (HO4.out.grown HB4.out hg5.out (Nat.le_refl _) HB4.out.size)
          have ht5 : texts (rows ++ [⟨A1, c1, x⟩]) = texts rows ++ [x] := texts_append _ _
          have HT5 := Lib.hid ht5
          clear ho5 hg5 ht5
          obtain ⟨n5, hn5⟩ : ∃ n5, n5 = rows.length + 1 := ⟨_, rfl⟩
          rw [← hn5] at HO5 ⊢
          have HN5 := Lib.hid (show n5 = (rows ++ [(⟨A1, c1, x⟩ : Row)]).length by rw [hn5]; simp); clear hn5
          have hw5 : IntKind.i64.wrap ((u : Int) + (m : Int)) = (u : Int) + (m : Int) := by rw [IntKind.wrap_i64]; omega
          go_wp2_with fail
          go_roundw
          case rel => exact ⟨u + m, A5, c5, n5, _, hle.2, by go_num, rfl, HN5.out, HO5.out, HH5.out, by rw [HT5.out]; exact HNX.out, HB5.out⟩
          case measure => simp [intOf]; omega
        · rw [if_neg hy] at HONE
          have HK := Lib.hid (HR.out.trans (HI.out.stop HONE.out))
          go_wp2_with fail
          go_ret2
          exact ⟨A', c', n, by rw [HK.out]; rfl, rows, HN.out, HO3.out, HH3.out, by rw [HK.out], HB3.out⟩
      · have hone : oneAns (l.drop u) = none := one_err (by rw [← HT.out]; exact he)
        have HK := Lib.hid (HR.out.trans (HI.out.stop hone))
        clear hone
        have he2 : ¬ (e : Int) = 0 := by omega
        go_wp2_with fail
        go_ret2
        exact ⟨A', c', n, by rw [HK.out]; rfl, rows, HN.out, HO1.out, HH1.out, by rw [HK.out], HB1.out⟩
end Go.Proofs.Ytaenlkopjmgniaa
