/- What the reference's Text answers. -/
import Derived.Test.YtaenlkopjmgniaaRNum
namespace Go.Proofs.Ytaenlkopjmgniaa
open Go.RowKit

/-- what Text answers: the text, how many bytes, the error -/
def textAns (l : List UInt8) : List UInt8 × Nat × Nat :=
  if (numAns l).2.2 ≠ 0 then ([], 0, (numAns l).2.2) else if (numAns l).1 > 65536 then ([], 0, 6)
  else if l.length - (numAns l).2.1 < (numAns l).1 then ([], 0, 3) else ((l.drop (numAns l).2.1).take (numAns l).1, (numAns l).2.1 + (numAns l).1, 0)
def textVal (x : List UInt8 × Nat × Nat) : Value := .tuple #[.string (strB x.1), .int .i64 (x.2.1 : Int), .int .i64 (x.2.2 : Int)]

set_option maxRecDepth 100000 in
/-- a window of bytes -/
theorem RdB.window {w : World} {B b o c : Nat} {l : List UInt8} (h : RdB w B (.slice (some ⟨b, o, none⟩) l.length c) l) (lo n : Nat) (hn : lo + n ≤ l.length) (c' : Nat) (hc : n ≤ c') (A' : Option Addr) (hA : 0 < n → A' = some ⟨b, o + lo, none⟩) :
    RdB w B (.slice A' n c') ((l.drop lo).take n) := by
  obtain ⟨A, c0, hv, hcl, hi⟩ := h
  injection hv with e1 e2 e3
  subst e1 e3
  have hlen : ((l.drop lo).take n).length = n := by simp; omega
  refine ⟨A', c', by rw [hlen], by rw [hlen]; exact hc, fun i hi' => ?_⟩
  have hin : i < n := by omega
  obtain ⟨b', o', hA', hB, h1⟩ := hi (lo + i) (by omega)
  simp only [Option.some.injEq, Addr.mk.injEq, and_true] at hA'
  obtain ⟨rfl, rfl⟩ := hA'
  refine ⟨b, o + lo, hA (by omega), hB, fun j u hu => ?_⟩
  have := h1 j u (by simpa using hu)
  rw [← this]
  congr 2
  omega

set_option maxHeartbeats 2000000 in
set_option maxRecDepth 100000 in
theorem rtext_any (l : List UInt8) (v : Value) (w : World) (B : Nat) (hv : RdB w B v l) (hl : l.length < 4611686018427387904) : Calls Try.prog 31 #[v] w fun e w' => e = .returned (textVal (textAns l)) ∧ w' = w := by
  have hnum := rnum_any l v w B hv hl
  obtain ⟨A, c, rfl, hc, hi⟩ := hv.at
  obtain ⟨R, hR⟩ : ∃ R, R = textAns l := ⟨_, rfl⟩
  rw [← hR]
  have herr := numAns_err l
  have honce := fun (m u : Nat) (h : numAns l = (m, u, 0)) => numAns_once h
  unfold textAns at hR
  generalize numAns l = x at hnum hR herr honce
  obtain ⟨n, u, e⟩ := x
  simp only at hR herr
  simp only [numVal] at hnum
  by_cases he : e = 0
  · subst he
    obtain ⟨hu, hu9, hu1, s, hs⟩ := honce n u rfl
    have hlu : u ≤ l.length := by rw [hu, hs]; simp
    obtain ⟨b, o, hA⟩ : ∃ b o, A = some ⟨b, o, none⟩ := by obtain ⟨b, o, h, _⟩ := hi 0 (by omega); exact ⟨b, o, h⟩
    subst hA
    rw [if_neg (by omega)] at hR
    clear honce herr hi hu hs
    have HN := Lib.hid hnum; clear hnum
    have HV := Lib.hid hv; clear hv
    by_cases hbig : n > 65536
    · rw [if_pos hbig] at hR
      have HR := Lib.hid hR; clear hR
      have hb : (65536 : Int) < (n : Int) := by omega
      go_enter Try.func31, Try.ntmps31
      go_wp2_with fail
      refine HN.out.mono ?_
      rintro e w1 ⟨rfl, rfl⟩
      go_wp2_with fail
      go_ret3
      exact ⟨by rw [HR.out]; rfl, rfl⟩
    · rw [if_neg hbig] at hR
      have hb : ¬ (65536 : Int) < (n : Int) := by omega
      by_cases hsh : l.length - u < n
      · rw [if_pos hsh] at hR
        have HR := Lib.hid hR; clear hR
        have hb2 : (l.length : Int) - (u : Int) < (n : Int) := by omega
        go_enter Try.func31, Try.ntmps31
        go_wp2_with fail
        refine HN.out.mono ?_
        rintro e w1 ⟨rfl, rfl⟩
        go_wp2_with fail
        go_ret3
        exact ⟨by rw [HR.out]; rfl, rfl⟩
      · rw [if_neg hsh] at hR
        have hb2 : ¬ (l.length : Int) - (u : Int) < (n : Int) := by omega
        have hw : IntKind.i64.wrap ((u : Int) + (n : Int)) = (u : Int) + n := by rw [IntKind.wrap_i64]; omega
        by_cases hcu : c = u
        · have hlu2 : l.length = u := by omega
          have hn0 : n = 0 := by omega
          subst hn0
          have hcv := run_convB (Rd.none_ (enc := byteEnc) (k := 1) w B (some ⟨b, o, none⟩) 0)
          rw [show strB [] = ⟨#[]⟩ from rfl] at hcv
          have HR := Lib.hid hR; clear hR
          have HL := Lib.hid hlu2
          rw [hlu2] at HN ⊢
          clear hlu2
          subst hcu
          clear hl hlu hc hsh hb2
          have hcu0 : (0 : Int) ≤ (c : Int) := by omega
          go_enter Try.func31, Try.ntmps31
          go_wp2_with fail
          refine HN.out.mono ?_
          rintro e w1 ⟨rfl, rfl⟩
          go_wp2_with fail
          go_ret3
          exact ⟨by rw [HR.out, List.drop_eq_nil_of_le (by rw [HL.out]; exact Nat.le_refl _)]; rfl, rfl⟩
        · have hcv := run_convB (HV.out.window u n (by omega) (c - u) (by omega) (some ⟨b, o + u, none⟩) (fun _ => rfl))
          have HR := Lib.hid hR; clear hR
          go_enter Try.func31, Try.ntmps31
          go_wp2_with fail
          refine HN.out.mono ?_
          rintro e w1 ⟨rfl, rfl⟩
          go_wp2_with fail
          go_ret3
          exact ⟨by rw [HR.out]; rfl, rfl⟩
  · rcases herr with h | h | h
    · exact absurd h he
    all_goals
      simp only [Prod.mk.injEq] at h
      obtain ⟨rfl, rfl, rfl⟩ := h
      rw [if_pos (by decide)] at hR
      have HR := Lib.hid hR
      have HN := Lib.hid hnum
      clear hnum hR honce hi hv
      go_enter Try.func31, Try.ntmps31
      go_wp2_with fail
      refine HN.out.mono ?_
      rintro e w1 ⟨rfl, rfl⟩
      go_wp2_with fail
      go_ret3
      exact ⟨by rw [HR.out]; rfl, rfl⟩
end Go.Proofs.Ytaenlkopjmgniaa
