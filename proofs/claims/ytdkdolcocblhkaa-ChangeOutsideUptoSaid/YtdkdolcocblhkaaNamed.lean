/- The keys that changes name: what the program's named and Spans answer. -/
import Derived.Test.YtdkdolcocblhkaaRSpans
import Derived.Test.YtdkdolcocblhkaaLeastM
import Derived.Test.YtdkdolcocblhkaaLeft
import Derived.Test.YtdkdolcocblhkaaPro
namespace Go.Proofs.Ytdkdolcocblhkaa
open Go.RowKit
attribute [local go_sem] less_eq same_eq le_eq ge_eq gt_eq

set_option maxHeartbeats 4000000 in
set_option maxRecDepth 100000 in
theorem named_any (l : List Chg) (hs : ∀ c ∈ l, smallC c) (v : Value) (w : World) (hv : RdC w w.heap.size v l) (hl : l.length ≤ 2000000) :
    Calls Try.prog 38 #[v] w fun e w' => ∃ v' R, e = .returned v' ∧ OwnS w' w.heap.size v' R ∧ Below w.heap.size w w' ∧ Fits R (fun k => mem (l.map cspan) k) ∧ R.length ≤ 2000000 := by
  obtain ⟨A, cc, rfl, hcc, hi⟩ := hv.at
  have HI := Lib.hid hi; clear hi
  have HS := Lib.hid hs; clear hs
  obtain ⟨g, hg⟩ : ∃ g, g = w.heap.size := ⟨_, rfl⟩
  have HG := Lib.hid hg
  have hsz : g ≤ w.heap.size := by omega
  clear hv hg
  go_enter Try.func38, Try.ntmps38
  go_wp2_with fail
  go_loopw [3, 8] (fun ov iv wr => ∃ (i : Nat) (A' : Option Addr) (c' : Nat), i ≤ l.length ∧ iv = .int .i64 i ∧ ov = .slice A' i c' ∧ OwnS wr g ov ((l.take i).map cspan) ∧ Below g w wr ∧ g ≤ wr.heap.size) (fun _ iv _ => l.length - (intOf iv).toNat)
  case atStart => exact ⟨0, none, 0, Nat.zero_le _, rfl, rfl, OwnS.nil _ _, Below.refl _ _, hsz⟩
  case round =>
    obtain ⟨i, A', c', hil, rfl, rfl, ho, hbw, hbs⟩ := hrel
    have HBW := Lib.hid hbw; clear hbw
    have HBS := Lib.hid hbs; clear hbs
    have HO := Lib.hid ho; clear ho
    have hlm : ((l.take i).map cspan).length = i := by simp; omega
    by_cases hlt : i < l.length
    · obtain ⟨b, o, rfl, hbB, k0, k1, k2⟩ := HI.out i hlt
      rw [← HBW.out.cell (p := ⟨b, o + i * 3, none⟩) (by rw [HG.out]; exact hbB)] at k0
      rw [← HBW.out.cell (p := ⟨b, o + i * 3 + 1, none⟩) (by rw [HG.out]; exact hbB)] at k1
      rw [← HBW.out.cell (p := ⟨b, o + i * 3 + 2, none⟩) (by rw [HG.out]; exact hbB)] at k2
      have h1 := fun W => reach_any l[i] W (HS.out _ (List.getElem_mem hlt)).1
      have hnext : (l.take (i + 1)).map cspan = (l.take i).map cspan ++ [cspan l[i]] := by
        rw [List.take_succ_eq_append_getElem hlt, List.map_append]; rfl
      generalize (l.take i).map cspan = out at HO hlm hnext
      generalize cspan l[i] = sp at h1 hnext
      generalize l[i] = z at k0 k1 k2 h1
      obtain ⟨kz, xz, yz⟩ := z
      unfold cval spv at h1
      simp only at k0 k1 k2 h1
      have H1 := Lib.hid h1; clear h1
      have HN := Lib.hid hnext; clear hnext
      have HLM := Lib.hid hlm
      go_wp2_with fail
      refine (H1.out _).mono ?_
      rintro e w3 ⟨rfl, hb3⟩
      have HB3 := Lib.hid (show Below g w w3 from (HBW.out.alloc HBS.out _).trans (hb3.mono (by rw [World.size_alloc]; have := HBS.out; omega)))
      have HS3 := Lib.hid (show g ≤ w3.heap.size from Nat.le_trans HBS.out (Nat.le_trans (by simp) hb3.size))
      have HO3 := Lib.hid (show OwnS w3 g _ _ from (HO.out.alloc _).below hb3 (Nat.le_refl _))
      clear hb3 k0 k1 k2
      go_wp2_with (at_builtin; go_must (refine wpList_addT rfl _ _ rfl g (.slice A' i c') out rfl ?f1 (w3.heap.size + 1) _ [sp] rfl (RdS.one w3 sp) (by simp; omega) ?f2 g w ?f3 (Nat.le_refl _) ?f4))
      case f1 => exact HO3.out.alloc _
      case f2 => have := HS3.out; simp; omega
      case f3 => exact HB3.out.alloc HS3.out _
      intro A2 c2 w4 ho4 hb4 hz4
      go_wp2_with fail
      go_roundw
      case rel => exact ⟨i + 1, A2, c2, by omega, by go_num, by simp [hlm], by rw [HN.out]; exact ho4.out, hb4.out, hz4.out⟩
      case measure => simp [intOf]; omega
    · obtain rfl : i = l.length := by omega
      have ho := HO.out
      rw [List.take_length] at ho
      have HO2 := Lib.hid (show RdS wr wr.heap.size _ _ from ho.rd)
      clear ho
      have hj := join_any (l.map cspan) _ wr HO2.out (by simpa using hl)
      have HJ := Lib.hid hj; clear hj
      go_wp2_with fail
      refine HJ.out.mono ?_
      rintro e w5 ⟨v5, R, rfl, ho5, hb5, hn5, hf5, hl5⟩
      have HO5 := Lib.hid ho5; clear ho5
      have HB5 := Lib.hid hb5; clear hb5
      have HF5 := Lib.hid (show Fits R (fun k => mem (l.map cspan) k) from ⟨hn5, hf5⟩); clear hf5 hn5
      have HL5 := Lib.hid hl5; clear hl5
      go_wp2_with fail
      have hgz : w.heap.size ≤ wr.heap.size := by rw [← HG.out]; exact HBS.out
      refine bodyPost_ret (v := v5) ?_ rfl ⟨_, _, rfl, HO5.out.lower hgz, (by have h := HBW.out; rwa [HG.out] at h : Below w.heap.size w wr).trans (HB5.out.mono hgz), HF5.out, HL5.out⟩
      simp [results, Try.results38, go_sem]

/-- what Spans answers: an error, or spans of the call's own -/
def SpansIs (w : World) (base : Nat) (v' : Value) (q e : Int) (P : K → Prop) : Prop :=
  (q = e ∧ q ≠ 0 ∧ v' = .slice none 0 0) ∨ (e = 0 ∧ q = 0 ∧ ∃ R, OwnS w base v' R ∧ Fits R P ∧ R.length ≤ 2000000)
theorem SpansIs.err {w : World} {base : Nat} {q : Int} {P : K → Prop} (h : q ≠ 0) : SpansIs w base (.slice none 0 0) q q P := .inl ⟨rfl, h, rfl⟩
theorem SpansIs.ok {w : World} {base : Nat} {v' : Value} {P : K → Prop} {R : List (K × K)} (h1 : OwnS w base v' R) (h2 : Fits R P) (h3 : R.length ≤ 2000000) : SpansIs w base v' 0 0 P := .inr ⟨rfl, rfl, R, h1, h2, h3⟩

set_option maxHeartbeats 4000000 in
set_option maxRecDepth 100000 in
theorem pspans_any (l : List Chg) (hs : ∀ c ∈ l, smallC c) (v : Value) (w : World) (hv : RdC w w.heap.size v l) (hl : l.length ≤ 2000000) :
    Calls Try.prog 19 #[v] w fun e w' => ∃ v' q, e = .returned (.tuple #[v', .int .i64 q]) ∧ Below w.heap.size w w' ∧ SpansIs w' w.heap.size v' q (allAns l) (fun k => mem (l.map cspan) k) := by
  have hfirst := first_any l hs v w hv (by omega)
  have hnamed := fun W (h : RdC W W.heap.size v l) => named_any l hs v W h hl
  have HF := Lib.hid hfirst; clear hfirst
  have HN := Lib.hid hnamed; clear hnamed
  have HV := Lib.hid hv; clear hv
  clear hs
  generalize allAns l = q at HF ⊢
  go_enter Try.func19, Try.ntmps19
  go_wp2_with fail
  refine HF.out.mono ?_
  rintro e w1 ⟨rfl, hb1⟩
  have HV1 := Lib.hid (HV.out.next hb1)
  have HB1 := Lib.hid hb1; clear hb1
  by_cases h0 : q = 0
  · subst h0
    go_wp2_with fail
    refine (HN.out w1 HV1.out).mono ?_
    rintro e w2 ⟨v2, R, rfl, ho2, hb2, hf2, hl2⟩
    have HO2 := Lib.hid (ho2.lower HB1.out.size); clear ho2
    have HB2 := Lib.hid (HB1.out.trans (hb2.mono HB1.out.size)); clear hb2
    have HF2 := Lib.hid hf2; clear hf2
    have HL2 := Lib.hid hl2; clear hl2
    go_wp2_with fail
    go_ret2
    exact ⟨_, _, rfl, HB2.out, SpansIs.ok HO2.out HF2.out HL2.out⟩
  · have H0 := Lib.hid h0
    go_wp2_with fail
    go_ret2
    exact ⟨_, _, rfl, HB1.out, SpansIs.err H0.out⟩
end Go.Proofs.Ytdkdolcocblhkaa
