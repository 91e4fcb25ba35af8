/- Get: the last of what was done to a key, else what it had at first. -/
import Derived.Test.YtpfhkijnaiopoaaPUp
namespace Go.Proofs.Ytpfhkijnaiopoaa
open Go.RowKit Go.Shelf
attribute [local go_sem] less_eq same_eq le_eq ge_eq gt_eq

set_option maxHeartbeats 1000000 in
set_option maxRecDepth 100000 in
theorem findcl_any (x : K × K) (k : K) (w : World) : Calls Try.prog 52 #[.agg #[.string x.1, .string x.2], .string k] w fun e w' => e = .returned (.int .i64 (cmpKey x.1 k)) ∧ Below w.heap.size w w' := by
  have hcon := fun W' => compare_any x.1 k W'
  generalize cmpKey x.1 k = r at hcon ⊢
  go_enter Try.func52, Try.ntmps52
  go_wp2_with (go_at_call 53; refine (hcon _).mono ?_; rintro e w' ⟨rfl, rfl⟩)
  go_ret
  exact ⟨rfl, (Below.refl _ _).alloc (Nat.le_refl _) _⟩
theorem cmp_zero (a b : K) : (cmpKey a b == 0) = decide (a = b) := by
  unfold cmpKey
  by_cases h1 : a < b
  · have : ¬ a = b := fun e => by subst e; grind
    simp [h1, this]
  · by_cases h2 : b < a
    · have : ¬ a = b := fun e => by subst e; grind
      simp [h1, h2, this]
    · have : a = b := by grind
      subst this
      simp [h1]

/-- is there a pair of this key at the place -/
def atB (l : List (K × K)) (k : K) (i : Nat) : Bool := match l[i]? with | some p => decide (p.1 = k) | none => false
set_option maxHeartbeats 4000000 in
set_option maxRecDepth 100000 in
theorem bsearch2_any (l : List (K × K)) (hr : Rises l) (k : K) (v : Value) (w : World) (hv : RdP w w.heap.size v l) (hl : l.length < 4611686018427387904) :
    Calls Try.prog 51 #[v, .string k, .func (.func 52) #[] #[]] w fun e w' => e = .returned (.tuple #[.int .i64 (pos l k : Nat), .bool (atB l k (pos l k))]) ∧ Below w.heap.size w w' := by
  obtain ⟨A, c, rfl, hc, hi⟩ := hv.at
  have HI := Lib.hid hi; clear hi
  have HR := Lib.hid hr; clear hr
  clear hv
  obtain ⟨g, hg⟩ : ∃ g, g = w.heap.size := ⟨_, rfl⟩
  have HG := Lib.hid hg; clear hg
  have hcl := fun (x : K × K) (W : World) => findcl_any x k W
  have HC := Lib.hid hcl; clear hcl
  go_enter Try.func51, Try.ntmps51
  go_wp2_with fail
  go_loopg [9, 10] l.length (fun kx s9 s10 wr => ∃ lo hi : Nat, s9 = .int .i64 lo ∧ s10 = .int .i64 hi ∧ lo ≤ hi ∧ hi ≤ l.length ∧ hi - lo ≤ kx ∧ Hid (Below g w wr) ∧
    Hid ((∀ t (_ : t < l.length), t < lo → l[t].1 < k) ∧ (∀ t (_ : t < l.length), hi ≤ t → ¬ l[t].1 < k)))
  case atStart => exact ⟨0, l.length, rfl, rfl, Nat.zero_le _, Nat.le_refl _, by omega, Lib.hid (Below.refl _ _), Lib.hid ⟨fun t _ ht => absurd ht (Nat.not_lt_zero _), fun t h1 h2 => by omega⟩⟩
  case round =>
    obtain ⟨lo, hi, rfl, rfl, hlh, hin, hgk, HB, HM⟩ := hrel
    by_cases hlt : lo < hi
    · have hh : (lo + hi) / 2 < l.length := by omega
      obtain ⟨b, o, rfl, hbB, k0, k1⟩ := HI.out ((lo + hi) / 2) hh
      rw [← HB.out.cell (p := ⟨b, _, none⟩) (by rw [HG.out]; exact hbB)] at k0
      rw [← HB.out.cell (p := ⟨b, _, none⟩) (by rw [HG.out]; exact hbB)] at k1
      have hmid : ∀ t (_ : t < l.length), (t < (lo + hi) / 2 → l[t].1 < l[(lo + hi) / 2].1) ∧ ((lo + hi) / 2 < t → l[(lo + hi) / 2].1 < l[t].1) := fun t ht => ⟨fun h => HR.out.lt hh h, fun h => HR.out.lt ht h⟩
      have HMID := Lib.hid hmid; clear hmid
      have hcc := HC.out l[(lo + hi) / 2]
      have hneg := cmp_neg l[(lo + hi) / 2].1 k
      by_cases hx : l[(lo + hi) / 2].1 < k
      · have hlo : ∀ t (_ : t < l.length), t < (lo + hi) / 2 + 1 → l[t].1 < k := fun t ht h => by
          rcases Nat.lt_or_ge t ((lo + hi) / 2) with h1 | h1
          · have := (HMID.out t ht).1 h1; grind
          · have e : t = (lo + hi) / 2 := by omega
            subst e; exact hx
        have HLO := Lib.hid hlo; clear hlo
        have hneg2 := hneg.2 hx
        clear hneg hx HMID
        generalize cmpKey l[(lo + hi) / 2].1 k = r at hcc hneg2
        generalize l[(lo + hi) / 2] = z at k0 k1 hcc
        have HCC := Lib.hid hcc; clear hcc
        go_wp2_with fail
        refine (HCC.out _).mono ?_
        rintro e w2 ⟨rfl, hbn⟩
        have HB2 := Lib.hid (show Below g w w2 from HB.out.trans (hbn.mono (by rw [HG.out]; exact HB.out.size))); clear hbn
        clear k0 k1
        go_wp2_with fail
        go_roundg (hi - ((lo + hi) / 2 + 1))
        case measure => omega
        case rel => exact ⟨(lo + hi) / 2 + 1, hi, by rw [show ((lo : Int) + (hi : Int)) / 2 + 1 = (((lo + hi) / 2 + 1 : Nat) : Int) by omega], rfl, by omega, hin, Nat.le_refl _, HB2, Lib.hid ⟨HLO.out, HM.out.2⟩⟩
      · have hhi : ∀ t (_ : t < l.length), (lo + hi) / 2 ≤ t → ¬ l[t].1 < k := fun t ht h => by
          rcases Nat.lt_or_ge ((lo + hi) / 2) t with h1 | h1
          · have := (HMID.out t ht).2 h1; grind
          · have e : t = (lo + hi) / 2 := by omega
            subst e; exact hx
        have HHI := Lib.hid hhi; clear hhi
        have hneg2 : ¬ cmpKey l[(lo + hi) / 2].1 k < 0 := fun h => hx (hneg.1 h)
        clear hneg hx HMID
        generalize cmpKey l[(lo + hi) / 2].1 k = r at hcc hneg2
        generalize l[(lo + hi) / 2] = z at k0 k1 hcc
        have HCC := Lib.hid hcc; clear hcc
        go_wp2_with fail
        refine (HCC.out _).mono ?_
        rintro e w2 ⟨rfl, hbn⟩
        have HB2 := Lib.hid (show Below g w w2 from HB.out.trans (hbn.mono (by rw [HG.out]; exact HB.out.size))); clear hbn
        clear k0 k1
        go_wp2_with fail
        go_roundg ((lo + hi) / 2 - lo)
        case measure => omega
        case rel => exact ⟨lo, (lo + hi) / 2, rfl, by rw [show ((lo : Int) + (hi : Int)) / 2 = (((lo + hi) / 2 : Nat) : Int) by omega], by omega, by omega, Nat.le_refl _, HB2, Lib.hid ⟨HM.out.1, HHI.out⟩⟩
    · obtain rfl : hi = lo := by omega
      have hp : pos l k = hi := pos_at l k hi hin HM.out.1 HM.out.2
      have HP := Lib.hid hp; clear hp
      by_cases hn : hi < l.length
      · obtain ⟨b, o, rfl, hbB, k0, k1⟩ := HI.out hi hn
        rw [← HB.out.cell (p := ⟨b, _, none⟩) (by rw [HG.out]; exact hbB)] at k0
        rw [← HB.out.cell (p := ⟨b, _, none⟩) (by rw [HG.out]; exact hbB)] at k1
        have hcc := HC.out l[hi]
        have hz := cmp_zero l[hi].1 k
        have hat : atB l k hi = decide (l[hi].1 = k) := by unfold atB; rw [List.getElem?_eq_getElem hn]
        rw [← hz] at hat
        clear hz
        generalize cmpKey l[hi].1 k = r at hcc hat
        have HAT := Lib.hid hat; clear hat
        generalize l[hi] = z at k0 k1 hcc
        have HCC := Lib.hid hcc; clear hcc
        go_wp2_with fail
        refine (HCC.out _).mono ?_
        rintro e w2 ⟨rfl, hbn⟩
        have HB2 := Lib.hid (show Below g w w2 from HB.out.trans (hbn.mono (by rw [HG.out]; exact HB.out.size))); clear hbn
        clear k0 k1
        go_wp2_with fail
        go_ret2
        exact ⟨by rw [HP.out, HAT.out]; rfl, by have h := HB2.out; rwa [HG.out] at h⟩
      · have hat : atB l k hi = false := by unfold atB; rw [List.getElem?_eq_none (by omega)]
        have HAT := Lib.hid hat; clear hat
        go_wp2_with fail
        go_ret2
        exact ⟨by rw [HP.out, HAT.out]; rfl, by have h := HB.out; rwa [HG.out] at h⟩

theorem valOf_pos {l : List (K × K)} (hr : Rises l) (k : K) : valOf l k = match l[pos l k]? with | some p => if p.1 = k then (p.2, true) else (⟨#[]⟩, false) | none => (⟨#[]⟩, false) := by
  have h1 : ∀ t (_ : t < l.length), t < pos l k → l[t].1 < k := fun t ht h => by
    have := (rises_cut hr k).1
    have hm : l[t] ∈ l.take (pos l k) := by rw [List.mem_take_iff_getElem]; exact ⟨t, by omega, rfl⟩
    rw [this] at hm
    simpa using (List.mem_filter.1 hm).2
  have h2 : ∀ t (_ : t < l.length), pos l k ≤ t → ¬ l[t].1 < k := fun t ht h => by
    have := (rises_cut hr k).2
    have hm : l[t] ∈ l.drop (pos l k) := by rw [List.mem_drop_iff_getElem]; exact ⟨t - pos l k, by omega, by congr 1; omega⟩
    rw [this] at hm
    simpa using (List.mem_filter.1 hm).2
  by_cases hlt : pos l k < l.length
  · rw [List.getElem?_eq_getElem hlt]
    simp only
    by_cases he : l[pos l k].1 = k
    · rw [if_pos he]
      have := valOf_mem hr (List.getElem_mem hlt)
      rw [he] at this
      exact this
    · rw [if_neg he]
      refine valOf_no fun x hx e => ?_
      obtain ⟨t, ht, rfl⟩ := List.getElem_of_mem hx
      rcases Nat.lt_trichotomy t (pos l k) with h | h | h
      · have := h1 t ht h; rw [e] at this; grind
      · subst h; exact he e
      · have a := hr.lt ht h
        have b := h2 _ hlt (Nat.le_refl _)
        rw [e] at a
        exact b a
  · rw [List.getElem?_eq_none (by omega)]
    refine valOf_no fun x hx e => ?_
    obtain ⟨t, ht, rfl⟩ := List.getElem_of_mem hx
    have := h1 t ht (by omega)
    rw [e] at this
    grind
set_option maxHeartbeats 4000000 in
set_option maxRecDepth 100000 in
theorem find_any (l : List (K × K)) (hr : Rises l) (k : K) (v : Value) (w : World) (hv : RdP w w.heap.size v l) (hl : l.length < 4611686018427387904) :
    Calls Try.prog 38 #[v, .string k] w fun e w' => e = .returned (.tuple #[.string (valOf l k).1, .bool (valOf l k).2]) ∧ Below w.heap.size w w' := by
  have hb := bsearch2_any l hr k v w hv hl
  rw [valOf_pos hr k]
  obtain ⟨A, c, rfl, hc, hi⟩ := hv.at
  generalize pos l k = i at hb ⊢
  clear hv hr
  unfold atB at hb
  cases he : l[i]? with
  | none =>
    rw [he] at hb
    simp only at hb ⊢
    have HB := Lib.hid hb; clear hb hi he
    go_enter Try.func38, Try.ntmps38
    go_wp2_with fail
    refine HB.out.mono ?_
    rintro e w1 ⟨rfl, hb1⟩
    have HB1 := Lib.hid hb1; clear hb1
    go_wp2_with fail
    exact bodyPost_ret (v := .tuple #[.string ⟨#[]⟩, .bool false]) (by simp [results, Try.results38, go_sem]) rfl ⟨rfl, HB1.out⟩
  | some p =>
    rw [he] at hb
    simp only at hb ⊢
    obtain ⟨hlt, hp⟩ := List.getElem?_eq_some_iff.1 he
    obtain ⟨b, o, rfl, hbB, k0, k1⟩ := hi i hlt
    rw [hp] at k0 k1
    have HK1 := Lib.hid k1; clear k1 k0 hi he hp
    have HB := Lib.hid hb; clear hb
    obtain ⟨x, y⟩ := p
    simp only at HK1 HB ⊢
    by_cases hk : x = k
    · rw [if_pos hk]
      have hd : decide (x = k) = true := by simpa using hk
      rw [hd] at HB
      clear hk hd
      go_enter Try.func38, Try.ntmps38
      go_wp2_with fail
      refine HB.out.mono ?_
      rintro e w1 ⟨rfl, hb1⟩
      have k1 := (hb1.cell (p := ⟨b, _, none⟩) hbB).trans HK1.out
      have HB1 := Lib.hid hb1; clear hb1
      go_wp2_with fail
      exact bodyPost_ret (v := .tuple #[.string y, .bool true]) (by simp [results, Try.results38, go_sem]) rfl ⟨rfl, HB1.out⟩
    · rw [if_neg hk]
      have hd : decide (x = k) = false := by simpa using hk
      rw [hd] at HB
      clear hk hd
      go_enter Try.func38, Try.ntmps38
      go_wp2_with fail
      refine HB.out.mono ?_
      rintro e w1 ⟨rfl, hb1⟩
      have HB1 := Lib.hid hb1; clear hb1
      go_wp2_with fail
      exact bodyPost_ret (v := .tuple #[.string ⟨#[]⟩, .bool false]) (by simp [results, Try.results38, go_sem]) rfl ⟨rfl, HB1.out⟩
end Go.Proofs.Ytpfhkijnaiopoaa
