/- Get: the last of what was done to a key, else what it had at first. Get. slices.DeleteFunc over pairs, with the closure of List. -/
import Derived.Test.YtbifnogocmgddaaGreatFaf
namespace Go.Proofs.YtbifnogocmgddaaGreat
open Go.RowKit Go.Shelf
attribute [local go_sem] less_eq same_eq le_eq ge_eq gt_eq

set_option maxHeartbeats 1000000 in
set_option maxRecDepth 100000 in
theorem findcl_any (x : K × K) (k : K) (w : World) : Calls Tryz.prog 78 #[.agg #[.string x.1, .string x.2], .string k] w fun e w' => e = .returned (.int .i64 (cmpKey x.1 k)) ∧ Below w.heap.size w w' := by
  have hcon := fun W' => compare_any x.1 k W'
  generalize cmpKey x.1 k = r at hcon ⊢
  go_enter Tryz.func78, Tryz.ntmps78
  go_wp2_with (go_at_call 79; refine (hcon _).mono ?_; rintro e w' ⟨rfl, rfl⟩)
  go_ret
  exact ⟨rfl, (Below.refl _ _).alloc (Nat.le_refl _) _⟩
theorem cmp_zero (a b : K) : (cmpKey a b == 0) = decide (a = b) := by
  unfold cmpKey
  by_cases h1 : a < b
  · have : ¬ a = b := fun e => by subst e; grind
    simp [h1, this]
  · by_cases h2 : b < a
    · have : ¬ a = b := fun e => by subst e; grind
      simp [h1, h2, this]
    · have : a = b := by grind
      subst this
      simp [h1]

/-- is there a pair of this key at the place -/
def atB (l : List (K × K)) (k : K) (i : Nat) : Bool := match l[i]? with | some p => decide (p.1 = k) | none => false
set_option maxHeartbeats 4000000 in
set_option maxRecDepth 100000 in
theorem bsearch2_any (l : List (K × K)) (hr : Rises l) (k : K) (v : Value) (w : World) (hv : RdP w w.heap.size v l) (hl : l.length < 4611686018427387904) :
    Calls Tryz.prog 77 #[v, .string k, .func (.func 78) #[] #[]] w fun e w' => e = .returned (.tuple #[.int .i64 (pos l k : Nat), .bool (atB l k (pos l k))]) ∧ Below w.heap.size w w' := by
  obtain ⟨A, c, rfl, hc, hi⟩ := hv.at
  have HI := Lib.hid hi; clear hi
  have HR := Lib.hid hr; clear hr
  clear hv
  obtain ⟨g, hg⟩ : ∃ g, g = w.heap.size := ⟨_, rfl⟩
  have HG := Lib.hid hg; clear hg
  have hcl := fun (x : K × K) (W : World) => findcl_any x k W
  have HC := Lib.hid hcl; clear hcl
  go_enter Tryz.func77, Tryz.ntmps77
  go_wp2_with fail
  go_loopg [9, 10] l.length (fun kx s9 s10 wr => ∃ lo hi : Nat, s9 = .int .i64 lo ∧ s10 = .int .i64 hi ∧ lo ≤ hi ∧ hi ≤ l.length ∧ hi - lo ≤ kx ∧ Hid (Below g w wr) ∧
    Hid ((∀ t (_ : t < l.length), t < lo → l[t].1 < k) ∧ (∀ t (_ : t < l.length), hi ≤ t → ¬ l[t].1 < k)))
  case atStart => exact ⟨0, l.length, rfl, rfl, Nat.zero_le _, Nat.le_refl _, by omega, Lib.hid (Below.refl _ _), Lib.hid ⟨fun t _ ht => absurd ht (Nat.not_lt_zero _), fun t h1 h2 => by omega⟩⟩
  case round =>
    obtain ⟨lo, hi, rfl, rfl, hlh, hin, hgk, HB, HM⟩ := hrel
    by_cases hlt : lo < hi
    · have hh : (lo + hi) / 2 < l.length := by omega
      obtain ⟨b, o, rfl, hbB, k0, k1⟩ := HI.out ((lo + hi) / 2) hh
      rw [← HB.out.cell (p := ⟨b, _, none⟩) (by rw [HG.out]; exact hbB)] at k0
      rw [← HB.out.cell (p := ⟨b, _, none⟩) (by rw [HG.out]; exact hbB)] at k1
      have hmid : ∀ t (_ : t < l.length), (t < (lo + hi) / 2 → l[t].1 < l[(lo + hi) / 2].1) ∧ ((lo + hi) / 2 < t → l[(lo + hi) / 2].1 < l[t].1) := fun t ht => ⟨fun h => HR.out.lt hh h, fun h => HR.out.lt ht h⟩
      have HMID := Lib.hid hmid; clear hmid
      have hcc := HC.out l[(lo + hi) / 2]
      have hneg := cmp_neg l[(lo + hi) / 2].1 k
      by_cases hx : l[(lo + hi) / 2].1 < k
      · have hlo : ∀ t (_ : t < l.length), t < (lo + hi) / 2 + 1 → l[t].1 < k := fun t ht h => by
          rcases Nat.lt_or_ge t ((lo + hi) / 2) with h1 | h1
          · have := (HMID.out t ht).1 h1; grind
          · have e : t = (lo + hi) / 2 := by omega
            subst e; exact hx
        have HLO := Lib.hid hlo; clear hlo
        have hneg2 := hneg.2 hx
        clear hneg hx HMID
        generalize cmpKey l[(lo + hi) / 2].1 k = r at hcc hneg2
        generalize l[(lo + hi) / 2] = z at k0 k1 hcc
        have HCC := Lib.hid hcc; clear hcc
        go_wp2_with fail
        refine (HCC.out _).mono ?_
        rintro e w2 ⟨rfl, hbn⟩
        have HB2 := Lib.hid (show Below g w w2 from HB.out.trans (hbn.mono (by rw [HG.out]; exact HB.out.size))); clear hbn
        clear k0 k1
        go_wp2_with fail
        go_roundg (hi - ((lo + hi) / 2 + 1))
        case measure => omega
        case rel => exact ⟨(lo + hi) / 2 + 1, hi, by rw [show ((lo : Int) + (hi : Int)) / 2 + 1 = (((lo + hi) / 2 + 1 : Nat) : Int) by omega], rfl, by omega, hin, Nat.le_refl _, HB2, Lib.hid ⟨HLO.out, HM.out.2⟩⟩
      · have hhi : ∀ t (_ : t < l.length), (lo + hi) / 2 ≤ t → ¬ l[t].1 < k := fun t ht h => by
          rcases Nat.lt_or_ge ((lo + hi) / 2) t with h1 | h1
          · have := (HMID.out t ht).2 h1; grind
          · have e : t = (lo + hi) / 2 := by omega
            subst e; exact hx
        have HHI := Lib.hid hhi; clear hhi
        have hneg2 : ¬ cmpKey l[(lo + hi) / 2].1 k < 0 := fun h => hx (hneg.1 h)
        clear hneg hx HMID
        generalize cmpKey l[(lo + hi) / 2].1 k = r at hcc hneg2
        generalize l[(lo + hi) / 2] = z at k0 k1 hcc
        have HCC := Lib.hid hcc; clear hcc
        go_wp2_with fail
        refine (HCC.out _).mono ?_
        rintro e w2 ⟨rfl, hbn⟩
        have HB2 := Lib.hid (show Below g w w2 from HB.out.trans (hbn.mono (by rw [HG.out]; exact HB.out.size))); clear hbn
        clear k0 k1
        go_wp2_with fail
        go_roundg ((lo + hi) / 2 - lo)
        case measure => omega
        case rel => exact ⟨lo, (lo + hi) / 2, rfl, by rw [show ((lo : Int) + (hi : Int)) / 2 = (((lo + hi) / 2 : Nat) : Int) by omega], by omega, by omega, Nat.le_refl _, HB2, Lib.hid ⟨HM.out.1, HHI.out⟩⟩
    · obtain rfl : hi = lo := by omega
      have hp : pos l k = hi := pos_at l k hi hin HM.out.1 HM.out.2
      have HP := Lib.hid hp; clear hp
      by_cases hn : hi < l.length
      · obtain ⟨b, o, rfl, hbB, k0, k1⟩ := HI.out hi hn
        rw [← HB.out.cell (p := ⟨b, _, none⟩) (by rw [HG.out]; exact hbB)] at k0
        rw [← HB.out.cell (p := ⟨b, _, none⟩) (by rw [HG.out]; exact hbB)] at k1
        have hcc := HC.out l[hi]
        have hz := cmp_zero l[hi].1 k
        have hat : atB l k hi = decide (l[hi].1 = k) := by unfold atB; rw [List.getElem?_eq_getElem hn]
        rw [← hz] at hat
        clear hz
        generalize cmpKey l[hi].1 k = r at hcc hat
        have HAT := Lib.hid hat; clear hat
        generalize l[hi] = z at k0 k1 hcc
        have HCC := Lib.hid hcc; clear hcc
        go_wp2_with fail
        refine (HCC.out _).mono ?_
        rintro e w2 ⟨rfl, hbn⟩
        have HB2 := Lib.hid (show Below g w w2 from HB.out.trans (hbn.mono (by rw [HG.out]; exact HB.out.size))); clear hbn
        clear k0 k1
        go_wp2_with fail
        go_ret2
        exact ⟨by rw [HP.out, HAT.out]; rfl, by have h := HB2.out; rwa [HG.out] at h⟩
      · have hat : atB l k hi = false := by unfold atB; rw [List.getElem?_eq_none (by omega)]
        have HAT := Lib.hid hat; clear hat
        go_wp2_with fail
        go_ret2
        exact ⟨by rw [HP.out, HAT.out]; rfl, by have h := HB.out; rwa [HG.out] at h⟩

theorem valOf_pos {l : List (K × K)} (hr : Rises l) (k : K) : valOf l k = match l[pos l k]? with | some p => if p.1 = k then (p.2, true) else (⟨#[]⟩, false) | none => (⟨#[]⟩, false) := by
  have h1 : ∀ t (_ : t < l.length), t < pos l k → l[t].1 < k := fun t ht h => by
    have := (rises_cut hr k).1
    have hm : l[t] ∈ l.take (pos l k) := by rw [List.mem_take_iff_getElem]; exact ⟨t, by omega, rfl⟩
    rw [this] at hm
    simpa using (List.mem_filter.1 hm).2
  have h2 : ∀ t (_ : t < l.length), pos l k ≤ t → ¬ l[t].1 < k := fun t ht h => by
    have := (rises_cut hr k).2
    have hm : l[t] ∈ l.drop (pos l k) := by rw [List.mem_drop_iff_getElem]; exact ⟨t - pos l k, by omega, by congr 1; omega⟩
    rw [this] at hm
    simpa using (List.mem_filter.1 hm).2
  by_cases hlt : pos l k < l.length
  · rw [List.getElem?_eq_getElem hlt]
    simp only
    by_cases he : l[pos l k].1 = k
    · rw [if_pos he]
      have := valOf_mem hr (List.getElem_mem hlt)
      rw [he] at this
      exact this
    · rw [if_neg he]
      refine valOf_no fun x hx e => ?_
      obtain ⟨t, ht, rfl⟩ := List.getElem_of_mem hx
      rcases Nat.lt_trichotomy t (pos l k) with h | h | h
      · have := h1 t ht h; rw [e] at this; grind
      · subst h; exact he e
      · have a := hr.lt ht h
        have b := h2 _ hlt (Nat.le_refl _)
        rw [e] at a
        exact b a
  · rw [List.getElem?_eq_none (by omega)]
    refine valOf_no fun x hx e => ?_
    obtain ⟨t, ht, rfl⟩ := List.getElem_of_mem hx
    have := h1 t ht (by omega)
    rw [e] at this
    grind
set_option maxHeartbeats 4000000 in
set_option maxRecDepth 100000 in
theorem find_any (l : List (K × K)) (hr : Rises l) (k : K) (v : Value) (w : World) (hv : RdP w w.heap.size v l) (hl : l.length < 4611686018427387904) :
    Calls Tryz.prog 57 #[v, .string k] w fun e w' => e = .returned (.tuple #[.string (valOf l k).1, .bool (valOf l k).2]) ∧ Below w.heap.size w w' := by
  have hb := bsearch2_any l hr k v w hv hl
  rw [valOf_pos hr k]
  obtain ⟨A, c, rfl, hc, hi⟩ := hv.at
  generalize pos l k = i at hb ⊢
  clear hv hr
  unfold atB at hb
  cases he : l[i]? with
  | none =>
    rw [he] at hb
    simp only at hb ⊢
    have HB := Lib.hid hb; clear hb hi he
    go_enter Tryz.func57, Tryz.ntmps57
    go_wp2_with fail
    refine HB.out.mono ?_
    rintro e w1 ⟨rfl, hb1⟩
    have HB1 := Lib.hid hb1; clear hb1
    go_wp2_with fail
    exact bodyPost_ret (v := .tuple #[.string ⟨#[]⟩, .bool false]) (by simp [results, Tryz.results57, go_sem]) rfl ⟨rfl, HB1.out⟩
  | some p =>
    rw [he] at hb
    simp only at hb ⊢
    obtain ⟨hlt, hp⟩ := List.getElem?_eq_some_iff.1 he
    obtain ⟨b, o, rfl, hbB, k0, k1⟩ := hi i hlt
    rw [hp] at k0 k1
    have HK1 := Lib.hid k1; clear k1 k0 hi he hp
    have HB := Lib.hid hb; clear hb
    obtain ⟨x, y⟩ := p
    simp only at HK1 HB ⊢
    by_cases hk : x = k
    · rw [if_pos hk]
      have hd : decide (x = k) = true := by simpa using hk
      rw [hd] at HB
      clear hk hd
      go_enter Tryz.func57, Tryz.ntmps57
      go_wp2_with fail
      refine HB.out.mono ?_
      rintro e w1 ⟨rfl, hb1⟩
      have k1 := (hb1.cell (p := ⟨b, _, none⟩) hbB).trans HK1.out
      have HB1 := Lib.hid hb1; clear hb1
      go_wp2_with fail
      exact bodyPost_ret (v := .tuple #[.string y, .bool true]) (by simp [results, Tryz.results57, go_sem]) rfl ⟨rfl, HB1.out⟩
    · rw [if_neg hk]
      have hd : decide (x = k) = false := by simpa using hk
      rw [hd] at HB
      clear hk hd
      go_enter Tryz.func57, Tryz.ntmps57
      go_wp2_with fail
      refine HB.out.mono ?_
      rintro e w1 ⟨rfl, hb1⟩
      have HB1 := Lib.hid hb1; clear hb1
      go_wp2_with fail
      exact bodyPost_ret (v := .tuple #[.string ⟨#[]⟩, .bool false]) (by simp [results, Tryz.results57, go_sem]) rfl ⟨rfl, HB1.out⟩
end Go.Proofs.YtbifnogocmgddaaGreat
namespace Go.Proofs.YtbifnogocmgddaaGreat
open Go.RowKit Go.Shelf
attribute [local go_sem] Oper.semAt_some

theorem chgs_get (us : List Dd) (i : Nat) (h : i < us.length) (h2 : i < (chgs us).length) : (chgs us)[i] = us[i].2 := List.getElem_map ..
set_option maxHeartbeats 1000000 in
theorem pget_bad (q : Nat) (p : Pa) (bv dv : Value) (k : K) (v : Int) (w : World) (hb : Whole w q 87 [.int .i64 p.first, .int .i64 p.last, bv, dv]) (hk : p.known v ≠ 0) :
    Calls Tryz.prog 29 #[.pointer (some ⟨q, 0, none⟩), .string k, .int .i64 v] w fun e w' => e = .returned (.tuple #[.string ⟨#[]⟩, .bool false, .int .i64 (p.known v)]) ∧ Below w.heap.size w w' := by
  have hkn := fun W (h : Whole W q 87 [.int .i64 p.first, .int .i64 p.last, bv, dv]) => known_any q p v bv dv W h
  have hb4 := (((hb.alloc (.cells #[.string k] 9)).alloc (.cells #[.string ⟨#[]⟩] 9)).alloc (.cells #[.bool false] 4)).alloc (.cells #[.int .i64 0] 24)
  have HKN := Lib.hid (hkn _ hb4)
  clear hkn hb4 hb
  generalize p.known v = r at HKN hk ⊢
  have hkb : (r == 0) = false := by simpa using hk
  go_enter Tryz.func29, Tryz.ntmps29
  go_wp2_with fail
  refine HKN.out.mono ?_
  rintro e w1 ⟨rfl, rfl⟩
  go_wp2_with fail
  refine bodyPost_ret (v := .tuple #[.string ⟨#[]⟩, .bool false, .int .i64 r]) (by simp [results, Tryz.results29, go_sem]) rfl ⟨rfl, ?_⟩
  ((repeat' (first | exact Below.refl _ _ | refine Below.alloc ?_ ?_ _ | refine Below.setCell ?_ ?_ _ | refine Below.drew ?_)); all_goals ((try simp only [World.size_alloc]); omega))

set_option maxHeartbeats 4000000 in
set_option maxRecDepth 100000 in
theorem pget_good (base q n : Nat) (G : Nat → Prop) (p : Pa) (k : K) (v : Int) (w : World) (h : PaAt w base q G n p) (hk : p.known v = 0) :
    Calls Tryz.prog 29 #[.pointer (some ⟨q, 0, none⟩), .string k, .int .i64 v] w fun e w' => e = .returned (.tuple #[.string (valOf (p.at_ v) k).1, .bool (valOf (p.at_ v) k).2, .int .i64 0]) ∧ Below w.heap.size w w' := by
  obtain ⟨⟨bv, dv, bs, ds, hb, hob, hod, hgh, _⟩, _, hlow⟩ := h
  have hlen := hgh.len
  have hfew := hgh.few
  unfold many at hfew
  have hf : p.first ≤ v := by
    unfold Pa.known at hk
    split at hk
    · cases hk
    · omega
  rw [hgh.link v hf, ← (cnt_take hgh.rise v).1]
  have hkl := cnt_le ds v
  have hrs := (soundP_spec hgh.sound).1
  obtain ⟨W1, hW1⟩ : ∃ W1, W1 = (((w.alloc (.cells #[.string k] 9)).alloc (.cells #[.string ⟨#[]⟩] 9)).alloc (.cells #[.bool false] 4)).alloc (.cells #[.int .i64 0] 24) := ⟨_, rfl⟩
  have hB1 : Below w.heap.size w W1 := by rw [hW1]; exact ((((Below.refl _ w).alloc (Nat.le_refl _) _).alloc (by simp) _).alloc (by simp; omega) _).alloc (by simp; omega) _
  have hs1 : W1.heap.size = w.heap.size + 4 := by rw [hW1]; simp
  have b0 : Boxed W1 w.heap.size 9 (.string k) := by rw [hW1]; exact (((Boxed.new w _ _).alloc _).alloc _).alloc _
  have b1 : Boxed W1 (w.heap.size + 1) 9 (.string ⟨#[]⟩) := by
    rw [hW1]
    have := ((Boxed.new (w.alloc (.cells #[.string k] 9)) 9 (.string ⟨#[]⟩)).alloc (.cells #[.bool false] 4)).alloc (.cells #[.int .i64 0] 24)
    rwa [World.size_alloc] at this
  have b2 : Boxed W1 (w.heap.size + 1 + 1) 4 (.bool false) := by
    rw [hW1]
    have := (Boxed.new ((w.alloc (.cells #[.string k] 9)).alloc (.cells #[.string ⟨#[]⟩] 9)) 4 (.bool false)).alloc (.cells #[.int .i64 0] 24)
    simpa only [World.size_alloc] using this
  have b3 : Boxed W1 (w.heap.size + 1 + 1 + 1) 24 (.int .i64 0) := by
    rw [hW1]
    have := Boxed.new (((w.alloc (.cells #[.string k] 9)).alloc (.cells #[.string ⟨#[]⟩] 9)).alloc (.cells #[.bool false] 4)) 24 (.int .i64 0)
    simpa only [World.size_alloc] using this
  have hbW := hb.below hB1 hb.size
  have hkn := known_any q p v bv dv W1 hbW
  rw [hk] at hkn
  have hup := upTo_any q _ _ bv dv ds v W1 hbW (((hod.rd encD_len).below hB1 (Nat.le_refl _)).mono hB1.size) hgh.rise (by omega)
  have hfi := fun W (hW : Below w.heap.size w W) => find_any bs hrs k bv W (((hob.rd cellsS_len).below hW (Nat.le_refl _)).mono hW.size) (by omega)
  have htl : (ds.take (cnt ds v)).length = cnt ds v := by rw [List.length_take]; omega
  have hbc := fun W (hW : Below w.heap.size w W) => (hb.below hW hb.size).cell 2 _ rfl
  generalize ds.take (cnt ds v) = us at hup htl ⊢
  generalize cnt ds v = m at hup htl hkl
  subst htl
  have hul : us.length < 4611686018427387904 := by omega
  have HFI := Lib.hid hfi; clear hfi
  have HUP := Lib.hid hup; clear hup
  have HKN := Lib.hid hkn; clear hkn
  have HBC := Lib.hid hbc; clear hbc
  have HW1 := Lib.hid hW1; clear hW1
  have HRS := Lib.hid hrs; clear hrs
  clear hob hod hgh hlow hkl hlen hfew hb hbW hf
  refine (callsIn_wide (n := 8)).1 ?_
  refine callsIn_of_wp_marks Tryz.func29 rfl trivial ?_ rfl
  simp only [Tryz.ntmps29, List.size_toArray, List.length_cons, List.length_nil, Nat.reduceAdd, Nat.reduceSub, Array.replicate_succ, Array.replicate_zero, List.push_toArray, List.append_toArray, List.nil_append, List.cons_append]
  gi_wp2
  rw [← HW1.out]
  refine ⟨trivial, (callsIn_wide.2 HKN.out).mono ?_⟩
  rintro e w1 ⟨rfl, rfl⟩
  clear HW1 HKN
  gi_wp2
  refine ⟨trivial, (callsIn_wide.2 HUP.out).mono ?_⟩
  rintro e W2 ⟨A, c, rfl, hrd, hb2⟩
  have hs2 := hb2.size
  gi_wp2
  refine ⟨trivial, (backward_in Fence.wide _ trivial rfl _ _ _ _).mono ?_⟩
  rintro e w' ⟨rfl, rfl⟩
  obtain ⟨W3, hW3⟩ : ∃ W3, W3 = W2.alloc (.cells #[.slice A us.length c] 85) := ⟨_, rfl⟩
  have bN : Boxed W3 W2.heap.size 85 (.slice A us.length c) := by rw [hW3]; exact Boxed.new W2 _ _
  have hB3 : Below w1.heap.size w1 W3 := by rw [hW3]; exact hb2.alloc hs2 _
  have hs3 : W3.heap.size = W2.heap.size + 1 := by rw [hW3]; simp
  have hrd3 : RdD W3 W3.heap.size (.slice A us.length c) us := (hrd.below (by rw [hW3]; exact (Below.refl _ W2).alloc (Nat.le_refl _) _) (Nat.le_refl _)).mono (by omega)
  rw [← hW3]
  clear hW3 hrd hb2 HUP
  gi_wp2
  refine wpIn_rangeFunc_ownH rfl (by omega) (gf := 76) (lb := #[.pointer (some ⟨W2.heap.size, 0, none⟩)]) rfl trivial (enters_of Tryz.func76 (by kernel_rfl) rfl)
    (backward_stops Fence.wide 7 trivial rfl (by omega) W2.heap.size W3.heap.size A c us hul W3 (by omega) (Nat.le_refl _) bN.cell hrd3) belowK_t (belowK_b (Nat.le_refl _)) (Below.refl _ _) (fun _ => rfl)
    (fun (pre : List (Fin us.length)) W => (∀ x ∈ pre, namesB us[x].2 k = false) ∧ Below W3.heap.size W3 W)
    (fun jc (pre : List (Fin us.length)) W => (jc = .ret ∧ ∃ (ini : List (Fin us.length)) (last : Fin us.length), pre = ini ++ [last] ∧ (∀ x ∈ ini, namesB us[x].2 k = false) ∧ namesB us[last].2 k = true ∧ Boxed W (w.heap.size + 1) 9 (.string (leftV us[last].2).1) ∧ Boxed W (w.heap.size + 1 + 1) 4 (.bool (leftV us[last].2).2) ∧ Boxed W (w.heap.size + 1 + 1 + 1) 24 (.int .i64 0)) ∧ Below w.heap.size w W)
    (OwnFrom.and (ownFrom_pure _ _) (ownFrom_below (Nat.le_refl _) (Nat.le_refl _)))
    (fun jc => OwnFrom.and (Own.from (fun s X Y row hs hg hr => by
      obtain ⟨hc, ini, last, e1, e2, e3, e4, e5, e6⟩ := hs
      exact ⟨hc, ini, last, e1, e2, e3, boxed_own _ _ (fun (_ : Unit) => Value.string (leftV us[last].2).1) () X Y row e4 hg hr, boxed_own _ _ (fun (_ : Unit) => Value.bool (leftV us[last].2).2) () X Y row e5 hg hr, boxed_own _ _ (fun (_ : Unit) => Value.int .i64 0) () X Y row e6 hg hr⟩) _) (ownFrom_below (Nat.le_refl _) (by omega)))
    ⟨by simp, Below.refl _ _⟩
    (fun (x : Fin us.length) a' W => ∃ Bx, w.heap.size + 1 + 1 + 1 < Bx ∧ Whole W Bx 101 (encD us[x]) ∧ a' = { tmps := #[.pointer (some ⟨q, 0, none⟩), .string k, .int .i64 v, undef, .pointer (some ⟨w.heap.size, 0, none⟩), undef, .pointer (some ⟨w.heap.size + 1, 0, none⟩), .pointer (some ⟨w.heap.size + 1 + 1, 0, none⟩), .pointer (some ⟨w.heap.size + 1 + 1 + 1, 0, none⟩), .int .i64 0, undef, .pointer (some ⟨Bx, 0, none⟩), undef, undef, undef, undef, .pointer (some ⟨q, 0, none⟩), .int .i64 v, .int .i64 0, .int .i64 0, .bool false, undef, .pointer (some ⟨q, 0, none⟩), .int .i64 v, .slice A us.length c, .func (.func 76) #[] #[.pointer (some ⟨W2.heap.size, 0, none⟩)], .int .i64 (x.1 : Int), .agg #[.int .i64 us[x].1, .int .i64 us[x].2.kind, .string us[x].2.key, .string us[x].2.val], undef, undef, undef, undef, undef, undef, undef, undef, undef, undef, undef, undef, undef, undef, undef, undef, undef, undef, undef, undef, undef, undef, undef], defers := [] })
    (fun x a' _ X Y row hs hg hr => by obtain ⟨Bx, h1, h2, h3⟩ := hs; exact ⟨Bx, h1, whole_own Bx 101 (fun (_ : Unit) => encD us[x]) () X Y row h2 hg (fun r e => (hr r e).2), h3⟩)
    ?assign ?body ?done ?stop
  case assign =>
    rintro l pre x W K ⟨hp, hBW⟩ hK
    unfold encB
    generalize us[x] = d at hK ⊢
    obtain ⟨xv, xk, xx, xy⟩ := d
    have hsA : w.heap.size + 1 + 1 + 1 < W.heap.size := by have := hBW.size; have := hB3.size; omega
    clear hs1 hs2 hs3
    gi_wp2
    exact hK _ _ ((KeepsOthers.alloc _ _).from _) ((Below.refl _ W).alloc hBW.size _) ⟨hp, hBW.alloc hBW.size _⟩ ⟨W.heap.size, hsA, Whole.fresh W _ _, rfl⟩
  case body =>
    rintro l pre x a' W hl _ ⟨hp, hBW⟩ ⟨Bx, hBx, hW, rfl⟩ hlt
    have c1 := hW.cell 1 _ rfl
    have c2 := hW.cell 2 _ rfl
    have c3 := hW.cell 3 _ rfl
    have hB1W : Below w1.heap.size w1 W := hB3.trans (hBW.mono (by omega))
    have b0' : Boxed W w.heap.size 9 (.string k) := (hB1W.block _ b0.lt).trans b0
    have b1' : Boxed W (w.heap.size + 1) 9 (.string ⟨#[]⟩) := (hB1W.block _ b1.lt).trans b1
    have b2' : Boxed W (w.heap.size + 1 + 1) 4 (.bool false) := (hB1W.block _ b2.lt).trans b2
    have b3' : Boxed W (w.heap.size + 1 + 1 + 1) 24 (.int .i64 0) := (hB1W.block _ b3.lt).trans b3
    have hBw : Below w.heap.size w W := hB1.trans (hB1W.mono (by omega))
    have hwW : W3.heap.size ≤ W.heap.size := hBW.size
    have d0 := b0'.cell
    have hfin : ∀ (W' W'' : World) (u : Act), Below W.heap.size W W' → Below W'.heap.size W' W'' → namesB us[x].2 k = true → ownPostG W3.heap.size (Below W3.heap.size)
      (fun (pre : List (Fin us.length)) W => (∀ x ∈ pre, namesB us[x].2 k = false) ∧ Below W3.heap.size W3 W)
      (fun jc (pre : List (Fin us.length)) W => (jc = .ret ∧ ∃ (ini : List (Fin us.length)) (last : Fin us.length), pre = ini ++ [last] ∧ (∀ x ∈ ini, namesB us[x].2 k = false) ∧ namesB us[last].2 k = true ∧ Boxed W (w.heap.size + 1) 9 (.string (leftV us[last].2).1) ∧ Boxed W (w.heap.size + 1 + 1) 4 (.bool (leftV us[last].2).2) ∧ Boxed W (w.heap.size + 1 + 1 + 1) 24 (.int .i64 0)) ∧ Below w.heap.size w W)
      (pre ++ [x]) W .ret u (((W''.setCell ⟨w.heap.size + 1, 0, none⟩ (.string (leftV us[x].2).1)).setCell ⟨w.heap.size + 1 + 1, 0, none⟩ (.bool (leftV us[x].2).2)).setCell ⟨w.heap.size + 1 + 1 + 1, 0, none⟩ (.int .i64 0)) := fun W' W'' u h1 h2 h3 => by
      have hb : Below W.heap.size W W'' := h1.trans (h2.mono h1.size)
      have e1 : Boxed W'' (w.heap.size + 1) 9 (.string ⟨#[]⟩) := (hb.block _ b1'.lt).trans b1'
      have e2 : Boxed W'' (w.heap.size + 1 + 1) 4 (.bool false) := (hb.block _ b2'.lt).trans b2'
      have e3 : Boxed W'' (w.heap.size + 1 + 1 + 1) 24 (.int .i64 0) := (hb.block _ b3'.lt).trans b3'
      refine ⟨((keeps_of_below hb).trans (((KeepsOthers.setCell _ _ _).trans (KeepsOthers.setCell _ _ _)).trans (KeepsOthers.setCell _ _ _))).from _, ⟨rfl, pre, x, rfl, hp, h3, ((e1.set _).other (by omega) _).other (by omega) _, ((e2.other (by omega) _).set _).other (by omega) _, ((e3.other (by omega) _).other (by omega) _).set _⟩, ?_⟩
      exact (((hBw.trans (hb.mono hBw.size)).setCell (p := ⟨w.heap.size + 1, 0, none⟩) (show w.heap.size ≤ w.heap.size + 1 by omega) _).setCell (p := ⟨w.heap.size + 1 + 1, 0, none⟩) (show w.heap.size ≤ w.heap.size + 1 + 1 by omega) _).setCell (p := ⟨w.heap.size + 1 + 1 + 1, 0, none⟩) (show w.heap.size ≤ w.heap.size + 1 + 1 + 1 by omega) _
    have hgo : ∀ (W' : World) (u : Act), Below W.heap.size W W' → namesB us[x].2 k = false → ownPostG W3.heap.size (Below W3.heap.size)
      (fun (pre : List (Fin us.length)) W => (∀ x ∈ pre, namesB us[x].2 k = false) ∧ Below W3.heap.size W3 W)
      (fun jc (pre : List (Fin us.length)) W => (jc = .ret ∧ ∃ (ini : List (Fin us.length)) (last : Fin us.length), pre = ini ++ [last] ∧ (∀ x ∈ ini, namesB us[x].2 k = false) ∧ namesB us[last].2 k = true ∧ Boxed W (w.heap.size + 1) 9 (.string (leftV us[last].2).1) ∧ Boxed W (w.heap.size + 1 + 1) 4 (.bool (leftV us[last].2).2) ∧ Boxed W (w.heap.size + 1 + 1 + 1) 24 (.int .i64 0)) ∧ Below w.heap.size w W)
      (pre ++ [x]) W .normal u W' := fun W' u h1 h3 => ⟨(keeps_of_below h1).from _, h1.mono hwW, fun y hy => by
        rcases List.mem_append.1 hy with hy | hy
        · exact hp y hy
        · simp at hy; subst hy; exact h3, hBW.trans (h1.mono hwW)⟩
    have hnm := fun W => names_any us[x].2 k W
    have hlf := fun W => left_any us[x].2 W
    obtain ⟨nb, hnb⟩ : ∃ nb, nb = namesB us[x].2 k := ⟨_, rfl⟩
    rw [← hnb] at hnm hfin hgo
    clear hnb hp
    have hbx := hW.size
    obtain ⟨D, hD⟩ : ∃ D, D = us[x] := ⟨_, rfl⟩
    rw [← hD] at hnm hlf hfin c1 c2 c3 ⊢
    clear hD hW
    obtain ⟨lx, ly, hlr⟩ : ∃ lx ly, leftV D.2 = (lx, ly) := ⟨_, _, rfl⟩
    rw [hlr] at hlf hfin
    simp only at hlf hfin
    have HFIN := Lib.hid hfin; clear hfin hlr
    have HGO := Lib.hid hgo; clear hgo
    have HLF := Lib.hid hlf; clear hlf
    have HNM := Lib.hid hnm; clear hnm
    obtain ⟨xv, xk, xx, xy⟩ := D
    unfold cval at HNM HLF
    simp only at c1 c2 c3 HNM HLF HFIN
    have f1' := fun W' (h : Below W.heap.size W W') => (show Boxed W' (w.heap.size + 1) 9 (.string ⟨#[]⟩) from (h.block _ b1'.lt).trans b1')
    have f2' := fun W' (h : Below W.heap.size W W') => (show Boxed W' (w.heap.size + 1 + 1) 4 (.bool false) from (h.block _ b2'.lt).trans b2')
    have f3' := fun W' (h : Below W.heap.size W W') => (show Boxed W' (w.heap.size + 1 + 1 + 1) 24 (.int .i64 0) from (h.block _ b3'.lt).trans b3')
    have F1 := Lib.hid f1'; clear f1'
    have F2 := Lib.hid f2'; clear f2'
    have F3 := Lib.hid f3'; clear f3'
    have hx1 := x.2
    clear hs1 hs2 hs3 hwW hx1 hlt hl hBx
    gi_wp2
    refine ⟨trivial, (CallsIn.inRound l (callsIn_wide.2 (HNM.out _))).mono ?_⟩
    rintro e W' ⟨rfl, hbW'⟩
    have HBW' := Lib.hid hbW'
    have c1' := (hbW'.cell (p := ⟨Bx, 1, none⟩) hbx).trans c1
    have c2' := (hbW'.cell (p := ⟨Bx, 2, none⟩) hbx).trans c2
    have c3' := (hbW'.cell (p := ⟨Bx, 3, none⟩) hbx).trans c3
    clear hbW' c1 c2 c3
    cases nb with
    | true =>
      gi_wp2
      refine ⟨trivial, (CallsIn.inRound l (callsIn_wide.2 (HLF.out _))).mono ?_⟩
      rintro e W'' ⟨rfl, hbW''⟩
      have hbb := HBW'.out.trans (hbW''.mono HBW'.out.size)
      have g1 := F1.out _ hbb
      have g2 := F2.out _ hbb
      have g3 := F3.out _ hbb
      have HF := Lib.hid (HFIN.out W' W'' · HBW'.out hbW'' (by first | rfl | trivial))
      have e1 := g1.cell
      have z1 := g1.frozen
      have e2 := (g2.other (B' := w.heap.size + 1) (by omega) (.string lx)).cell
      have z2 := (g2.other (B' := w.heap.size + 1) (by omega) (.string lx)).frozen
      have e3 := ((g3.other (B' := w.heap.size + 1) (by omega) (.string lx)).other (B' := w.heap.size + 1 + 1) (by omega) (.bool ly)).cell
      have z3 := ((g3.other (B' := w.heap.size + 1) (by omega) (.string lx)).other (B' := w.heap.size + 1 + 1) (by omega) (.bool ly)).frozen
      clear hbb hbW'' g1 g2 g3 c1' c2' c3'
      gi_wp2
      exact HF.out _
    | false =>
      gi_wp2
      exact HGO.out W' _ HBW'.out (by first | rfl | trivial)
  case done =>
    rintro D ys W hD rfl ⟨hp, hBW⟩ hK
    have hB1W : Below w1.heap.size w1 W := hB3.trans (hBW.mono (by omega))
    have hBw : Below w.heap.size w W := hB1.trans (hB1W.mono (by omega))
    have hall : ∀ i (_ : i < us.length), namesB us[i].2 k = false := fun i hi => hp ⟨i, hi⟩ (bk_mem _ (by simp; omega))
    have hva := valOf_apply (l := bs) (cs := chgs us) HRS.out k 0 (Nat.zero_le _) (fun j hj _ => by
      have h2 : j < us.length := by rwa [chgs_len] at hj
      rw [chgs_get us j h2]
      exact hall j h2)
    rw [List.take_zero] at hva
    have HVA := Lib.hid (show valOf (applyP bs (chgs us)) k = valOf bs k from hva)
    clear hva hall hp
    have d0 := (show Boxed W w.heap.size 9 (.string k) from (hB1W.block _ b0.lt).trans b0).cell
    have q2 := HBC.out W hBw
    have hq2 : q < W.heap.size := World.block_lt_of_cell? W _ q2
    have hwl : w.heap.size < W.heap.size := World.block_lt_of_cell? W _ d0
    gi_wp2
    refine wpIn_wide.2 ?_
    refine wp_region_noPanic ?_
    refine wp_region_planB [(true, 0), (true, 1), (true, 2), (true, 3), (true, 4), (false, 5), (true, 6), (true, 7), (true, 8), (true, 9), (true, 10)] (by kernel_rfl) (by kernel_rfl) (fun _ _ _ _ _ h => h) ?_
    iterate 5 (refine PlanB.take (v := ?_) rfl rfl ?_ ?_; rotate_left; (focus (intro X hX; have m0 := (hX.cell (p := ⟨w.heap.size, 0, none⟩) hwl).trans d0; have m2 := (hX.cell (p := ⟨q, 2, none⟩) hq2).trans q2; go_simp; (try with_reducible rfl); done)); (try simp only [Act.put, List.setIfInBounds_toArray, List.set_cons_zero, List.set_cons_succ]))
    refine PlanB.step rfl rfl (fun Kk hKk => ?_)
    go_simp
    refine (HFI.out W.drew hBw.drew).mono ?_
    rintro e W4 ⟨rfl, hb4⟩
    refine hKk.out _ _ hb4 ?_
    clear hKk Kk
    (try simp only [Act.put, List.setIfInBounds_toArray, List.set_cons_zero, List.set_cons_succ])
    repeat (refine PlanB.take (v := ?_) rfl rfl ?_ ?_; rotate_left; (focus (intro X hX; go_simp; (try with_reducible rfl); done)); (try simp only [Act.put, List.setIfInBounds_toArray, List.set_cons_zero, List.set_cons_succ]))
    simp only [PlanB]
    refine NoPanic.normal ?_
    obtain ⟨fx, fy, hfv⟩ : ∃ fx fy, valOf bs k = (fx, fy) := ⟨_, _, rfl⟩
    have hv2 := HVA.out
    rw [hfv] at hv2 ⊢
    have HV2 := Lib.hid hv2; clear hv2 hfv HVA
    have hbw4 : Below W.heap.size W W4 := (Below.refl _ W).drew.trans hb4
    have g1 : Boxed W4 (w.heap.size + 1) 9 (.string ⟨#[]⟩) := (hbw4.block _ (by have := hB1W.size; omega)).trans ((hB1W.block _ b1.lt).trans b1)
    have g2 : Boxed W4 (w.heap.size + 1 + 1) 4 (.bool false) := (hbw4.block _ (by have := hB1W.size; omega)).trans ((hB1W.block _ b2.lt).trans b2)
    have g3 : Boxed W4 (w.heap.size + 1 + 1 + 1) 24 (.int .i64 0) := (hbw4.block _ (by have := hB1W.size; omega)).trans ((hB1W.block _ b3.lt).trans b3)
    have hK4 : W4.heap[D]? = some (.deferred (some [])) := (hbw4.block D (Array.getElem?_eq_some_iff.1 hK).1).trans hK
    have e1 := g1.cell
    have z1 := g1.frozen
    have e2 := (g2.other (B' := w.heap.size + 1) (by omega) (.string fx)).cell
    have z2 := (g2.other (B' := w.heap.size + 1) (by omega) (.string fx)).frozen
    have e3 := ((g3.other (B' := w.heap.size + 1) (by omega) (.string fx)).other (B' := w.heap.size + 1 + 1) (by omega) (.bool fy)).cell
    have z3 := ((g3.other (B' := w.heap.size + 1) (by omega) (.string fx)).other (B' := w.heap.size + 1 + 1) (by omega) (.bool fy)).frozen
    have hB4 : Below w.heap.size w W4 := hBw.trans (hbw4.mono hBw.size)
    have HB4 := Lib.hid hB4
    have HG1 := Lib.hid g1
    have HG2 := Lib.hid g2
    have HG3 := Lib.hid g3
    clear hb4 hbw4 hBw hB1W hBW d0 q2 hq2 hwl hB4 g1 g2 g3 hK
    gi_wp2
    have k1 := ((HG1.out.set (.string fx)).other (B' := w.heap.size + 1 + 1) (by omega) (.bool fy)).other (B' := w.heap.size + 1 + 1 + 1) (by omega) (.int .i64 0)
    have k2 := ((HG2.out.other (B' := w.heap.size + 1) (by omega) (.string fx)).set (.bool fy)).other (B' := w.heap.size + 1 + 1 + 1) (by omega) (.int .i64 0)
    have k3 := ((HG3.out.other (B' := w.heap.size + 1) (by omega) (.string fx)).other (B' := w.heap.size + 1 + 1) (by omega) (.bool fy)).set (.int .i64 0)
    have hK5 := (((KeepsOthers.setCell W4 ⟨w.heap.size + 1, 0, none⟩ (.string fx)).trans (KeepsOthers.setCell _ ⟨w.heap.size + 1 + 1, 0, none⟩ (.bool fy))).trans (KeepsOthers.setCell _ ⟨w.heap.size + 1 + 1 + 1, 0, none⟩ (.int .i64 0))).same D _ hK4 rfl
    have hB5 := ((HB4.out.setCell (p := ⟨w.heap.size + 1, 0, none⟩) (show w.heap.size ≤ w.heap.size + 1 by omega) (.string fx)).setCell (p := ⟨w.heap.size + 1 + 1, 0, none⟩) (show w.heap.size ≤ w.heap.size + 1 + 1 by omega) (.bool fy)).setCell (p := ⟨w.heap.size + 1 + 1 + 1, 0, none⟩) (show w.heap.size ≤ w.heap.size + 1 + 1 + 1 by omega) (.int .i64 0)
    refine ⟨by simp, .inl ⟨_, _, rfl, run_takeDeferred hK5, ?_⟩⟩
    have h1 := cell_kept k1.cell (grownBy_putObj' _ D (.deferred none)) (fun r e => by cases e; exact ⟨_, hK5, rfl⟩)
    have h2 := cell_kept k2.cell (grownBy_putObj' _ D (.deferred none)) (fun r e => by cases e; exact ⟨_, hK5, rfl⟩)
    have h3 := cell_kept k3.cell (grownBy_putObj' _ D (.deferred none)) (fun r e => by cases e; exact ⟨_, hK5, rfl⟩)
    refine ⟨.tuple #[.string fx, .bool fy, .int .i64 0], ?_, ⟨by rw [HV2.out], hB5.trans (belowK_b (w := w) (Nat.le_refl _) _ D _ _ (by omega) hK5 rfl rfl)⟩⟩
    simp [results, Tryz.f29, go_sem, h1, h2, h3]
  case stop =>
    rintro D jc pre W hD ⟨m, hm, rfl⟩ ⟨⟨rfl, ini, last, e1, e2, e3, b1', b2', b3'⟩, hBw⟩ hK
    have hini := bk_last hm e1.symm
    have hlast := valOf_last (l := bs) (cs := chgs us) HRS.out k last.1 (by rw [chgs_len]; exact last.2) (by rw [chgs_get us last.1 last.2]; exact e3) (fun j hj hij => by
      have h2 : j < us.length := by rwa [chgs_len] at hj
      have := e2 ⟨j, h2⟩ (by rw [hini]; exact bk_mem _ (by simp; omega))
      rw [chgs_get us j h2]
      exact this)
    rw [chgs_get us last.1 last.2] at hlast
    have d1 := b1'.cell
    have d2 := b2'.cell
    have d3 := b3'.cell
    gi_wp2
    refine ⟨by simp, .inl ⟨_, _, rfl, run_takeDeferred hK, ?_⟩⟩
    have h1 := cell_kept d1 (grownBy_putObj' _ D (.deferred none)) (fun r e => by cases e; exact ⟨_, hK, rfl⟩)
    have h2 := cell_kept d2 (grownBy_putObj' _ D (.deferred none)) (fun r e => by cases e; exact ⟨_, hK, rfl⟩)
    have h3 := cell_kept d3 (grownBy_putObj' _ D (.deferred none)) (fun r e => by cases e; exact ⟨_, hK, rfl⟩)
    refine ⟨.tuple #[.string (leftV us[last].2).1, .bool (leftV us[last].2).2, .int .i64 0], ?_, ⟨by rw [hlast]; rfl, hBw.trans (belowK_b (w := w) (Nat.le_refl _) _ D _ _ (by omega) hK rfl rfl)⟩⟩
    simp [results, Tryz.f29, go_sem, h1, h2, h3]

theorem pget_any (base q n : Nat) (G : Nat → Prop) (p : Pa) (k : K) (v : Int) (w : World) (h : PaAt w base q G n p) (hv : I64 v) (hk : k.size < 4611686018427387904) :
    Calls Tryz.prog 29 #[.pointer (some ⟨q, 0, none⟩), .string k, .int .i64 v] w fun e w' => e = .returned (.tuple #[.string (p.get k v).1.1, .bool (p.get k v).1.2, .int .i64 (p.get k v).2]) ∧ Below w.heap.size w w' := by
  unfold Pa.get
  by_cases hkn : p.known v = 0
  · rw [if_neg (by simpa using hkn)]
    exact pget_good base q n G p k v w h hkn
  · rw [if_pos hkn]
    obtain ⟨bv, dv, bs, ds, hb, _⟩ := h.blk
    exact pget_bad q p bv dv k v w hb hkn
end Go.Proofs.YtbifnogocmgddaaGreat
namespace Go.Proofs.YtbifnogocmgddaaGreat
open Go.RowKit
attribute [local go_sem] less_eq same_eq le_eq ge_eq gt_eq

set_option maxHeartbeats 1000000 in
set_option maxRecDepth 100000 in
theorem listcl_any (s x : K × K) (B : Nat) (w : World) (h0 : w.cell? ⟨B, 0, none⟩ = some (.string s.1)) (h1 : w.cell? ⟨B, 1, none⟩ = some (.string s.2)) :
    Calls Tryz.prog 52 #[.agg #[.string x.1, .string x.2], .pointer (some ⟨B, 0, none⟩)] w fun e w' => e = .returned (.bool (!hasB s x.1)) ∧ Below w.heap.size w w' := by
  have hcon := fun W => phas_any s x.1 W
  generalize hasB s x.1 = r at hcon ⊢
  have HC := Lib.hid hcon; clear hcon
  have h0' := (World.cell?_alloc_some w ⟨B, 0, none⟩ (.cells #[.string x.1, .string x.2] 69) (by rw [h0]; rfl)).trans h0
  have h1' := (World.cell?_alloc_some w ⟨B, 1, none⟩ (.cells #[.string x.1, .string x.2] 69) (by rw [h1]; rfl)).trans h1
  clear h0 h1
  go_enter Tryz.func52, Tryz.ntmps52
  go_wp2_with fail
  refine (HC.out _).mono ?_
  rintro e w2 ⟨rfl, hb2⟩
  have HB2 := Lib.hid (((Below.refl _ w).alloc (Nat.le_refl _) (.cells #[.string x.1, .string x.2] 69)).trans (hb2.mono (by simp)))
  clear hb2 h0' h1'
  go_wp2_with fail
  go_ret
  exact ⟨rfl, HB2.out⟩

set_option maxHeartbeats 4000000 in
set_option maxRecDepth 100000 in
theorem index_any (s : K × K) (B : Nat) (l : List (K × K)) (v : Value) (w : World) (hB : B < w.heap.size) (h0 : w.cell? ⟨B, 0, none⟩ = some (.string s.1)) (h1 : w.cell? ⟨B, 1, none⟩ = some (.string s.2)) (hv : RdP w w.heap.size v l) (hl : l.length < 4611686018427387904) :
    Calls Tryz.prog 75 #[v, .func (.func 52) #[] #[.pointer (some ⟨B, 0, none⟩)]] w fun e w' =>
      ((e = .returned (.int .i64 (-1)) ∧ ∀ t (_ : t < l.length), hasB s l[t].1 = true) ∨ (∃ i, ∃ hi : i < l.length, e = .returned (.int .i64 (i : Nat)) ∧ hasB s l[i].1 = false ∧ ∀ t (_ : t < l.length), t < i → hasB s l[t].1 = true)) ∧ Below w.heap.size w w' := by
  obtain ⟨A, c, rfl, hc, hi⟩ := hv.at
  have HI := Lib.hid hi; clear hi
  clear hv
  obtain ⟨g, hg⟩ : ∃ g, g = w.heap.size := ⟨_, rfl⟩
  have HG := Lib.hid hg
  have hbg : B < g := by omega
  clear hg
  have hcl := fun (x : K × K) W (hW : Below g w W) => listcl_any s x B W ((hW.cell (p := ⟨B, 0, none⟩) hbg).trans h0) ((hW.cell (p := ⟨B, 1, none⟩) hbg).trans h1)
  have HCL := Lib.hid hcl; clear hcl h0 h1
  go_enter Tryz.func75, Tryz.ntmps75
  go_wp2_with fail
  go_loopw [8] (fun iv wr => ∃ i : Nat, i ≤ l.length ∧ iv = .int .i64 i ∧ Hid (Below g w wr) ∧ Hid (∀ t (_ : t < l.length), t < i → hasB s l[t].1 = true)) (fun iv _ => l.length - (intOf iv).toNat)
  case atStart => exact ⟨0, Nat.zero_le _, rfl, Lib.hid (Below.refl _ _), Lib.hid (fun t _ h => absurd h (Nat.not_lt_zero _))⟩
  case round =>
    obtain ⟨i, hil, rfl, HBW, HP⟩ := hrel
    by_cases hlt : i < l.length
    · obtain ⟨b, o, rfl, hbB, k0, k1⟩ := HI.out i hlt
      rw [← HBW.out.cell (p := ⟨b, _, none⟩) (by rw [HG.out]; exact hbB)] at k0
      rw [← HBW.out.cell (p := ⟨b, _, none⟩) (by rw [HG.out]; exact hbB)] at k1
      have hcc := HCL.out l[i] wr HBW.out
      cases hx : hasB s l[i].1 with
      | true =>
        rw [hx] at hcc
        have hp : ∀ t (_ : t < l.length), t < i + 1 → hasB s l[t].1 = true := fun t ht h => by
          rcases Nat.lt_or_ge t i with h2 | h2
          · exact HP.out t ht h2
          · have e : t = i := by omega
            subst e; exact hx
        have HP2 := Lib.hid hp; clear hp hx
        generalize l[i] = z at k0 k1 hcc
        obtain ⟨zx, zy⟩ := z
        simp only [Bool.not_true] at k0 k1 hcc
        have HCC := Lib.hid hcc; clear hcc
        go_wp2_with fail
        refine HCC.out.mono ?_
        rintro e w2 ⟨rfl, hb2⟩
        have HB2 := Lib.hid (HBW.out.trans (hb2.mono (by rw [HG.out]; exact HBW.out.size)))
        clear hb2 k0 k1
        go_wp2_with fail
        go_roundw
        case rel => exact ⟨i + 1, by omega, by go_num, HB2, HP2⟩
        case measure => simp [intOf]; omega
      | false =>
        rw [hx] at hcc
        have HX := Lib.hid hx; clear hx
        have HPP := Lib.hid (show hasB s l[i].1 = false from HX.out)
        generalize l[i] = z at k0 k1 hcc
        obtain ⟨zx, zy⟩ := z
        simp only [Bool.not_false] at k0 k1 hcc
        have HCC := Lib.hid hcc; clear hcc
        go_wp2_with fail
        refine HCC.out.mono ?_
        rintro e w2 ⟨rfl, hb2⟩
        have HB2 := Lib.hid (HBW.out.trans (hb2.mono (by rw [HG.out]; exact HBW.out.size)))
        clear hb2 k0 k1
        go_wp2_with fail
        go_ret
        exact ⟨.inr ⟨i, hlt, rfl, HX.out, HP.out⟩, by have h := HB2.out; rwa [HG.out] at h⟩
    · obtain rfl : i = l.length := by omega
      go_wp2_with fail
      go_ret
      exact ⟨.inl ⟨rfl, fun t ht => HP.out t ht ht⟩, by have h := HBW.out; rwa [HG.out] at h⟩

theorem flatG_set {α : Type} {enc : α → List Value} {k : Nat} (hk : ∀ x, (enc x).length = k) : ∀ (l : List α) (i j : Nat) (u : Value) (x' : α) (hi : i < l.length) (_ : j < k) (_ : (enc l[i]).set j u = enc x'), (flatG enc l).set (i * k + j) u = flatG enc (l.set i x')
  | x :: r, 0, j, u, x', _, hj, hx => by
    simp only [List.getElem_cons_zero] at hx
    simp only [Nat.zero_mul, Nat.zero_add, List.set_cons_zero]
    rw [show flatG enc (x :: r) = enc x ++ flatG enc r by simp [flatG], show flatG enc (x' :: r) = enc x' ++ flatG enc r by simp [flatG], List.set_append_left _ _ (by rw [hk]; exact hj), hx]
  | x :: r, i + 1, j, u, x', hi, hj, hx => by
    have ih := flatG_set hk r i j u x' (by simpa using hi) hj (by simpa using hx)
    simp only [List.set_cons_succ]
    rw [show flatG enc (x :: r) = enc x ++ flatG enc r by simp [flatG], show flatG enc (x :: r.set i x') = enc x ++ flatG enc (r.set i x') by simp [flatG], ← ih, List.set_append_right _ _ (by rw [hk, Nat.add_mul]; omega)]
    congr 2
    rw [hk, Nat.add_mul]; omega
set_option maxRecDepth 100000 in
theorem Own.setAt {α : Type} {enc : α → List Value} {k : Nat} {e : TypeId} {w : World} {base g m c : Nat} {l : List α} (hk : ∀ x, (enc x).length = k) (h : Own enc k e w base (.slice (some ⟨g, 0, none⟩) m c) l) (i j : Nat) (u : Value) (x' : α) (hi : i < l.length) (hj : j < k) (hx : (enc l[i]).set j u = enc x') :
    Own enc k e (w.setCell ⟨g, i * k + j, none⟩ u) base (.slice (some ⟨g, 0, none⟩) m c) (l.set i x') := by
  refine ⟨by rw [flatG_length hk], ?_⟩
  rcases h.2 with ⟨h2, _⟩ | ⟨g2, cap, cur, hv, hb, hh, h1, h2, h3, h4⟩
  · cases h2
  · injection hv with e1 e2 e3
    injection e1 with e1
    injection e1 with e1
    subst e1 e2 e3
    refine .inr ⟨g, c, cur.set! (i * k + j) u, by simp, hb, ?_, by simpa using h1, h2, by simpa using h3, ?_⟩
    · simp [World.setCell, Array.getElem?_modify, hh]
    · rw [List.length_set, ← flatG_set hk l i j u x' hi hj hx, ← h4]
      simp [List.take_set]
theorem Own.stand {α : Type} {enc : α → List Value} {k : Nat} {e : TypeId} {w : World} {base g m c : Nat} {l : List α} (h : Own enc k e w base (.slice (some ⟨g, 0, none⟩) m c) l) (o : Nat) : w.frozen? ⟨g, o, none⟩ = false := by
  rcases h.2 with ⟨h2, _⟩ | ⟨g2, cap, cur, hv, hb, hh, h1, h2, h3, h4⟩
  · cases h2
  · injection hv with e1 e2 e3
    injection e1 with e1
    injection e1 with e1
    subst e1
    simp [World.frozen?, hh]

theorem filter_take_succ {α : Type} (p : α → Bool) (l : List α) (j : Nat) (h : j < l.length) : (l.take (j + 1)).filter p = (l.take j).filter p ++ (if p l[j] = true then [l[j]] else []) := by
  rw [List.take_succ_eq_append_getElem h, List.filter_append]
  congr 1
  by_cases hp : p l[j] = true
  · simp [hp]
  · simp [hp]

set_option maxHeartbeats 8000000 in
set_option maxRecDepth 100000 in
theorem deleteFunc_any (s : K × K) (B base : Nat) (l : List (K × K)) (v : Value) (w : World) (hB : B < base) (h0 : w.cell? ⟨B, 0, none⟩ = some (.string s.1)) (h1 : w.cell? ⟨B, 1, none⟩ = some (.string s.2)) (ho : OwnP w base v l) (hbs : base ≤ w.heap.size) (hl : l.length < 4611686018427387904) :
    Calls Tryz.prog 50 #[v, .func (.func 52) #[] #[.pointer (some ⟨B, 0, none⟩)]] w fun e w' =>
      ∃ A c, e = .returned (.slice A (l.filter fun x => hasB s x.1).length c) ∧ OwnP w' base (.slice A (l.filter fun x => hasB s x.1).length c) (l.filter fun x => hasB s x.1) ∧ Below base w w' := by
  have hix := index_any s B l v w (by omega) h0 h1 (ho.rd cellsS_len) hl
  have hcl := fun (x : K × K) W (hW : Below base w W) => listcl_any s x B W ((hW.cell (p := ⟨B, 0, none⟩) hB).trans h0) ((hW.cell (p := ⟨B, 1, none⟩) hB).trans h1)
  have HCL := Lib.hid hcl; clear hcl h0 h1
  have HIX := Lib.hid hix; clear hix
  have HO := Lib.hid ho
  obtain ⟨A, c, rfl, hlc⟩ : ∃ A c, v = .slice A l.length c ∧ l.length ≤ c := by
    obtain ⟨A, c, e1, e2, _⟩ := ho.rd cellsS_len
    exact ⟨A, c, e1, e2⟩
  have hrow := ho.row
  clear ho
  go_enter Tryz.func50, Tryz.ntmps50
  go_wp2_with fail
  refine HIX.out.mono ?_
  rintro e w1 ⟨⟨rfl, hall⟩ | ⟨i, hi, rfl, hxi, hlo⟩, hb1⟩
  · have hfl : (l.filter fun x => hasB s x.1) = l := List.filter_eq_self.2 fun x hx => by
      obtain ⟨t, ht, rfl⟩ := List.getElem_of_mem hx
      exact hall t ht
    have HFL := Lib.hid hfl; clear hfl hall
    have HO1 := Lib.hid (HO.out.below hb1 (Nat.le_refl _))
    have HB1 := Lib.hid (hb1.mono hbs); clear hb1
    go_wp2_with fail
    go_ret
    rw [HFL.out]
    exact ⟨A, c, rfl, HO1.out, HB1.out⟩
  · obtain ⟨g, cap, cur, hv, hbg, hg, hcc, hcm, hcl, hct⟩ := hrow.resolve_left (fun h => by rw [h.2] at hi; simp at hi)
    injection hv with e1 _ e3
    subst e1 e3
    have hft : (l.take (i + 1)).filter (fun x => hasB s x.1) = l.take i := by
      rw [filter_take_succ _ l i hi, hxi]
      simp only [Bool.false_eq_true, if_false, List.append_nil]
      exact List.filter_eq_self.2 fun x hx => by
        rw [List.mem_take_iff_getElem] at hx
        obtain ⟨t, ht, rfl⟩ := hx
        exact hlo t (by omega) (by omega)
    have HO1 := Lib.hid (HO.out.below hb1 (Nat.le_refl _))
    have HB1 := Lib.hid (hb1.mono hbs)
    have hi1 : (i : Int) + 1 ≤ (l.length : Int) := by omega
    have hw1 : IntKind.i64.wrap ((i : Int) + 1) = ((i + 1 : Nat) : Int) := by rw [wrap_small _ (by omega) (by omega)]; omega
    have hine : ((i : Int) == -1) = false := by simp
    have HFT := Lib.hid hft; clear hft
    clear hb1 hxi hlo hg hcl hct cur HIX HO hrow hcc
    go_wp2_with fail
    go_loopw [5, 6] (fun iv jv wr => ∃ (a j : Nat) (R : List (K × K)), a < j ∧ j ≤ l.length ∧ iv = .int .i64 a ∧ jv = .int .i64 j ∧ Hid (R.length = l.length) ∧ Hid (OwnP wr base (.slice (some ⟨g, 0, none⟩) l.length c) R) ∧ Hid (R.take a = (l.take j).filter (fun x => hasB s x.1)) ∧ Hid (∀ t (_ : t < l.length), j ≤ t → R[t]? = l[t]?) ∧ Hid (Below base w wr)) (fun _ jv _ => l.length - (intOf jv).toNat)
    case atStart => exact ⟨i, i + 1, l, by omega, by omega, rfl, by go_num, Lib.hid rfl, HO1, Lib.hid HFT.out.symm, Lib.hid (fun _ _ _ => rfl), HB1⟩
    case round =>
      obtain ⟨a, j, R, haj, hjl, rfl, rfl, HRL, HR, HT, HD, HB⟩ := hrel
      have hRl := HRL.out
      have hbw : base ≤ wr.heap.size := Nat.le_trans hbs HB.out.size
      clear hw1 hine hi1 HFT HO1 HB1
      by_cases hlt : j < l.length
      · have hRj : R[j]? = some l[j] := by rw [HD.out j hlt (Nat.le_refl _), List.getElem?_eq_getElem hlt]
        obtain ⟨hj2, hj3⟩ := List.getElem?_eq_some_iff.1 hRj
        obtain ⟨A2, c2, ev, _, hcells⟩ := RdP.at (HR.out.rd cellsS_len)
        obtain ⟨b2, o2, eA, _, k0, k1⟩ := hcells j hj2
        injection ev with ev1 ev2 ev3
        rw [← ev1] at eA
        injection eA with eA
        injection eA with eb eo ep
        subst eb eo
        clear ev1 ev2 ev3 ep
        rw [hj3] at k0 k1
        clear hcells hRj
        simp only [Nat.zero_add] at k0 k1
        have hcc := HCL.out l[j] (wr.alloc (.cells #[.string l[j].1, .string l[j].2] 69)) (HB.out.alloc hbw _)
        have hfs := filter_take_succ (fun x : K × K => hasB s x.1) l j hlt
        have hng : wr.heap.size ≠ g := by have := (HR.out.low (i := g) rfl).2; omega
        have hD2 : ∀ t (_ : t < l.length), j + 1 ≤ t → R[t]? = l[t]? := fun t ht h => HD.out t ht (by omega)
        cases hx : hasB s l[j].1 with
        | true =>
          rw [hx] at hcc hfs
          have hset : ∀ W, OwnP W base (.slice (some ⟨g, 0, none⟩) l.length c) R → OwnP ((W.setCell ⟨g, a * 2, none⟩ (.string l[j].1)).setCell ⟨g, a * 2 + 1, none⟩ (.string l[j].2)) base (.slice (some ⟨g, 0, none⟩) l.length c) (R.set a l[j]) := fun W hW => by
            have ha : a < R.length := by omega
            have h1 := hW.setAt cellsS_len a 0 (.string l[j].1) (l[j].1, (R[a]'ha).2) ha (by omega) rfl
            have h2 := h1.setAt cellsS_len a 1 (.string l[j].2) l[j] (by simpa using ha) (by omega) (by rw [List.getElem_set_self]; rfl)
            rw [List.set_set] at h2
            exact h2
          have hcell2 : ∀ W, OwnP W base (.slice (some ⟨g, 0, none⟩) l.length c) R → (∃ u, W.cell? ⟨g, a * 2, none⟩ = some u) ∧ (∃ u, (W.setCell ⟨g, a * 2, none⟩ (.string l[j].1)).cell? ⟨g, a * 2 + 1, none⟩ = some u) := fun W hW => by
            have ha : a < R.length := by omega
            obtain ⟨A3, c3, ev3, _, hc3⟩ := RdP.at (hW.rd cellsS_len)
            obtain ⟨b3, o3, eA3, _, m0, m1⟩ := hc3 a ha
            injection ev3 with ev31 ev32 ev33
            rw [← ev31] at eA3
            injection eA3 with eA3
            injection eA3 with eb3 eo3 _
            subst eb3 eo3
            simp only [Nat.zero_add] at m0 m1
            exact ⟨⟨_, m0⟩, ⟨_, (World.cell?_setCell_other W ⟨g, a * 2, none⟩ ⟨g, a * 2 + 1, none⟩ _ (by simp)).trans m1⟩⟩
          have hT2 : (R.set a l[j]).take (a + 1) = (l.take (j + 1)).filter (fun x => hasB s x.1) := by
            rw [hfs, ← HT.out, List.take_add_one, List.getElem?_set_self (by omega), List.take_set_of_le (Nat.le_refl _)]
            simp
          have hD3 : ∀ t (_ : t < l.length), j + 1 ≤ t → (R.set a l[j])[t]? = l[t]? := fun t ht h => by rw [List.getElem?_set_ne (by omega)]; exact hD2 t ht h
          have hRl2 : (R.set a l[j]).length = l.length := by rw [List.length_set]; exact hRl
          generalize R.set a l[j] = R2 at hset hT2 hD3 hRl2
          have HRL2 := Lib.hid hRl2; clear hRl2 hRl
          clear hx hfs hj3 hj2 hD2
          generalize l[j] = z at k0 k1 hcc hset hcell2
          obtain ⟨zx, zy⟩ := z
          simp only [Bool.not_true] at k0 k1 hcc hset hcell2
          have HCC := Lib.hid hcc; clear hcc
          have HSET := Lib.hid hset; clear hset
          have HC2 := Lib.hid hcell2; clear hcell2
          have HT2 := Lib.hid hT2; clear hT2
          have HD3 := Lib.hid hD3; clear hD3
          have hj5 : (j : Int) < (l.length : Int) := by omega
          go_wp2_with fail
          refine HCC.out.mono ?_
          rintro e w2 ⟨rfl, hb2⟩
          have hR2 : OwnP w2 base (.slice (some ⟨g, 0, none⟩) l.length c) R := (HR.out.alloc _).below hb2 (Nat.le_refl _)
          have hv2 : Whole w2 wr.heap.size 69 [.string zx, .string zy] := (Whole.fresh wr 69 [.string zx, .string zy]).below hb2 (by simp)
          have hBw2 : Below base w w2 := (HB.out.alloc hbw _).trans (hb2.mono (by simp; omega))
          obtain ⟨⟨u0, m0⟩, ⟨u1, m1⟩⟩ := HC2.out w2 hR2
          have z0 := hR2.stand (a * 2)
          have z1 : (w2.setCell ⟨g, a * 2, none⟩ (.string zx)).frozen? ⟨g, a * 2 + 1, none⟩ = false := by rw [World.frozen?_setCell]; exact hR2.stand (a * 2 + 1)
          have n0 := hv2.cell 0 _ rfl
          have n1 := hv2.cell 1 _ rfl
          have HR3 := Lib.hid (HSET.out w2 hR2)
          have HB3 := Lib.hid ((hBw2.setCell (p := ⟨g, a * 2, none⟩) hbg (.string zx)).setCell (p := ⟨g, a * 2 + 1, none⟩) hbg (.string zy))
          have ha5 : (a : Int) < (l.length : Int) := by omega
          clear hb2 hR2 hv2 hBw2 k0 k1 hng
          go_wp2_with fail
          go_roundw
          case rel => exact ⟨a + 1, j + 1, R2, by omega, by omega, by go_num, by go_num, HRL2, HR3, HT2, HD3, HB3⟩
          case measure => simp [intOf]; omega
        | false =>
          rw [hx] at hcc hfs
          simp only [Bool.false_eq_true, if_false, List.append_nil] at hfs
          have HT2 := Lib.hid (show R.take a = (l.take (j + 1)).filter (fun x => hasB s x.1) by rw [hfs]; exact HT.out)
          have HD3 := Lib.hid hD2; clear hD2 hfs hx hj3 hj2 hRl
          generalize l[j] = z at k0 k1 hcc
          obtain ⟨zx, zy⟩ := z
          simp only [Bool.not_false] at k0 k1 hcc
          have HCC := Lib.hid hcc; clear hcc
          have hj5 : (j : Int) < (l.length : Int) := by omega
          go_wp2_with fail
          refine HCC.out.mono ?_
          rintro e w2 ⟨rfl, hb2⟩
          have HR3 := Lib.hid (show OwnP w2 base (.slice (some ⟨g, 0, none⟩) l.length c) R from (HR.out.alloc _).below hb2 (Nat.le_refl _))
          have HB3 := Lib.hid (show Below base w w2 from (HB.out.alloc hbw _).trans (hb2.mono (by simp; omega)))
          clear hb2 k0 k1 hng
          go_wp2_with fail
          go_roundw
          case rel => exact ⟨a, j + 1, R, by omega, by omega, rfl, by go_num, HRL, HR3, HT2, HD3, HB3⟩
          case measure => simp [intOf]; omega
      · obtain rfl : j = l.length := by omega
        rw [List.take_length] at HT
        obtain ⟨g', cap', cur, ev, _, hg, _, hcm', hcl, hct⟩ := HR.out.row.resolve_left (fun h => by rw [h.2] at hRl; simp at hRl; omega)
        injection ev with ev1 ev2 ev3
        injection ev1 with ev1
        injection ev1 with ev1
        subst ev1 ev3
        clear ev2
        rw [hRl] at hct
        have HG := Lib.hid hg; clear hg
        have HCL2 := Lib.hid hcl; clear hcl
        have HCT := Lib.hid hct; clear hct
        have ha1 : (a : Int) ≤ (l.length : Int) := by omega
        have ha2 : (a : Int) ≤ (c : Int) := by omega
        have ha3 : ¬ c = a := by omega
        have hfl : (l.filter fun x => hasB s x.1).length = a := by rw [← HT.out, List.length_take]; omega
        have HFL := Lib.hid hfl; clear hfl
        unfold maxLen at hcm
        clear hRl
        go_wp2_with (with_reducible show wpList _ _ _ (⟨none, _, _, _, _, _⟩ :: _) _ _; go_must (refine wpList_clearP rfl _ rfl g (a * 2) cur _ _ _ rfl HG.out (fun _ => rfl) ?d1 ?_))
        case d1 => rw [HCL2.out]; omega
        intro w2 zs hz hm2
        have HZ := Lib.hid hz; clear hz
        go_wp2_with fail
        go_ret
        refine ⟨some ⟨g, 0, none⟩, c, by rw [HFL.out]; rfl, ?_, HB.out.grown hm2.out.grown hbw (fun k hk => by injection hk with hk; omega)⟩
        rw [HFL.out]
        have hown := Own.ofRow (e := 69) cellsS_len (l.filter fun x => hasB s x.1) hbg hm2.out.whole (cap := c) (by rw [HFL.out]; omega) (by unfold maxLen; omega) (by rw [length_splice _ _ _ (by rw [HZ.out, HCL2.out]; omega), HCL2.out]) (by
          rw [HFL.out, take_splice_lt cur _ _ _ (Nat.le_refl _) (by rw [HCL2.out]; omega), ← HT.out, flatG_take cellsS_len, ← HCT.out, List.take_take, Nat.min_eq_left (by omega)])
        rw [HFL.out] at hown
        exact hown
end Go.Proofs.YtbifnogocmgddaaGreat
