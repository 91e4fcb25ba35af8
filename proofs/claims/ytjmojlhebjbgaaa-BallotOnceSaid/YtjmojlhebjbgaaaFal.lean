/- An append to a slice of the call's own that says of its block: the old one or a new one. What BallotOnce keeps: rows of vows, of states, of flags, and what each ballot was told. The heap that BallotOnce keeps, told as one, and how it moves. A number as one below another; what the loops of BallotOnce say of its steps. Arguments of the ballot laws as data: ballots, vows, rows of vows, steps. The reference of ballots: Promise. The reference of ballots: Take. A slice made of n elements of k cells each: all of them the zero of their type. A region with a post of its own: what it leaves is said once, whatever order its operations come in. -/
import Derived.Test.YtjmojlhebjbgaaaFaj
import Derived.Test.YtjmojlhebjbgaaaFak
import Derived.Test.YtjmojlhebjbgaaaFaf
import Derived.Test.YtjmojlhebjbgaaaFae
import Derived.Test.YtjmojlhebjbgaaaFaa
import Derived.Test.YtjmojlhebjbgaaaFac
namespace Go.Proofs.Ytjmojlhebjbgaaa
open Go.RowKit

section
variable {α : Type} {enc : α → List Value} {k : Nat} {P : Program}
theorem run_append_new (w : World) (base : Nat) (t ty e : TypeId) (i : TypeInfo) (z : Value) (size bytes : Nat) (ht : P.underlying t = some (.slice e)) (hi : P.info? e = some i) (hz : i.zero = some z)
    (hsize : i.size = size) (hby : i.bytes = bytes) (hzs : z.cells.size = size) (hsz : 0 < size)
    (v : Value) (n : Nat) (xs : List Value) (hown : w.ownsRow base e size v n xs)
    (a : Addr) (m c : Nat) (news : List Value) (hl : news.length = m * size) (hnews : ∀ j u, news[j]? = some u → w.cell? (a.add j) = some u) (h1 : ∀ u ∈ news, u.oneCell' = true)
    (h63 : n + m ≤ maxLen) (hbytes : ((n + m) + (n + m) / 4 + 192) * bytes ≤ 281474976710656) (v' : Value) (w' : World) (hrun : (Builtin.append_ #[t, t] ty #[v, .slice (some a) m c]).run P w = .ok v' w') : NewRow w v.ownBlock v'.ownBlock := by
  subst hsize
  subst hby
  have hsmall : n + m ≤ 9223372036854775807 := by simp only [maxLen] at h63; omega
  rcases hown.2 with ⟨rfl, rfl⟩ | ⟨g, cap, cur, rfl, hbg, hg, hnc, hcm, hcs, htake⟩
  · by_cases hm : m = 0
    · subst hm
      have hn : news = [] := List.eq_nil_of_length_eq_zero (by simpa using hl)
      subst hn
      have hr : (Builtin.append_ #[t, t] ty #[.slice none 0 0, .slice (some a) 0 c]).run P w = .ok (.slice none 0 0) w := by
        simp [Builtin.append_, run_underlying ht, sizeOf, typeInfo, hi, Builtin.lenOf, Builtin.firstCells, loadCells, loadCellsFrom]
      rw [hr] at hrun
      injection hrun with h1 h2
      subst h1
      exact NewRow.refl _ _
    · have hr := run_append_nil (P := P) w t ty e i z ht hi hz a m c news hl hnews (by omega) (by omega) (by have hb := hbytes; simp only [Nat.zero_add] at hb; exact Nat.le_trans (Nat.mul_le_mul_right _ (by omega)) hb)
      rw [hr] at hrun
      injection hrun with h1 h2
      subst h1
      intro g hg
      injection hg with hg
      exact .inr (by simp only at hg; omega)
  · by_cases hroom : n + m ≤ cap
    · have hfit : n * i.size + news.length ≤ cur.size := by rw [hl, hcs, ← Nat.add_mul]; exact Nat.mul_le_mul_right _ hroom
      have hr := run_append_room (P := P) w t ty e i ht hi g n cap cur hg a m c news hl hnews h1 hroom hfit
      rw [hr] at hrun
      injection hrun with h1 h2
      subst h1
      exact fun _ h => .inl h
    · have holds : ∀ j u, xs[j]? = some u → w.cell? ((⟨g, 0, none⟩ : Addr).add j) = some u := hown.cells (g := g) rfl
      have hr := run_append_grow (P := P) w t ty e i z ht hi hz ⟨g, 0, none⟩ n cap xs hown.1 holds a m c news hl hnews (by omega) (by omega) (growslice_fits_wide (by omega) hbytes)
      rw [hr] at hrun
      injection hrun with h1 h2
      subst h1
      intro g2 hg2
      injection hg2 with hg2
      exact .inr (by simp only at hg2; omega)

/-- append to a slice of the call's own; its block is the old one or a new one -/
theorem wp_addAnyN (t e : TypeId) (bytes : Nat) (i0 : TypeInfo) (z : Value) (ht : P.underlying t = some (.slice e)) (hi : P.info? e = some i0) (hz0 : i0.zero = some z) (hz1 : i0.size = k) (hz2 : i0.bytes = bytes) (hzs : z.cells.size = k) (hk0 : 0 < k)
    (hk : ∀ x, (enc x).length = k) (hone : ∀ x, ∀ u ∈ enc x, u.oneCell' = true) {o : Oper} {a : Act} {K : Act → World → Prop} {Q : Exit → Act → World → Prop} {w : World} (s x : Operand)
    (ho : o.op = .call { callee := .builtin .append, args := #[s, x], argTypes := #[t, t] })
    (base : Nat) (v : Value) (l : List α) (hs : a.eval s = v) (hown : Own enc k e w base v l) (B : Nat) (v2 : Value) (p : List α) (hx : a.eval x = v2) (hp : Rd enc k w B v2 p)
    (h63 : l.length + p.length ≤ maxLen) (hbytes : ((l.length + p.length) + (l.length + p.length) / 4 + 192) * bytes ≤ 281474976710656) (hbase : base ≤ w.heap.size)
    (h : ∀ A' c' w', Own enc k e w' base (.slice A' (l ++ p).length c') (l ++ p) → w.grownBy w' v.ownBlock → NewRow w v.ownBlock (Value.ownBlock (.slice A' (l ++ p).length c')) → K (a.put o.dst (.slice A' (l ++ p).length c')) w') : o.wp P a w K Q := by
  obtain ⟨A, c, rfl, hc, hi2⟩ := hp
  have main : ∃ v' w', (Builtin.append_ #[t, t] o.type #[v, .slice A p.length c]).run P w = .ok v' w' ∧ w'.ownsRow base e k v' (l ++ p).length (flatG enc (l ++ p)) ∧ w.grownBy w' v.ownBlock ∧ NewRow w v.ownBlock v'.ownBlock := by
    cases A with
    | none =>
      have hp0 : p = [] := by
        cases p with
        | nil => rfl
        | cons y r =>
          obtain ⟨b, o', hA, _⟩ := hi2 0 (by simp)
          cases hA
      subst hp0
      refine ⟨v, w, ?_, by rw [List.append_nil]; exact hown, ⟨rfl, rfl, rfl, Nat.le_refl _, fun _ _ _ => rfl⟩, NewRow.refl _ _⟩
      rcases hown.2 with ⟨rfl, _⟩ | ⟨g, cap, cur, rfl, _, _, hnc, _⟩
      · simp [Builtin.append_, run_underlying ht, sizeOf, typeInfo, hi, Builtin.lenOf, Builtin.firstCells]
      · simp [Builtin.append_, run_underlying ht, sizeOf, typeInfo, hi, Builtin.lenOf, Builtin.firstCells, hnc, storeCells]
    | some ad =>
      have hcells : ∀ j u, (flatG enc p)[j]? = some u → w.cell? (ad.add j) = some u := by
        intro j u hu
        have hjl : j < p.length * k := by
          rcases Nat.lt_or_ge j (p.length * k) with h' | h'
          · exact h'
          · rw [List.getElem?_eq_none (by rw [flatG_length hk]; exact h')] at hu; cases hu
        have hil : j / k < p.length := by rw [Nat.div_lt_iff_lt_mul hk0]; exact hjl
        obtain ⟨b, o', hA, _, h1⟩ := hi2 (j / k) hil
        have hm : j % k < k := Nat.mod_lt _ hk0
        have e1 : j / k * k + j % k = j := Nat.div_add_mod' j k
        have hg := flatG_get hk p (j / k) hil (j % k) hm
        rw [e1, hu] at hg
        have := h1 (j % k) u hg.symm
        injection hA with hA
        rw [hA]
        have hadd : (⟨b, o', none⟩ : Addr).add j = ⟨b, o' + j, none⟩ := by unfold Addr.add; split <;> simp_all
        rw [hadd, ← this]
        congr 2
        omega
      obtain ⟨v', w', hrun, h2, h3, _⟩ := run_append_own_wide (P := P) w base t o.type e i0 z k bytes ht hi hz0 hz1 hz2 hzs hk0 v l.length (flatG enc l) hown ad p.length c (flatG enc p) (flatG_length hk p) hcells
        (fun u hu => by obtain ⟨y, _, hy⟩ := List.mem_flatMap.1 hu; exact hone y u hy) h63 hbytes hbase
      have h9 := run_append_new (P := P) w base t o.type e i0 z k bytes ht hi hz0 hz1 hz2 hzs hk0 v l.length (flatG enc l) hown ad p.length c (flatG enc p) (flatG_length hk p) hcells
        (fun u hu => by obtain ⟨y, _, hy⟩ := List.mem_flatMap.1 hu; exact hone y u hy) h63 hbytes v' w' hrun
      exact ⟨v', w', hrun, by rw [List.length_append, flatG_append]; exact h2, h3, h9⟩
  obtain ⟨v', w', hrun, h2, h3, h9⟩ := main
  have h4 : Own enc k e w' base v' (l ++ p) := h2
  have hv : ∃ A' c', v' = .slice A' (l ++ p).length c' := by
    rcases h4.form with ⟨hv, h0⟩ | ⟨g, cap, hv, _⟩
    · exact ⟨none, 0, by rw [h0]; exact hv⟩
    · exact ⟨_, _, hv⟩
  obtain ⟨A', c', rfl⟩ := hv
  unfold Oper.wp execOp
  simp only [ho, resolve, invoke, builtin, Sem.run_bind, Sem.run_pure, Result.andThen_ok, List.map_toArray, List.map_cons, List.map_nil, hs, hx, hrun]
  exact h A' c' w' h4 h3 h9

end
end Go.Proofs.Ytjmojlhebjbgaaa
namespace Go.Proofs.Ytjmojlhebjbgaaa
open Go.RowKit

theorem flatG_set {α : Type} {enc : α → List Value} {k : Nat} (hk : ∀ x, (enc x).length = k) : ∀ (l : List α) (i j : Nat) (u : Value) (x' : α) (hi : i < l.length), j < k → (enc l[i]).set j u = enc x' → (flatG enc l).set (i * k + j) u = flatG enc (l.set i x')
  | t :: r, 0, j, u, x', hi, hj, h => by
    simp only [List.getElem_cons_zero] at h
    rw [Nat.zero_mul, Nat.zero_add, show flatG enc (t :: r) = enc t ++ flatG enc r by simp [flatG], List.set_append_left _ _ (by rw [hk]; exact hj), h]
    simp [flatG]
  | t :: r, i + 1, j, u, x', hi, hj, h => by
    have ih := flatG_set hk r i j u x' (by simpa using hi) hj (by simpa using h)
    rw [show flatG enc (t :: r) = enc t ++ flatG enc r by simp [flatG], List.set_append_right _ _ (by rw [hk, Nat.add_mul]; omega), hk, show (i + 1) * k + j - k = i * k + j by rw [Nat.add_mul]; omega, ih]
    simp [flatG]
section
variable {α : Type} {enc : α → List Value} {k : Nat} {e : TypeId} {w w' : World} {g n : Nat} {f : Nat → α}
theorem Own.mvG {D : Nat → Prop} {base : Nat} {v : Value} {l : List α} (h : Own enc k e w base v l) (hm : Mv D w w') (hn : ∀ g, v.ownBlock = some g → ¬ D g) : Own enc k e w' base v l := by
  refine ⟨h.1, ?_⟩
  rcases h.2 with h2 | ⟨g', cap, cur, hv, hb, hh, r⟩
  · exact .inl h2
  · refine .inr ⟨g', cap, cur, hv, hb, ?_, r⟩
    have hlt : g' < w.heap.size := by
      rcases Nat.lt_or_ge g' w.heap.size with hl | hl
      · exact hl
      · rw [Array.getElem?_eq_none hl] at hh; cases hh
    rw [hm.block g' hlt (hn g' (by rw [hv]; simp [Value.ownBlock]))]
    exact hh
set_option maxRecDepth 100000 in
theorem Own.setAt {base m c : Nat} {l : List α} (hk : ∀ x, (enc x).length = k) (h : Own enc k e w base (.slice (some ⟨g, 0, none⟩) m c) l) (i j : Nat) (u : Value) (x' : α) (hi : i < l.length) (hj : j < k) (hx : (enc l[i]).set j u = enc x') :
    Own enc k e (w.setCell ⟨g, i * k + j, none⟩ u) base (.slice (some ⟨g, 0, none⟩) m c) (l.set i x') := by
  refine ⟨by rw [flatG_length hk], ?_⟩
  rcases h.2 with ⟨h2, _⟩ | ⟨g2, cap, cur, hv, hb, hh, h1, h2, h3, h4⟩
  · cases h2
  · injection hv with e1 e2 e3
    injection e1 with e1
    injection e1 with e1
    subst e1 e2 e3
    refine .inr ⟨g, c, cur.set! (i * k + j) u, by simp, hb, ?_, by simpa using h1, h2, by simpa using h3, ?_⟩
    · simp [World.setCell, Array.getElem?_modify, hh]
    · rw [List.length_set, ← flatG_set hk l i j u x' hi hj hx, ← h4]
      simp [List.take_set]
theorem Own.stand {base m c : Nat} {l : List α} (h : Own enc k e w base (.slice (some ⟨g, 0, none⟩) m c) l) (o : Nat) : w.frozen? ⟨g, o, none⟩ = false := by
  rcases h.2 with ⟨h2, _⟩ | ⟨g2, cap, cur, hv, hb, hh, h1, h2, h3, h4⟩
  · cases h2
  · injection hv with e1 e2 e3
    injection e1 with e1
    injection e1 with e1
    subst e1
    simp [World.frozen?, hh]
end

/-- a row of n elements at block g: element i is f i -/
abbrev Tab {α : Type} (enc : α → List Value) (k : Nat) (e : TypeId) (w : World) (g : Nat) (f : Nat → α) (n : Nat) : Prop := Own enc k e w g (.slice (some ⟨g, 0, none⟩) n n) ((List.range n).map f)
section
variable {α : Type} {enc : α → List Value} {k : Nat} {e : TypeId} {w w' : World} {g n : Nat} {f f' : Nat → α}
theorem Tab.cell (hk : ∀ x, (enc x).length = k) (h : Tab enc k e w g f n) {i : Nat} (hi : i < n) (j : Nat) (u : Value) (hu : (enc (f i))[j]? = some u) : w.cell? ⟨g, i * k + j, none⟩ = some u := by
  obtain ⟨A, c, hv, _, h1⟩ := Own.rd hk h
  injection hv with e1 _ _
  obtain ⟨b, o, hA, _, h2⟩ := h1 i (by simpa using hi)
  rw [← e1] at hA
  injection hA with hA
  injection hA with hA hO
  subst hA hO
  have := h2 j u (by simpa using hu)
  rwa [Nat.zero_add] at this
theorem Tab.mv {D : Nat → Prop} (h : Tab enc k e w g f n) (hm : Mv D w w') (hd : ¬ D g) : Tab enc k e w' g f n := Own.mvG h hm fun b hb => by
  have : g = b := by simpa [Value.ownBlock] using hb
  subst this; exact hd
theorem Tab.size (h : Tab enc k e w g f n) : g < w.heap.size := (Own.low h (i := g) (by simp [Value.ownBlock])).2
theorem Tab.congr (h : Tab enc k e w g f n) (hf : ∀ i, i < n → f i = f' i) : Tab enc k e w g f' n := by
  have : (List.range n).map f = (List.range n).map f' := List.map_congr_left fun i hi => hf i (List.mem_range.1 hi)
  unfold Tab at h ⊢
  rwa [this] at h
theorem range_set (f : Nat → α) (n i : Nat) (x : α) : ((List.range n).map f).set i x = (List.range n).map (fun y => if y = i then x else f y) := by
  apply List.ext_getElem
  · simp
  · intro j h1 h2
    rw [List.getElem_set]
    simp only [List.getElem_map, List.getElem_range]
    by_cases e : i = j
    · rw [if_pos e, if_pos e.symm]
    · rw [if_neg e, if_neg (fun h => e h.symm)]
/-- one cell of an element -/
theorem Tab.set (hk : ∀ x, (enc x).length = k) (h : Tab enc k e w g f n) {i : Nat} (hi : i < n) (j : Nat) (u : Value) (x : α) (hj : j < k) (hx : (enc (f i)).set j u = enc x) : Tab enc k e (w.setCell ⟨g, i * k + j, none⟩ u) g (fun y => if y = i then x else f y) n := by
  have := Own.setAt hk h i j u x (by simpa using hi) hj (by simpa using hx)
  rwa [range_set] at this
theorem Tab.again {x y : α} {i : Nat} (h : Tab enc k e w g (fun z => if z = i then x else (fun z => if z = i then y else f z) z) n) : Tab enc k e w g (fun z => if z = i then x else f z) n := h.congr fun z _ => by
  by_cases e : z = i <;> simp [e]
theorem Tab.putAt (h : Tab enc k e w g f n) {b o : Nat} (hb : g ≠ b) (u : Value) : Tab enc k e (w.setCell ⟨b, o, none⟩ u) g f n := h.mv (D := fun i => i = b) ((Mv.refl (fun i => i = b) w).setCell (p := ⟨b, o, none⟩) (fun _ => rfl) u) hb
end

/-- a vow's cells, its chests being none -/
structure Ev where
  p1 : Int
  p2 : Int
  a1 : Int
  a2 : Int
  g : Int
  e : Int
  r : Int
  A : Option Addr
  c : Nat
def encEv (x : Ev) : List Value := [.int .i64 x.p1, .int .i64 x.p2, .int .i64 x.a1, .int .i64 x.a2, .int .i64 x.g, .int .i64 x.e, .int .i64 x.r, .slice x.A 0 x.c]
theorem encEv_len (x : Ev) : (encEv x).length = 8 := rfl
def Ev.vw (x : Ev) : Vw := ⟨(x.p1, x.p2), (x.a1, x.a2), ⟨x.g, x.e, x.r, []⟩⟩
def Ev.ew (x : Ev) : Ew := ⟨x.vw, x.A, x.c⟩
theorem Ev.enc (x : Ev) : encEw x.ew = encEv x := rfl
theorem Ev.of {v : Vw} (h : v.took.chests = []) (A : Option Addr) (c : Nat) : (⟨v.prom.1, v.prom.2, v.at'.1, v.at'.2, v.took.gen, v.took.epoch, v.took.recd, A, c⟩ : Ev).vw = v := by
  obtain ⟨⟨a, b⟩, ⟨c, d⟩, ⟨e, f, g, l⟩⟩ := v
  simp only at h
  subst h
  rfl
/-- a state's cells: its number, and where its chests would lie -/
structure Es where
  t : Nat
  A : Option Addr
  c : Nat
def encEs (x : Es) : List Value := [.int .i64 (x.t : Int), .int .i64 (x.t : Int), .int .i64 0, .slice x.A 0 x.c]
theorem encEs_len (x : Es) : (encEs x).length = 4 := rfl
/-- a state as it stands in a row -/
structure Eq4 where
  g : Int
  e : Int
  r : Int
  A : Option Addr
  c : Nat
def encE4 (x : Eq4) : List Value := [.int .i64 x.g, .int .i64 x.e, .int .i64 x.r, .slice x.A 0 x.c]
theorem encE4_len (x : Eq4) : (encE4 x).length = 4 := rfl
def encV1 (v : Value) : List Value := [v]
theorem encV1_len (v : Value) : (encV1 v).length = 1 := rfl
def encBo (b : Bool) : List Value := [.bool b]
theorem encBo_len (b : Bool) : (encBo b).length = 1 := rfl
theorem info_sta : (Try.prog.info? 29).map (fun i => (i.zero, i.size, i.bytes)) = some (some (.agg #[.int .i64 0, .int .i64 0, .int .i64 0, .slice none 0 0]), 4, 48) := by kernel_rfl
theorem info_bo : (Try.prog.info? 4).map (fun i => (i.zero, i.size, i.bytes)) = some (some (.bool false), 1, 1) := by kernel_rfl
theorem info_bs : (Try.prog.info? 54).map (fun i => (i.zero, i.size, i.bytes)) = some (some (.slice none 0 0), 1, 24) := by kernel_rfl
theorem info_vs : (Try.prog.info? 37).map (fun i => (i.zero, i.size, i.bytes)) = some (some (.slice none 0 0), 1, 24) := by kernel_rfl

section
variable {w : World} {g n : Nat}
/-- a vow, written whole -/
theorem Tab.put8 {f : Nat → Ev} (h : Tab encEv 8 31 w g f n) {i : Nat} (hi : i < n) (z : Ev) :
    Tab encEv 8 31 ((((((((w.setCell ⟨g, i * 8, none⟩ (.int .i64 z.p1)).setCell ⟨g, i * 8 + 1, none⟩ (.int .i64 z.p2)).setCell ⟨g, i * 8 + 2, none⟩ (.int .i64 z.a1)).setCell ⟨g, i * 8 + 3, none⟩ (.int .i64 z.a2)).setCell ⟨g, i * 8 + 4, none⟩ (.int .i64 z.g)).setCell ⟨g, i * 8 + 5, none⟩ (.int .i64 z.e)).setCell ⟨g, i * 8 + 6, none⟩ (.int .i64 z.r)).setCell ⟨g, i * 8 + 7, none⟩ (.slice z.A 0 z.c)) g (fun y => if y = i then z else f y) n := by
  have h0 := Tab.set encEv_len h hi 0 (.int .i64 z.p1) { f i with p1 := z.p1 } (by decide) rfl
  have h1 := (Tab.set encEv_len h0 hi 1 (.int .i64 z.p2) { f i with p1 := z.p1, p2 := z.p2 } (by decide) (by simp [encEv])).again
  have h2 := (Tab.set encEv_len h1 hi 2 (.int .i64 z.a1) { f i with p1 := z.p1, p2 := z.p2, a1 := z.a1 } (by decide) (by simp [encEv])).again
  have h3 := (Tab.set encEv_len h2 hi 3 (.int .i64 z.a2) { f i with p1 := z.p1, p2 := z.p2, a1 := z.a1, a2 := z.a2 } (by decide) (by simp [encEv])).again
  have h4 := (Tab.set encEv_len h3 hi 4 (.int .i64 z.g) { f i with p1 := z.p1, p2 := z.p2, a1 := z.a1, a2 := z.a2, g := z.g } (by decide) (by simp [encEv])).again
  have h5 := (Tab.set encEv_len h4 hi 5 (.int .i64 z.e) { f i with p1 := z.p1, p2 := z.p2, a1 := z.a1, a2 := z.a2, g := z.g, e := z.e } (by decide) (by simp [encEv])).again
  have h6 := (Tab.set encEv_len h5 hi 6 (.int .i64 z.r) { f i with p1 := z.p1, p2 := z.p2, a1 := z.a1, a2 := z.a2, g := z.g, e := z.e, r := z.r } (by decide) (by simp [encEv])).again
  exact (Tab.set encEv_len h6 hi 7 (.slice z.A 0 z.c) z (by decide) (by simp [encEv])).again
theorem Tab.put4 {f : Nat → Eq4} (h : Tab encE4 4 29 w g f n) {i : Nat} (hi : i < n) (z : Eq4) :
    Tab encE4 4 29 ((((w.setCell ⟨g, i * 4, none⟩ (.int .i64 z.g)).setCell ⟨g, i * 4 + 1, none⟩ (.int .i64 z.e)).setCell ⟨g, i * 4 + 2, none⟩ (.int .i64 z.r)).setCell ⟨g, i * 4 + 3, none⟩ (.slice z.A 0 z.c)) g (fun y => if y = i then z else f y) n := by
  have h0 := Tab.set encE4_len h hi 0 (.int .i64 z.g) { f i with g := z.g } (by decide) rfl
  have h1 := (Tab.set encE4_len h0 hi 1 (.int .i64 z.e) { f i with g := z.g, e := z.e } (by decide) (by simp [encE4])).again
  have h2 := (Tab.set encE4_len h1 hi 2 (.int .i64 z.r) { f i with g := z.g, e := z.e, r := z.r } (by decide) (by simp [encE4])).again
  exact (Tab.set encE4_len h2 hi 3 (.slice z.A 0 z.c) z (by decide) (by simp [encE4])).again
end
end Go.Proofs.Ytjmojlhebjbgaaa
namespace Go.Proofs.Ytjmojlhebjbgaaa
open Go.RowKit

structure Ids where
  v : Nat
  t : Nat
  m : Nat
  a : Nat
  c : Nat
  k : Nat
  top : Nat
  ra : Nat → Nat
  rk : Nat → Nat
structure Ids.Ok (I : Ids) (b0 : Nat) : Prop where
  o : b0 ≤ I.v ∧ I.v < I.t ∧ I.t < I.m ∧ I.m < I.a ∧ I.a < I.c ∧ I.c < I.k ∧ I.k < I.top
  ra : ∀ i, i < 6 → I.a < I.ra i ∧ I.ra i < I.c
  rk : ∀ i, i < 6 → I.k < I.rk i ∧ I.rk i < I.top
  na : ∀ i j, i < 6 → j < 6 → i ≠ j → I.ra i ≠ I.ra j
  nk : ∀ i j, i < 6 → j < 6 → i ≠ j → I.rk i ≠ I.rk j
structure Hp (w : World) (I : Ids) (b0 n : Nat) (V : Nat → Ev) (T : Nat → Value) (R : Nat → List Ew) (M : Nat → Eq4) (Q K : Nat → Nat → Bool) (C : Eq4) : Prop where
  ids : I.Ok b0
  v : Tab encEv 8 31 w I.v V n
  t : Tab encV1 1 37 w I.t T 6
  r : ∀ k, k < 6 → OwnEw w I.top (T k) (R k)
  d : ∀ j k, j < 6 → k < 6 → j ≠ k → ∀ b, (T j).ownBlock = some b → (T k).ownBlock ≠ some b
  m : Tab encE4 4 29 w I.m M 6
  a : Tab encV1 1 54 w I.a (fun k => .slice (some ⟨I.ra k, 0, none⟩) n n) 6
  q : ∀ k, k < 6 → Tab encBo 1 4 w (I.ra k) (Q k) n
  k : Tab encV1 1 54 w I.k (fun k => .slice (some ⟨I.rk k, 0, none⟩) n n) 6
  x : ∀ k, k < 6 → Tab encBo 1 4 w (I.rk k) (K k) n
  c : Whole w I.c 29 (encE4 C)
  top : I.top ≤ w.heap.size
variable {w w' : World} {I : Ids} {b0 n : Nat} {V V' : Nat → Ev} {T : Nat → Value} {R : Nat → List Ew} {M M' : Nat → Eq4} {Q K Q' K' : Nat → Nat → Bool} {C C' : Eq4}
theorem Hp.form (H : Hp w I b0 n V T R M Q K C) {k : Nat} (hk : k < 6) : ∃ A c, T k = .slice A (R k).length c := by
  rcases Own.form (H.r k hk) with ⟨h1, h2⟩ | ⟨g, cap, h1, _⟩
  · exact ⟨none, 0, by rw [h1, h2]; rfl⟩
  · exact ⟨_, _, h1⟩
theorem Hp.below (H : Hp w I b0 n V T R M Q K C) (hb : Below w.heap.size w w') : Hp w' I b0 n V T R M Q K C := by
  have hm : Mv (fun _ => False) w w' := Mv.of_new hb _
  exact ⟨H.ids, H.v.mv hm id, H.t.mv hm id, fun k hk => (H.r k hk).mvG hm (fun _ _ => id), H.d, H.m.mv hm id, H.a.mv hm id, fun k hk => (H.q k hk).mv hm id, H.k.mv hm id, fun k hk => (H.x k hk).mv hm id, hm.whole H.c id, Nat.le_trans H.top hb.size⟩
theorem Hp.setV (H : Hp w I b0 n V T R M Q K C) (hm : Mv (fun b => b = I.v) w w') (hv : Tab encEv 8 31 w' I.v V' n) : Hp w' I b0 n V' T R M Q K C := by
  have o := H.ids.o
  have hra := H.ids.ra
  have hrk := H.ids.rk
  exact ⟨H.ids, hv, H.t.mv hm (by show ¬ I.t = I.v; omega), fun k hk => (H.r k hk).mvG hm (fun g hg e => by have := (Own.low (H.r k hk) hg).1; have e : g = I.v := e; omega), H.d, H.m.mv hm (by show ¬ I.m = I.v; omega), H.a.mv hm (by show ¬ I.a = I.v; omega), fun k hk => (H.q k hk).mv hm (by show ¬ I.ra k = I.v; have := hra k hk; omega), H.k.mv hm (by show ¬ I.k = I.v; omega), fun k hk => (H.x k hk).mv hm (by show ¬ I.rk k = I.v; have := hrk k hk; omega), hm.whole H.c (by show ¬ I.c = I.v; omega), Nat.le_trans H.top hm.size⟩
theorem Hp.setM (H : Hp w I b0 n V T R M Q K C) (hm : Mv (fun b => b = I.m) w w') (hv : Tab encE4 4 29 w' I.m M' 6) : Hp w' I b0 n V T R M' Q K C := by
  have o := H.ids.o
  have hra := H.ids.ra
  have hrk := H.ids.rk
  exact ⟨H.ids, H.v.mv hm (by show ¬ I.v = I.m; omega), H.t.mv hm (by show ¬ I.t = I.m; omega), fun k hk => (H.r k hk).mvG hm (fun g hg e => by have := (Own.low (H.r k hk) hg).1; have e : g = I.m := e; omega), H.d, hv, H.a.mv hm (by show ¬ I.a = I.m; omega), fun k hk => (H.q k hk).mv hm (by show ¬ I.ra k = I.m; have := hra k hk; omega), H.k.mv hm (by show ¬ I.k = I.m; omega), fun k hk => (H.x k hk).mv hm (by show ¬ I.rk k = I.m; have := hrk k hk; omega), hm.whole H.c (by show ¬ I.c = I.m; omega), Nat.le_trans H.top hm.size⟩
theorem Hp.setC (H : Hp w I b0 n V T R M Q K C) (hm : Mv (fun b => b = I.c) w w') (hv : Whole w' I.c 29 (encE4 C')) : Hp w' I b0 n V T R M Q K C' := by
  have o := H.ids.o
  have hra := H.ids.ra
  have hrk := H.ids.rk
  exact ⟨H.ids, H.v.mv hm (by show ¬ I.v = I.c; omega), H.t.mv hm (by show ¬ I.t = I.c; omega), fun k hk => (H.r k hk).mvG hm (fun g hg e => by have := (Own.low (H.r k hk) hg).1; have e : g = I.c := e; omega), H.d, H.m.mv hm (by show ¬ I.m = I.c; omega), H.a.mv hm (by show ¬ I.a = I.c; omega), fun k hk => (H.q k hk).mv hm (by show ¬ I.ra k = I.c; have := hra k hk; omega), H.k.mv hm (by show ¬ I.k = I.c; omega), fun k hk => (H.x k hk).mv hm (by show ¬ I.rk k = I.c; have := hrk k hk; omega), hv, Nat.le_trans H.top hm.size⟩
theorem Hp.setQ (H : Hp w I b0 n V T R M Q K C) {k0 : Nat} (hk0 : k0 < 6) {f : Nat → Bool} (hm : Mv (fun b => b = I.ra k0) w w') (hv : Tab encBo 1 4 w' (I.ra k0) f n) : Hp w' I b0 n V T R M (fun k => if k = k0 then f else Q k) K C := by
  have o := H.ids.o
  have hra := H.ids.ra
  have hrk := H.ids.rk
  have h0 := H.ids.ra k0 hk0
  exact ⟨H.ids, H.v.mv hm (by show ¬ I.v = I.ra k0; omega), H.t.mv hm (by show ¬ I.t = I.ra k0; omega), fun k hk => (H.r k hk).mvG hm (fun g hg e => by have := (Own.low (H.r k hk) hg).1; have e : g = I.ra k0 := e; omega), H.d, H.m.mv hm (by show ¬ I.m = I.ra k0; omega), H.a.mv hm (by show ¬ I.a = I.ra k0; omega), fun k hk => by
    by_cases e : k = k0
    · subst e; simp only [if_true]; exact hv
    · simp only [if_neg e]; exact (H.q k hk).mv hm (H.ids.na k k0 hk hk0 e), H.k.mv hm (by show ¬ I.k = I.ra k0; omega), fun k hk => (H.x k hk).mv hm (by show ¬ I.rk k = I.ra k0; have := hrk k hk; omega), hm.whole H.c (by show ¬ I.c = I.ra k0; omega), Nat.le_trans H.top hm.size⟩
theorem Hp.setK (H : Hp w I b0 n V T R M Q K C) {k0 : Nat} (hk0 : k0 < 6) {f : Nat → Bool} (hm : Mv (fun b => b = I.rk k0) w w') (hv : Tab encBo 1 4 w' (I.rk k0) f n) : Hp w' I b0 n V T R M Q (fun k => if k = k0 then f else K k) C := by
  have o := H.ids.o
  have hra := H.ids.ra
  have hrk := H.ids.rk
  have h0 := H.ids.rk k0 hk0
  exact ⟨H.ids, H.v.mv hm (by show ¬ I.v = I.rk k0; omega), H.t.mv hm (by show ¬ I.t = I.rk k0; omega), fun k hk => (H.r k hk).mvG hm (fun g hg e => by have := (Own.low (H.r k hk) hg).1; have e : g = I.rk k0 := e; omega), H.d, H.m.mv hm (by show ¬ I.m = I.rk k0; omega), H.a.mv hm (by show ¬ I.a = I.rk k0; omega), fun k hk => (H.q k hk).mv hm (by show ¬ I.ra k = I.rk k0; have := hra k hk; omega), H.k.mv hm (by show ¬ I.k = I.rk k0; omega), fun k hk => by
    by_cases e : k = k0
    · subst e; simp only [if_true]; exact hv
    · simp only [if_neg e]; exact (H.x k hk).mv hm (H.ids.nk k k0 hk hk0 e), hm.whole H.c (by show ¬ I.c = I.rk k0; omega), Nat.le_trans H.top hm.size⟩
/-- a row of vows that has grown, and been put into its place -/
theorem Hp.setT (H : Hp w I b0 n V T R M Q K C) {k0 : Nat} (hk0 : k0 < 6) {T0 : Value} {R0 : List Ew} (hm : Mv (fun b => b = I.t ∨ (T k0).ownBlock = some b) w w') (ht : Tab encV1 1 37 w' I.t (fun k => if k = k0 then T0 else T k) 6) (hr : OwnEw w' I.top T0 R0) (hn : NewRow w (T k0).ownBlock T0.ownBlock) :
    Hp w' I b0 n V (fun k => if k = k0 then T0 else T k) (fun k => if k = k0 then R0 else R k) M Q K C := by
  have o := H.ids.o
  have hra := H.ids.ra
  have hrk := H.ids.rk
  have low := fun b (hb : (T k0).ownBlock = some b) => Own.low (H.r k0 hk0) hb
  have dn : ∀ b, b < I.top → b ≠ I.t → ¬ (b = I.t ∨ (T k0).ownBlock = some b) := fun b h1 h2 h => by
    rcases h with h | h
    · exact h2 h
    · have := (low b h).1; omega
  refine ⟨H.ids, H.v.mv hm (dn _ (by omega) (by omega)), ht, fun k hk => ?_, fun j k hj hk hjk b hb => ?_, H.m.mv hm (dn _ (by omega) (by omega)), H.a.mv hm (dn _ (by omega) (by omega)), fun k hk => (H.q k hk).mv hm (dn _ (by have := hra k hk; omega) (by have := hra k hk; omega)), H.k.mv hm (dn _ (by omega) (by omega)), fun k hk => (H.x k hk).mv hm (dn _ (by have := hrk k hk; omega) (by have := hrk k hk; omega)), hm.whole H.c (dn _ (by omega) (by omega)), Nat.le_trans H.top hm.size⟩
  · by_cases e : k = k0
    · subst e; simp only [if_true]; exact hr
    · simp only [if_neg e]
      refine (H.r k hk).mvG hm fun g hg h => ?_
      rcases h with h | h
      · have := (Own.low (H.r k hk) hg).1
        have h : g = I.t := h
        omega
      · exact H.d k0 k hk0 hk (fun x => e x.symm) g h hg
  · by_cases e : j = k0
    · subst e
      simp only [if_true] at hb
      rw [if_neg (fun x => hjk x.symm)]
      intro h
      rcases hn b hb with h2 | h2
      · exact H.d j k hj hk hjk b h2 h
      · have := (Own.low (H.r k hk) h).2; omega
    · simp only [if_neg e] at hb
      by_cases e2 : k = k0
      · subst e2
        simp only [if_true]
        intro h
        rcases hn b h with h2 | h2
        · exact H.d j k hj hk hjk b hb h2
        · have := (Own.low (H.r j hj) hb).2; omega
      · simp only [if_neg e2]
        exact H.d j k hj hk hjk b hb
/-- what the heap says of the councils -/
structure Lk (s : Px) (n : Nat) (V : Nat → Ev) (R : Nat → List Ew) (M : Nat → Eq4) (Q K : Nat → Nat → Bool) : Prop where
  v : ∀ c, c < n → (V c).vw = vowOf (s.p c) (s.a c) (s.t c)
  r : ∀ k, k < 6 → (R k).map (·.x) = toldOf (k + 1) (s.told k)
  m : ∀ k, k < 6 → (M k).g = (s.mine k : Int) ∧ (M k).e = (s.mine k : Int) ∧ (M k).r = 0
  q : ∀ k, k < 6 → ∀ c, c < n → Q k c = s.asked k c
  x : ∀ k, k < 6 → ∀ c, c < n → K k c = s.took k c
theorem toldOf_none {p : Nat} {l : List (Nat × Nat)} {x : Vw} (h : x ∈ toldOf p l) : x.took.chests = [] := by
  unfold toldOf at h
  obtain ⟨y, _, rfl⟩ := List.mem_map.1 h
  rfl
theorem Lk.none {s : Px} (L : Lk s n V R M Q K) {k : Nat} (hk : k < 6) {e : Ew} (he : e ∈ R k) : e.x.took.chests = [] :=
  toldOf_none (p := k + 1) (l := s.told k) (by rw [← L.r k hk]; exact List.mem_map.2 ⟨e, he, rfl⟩)
theorem Lk.len {s : Px} (L : Lk s n V R M Q K) {k : Nat} (hk : k < 6) : (R k).length = (s.told k).length := by
  have h := congrArg List.length (L.r k hk)
  rw [List.length_map, toldOf_length] at h
  exact h
theorem Lk.best {s : Px} (L : Lk s n V R M Q K) {k : Nat} (hk : k < 6) : (bestV zeroV ((R k).map (·.x))).took = staOf (bestT (s.told k)) := by
  rw [L.r k hk, best_told]
/-- a vow that is a promise's or a taking's has no chests -/
theorem vowOf_none (p a t : Nat) : (vowOf p a t).took.chests = [] := rfl
/-- no one is told more than once -/
theorem cnt_le (n : Nat) (q : Nat → Bool) : cnt n q ≤ n := by
  induction n with
  | zero => exact Nat.le_refl _
  | succ n ih => rw [cnt_succ]; split <;> omega
end Go.Proofs.Ytjmojlhebjbgaaa
namespace Go.Proofs.Ytjmojlhebjbgaaa
open Go.RowKit

set_option maxHeartbeats 2000000 in
set_option maxRecDepth 100000 in
theorem index_any (x : Int) (_hx : -9223372036854775808 ≤ x ∧ x < 9223372036854775808) (m : Nat) (hm : 0 < m ∧ m ≤ 7) (w : World) :
    Calls Try.prog 24 #[.int .i64 x, .int .i64 (m : Int)] w fun e w' => e = .returned (.int .i64 (((x % (m : Int)).toNat : Nat) : Int)) ∧ w' = w := by
  have hm0 : (0 : Int) < (m : Int) := by omega
  have hmn : ¬ (m : Int) = 0 := by omega
  have hr := Int.emod_nonneg x hmn
  have hr2 := Int.emod_lt_of_pos x hm0
  have hE : (((x % (m : Int)).toNat : Nat) : Int) = x % (m : Int) := by omega
  rw [hE]
  clear hE
  obtain ⟨r, hrr⟩ : ∃ r, r = Int.tmod x m := ⟨_, rfl⟩
  have hcase : (0 ≤ r ∧ x % (m : Int) = r) ∨ (r < 0 ∧ x % (m : Int) = r + m ∧ -7 < r) := by
    rw [hrr, Int.tmod_eq_emod]
    split
    · left; omega
    · rename_i h
      have : (m : Int).natAbs = m := by simp
      rw [this]
      right
      omega
  go_enter Try.func24, Try.ntmps24
  go_wp2_with fail
  all_goals
    go_ret
    refine ⟨?_, rfl⟩
    generalize x.tmod (m : Int) = y at *
    subst hrr
    first
      | (rw [show r + (m : Int) = x % (m : Int) by omega]; rfl)
      | (rw [show r = x % (m : Int) by omega]; rfl)
theorem make_tab {α : Type} {enc : α → List Value} {k : Nat} {e : TypeId} {w : World} {g n : Nat} {x0 : α} (h : Own enc k e w g (.slice (some ⟨g, 0, none⟩) n n) (List.replicate n x0)) : Tab enc k e w g (fun _ => x0) n := by
  have h2 : (List.range n).map (fun _ => x0) = List.replicate n x0 := by apply List.ext_getElem <;> simp
  unfold Tab
  rw [h2]
  exact h
/-- a step: what, which council, which ballot -/
structure Sp where
  what : Int
  council : Int
  ballot : Int
def encSp (s : Sp) : List Value := [.int .i64 s.what, .int .i64 s.council, .int .i64 s.ballot]
theorem encSp_len (s : Sp) : (encSp s).length = 3 := rfl
abbrev RdSp (w : World) (B : Nat) (v : Value) (l : List Sp) : Prop := Rd encSp 3 w B v l
theorem RdSp.at {w : World} {B : Nat} {v : Value} {l : List Sp} (h : RdSp w B v l) : ∃ A c, v = .slice A l.length c ∧ l.length ≤ c ∧ ∀ i (_ : i < l.length), ∃ b o, A = some ⟨b, o, none⟩ ∧ b < B ∧ w.cell? ⟨b, o + i * 3, none⟩ = some (.int .i64 l[i].what) ∧ w.cell? ⟨b, o + i * 3 + 1, none⟩ = some (.int .i64 l[i].council) ∧ w.cell? ⟨b, o + i * 3 + 2, none⟩ = some (.int .i64 l[i].ballot) := by
  obtain ⟨A, c, hv, hc, hi⟩ := h
  refine ⟨A, c, hv, hc, fun i hs => ?_⟩
  obtain ⟨b, o, hA, hB, h1⟩ := hi i hs
  exact ⟨b, o, hA, hB, h1 0 _ rfl, h1 1 _ rfl, h1 2 _ rfl⟩
def Sp.fits (s : Sp) : Prop := (-9223372036854775808 ≤ s.what ∧ s.what < 9223372036854775808) ∧ (-9223372036854775808 ≤ s.council ∧ s.council < 9223372036854775808) ∧ (-9223372036854775808 ≤ s.ballot ∧ s.ballot < 9223372036854775808)
end Go.Proofs.Ytjmojlhebjbgaaa
namespace Go.Proofs.Ytjmojlhebjbgaaa
open Go.ChangeShapes Go.WideShapes Go.ChangeAt Go.RowKit Go.Joins Go.Deep

def InI (n : Int) : Prop := -9223372036854775808 ≤ n ∧ n < 9223372036854775808
section
variable {H : Type} {enc : TypeId × Value → H} {w : World} {base : Nat} {spare : Nat → Bool} {held : Bool}
set_option maxRecDepth 100000 in
theorem bal_of_cells {fuel : Nat} {cs : List Value} {x : DataW H × List MemPlace} (h : DataW.trod enc Try.prog w base spare held fuel 23 cs = some x) : ∃ b : Bal, cs = [.int .i64 b.1, .int .i64 b.2] ∧ InI b.1 ∧ InI b.2 := by
  obtain ⟨y0, y1, n, hx, hlen, h0, h1⟩ := trod_struct2 Try.underlying23 h
  rw [show Try.prog.cellsOf 23 = 2 by kernel_rfl] at hlen
  match cs, hlen with
  | [u, v], _ =>
    have c3 : Try.prog.cellsOf 3 = 1 := by kernel_rfl
    simp [c3] at h0 h1
    obtain ⟨m, em, _, g0⟩ := DataW.trod_int Try.underlying3 h0
    obtain ⟨k, ek, _, g1⟩ := DataW.trod_int Try.underlying3 h1
    simp at em ek
    exact ⟨(m, k), by rw [em, ek], int_of_wf g0, int_of_wf g1⟩
set_option maxRecDepth 100000 in
theorem sta_of_cells {fuel : Nat} {cs : List Value} {x : DataW H × List MemPlace} (h : DataW.trod enc Try.prog w base spare held fuel 29 cs = some x) :
    ∃ (g e r : Int) (v : Value) (z0 z1 z2 : DataW H) (y : DataW H × List MemPlace) (n : Nat), cs = [.int .i64 g, .int .i64 e, .int .i64 r, v] ∧ (InI g ∧ InI e ∧ InI r) ∧ x.1 = .agg [z0, z1, z2, y.1] ∧ DataW.trod enc Try.prog w base spare held n 27 [v] = some y := by
  obtain ⟨y0, y1, y2, y3, n, hx, hlen, h0, h1, h2, h3⟩ := trod_struct4 Try.underlying29 h
  rw [show Try.prog.cellsOf 29 = 4 by kernel_rfl] at hlen
  match cs, hlen with
  | [a, b, c, v], _ =>
    have c3 : Try.prog.cellsOf 3 = 1 := by kernel_rfl
    have c4 : Try.prog.cellsOf 27 = 1 := by kernel_rfl
    simp [c3, c4] at h0 h1 h2 h3
    obtain ⟨i0, e0, _, g0⟩ := DataW.trod_int Try.underlying3 h0
    obtain ⟨i1, e1, _, g1⟩ := DataW.trod_int Try.underlying3 h1
    obtain ⟨i2, e2, _, g2⟩ := DataW.trod_int Try.underlying3 h2
    simp at e0 e1 e2
    exact ⟨i0, i1, i2, v, y0.1, y1.1, y2.1, y3, n, by rw [e0, e1, e2], ⟨int_of_wf g0, int_of_wf g1, int_of_wf g2⟩, by rw [hx], h3⟩
set_option maxRecDepth 100000 in
theorem vow_of_cells {fuel : Nat} {cs : List Value} {x : DataW H × List MemPlace} (h : DataW.trod enc Try.prog w base spare held fuel 31 cs = some x) :
    ∃ (p a : Bal) (g e r : Int) (v : Value) (d0 d1 z0 z1 z2 : DataW H) (y : DataW H × List MemPlace) (n : Nat), cs = [.int .i64 p.1, .int .i64 p.2, .int .i64 a.1, .int .i64 a.2, .int .i64 g, .int .i64 e, .int .i64 r, v] ∧
      ((InI p.1 ∧ InI p.2) ∧ (InI a.1 ∧ InI a.2) ∧ InI g ∧ InI e ∧ InI r) ∧ x.1 = .agg [d0, d1, .agg [z0, z1, z2, y.1]] ∧ DataW.trod enc Try.prog w base spare held n 27 [v] = some y := by
  obtain ⟨y0, y1, y2, n, hx, hlen, h0, h1, h2⟩ := trod_struct3 Try.underlying31 h
  rw [show Try.prog.cellsOf 31 = 8 by kernel_rfl] at hlen
  match cs, hlen with
  | [a0, a1, a2, a3, a4, a5, a6, a7], _ =>
    have c2 : Try.prog.cellsOf 23 = 2 := by kernel_rfl
    have c4 : Try.prog.cellsOf 29 = 4 := by kernel_rfl
    simp only [c2, c4] at h0 h1 h2
    obtain ⟨p, ep, gp⟩ := bal_of_cells h0
    obtain ⟨a, ea, ga⟩ := bal_of_cells h1
    obtain ⟨g, e, r, v, z0, z1, z2, y, m, es, gs, hz, hy⟩ := sta_of_cells h2
    simp at ep ea es
    refine ⟨p, a, g, e, r, v, y0.1, y1.1, z0, z1, z2, y, m, ?_, ⟨gp, ga, gs⟩, by rw [hx, hz], hy⟩
    rw [ep.1, ep.2, ea.1, ea.2, es.1, es.2.1, es.2.2.1, es.2.2.2]
set_option maxRecDepth 100000 in
theorem sp_of_cells {fuel : Nat} {cs : List Value} {x : DataW H × List MemPlace} (h : DataW.trod enc Try.prog w base spare held fuel 57 cs = some x) : ∃ s : Sp, cs = encSp s ∧ s.fits := by
  obtain ⟨y0, y1, y2, n, hx, hlen, h0, h1, h2⟩ := trod_struct3 Try.underlying57 h
  rw [show Try.prog.cellsOf 57 = 3 by kernel_rfl] at hlen
  match cs, hlen with
  | [a, b, c], _ =>
    have c3 : Try.prog.cellsOf 3 = 1 := by kernel_rfl
    simp [c3] at h0 h1 h2
    obtain ⟨i0, e0, _, g0⟩ := DataW.trod_int Try.underlying3 h0
    obtain ⟨i1, e1, _, g1⟩ := DataW.trod_int Try.underlying3 h1
    obtain ⟨i2, e2, _, g2⟩ := DataW.trod_int Try.underlying3 h2
    simp at e0 e1 e2
    exact ⟨⟨i0, i1, i2⟩, by rw [e0, e1, e2]; rfl, int_of_wf g0, int_of_wf g1, int_of_wf g2⟩
end
section
variable {H : Type} {enc : TypeId × Value → H} {W : World} {base : Nat} {v : Value} {d : DataW H} {p : List MemPlace}
set_option maxRecDepth 100000 in
theorem open_bal (hv : Value.okWide Try.prog W .any base 23 v) (h : DataW.Trod enc Try.prog W 0 (fun _ => true) true 23 v d p) : ∃ b : Bal, v = blv b := by
  obtain ⟨cs, rfl, hsz⟩ := okWide_struct Try.underlying23 hv
  obtain ⟨fuel, hf⟩ := h
  obtain ⟨b, hb, _⟩ := bal_of_cells hf
  exact ⟨b, by unfold blv; congr 1; exact Array.ext' hb⟩
/-- what is known of a vow that came in, as an element -/
def VowD (W : World) (e : Ew) (d : DataW H) : Prop := RdI W W.heap.size e.v e.x.took.chests ∧ e.x.fits ∧ ∃ d0 d1 z0 z1 z2 y, d = .agg [d0, d1, .agg [z0, z1, z2, y]] ∧ SizedI y e.x.took.chests
set_option maxRecDepth 100000 in
theorem ew_of_cells {fuel : Nat} {cs : List Value} {x : DataW H × List MemPlace} (h : DataW.trod enc Try.prog W 0 (fun _ => true) true fuel 31 cs = some x) : ∃ e : Ew, cs = encEw e ∧ VowD W e x.1 := by
  obtain ⟨p, a, g, e, r, v, d0, d1, z0, z1, z2, y, n, hc, ⟨gp, ga, gg, ge, gr⟩, hx, hy⟩ := vow_of_cells h
  obtain ⟨hs, ht⟩ := slice_of Try.underlying27 hy
  obtain ⟨l, hr, hz, _⟩ := open_intsF hs ht
  obtain ⟨A, c, rfl, hle, hi⟩ := hr
  exact ⟨⟨⟨p, a, ⟨g, e, r, l⟩⟩, A, c⟩, hc, ⟨A, c, rfl, hle, hi⟩, ⟨⟨gp.1.2, gp.2.2, ga.1.2, ga.2.2⟩, gg.2, ge.2, gr.2⟩, d0, d1, z0, z1, z2, y.1, hx, hz⟩
set_option maxRecDepth 100000 in
theorem VowD.len {e : Ew} (h : VowD W e d) (hw : ∀ n ∈ d.weights Try.prog 31, n ≤ reachBytes) : e.x.took.chests.length ≤ 17592186043904 := by
  obtain ⟨_, _, d0, d1, z0, z1, z2, y, rfl, hz⟩ := h
  refine hz.len (fun n hn => hw n ?_)
  simp only [DataW.weights, Try.underlying31, Try.underlying29, List.map_cons, List.map_nil, DataW.weightsEach, List.mem_append]
  simp only [hn, true_or, or_true]
set_option maxRecDepth 100000 in
theorem open_vow (hv : Value.okWide Try.prog W .any base 31 v) (h : DataW.Trod enc Try.prog W 0 (fun _ => true) true 31 v d p) (hw : ∀ n ∈ d.weights Try.prog 31, n ≤ reachBytes) :
    ∃ (x : Vw) (u : Value), v = vwv x u ∧ RdI W W.heap.size u x.took.chests ∧ x.fits ∧ x.took.chests.length ≤ 17592186043904 := by
  obtain ⟨cs, rfl, hsz⟩ := okWide_struct Try.underlying31 hv
  obtain ⟨fuel, hf⟩ := h
  obtain ⟨e, hc, hd⟩ := ew_of_cells hf
  exact ⟨e.x, e.v, by unfold vwv; congr 1; exact Array.ext' hc, hd.1, hd.2.1, hd.len hw⟩
set_option maxRecDepth 100000 in
theorem open_vows (hv : Value.okWide Try.prog W .any base 37 v) (h : DataW.Trod enc Try.prog W 0 (fun _ => true) true 37 v d p) (hw : ∀ n ∈ d.weights Try.prog 37, n ≤ reachBytes) :
    ∃ l : List Ew, RdEw W W.heap.size v l ∧ (∀ e ∈ l, RdI W W.heap.size e.v e.x.took.chests) ∧ l.length < 4611686018427387904 ∧ ∀ e ∈ l, e.x.took.chests.length ≤ 17592186043904 := by
  haveI : Inhabited Ew := ⟨⟨zeroV, none, 0⟩⟩
  obtain ⟨l, hr, hz⟩ := open_rowsF (by decide) encEw_len Try.underlying37 (by kernel_rfl) (VowD W) (fun _ _ _ h => ew_of_cells h) (okWide_slice Try.underlying37 hv) h
  refine ⟨l, hr, ?_⟩
  rcases hz with ⟨_, rfl⟩ | ⟨el, sp, rfl, he, hall⟩
  · simp
  · have h1 := slice_len Try.underlying37 hw
    rw [show Try.prog.bytesOf 31 = 80 by kernel_rfl] at h1
    refine ⟨fun e he => ?_, by omega, fun e he => ?_⟩ <;> obtain ⟨i, hi, rfl⟩ := List.getElem_of_mem he <;> obtain ⟨d', h2, h3⟩ := hall i hi
    · exact h3.1
    · exact h3.len (fun n hn => hw n (weights_el Try.underlying37 h2 hn))
set_option maxRecDepth 100000 in
theorem open_steps (hv : Value.okWide Try.prog W .any base 50 v) (h : DataW.Trod enc Try.prog W 0 (fun _ => true) true 50 v d p) (hw : ∀ n ∈ d.weights Try.prog 50, n ≤ reachBytes) :
    ∃ l : List Sp, RdSp W W.heap.size v l ∧ (∀ s ∈ l, s.fits) ∧ l.length < 4611686018427387904 := by
  haveI : Inhabited Sp := ⟨⟨0, 0, 0⟩⟩
  obtain ⟨l, hr, hz⟩ := open_rowsF (by decide) encSp_len Try.underlying50 (by kernel_rfl) (fun s _ => s.fits) (fun _ _ _ h => sp_of_cells h) (okWide_slice Try.underlying50 hv) h
  refine ⟨l, hr, ?_⟩
  rcases hz with ⟨_, rfl⟩ | ⟨el, sp, rfl, he, hall⟩
  · simp
  · have h1 := slice_len Try.underlying50 hw
    rw [show Try.prog.bytesOf 57 = 24 by kernel_rfl] at h1
    refine ⟨fun s hs => ?_, by omega⟩
    obtain ⟨i, hi, rfl⟩ := List.getElem_of_mem hs
    obtain ⟨d', h2, h3⟩ := hall i hi
    exact h3
end
end Go.Proofs.Ytjmojlhebjbgaaa
namespace Go.Proofs.Ytjmojlhebjbgaaa
open Go.RowKit

set_option maxHeartbeats 2000000 in
set_option maxRecDepth 100000 in
theorem rpromise_any (x : Vw) (b : Bal) (A : Option Addr) (n c : Nat) (w : World) :
    Calls Try.prog 13 #[vwv x (.slice A n c), blv b] w fun e w' => e = .returned (.tuple #[vwv (promV x b) (.slice A n c), .bool (lessB x.prom b)]) ∧ Below w.heap.size w w' := by
  obtain ⟨⟨p1, p2⟩, ⟨a1, a2⟩, ⟨g, ep, rc, ch⟩⟩ := x
  obtain ⟨b1, b2⟩ := b
  have hl := fun W => rless_any (p1, p2) (b1, b2) W
  unfold blv at hl
  simp only at hl
  have HL := Lib.hid hl; clear hl
  unfold vwv blv promV
  simp only
  generalize lessB (p1, p2) (b1, b2) = r at HL ⊢
  obtain ⟨w1, hw1⟩ : ∃ w1, w1 = w.alloc (.cells #[.int .i64 p1, .int .i64 p2, .int .i64 a1, .int .i64 a2, .int .i64 g, .int .i64 ep, .int .i64 rc, .slice A n c] 31) := ⟨_, rfl⟩
  obtain ⟨w2, hw2⟩ : ∃ w2, w2 = w1.alloc (.cells #[.int .i64 b1, .int .i64 b2] 23) := ⟨_, rfl⟩
  obtain ⟨w3, hw3⟩ : ∃ w3, w3 = w2.alloc (.cells #[.int .i64 0, .int .i64 0, .int .i64 0, .int .i64 0, .int .i64 0, .int .i64 0, .int .i64 0, .slice none 0 0] 31) := ⟨_, rfl⟩
  have hs1 : w1.heap.size = w.heap.size + 1 := by rw [hw1]; simp
  have hs2 : w2.heap.size = w.heap.size + 1 + 1 := by rw [hw2, World.size_alloc, hs1]
  have hs3 : w3.heap.size = w.heap.size + 1 + 1 + 1 := by rw [hw3, World.size_alloc, hs2]
  have hX : Whole w3 w.heap.size 31 [.int .i64 p1, .int .i64 p2, .int .i64 a1, .int .i64 a2, .int .i64 g, .int .i64 ep, .int .i64 rc, .slice A n c] := by
    rw [hw3, hw2, hw1]; exact ((Whole.fresh w _ [.int .i64 p1, .int .i64 p2, .int .i64 a1, .int .i64 a2, .int .i64 g, .int .i64 ep, .int .i64 rc, .slice A n c]).alloc _).alloc _
  have hY : Whole w3 (w.heap.size + 1) 23 [.int .i64 b1, .int .i64 b2] := by
    rw [hw3, hw2, ← hs1]; exact (Whole.fresh w1 _ [_, _]).alloc _
  have hZ : Whole w3 (w.heap.size + 1 + 1) 31 [.int .i64 0, .int .i64 0, .int .i64 0, .int .i64 0, .int .i64 0, .int .i64 0, .int .i64 0, .slice none 0 0] := by
    rw [hw3, ← hs2]; exact Whole.fresh w2 _ [.int .i64 0, .int .i64 0, .int .i64 0, .int .i64 0, .int .i64 0, .int .i64 0, .int .i64 0, .slice none 0 0]
  have hb3 : Below w.heap.size w w3 := by
    rw [hw3, hw2, hw1]; exact (((Below.refl _ w).alloc (Nat.le_refl _) _).alloc (by simp) _).alloc (by simp; omega) _
  have HX := Lib.hid hX; clear hX
  have HY := Lib.hid hY; clear hY
  have HZ := Lib.hid hZ; clear hZ
  have HB3 := Lib.hid hb3; clear hb3
  have HS3 := Lib.hid hs3; clear hs3
  go_enter Try.func13, Try.ntmps13
  go_wp2_with fail
  rw [← hw1, ← hw2, ← hw3]
  refine (HL.out w3).mono ?_
  rintro e w4 ⟨rfl, hb4⟩
  have hX4 := HX.out.below hb4 (by have := HS3.out; omega)
  have hY4 := HY.out.below hb4 (by have := HS3.out; omega)
  have hZ4 := HZ.out.below hb4 (by have := HS3.out; omega)
  have HB4 := Lib.hid (HB3.out.trans (hb4.mono (by have := HS3.out; omega)))
  clear hb4 hw1 hw2 hw3 hs1 hs2
  cases r with
  | false =>
    have x0 := hX4.cell 0 _ rfl
    have x1 := hX4.cell 1 _ rfl
    have x2 := hX4.cell 2 _ rfl
    have x3 := hX4.cell 3 _ rfl
    have x4 := hX4.cell 4 _ rfl
    have x5 := hX4.cell 5 _ rfl
    have x6 := hX4.cell 6 _ rfl
    have x7 := hX4.cell 7 _ rfl
    have z0 := hZ4.cell 0 _ rfl
    have z1 := hZ4.cell 1 _ rfl
    have z2 := hZ4.cell 2 _ rfl
    have z3 := hZ4.cell 3 _ rfl
    have z4 := hZ4.cell 4 _ rfl
    have z5 := hZ4.cell 5 _ rfl
    have z6 := hZ4.cell 6 _ rfl
    have z7 := hZ4.cell 7 _ rfl
    have f0 := hZ4.frozen 0
    have f1 := hZ4.frozen 1
    have f2 := hZ4.frozen 2
    have f3 := hZ4.frozen 3
    have f4 := hZ4.frozen 4
    have f5 := hZ4.frozen 5
    have f6 := hZ4.frozen 6
    have f7 := hZ4.frozen 7
    have HZ4 := Lib.hid hZ4
    clear hX4 hY4 hZ4
    go_wp2_with fail
    have hZ8 := ((((((((HZ4.out.put 0 (.int .i64 p1)).put 1 (.int .i64 p2)).put 2 (.int .i64 a1)).put 3 (.int .i64 a2)).put 4 (.int .i64 g)).put 5 (.int .i64 ep)).put 6 (.int .i64 rc)).put 7 (.slice A n c))
    simp only [List.set] at hZ8
    have R0 := hZ8.cell 0 _ rfl
    have R1 := hZ8.cell 1 _ rfl
    have R2 := hZ8.cell 2 _ rfl
    have R3 := hZ8.cell 3 _ rfl
    have R4 := hZ8.cell 4 _ rfl
    have R5 := hZ8.cell 5 _ rfl
    have R6 := hZ8.cell 6 _ rfl
    have R7 := hZ8.cell 7 _ rfl
    exact bodyPost_ret (v := .tuple #[.agg #[.int .i64 p1, .int .i64 p2, .int .i64 a1, .int .i64 a2, .int .i64 g, .int .i64 ep, .int .i64 rc, .slice A n c], .bool false]) (by simp [results, Try.results13, go_sem, R0, R1, R2, R3, R4, R5, R6, R7]) rfl ⟨rfl, by (repeat (refine Below.setCell ?_ (by simp; try omega) _)); exact HB4.out⟩
  | true =>
    have x0 := hX4.cell 0 _ rfl
    have x1 := hX4.cell 1 _ rfl
    have x2 := hX4.cell 2 _ rfl
    have x3 := hX4.cell 3 _ rfl
    have x4 := hX4.cell 4 _ rfl
    have x5 := hX4.cell 5 _ rfl
    have x6 := hX4.cell 6 _ rfl
    have x7 := hX4.cell 7 _ rfl
    have y0 := hY4.cell 0 _ rfl
    have y1 := hY4.cell 1 _ rfl
    have k0 := hX4.frozen 0
    have k1 := hX4.frozen 1
    have z0 := hZ4.cell 0 _ rfl
    have z1 := hZ4.cell 1 _ rfl
    have z2 := hZ4.cell 2 _ rfl
    have z3 := hZ4.cell 3 _ rfl
    have z4 := hZ4.cell 4 _ rfl
    have z5 := hZ4.cell 5 _ rfl
    have z6 := hZ4.cell 6 _ rfl
    have z7 := hZ4.cell 7 _ rfl
    have f0 := hZ4.frozen 0
    have f1 := hZ4.frozen 1
    have f2 := hZ4.frozen 2
    have f3 := hZ4.frozen 3
    have f4 := hZ4.frozen 4
    have f5 := hZ4.frozen 5
    have f6 := hZ4.frozen 6
    have f7 := hZ4.frozen 7
    have HZ4 := Lib.hid hZ4
    clear hX4 hY4 hZ4
    go_wp2_with fail
    have hZ8 := ((((((((((HZ4.out.away (p := ⟨w.heap.size, 0, none⟩) (by simp; omega) (.int .i64 b1)).away (p := ⟨w.heap.size, 1, none⟩) (by simp; omega) (.int .i64 b2)).put 0 (.int .i64 b1)).put 1 (.int .i64 b2)).put 2 (.int .i64 a1)).put 3 (.int .i64 a2)).put 4 (.int .i64 g)).put 5 (.int .i64 ep)).put 6 (.int .i64 rc)).put 7 (.slice A n c))
    simp only [List.set] at hZ8
    have R0 := hZ8.cell 0 _ rfl
    have R1 := hZ8.cell 1 _ rfl
    have R2 := hZ8.cell 2 _ rfl
    have R3 := hZ8.cell 3 _ rfl
    have R4 := hZ8.cell 4 _ rfl
    have R5 := hZ8.cell 5 _ rfl
    have R6 := hZ8.cell 6 _ rfl
    have R7 := hZ8.cell 7 _ rfl
    exact bodyPost_ret (v := .tuple #[.agg #[.int .i64 b1, .int .i64 b2, .int .i64 a1, .int .i64 a2, .int .i64 g, .int .i64 ep, .int .i64 rc, .slice A n c], .bool true]) (by simp [results, Try.results13, go_sem, R0, R1, R2, R3, R4, R5, R6, R7]) rfl ⟨rfl, by (repeat (refine Below.setCell ?_ (by simp; try omega) _)); exact HB4.out⟩
end Go.Proofs.Ytjmojlhebjbgaaa
namespace Go.Proofs.Ytjmojlhebjbgaaa
open Go.RowKit

set_option maxHeartbeats 2000000 in
set_option maxRecDepth 100000 in
theorem rtake_any (x : Vw) (b : Bal) (s : Sta) (A : Option Addr) (n c : Nat) (B : Option Addr) (m d : Nat) (w : World) :
    Calls Try.prog 15 #[vwv x (.slice A n c), blv b, sval s (.slice B m d)] w fun e w' => e = .returned (.tuple #[if lessB b x.prom = true then vwv x (.slice A n c) else vwv ⟨b, b, s⟩ (.slice B m d), .bool (!lessB b x.prom)]) ∧ Below w.heap.size w w' := by
  obtain ⟨⟨p1, p2⟩, ⟨a1, a2⟩, ⟨g, ep, rc, ch⟩⟩ := x
  obtain ⟨b1, b2⟩ := b
  obtain ⟨s1, s2, s3, sh⟩ := s
  have hl := fun W => rless_any (b1, b2) (p1, p2) W
  unfold blv at hl
  simp only at hl
  have HL := Lib.hid hl; clear hl
  unfold vwv blv sval
  simp only
  generalize lessB (b1, b2) (p1, p2) = r at HL ⊢
  obtain ⟨w1, hw1⟩ : ∃ w1, w1 = w.alloc (.cells #[.int .i64 p1, .int .i64 p2, .int .i64 a1, .int .i64 a2, .int .i64 g, .int .i64 ep, .int .i64 rc, .slice A n c] 31) := ⟨_, rfl⟩
  obtain ⟨w2, hw2⟩ : ∃ w2, w2 = w1.alloc (.cells #[.int .i64 b1, .int .i64 b2] 23) := ⟨_, rfl⟩
  obtain ⟨w3, hw3⟩ : ∃ w3, w3 = w2.alloc (.cells #[.int .i64 s1, .int .i64 s2, .int .i64 s3, .slice B m d] 29) := ⟨_, rfl⟩
  obtain ⟨w4, hw4⟩ : ∃ w4, w4 = w3.alloc (.cells #[.int .i64 0, .int .i64 0, .int .i64 0, .int .i64 0, .int .i64 0, .int .i64 0, .int .i64 0, .slice none 0 0] 31) := ⟨_, rfl⟩
  have hs1 : w1.heap.size = w.heap.size + 1 := by rw [hw1]; simp
  have hs2 : w2.heap.size = w.heap.size + 1 + 1 := by rw [hw2, World.size_alloc, hs1]
  have hs3 : w3.heap.size = w.heap.size + 1 + 1 + 1 := by rw [hw3, World.size_alloc, hs2]
  have hs4 : w4.heap.size = w.heap.size + 1 + 1 + 1 + 1 := by rw [hw4, World.size_alloc, hs3]
  have hX : Whole w4 w.heap.size 31 [.int .i64 p1, .int .i64 p2, .int .i64 a1, .int .i64 a2, .int .i64 g, .int .i64 ep, .int .i64 rc, .slice A n c] := by
    rw [hw4, hw3, hw2, hw1]; exact (((Whole.fresh w _ [.int .i64 p1, .int .i64 p2, .int .i64 a1, .int .i64 a2, .int .i64 g, .int .i64 ep, .int .i64 rc, .slice A n c]).alloc _).alloc _).alloc _
  have hY : Whole w4 (w.heap.size + 1) 23 [.int .i64 b1, .int .i64 b2] := by
    rw [hw4, hw3, hw2, ← hs1]; exact ((Whole.fresh w1 _ [_, _]).alloc _).alloc _
  have hU : Whole w4 (w.heap.size + 1 + 1) 29 [.int .i64 s1, .int .i64 s2, .int .i64 s3, .slice B m d] := by
    rw [hw4, hw3, ← hs2]; exact (Whole.fresh w2 _ [_, _, _, _]).alloc _
  have hZ : Whole w4 (w.heap.size + 1 + 1 + 1) 31 [.int .i64 0, .int .i64 0, .int .i64 0, .int .i64 0, .int .i64 0, .int .i64 0, .int .i64 0, .slice none 0 0] := by
    rw [hw4, ← hs3]; exact Whole.fresh w3 _ [.int .i64 0, .int .i64 0, .int .i64 0, .int .i64 0, .int .i64 0, .int .i64 0, .int .i64 0, .slice none 0 0]
  have hb4 : Below w.heap.size w w4 := by
    rw [hw4, hw3, hw2, hw1]; exact ((((Below.refl _ w).alloc (Nat.le_refl _) _).alloc (by simp) _).alloc (by simp; omega) _).alloc (by simp; omega) _
  have HX := Lib.hid hX; clear hX
  have HY := Lib.hid hY; clear hY
  have HU := Lib.hid hU; clear hU
  have HZ := Lib.hid hZ; clear hZ
  have HB4 := Lib.hid hb4; clear hb4
  have HS4 := Lib.hid hs4; clear hs4
  go_enter Try.func15, Try.ntmps15
  go_wp2_with fail
  rw [← hw1, ← hw2, ← hw3, ← hw4]
  refine (HL.out w4).mono ?_
  rintro e w5 ⟨rfl, hb5⟩
  have hX5 := HX.out.below hb5 (by have := HS4.out; omega)
  have hY5 := HY.out.below hb5 (by have := HS4.out; omega)
  have hU5 := HU.out.below hb5 (by have := HS4.out; omega)
  have hZ5 := HZ.out.below hb5 (by have := HS4.out; omega)
  have HB5 := Lib.hid (HB4.out.trans (hb5.mono (by have := HS4.out; omega)))
  clear hb5 hw1 hw2 hw3 hw4 hs1 hs2 hs3
  cases r with
  | true =>
    have x0 := hX5.cell 0 _ rfl
    have x1 := hX5.cell 1 _ rfl
    have x2 := hX5.cell 2 _ rfl
    have x3 := hX5.cell 3 _ rfl
    have x4 := hX5.cell 4 _ rfl
    have x5 := hX5.cell 5 _ rfl
    have x6 := hX5.cell 6 _ rfl
    have x7 := hX5.cell 7 _ rfl
    have z0 := hZ5.cell 0 _ rfl
    have z1 := hZ5.cell 1 _ rfl
    have z2 := hZ5.cell 2 _ rfl
    have z3 := hZ5.cell 3 _ rfl
    have z4 := hZ5.cell 4 _ rfl
    have z5 := hZ5.cell 5 _ rfl
    have z6 := hZ5.cell 6 _ rfl
    have z7 := hZ5.cell 7 _ rfl
    have f0 := hZ5.frozen 0
    have f1 := hZ5.frozen 1
    have f2 := hZ5.frozen 2
    have f3 := hZ5.frozen 3
    have f4 := hZ5.frozen 4
    have f5 := hZ5.frozen 5
    have f6 := hZ5.frozen 6
    have f7 := hZ5.frozen 7
    have HZ5 := Lib.hid hZ5
    clear hX5 hY5 hU5 hZ5
    go_wp2_with fail
    have hZ8 := ((((((((HZ5.out.put 0 (.int .i64 p1)).put 1 (.int .i64 p2)).put 2 (.int .i64 a1)).put 3 (.int .i64 a2)).put 4 (.int .i64 g)).put 5 (.int .i64 ep)).put 6 (.int .i64 rc)).put 7 (.slice A n c))
    simp only [List.set] at hZ8
    have R0 := hZ8.cell 0 _ rfl
    have R1 := hZ8.cell 1 _ rfl
    have R2 := hZ8.cell 2 _ rfl
    have R3 := hZ8.cell 3 _ rfl
    have R4 := hZ8.cell 4 _ rfl
    have R5 := hZ8.cell 5 _ rfl
    have R6 := hZ8.cell 6 _ rfl
    have R7 := hZ8.cell 7 _ rfl
    exact bodyPost_ret (v := .tuple #[.agg #[.int .i64 p1, .int .i64 p2, .int .i64 a1, .int .i64 a2, .int .i64 g, .int .i64 ep, .int .i64 rc, .slice A n c], .bool false]) (by simp [results, Try.results15, go_sem, R0, R1, R2, R3, R4, R5, R6, R7]) rfl ⟨rfl, by (repeat (refine Below.setCell ?_ (by simp; try omega) _)); exact HB5.out⟩
  | false =>
    have y0 := hY5.cell 0 _ rfl
    have y1 := hY5.cell 1 _ rfl
    have u0 := hU5.cell 0 _ rfl
    have u1 := hU5.cell 1 _ rfl
    have u2 := hU5.cell 2 _ rfl
    have u3 := hU5.cell 3 _ rfl
    have z0 := hZ5.cell 0 _ rfl
    have z1 := hZ5.cell 1 _ rfl
    have z2 := hZ5.cell 2 _ rfl
    have z3 := hZ5.cell 3 _ rfl
    have z4 := hZ5.cell 4 _ rfl
    have z5 := hZ5.cell 5 _ rfl
    have z6 := hZ5.cell 6 _ rfl
    have z7 := hZ5.cell 7 _ rfl
    have f0 := hZ5.frozen 0
    have f1 := hZ5.frozen 1
    have f2 := hZ5.frozen 2
    have f3 := hZ5.frozen 3
    have f4 := hZ5.frozen 4
    have f5 := hZ5.frozen 5
    have f6 := hZ5.frozen 6
    have f7 := hZ5.frozen 7
    have HZ5 := Lib.hid hZ5
    clear hX5 hY5 hU5 hZ5
    go_wp2_with fail
    have hZ8 := ((((((((HZ5.out.put 0 (.int .i64 b1)).put 1 (.int .i64 b2)).put 2 (.int .i64 b1)).put 3 (.int .i64 b2)).put 4 (.int .i64 s1)).put 5 (.int .i64 s2)).put 6 (.int .i64 s3)).put 7 (.slice B m d))
    simp only [List.set] at hZ8
    have R0 := hZ8.cell 0 _ rfl
    have R1 := hZ8.cell 1 _ rfl
    have R2 := hZ8.cell 2 _ rfl
    have R3 := hZ8.cell 3 _ rfl
    have R4 := hZ8.cell 4 _ rfl
    have R5 := hZ8.cell 5 _ rfl
    have R6 := hZ8.cell 6 _ rfl
    have R7 := hZ8.cell 7 _ rfl
    exact bodyPost_ret (v := .tuple #[.agg #[.int .i64 b1, .int .i64 b2, .int .i64 b1, .int .i64 b2, .int .i64 s1, .int .i64 s2, .int .i64 s3, .slice B m d], .bool true]) (by simp [results, Try.results15, go_sem, R0, R1, R2, R3, R4, R5, R6, R7]) rfl ⟨rfl, by (repeat (refine Below.setCell ?_ (by simp; try omega) _)); exact HB5.out⟩
end Go.Proofs.Ytjmojlhebjbgaaa
namespace Go.Proofs.Ytjmojlhebjbgaaa
open Go.RowKit

section
variable {α : Type} {enc : α → List Value} {k : Nat} {P : Program}
theorem toList_madeCells_k (x0 : α) (hk : ∀ x, (enc x).length = k) (hpos : 0 < k) (z : Array Value) (hz : z.toList = enc x0) (n : Nat) : (madeCells z (n * k)).toList = flatG enc (List.replicate n x0) := by
  have hzs : z.size = k := by rw [← hk x0, ← hz]; simp
  apply List.ext_getElem?
  intro i
  by_cases hi : i < n * k
  · have hq : i / k < n := Nat.div_lt_of_lt_mul (by rw [Nat.mul_comm]; exact hi)
    have hm : i % k < k := Nat.mod_lt _ hpos
    have e : i = i / k * k + i % k := by rw [Nat.mul_comm]; exact (Nat.div_add_mod i k).symm
    have h2 := flatG_get hk (List.replicate n x0) (i / k) (by simpa using hq) (i % k) hm
    rw [← e, List.getElem_replicate, ← hz] at h2
    rw [h2]
    have h3 : i % k < z.size := by rw [hzs]; exact hm
    have h4 : i < (madeCells z (n * k)).size := by rw [size_madeCells]; exact hi
    rw [List.getElem?_eq_getElem (by simpa using h4), List.getElem?_eq_getElem (by simpa using h3)]
    simp only [madeCells, Array.getElem_toList, Array.getElem_map, Array.getElem_range, hzs]
    rw [getElem!_pos z (i % k) h3]
  · rw [List.getElem?_eq_none (by simp [size_madeCells]; omega), List.getElem?_eq_none (by rw [flatG_length hk]; simp; omega)]
/-- the run of a make with its length alone -/
theorem run_makeK (base : Nat) (t e : TypeId) (B : Nat) (zs : List Value) (z : Value) (x0 : α) (ht : P.underlying t = some (.slice e)) (hi : (P.info? e).map (fun i => (i.zero, i.size, i.bytes)) = some (some z, k, B)) (hzc : z.cells.toList = zs) (hx : zs = enc x0)
    (hk : ∀ x, (enc x).length = k) (hpos : 0 < k) (n : Nat) (w : World) (hbytes : B * n ≤ 281474976710656) (h63 : n ≤ maxLen) (hbase : base ≤ w.heap.size) :
    ∃ w', (Instr.makeSlice t (.int .i64 (n : Int)) (.int .i64 (n : Int))).run P w = .ok (.slice (some ⟨w.heap.size, 0, none⟩) n n) w' ∧ Own enc k e w' base (.slice (some ⟨w.heap.size, 0, none⟩) n n) (List.replicate n x0) ∧ Below w.heap.size w w' := by
  obtain ⟨i, hi2, h1, h2, h3⟩ : ∃ i, P.info? e = some i ∧ i.zero = some z ∧ i.size = k ∧ i.bytes = B := by
    cases h : P.info? e with
    | none => rw [h] at hi; cases hi
    | some i =>
      rw [h] at hi
      simp only [Option.map_some, Option.some.injEq, Prod.mk.injEq] at hi
      exact ⟨i, rfl, hi.1, hi.2.1, hi.2.2⟩
  obtain ⟨w', hr, ho, hg⟩ := run_make_full (P := P) w base t e i z k ht hi2 h1 h2 .i64 .i64 n (by rw [h3]; exact hbytes) h63 hbase
  refine ⟨w', hr, ?_, (Below.refl _ w).grown hg (Nat.le_refl _) (fun _ h => by cases h)⟩
  unfold Own
  rw [toList_madeCells_k x0 hk hpos z.cells (by rw [hzc, hx]) n] at ho
  rw [List.length_replicate]
  exact ho
end
end Go.Proofs.Ytjmojlhebjbgaaa
namespace Go.Proofs.Ytjmojlhebjbgaaa
open Go.RowKit
section
variable {P : Program} {ops : Array Oper} {Q : Exit → Act → World → Prop}
theorem wp_region_mid (R : Act → Act → World → Prop) {id : Nat} {b : Bool} {a : Act} {w : World} (h1 : (Code.region id ops b).wp P (fun e a' w' => e = .normal ∧ R a a' w') a w) (h2 : ∀ a' w', R a a' w' → Q .normal a' w') : (Code.region id ops b).wp P Q a w :=
  Code.wp_mono (fun e a' w' h => by obtain ⟨rfl, h⟩ := h; exact h2 a' w' h) h1
end
end Go.Proofs.Ytjmojlhebjbgaaa
