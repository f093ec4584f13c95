/- 'numbers' of package fst. -/
import Derived.Test.YteehgcbjmdideaaDoorNum
namespace Go.Proofs.YteehgcbjmdideaaDoor
open Go.RowKit
attribute [local go_sem ↓] Go.wp_at_zero Go.wp_at_succ

theorem Tryd.info3 : (Tryd.prog.info? 3).map (fun i => (i.zero, i.size, i.bytes)) = some (some (.int .i64 0), 1, 8) := by kernel_rfl

/-- a slice of strings: what it holds -/
structure StrsAt (w : World) (b off n : Nat) (ss : List ByteArray) : Prop where
  len : ss.length = n
  cell : ∀ i, i < n → w.cell? ⟨b, off + i, none⟩ = some (.string (ss.getD i ByteArray.empty))
  size : ∀ s ∈ ss, s.size ≤ maxLen

theorem StrsAt.below {w w' : World} {b off n : Nat} {ss : List ByteArray} (h : StrsAt w b off n ss) (hb : Below w.heap.size w w') : StrsAt w' b off n ss :=
  ⟨h.len, fun i hi => bel_c hb (h.cell i hi), h.size⟩

def numsB (l : List (List UInt8)) : Option (List Int) := l.mapM numB

theorem numsB_snoc_some (l : List (List UInt8)) (x : List UInt8) (ns : List Int) (n : Int) (h : numsB l = some ns) (hx : numB x = some n) : numsB (l ++ [x]) = some (ns ++ [n]) := by
  unfold numsB at *
  simp [List.mapM_append, h, hx]

theorem numsB_none (l : List (List UInt8)) (x : List UInt8) (hx : x ∈ l) (h : numB x = none) : numsB l = none := by
  unfold numsB
  induction l with
  | nil => cases hx
  | cons y l ih =>
    rw [List.mapM_cons]
    rcases List.mem_cons.1 hx with rfl | hx
    · simp [h]
    · cases numB y with
      | none => simp
      | some n => simp [ih hx]

theorem numsB_length (l : List (List UInt8)) (ns : List Int) (h : numsB l = some ns) : ns.length = l.length := by
  unfold numsB at h
  induction l generalizing ns with
  | nil => simp at h; simp [h]
  | cons y l ih =>
    rw [List.mapM_cons] at h
    cases hy : numB y with
    | none => simp [hy] at h
    | some n =>
      cases hl : l.mapM numB with
      | none => simp [hy, hl] at h
      | some ms => simp [hy, hl] at h; subst h; simp [ih ms hl]

theorem ownsRow_base {w : World} {B e size n : Nat} {v : Value} {xs : List Value} (h : w.ownsRow B e size v n xs) : ∀ g, v.ownBlock = some g → B ≤ g := by
  intro g hg
  obtain ⟨_, h⟩ := h
  rcases h with ⟨rfl, _⟩ | ⟨g', cap, cur, rfl, hB, _⟩
  · simp [Value.ownBlock] at hg
  · simp [Value.ownBlock] at hg; omega

theorem ownsRow_ints {w : World} {B g : Nat} {v : Value} {xs : List Int} (h : w.ownsRow B g 1 v xs.length (xs.map (Value.int .i64))) : ISlice w v xs := by
  obtain ⟨_, h⟩ := h
  rcases h with ⟨rfl, h⟩ | ⟨g, cap, cur, rfl, _, hh, h1, h2, h3, h4⟩
  · exact Or.inl ⟨none, 0, rfl, List.length_eq_zero_iff.1 h⟩
  · refine Or.inr ⟨g, 0, xs.length, cap, rfl, ⟨rfl, fun i hi => ?_⟩, by omega⟩
    have : (cur.toList.take (xs.length * 1))[i]? = some (.int .i64 (xs.getD i 0)) := by
      rw [h4]; simp [List.getD, hi]
    rw [List.getElem?_take] at this
    simp only [Nat.mul_one, hi, if_true, Array.getElem?_toList] at this
    simp [World.cell?, hh, this]

def fieldsOf (ss : List ByteArray) : List (List UInt8) := ss.map listOf

/-- what 'numbers' answers -/
def NumsRes (B : Nat) (ls : List (List UInt8)) (v : Value) (b : Bool) (w : World) : Prop := match numsB ls with | some ns => b = true ∧ ISlice w v ns ∧ (∀ g, v.ownBlock = some g → B ≤ g) | none => b = false ∧ v = .slice none 0 0

theorem NumsRes.some {B : Nat} {ls : List (List UInt8)} {v : Value} {w : World} {ns : List Int} (h : numsB ls = .some ns) (hv : ISlice w v ns) (hg : ∀ g, v.ownBlock = .some g → B ≤ g) : NumsRes B ls v true w := by unfold NumsRes; rw [h]; exact ⟨rfl, hv, hg⟩
theorem NumsRes.none {B : Nat} {ls : List (List UInt8)} {w : World} (h : numsB ls = .none) : NumsRes B ls (.slice .none 0 0) false w := by unfold NumsRes; rw [h]; exact ⟨rfl, rfl⟩

set_option maxHeartbeats 1000000 in
set_option maxRecDepth 1000000 in
theorem numbers_any (b off n cap : Nat) (ss : List ByteArray) (w : World) (hx : StrsAt w b off n ss) (hn : n ≤ 1000000) :
    Calls Tryd.prog 60 #[.slice (some ⟨b, off, none⟩) n cap] w fun e w' =>
      (∃ v b, e = .returned (.tuple #[v, .bool b]) ∧ NumsRes w.heap.size (fieldsOf ss) v b w') ∧ Below w.heap.size w w' := by
  obtain ⟨i0, hi, hz0, hz1, hz2⟩ := info_parts Tryd.info3
  have hlen := hx.len
  go_enter Tryd.func60, Tryd.ntmps60
  go_wp2
  go_loopw [4, 11] (fun v i wr => ∃ (k : Nat) (ns : List Int), k ≤ n ∧ i = .int .i64 k ∧ numsB ((fieldsOf ss).take k) = some ns ∧ wr.ownsRow w.heap.size 3 1 v ns.length (ns.map (Value.int .i64)) ∧ Below w.heap.size w wr) (fun _ i _ => n - (intOf i).toNat)
  case atStart => exact ⟨0, [], Nat.zero_le _, rfl, rfl, World.ownsRow_nil _ _ _ _, bel_self _⟩
  case round =>
    obtain ⟨k, ns, hk, rfl, hns, hown, hb⟩ := hrel
    have HN : Hid (numsB ((fieldsOf ss).take k) = some ns) := hns
    have hnl : ns.length = k := by rw [numsB_length _ _ hns]; simp [fieldsOf]; omega
    clear hns
    by_cases hlt : k < n
    · have c0 := (hx.below hb).cell k hlt
      obtain ⟨s, hsk⟩ : ∃ s, s = ss.getD k ByteArray.empty := ⟨_, rfl⟩
      rw [← hsk] at c0
      have hmem : s ∈ ss := by rw [hsk]; simp [List.getD, show k < ss.length by omega]
      have hsz := hx.size s hmem
      have HT : Hid ((fieldsOf ss).take (k + 1) = (fieldsOf ss).take k ++ [listOf s]) := by
        show (fieldsOf ss).take (k + 1) = (fieldsOf ss).take k ++ [listOf s]
        rw [List.take_succ_eq_append_getElem (by simp [fieldsOf]; omega)]
        simp [fieldsOf, hsk, List.getD, show k < ss.length by omega]
      have HM : Hid (listOf s ∈ fieldsOf ss) := List.mem_map_of_mem hmem
      clear hsk hmem
      cases hnb : numB (listOf s) with
      | none =>
        have hv : numV (listOf s) = .tuple #[.int .i64 0, .bool false] := by simp [numV, hnb]
        have HNN : Hid (numsB (fieldsOf ss) = none) := numsB_none _ _ HM.out hnb
        have hcall := number_any s wr hsz
        rw [hv] at hcall
        clear hnb hv
        go_wp2_with (go_at_call 74; refine hcall.mono ?_; rintro e w' ⟨rfl, rfl⟩)
        go_ret2
        exact ⟨⟨_, _, rfl, NumsRes.none HNN.out⟩, hb⟩
      | some m =>
        have hv : numV (listOf s) = .tuple #[.int .i64 m, .bool true] := by simp [numV, hnb]
        have HNN : Hid (numsB ((fieldsOf ss).take (k + 1)) = some (ns ++ [m])) := by
          show numsB ((fieldsOf ss).take (k + 1)) = some (ns ++ [m])
          rw [HT.out]; exact numsB_snoc_some _ _ _ _ HN.out hnb
        have hcall := number_any s wr hsz
        rw [hv] at hcall
        clear hnb hv
        go_wp2_with (first | (at_builtin; refine wpList_append_own _ rfl _ _ 22 rfl w.heap.size 3 i0 (.int .i64 0) 1 8 Tryd.underlying22 hi hz0 hz1 hz2 rfl (by decide) _ _ _ rfl (hown.alloc _) ⟨wr.heap.size, 0, none⟩ 1 1 [.int .i64 m] rfl rfl ?c1 ?c2 ?c3 ?c4 ?c5 ?_) | (go_at_call 74; refine hcall.mono ?_; rintro e w' ⟨rfl, rfl⟩))
        case c1 =>
          intro j u hj
          match j, hj with
          | 0, hj => simp at hj; subst hj; simp [Addr.add]
        case c2 => intro u hu; simp at hu; subst hu; rfl
        case c3 => unfold maxLen; omega
        case c4 => omega
        case c5 => have := hb.size; simp; omega
        intro v' w1 hown' hgrow _
        have hb1 : Below w.heap.size w w1 := (bel_up hb _).grown hgrow (by have := hb.size; simp; omega) (ownsRow_base hown)
        clear hgrow hown hb
        go_wp2
        go_roundw
        case rel => exact ⟨k + 1, ns ++ [m], by omega, by go_num, HNN.out, by simpa [hnl] using hown', hb1⟩
        case measure => simp [intOf]; omega
    · go_wp2
      go_ret2
      have hkn : (fieldsOf ss).take k = fieldsOf ss := List.take_of_length_le (by simp [fieldsOf]; omega)
      exact ⟨⟨_, _, rfl, NumsRes.some (hkn ▸ HN.out) (ownsRow_ints hown) (ownsRow_base hown)⟩, hb⟩

theorem numbers_some (b off n cap : Nat) (ss : List ByteArray) (ns : List Int) (w : World) (hx : StrsAt w b off n ss) (hn : n ≤ 1000000) (h : numsB (fieldsOf ss) = some ns) (h0 : 0 < n) :
    Calls Tryd.prog 60 #[.slice (some ⟨b, off, none⟩) n cap] w fun e w' =>
      ∃ g o c, e = .returned (.tuple #[.slice (some ⟨g, o, none⟩) n c, .bool true]) ∧ IntsAt w' g o n ns ∧ Below w.heap.size w w' ∧ w.heap.size ≤ g := by
  refine (numbers_any b off n cap ss w hx hn).mono ?_
  rintro e w' ⟨⟨v, q, rfl, hres⟩, hb⟩
  unfold NumsRes at hres
  rw [h] at hres
  obtain ⟨rfl, hi, hg⟩ := hres
  have hl : ns.length = n := by rw [numsB_length _ _ h]; simpa [fieldsOf] using hx.len
  rcases hi with ⟨_, _, rfl, rfl⟩ | ⟨g, o, m, c, rfl, hi, _⟩
  · simp at hl; omega
  · have : m = n := by rw [← hi.len, hl]
    subst this
    exact ⟨g, o, c, rfl, hi, hb, hg g rfl⟩

theorem numbers_none (b off n cap : Nat) (ss : List ByteArray) (w : World) (hx : StrsAt w b off n ss) (hn : n ≤ 1000000) (h : numsB (fieldsOf ss) = none) :
    Calls Tryd.prog 60 #[.slice (some ⟨b, off, none⟩) n cap] w fun e w' =>
      e = .returned (.tuple #[.slice none 0 0, .bool false]) ∧ Below w.heap.size w w' := by
  refine (numbers_any b off n cap ss w hx hn).mono ?_
  rintro e w' ⟨⟨v, q, rfl, hres⟩, hb⟩
  unfold NumsRes at hres
  rw [h] at hres
  obtain ⟨rfl, rfl⟩ := hres
  exact ⟨rfl, hb⟩

end Go.Proofs.YteehgcbjmdideaaDoor
