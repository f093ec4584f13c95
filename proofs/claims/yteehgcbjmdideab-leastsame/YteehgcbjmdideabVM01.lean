/- The library's slices.Repeat of one number (for a seat without package fst's reader). -/
import Derived.Test.YteehgcbjmdideabVCheckF
import Derived.Test.YteehgcbjmdideabVShelf
import Derived.Maps.OwnRows
import Derived.Deep.OwnRows
import Derived.Deep.DrawnRows
import Derived.Outline
import Derived.Laws.CopyOwn
import Derived.Deep.RegionLaw
import Derived.Lib.SmallJoins
import Derived.Maps.AppendAt
import Derived.Deep.AppendLies
set_option maxRecDepth 100000
namespace Go.Proofs.Yteehgcbjmdideab
open Go.RowKit
attribute [local go_sem ↓] Go.wp_at_zero Go.wp_at_succ
theorem Try.info3 : (Try.prog.info? 3).map (fun i => (i.zero,i.size,i.bytes)) = some (some (.int .i64 0),1,8):=by kernel_rfl
def rowR (x : Int) (m c : Nat) : List Value:=List.replicate m (Value.int .i64 x) ++ List.replicate (c - m) (Value.int .i64 0)
theorem rowR_len (x : Int) (m c : Nat) (h : m <= c) : (rowR x m c).length = c:=by simp [rowR]; omega
theorem rowR_made (x : Int) (c : Nat) : (rowR x 0 c).toArray = madeCells #[.int .i64 0] c:=by
 unfold rowR madeCells
 apply Array.ext
 ·simp
 ·intro i h1 h2
  simp [Nat.mod_one]
theorem rowR_splice (x : Int) (m j c : Nat) (_h : m + j <= c) : splice (rowR x m c) m (List.replicate j (Value.int .i64 x)) = rowR x (m + j) c:=by
 unfold splice rowR
 rw [List.take_left' (by simp),List.length_replicate,List.drop_append]
 rw [List.drop_of_length_le (by simp),List.nil_append,List.length_replicate,List.drop_replicate,<- List.append_assoc,List.replicate_append_replicate]
 congr 2
 omega
theorem rowR_get (x : Int) (m c i : Nat) (h : i < m) : (rowR x m c)[i]? = some (.int .i64 x):=by
 unfold rowR
 rw [List.getElem?_append_left (by simpa using h)]
 simp [h]
theorem min_fit (m c : Nat) (h : m <= c) : m + Nat.min m (c - m) <= c:=by have:=Nat.min_le_right m (c - m); show m + min m (c - m) <= c; omega
theorem one_rep (n : Nat) (x : Int) : ∀ v ∈ List.replicate n (Value.int .i64 x),v.oneCell' = true:=by intro v hv; rw [List.eq_of_mem_replicate hv]; rfl
theorem hsrc (x : Int) (m c g : Nat) (w : World) (hg : Hid (w.heap[g]? = some (.cells (rowR x m c).toArray 3 (0,0)))) (_hlt : m < c) (_hm : 1 <= m) : 0 < (List.replicate (Nat.min m (c - m)) (Value.int .i64 x)).length -> (some (⟨g,m,none⟩ : Addr) = some ⟨g,m,none⟩ /\ ∃ ad,some (⟨g,0,none⟩ : Addr) = some ad /\ ∀ j v,(List.replicate (Nat.min m (c - m)) (Value.int .i64 x))[j]? = some v -> w.cell? (ad.add j) = some v):=by
 intro _
 refine ⟨rfl,_,rfl,fun j v hj => ?_⟩
 rw [List.getElem?_replicate] at hj
 split at hj
 ·rename_i hjm
  have hjm' : j < m:=Nat.lt_of_lt_of_le hjm (Nat.min_le_left _ _)
  injection hj with hj
  subst hj
  have hgg:=hg.out
  have hr:=rowR_get x m c j hjm'
  by_cases h0 : j = 0
  ·subst h0; simp [Addr.add,World.cell?,hgg,hr]
  ·simp [Addr.add,h0,World.cell?,hgg,hr]
 ·cases hj
set_option maxHeartbeats 1000000 in
set_option maxRecDepth 1000000 in
theorem repeat_any (x : Int) (b off cap c : Nat) (w : World) (hx : w.cell? ⟨b, off, none⟩ = some (.int .i64 x)) (h1 : 1 ≤ c) (h2 : c ≤ 200) :
    Calls Try.prog 91 #[.slice (some ⟨b, off, none⟩) 1 cap, .int .i64 c] w fun e w' =>
      e = .returned (.slice (some ⟨w.heap.size, 0, none⟩) c c) ∧ w'.heap[w.heap.size]? = some (.cells (rowR x c c).toArray 3 (0, 0)) ∧ Below w.heap.size w w' := by
  have hmk := run_make_row' (P := Try.prog) 22 3 (.int .i64 0) 8 Try.underlying22 Try.info3 rfl .i64 .i64 c (by omega) (by omega)
  have hmul := Try.bits_Mul 1 c (by omega) (by omega) w
  have e1 : (1 * c / 18446744073709551616 : Nat) = 0 := by omega
  have e2 : (1 * c % 18446744073709551616 : Nat) = c := by omega
  rw [e1, e2] at hmul
  clear e1 e2
  have hbl := cell_lt hx
  go_enter Try.func91, Try.ntmps91
  have hz3 : (Try.prog.info? 3).map (·.size) = some 1 := by kernel_rfl
  have hg0 : (w.alloc (.cells (madeCells #[.int .i64 0] c) 3)).heap[w.heap.size]? = some (.cells (rowR x 0 c).toArray 3 (0, 0)) := by rw [rowR_made]; exact heap_alloc_new w _
  have hx0 : (w.alloc (.cells (madeCells #[.int .i64 0] c) 3)).cell? ⟨b, off, none⟩ = some (.int .i64 x) := old_cell hx
  have hcp : (Builtin.copy_ #[22, 22] 3 #[.slice (some ⟨w.heap.size, 0, none⟩) c c, .slice (some ⟨b, off, none⟩) 1 cap]).run Try.prog (w.alloc (.cells (madeCells #[.int .i64 0] c) 3)) = .ok (.int .i64 1) ((w.alloc (.cells (madeCells #[.int .i64 0] c) 3)).setRow w.heap.size (rowR x 1 c).toArray) := by
    have h := run_copy_row (P := Try.prog) (w.alloc (.cells (madeCells #[.int .i64 0] c) 3)) 22 22 3 3 w.heap.size 0 c c ⟨b, off, none⟩ 1 cap (rowR x 0 c).toArray 3 [.int .i64 x] Try.underlying22 hz3 hg0 (Nat.min_eq_left h1).symm
      (by intro j v hj
          match j, hj with
          | 0, hj => simp at hj; subst hj; simpa [Addr.add] using hx0)
      (by simp [rowR_len]; omega) (by intro v hv; simp at hv; subst hv; rfl)
    have e := rowR_splice x 0 1 c (by omega)
    unfold splice at e
    rw [← List.append_assoc] at e
    simp only [Nat.zero_add] at e h ⊢
    rw [h]
    simp only [List.length_singleton] at e ⊢
    rw [show ([Value.int .i64 x] : List Value) = List.replicate 1 (Value.int .i64 x) from rfl]
    simp only [List.length_replicate] at e
    rw [e]; rfl
  obtain ⟨w1, hw1⟩ : ∃ w1, w1 = (w.alloc (.cells (madeCells #[.int .i64 0] c) 3)).setRow w.heap.size (rowR x 1 c).toArray := ⟨_, rfl⟩
  have hg1 : Hid (w1.heap[w.heap.size]? = some (.cells (rowR x 1 c).toArray 3 (0, 0))) := by
    show w1.heap[w.heap.size]? = _
    rw [hw1]; exact setRow_heap _ _ _ _ _ _ hg0
  have hb1 : Below w.heap.size w w1 := by rw [hw1]; exact below_setRow (bel_up (bel_self w) _) (Nat.le_refl _) _
  rw [← hw1] at hcp
  clear hw1
  clear hg0 hx0 hx
  go_wp2_with (go_at_call 108; refine hmul.mono ?_; rintro e w' ⟨rfl, hw⟩; obtain rfl := hw.symm)
  go_loopw [8] (fun i wr => ∃ m : Nat, 1 ≤ m ∧ m ≤ c ∧ i = .int .i64 m ∧ Hid (wr.heap[w.heap.size]? = some (.cells (rowR x m c).toArray 3 (0, 0))) ∧ Below w.heap.size w wr) (fun i _ => c - (intOf i).toNat)
  case atStart => exact ⟨1, by omega, h1, rfl, hg1, hb1⟩
  case round =>
    clear hcp hg1 hb1
    obtain ⟨m, hm1, hm2, rfl, hg, hb⟩ := hrel
    by_cases hlt : m < c
    · have hne : ¬ c = m := by omega
      obtain ⟨j, hj⟩ : ∃ j, j = Nat.min m (c - m) := ⟨_, rfl⟩
      have hj1 : 1 ≤ j := by rw [hj]; show 1 ≤ min m (c - m); omega
      have hj2 : m + j ≤ c := by rw [hj]; exact min_fit m c hm2
      obtain ⟨w2, hw2⟩ : ∃ w2, w2 = wr.drew.setRow w.heap.size (rowR x (m + j) c).toArray := ⟨_, rfl⟩
      have hcp : (Builtin.copy_ #[22, 22] 3 #[.slice (some ⟨w.heap.size, m, none⟩) (c - m) (c - m), .slice (some ⟨w.heap.size, 0, none⟩) m c]).run Try.prog wr.drew = .ok (.int .i64 j) w2 := by
        have h := run_copy_row (P := Try.prog) wr.drew 22 22 3 3 w.heap.size m (c - m) (c - m) ⟨w.heap.size, 0, none⟩ m c (rowR x m c).toArray 3 (List.replicate j (.int .i64 x)) Try.underlying22 hz3 hg.out (by rw [List.length_replicate]; exact hj)
          (((hsrc x m c w.heap.size wr.drew hg hlt hm1) (by rw [← hj, List.length_replicate]; omega)).2.elim fun ad h => by have e := h.1; injection e with e; subst e; rw [hj]; exact h.2)
          (by simp [rowR_len _ _ _ hm2]; omega) (one_rep _ _)
        have e := rowR_splice x m j c hj2
        unfold splice at e
        rw [← List.append_assoc] at e
        rw [h, hw2]
        simp only [List.length_replicate] at e ⊢
        rw [e]; rfl
      have hg2 : Hid (w2.heap[w.heap.size]? = some (.cells (rowR x (m + j) c).toArray 3 (0, 0))) := by
        show w2.heap[w.heap.size]? = _
        rw [hw2]; exact setRow_heap _ _ _ _ _ _ hg.out
      have hb2 : Below w.heap.size w w2 := by rw [hw2]; exact below_setRow hb.drew (Nat.le_refl _) _
      clear hw2 hj
      go_wp2
      go_region
      go_wp2
      go_roundw
      case rel => exact ⟨m + j, by omega, hj2, by go_num, hg2, hb2⟩
      case measure => simp [intOf]; omega
    · have hmc : m = c := by omega
      subst hmc
      go_wp2
      go_ret
      exact ⟨rfl, hg.out, hb⟩
end Go.Proofs.Yteehgcbjmdideab
/- The least that it costs to come to a state along edges: what both the program's search and the document's rounds reckon. -/
namespace Go.Proofs.Yteehgcbjmdideab
structure Edg where
 u : Nat
 v : Nat
 w : Int
def gI (c : List Int) (v : Nat) : Int:=c.getD v (-1)
def WayN (E : List Edg) (b : List Int) : Nat -> Nat -> Int -> Prop
 | 0,v,x => gI b v = x /\ 0 <= x
 | h + 1,v,x => ∃ e ∈ E,e.v = v /\ ∃ c,WayN E b h e.u c /\ x = c + e.w
def IsLeast (E : List Edg) (b : List Int) (v : Nat) (x : Int) : Prop :=
 (x = -1 /\ ∀ h c,¬ WayN E b h v c) \/ (0 <= x /\ (∃ h,WayN E b h v x) /\ ∀ h c,WayN E b h v c -> x <= c)
section
variable {E : List Edg} {b : List Int}
theorem WayN.nonneg (hw : ∀ e ∈ E,0 <= e.w) {h v : Nat} {x : Int} (H : WayN E b h v x) : 0 <= x:=by
 induction h generalizing v x with
 | zero => exact H.2
 | succ h ih =>
  obtain ⟨e,he,_,c,hc,rfl⟩:=H
  have:=ih hc
  have:=hw e he
  omega
theorem IsLeast.unique {v : Nat} {x y : Int} (hx : IsLeast E b v x) (hy : IsLeast E b v y) : x = y:=by
 rcases hx with ⟨rfl,h1⟩ | ⟨h0,⟨h,hx⟩,h1⟩
 ·rcases hy with ⟨rfl,_⟩ | ⟨_,⟨h,hy⟩,_⟩
  ·rfl
  ·exact absurd hy (h1 h _)
 ·rcases hy with ⟨_,h2⟩ | ⟨_,⟨k,hy⟩,h2⟩
  ·exact absurd hx (h2 h _)
  ·have:=h1 k _ hy
   have:=h2 h _ hx
   omega
theorem least_of (p : Int -> Prop) (hp : ∀ x,p x -> 0 <= x) (h : ∃ x,p x) : ∃ x,p x /\ ∀ y,p y -> x <= y:=by
 obtain ⟨x,hx⟩:=h
 have key : ∀ n : Nat,∀ x : Int,p x -> x.toNat <= n -> ∃ x,p x /\ ∀ y,p y -> x <= y:=by
  intro n
  induction n with
  | zero =>
   intro x hx hn
   refine ⟨x,hx,fun y hy => ?_⟩
   have:=hp x hx
   have:=hp y hy
   omega
  | succ n ih =>
   intro x hx hn
   by_cases hl : ∃ y,p y /\ y < x
   ·obtain ⟨y,hy,hyx⟩:=hl
    have:=hp y hy
    exact ih y hy (by omega)
   ·refine ⟨x,hx,fun y hy => ?_⟩
    by_cases hyx : y < x
    ·exact absurd ⟨y,hy,hyx⟩ hl
    ·omega
 exact key x.toNat x hx (Nat.le_refl _)
theorem least_exists (hw : ∀ e ∈ E,0 <= e.w) (v : Nat) : ∃ x,IsLeast E b v x:=by
 by_cases h : ∃ x h,WayN E b h v x
 ·obtain ⟨x,⟨h,hx⟩,hl⟩:=least_of (fun x => ∃ h,WayN E b h v x) (fun x ⟨h,hx⟩ => hx.nonneg hw) h
  exact ⟨x,Or.inr ⟨hx.nonneg hw,⟨h,hx⟩,fun k c hc => hl c ⟨k,hc⟩⟩⟩
 ·exact ⟨-1,Or.inl ⟨rfl,fun k c hc => h ⟨c,k,hc⟩⟩⟩
def Ach (E : List Edg) (b c : List Int) : Prop:=∀ v,gI c v = -1 \/ ∃ h,WayN E b h v (gI c v)
def Le1 (x y : Int) : Prop:=0 <= y -> 0 <= x /\ x <= y
def LeC (c d : List Int) : Prop:=∀ v,Le1 (gI c v) (gI d v)
def Fix (E : List Edg) (c : List Int) : Prop:=∀ e ∈ E,0 <= gI c e.u -> 0 <= gI c e.v /\ gI c e.v <= gI c e.u + e.w
theorem fix_le {c : List Int} (hb : LeC c b) (hf : Fix E c) {h v : Nat} {x : Int} (H : WayN E b h v x) : 0 <= gI c v /\ gI c v <= x:=by
 induction h generalizing v x with
 | zero => obtain ⟨rfl,h0⟩:=H; exact hb v h0
 | succ h ih =>
  obtain ⟨e,he,rfl,y,hy,rfl⟩:=H
  obtain ⟨h1,h2⟩:=ih hy
  obtain ⟨h3,h4⟩:=hf e he h1
  exact ⟨h3,by omega⟩
theorem fix_least {c : List Int} (hw : ∀ e ∈ E,0 <= e.w) (ha : Ach E b c) (hb : LeC c b) (hf : Fix E c) (v : Nat) : IsLeast E b v (gI c v):=by
 rcases ha v with h | ⟨h,hx⟩
 ·refine Or.inl ⟨h,fun k y hy => ?_⟩
  have:=(fix_le hb hf hy).1
  omega
 ·exact Or.inr ⟨hx.nonneg hw,⟨h,hx⟩,fun k y hy => (fix_le hb hf hy).2⟩
structure Round (E : List Edg) (b c d : List Int) : Prop where
 ach : Ach E b d
 le : LeC d c
 edge : ∀ e ∈ E,0 <= gI c e.u -> 0 <= gI d e.v /\ gI d e.v <= gI c e.u + e.w
def Done (E : List Edg) (b c : List Int) (v : Nat) : Prop:=IsLeast E b v (gI c v)
theorem done_of_le {c : List Int} (ha : Ach E b c) {v : Nat} {x : Int} (hx : IsLeast E b v x) (h : Le1 (gI c v) x) (hn : x = -1 -> gI c v = -1) : Done E b c v:=by
 unfold Done
 have e : gI c v = x:=by
  rcases hx with ⟨rfl,h1⟩ | ⟨h0,_,h2⟩
  ·exact hn rfl
  ·obtain ⟨h3,h4⟩:=h h0
   rcases ha v with h5 | ⟨k,h5⟩
   ·omega
   ·have:=h2 k _ h5; omega
 rw [e]; exact hx
theorem ach_none {c : List Int} (ha : Ach E b c) {v : Nat} (h : ∀ k y,¬ WayN E b k v y) : gI c v = -1:=by
 rcases ha v with h1 | ⟨k,h1⟩
 ·exact h1
 ·exact absurd h1 (h k _)
theorem Done.next {c d : List Int} {v : Nat} (h : Done E b c v) (hr : Round E b c d) : Done E b d v:=by
 refine done_of_le hr.ach h (hr.le v) (fun e => ?_)
 rcases h with ⟨_,h1⟩ | ⟨h0,_⟩
 ·exact ach_none hr.ach h1
 ·omega
theorem all_done {c d : List Int} (hw : ∀ e ∈ E,0 <= e.w) (hac : Ach E b c) (hbc : LeC c b) (hr : Round E b c d) (hno : ∀ v,Done E b d v -> Done E b c v) (v : Nat) : Done E b c v:=by
 have key : ∀ h v x,WayN E b h v x -> IsLeast E b v x -> Done E b c v:=by
  intro h
  induction h with
  | zero =>
   intro v x H hx
   obtain ⟨rfl,h0⟩:=H
   exact done_of_le hac hx (hbc v) (fun e => by omega)
  | succ h ih =>
   intro v x H hx
   obtain ⟨e,he,rfl,y,hy,rfl⟩:=H
   have hy0:=hy.nonneg hw
   have hwe:=hw e he
   have hly : IsLeast E b e.u y:=by
    refine Or.inr ⟨hy0,⟨h,hy⟩,fun k z hz => ?_⟩
    rcases hx with ⟨hx,_⟩ | ⟨_,_,hx⟩
    ·omega
    ·have:=hx (k + 1) (z + e.w) ⟨e,he,rfl,z,hz,rfl⟩
     omega
   have hdu:=ih e.u y hy hly
   have hcu : gI c e.u = y:=IsLeast.unique hdu hly
   apply hno
   obtain ⟨h1,h2⟩:=hr.edge e he (by omega)
   exact done_of_le hr.ach hx (fun _ => ⟨h1,by omega⟩) (fun hh => by omega)
 obtain ⟨x,hx⟩:=least_exists (b:=b) hw v
 rcases hx with ⟨rfl,h1⟩ | ⟨h0,⟨k,hk⟩,h2⟩
 ·exact Or.inl ⟨ach_none hac h1,h1⟩
 ·exact key k v x hk (Or.inr ⟨h0,⟨k,hk⟩,h2⟩)
theorem filter_le (a : Nat) (l : List Nat) (hn : l.Nodup) : l.length <= (l.filter (· != a)).length + 1:=by
 induction l with
 | nil => simp
 | cons x l ih =>
  obtain ⟨hx,hl⟩:=List.nodup_cons.1 hn
  by_cases e : x = a
  ·subst e
   have : l.filter (· != x) = l:=List.filter_eq_self.2 fun y hy => by
    simp only [bne_iff_ne,ne_eq]
    intro h; subst h; exact hx hy
   simp [this]
  ·have:=ih hl
   simp [e]; omega
theorem nodup_le (n : Nat) (l : List Nat) (hn : l.Nodup) (hl : ∀ x ∈ l,x < n) : l.length <= n:=by
 induction n generalizing l with
 | zero =>
  cases l with
  | nil => simp
  | cons x l => exact absurd (hl x (by simp)) (by omega)
 | succ n ih =>
  have h1:=filter_le n l hn
  have h2:=ih (l.filter (· != n)) (hn.filter _) (fun x hx => by
   obtain ⟨h3,h4⟩:=List.mem_filter.1 hx
   have:=hl x h3
   simp at h4
   omega)
  omega
theorem rounds_least (n : Nat) (cs : Nat -> List Int) (hw : ∀ e ∈ E,0 <= e.w) (hout : ∀ v h x,WayN E b h v x -> v < n) (ha : Ach E b (cs 0)) (hb : LeC (cs 0) b) (hr : ∀ r,r < n -> Round E b (cs r) (cs (r + 1))) (v : Nat) : IsLeast E b v (gI (cs n) v):=by
 have hach : ∀ r,r <= n -> Ach E b (cs r):=by
  intro r
  induction r with
  | zero => intro _; exact ha
  | succ r _ => intro h; exact (hr r (by omega)).ach
 have hle : ∀ r,r <= n -> LeC (cs r) b:=by
  intro r
  induction r with
  | zero => intro _; exact hb
  | succ r ih =>
   intro h v h0
   obtain ⟨h1,h2⟩:=ih (by omega) v h0
   obtain ⟨h3,h4⟩:=(hr r (by omega)).le v h1
   exact ⟨h3,by omega⟩
 have hfar : ∀ r,r <= n -> ∀ v,¬ v < n -> Done E b (cs r) v:=by
  intro r h v hv
  have hno : ∀ k y,¬ WayN E b k v y:=fun k y hy => hv (hout v k y hy)
  exact Or.inl ⟨ach_none (hach r h) hno,hno⟩
 have key : ∀ r,r <= n -> (∀ v,Done E b (cs r) v) \/ ∃ l : List Nat,l.Nodup /\ l.length = r /\ ∀ x ∈ l,x < n /\ Done E b (cs r) x:=by
  intro r
  induction r with
  | zero => intro _; exact Or.inr ⟨[],by simp⟩
  | succ r ih =>
   intro h
   have hR:=hr r (by omega)
   rcases ih (by omega) with hd | ⟨l,hl1,hl2,hl3⟩
   ·exact Or.inl fun v => (hd v).next hR
   ·by_cases hno : ∀ v,Done E b (cs (r + 1)) v -> Done E b (cs r) v
    ·exact Or.inl fun v => (all_done hw (hach r (by omega)) (hle r (by omega)) hR hno v).next hR
    ·right
     obtain ⟨v,hv⟩:=Classical.not_forall.1 hno
     obtain ⟨h1,h2⟩:=Classical.not_imp.1 hv
     have hvn : v < n:=by
      by_cases hh : v < n
      ·exact hh
      ·exact absurd (hfar r (by omega) v hh) h2
     refine ⟨v :: l,List.nodup_cons.2 ⟨fun hm => h2 (hl3 v hm).2,hl1⟩,by simp [hl2],fun x hx => ?_⟩
     rcases List.mem_cons.1 hx with rfl | hx
     ·exact ⟨hvn,h1⟩
     ·exact ⟨(hl3 x hx).1,(hl3 x hx).2.next hR⟩
 rcases key n (Nat.le_refl _) with h | ⟨l,hl1,hl2,hl3⟩
 ·exact h v
 ·by_cases hv : v < n
  ·by_cases hm : v ∈ l
   ·exact (hl3 v hm).2
   ·have:=nodup_le n (v :: l) (List.nodup_cons.2 ⟨hm,hl1⟩) (fun x hx => by
     rcases List.mem_cons.1 hx with rfl | hx
     ·exact hv
     ·exact (hl3 x hx).1)
    simp at this; omega
  ·exact hfar n (Nat.le_refl _) v hv
theorem least_same {c d : List Int} (hl : c.length = d.length) (hc : ∀ v,IsLeast E b v (gI c v)) (hd : ∀ v,IsLeast E b v (gI d v)) : c = d:=by
 apply List.ext_getElem hl
 intro i h1 h2
 have:=IsLeast.unique (hc i) (hd i)
 simpa [gI,List.getD,h1,h2] using this
end
end Go.Proofs.Yteehgcbjmdideab
/- One edge after the other: what a round makes of prices. -/
namespace Go.Proofs.Yteehgcbjmdideab
def plusC (a w : Int) : Int:=if a < 0 \/ w < 0 then -1 else a + w
def lessC (a b : Int) : Int:=if a < 0 then b else if b < 0 \/ a < b then a else b
def relE (c : List Int) (e : Edg) : List Int:=c.set e.v (lessC (gI c e.v) (plusC (gI c e.u) e.w))
def relAll (L : List Edg) (c : List Int) : List Int:=L.foldl relE c
theorem relE_len (c : List Int) (e : Edg) : (relE c e).length = c.length:=by simp [relE]
theorem relAll_len (L : List Edg) (c : List Int) : (relAll L c).length = c.length:=by
 unfold relAll
 induction L generalizing c with
 | nil => rfl
 | cons e L ih => rw [List.foldl_cons,ih,relE_len]
theorem gI_set (c : List Int) (i v : Nat) (x : Int) (hi : i < c.length) : gI (c.set i x) v = if v = i then x else gI c v:=by
 unfold gI
 by_cases h : v = i
 ·subst h; simp [List.getD,hi]
 ·have h' : ¬ i = v:=fun e => h e.symm
  simp [List.getD,h,h']
section
variable {E : List Edg} {b : List Int}
theorem relE_ach {c : List Int} {e : Edg} (he : e ∈ E) (hv : e.v < c.length) (ha : Ach E b c) : Ach E b (relE c e):=by
 intro v
 unfold relE
 rw [gI_set _ _ _ _ hv]
 split
 ·rename_i h
  subst h
  have hnew : plusC (gI c e.u) e.w = -1 \/ ∃ h,WayN E b h e.v (plusC (gI c e.u) e.w):=by
   unfold plusC
   split
   ·exact Or.inl rfl
   ·rename_i h
    right
    rcases ha e.u with hu | ⟨k,hu⟩
    ·exact absurd (Or.inl (by omega)) h
    ·exact ⟨k + 1,e,he,rfl,gI c e.u,hu,rfl⟩
  unfold lessC
  split
  ·exact hnew
  ·split
   ·exact ha e.v
   ·exact hnew
 ·exact ha v
theorem relE_le (c : List Int) (e : Edg) (hv : e.v < c.length) : LeC (relE c e) c:=by
 intro v h0
 unfold relE
 rw [gI_set _ _ _ _ hv]
 split
 ·rename_i h
  subst h
  unfold lessC
  split
  ·omega
  ·split
   ·exact ⟨h0,Int.le_refl _⟩
   ·rename_i h; omega
 ·exact ⟨h0,Int.le_refl _⟩
theorem relE_edge (c : List Int) (e : Edg) (hv : e.v < c.length) (hw : 0 <= e.w) (h0 : 0 <= gI c e.u) : 0 <= gI (relE c e) e.v /\ gI (relE c e) e.v <= gI c e.u + e.w:=by
 unfold relE
 rw [gI_set _ _ _ _ hv,if_pos rfl]
 have hp : plusC (gI c e.u) e.w = gI c e.u + e.w:=by unfold plusC; rw [if_neg (by omega)]
 rw [hp]
 unfold lessC
 split
 ·omega
 ·split
  ·omega
  ·omega
theorem LeC.trans {a c d : List Int} (h : LeC a c) (k : LeC c d) : LeC a d:=by
 intro v h0
 obtain ⟨h1,h2⟩:=k v h0
 obtain ⟨h3,h4⟩:=h v h1
 exact ⟨h3,by omega⟩
theorem LeC.refl (c : List Int) : LeC c c:=fun _ h => ⟨h,Int.le_refl _⟩
theorem relAll_round (L : List Edg) (c : List Int) (hL : ∀ e ∈ L,e ∈ E) (hE : ∀ e ∈ E,e.v < c.length /\ 0 <= e.w) (ha : Ach E b c) :
  Ach E b (relAll L c) /\ LeC (relAll L c) c /\ ∀ e ∈ L,0 <= gI c e.u -> 0 <= gI (relAll L c) e.v /\ gI (relAll L c) e.v <= gI c e.u + e.w:=by
 induction L generalizing c with
 | nil => exact ⟨ha,LeC.refl _,by simp⟩
 | cons x L ih =>
  have hx:=hL x (by simp)
  obtain ⟨hxv,hxw⟩:=hE x hx
  have h1:=ih (relE c x) (fun e he => hL e (by simp [he])) (by simpa [relE_len] using hE) (relE_ach hx hxv ha)
  have hle:=relE_le c x hxv
  show Ach E b (relAll L (relE c x)) /\ LeC (relAll L (relE c x)) c /\ _
  refine ⟨h1.1,h1.2.1.trans hle,fun e he h0 => ?_⟩
  rcases List.mem_cons.1 he with rfl | he
  ·obtain ⟨h2,h3⟩:=relE_edge c e hxv hxw h0
   obtain ⟨h4,h5⟩:=h1.2.1 e.v h2
   exact ⟨h4,by show gI (relAll L (relE c e)) e.v <= _; omega⟩
  ·obtain ⟨h2,h3⟩:=hle e.u h0
   obtain ⟨h4,h5⟩:=h1.2.2 e he h2
   exact ⟨h4,by show gI (relAll L (relE c x)) e.v <= _; omega⟩
def rounds (L : List Edg) (c : List Int) : Nat -> List Int
 | 0 => c
 | r + 1 => relAll L (rounds L c r)
theorem rounds_len (L : List Edg) (c : List Int) (r : Nat) : (rounds L c r).length = c.length:=by
 induction r with
 | zero => rfl
 | succ r ih => rw [rounds,relAll_len,ih]
theorem way_lt (hE : ∀ e ∈ E,e.v < b.length) {h v : Nat} {x : Int} (H : WayN E b h v x) : v < b.length:=by
 cases h with
 | zero =>
  obtain ⟨rfl,h0⟩:=H
  by_cases hv : v < b.length
  ·exact hv
  ·simp [gI,List.getD,hv] at h0
 | succ h => obtain ⟨e,he,rfl,_⟩:=H; exact hE e he
theorem rounds_are (L : List Edg) (hL : ∀ e,e ∈ L ↔ e ∈ E) (hE : ∀ e ∈ E,e.v < b.length /\ 0 <= e.w) (hb : ∀ v,gI b v = -1 \/ 0 <= gI b v) (v : Nat) : IsLeast E b v (gI (rounds L b b.length) v):=by
 have ha0 : Ach E b b:=fun v => (hb v).imp id fun h => ⟨0,rfl,h⟩
 have hach : ∀ r,Ach E b (rounds L b r):=by
  intro r
  induction r with
  | zero => exact ha0
  | succ r ih => exact (relAll_round L (rounds L b r) (fun e he => (hL e).1 he) (by simpa [rounds_len] using hE) ih).1
 refine rounds_least b.length (rounds L b) (fun e he => (hE e he).2) (fun v h x H => way_lt (fun e he => (hE e he).1) H) ha0 (LeC.refl _) (fun r _ => ?_) v
 obtain ⟨h1,h2,h3⟩:=relAll_round (b:=b) L (rounds L b r) (fun e he => (hL e).1 he) (by simpa [rounds_len] using hE) (hach r)
 exact ⟨h1,h2,fun e he => h3 e ((hL e).2 he)⟩
end
def betterB (a b : Int) : Bool:=(a != -1) && ((b == -1) || decide (a < b))
def progE (c : List Int) (e : Edg) : List Int:=if betterB (plusC (gI c e.u) e.w) (gI c e.v) then c.set e.v (plusC (gI c e.u) e.w) else c
theorem set_same (c : List Int) (v : Nat) : c.set v (gI c v) = c:=by
 by_cases h : v < c.length
 ·apply List.ext_getElem (by simp)
  intro i h1 h2
  rw [List.getElem_set]
  split
  ·rename_i e; subst e; simp [gI,List.getD,h]
  ·rfl
 ·exact List.set_eq_of_length_le (by omega)
theorem progE_eq (c : List Int) (e : Edg) (hc : ∀ v,-1 <= gI c v) : progE c e = relE c e:=by
 have hv:=hc e.v
 have hp : -1 <= plusC (gI c e.u) e.w:=by
  unfold plusC; split
  ·omega
  ·omega
 unfold progE relE betterB lessC
 generalize plusC (gI c e.u) e.w = p at *
 by_cases h1 : p = -1
 ·subst h1
  by_cases h2 : gI c e.v < 0
  ·have : gI c e.v = -1:=by omega
   simp only [bne_self_eq_false,Bool.false_and,Bool.false_eq_true,if_false,h2,if_true]
   rw [<- this,set_same]
  ·simp [h2,set_same]
 ·have hp0 : ¬ p < 0:=by omega
  by_cases h2 : gI c e.v = -1
  ·simp [h1,h2]
  ·have h2' : ¬ gI c e.v < 0:=by omega
   by_cases h3 : p < gI c e.v
   ·have : ¬ gI c e.v < p:=by omega
    simp [h1,h3,h2',hp0,this]
   ·by_cases h4 : gI c e.v < p
    ·simp [h1,h2,h3,h2',h4,set_same]
    ·have : p = gI c e.v:=by omega
     simp [h2',this,set_same]
theorem fix_of (E : List Edg) (c : List Int) (hw : ∀ e ∈ E,0 <= e.w) (hc : ∀ v,-1 <= gI c v) (h : ∀ e ∈ E,betterB (plusC (gI c e.u) e.w) (gI c e.v) = false) : Fix E c:=by
 intro e he h0
 have h1:=h e he
 have hp : plusC (gI c e.u) e.w = gI c e.u + e.w:=by have:=hw e he; unfold plusC; rw [if_neg (by omega)]
 have hwe:=hw e he
 have hv:=hc e.v
 rw [hp] at h1
 unfold betterB at h1
 have hne : (gI c e.u + e.w != -1) = true:=by simp; omega
 rw [hne,Bool.true_and,Bool.or_eq_false_iff] at h1
 have h2 : gI c e.v ≠ -1:=by simpa using h1.1
 have h3 : ¬ gI c e.u + e.w < gI c e.v:=by simpa using h1.2
 omega
end Go.Proofs.Yteehgcbjmdideab
/- Small calls of package spread and short: 'Sum','Less',which end of an arc is where. -/
namespace Go.Proofs.Yteehgcbjmdideab
open Go.RowKit
attribute [local go_sem ↓] Go.wp_at_zero Go.wp_at_succ
set_option maxHeartbeats 400000 in
theorem sum_any (a b : Int) (w : World) (ha : -1 <= a) (hb : -1 <= b) (ha2 : a <= 1000000000000) (hb2 : b <= 1000000000000) :
  Calls Try.prog 92 #[.int .i64 a,.int .i64 b] w fun e w' => e = .returned (.int .i64 (plusC a b)) /\ w' = w:=by
 by_cases h1 : a = -1
 ·subst h1
  go_enter Try.func92,Try.ntmps92
  go_wp2
  go_ret
  exact ⟨ret_int (by simp [plusC]),rfl⟩
 ·have h1b : (a == -1) = false:=by simpa using h1
  by_cases h2 : b = -1
  ·subst h2
   go_enter Try.func92,Try.ntmps92
   go_wp2
   go_ret
   exact ⟨ret_int (by simp [plusC]),rfl⟩
  ·have h2b : (b == -1) = false:=by simpa using h2
   go_enter Try.func92,Try.ntmps92
   go_wp2
   go_ret
   exact ⟨ret_int (by unfold plusC; rw [if_neg (by omega)]),rfl⟩
set_option maxHeartbeats 400000 in
theorem lessP_any (a b : Int) (w : World) :
  Calls Try.prog 69 #[.int .i64 a,.int .i64 b] w fun e w' => e = .returned (.bool (betterB a b)) /\ w' = w:=by
 by_cases h1 : a = -1
 ·subst h1
  go_enter Try.func69,Try.ntmps69
  go_wp2
  go_ret
  exact ⟨ret_bool (by simp [betterB]),rfl⟩
 ·have h1b : (a == -1) = false:=by simpa using h1
  have h1n : (a != -1) = true:=by simpa using h1
  by_cases h2 : b = -1
  ·subst h2
   go_enter Try.func69,Try.ntmps69
   go_wp2
   go_ret
   exact ⟨ret_bool (by simp [betterB,h1]),rfl⟩
  ·have h2b : (b == -1) = false:=by simpa using h2
   go_enter Try.func69,Try.ntmps69
   go_wp2
   all_goals
    go_ret
    exact ⟨ret_bool (by simp [betterB,h1n,h2b]),rfl⟩
end Go.Proofs.Yteehgcbjmdideab
/- 'Only' of package spread. -/
namespace Go.Proofs.Yteehgcbjmdideab
open Go.RowKit
attribute [local go_sem ↓] Go.wp_at_zero Go.wp_at_succ
def intsW (xs : List Int) : List Value:=xs.map (Value.int .i64)
theorem rowR_intsW (n : Nat) : rowR (-1) n n = intsW (List.replicate n (-1)):=by simp [rowR,intsW]
theorem intsW_cell {w : World} {g t i : Nat} {xs : List Int} (h : w.heap[g]? = some (.cells (intsW xs).toArray t (0,0))) (hi : i < xs.length) : w.cell? ⟨g,i,none⟩ = some (.int .i64 (xs.getD i 0)):=by
 rw [Go.Joins.cell_of_block h]
 simp [intsW,List.getD,hi]
theorem intsW_set {w : World} {g t i : Nat} {xs : List Int} (y : Int) (h : w.heap[g]? = some (.cells (intsW xs).toArray t (0,0))) : (w.setCell ⟨g,i,none⟩ (.int .i64 y)).heap[g]? = some (.cells (intsW (xs.set i y)).toArray t (0,0)):=by
 have h:=Go.Joins.block_setCell (i:=i) h (.int .i64 y)
 rw [show (intsW xs).toArray.setIfInBounds i (.int .i64 y) = (intsW (xs.set i y)).toArray by simp [intsW,List.map_set]] at h
 exact h
theorem only_row {w w1 : World} {n t : Nat} {o : Obj} (h : w1.heap[(w.alloc o).heap.size]? = some (.cells (rowR (-1) n n).toArray t (0,0))) : w1.heap[w.heap.size + 1]? = some (.cells (intsW (List.replicate n (-1))).toArray t (0,0)):=by
 rw [<- rowR_intsW]
 simpa using h
set_option maxHeartbeats 1000000 in
theorem only_any (n s : Nat) (w : World) (h1 : 1 <= n) (h2 : n <= 200) (hs : s < n) :
  Calls Try.prog 60 #[.int .i64 n,.int .i64 s] w fun e w' =>
   ∃ G,e = .returned (.slice (some ⟨G,0,none⟩) n n) /\ w'.heap[G]? = some (.cells (intsW ((List.replicate n (-1)).set s 0)).toArray 3 (0,0)) /\ w.heap.size <= G /\ Below w.heap.size w w':=by
 have hm1 : (w.alloc (.cells #[.int .i64 (-1)] 3)).cell? ⟨w.heap.size,0,none⟩ = some (.int .i64 (-1)):=new_cell _ _ _ _ _ _ rfl rfl
 have hsi : (s : Int) < (n : Int):=by omega
 go_enter Try.func60,Try.ntmps60
 go_wp2_with (go_at_call 91; refine (repeat_any (-1) w.heap.size 0 1 n _ hm1 h1 h2).mono ?_; rintro e w1 ⟨rfl,hG0,hb1⟩; have hG:=only_row hG0; have c0:=intsW_cell (i:=s) hG (by simpa using hs); have f0:=Go.Joins.unfrozen_of_block hG s; clear hG0)
 go_ret
 refine ⟨w.heap.size + 1,rfl,?_,by omega,?_⟩
 ·exact intsW_set 0 hG
 ·exact (bel_on (bel_up (bel_self w) _) hb1).setCell (p:=⟨w.heap.size + 1,s,none⟩) (Nat.le_succ _) _
end Go.Proofs.Yteehgcbjmdideab
/- 'Less' and 'Plus' of the document's answer. -/
namespace Go.Proofs.Yteehgcbjmdideab
open Go.RowKit
attribute [local go_sem ↓] Go.wp_at_zero Go.wp_at_succ
set_option maxHeartbeats 400000 in
theorem lessRef_any (a b : Int) (w : World) :
  Calls Try.prog 38 #[.int .i64 a,.int .i64 b] w fun e w' => e = .returned (.int .i64 (lessC a b)) /\ w' = w:=by
 by_cases h1 : a < 0
 ·go_enter Try.func38,Try.ntmps38
  go_wp2
  go_ret
  exact ⟨ret_int (by unfold lessC; split <;> (try split) <;> omega),rfl⟩
 ·by_cases h2 : b < 0
  ·go_enter Try.func38,Try.ntmps38
   go_wp2
   go_ret
   exact ⟨ret_int (by unfold lessC; split <;> (try split) <;> omega),rfl⟩
  ·by_cases h3 : a < b
   ·go_enter Try.func38,Try.ntmps38
    go_wp2
    go_ret
    exact ⟨ret_int (by unfold lessC; split <;> (try split) <;> omega),rfl⟩
   ·go_enter Try.func38,Try.ntmps38
    go_wp2
    go_ret
    exact ⟨ret_int (by unfold lessC; split <;> (try split) <;> omega),rfl⟩
end Go.Proofs.Yteehgcbjmdideab
/- 'Begun' of the document's answer. -/
namespace Go.Proofs.Yteehgcbjmdideab
open Go.RowKit
attribute [local go_sem ↓] Go.wp_at_zero Go.wp_at_succ
def begL (s : Int) (k : Nat) : List Int:=(List.range k).map fun (i : Nat) => if (i : Int) = s then 0 else -1
theorem begL_len (s : Int) (k : Nat) : (begL s k).length = k:=by simp [begL]
theorem begL_succ (s : Int) (k : Nat) : begL s (k + 1) = begL s k ++ [if (k : Int) = s then 0 else -1]:=by simp [begL,List.range_succ]
theorem own_base {w : World} {B e size n : Nat} {v : Value} {xs : List Value} (h : w.ownsRow B e size v n xs) : ∀ g,v.ownBlock = some g -> B <= g:=by
 intro g hg
 obtain ⟨_,h⟩:=h
 rcases h with ⟨rfl,_⟩ | ⟨g',cap,cur,rfl,hB,_⟩
 ·simp [Value.ownBlock] at hg
 ·simp [Value.ownBlock] at hg; omega
theorem own_mono {w : World} {B B' e size n : Nat} {v : Value} {xs : List Value} (h : w.ownsRow B e size v n xs) (hB : B' <= B) : w.ownsRow B' e size v n xs:=by
 obtain ⟨h0,h⟩:=h
 refine ⟨h0,?_⟩
 rcases h with h | ⟨g,cap,cur,rfl,hg,h1⟩
 ·exact Or.inl h
 ·exact Or.inr ⟨g,cap,cur,rfl,by omega,h1⟩
theorem CellsF.grown {w w' : World} {o : Obj} {B : Nat} {st sta : Int} {fin arcs : Value} {row : Option Nat} (h : CellsF w B st sta fin arcs) (hg : (w.alloc o).grownBy w' row) (hne : some B ≠ row) : CellsF w' B st sta fin arcs:=by
 have h1:=h.below (bel_up (bel_self w) o)
 have hl:=cell_lt h1.1
 exact ⟨(hg.cell_far ⟨B,0,none⟩ hl hne).trans h1.1,(hg.cell_far ⟨B,1,none⟩ hl hne).trans h1.2.1,(hg.cell_far ⟨B,2,none⟩ hl hne).trans h1.2.2.1,(hg.cell_far ⟨B,3,none⟩ hl hne).trans h1.2.2.2⟩
set_option maxHeartbeats 1000000 in
theorem begunRef_any (n : Nat) (sta : Int) (fin arcs : Value) (w : World) (hn : n <= 200) :
  Calls Try.prog 37 #[.agg #[.int .i64 n,.int .i64 sta,fin,arcs]] w fun e w' =>
   ∃ v,e = .returned v /\ w'.ownsRow w.heap.size 3 1 v n (intsW (begL sta n)) /\ Below w.heap.size w w':=by
 obtain ⟨i0,hi,hz0,hz1,hz2⟩:=info_parts Try.info3
 go_enter Try.func37,Try.ntmps37
 go_wp2
 go_loopw [3,4] (fun v i wr => ∃ k : Nat,k <= n /\ i = .int .i64 k /\ wr.ownsRow (w.heap.size + 1) 3 1 v k (intsW (begL sta k)) /\ CellsF wr w.heap.size n sta fin arcs /\ Below w.heap.size w wr) (fun _ i _ => n - (intOf i).toNat)
 case atStart => exact ⟨0,Nat.zero_le _,rfl,World.ownsRow_nil _ _ _ _,by simp [CellsF],bel_up (bel_self _) _⟩
 case round =>
  obtain ⟨k,hk,rfl,hown,hC,hb⟩:=hrel
  have hC':=hC
  obtain ⟨f0,f1,f2,f3⟩:=hC'
  have hsl:=cell_lt f0
  by_cases hlt : k < n
  ·by_cases hs : (k : Int) = sta
   ·have hsb : ((k : Int) == sta) = true:=by simpa using hs
    go_wp2_with (at_builtin; refine wpList_append_own _ rfl _ _ 22 rfl (w.heap.size + 1) 3 i0 (.int .i64 0) 1 8 Try.underlying22 hi hz0 hz1 hz2 rfl (by decide) _ _ _ rfl (hown.alloc _) ⟨wr.heap.size,0,none⟩ 1 1 [.int .i64 0] rfl rfl ?c1 ?c2 ?c3 ?c4 ?c5 ?_)
    case c1 =>
     intro j u hj
     match j,hj with
     | 0,hj => simp at hj; subst hj; simp [Addr.add]
    case c2 => intro u hu; simp at hu; subst hu; rfl
    case c3 => unfold maxLen; omega
    case c4 => omega
    case c5 => have:=hb.size; simp; omega
    intro v' w1 hown' hgrow _
    have hb1 : Below w.heap.size w w1:=(bel_up hb _).grown hgrow (by have:=hb.size; simp; omega) (fun g hg => by have:=own_base hown g hg; omega)
    have hC1 : CellsF w1 w.heap.size n sta fin arcs:=hC.grown hgrow (fun h => by have:=own_base hown _ h.symm; omega)
    clear hgrow hown hb hC
    go_wp2
    go_roundw
    case rel => exact ⟨k + 1,by omega,by go_num,by rw [begL_succ,if_pos hs]; simpa [intsW] using hown',hC1,hb1⟩
    case measure => simp [intOf]; omega
   ·have hsb : ((k : Int) == sta) = false:=by simpa using hs
    go_wp2_with (at_builtin; refine wpList_append_own _ rfl _ _ 22 rfl (w.heap.size + 1) 3 i0 (.int .i64 0) 1 8 Try.underlying22 hi hz0 hz1 hz2 rfl (by decide) _ _ _ rfl (hown.alloc _) ⟨wr.heap.size,0,none⟩ 1 1 [.int .i64 (-1)] rfl rfl ?c1 ?c2 ?c3 ?c4 ?c5 ?_)
    case c1 =>
     intro j u hj
     match j,hj with
     | 0,hj => simp at hj; subst hj; simp [Addr.add]
    case c2 => intro u hu; simp at hu; subst hu; rfl
    case c3 => unfold maxLen; omega
    case c4 => omega
    case c5 => have:=hb.size; simp; omega
    intro v' w1 hown' hgrow _
    have hb1 : Below w.heap.size w w1:=(bel_up hb _).grown hgrow (by have:=hb.size; simp; omega) (fun g hg => by have:=own_base hown g hg; omega)
    have hC1 : CellsF w1 w.heap.size n sta fin arcs:=hC.grown hgrow (fun h => by have:=own_base hown _ h.symm; omega)
    clear hgrow hown hb hC
    go_wp2
    go_roundw
    case rel => exact ⟨k + 1,by omega,by go_num,by rw [begL_succ,if_neg hs]; simpa [intsW] using hown',hC1,hb1⟩
    case measure => simp [intOf]; omega
  ·have hkn : k = n:=by omega
   subst hkn
   go_wp2
   go_ret
   exact ⟨_,rfl,own_mono hown (Nat.le_succ _),hb⟩
end Go.Proofs.Yteehgcbjmdideab
/- What lies in memory,for a seat without package fst's reader: blocks that stay,rows of numbers and of arcs. -/
namespace Go.Proofs.Yteehgcbjmdideab
open Go.RowKit
attribute [local go_sem ↓] Go.wp_at_zero Go.wp_at_succ
theorem heap_lt {w : World} {g : Nat} {o : Obj} (hg : w.heap[g]? = some o) : g < w.heap.size:=by
 by_cases h : g < w.heap.size
 ·exact h
 ·rw [Array.getElem?_eq_none (by omega)] at hg; cases hg
theorem heap_bel {w w' : World} (h : Below w.heap.size w w') {g : Nat} {o : Obj} (hg : w.heap[g]? = some o) : w'.heap[g]? = some o:=by
 rw [h.block g (heap_lt hg)]; exact hg
theorem ownsRow_bel {w w' : World} {B e size n : Nat} {v : Value} {xs : List Value} (h : w.ownsRow B e size v n xs) (hb : Below w.heap.size w w') : w'.ownsRow B e size v n xs:=by
 obtain ⟨hl,h⟩:=h
 refine ⟨hl,?_⟩
 rcases h with h | ⟨g,cap,cur,hv,hg,hh,h1,h2,h3,h4⟩
 ·exact Or.inl h
 ·exact Or.inr ⟨g,cap,cur,hv,hg,heap_bel hb hh,h1,h2,h3,h4⟩
theorem addr_add (g j : Nat) : (⟨g,0,none⟩ : Addr).add j = ⟨g,j,none⟩:=by
 by_cases h : j = 0
 ·subst h; rfl
 ·simp [Addr.add,h]
theorem set_far {w : World} {rb i g k : Nat} {v : Value} (h : g ≠ rb) : (w.setCell ⟨rb,i,none⟩ v).cell? ⟨g,k,none⟩ = w.cell? ⟨g,k,none⟩ :=
 World.cell?_of_block (w:=w) (a:=⟨g,k,none⟩) (Below.heap_setCell w ⟨rb,i,none⟩ v g h)
theorem heap_far {w : World} {g k i : Nat} {v : Value} {o : Obj} (h : w.heap[g]? = some o) (hk : g ≠ k) : (w.setCell ⟨k,i,none⟩ v).heap[g]? = some o:=(Below.heap_setCell w ⟨k,i,none⟩ v g hk).trans h
def arcCells (a : ArcD) : List Value:=[.int .i64 a.src,.int .i64 a.inp,.int .i64 a.out,.int .i64 a.dst,.int .i64 a.wt]
def arcsV (l : List ArcD) : List Value:=l.flatMap arcCells
theorem Try.info54 : (Try.prog.info? 54).map (fun i => (i.zero,i.size,i.bytes)) = some (some (.agg #[.int .i64 0,.int .i64 0,.int .i64 0,.int .i64 0,.int .i64 0]),5,40):=by kernel_rfl
theorem oneCell_arc (a : ArcD) : ∀ u ∈ arcCells a,u.oneCell' = true:=by
 intro u hu
 simp [arcCells] at hu
 rcases hu with rfl | rfl | rfl | rfl | rfl <;> rfl
theorem arcsV_get (ars : List ArcD) (i j : Nat) (hi : i < ars.length) (hj : j < 5) : (arcsV ars)[i * 5 + j]? = (arcCells (ars.getD i a0))[j]?:=by
 induction ars generalizing i with
 | nil => simp at hi
 | cons a l ih =>
  have e : arcsV (a :: l) = arcCells a ++ arcsV l:=by simp [arcsV]
  have hl : (arcCells a).length = 5:=rfl
  rw [e]
  cases i with
  | zero => rw [Nat.zero_mul,Nat.zero_add,List.getElem?_append_left (by omega)]; rfl
  | succ i =>
   rw [List.getElem?_append_right (by omega),hl,show (i + 1) * 5 + j - 5 = i * 5 + j by omega,ih i (by simpa using hi)]
   rfl
theorem ownsRow_arcs {w : World} {B g : Nat} {v : Value} {ars : List ArcD} (h : w.ownsRow B g 5 v ars.length (arcsV ars)) : ASlice w v ars:=by
 obtain ⟨_,h⟩:=h
 rcases h with ⟨rfl,h⟩ | ⟨g,cap,cur,rfl,_,hh,h1,h2,h3,h4⟩
 ·exact Or.inl ⟨none,0,rfl,List.length_eq_zero_iff.1 h⟩
 ·have key : ∀ i j,i < ars.length -> j < 5 -> w.cell? ⟨g,0 + i * 5 + j,none⟩ = (arcCells (ars.getD i a0))[j]?:=by
   intro i j hi hj
   have h5:=arcsV_get ars i j hi hj
   rw [<- h4,List.getElem?_take,if_pos (by omega),Array.getElem?_toList] at h5
   rw [Go.Joins.cell_of_block hh,Nat.zero_add]; exact h5
  exact Or.inr ⟨g,0,ars.length,cap,rfl,⟨rfl,fun i hi => key i 0 hi (by omega),fun i hi => key i 1 hi (by omega),fun i hi => key i 2 hi (by omega),fun i hi => key i 3 hi (by omega),fun i hi => key i 4 hi (by omega)⟩,by omega⟩
theorem ownsRow_ints {w : World} {B g : Nat} {v : Value} {xs : List Int} (h : w.ownsRow B g 1 v xs.length (xs.map (Value.int .i64))) : ISlice w v xs:=by
 obtain ⟨_,h⟩:=h
 rcases h with ⟨rfl,h⟩ | ⟨g,cap,cur,rfl,_,hh,h1,h2,h3,h4⟩
 ·exact Or.inl ⟨none,0,rfl,List.length_eq_zero_iff.1 h⟩
 ·refine Or.inr ⟨g,0,xs.length,cap,rfl,⟨rfl,fun i hi => ?_⟩,by omega⟩
  have : (cur.toList.take (xs.length * 1))[i]? = some (.int .i64 (xs.getD i 0)):=by
   rw [h4]; simp [List.getD,hi]
  rw [List.getElem?_take] at this
  simp only [Nat.mul_one,hi,if_true,Array.getElem?_toList] at this
  simp [World.cell?,hh,this]
theorem gI_getD {xs : List Int} {i : Nat} (h : i < xs.length) (d : Int) : xs.getD i d = gI xs i:=by simp [gI,List.getD,h]
theorem intsW_gI {w : World} {g t i : Nat} {xs : List Int} (h : w.heap[g]? = some (.cells (intsW xs).toArray t (0,0))) (hi : i < xs.length) : w.cell? ⟨g,i,none⟩ = some (.int .i64 (gI xs i)):=by
 rw [intsW_cell h hi,gI_getD hi]
structure NumsAt (w : World) (g n : Nat) (c : List Int) : Prop where
 len : c.length = n
 cell : ∀ i,i < n -> w.cell? ⟨g,i,none⟩ = some (.int .i64 (gI c i))
 frz : ∀ i,w.frozen? ⟨g,i,none⟩ = false
 lt : g < w.heap.size
theorem NumsAt.of_block {w : World} {g t : Nat} {xs : List Int} (h : w.heap[g]? = some (.cells (intsW xs).toArray t (0,0))) : NumsAt w g xs.length xs :=
 ⟨rfl,fun _ hi => intsW_gI h hi,fun i => Go.Joins.unfrozen_of_block h i,heap_lt h⟩
theorem NumsAt.below {w w' : World} {g n : Nat} {c : List Int} (h : NumsAt w g n c) (hb : Below w.heap.size w w') : NumsAt w' g n c :=
 ⟨h.len,fun i hi => bel_c hb (h.cell i hi),fun i => (hb.frozen (p:=⟨g,i,none⟩) h.lt).trans (h.frz i),Nat.lt_of_lt_of_le h.lt hb.size⟩
theorem NumsAt.set {w : World} {g n : Nat} {c : List Int} (h : NumsAt w g n c) (i : Nat) (x : Int) (hi : i < n) : NumsAt (w.setCell ⟨g,i,none⟩ (.int .i64 x)) g n (c.set i x):=by
 refine ⟨by simpa using h.len,fun k hk => ?_,fun k => by rw [World.frozen?_setCell]; exact h.frz k,by simpa [World.setCell] using h.lt⟩
 rw [gI_set _ _ _ _ (by rw [h.len]; exact hi)]
 by_cases e : k = i
 ·subst e
  rw [if_pos rfl]
  exact World.cell?_setCell_same _ _ _ (h.cell k hk)
 ·rw [if_neg e,World.cell?_setCell_other _ _ _ _ (by intro e1; apply e; injection e1 with _ e2; exact e2.symm)]
  exact h.cell k hk
theorem NumsAt.other {w : World} {g k i n : Nat} {c : List Int} {v : Value} (h : NumsAt w g n c) (hk : g ≠ k) : NumsAt (w.setCell ⟨k,i,none⟩ v) g n c :=
 ⟨h.len,fun j hj => by rw [set_far hk]; exact h.cell j hj,fun j => by rw [World.frozen?_setCell]; exact h.frz j,by simpa [World.setCell] using h.lt⟩
theorem NumsAt.slice {w : World} {g n : Nat} {c : List Int} (h : NumsAt w g n c) (cap : Nat) (hn : n <= maxLen) : ISlice w (.slice (some ⟨g,0,none⟩) n cap) c:=by
 refine Or.inr ⟨g,0,n,cap,rfl,⟨h.len,fun i hi => ?_⟩,hn⟩
 rw [Nat.zero_add,h.cell i hi,gI_getD (by rw [h.len]; exact hi)]
theorem wrap_in (x : Int) (h1 : -9223372036854775808 <= x) (h2 : x <= 9223372036854775807) : IntKind.i64.wrap x = x:=by
 rw [IntKind.wrap_i64]
 omega
theorem set_off {w : World} {T i j : Nat} {u v : Value} (h : w.cell? ⟨T,j,none⟩ = some u) (hij : i ≠ j) : (w.setCell ⟨T,i,none⟩ v).cell? ⟨T,j,none⟩ = some u:=by
 rw [World.cell?_setCell_other _ _ _ _ (by intro e; apply hij; injection e)]
 exact h
theorem ownsRow_setCell_far {w : World} {B e size n k i : Nat} {v u : Value} {xs : List Value} (h : w.ownsRow B e size v n xs) (hv : v.ownBlock ≠ some k) : (w.setCell ⟨k,i,none⟩ u).ownsRow B e size v n xs:=by
 obtain ⟨hl,h⟩:=h
 refine ⟨hl,?_⟩
 rcases h with h | ⟨g,cap,cur,rfl,hg,hh,h1⟩
 ·exact Or.inl h
 ·refine Or.inr ⟨g,cap,cur,rfl,hg,?_,h1⟩
  rw [Below.heap_setCell _ _ _ _ (by simpa [Value.ownBlock] using hv)]; exact hh
theorem ownsRow_lt0 {w : World} {B e size n : Nat} {v : Value} {xs : List Value} (h : w.ownsRow B e size v n xs) : ∀ g,v.ownBlock = some g -> g < w.heap.size:=by
 intro g hg
 obtain ⟨_,h⟩:=h
 rcases h with ⟨rfl,_⟩ | ⟨g',cap,cur,rfl,hB,hh,_⟩
 ·simp [Value.ownBlock] at hg
 ·simp [Value.ownBlock] at hg; subst hg; exact heap_lt hh
theorem cells_new (w : World) (cs : Array Value) (t N : Nat) (hN : w.heap.size = N) : ∀ j u,cs.toList[j]? = some u -> (w.alloc (.cells cs t)).cell? ((⟨N,0,none⟩ : Addr).add j) = some u:=by
 intro j u h
 rw [addr_add]
 exact new_cell _ _ _ _ j _ hN (by simpa using h)
end Go.Proofs.Yteehgcbjmdideab
/- A heap as a list: what lifting and sinking keep. -/
namespace Go.Proofs.Yteehgcbjmdideab
section
variable {α : Type} {key : α -> Int} {d : α} {L : List α}
end
end Go.Proofs.Yteehgcbjmdideab
