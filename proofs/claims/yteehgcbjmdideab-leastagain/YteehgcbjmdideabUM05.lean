/- Spots: a state,and how many letters of two words are used; edges from spot to spot; what a pair of words costs. -/
import Derived.Test.YteehgcbjmdideabUM04
import Derived.Test.YteehgcbjmdideabUM00
import Derived.Deep.QuietTactic
import Derived.BigQuiet
namespace Go.Proofs.Yteehgcbjmdideab
def spotN (N O n i o : Nat) : Nat:=(i * (O + 1) + o) * N + n
theorem mul_add_inj {N a a' n n' : Nat} (hn : n < N) (hn' : n' < N) (h : a * N + n = a' * N + n') : a = a' /\ n = n':=by
 have e1 : (a * N + n) / N = a:=by rw [Nat.mul_comm,Nat.mul_add_div (by omega),Nat.div_eq_of_lt hn,Nat.add_zero]
 have e2 : (a' * N + n') / N = a':=by rw [Nat.mul_comm,Nat.mul_add_div (by omega),Nat.div_eq_of_lt hn',Nat.add_zero]
 have e3 : a = a':=by rw [<- e1,<- e2,h]
 subst e3
 exact ⟨rfl,by omega⟩
theorem spotN_inj {N O n i o n' i' o' : Nat} (hn : n < N) (hn' : n' < N) (ho : o <= O) (ho' : o' <= O) (h : spotN N O n i o = spotN N O n' i' o') : n = n' /\ i = i' /\ o = o':=by
 obtain ⟨h1,h2⟩:=mul_add_inj hn hn' h
 obtain ⟨h3,h4⟩:=mul_add_inj (N:=O + 1) (by omega) (by omega) h1
 exact ⟨h2,h3,h4⟩
theorem place_lt {I O i o : Nat} (hi : i <= I) (ho : o <= O) : i * (O + 1) + o < (I + 1) * (O + 1):=by
 have h:=Nat.mul_le_mul_right (O + 1) hi
 have e : (I + 1) * (O + 1) = I * (O + 1) + (O + 1):=by rw [Nat.add_mul,Nat.one_mul]
 omega
theorem mul_add_lt {N P p n : Nat} (hp : p < P) (hn : n < N) : p * N + n < P * N:=by
 have h:=Nat.mul_le_mul_right N (show p + 1 <= P by omega)
 rw [Nat.add_mul,Nat.one_mul] at h
 omega
theorem spotN_lt {N I O n i o : Nat} (hn : n < N) (hi : i <= I) (ho : o <= O) : spotN N O n i o < (I + 1) * (O + 1) * N:=mul_add_lt (place_lt hi ho) hn
def fitB (word : List Int) (used : Nat) (letter : Int) : Bool:=(letter == 0) || (decide (used < word.length) && (word.getD used 0 == letter))
def usedBy (used : Nat) (letter : Int) : Nat:=if letter = 0 then used else used + 1
theorem usedBy_le {word : List Int} {used : Nat} {letter : Int} (h : fitB word used letter = true) (hu : used <= word.length) : usedBy used letter <= word.length:=by
 unfold usedBy
 unfold fitB at h
 split
 ·exact hu
 ·rename_i hl
  simp [hl] at h
  omega
def edgeS (N : Nat) (ins outs : List Int) (i o : Nat) (a : ArcD) : Edg :=
 if (fitB ins i a.inp && fitB outs o a.out) = true then ⟨spotN N outs.length a.src.toNat i o,spotN N outs.length a.dst.toNat (usedBy i a.inp) (usedBy o a.out),a.wt⟩ else ⟨0,0,0⟩
def edK (N : Nat) (ins outs : List Int) (arcs : List ArcD) (k : Nat) : List Edg:=(List.range k).flatMap fun p => arcs.map (edgeS N ins outs (p / (outs.length + 1)) (p % (outs.length + 1)))
def edS (N : Nat) (ins outs : List Int) (arcs : List ArcD) : List Edg:=edK N ins outs arcs ((ins.length + 1) * (outs.length + 1))
theorem edK_succ (N : Nat) (ins outs : List Int) (arcs : List ArcD) (k : Nat) : edK N ins outs arcs (k + 1) = edK N ins outs arcs k ++ arcs.map (edgeS N ins outs (k / (outs.length + 1)) (k % (outs.length + 1))):=by
 simp [edK,List.range_succ]
theorem edK_len (N : Nat) (ins outs : List Int) (arcs : List ArcD) (k : Nat) : (edK N ins outs arcs k).length = k * arcs.length:=by
 induction k with
 | zero => simp [edK]
 | succ k ih => rw [edK_succ,List.length_append,ih,List.length_map,Nat.add_mul,Nat.one_mul]
theorem edK_get (N : Nat) (ins outs : List Int) (arcs : List ArcD) (k p n : Nat) (a : ArcD) (hp : p < k) (hn : arcs[n]? = some a) : (edK N ins outs arcs k)[p * arcs.length + n]? = some (edgeS N ins outs (p / (outs.length + 1)) (p % (outs.length + 1)) a):=by
 have hnl : n < arcs.length:=by
  by_cases h : n < arcs.length
  ·exact h
  ·rw [List.getElem?_eq_none (by omega)] at hn; cases hn
 induction k with
 | zero => omega
 | succ k ih =>
  rw [edK_succ]
  by_cases h : p < k
  ·rw [List.getElem?_append_left (by rw [edK_len]; exact mul_add_lt h hnl)]
   exact ih h
  ·have : p = k:=by omega
   subst this
   rw [List.getElem?_append_right (by rw [edK_len]; omega),edK_len,Nat.add_sub_cancel_left,List.getElem?_map,hn]
   rfl
theorem place_div {O i o : Nat} (ho : o <= O) : (i * (O + 1) + o) / (O + 1) = i /\ (i * (O + 1) + o) % (O + 1) = o:=by
 constructor
 ·rw [Nat.mul_comm,Nat.mul_add_div (by omega),Nat.div_eq_of_lt (by omega),Nat.add_zero]
 ·rw [Nat.mul_comm,Nat.mul_add_mod,Nat.mod_eq_of_lt (by omega)]
theorem place_of {I O p : Nat} (hp : p < (I + 1) * (O + 1)) : p / (O + 1) <= I /\ p % (O + 1) <= O /\ p / (O + 1) * (O + 1) + p % (O + 1) = p:=by
 have h1 : p / (O + 1) < I + 1:=Nat.div_lt_of_lt_mul (by rw [Nat.mul_comm]; exact hp)
 have h2 : p % (O + 1) < O + 1:=Nat.mod_lt _ (by omega)
 have h3:=Nat.div_add_mod p (O + 1)
 rw [Nat.mul_comm] at h3
 exact ⟨by omega,by omega,h3⟩
theorem edS_get {N : Nat} {ins outs : List Int} {arcs : List ArcD} {i o n : Nat} {a : ArcD} (hi : i <= ins.length) (ho : o <= outs.length) (hn : arcs[n]? = some a) : (edS N ins outs arcs)[(i * (outs.length + 1) + o) * arcs.length + n]? = some (edgeS N ins outs i o a):=by
 have:=edK_get N ins outs arcs _ _ n a (place_lt hi ho) hn
 rw [(place_div ho).1,(place_div ho).2] at this
 exact this
theorem edS_mem {N : Nat} {ins outs : List Int} {arcs : List ArcD} {e : Edg} : e ∈ edS N ins outs arcs ↔ ∃ i o a,i <= ins.length /\ o <= outs.length /\ a ∈ arcs /\ e = edgeS N ins outs i o a:=by
 unfold edS edK
 rw [List.mem_flatMap]
 constructor
 ·rintro ⟨p,hp,he⟩
  obtain ⟨a,ha,rfl⟩:=List.mem_map.1 he
  obtain ⟨h1,h2,_⟩:=place_of (List.mem_range.1 hp)
  exact ⟨_,_,a,h1,h2,ha,rfl⟩
 ·rintro ⟨i,o,a,hi,ho,ha,rfl⟩
  refine ⟨i * (outs.length + 1) + o,List.mem_range.2 (place_lt hi ho),List.mem_map.2 ⟨a,ha,?_⟩⟩
  rw [(place_div ho).1,(place_div ho).2]
def bgS (s T : Nat) : List Int:=(List.range T).map fun v => if v = s then 0 else -1
theorem bgS_len (s T : Nat) : (bgS s T).length = T:=by simp [bgS]
theorem bgS_at (s T v : Nat) : gI (bgS s T) v = if v = s /\ v < T then 0 else -1:=by
 unfold gI bgS
 by_cases hv : v < T
 ·simp [List.getD,hv]
 ·simp [List.getD,hv]
def finS (T N : Nat) (fin : List Int) (u : Nat) : Int:=if T - N <= u then gI fin (u - (T - N)) else -1
theorem spotN_end (N I O n : Nat) : spotN N O n I O = (I + 1) * (O + 1) * N - N + n:=by
 have e : (I + 1) * (O + 1) = (I * (O + 1) + O) + 1:=by rw [Nat.add_mul,Nat.one_mul]; omega
 unfold spotN
 rw [e,Nat.add_mul (I * (O + 1) + O) 1 N,Nat.one_mul]
 omega
theorem finS_end (N I O n : Nat) (fin : List Int) : finS ((I + 1) * (O + 1) * N) N fin (spotN N O n I O) = gI fin n:=by
 unfold finS
 rw [spotN_end N I O n,if_pos (by omega),Nat.add_sub_cancel_left]
theorem finS_no (N I O n i o : Nat) (fin : List Int) (hn : n < N) (hi : i <= I) (ho : o <= O) (h : i < I \/ o < O) : finS ((I + 1) * (O + 1) * N) N fin (spotN N O n i o) = -1:=by
 unfold finS
 rw [if_neg]
 intro hle
 have hp : i * (O + 1) + o < I * (O + 1) + O:=by
  have h1:=Nat.mul_le_mul_right (O + 1) hi
  rcases h with h | h
  ·have h2:=Nat.mul_le_mul_right (O + 1) (show i + 1 <= I by omega)
   rw [Nat.add_mul,Nat.one_mul] at h2
   omega
  ·omega
 have h3:=mul_add_lt (N:=N) hp hn
 have e : (I + 1) * (O + 1) = (I * (O + 1) + O) + 1:=by rw [Nat.add_mul,Nat.one_mul]; omega
 rw [e,Nat.add_mul (I * (O + 1) + O) 1 N,Nat.one_mul] at hle
 unfold spotN at hle
 omega
end Go.Proofs.Yteehgcbjmdideab
/- What the document's tables hold: place by place,along arcs that say something,then along silent ones till nothing is better. -/
namespace Go.Proofs.Yteehgcbjmdideab
def segL (c : List Int) (N p : Nat) : List Int:=(c.drop (p * N)).take N
theorem segL_at (c : List Int) (N p n : Nat) (hn : n < N) : gI (segL c N p) n = gI c (p * N + n):=by
 unfold gI segL
 simp [List.getD,hn]
end Go.Proofs.Yteehgcbjmdideab
/- Arcs that stand by where they begin: the number of the first arc of each state. Edges from spot to spot,their bounds. -/
namespace Go.Proofs.Yteehgcbjmdideab
def SortedA : List ArcD -> Prop
 | [] => True
 | a :: l => (∀ x ∈ l,a.src <= x.src) /\ SortedA l
theorem ahead_src {a b : ArcD} (h : aheadB a b = true) : a.src <= b.src:=by
 unfold aheadB at h
 split at h
 ·have:=of_decide_eq_true h; omega
 ·rename_i he
  have : a.src = b.src:=Classical.byContradiction fun hn => he hn
  omega
theorem arcsErr_sorted (st : Int) (l : List ArcD) (p : Option ArcD) (h : arcsErr st p l = 0) : SortedA l /\ ∀ q,p = some q -> ∀ x ∈ l,q.src <= x.src:=by
 induction l generalizing p with
 | nil => exact ⟨trivial,fun _ _ x hx => by cases hx⟩
 | cons a l ih =>
  unfold arcsErr at h
  split at h
  ·rename_i h0
   obtain ⟨h1,h2⟩:=ih (some a) h
   refine ⟨⟨h2 a rfl,h1⟩,fun q hq x hx => ?_⟩
   have hqa : q.src <= a.src:=by
    subst hq
    unfold arcErr at h0
    split at h0
    ·cases h0
    ·split at h0
     ·cases h0
     ·simp only at h0
      split at h0
      ·rename_i ha; exact ahead_src ha
      ·cases h0
   rcases List.mem_cons.1 hx with rfl | hx
   ·exact hqa
   ·have:=h2 a rfl x hx; omega
  ·rename_i h0; exact absurd h h0
def cntB (l : List ArcD) (s : Nat) : Nat:=(l.filter fun a => decide (a.src < (s : Int))).length
theorem cntB_le (l : List ArcD) (s : Nat) : cntB l s <= l.length:=List.length_filter_le _ _
theorem cntB_zero (l : List ArcD) (h : ∀ a ∈ l,0 <= a.src) : cntB l 0 = 0:=by
 unfold cntB
 rw [List.length_eq_zero_iff,List.filter_eq_nil_iff]
 intro a ha
 have:=h a ha
 simp
 omega
theorem SortedA.at {l : List ArcD} (h : SortedA l) (s k : Nat) (a : ArcD) (hk : l[k]? = some a) : k < cntB l s ↔ a.src < (s : Int):=by
 induction l generalizing k with
 | nil => simp at hk
 | cons b l ih =>
  obtain ⟨h1,h2⟩:=h
  unfold cntB
  by_cases hb : b.src < (s : Int)
  ·rw [List.filter_cons_of_pos (by simpa using hb),List.length_cons]
   cases k with
   | zero =>
    simp at hk; subst hk
    exact ⟨fun _ => hb,fun _ => by omega⟩
   | succ k =>
    have:=ih h2 k (by simpa using hk)
    unfold cntB at this
    omega
  ·have hn : (b :: l).filter (fun a => decide (a.src < (s : Int))) = []:=by
    rw [List.filter_eq_nil_iff]
    intro x hx
    rcases List.mem_cons.1 hx with rfl | hx
    ·simpa using hb
    ·have:=h1 x hx
     simp; omega
   rw [hn]
   have ha : a ∈ b :: l:=List.mem_of_getElem? hk
   have : b.src <= a.src:=by
    rcases List.mem_cons.1 ha with rfl | ha
    ·exact Int.le_refl _
    ·exact h1 a ha
   simp
   omega
theorem SortedA.of {l : List ArcD} (h : SortedA l) (s k : Nat) (a : ArcD) (hk : l[k]? = some a) : (cntB l s <= k /\ k < cntB l (s + 1)) ↔ a.src = (s : Int):=by
 have h1:=h.at s k a hk
 have h2:=h.at (s + 1) k a hk
 omega
section
variable {N : Nat} {ins outs : List Int} {arcs : List ArcD}
theorem edS_bounds (hN : 1 <= N) (hok : ∀ a ∈ arcs,(0 <= a.src /\ a.src < N) /\ (0 <= a.dst /\ a.dst < N) /\ (0 <= a.wt /\ a.wt <= 1000000000)) : ∀ e ∈ edS N ins outs arcs,e.v < (ins.length + 1) * (outs.length + 1) * N /\ 0 <= e.w /\ e.w <= 1000000000:=by
 intro e he
 obtain ⟨i,o,a,hi,ho,ha,rfl⟩:=edS_mem.1 he
 obtain ⟨_,h2,h3⟩:=hok a ha
 unfold edgeS
 split
 ·rename_i hf
  rw [Bool.and_eq_true] at hf
  exact ⟨spotN_lt (by omega) (usedBy_le hf.1 hi) (usedBy_le hf.2 ho),h3⟩
 ·refine ⟨?_,by decide,by decide⟩
  have:=spotN_lt (N:=N) (n:=0) (i:=0) (o:=0) (by omega) (Nat.zero_le ins.length) (Nat.zero_le outs.length)
  show 0 < _
  omega
theorem edS_from {n i o : Nat} (hn : n < N) (ho : o <= outs.length) (hok : ∀ a ∈ arcs,(0 <= a.src /\ a.src < N) /\ (0 <= a.dst /\ a.dst < N) /\ (0 <= a.wt /\ a.wt <= 1000000000)) {e : Edg} (he : e ∈ edS N ins outs arcs) (hu : e.u = spotN N outs.length n i o) :
  e = ⟨0,0,0⟩ \/ ∃ (k : Nat) (a : ArcD),arcs[k]? = some a /\ a.src = (n : Int) /\ (fitB ins i a.inp && fitB outs o a.out) = true /\ e = edgeS N ins outs i o a:=by
 obtain ⟨i',o',a,hi',ho',ha,rfl⟩:=edS_mem.1 he
 obtain ⟨h1,_,_⟩:=hok a ha
 by_cases hf : (fitB ins i' a.inp && fitB outs o' a.out) = true
 ·right
  unfold edgeS at hu
  rw [if_pos hf] at hu
  obtain ⟨h3,rfl,rfl⟩:=spotN_inj (by omega) hn ho' ho hu
  obtain ⟨k,hk⟩:=List.getElem?_of_mem ha
  exact ⟨k,a,hk,by omega,hf,rfl⟩
 ·left
  unfold edgeS
  rw [if_neg hf]
theorem rlx_zero {c : List Int} (h : 0 <= gI c 0) : Rlx c ⟨0,0,0⟩:=⟨h,by simp⟩
end
end Go.Proofs.Yteehgcbjmdideab
/- 'use' of package score: a letter behind those that are used already. -/
namespace Go.Proofs.Yteehgcbjmdideab
open Go.RowKit
attribute [local go_sem ↓] Go.wp_at_zero Go.wp_at_succ
theorem ret_use {x y : Int} {r s : Bool} (h1 : x = y) (h2 : r = s) : Ending.returned (.tuple #[.int .i64 x,.bool r]) = .returned (.tuple #[.int .i64 y,.bool s]):=by rw [h1,h2]
set_option maxHeartbeats 1000000 in
theorem use_any (ws : List Int) (a : Option Addr) (n c used : Nat) (letter : Int) (w : World) (h : ISlice w (.slice a n c) ws) (hl : ws.length = n) (hn : n <= 40) (hu : used <= n) :
  Calls Try.prog 113 #[.slice a n c,.int .i64 used,.int .i64 letter] w fun e w' => e = .returned (.tuple #[.int .i64 (usedBy used letter : Nat),.bool (fitB ws used letter)]) /\ Below w.heap.size w w':=by
 by_cases h0 : letter = 0
 ·subst h0
  go_enter Try.func113,Try.ntmps113
  go_wp2
  go_ret2
  exact ⟨ret_use (by simp [usedBy]) (by simp [fitB]),bel_self _⟩
 ·have h0b : (letter == 0) = false:=by simpa using h0
  have HU : Hid (((usedBy used letter : Nat) : Int) = used + 1):=(by simp [usedBy,h0] : ((usedBy used letter : Nat) : Int) = used + 1)
  by_cases hlt : used < n
  ·obtain ⟨b,off,rfl,hx⟩:=h.some (by omega)
   have c0:=hx.cell used hlt
   obtain ⟨x,hxd⟩ : ∃ x,x = ws.getD used 0:=⟨_,rfl⟩
   rw [<- hxd] at c0
   have HX : Hid (fitB ws used letter = (x == letter)):=(by rw [hxd]; simp [fitB,h0,hl,hlt] : fitB ws used letter = (x == letter))
   have hd : decide ((used : Int) < n) = true:=by simpa using hlt
   have hi : (used : Int) < n:=by omega
   clear hxd h0 hx
   go_enter Try.func113,Try.ntmps113
   go_wp2
   go_quiet (fail)
   go_wp2
   go_ret2
   exact ⟨ret_use HU.out.symm HX.out.symm,bel_drewN (bel_self w) _⟩
  ·have HX : Hid (fitB ws used letter = false):=(by simp [fitB,h0,hl,hlt] : fitB ws used letter = false)
   have hd : decide ((used : Int) < n) = false:=by simpa using hlt
   have hi : (n : Int) <= used:=by omega
   clear h0
   go_enter Try.func113,Try.ntmps113
   go_wp2
   go_quiet (fail)
   go_wp2
   go_ret2
   exact ⟨ret_use HU.out.symm HX.out.symm,bel_drewN (bel_self w) _⟩
end Go.Proofs.Yteehgcbjmdideab
/- What the search's map and queue hold,as prices of spots. -/
namespace Go.Proofs.Yteehgcbjmdideab
open Go.RowKit
def eP (N O : Nat) (p : PlD) : Nat:=spotN N O p.st p.rd p.wt
def arcOf (m : Nat) (z : Int) : Int:=if z = -1 then -1 else z % (m : Int)
def MsOk (N I O m : Nat) (c y : List Int) (ms : List MetD) : Prop :=
 ∀ n i o,n < N -> i <= I -> o <= O -> lookM n i o ms = if gI c (spotN N O n i o) = -1 then none else some ⟨n,i,o,gI c (spotN N O n i o),arcOf m (gI y (spotN N O n i o))⟩
theorem MsOk.put {N I O m : Nat} {c y : List Int} {ms : List MetD} (h : MsOk N I O m c y ms) {n i o : Nat} (hn : n < N) (hi : i <= I) (ho : o <= O) (hc : c.length = (I + 1) * (O + 1) * N) (hy : y.length = c.length) {x : Int} (hx : 0 <= x) {j k : Nat} (hj : j % m = k) :
  MsOk N I O m (c.set (spotN N O n i o) x) (y.set (spotN N O n i o) (j : Int)) (putM ⟨n,i,o,x,(k : Int)⟩ ms):=by
 have hu : spotN N O n i o < c.length:=by rw [hc]; exact spotN_lt hn hi ho
 intro n' i' o' hn' hi' ho'
 rw [lookM_put,gI_set c _ _ _ hu,gI_set y _ _ _ (by rw [hy]; exact hu)]
 by_cases he : n = n' /\ i = i' /\ o = o'
 ·obtain ⟨rfl,rfl,rfl⟩:=he
  rw [if_pos ⟨rfl,rfl,rfl⟩,if_pos rfl,if_pos rfl,if_neg (by omega)]
  have e : arcOf m (j : Int) = (k : Int):=by
   unfold arcOf
   rw [if_neg (by omega),<- hj]
   omega
  rw [e]
 ·rw [if_neg he]
  have hne : ¬ spotN N O n' i' o' = spotN N O n i o:=fun e => by
   obtain ⟨h1,h2,h3⟩:=spotN_inj hn' hn ho' ho e
   exact he ⟨h1.symm,h2.symm,h3.symm⟩
  rw [if_neg hne,if_neg hne]
  exact h n' i' o' hn' hi' ho'
section
variable (f : FstD) (ins outs : List Int) (N : Nat)
def totS : Nat:=(ins.length + 1) * (outs.length + 1) * N
def EdS : List Edg:=edS N ins outs f.arcs
end
structure SGh (f : FstD) (ins outs : List Int) (N s0 : Nat) (c y : List Int) (ms : List MetD) (L : List PlD) (best : Int) (x0 : Nat) (D : List Nat) (lo : Int) : Prop where
 si : SI (EdS f ins outs N) (bgS s0 (totS ins outs N)) (finS (totS ins outs N) N f.final) (eP N outs.length) PlD.cost c y L best x0
 sd : SD (eP N outs.length) PlD.cost c L D lo
 mo : MsOk N ins.length outs.length f.arcs.length c y ms
 vd : ∀ p ∈ L,p.st < N /\ p.rd <= ins.length /\ p.wt <= outs.length
 cl : c.length = totS ins outs N
structure OkW (f : FstD) (ins outs : List Int) (N s0 : Nat) : Prop where
 n1 : 1 <= N
 n2 : N <= 200
 s : s0 < N
 i40 : ins.length <= 40
 o40 : outs.length <= 40
 many : f.arcs.length <= 3000
 arcs : ∀ a ∈ f.arcs,(0 <= a.src /\ a.src < N) /\ (0 <= a.dst /\ a.dst < N) /\ (0 <= a.wt /\ a.wt <= 1000000000)
 sort : SortedA f.arcs
 len : f.final.length = N
 fin : ∀ x ∈ f.final,x = -1 \/ (0 <= x /\ x <= 1000000000)
section
variable {f : FstD} {ins outs : List Int} {N s0 : Nat} {c y : List Int} {ms : List MetD} {L : List PlD} {best : Int} {x0 : Nat} {D : List Nat} {lo : Int}
theorem OkW.tot (h : OkW f ins outs N s0) : totS ins outs N <= 400000:=by
 unfold totS
 have h1 : (ins.length + 1) * (outs.length + 1) <= 41 * 41:=Nat.mul_le_mul (by have:=h.i40; omega) (by have:=h.o40; omega)
 have h2:=Nat.mul_le_mul h1 h.n2
 omega
theorem OkW.edges (h : OkW f ins outs N s0) : ∀ e ∈ EdS f ins outs N,e.v < totS ins outs N /\ 0 <= e.w /\ e.w <= 1000000000:=edS_bounds h.n1 h.arcs
theorem SGh.perm {L' : List PlD} (h : SGh f ins outs N s0 c y ms L best x0 D lo) (hp : L.Perm L') : SGh f ins outs N s0 c y ms L' best x0 D lo :=
 ⟨h.si.perm hp,h.sd.perm hp,h.mo,fun p hm => h.vd p (hp.mem_iff.2 hm),h.cl⟩
theorem SGh.look (h : SGh f ins outs N s0 c y ms L best x0 D lo) {n i o : Nat} (hn : n < N) (hi : i <= ins.length) (ho : o <= outs.length) :
  (gI c (spotN N outs.length n i o) = -1 /\ lookM n i o ms = none) \/ (0 <= gI c (spotN N outs.length n i o) /\ lookM n i o ms = some ⟨n,i,o,gI c (spotN N outs.length n i o),arcOf f.arcs.length (gI y (spotN N outs.length n i o))⟩):=by
 have h1:=h.mo n i o hn hi ho
 have h2:=h.si.inv.lo (spotN N outs.length n i o)
 by_cases e : gI c (spotN N outs.length n i o) = -1
 ·rw [if_pos e] at h1
  exact Or.inl ⟨e,h1⟩
 ·rw [if_neg e] at h1
  exact Or.inr ⟨by omega,h1⟩
theorem SGh.go {n i o k : Nat} {a : ArcD} (hok : OkW f ins outs N s0) (h : SGh f ins outs N s0 c y ms L best (spotN N outs.length n i o) D lo) (hi : i <= ins.length) (ho : o <= outs.length) (hk : f.arcs[k]? = some a) (hs : a.src = (n : Int)) (hfit : (fitB ins i a.inp && fitB outs o a.out) = true)
  (hx : gI c (spotN N outs.length n i o) = lo) (hx0 : 0 <= lo) {t : Nat} (ht : a.dst = (t : Int)) {c' : Int} (hc' : gI c (spotN N outs.length t (usedBy i a.inp) (usedBy o a.out)) = c') :
  (¬ (c' = -1 \/ lo + a.wt < c') -> Rlx c (edgeS N ins outs i o a)) /\
  ((c' = -1 \/ lo + a.wt < c') -> ∃ c2 y2,SGh f ins outs N s0 c2 y2 (putM ⟨t,usedBy i a.inp,usedBy o a.out,lo + a.wt,(k : Int)⟩ ms) (⟨t,usedBy i a.inp,usedBy o a.out,lo + a.wt⟩ :: L) best (spotN N outs.length n i o) D lo /\ gI c2 (spotN N outs.length n i o) = lo /\ LeC c2 c /\ Rlx c2 (edgeS N ins outs i o a)):=by
 have hmem:=List.mem_of_getElem? hk
 obtain ⟨⟨s1,s2⟩,⟨d1,d2⟩,w1,w2⟩:=hok.arcs a hmem
 have htN : t < N:=by omega
 rw [Bool.and_eq_true] at hfit
 have hi':=usedBy_le hfit.1 hi
 have ho':=usedBy_le hfit.2 ho
 have he : edgeS N ins outs i o a = ⟨spotN N outs.length n i o,spotN N outs.length t (usedBy i a.inp) (usedBy o a.out),a.wt⟩:=by
  unfold edgeS
  rw [if_pos (by rw [Bool.and_eq_true]; exact hfit),hs,ht,Int.toNat_natCast,Int.toNat_natCast]
 have hj:=edS_get (N:=N) (outs:=outs) hi ho hk
 rw [he] at hj
 have hkm : k < f.arcs.length:=by
  obtain ⟨h1,_⟩:=List.getElem?_eq_some_iff.1 hk
  exact h1
 refine ⟨fun hbt => ?_,fun hbt => ?_⟩
 ·rw [he]
  exact rlx_no hx (h.si.inv.lo _) (by rw [hc']; exact hbt)
 ·have hvT : spotN N outs.length t (usedBy i a.inp) (usedBy o a.out) < totS ins outs N:=spotN_lt htN hi' ho'
  have hm:=h.si.meet (e:=⟨spotN N outs.length n i o,spotN N outs.length t (usedBy i a.inp) (usedBy o a.out),a.wt⟩) (q:=⟨t,usedBy i a.inp,usedBy o a.out,lo + a.wt⟩) (x:=lo) (by rw [bgS_len]; exact hok.tot) hj (by rw [bgS_len]; exact hvT) w1 w2 hx hx0 (by show gI c (spotN N outs.length t (usedBy i a.inp) (usedBy o a.out)) = -1 \/ _; rw [hc']; exact hbt) rfl rfl
  refine ⟨_,_,⟨hm.1,h.sd.meet (by rw [h.cl]; exact hvT) w1 (by rw [hc']; exact hbt) rfl rfl (fun p hp => h.si.heap p hp),?_,fun p hp => ?_,by rw [List.length_set]; exact h.cl⟩,hm.2.2.1,hm.2.2.2.1,by rw [he]; exact hm.2.2.2.2⟩
  ·exact h.mo.put (x:=lo + a.wt) htN hi' ho' h.cl (by rw [h.si.inv.ylen,h.si.inv.len]) (by omega) (by rw [Nat.mul_comm,Nat.mul_add_mod]; exact Nat.mod_eq_of_lt hkm)
  ·rcases List.mem_cons.1 hp with rfl | hp
   ·exact ⟨htN,hi',ho'⟩
   ·exact h.vd p hp
end
end Go.Proofs.Yteehgcbjmdideab
/- Ways through a transducer by two words: a state,how many letters are used,what it cost. What a pair of words costs,told by them. -/
namespace Go.Proofs.Yteehgcbjmdideab
def PathN (f : FstD) (ins outs : List Int) (s0 : Nat) : Nat -> Nat -> Nat -> Nat -> Int -> Prop
 | 0,n,i,o,z => n = s0 /\ i = 0 /\ o = 0 /\ z = 0
 | h + 1,n,i,o,z => ∃ a ∈ f.arcs,∃ n' i' o' z',PathN f ins outs s0 h n' i' o' z' /\ a.src = (n' : Int) /\ a.dst = (n : Int) /\ fitB ins i' a.inp = true /\ fitB outs o' a.out = true /\ i = usedBy i' a.inp /\ o = usedBy o' a.out /\ z = z' + a.wt
def TotP (f : FstD) (ins outs : List Int) (s0 : Nat) (x : Int) : Prop :=
 ∃ h n z,PathN f ins outs s0 h n ins.length outs.length z /\ 0 <= gI f.final n /\ x = z + gI f.final n
def BestP (f : FstD) (ins outs : List Int) (s0 : Nat) (x : Int) : Prop :=
 (x = -1 /\ ∀ y,¬ TotP f ins outs s0 y) \/ (0 <= x /\ TotP f ins outs s0 x /\ ∀ y,TotP f ins outs s0 y -> x <= y)
theorem BestP.unique {f : FstD} {ins outs : List Int} {s0 : Nat} {x z : Int} (h : BestP f ins outs s0 x) (h' : BestP f ins outs s0 z) : x = z:=by
 rcases h with ⟨rfl,h1⟩ | ⟨_,h1,h2⟩
 ·rcases h' with ⟨rfl,_⟩ | ⟨_,h3,_⟩
  ·rfl
  ·exact absurd h3 (h1 _)
 ·rcases h' with ⟨rfl,h3⟩ | ⟨_,h3,h4⟩
  ·exact absurd h1 (h3 _)
  ·have:=h2 _ h3
   have:=h4 _ h1
   omega
theorem BestP.of_tot {f g : FstD} {ins outs ins' outs' : List Int} {s0 t0 : Nat} {x : Int} (h : BestP f ins outs s0 x) (he : ∀ y,TotP f ins outs s0 y ↔ TotP g ins' outs' t0 y) : BestP g ins' outs' t0 x:=by
 rcases h with ⟨h1,h2⟩ | ⟨h1,h2,h3⟩
 ·exact Or.inl ⟨h1,fun y hy => h2 y ((he y).2 hy)⟩
 ·exact Or.inr ⟨h1,(he x).1 h2,fun y hy => h3 y ((he y).2 hy)⟩
section
variable {f : FstD} {ins outs : List Int} {N s0 : Nat}
theorem PathN.le {h n i o : Nat} {z : Int} (hp : PathN f ins outs s0 h n i o z) : i <= ins.length /\ o <= outs.length:=by
 induction h generalizing n i o z with
 | zero => obtain ⟨_,rfl,rfl,_⟩:=hp; exact ⟨Nat.zero_le _,Nat.zero_le _⟩
 | succ h ih =>
  obtain ⟨a,_,n',i',o',z',hp',_,_,h1,h2,rfl,rfl,_⟩:=hp
  obtain ⟨g1,g2⟩:=ih hp'
  exact ⟨usedBy_le h1 g1,usedBy_le h2 g2⟩
theorem PathN.lt (hs : s0 < N) (ha : ∀ a ∈ f.arcs,0 <= a.dst /\ a.dst < N) {h n i o : Nat} {z : Int} (hp : PathN f ins outs s0 h n i o z) : n < N:=by
 cases h with
 | zero => obtain ⟨rfl,_⟩:=hp; exact hs
 | succ h =>
  obtain ⟨a,hm,_,_,_,_,_,_,hd,_⟩:=hp
  have:=ha a hm
  omega
theorem way_path (hok : OkW f ins outs N s0) {h v : Nat} {z : Int} (hw : WayN (EdS f ins outs N) (bgS s0 (totS ins outs N)) h v z) :
  ∃ h' n i o,n < N /\ i <= ins.length /\ o <= outs.length /\ v = spotN N outs.length n i o /\ PathN f ins outs s0 h' n i o z:=by
 induction h generalizing v z with
 | zero =>
  obtain ⟨h1,h2⟩:=hw
  rw [bgS_at] at h1
  split at h1
  ·rename_i hv
   refine ⟨0,s0,0,0,hok.s,Nat.zero_le _,Nat.zero_le _,?_,rfl,rfl,rfl,h1.symm⟩
   rw [hv.1]
   unfold spotN
   omega
  ·omega
 | succ h ih =>
  obtain ⟨e,he,rfl,c,hc,rfl⟩:=hw
  obtain ⟨h',n,i,o,hn,hi,ho,hu,hp⟩:=ih hc
  obtain ⟨i',o',a,hi',ho',ha,rfl⟩:=edS_mem.1 he
  obtain ⟨⟨p1,p2⟩,⟨p3,p4⟩,_⟩:=hok.arcs a ha
  by_cases hf : (fitB ins i' a.inp && fitB outs o' a.out) = true
  ·have hE : edgeS N ins outs i' o' a = ⟨spotN N outs.length a.src.toNat i' o',spotN N outs.length a.dst.toNat (usedBy i' a.inp) (usedBy o' a.out),a.wt⟩:=by unfold edgeS; rw [if_pos hf]
   rw [hE] at hu ⊢
   rw [Bool.and_eq_true] at hf
   obtain ⟨e1,e2,e3⟩:=spotN_inj (by omega) hn ho' ho hu
   subst e1 e2 e3
   exact ⟨h' + 1,a.dst.toNat,usedBy i' a.inp,usedBy o' a.out,by omega,usedBy_le hf.1 hi',usedBy_le hf.2 ho',rfl,a,ha,a.src.toNat,i',o',c,hp,by omega,by omega,hf.1,hf.2,rfl,rfl,rfl⟩
  ·have hE : edgeS N ins outs i' o' a = ⟨0,0,0⟩:=by unfold edgeS; rw [if_neg hf]
   rw [hE] at hu ⊢
   exact ⟨h',n,i,o,hn,hi,ho,hu,by rw [Int.add_zero]; exact hp⟩
theorem path_way (hok : OkW f ins outs N s0) {h n i o : Nat} {z : Int} (hp : PathN f ins outs s0 h n i o z) : WayN (EdS f ins outs N) (bgS s0 (totS ins outs N)) h (spotN N outs.length n i o) z:=by
 induction h generalizing n i o z with
 | zero =>
  obtain ⟨rfl,rfl,rfl,rfl⟩:=hp
  refine ⟨?_,by decide⟩
  have e : spotN N outs.length n 0 0 = n:=by unfold spotN; omega
  have hl:=spotN_lt (N:=N) (n:=n) (i:=0) (o:=0) hok.s (Nat.zero_le ins.length) (Nat.zero_le outs.length)
  rw [e] at hl
  rw [e,bgS_at,if_pos ⟨rfl,hl⟩]
 | succ h ih =>
  obtain ⟨a,hm,n',i',o',z',hp',hs,hd,h1,h2,rfl,rfl,rfl⟩:=hp
  obtain ⟨g1,g2⟩:=hp'.le
  refine ⟨edgeS N ins outs i' o' a,edS_mem.2 ⟨i',o',a,g1,g2,hm,rfl⟩,?_,z',?_,?_⟩
  ·unfold edgeS
   rw [if_pos (by rw [Bool.and_eq_true]; exact ⟨h1,h2⟩),hd,Int.toNat_natCast]
  ·have:=ih hp'
   unfold edgeS
   rw [if_pos (by rw [Bool.and_eq_true]; exact ⟨h1,h2⟩),hs,Int.toNat_natCast]
   exact this
  ·unfold edgeS
   rw [if_pos (by rw [Bool.and_eq_true]; exact ⟨h1,h2⟩)]
theorem best_path (hok : OkW f ins outs N s0) {x : Int} : IsBest (EdS f ins outs N) (bgS s0 (totS ins outs N)) (finS (totS ins outs N) N f.final) x ↔ BestP f ins outs s0 x:=by
 have key : ∀ y,(∃ v h z,WayN (EdS f ins outs N) (bgS s0 (totS ins outs N)) h v z /\ 0 <= finS (totS ins outs N) N f.final v /\ y = z + finS (totS ins outs N) N f.final v) ↔ TotP f ins outs s0 y:=by
  intro y
  constructor
  ·rintro ⟨v,h,z,hw,hf,rfl⟩
   obtain ⟨h',n,i,o,hn,hi,ho,rfl,hp⟩:=way_path hok hw
   by_cases hend : i = ins.length /\ o = outs.length
   ·obtain ⟨rfl,rfl⟩:=hend
    have e : finS (totS ins outs N) N f.final (spotN N outs.length n ins.length outs.length) = gI f.final n:=finS_end N ins.length outs.length n f.final
    rw [e] at hf ⊢
    exact ⟨h',n,z,hp,hf,rfl⟩
   ·have e : finS (totS ins outs N) N f.final (spotN N outs.length n i o) = -1:=finS_no N ins.length outs.length n i o f.final hn hi ho (by omega)
    rw [e] at hf
    omega
  ·rintro ⟨h,n,z,hp,hf,rfl⟩
   have e : finS (totS ins outs N) N f.final (spotN N outs.length n ins.length outs.length) = gI f.final n:=finS_end N ins.length outs.length n f.final
   exact ⟨_,h,z,path_way hok hp,by rw [e]; exact hf,by rw [e]⟩
 constructor
 ·rintro (⟨h1,h2⟩ | ⟨h1,h2,h3⟩)
  ·exact Or.inl ⟨h1,fun y hy => by obtain ⟨v,h,z,hw,hf,_⟩:=(key y).2 hy; exact h2 v h z hw hf⟩
  ·obtain ⟨v,h,z,hw,hf,e⟩:=h2
   refine Or.inr ⟨h1,(key x).1 ⟨v,h,z,hw,hf,e⟩,fun y hy => ?_⟩
   obtain ⟨v,h,z,hw,hf,e⟩:=(key y).2 hy
   have:=h3 v h z hw hf
   omega
 ·rintro (⟨h1,h2⟩ | ⟨h1,h2,h3⟩)
  ·exact Or.inl ⟨h1,fun v h z hw hf => h2 _ ((key _).1 ⟨v,h,z,hw,hf,rfl⟩)⟩
  ·exact Or.inr ⟨h1,(key x).2 h2,fun v h z hw hf => h3 _ ((key _).1 ⟨v,h,z,hw,hf,rfl⟩)⟩
end
end Go.Proofs.Yteehgcbjmdideab
/- Arcs in their order,each ahead of all behind it; what Check passes. -/
namespace Go.Proofs.Yteehgcbjmdideab
theorem ahead_iff (a b : ArcD) : aheadB a b = true ↔ a.src < b.src \/ (a.src = b.src /\ (a.inp < b.inp \/ (a.inp = b.inp /\ (a.out < b.out \/ (a.out = b.out /\ a.dst < b.dst))))):=by
 unfold aheadB
 by_cases h0 : a.src = b.src
 ·rw [if_neg (by simpa using h0)]
  by_cases h1 : a.inp = b.inp
  ·rw [if_neg (by simpa using h1)]
   by_cases h2 : a.out = b.out
   ·rw [if_neg (by simpa using h2),decide_eq_true_iff]
    omega
   ·rw [if_pos h2,decide_eq_true_iff]
    omega
  ·rw [if_pos h1,decide_eq_true_iff]
   omega
 ·rw [if_pos h0,decide_eq_true_iff]
  omega
theorem ahead_trans {a b c : ArcD} (h1 : aheadB a b = true) (h2 : aheadB b c = true) : aheadB a c = true:=by
 rw [ahead_iff] at *
 omega
theorem arcErr_mk {st : Int} {p : Option ArcD} {a : ArcD} (h : ArcOk st a) (hp : ∀ q,p = some q -> aheadB q a = true) : arcErr st p a = 0:=by
 unfold arcErr
 rw [h.src,h.dst,h.inp,h.out,h.wt]
 cases p with
 | none => rfl
 | some q => simp [hp q rfl]
theorem arcErr_ahead {st : Int} {q a : ArcD} (h : arcErr st (some q) a = 0) : aheadB q a = true:=by
 have k:=arcErr_ok _ _ _ h
 unfold arcErr at h
 rw [k.src,k.dst,k.inp,k.out,k.wt] at h
 cases e : aheadB q a with
 | true => rfl
 | false => simp [e] at h
theorem arcsErr_mk {st : Int} (l : List ArcD) : ∀ (p : Option ArcD),(∀ a ∈ l,ArcOk st a) -> l.Pairwise (fun a b => aheadB a b = true) -> (∀ q,p = some q -> ∀ x ∈ l,aheadB q x = true) -> arcsErr st p l = 0:=by
 induction l with
 | nil => intro p _ _ _; rfl
 | cons a l ih =>
  intro p h1 h2 h3
  rw [List.pairwise_cons] at h2
  rw [arcsErr,if_pos (arcErr_mk (h1 a (by simp)) (fun q hq => h3 q hq a (by simp)))]
  refine ih _ (fun b hb => h1 b (by simp [hb])) h2.2 (fun q hq x hx => ?_)
  injection hq with hq
  subst hq
  exact h2.1 x hx
theorem arcsErr_order {st : Int} (l : List ArcD) : ∀ (p : Option ArcD),arcsErr st p l = 0 -> l.Pairwise (fun a b => aheadB a b = true) /\ ∀ q,p = some q -> ∀ x ∈ l,aheadB q x = true:=by
 induction l with
 | nil => intro p _; exact ⟨List.Pairwise.nil,fun _ _ x hx => by cases hx⟩
 | cons a l ih =>
  intro p h
  rw [arcsErr] at h
  by_cases e : arcErr st p a = 0
  ·rw [if_pos e] at h
   obtain ⟨g1,g2⟩:=ih _ h
   refine ⟨List.pairwise_cons.2 ⟨fun x hx => g2 a rfl x hx,g1⟩,fun q hq x hx => ?_⟩
   subst hq
   have e1:=arcErr_ahead e
   rcases List.mem_cons.1 hx with rfl | hx
   ·exact e1
   ·exact ahead_trans e1 (g2 a rfl x hx)
  ·rw [if_neg e] at h; exact absurd h e
structure Fine (f : FstD) : Prop where
 s1 : 1 <= f.states
 s2 : f.states <= 200
 b1 : 0 <= f.start
 b2 : f.start < f.states
 len : (f.final.length : Int) = f.states
 fin : ∀ x ∈ f.final,x = -1 \/ (0 <= x /\ x <= 1000000000)
 many : f.arcs.length <= 3000
 arcs : ∀ a ∈ f.arcs,ArcOk f.states a
 ord : f.arcs.Pairwise (fun a b => aheadB a b = true)
theorem fine_of {f : FstD} (h : checkD f = 0) : Fine f:=by
 have k:=check_ok f h
 have k0:=k.states
 have k1:=k.start
 simp [inB] at k0 k1
 exact ⟨k0.1,k0.2,k1.1,by omega,k.len,fun x hx => (finB_out (k.fin x hx)).1,k.many,k.arcs,(arcsErr_order _ _ k.err).1⟩
theorem Fine.check {f : FstD} (h : Fine f) : checkD f = 0:=by
 have e0 : inB f.states 1 200 = true:=by simp [inB]; exact ⟨h.s1,h.s2⟩
 have e1 : inB f.start 0 (f.states - 1) = true:=by simp [inB]; have:=h.b1; have:=h.b2; omega
 have e3 : f.final.any finB = false:=by
  rw [List.any_eq_false]
  intro x hx
  have:=h.fin x hx
  unfold finB inB
  rcases this with rfl | ⟨g1,g2⟩
  ·decide
  ·simp; omega
 unfold checkD
 rw [e0,e1,e3]
 have e2 : ¬ (f.final.length : Int) ≠ f.states:=fun hh => hh h.len
 have e4 : ¬ 3000 < f.arcs.length:=by have:=h.many; omega
 simp only [Bool.not_true,Bool.false_eq_true,if_false,if_neg e2,if_neg e4]
 exact arcsErr_mk _ _ h.arcs h.ord (fun q hq => by cases hq)
theorem fine_iff {f : FstD} : checkD f = 0 ↔ Fine f:=⟨fine_of,Fine.check⟩
end Go.Proofs.Yteehgcbjmdideab
/- What is trimmed passes Check,and costs the same for whatever two words. -/
namespace Go.Proofs.Yteehgcbjmdideab.Sc
section
variable {st : Nat -> Bool}
theorem newNo_monoM {a b : Nat} (h : a ≤ b) : newNo st a ≤ newNo st b := by
  induction b with
  | zero => have : a = 0 := by omega
            subst this; exact Nat.le_refl _
  | succ b ih =>
    by_cases e : a = b + 1
    · subst e; exact Nat.le_refl _
    · have := ih (by omega)
      rw [newNo_succ]
      omega
theorem newNo_ltM {a b : Nat} (h : a < b) (ha : st a = true) : newNo st a < newNo st b:=by
 have h1:=newNo_succ st a
 rw [ha,if_pos rfl] at h1
 have:=newNo_monoM (st:=st) (show a + 1 <= b by omega)
 omega
theorem newNo_inj {a b : Nat} (ha : st a = true) (hb : st b = true) (h : newNo st a = newNo st b) : a = b:=by
 rcases Nat.lt_trichotomy a b with h1 | h1 | h1
 ·have:=newNo_ltM h1 ha; omega
 ·exact h1
 ·have:=newNo_ltM h1 hb; omega
theorem filter_at (k n : Nat) (hn : n < k) (h : st n = true) : ((List.range k).filter st)[newNo st n]? = some n:=by
 induction k with
 | zero => omega
 | succ k ih =>
  rw [List.range_succ,List.filter_append]
  by_cases e : n = k
  ·subst e
   rw [List.getElem?_append_right (by unfold newNo; exact Nat.le_refl _)]
   unfold newNo
   simp [h]
  ·have:=ih (by omega)
   rw [List.getElem?_append_left]
   ·exact this
   ·exact (List.getElem?_eq_some_iff.1 this).1
theorem finT_at {f : FstD} {k n : Nat} (hn : n < k) (h : st n = true) (hl : n < f.final.length) : gI (finT f st k) (newNo st n) = gI f.final n:=by
 unfold gI finT
 simp only [List.getD,List.getElem?_map,filter_at k n hn h,Option.map_some,Option.getD_some,List.getElem?_eq_getElem hl]
end
section
variable {f t : FstD}
theorem trim_fine (hc : checkD f = 0) (h : IsTrim f t) : checkD t = 0:=by
 obtain ⟨st,hst,rfl⟩:=h
 have k:=fine_of hc
 unfold trimBy
 by_cases hs : st f.start.toNat = true
 ·rw [if_pos hs]
  have hN : f.start.toNat < f.states.toNat:=by have:=k.b1; have:=k.b2; omega
  have hlt:=newNo_ltM hN hs
  have hle:=newNo_le st f.states.toNat
  have hs2:=k.s2
  refine Fine.check ⟨?_,?_,?_,?_,?_,?_,?_,?_,?_⟩
  ·show (1 : Int) <= (newNo st f.states.toNat : Nat); omega
  ·show ((newNo st f.states.toNat : Nat) : Int) <= 200; omega
  ·show (0 : Int) <= (newNo st f.start.toNat : Nat); omega
  ·show ((newNo st f.start.toNat : Nat) : Int) < (newNo st f.states.toNat : Nat); omega
  ·show ((finT f st f.states.toNat).length : Int) = _
   rw [finT_len]
  ·intro x hx
   obtain ⟨i,hi,rfl⟩:=List.mem_map.1 hx
   have hi2:=List.mem_range.1 (List.mem_filter.1 hi).1
   have hil : i < f.final.length:=by have:=k.len; omega
   refine k.fin _ ?_
   simp [List.getD,hil]
  ·exact Nat.le_trans (arcsT_len st f.arcs) k.many
  ·intro b hb
   obtain ⟨a,ha,rfl⟩:=List.mem_map.1 hb
   obtain ⟨ha1,ha2⟩:=List.mem_filter.1 ha
   rw [Bool.and_eq_true] at ha2
   have q:=k.arcs a ha1
   have e0:=q.src
   have e1:=q.dst
   simp [inB] at e0 e1
   have l0:=newNo_ltM (show a.src.toNat < f.states.toNat by omega) ha2.1
   have l1:=newNo_ltM (show a.dst.toNat < f.states.toNat by omega) ha2.2
   refine ⟨?_,?_,q.inp,q.out,q.wt⟩
   ·show inB ((newNo st a.src.toNat : Nat) : Int) 0 (((newNo st f.states.toNat : Nat) : Int) - 1) = true
    simp [inB]; omega
   ·show inB ((newNo st a.dst.toNat : Nat) : Int) 0 (((newNo st f.states.toNat : Nat) : Int) - 1) = true
    simp [inB]; omega
  ·show (arcsT st f.arcs).Pairwise _
   unfold arcsT
   rw [List.pairwise_map]
   have h1:=k.ord.filter (p:=fun a => st a.src.toNat && st a.dst.toNat)
   refine List.Pairwise.imp_of_mem (fun {a b} ha hb hab => ?_) h1
   obtain ⟨ha1,ha2⟩:=List.mem_filter.1 ha
   obtain ⟨hb1,hb2⟩:=List.mem_filter.1 hb
   rw [Bool.and_eq_true] at ha2 hb2
   have qa:=k.arcs a ha1
   have qb:=k.arcs b hb1
   have a0':=qa.src
   have a1':=qa.dst
   have b0':=qb.src
   have b1':=qb.dst
   simp [inB] at a0' a1' b0' b1'
   rw [ahead_iff] at hab ⊢
   show ((newNo st a.src.toNat : Nat) : Int) < (newNo st b.src.toNat : Nat) \/ (((newNo st a.src.toNat : Nat) : Int) = (newNo st b.src.toNat : Nat) /\ (a.inp < b.inp \/ (a.inp = b.inp /\ (a.out < b.out \/ (a.out = b.out /\ ((newNo st a.dst.toNat : Nat) : Int) < (newNo st b.dst.toNat : Nat))))))
   rcases hab with h | ⟨h,h2⟩
   ·left
    have:=newNo_ltM (show a.src.toNat < b.src.toNat by omega) ha2.1
    omega
   ·right
    refine ⟨by rw [h],?_⟩
    rcases h2 with h2 | ⟨h2,h3⟩
    ·exact Or.inl h2
    ·right
     refine ⟨h2,?_⟩
     rcases h3 with h3 | ⟨h3,h4⟩
     ·exact Or.inl h3
     ·right
      have:=newNo_ltM (show a.dst.toNat < b.dst.toNat by omega) ha2.2
      exact ⟨h3,by omega⟩
 ·rw [if_neg hs]
  decide
variable {ins outs : List Int}
theorem path_reach {s0 : Nat} (hs : f.start = (s0 : Nat)) (hN : s0 < f.states.toNat) {h n i o : Nat} {z : Int} (hp : PathN f ins outs s0 h n i o z) : ReachP f.states.toNat (pairsA f) (firstA f) n:=by
 induction h generalizing n i o z with
 | zero =>
  obtain ⟨rfl,_⟩:=hp
  exact Reach.first ⟨hN,by unfold firstA; rw [hs]; simp⟩
 | succ h ih =>
  obtain ⟨a,hm,n',i',o',z',hp',h1,h2,_⟩:=hp
  refine Reach.on (ih hp') ?_
  show (n',n) ∈ pairsA f
  unfold pairsA
  rw [List.mem_map]
  exact ⟨a,hm,by rw [h1,h2,Int.toNat_natCast,Int.toNat_natCast]⟩
theorem path_back {s0 : Nat} {h n i o : Nat} {z : Int} (hp : PathN f ins outs s0 h n i o z) (hB : ReachP f.states.toNat (pairsB f) (firstB f) n) : ReachP f.states.toNat (pairsB f) (firstB f) s0:=by
 induction h generalizing n i o z with
 | zero =>
  obtain ⟨rfl,_⟩:=hp
  exact hB
 | succ h ih =>
  obtain ⟨a,hm,n',i',o',z',hp',h1,h2,_⟩:=hp
  refine ih hp' (Reach.on hB ?_)
  show (n,n') ∈ pairsB f
  unfold pairsB
  rw [List.mem_map]
  exact ⟨a,hm,by rw [h1,h2,Int.toNat_natCast,Int.toNat_natCast]⟩
theorem path_trim {st : Nat -> Bool} (hst : ∀ i,st i = true ↔ Stays f i) {s0 : Nat} (hs : f.start = (s0 : Nat)) (hN : s0 < f.states.toNat) (hS : st s0 = true) {h n i o : Nat} {z : Int} (hp : PathN f ins outs s0 h n i o z) (hB : ReachP f.states.toNat (pairsB f) (firstB f) n) :
  st n = true /\ PathN (trimBy f st) ins outs (newNo st s0) h (newNo st n) i o z:=by
 induction h generalizing n i o z with
 | zero =>
  obtain ⟨rfl,h2,h3,h4⟩:=hp
  exact ⟨hS,rfl,h2,h3,h4⟩
 | succ h ih =>
  have hA:=path_reach hs hN hp
  have hn:=(hst n).2 ⟨hA,hB⟩
  obtain ⟨a,hm,n',i',o',z',hp',h1,h2,h3⟩:=hp
  obtain ⟨g1,g2⟩:=ih hp' (Reach.on hB (by
   show (n,n') ∈ pairsB f
   unfold pairsB
   rw [List.mem_map]
   exact ⟨a,hm,by rw [h1,h2,Int.toNat_natCast,Int.toNat_natCast]⟩))
  refine ⟨hn,arcT st a,?_,newNo st n',i',o',z',g2,?_,?_,h3⟩
  ·unfold trimBy
   rw [if_pos (by rw [hs,Int.toNat_natCast]; exact hS)]
   show arcT st a ∈ arcsT st f.arcs
   unfold arcsT
   refine List.mem_map.2 ⟨a,List.mem_filter.2 ⟨hm,?_⟩,rfl⟩
   rw [h1,h2,Int.toNat_natCast,Int.toNat_natCast,g1,hn]
   rfl
  ·show ((newNo st a.src.toNat : Nat) : Int) = _
   rw [h1,Int.toNat_natCast]
  ·show ((newNo st a.dst.toNat : Nat) : Int) = _
   rw [h2,Int.toNat_natCast]
theorem trim_path {st : Nat -> Bool} {s0 : Nat} (hs : f.start = (s0 : Nat)) (hS : st s0 = true) (ha : ∀ a ∈ f.arcs,0 <= a.src /\ 0 <= a.dst) {h m i o : Nat} {z : Int} (hp : PathN (trimBy f st) ins outs (newNo st s0) h m i o z) :
  ∃ n,st n = true /\ m = newNo st n /\ PathN f ins outs s0 h n i o z:=by
 induction h generalizing m i o z with
 | zero =>
  obtain ⟨h1,h2,h3,h4⟩:=hp
  exact ⟨s0,hS,h1,rfl,h2,h3,h4⟩
 | succ h ih =>
  obtain ⟨b,hm,n',i',o',z',hp',h1,h2,h3⟩:=hp
  obtain ⟨n,g1,rfl,g2⟩:=ih hp'
  unfold trimBy at hm
  rw [if_pos (by rw [hs,Int.toNat_natCast]; exact hS)] at hm
  obtain ⟨a,ha1,rfl⟩:=List.mem_map.1 hm
  obtain ⟨ha2,ha3⟩:=List.mem_filter.1 ha1
  rw [Bool.and_eq_true] at ha3
  obtain ⟨p1,p2⟩:=ha a ha2
  have e1 : ((newNo st a.src.toNat : Nat) : Int) = (newNo st n : Nat):=h1
  have e2 : ((newNo st a.dst.toNat : Nat) : Int) = (m : Nat):=h2
  have q1:=newNo_inj ha3.1 g1 (by omega)
  exact ⟨a.dst.toNat,ha3.2,by omega,a,ha2,n,i',o',z',g2,by omega,by omega,h3⟩
theorem trim_tot (hc : checkD f = 0) (h : IsTrim f t) (y : Int) : TotP f ins outs f.start.toNat y ↔ TotP t ins outs t.start.toNat y:=by
 obtain ⟨st,hst,rfl⟩:=h
 have k:=fine_of hc
 obtain ⟨s0,hs⟩ : ∃ s0 : Nat,f.start = s0:=⟨f.start.toNat,by have:=k.b1; omega⟩
 have hN : s0 < f.states.toNat:=by have:=k.b2; omega
 have hfl : f.final.length = f.states.toNat:=by have:=k.len; omega
 have harc : ∀ a ∈ f.arcs,(0 <= a.src /\ 0 <= a.dst) /\ a.dst < f.states:=fun a ha => by
  have q:=k.arcs a ha
  have e0:=q.src
  have e1:=q.dst
  simp [inB] at e0 e1
  omega
 have hend : ∀ {h n i o : Nat} {z : Int},PathN f ins outs s0 h n i o z -> 0 <= gI f.final n -> n < f.states.toNat /\ ReachP f.states.toNat (pairsB f) (firstB f) n:=fun {h n i o z} hp h0 => by
  have hn : n < f.states.toNat:=hp.lt hN (fun a ha => by have:=harc a ha; omega)
  refine ⟨hn,Reach.first ⟨hn,?_⟩⟩
  have hg : gI f.final n = f.final.getD n 0:=by unfold gI; simp [List.getD,show n < f.final.length by omega]
  unfold firstB
  rw [<- hg]
  simp
  omega
 rw [hs,Int.toNat_natCast]
 by_cases hS : st s0 = true
 ·have e1 : (trimBy f st).start = (newNo st s0 : Nat):=by
   unfold trimBy
   rw [if_pos (by rw [hs,Int.toNat_natCast]; exact hS)]
   show ((newNo st f.start.toNat : Nat) : Int) = _
   rw [hs,Int.toNat_natCast]
  have e2 : (trimBy f st).final = finT f st f.states.toNat:=by
   unfold trimBy
   rw [if_pos (by rw [hs,Int.toNat_natCast]; exact hS)]
  rw [e1,Int.toNat_natCast]
  constructor
  ·rintro ⟨h,n,z,hp,h0,rfl⟩
   obtain ⟨hn,hB⟩:=hend hp h0
   obtain ⟨g1,g2⟩:=path_trim hst hs hN hS hp hB
   have e3 : gI (trimBy f st).final (newNo st n) = gI f.final n:=by rw [e2]; exact finT_at hn g1 (by omega)
   exact ⟨h,newNo st n,z,g2,by rw [e3]; exact h0,by rw [e3]⟩
  ·rintro ⟨h,m,z,hp,h0,rfl⟩
   obtain ⟨n,g1,rfl,g2⟩:=trim_path hs hS (fun a ha => (harc a ha).1) hp
   have hn : n < f.states.toNat:=g2.lt hN (fun a ha => by have:=harc a ha; omega)
   have e3 : gI (trimBy f st).final (newNo st n) = gI f.final n:=by rw [e2]; exact finT_at hn g1 (by omega)
   rw [e3] at h0 ⊢
   exact ⟨h,n,z,g2,h0,rfl⟩
 ·constructor
  ·rintro ⟨h,n,z,hp,h0,rfl⟩
   obtain ⟨hn,hB⟩:=hend hp h0
   exact absurd ((hst s0).2 ⟨Reach.first ⟨hN,by unfold firstA; rw [hs]; simp⟩,path_back hp hB⟩) hS
  ·rintro ⟨h,n,z,hp,h0,_⟩
   exfalso
   have e2 : (trimBy f st).final = [-1]:=by
    unfold trimBy
    rw [if_neg (by rw [hs,Int.toNat_natCast]; exact hS)]
   rw [e2] at h0
   unfold gI at h0
   cases n with
   | zero => simp at h0
   | succ n => simp at h0
end
end Go.Proofs.Yteehgcbjmdideab.Sc
