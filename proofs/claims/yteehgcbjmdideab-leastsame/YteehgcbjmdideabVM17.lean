/- 'beginnings' of the program: the closure that counts,and the whole. -/
import Derived.Test.YteehgcbjmdideabVM16
import Derived.Laws.EntriesVeiled
import Derived.Test.YteehgcbjmdideabVM05
set_option maxRecDepth 100000
namespace Go.Proofs.Yteehgcbjmdideab
open Go.RowKit
attribute [local go_sem ↓] Go.wp_at_zero Go.wp_at_succ
structure KStep (Kb : Nat) (w w' : World) : Prop where
 size : w.heap.size <= w'.heap.size
 block : ∀ b,b < w.heap.size -> b ≠ Kb -> w'.heap[b]? = w.heap[b]?
theorem KStep.refl (Kb : Nat) (w : World) : KStep Kb w w:=⟨Nat.le_refl _,fun _ _ _ => rfl⟩
theorem KStep.trans {Kb : Nat} {w w' w'' : World} (h : KStep Kb w w') (k : KStep Kb w' w'') : KStep Kb w w'':=⟨Nat.le_trans h.size k.size,fun b hb hn => (k.block b (Nat.lt_of_lt_of_le hb h.size) hn).trans (h.block b hb hn)⟩
theorem KStep.bel {Kb : Nat} {w w' : World} (h : Below w.heap.size w w') : KStep Kb w w':=⟨h.size,fun b hb _ => h.block b hb⟩
theorem KStep.put {Kb : Nat} {w w' : World} (h : w.grownBy w' (some Kb)) : KStep Kb w w':=⟨h.size,fun b hb hn => h.block b hb (fun e => hn (by injection e))⟩
def CntRes (w0 wr : World) (st sta : Int) (fin arcs : Value) (K F C Kb : Nat) (cnt rk : Nat -> Nat) (ps : List (Nat × Nat)) (s : Nat) (e : Ending) (w' : World) : Prop :=
 ∃ ps',e = .returned (.int .i64 (cnt s : Int)) /\ BW w0 w' st sta fin arcs K F C Kb cnt ps' /\ KStep Kb wr w' /\ ∀ p ∈ ps',p ∈ ps \/ rk p.1 <= rk s
theorem cntRes_mk {w0 wr w' : World} {st sta : Int} {fin arcs : Value} {K F C Kb : Nat} {cnt rk : Nat -> Nat} {ps : List (Nat × Nat)} {s : Nat} {x : Int} (ps' : List (Nat × Nat)) (hx : x = (cnt s : Int)) (h1 : BW w0 w' st sta fin arcs K F C Kb cnt ps') (h2 : KStep Kb wr w') (h3 : ∀ p ∈ ps',p ∈ ps \/ rk p.1 <= rk s) : CntRes w0 wr st sta fin arcs K F C Kb cnt rk ps s (.returned (.int .i64 x)) w':=⟨ps',by rw [hx],h1,h2,h3⟩
set_option maxHeartbeats 1600000 in
theorem count_any (f : FstD) (N : Nat) (st sta : Int) (fin : Value) (aa : Option Addr) (m ac : Nat) (K F C Kb : Nat) (cnt rk : Nat -> Nat) (w0 : World) (hN : N <= 1000000) (har : ∀ a ∈ f.arcs,∃ s t : Nat,a.src = (s : Int) /\ a.dst = (t : Int) /\ s < N /\ t < N) (hal : f.arcs.length = m) (hm3 : m <= 3000)
  (hcnt : CntOk (edgesE f.arcs) cnt) (hrk : ∀ e ∈ edgesE f.arcs,rk e.2 < rk e.1) (ha : ASlice w0 (.slice aa m ac) f.arcs) :
  ∀ (d s : Nat) (wr : World) (ps : List (Nat × Nat)),rk s < d -> s < N -> BW w0 wr st sta fin (.slice aa m ac) K F C Kb cnt ps ->
   Calls Try.prog 64 #[.int .i64 (s : Int),.pointer (some ⟨K,0,none⟩),.pointer (some ⟨F,0,none⟩),.pointer (some ⟨C,0,none⟩)] wr fun e w' => CntRes w0 wr st sta fin (.slice aa m ac) K F C Kb cnt rk ps s e w':=by
 intro d
 induction d with
 | zero => intro s wr ps h; omega
 | succ d ih =>
  intro s w ps hd hsN hB
  have HIH : Hid (∀ (s : Nat) (wr : World) (ps : List (Nat × Nat)),rk s < d -> s < N -> BW w0 wr st sta fin (.slice aa m ac) K F C Kb cnt ps ->
   Calls Try.prog 64 #[.int .i64 (s : Int),.pointer (some ⟨K,0,none⟩),.pointer (some ⟨F,0,none⟩),.pointer (some ⟨C,0,none⟩)] wr fun e w' => CntRes w0 wr st sta fin (.slice aa m ac) K F C Kb cnt rk ps s e w'):=ih
  have HAR : Hid (∀ a ∈ f.arcs,∃ s t : Nat,a.src = (s : Int) /\ a.dst = (t : Int) /\ s < N /\ t < N):=har
  have HL : Hid (f.arcs.length = m):=hal
  have HCN : Hid (CntOk (edgesE f.arcs) cnt):=hcnt
  have HRK : Hid (∀ e ∈ edgesE f.arcs,rk e.2 < rk e.1):=hrk
  have HA : Hid (∀ W,Below w0.heap.size w0 W -> ASlice W (.slice aa m ac) f.arcs):=fun W h => ha.below h
  have HD : Hid (rk s < d + 1):=hd
  have HC2 : Hid (∀ s,cnt s <= 201):=fun s => by
   have h1:=hcnt s
   rw [h1]
   exact Nat.min_le_right _ _
  have k0:=hB.ck
  have hlk:=num_look hB.map (fun p hp => (hB.ok p hp).1) (x:=s) (by omega)
  clear ih har hal hcnt hrk ha hd
  rcases hlk with ⟨hn,hlk⟩ | ⟨c,hc,hlk,_⟩
  ·have HN : Hid (∀ p ∈ ps,p.1 ≠ s):=hn
   obtain ⟨q0,q1,q2,q3⟩:=hB.cf
   clear hn
   go_enter Try.func64,Try.ntmps64
   go_wp2
   clear q0 q1 q2 q3 hlk k0
   go_loopw [8,10,22] (fun t8 _ t22 wx => ∃ (k n : Nat) (ps' : List (Nat × Nat)),k <= m /\ t22 = .int .i64 (k : Int) /\ t8 = .int .i64 (n : Int) /\ n = 1 + sumC cnt s (edgesE (f.arcs.take k)) /\ BW w0 wx st sta fin (.slice aa m ac) K F C Kb cnt ps' /\ KStep Kb w wx /\ ∀ p ∈ ps',p ∈ ps \/ rk p.1 < rk s) (fun _ _ t22 _ => m - (intOf t22).toNat)
   case atStart => exact ⟨0,1,ps,Nat.zero_le _,rfl,rfl,by simp [edgesE,sumC],hB,KStep.refl _ _,fun p hp => Or.inl hp⟩
   case round =>
    clear hB
    obtain ⟨k,n,ps',hk,rfl,rfl,hn,hB,hK,hps⟩:=hrel
    have HNN : Hid (n = 1 + sumC cnt s (edgesE (f.arcs.take k))):=hn
    have HPS : Hid (∀ p ∈ ps',p ∈ ps \/ rk p.1 < rk s):=hps
    have HK : Hid (KStep Kb w wr):=hK
    have hkw : IntKind.i64.wrap ((k : Int) + 1) = (k : Int) + 1:=wrap_in _ (by omega) (by omega)
    have hn9 : n <= 1 + 201 * 3000:=by
     have h1:=sumC_le HC2.out s (edgesE (f.arcs.take k))
     rw [edges_len,List.length_take] at h1
     have : 201 * min k f.arcs.length <= 201 * 3000:=Nat.mul_le_mul_left _ (by omega)
     omega
    clear hn hps hK
    by_cases hlt : k < m
    ·have hki : (k : Int) < m:=by omega
     obtain ⟨ab,ao,rfl,hxa⟩:=(HA.out wr hB.bel).some (by omega)
     obtain ⟨a,hak⟩ : ∃ d,f.arcs[k]? = some d:=⟨_,List.getElem?_eq_getElem (by have:=HL.out; omega)⟩
     have hgd : f.arcs.getD k a0 = a:=by simp [List.getD,hak]
     obtain ⟨u,t,hu,ht,huN,htN⟩:=HAR.out a (List.mem_of_getElem? hak)
     have c0:=hxa.c0 k hlt
     have c1:=hxa.c1 k hlt
     have c2:=hxa.c2 k hlt
     have c3:=hxa.c3 k hlt
     have c4:=hxa.c4 k hlt
     rw [hgd] at c0 c1 c2 c3 c4
     rw [hu] at c0
     rw [ht] at c3
     obtain ⟨ob,hob⟩ : ∃ o : Obj,o = .cells #[.int .i64 (u : Int),.int .i64 a.inp,.int .i64 a.out,.int .i64 (t : Int),.int .i64 a.wt] 54:=⟨_,rfl⟩
     have hbA:=bel_up (bel_self wr) ob
     have hBA:=hB.below hbA
     have b0 : (wr.alloc ob).cell? ⟨wr.heap.size,0,none⟩ = some (.int .i64 (u : Int)):=by rw [hob]; exact new_cell _ _ _ _ 0 _ rfl rfl
     have b3 : (wr.alloc ob).cell? ⟨wr.heap.size,3,none⟩ = some (.int .i64 (t : Int)):=by rw [hob]; exact new_cell _ _ _ _ 3 _ rfl rfl
     have cc:=hBA.cc
     have HSN : Hid (1 + sumC cnt s (edgesE (f.arcs.take (k + 1))) = n + if u = s then cnt t else 0):=by
      show _ = _
      rw [edges_at hak hu ht,sumC_snoc]
      dsimp only
      rw [HNN.out]
      exact (Nat.add_assoc _ _ _).symm
     have HMEM : Hid ((u,t) ∈ edgesE f.arcs):=by
      unfold edgesE
      rw [List.mem_map]
      exact ⟨a,List.mem_of_getElem? hak,by rw [hu,ht,Int.toNat_natCast,Int.toNat_natCast]⟩
     have HBA : Hid (BW w0 (wr.alloc ob) st sta fin (.slice (some ⟨ab,ao,none⟩) m ac) K F C Kb cnt ps' /\ KStep Kb w (wr.alloc ob)):=⟨hBA,HK.out.trans (KStep.bel hbA)⟩
     by_cases h1 : u = s
     ·subst h1
      have hcall:=HIH.out t (wr.alloc ob) ps' (by have h1:=HRK.out (u,t) HMEM.out; dsimp only at h1; have:=HD.out; omega) htN hBA
      have hg1:=gBeg1
      have HRT : Hid (rk t < rk u):=HRK.out (u,t) HMEM.out
      obtain ⟨ct,hct⟩ : ∃ c,c = cnt t:=⟨_,rfl⟩
      have hct2 : ct <= 201:=by rw [hct]; exact HC2.out t
      have hwn : IntKind.i64.wrap ((n : Int) + (ct : Int)) = (n : Int) + (ct : Int):=wrap_in _ (by omega) (by omega)
      have HCT : Hid (ct = cnt t):=hct
      rw [hob] at hcall b0 b3 cc HBA
      clear hxa hgd hu ht hak hbA hBA hB hob hct
      go_wp2_with (go_at_call 64; refine hcall.mono ?_; rintro e w2 ⟨ps2,rfl,hB2,hK2,hp2⟩; rw [<- HCT.out]; have HR2 : Hid (BW w0 w2 st sta fin (.slice (some ⟨ab,ao,none⟩) m ac) K F C Kb cnt ps2 /\ KStep Kb w w2 /\ ∀ p ∈ ps2,p ∈ ps \/ rk p.1 < rk u):=⟨hB2,HBA.out.2.trans hK2,fun p hp => (by rcases hp2 p hp with h | h; exact HPS.out p h; exact Or.inr (Nat.lt_of_le_of_lt h HRT.out))⟩; clear hB2 hK2 hp2)
      go_roundw
      case rel => exact ⟨k + 1,n + ct,ps2,by omega,by go_num,by go_num,by rw [HSN.out,HCT.out]; simp,HR2.out.1,HR2.out.2.1,HR2.out.2.2⟩
      case measure => simp [intOf]; omega
     ·have h1b : (((u : Int)) == (s : Int)) = false:=by
       have : ¬ (u : Int) = (s : Int):=by omega
       simpa using this
      rw [hob] at b0 b3 cc HBA
      clear hxa hgd hu ht hak hbA hBA hB hob
      go_wp2
      go_roundw
      case rel => exact ⟨k + 1,n,ps',by omega,by go_num,rfl,by rw [HSN.out,if_neg h1,Nat.add_zero],HBA.out.1,HBA.out.2,HPS.out⟩
      case measure => simp [intOf]; omega
    ·obtain rfl : m = k:=by omega
     have hkl : ¬ (m : Int) < m:=by omega
     have hcs : cnt s = min n 201:=by
      have h1:=HCN.out s
      rw [List.take_of_length_le (by have:=HL.out; omega)] at HNN
      rw [h1,HNN.out]
     have hnps : ∀ p ∈ ps',p.1 ≠ s:=fun p hp e => by
      rcases HPS.out p hp with h | h
      ·exact HN.out p h e
      ·rw [e] at h; omega
     obtain ⟨w3,hput,hm3',hg3⟩:=num_put hB.map (fun p hp => (hB.ok p hp).1) (x:=s) (c:=cnt s) (by omega) hnps
     have hB3:=hB.put (s:=s) (by omega) hg3 hm3'
     have k0:=hB.ck
     have k3:=hB3.ck
     have hlk3 : (Instr.lookup 69 (.map (some Kb)) (.int .i64 (s : Int)) false).run Try.prog w3 = .ok (.int .i64 (cnt s : Int)) w3:=by
      rcases num_look hB3.map (fun p hp => (hB3.ok p hp).1) (x:=s) (by omega) with ⟨h1,_⟩ | ⟨c,h1,_,h2⟩
      ·exact absurd rfl (h1 (s,cnt s) (by simp))
      ·have h3:=(hB3.ok _ h1).2
       dsimp only at h3
       rw [<- h3]
       exact h2
     have HFIN : Hid (BW w0 w3 st sta fin (.slice aa m ac) K F C Kb cnt (ps' ++ [(s,cnt s)]) /\ KStep Kb w w3 /\ ∀ p ∈ ps' ++ [(s,cnt s)],p ∈ ps \/ rk p.1 <= rk s):=⟨hB3,HK.out.trans (KStep.put hg3),fun p hp => by
      rcases List.mem_append.1 hp with hp | hp
      ·rcases HPS.out p hp with h | h
       ·exact Or.inl h
       ·exact Or.inr (Nat.le_of_lt h)
      ·rw [List.mem_singleton.1 hp]; exact Or.inr (Nat.le_refl _)⟩
     obtain ⟨cs,hcs'⟩ : ∃ c,c = cnt s:=⟨_,rfl⟩
     have HCS : Hid (cs = cnt s):=hcs'
     rw [<- hcs'] at hput hlk3 hcs
     clear hB hB3 hm3' hg3 hnps hcs'
     by_cases hle : n <= 201
     ·obtain rfl : cs = n:=by omega
      have hmi : ¬ ((201 : Int) < (cs : Int)):=by omega
      have hmi2 : min (cs : Int) 201 = (cs : Int):=by omega
      clear hcs
      go_wp2
      go_ret
      exact cntRes_mk _ (by rw [HCS.out]) HFIN.out.1 HFIN.out.2.1 HFIN.out.2.2
     ·obtain rfl : cs = 201:=by omega
      have hmi : (201 : Int) < (n : Int):=by omega
      have hmi2 : min (n : Int) 201 = 201:=by omega
      have hput' : (Instr.mapUpdate 69 (.map (some Kb)) (.int .i64 (s : Int)) (.int .i64 201)).run Try.prog wr = .ok () w3:=hput
      have hlk3' : (Instr.lookup 69 (.map (some Kb)) (.int .i64 (s : Int)) false).run Try.prog w3 = .ok (.int .i64 201) w3:=hlk3
      clear hcs hput hlk3
      go_wp2
      go_ret
      exact cntRes_mk _ (by rw [<- HCS.out]; rfl) HFIN.out.1 HFIN.out.2.1 HFIN.out.2.2
  ·have HC : Hid (c = cnt s):=(hB.ok _ hc).2
   have HB : Hid (BW w0 w st sta fin (.slice aa m ac) K F C Kb cnt ps):=hB
   clear hB hc
   go_enter Try.func64,Try.ntmps64
   go_wp2
   go_ret
   exact cntRes_mk ps (by rw [HC.out]) HB.out (KStep.refl _ _) (fun p hp => Or.inl hp)
set_option maxHeartbeats 1000000 in
theorem beginnings_any (f : FstD) (N s0 : Nat) (st : Int) (fa : Option Addr) (fn fc : Nat) (aa : Option Addr) (m ac : Nat) (cnt rk : Nat -> Nat) (w : World) (hN : N <= 1000000) (hs : s0 < N) (har : ∀ a ∈ f.arcs,∃ s t : Nat,a.src = (s : Int) /\ a.dst = (t : Int) /\ s < N /\ t < N) (hal : f.arcs.length = m) (hm3 : m <= 3000)
  (hcnt : CntOk (edgesE f.arcs) cnt) (hrk : ∀ e ∈ edgesE f.arcs,rk e.2 < rk e.1) (ha : ASlice w (.slice aa m ac) f.arcs) :
  Calls Try.prog 31 #[.agg #[.int .i64 st,.int .i64 (s0 : Int),.slice fa fn fc,.slice aa m ac]] w fun e w' => e = .returned (.int .i64 (cnt s0 : Int)) /\ Below w.heap.size w w':=by
 have hmm:=@run_makeMap Try.prog
 have hmf : ∀ (fn : Fn) (first cap : Array Value) (w : World),(Instr.makeFunc fn first cap).run Try.prog w = .ok (.func fn first cap) w:=fun _ _ _ _ => rfl
 have hg1:=gBeg1
 obtain ⟨A1,hA1⟩ : ∃ W,W = w.alloc (.cells #[.int .i64 st,.int .i64 (s0 : Int),.slice fa fn fc,.slice aa m ac] 25):=⟨_,rfl⟩
 have s1 : A1.heap.size = w.heap.size + 1:=by rw [hA1]; exact one_size _ _
 obtain ⟨A2,hA2⟩ : ∃ W,W = A1.alloc (.map #[] 0):=⟨_,rfl⟩
 have s2 : A2.heap.size = w.heap.size + 1 + 1:=by rw [hA2,one_size,s1]
 obtain ⟨A3,hA3⟩ : ∃ W,W = A2.alloc (.cells #[.map (some (w.heap.size + 1))] 69):=⟨_,rfl⟩
 have s3 : A3.heap.size = w.heap.size + 1 + 1 + 1:=by rw [hA3,one_size,s2]
 obtain ⟨A4,hA4⟩ : ∃ W,W = A3.alloc (.cells #[.func (.func 64) #[] #[.pointer (some ⟨w.heap.size + 1 + 1,0,none⟩),.pointer (some ⟨w.heap.size,0,none⟩),.pointer (some ⟨w.heap.size + 1 + 1 + 1,0,none⟩)]] 64):=⟨_,rfl⟩
 have hC : A4.heap[w.heap.size + 1 + 1 + 1]? = some (.cells #[.func (.func 64) #[] #[.pointer (some ⟨w.heap.size + 1 + 1,0,none⟩),.pointer (some ⟨w.heap.size,0,none⟩),.pointer (some ⟨w.heap.size + 1 + 1 + 1,0,none⟩)]] 64 (0,0)):=by rw [hA4,<- s3]; exact heap_alloc_new A3 _
 have z0 : A4.cell? ⟨w.heap.size + 1 + 1 + 1,0,none⟩ = some (.func (.func 64) #[] #[.pointer (some ⟨w.heap.size + 1 + 1,0,none⟩),.pointer (some ⟨w.heap.size,0,none⟩),.pointer (some ⟨w.heap.size + 1 + 1 + 1,0,none⟩)]):=by rw [Go.Joins.cell_of_block hC]; rfl
 have k1 : Below w.heap.size w A1:=by rw [hA1]; exact bel_up (bel_self _) _
 have k2 : Below A1.heap.size A1 A2:=by rw [hA2]; exact bel_up (bel_self _) _
 have k3 : Below A2.heap.size A2 A3:=by rw [hA3]; exact bel_up (bel_self _) _
 have k4 : Below A3.heap.size A3 A4:=by rw [hA4]; exact bel_up (bel_self _) _
 have k14:=bel_on k1 (bel_on (bel_on k2 k3) k4)
 have cfA : CellsF A4 w.heap.size st (s0 : Int) (.slice fa fn fc) (.slice aa m ac):=by
  have h1 : CellsF A1 w.heap.size st (s0 : Int) (.slice fa fn fc) (.slice aa m ac):=by rw [hA1]; exact cellsF_new _ _ _ _ _ _
  exact h1.below (bel_on (bel_on k2 k3) k4)
 have hKb : A4.heap[w.heap.size + 1]? = some (.map #[] 0):=by
  have h1 : A2.heap[w.heap.size + 1]? = some (.map #[] 0):=by rw [hA2,<- s1]; exact heap_alloc_new A1 _
  exact heap_bel (bel_on k3 k4) h1
 have hK : A4.cell? ⟨w.heap.size + 1 + 1,0,none⟩ = some (.map (some (w.heap.size + 1))):=by
  have h1 : A3.heap[w.heap.size + 1 + 1]? = some (.cells #[.map (some (w.heap.size + 1))] 69 (0,0)):=by rw [hA3,<- s2]; exact heap_alloc_new A2 _
  rw [Go.Joins.cell_of_block (heap_bel k4 h1)]
  rfl
 have hBW : BW w A4 st (s0 : Int) (.slice fa fn fc) (.slice aa m ac) (w.heap.size + 1 + 1) w.heap.size (w.heap.size + 1 + 1 + 1) (w.heap.size + 1) cnt []:=by
  exact ⟨k14,cfA,hK,z0,⟨#[],0,hKb,rfl⟩,fun p hp => (by cases hp),by omega,by omega,by omega,by omega⟩
 have hcall:=count_any f N st (s0 : Int) (.slice fa fn fc) aa m ac _ _ _ _ cnt rk w hN har hal hm3 hcnt hrk ha (rk s0 + 1) s0 A4 [] (Nat.lt_succ_self _) hs hBW
 obtain ⟨d0,d1,d2,d3⟩:=hBW.cf
 have d4:=hBW.cc
 rw [hA4,hA3,hA2,hA1] at hcall d0 d1 d2 d3 d4
 clear hA1 hA2 hA3 hA4 hBW z0 hK hKb cfA k1 k2 k3 k4 k14 hC s1 s2 s3 har hal hcnt hrk ha
 go_enter Try.func31,Try.ntmps31
 go_wp2_with fail
 refine hcall.mono ?_
 rintro e w2 ⟨ps2,rfl,hB2,_,_⟩
 go_wp2
 go_ret
 exact ⟨rfl,hB2.bel⟩
end Go.Proofs.Yteehgcbjmdideab
/- Words that are read by an acceptor,what they cost to each state,and what stands behind a letter. -/
namespace Go.Proofs.Yteehgcbjmdideab
def WdR (f : FstD) (s0 : Nat) : List Int -> Nat -> Int -> Prop
 | [],n,z => n = s0 /\ z = 0
 | c :: u,n,z => ∃ a ∈ f.arcs,∃ n' z',WdR f s0 u n' z' /\ a.inp = c /\ a.src = (n' : Int) /\ a.dst = (n : Int) /\ z = z' + a.wt
def BestV (f : FstD) (s0 : Nat) (u : List Int) (n : Nat) (x : Int) : Prop :=
 (x = -1 /\ ∀ z,¬ WdR f s0 u n z) \/ (0 <= x /\ WdR f s0 u n x /\ ∀ z,WdR f s0 u n z -> x <= z)
def AccD (f : FstD) : Prop:=∀ a ∈ f.arcs,a.out = a.inp /\ a.inp ≠ 0
def WideA (f : FstD) (N : Nat) : Prop:=∀ a ∈ f.arcs,(0 <= a.src /\ a.src < N) /\ (0 <= a.dst /\ a.dst < N) /\ 0 <= a.wt /\ 0 <= a.inp /\ a.inp <= 9
theorem WdR.nonneg {f : FstD} {N s0 : Nat} (hw : WideA f N) : ∀ {u : List Int} {n : Nat} {z : Int},WdR f s0 u n z -> 0 <= z
 | [],_,_,h => by obtain ⟨_,rfl⟩:=h; decide
 | _ :: _,_,_,h => by
  obtain ⟨a,ha,n',z',h1,_,_,_,rfl⟩:=h
  have:=WdR.nonneg hw h1
  have:=(hw a ha).2.2.1
  omega
theorem WdR.lt {f : FstD} {N s0 : Nat} (hw : WideA f N) (hs : s0 < N) : ∀ {u : List Int} {n : Nat} {z : Int},WdR f s0 u n z -> n < N
 | [],_,_,h => by obtain ⟨rfl,_⟩:=h; exact hs
 | _ :: _,_,_,h => by
  obtain ⟨a,ha,n',z',h1,_,_,hd,rfl⟩:=h
  have:=(hw a ha).2.1
  omega
theorem path_word {f : FstD} (hA : AccD f) (l : List Int) (s0 : Nat) : ∀ (h n i o : Nat) (z : Int),PathN f l l s0 h n i o z ↔ i = h /\ o = h /\ h <= l.length /\ WdR f s0 (l.take h).reverse n z
 | 0,n,i,o,z => by
  unfold PathN
  simp only [List.take_zero,List.reverse_nil,WdR]
  constructor
  ·rintro ⟨h1,h2,h3,h4⟩; exact ⟨h2,h3,Nat.zero_le _,h1,h4⟩
  ·rintro ⟨h2,h3,_,h1,h4⟩; exact ⟨h1,h2,h3,h4⟩
 | h + 1,n,i,o,z => by
  unfold PathN
  constructor
  ·rintro ⟨a,ha,n',i',o',z',hp,hs,hd,h1,h2,rfl,rfl,rfl⟩
   obtain ⟨q1,q2,hl,hw⟩:=(path_word hA l s0 h n' i' o' z').1 hp
   clear hp
   rw [q1] at h1 ⊢
   rw [q2] at h2 ⊢
   obtain ⟨e1,e2⟩:=hA a ha
   unfold fitB at h1
   have h3 : ((a.inp == 0) : Bool) = false:=by simpa using e2
   rw [h3,Bool.false_or,Bool.and_eq_true,decide_eq_true_eq] at h1
   have h4 : l.getD h 0 = a.inp:=by simpa using h1.2
   have hu : usedBy h a.inp = h + 1:=by unfold usedBy; rw [if_neg e2]
   rw [e1,hu]
   refine ⟨rfl,rfl,h1.1,?_⟩
   rw [List.take_succ_eq_append_getElem h1.1,List.reverse_append,List.reverse_singleton,List.singleton_append]
   refine ⟨a,ha,n',z',hw,?_,hs,hd,rfl⟩
   refine h4.symm.trans ?_
   simp [List.getD,h1.1]
  ·rintro ⟨rfl,rfl,hl,hw⟩
   rw [List.take_succ_eq_append_getElem hl,List.reverse_append,List.reverse_singleton,List.singleton_append] at hw
   obtain ⟨a,ha,n',z',hw,hc,hs,hd,rfl⟩:=hw
   obtain ⟨e1,e2⟩:=hA a ha
   have hu : usedBy h a.inp = h + 1:=by unfold usedBy; rw [if_neg e2]
   have hf : fitB l h a.inp = true:=by
    unfold fitB
    have h4 : l.getD h 0 = a.inp:=by rw [hc]; simp [List.getD,show h < l.length from hl]
    rw [h4]
    have : h < l.length:=hl
    simp [this]
   exact ⟨a,ha,n',h,h,z',(path_word hA l s0 h n' h h z').2 ⟨rfl,rfl,by omega,hw⟩,hs,hd,hf,by rw [e1]; exact hf,hu.symm,by rw [e1]; exact hu.symm,rfl⟩
theorem tot_word {f : FstD} (hA : AccD f) (l : List Int) (s0 : Nat) (y : Int) : TotP f l l s0 y ↔ ∃ n z,WdR f s0 l.reverse n z /\ 0 <= gI f.final n /\ y = z + gI f.final n:=by
 unfold TotP
 constructor
 ·rintro ⟨h,n,z,hp,hf,e⟩
  obtain ⟨rfl,_,_,hw⟩:=(path_word hA l s0 h n _ _ z).1 hp
  rw [List.take_length] at hw
  exact ⟨n,z,hw,hf,e⟩
 ·rintro ⟨n,z,hw,hf,e⟩
  exact ⟨l.length,n,z,(path_word hA l s0 l.length n _ _ z).2 ⟨rfl,rfl,Nat.le_refl _,by rw [List.take_length]; exact hw⟩,hf,e⟩
theorem snocA {P : List ArcD -> Prop} (h0 : P []) (h1 : ∀ l a,P l -> P (l ++ [a])) (l : List ArcD) : P l:=by
 rw [<- List.reverse_reverse l]
 induction l.reverse with
 | nil => exact h0
 | cons a t ih => rw [List.reverse_cons]; exact h1 _ _ ih
def BehP (at' : List Int) (ars : List ArcD) (j n : Nat) (x : Int) : Prop :=
 (x = -1 /\ ∀ a ∈ ars,a.inp = (j : Int) + 1 -> a.dst = (n : Int) -> gI at' a.src.toNat = -1) \/
 (0 <= x /\ (∃ a ∈ ars,a.inp = (j : Int) + 1 /\ a.dst = (n : Int) /\ 0 <= gI at' a.src.toNat /\ x = gI at' a.src.toNat + a.wt) /\ ∀ a ∈ ars,a.inp = (j : Int) + 1 -> a.dst = (n : Int) -> 0 <= gI at' a.src.toNat -> x <= gI at' a.src.toNat + a.wt)
theorem BehP.snoc_no {at' : List Int} {ars : List ArcD} {j n : Nat} {x : Int} {a : ArcD} (h : BehP at' ars j n x) (hn : ¬ (a.inp = (j : Int) + 1 /\ a.dst = (n : Int) /\ 0 <= gI at' a.src.toNat)) (hlo : ∀ s,gI at' s = -1 \/ 0 <= gI at' s) : BehP at' (ars ++ [a]) j n x:=by
 rcases h with ⟨h1,h2⟩ | ⟨h1,⟨b,hb,h2⟩,h3⟩
 ·refine Or.inl ⟨h1,fun b hb hi hd => ?_⟩
  rcases List.mem_append.1 hb with hb | hb
  ·exact h2 b hb hi hd
  ·have : b = a:=by simpa using hb
   subst this
   rcases hlo b.src.toNat with e | e
   ·exact e
   ·exact absurd ⟨hi,hd,e⟩ hn
 ·refine Or.inr ⟨h1,⟨b,List.mem_append_left _ hb,h2⟩,fun b hb hi hd h0 => ?_⟩
  rcases List.mem_append.1 hb with hb | hb
  ·exact h3 b hb hi hd h0
  ·have : b = a:=by simpa using hb
   subst this
   exact absurd ⟨hi,hd,h0⟩ hn
theorem BehP.snoc_yes {at' : List Int} {ars : List ArcD} {j n : Nat} {x y : Int} {a : ArcD} (h : BehP at' ars j n x) (hi : a.inp = (j : Int) + 1) (hd : a.dst = (n : Int)) (h0 : 0 <= gI at' a.src.toNat) (hw : 0 <= a.wt) (hy : y = if x = -1 \/ gI at' a.src.toNat + a.wt < x then gI at' a.src.toNat + a.wt else x) : BehP at' (ars ++ [a]) j n y:=by
 right
 rcases h with ⟨h1,h2⟩ | ⟨h1,⟨b,hb,h2⟩,h3⟩
 ·rw [if_pos (Or.inl h1)] at hy
  refine ⟨by omega,⟨a,by simp,hi,hd,h0,hy⟩,fun b hb hbi hbd hb0 => ?_⟩
  rcases List.mem_append.1 hb with hb | hb
  ·have:=h2 b hb hbi hbd; omega
  ·have : b = a:=by simpa using hb
   subst this
   omega
 ·by_cases hlt : gI at' a.src.toNat + a.wt < x
  ·rw [if_pos (Or.inr hlt)] at hy
   refine ⟨by omega,⟨a,by simp,hi,hd,h0,hy⟩,fun b hb hbi hbd hb0 => ?_⟩
   rcases List.mem_append.1 hb with hb | hb
   ·have:=h3 b hb hbi hbd hb0; omega
   ·have : b = a:=by simpa using hb
    subst this
    omega
  ·rw [if_neg (by omega)] at hy
   subst hy
   refine ⟨h1,⟨b,List.mem_append_left _ hb,h2⟩,fun b hb hbi hbd hb0 => ?_⟩
   rcases List.mem_append.1 hb with hb | hb
   ·exact h3 b hb hbi hbd hb0
   ·have : b = a:=by simpa using hb
    subst this
    omega
theorem behL_what {at' : List Int} {N : Nat} (j : Nat) (hlo : ∀ s,gI at' s = -1 \/ 0 <= gI at' s) : ∀ ars : List ArcD,(∀ a ∈ ars,0 <= a.dst /\ a.dst < N /\ 0 <= a.wt) -> ∀ n,n < N -> BehP at' ars j n (gI (behL at' N ars j) n):=by
 refine snocA ?_ ?_
 ·intro _ n hn
  left
  refine ⟨?_,fun a ha => by cases ha⟩
  unfold behL gI
  simp [List.getD,hn]
 ·intro l a ih hw n hn
  have hl:=ih (fun b hb => hw b (List.mem_append_left _ hb)) n hn
  have ha:=hw a (by simp)
  rw [behL_snoc]
  have hlen:=behL_len at' N l j
  obtain ⟨r,hr⟩ : ∃ r,r = behL at' N l j:=⟨_,rfl⟩
  rw [<- hr] at hl hlen ⊢
  clear hr ih
  have hx : gI r n = -1 \/ 0 <= gI r n:=by
   rcases hl with ⟨e,_⟩ | ⟨e,_⟩
   ·exact Or.inl e
   ·exact Or.inr e
  unfold stepB
  by_cases hi : a.inp = (j : Int) + 1
  ·rw [if_pos hi]
   by_cases hd : a.dst = (n : Int)
   ·have hdn : a.dst.toNat = n:=by omega
    rw [hdn]
    rcases hlo a.src.toNat with hs | hs
    ·have hp : plusC (gI at' a.src.toNat) a.wt = -1:=by unfold plusC; rw [if_pos (Or.inl (by omega))]
     have hb : betterB (-1) (gI r n) = false:=by unfold betterB; rfl
     rw [hp,hb,if_neg Bool.false_ne_true]
     exact hl.snoc_no (by rintro ⟨_,_,h⟩; omega) hlo
    ·have hp : plusC (gI at' a.src.toNat) a.wt = gI at' a.src.toNat + a.wt:=by unfold plusC; rw [if_neg (by omega)]
     rw [hp]
     refine hl.snoc_yes hi hd hs ha.2.2 ?_
     by_cases hbt : gI r n = -1 \/ gI at' a.src.toNat + a.wt < gI r n
     ·have : betterB (gI at' a.src.toNat + a.wt) (gI r n) = true:=(better_iff (by omega) (by omega)).2 ⟨by omega,hbt⟩
      rw [if_pos this,if_pos hbt,gI_set _ _ _ _ (by omega),if_pos rfl]
     ·have : ¬ betterB (gI at' a.src.toNat + a.wt) (gI r n) = true:=fun h => hbt ((better_iff (by omega) (by omega)).1 h).2
      rw [if_neg this,if_neg hbt]
   ·have hn2 : ¬ n = a.dst.toNat:=by omega
    have : gI (if betterB (plusC (gI at' a.src.toNat) a.wt) (gI r a.dst.toNat) = true then r.set a.dst.toNat (plusC (gI at' a.src.toNat) a.wt) else r) n = gI r n:=by
     split
     ·rw [gI_set _ _ _ _ (by omega),if_neg hn2]
     ·rfl
    rw [this]
    exact hl.snoc_no (by rintro ⟨_,h,_⟩; exact hd h) hlo
  ·rw [if_neg hi]
   exact hl.snoc_no (by rintro ⟨h,_⟩; exact hi h) hlo
def Enc (f : FstD) (s0 N : Nat) (V : List Int) (c : Int) (u : List Int) : Prop:=0 <= c /\ (∀ s,gI V s = -1 \/ 0 <= gI V s) /\ ∀ n,n < N -> BestV f s0 u n (if gI V n = -1 then -1 else gI V n + c)
theorem Enc.next {f : FstD} {s0 N : Nat} {V : List Int} {c : Int} {u : List Int} (h : Enc f s0 N V c u) (hw : WideA f N) (hs : s0 < N) (j : Nat) : Enc f s0 N (behL V N f.arcs j) c (((j : Int) + 1) :: u):=by
 obtain ⟨hc,hlo,hV⟩:=h
 have hB:=behL_what (N:=N) j hlo f.arcs (fun a ha => ⟨(hw a ha).2.1.1,(hw a ha).2.1.2,(hw a ha).2.2.1⟩)
 refine ⟨hc,fun s => ?_,fun n hn => ?_⟩
 ·by_cases hsn : s < N
  ·rcases hB s hsn with ⟨e,_⟩ | ⟨e,_⟩
   ·exact Or.inl e
   ·exact Or.inr e
  ·left
   unfold gI
   rw [List.getD_eq_getElem?_getD,List.getElem?_eq_none (by rw [behL_len]; omega)]
   rfl
 ·have key : ∀ a ∈ f.arcs,a.src = ((a.src.toNat : Nat) : Int) /\ a.src.toNat < N:=fun a ha => by
   have:=(hw a ha).1
   exact ⟨by omega,by omega⟩
  rcases hB n hn with ⟨e,h2⟩ | ⟨e,⟨a,ha,hi,hd,h0,hx⟩,h3⟩
  ·rw [if_pos e]
   refine Or.inl ⟨rfl,?_⟩
   rintro z ⟨a,ha,n',z',hW,hi,hsr,hd,rfl⟩
   have h4:=h2 a ha hi hd
   have hn' : a.src.toNat = n':=by omega
   rw [hn'] at h4
   rcases hV n' (by have:=(key a ha).2; omega) with ⟨_,h5⟩ | ⟨h5,_⟩
   ·exact h5 _ hW
   ·rw [if_pos h4] at h5; omega
  ·rw [if_neg (by omega)]
   refine Or.inr ⟨by omega,?_,?_⟩
   ·rcases hV a.src.toNat (key a ha).2 with ⟨h5,_⟩ | ⟨_,h5,_⟩
    ·rw [if_neg (by omega)] at h5; omega
    ·rw [if_neg (by omega)] at h5
     exact ⟨a,ha,a.src.toNat,_,h5,hi,(key a ha).1,hd,by omega⟩
   ·rintro z ⟨b,hb,n',z',hW,hi',hsr,hd',rfl⟩
    have hn' : b.src.toNat = n':=by omega
    have hk:=(key b hb).2
    rw [hn'] at hk
    have h4:=h3 b hb hi' hd'
    rw [hn'] at h4
    rcases hV n' hk with ⟨h5,h6⟩ | ⟨h5,h6,h7⟩
    ·exact absurd hW (h6 _)
    ·have h8:=h7 _ hW
     by_cases e1 : gI V n' = -1
     ·rw [if_pos e1] at h5; omega
     ·rw [if_neg e1] at h8
      have:=h4 (by rcases hlo n' with e | e <;> omega)
      omega
theorem Enc.dead {f : FstD} {s0 N : Nat} {V : List Int} {c : Int} {u : List Int} (h : Enc f s0 N V c u) (hw : WideA f N) (hs : s0 < N) (hn : ∀ n,n < N -> gI V n = -1) {n : Nat} {z : Int} : ¬ WdR f s0 u n z:=by
 intro hW
 have hlt:=hW.lt hw hs
 rcases h.2.2 n hlt with ⟨_,h1⟩ | ⟨h1,_⟩
 ·exact h1 _ hW
 ·rw [if_pos (hn n hlt)] at h1; omega
theorem Enc.live {f : FstD} {s0 N : Nat} {V : List Int} {c : Int} {u : List Int} (h : Enc f s0 N V c u) {n : Nat} (hn : n < N) (he : gI V n ≠ -1) : WdR f s0 u n (gI V n + c):=by
 rcases h.2.2 n hn with ⟨h1,_⟩ | ⟨_,h1,_⟩
 ·rw [if_neg he] at h1
  have:=h.1
  rcases h.2.1 n with e | e <;> omega
 ·rw [if_neg he] at h1
  exact h1
theorem enc_start {f : FstD} {s0 N : Nat} (hs : s0 < N) : Enc f s0 N (onlyL N s0) 0 []:=by
 have hg : ∀ n,gI (onlyL N s0) n = if n = s0 then 0 else -1:=by
  intro n
  unfold onlyL
  rw [gI_set _ _ _ _ (by simpa using hs)]
  split
  ·rfl
  ·unfold gI
   by_cases hn : n < N <;> simp [List.getD,hn]
 refine ⟨Int.le_refl _,fun s => by rw [hg]; split <;> simp,fun n hn => ?_⟩
 rw [hg]
 by_cases e : n = s0
 ·rw [if_pos e,if_neg (by decide)]
  exact Or.inr ⟨by decide,⟨e,rfl⟩,fun z hz => by rw [hz.2]; decide⟩
 ·rw [if_neg e,if_pos rfl]
  exact Or.inl ⟨rfl,fun z hz => e hz.1⟩
theorem Enc.pad {f : FstD} {s0 N : Nat} {V : List Int} {c : Int} {u : List Int} (h : Enc f s0 N V c u) (hl : V.length = N) (hN : N <= 200) (hp : PrOk V) (hc : cheapD V ≠ -1) : Enc f s0 N ((padL V).take N) (c + cheapD V) u:=by
 have hg : ∀ s,gI ((padL V).take N) s = if gI V s = -1 then -1 else gI V s - cheapD V:=by
  intro s
  by_cases hs : s < N
  ·rw [<- padL_at V (by omega : s < 200)]
   unfold gI
   rw [List.getD_eq_getElem?_getD,List.getD_eq_getElem?_getD,List.getElem?_take_of_lt hs]
  ·have : gI V s = -1:=by
    unfold gI
    rw [List.getD_eq_getElem?_getD,List.getElem?_eq_none (by omega)]
    rfl
   rw [if_pos this]
   unfold gI
   rw [List.getD_eq_getElem?_getD,List.getElem?_eq_none (by rw [List.length_take]; omega)]
   rfl
 rcases cheapD_what V hp with ⟨e,_⟩ | ⟨e1,e2,e3⟩
 ·exact absurd e hc
 have hle : ∀ s,gI V s = -1 \/ cheapD V <= gI V s:=by
  intro s
  by_cases hs : s < N
  ·have hm : gI V s ∈ V:=by
    unfold gI
    rw [List.getD_eq_getElem?_getD,List.getElem?_eq_getElem (by omega),Option.getD_some]
    exact List.getElem_mem _
   exact e3 _ hm
  ·left
   unfold gI
   rw [List.getD_eq_getElem?_getD,List.getElem?_eq_none (by omega)]
   rfl
 refine ⟨by have:=h.1; omega,fun s => ?_,fun n hn => ?_⟩
 ·rw [hg]
  split
  ·exact Or.inl rfl
  ·have:=hle s; right; omega
 ·have:=h.2.2 n hn
  rw [hg]
  by_cases e : gI V n = -1
  ·rw [if_pos e] at this ⊢
   rw [if_pos rfl]
   exact this
  ·rw [if_neg e] at this ⊢
   have h4:=hle n
   rw [if_neg (by omega),show gI V n - cheapD V + (c + cheapD V) = gI V n + c by omega]
   exact this
theorem cheapD_none {V : List Int} {N : Nat} (hl : V.length = N) (hp : PrOk V) : cheapD V = -1 ↔ ∀ n,n < N -> gI V n = -1:=by
 rcases cheapD_what V hp with ⟨e,h⟩ | ⟨e1,e2,e3⟩
 ·refine ⟨fun _ n hn => ?_,fun _ => e⟩
  apply h
  unfold gI
  rw [List.getD_eq_getElem?_getD,List.getElem?_eq_getElem (by omega),Option.getD_some]
  exact List.getElem_mem _
 ·constructor
  ·intro e; omega
  ·intro h
   obtain ⟨n,hn,he⟩:=List.mem_iff_getElem.1 e2
   have:=h n (by omega)
   unfold gI at this
   rw [List.getD_eq_getElem?_getD,List.getElem?_eq_getElem hn,Option.getD_some,he] at this
   exact this
end Go.Proofs.Yteehgcbjmdideab
/- The subsets of states: one row for each,and what is read leads to one of them. -/
namespace Go.Proofs.Yteehgcbjmdideab
theorem nodup_at {α : Type} {l : List α} (h : l.Nodup) {i j : Nat} {x : α} (hi : l[i]? = some x) (hj : l[j]? = some x) : i = j:=by
 induction l generalizing i j with
 | nil => simp at hi
 | cons a t ih =>
  rw [List.nodup_cons] at h
  cases i with
  | zero =>
   cases j with
   | zero => rfl
   | succ j =>
    rw [List.getElem?_cons_zero] at hi
    rw [List.getElem?_cons_succ] at hj
    injection hi with hi
    subst hi
    exact absurd (List.mem_of_getElem? hj) h.1
  | succ i =>
   cases j with
   | zero =>
    rw [List.getElem?_cons_zero] at hj
    rw [List.getElem?_cons_succ] at hi
    injection hj with hj
    subst hj
    exact absurd (List.mem_of_getElem? hi) h.1
   | succ j =>
    rw [List.getElem?_cons_succ] at hi hj
    rw [ih h.2 hi hj]
def nxtL (f : FstD) (N : Nat) (l : List Int) (i : Nat) : List Int:=behL (l.take N) N f.arcs i
structure Part (f : FstD) (N s0 : Nat) (ms : List (List Int)) (ars : List ArcD) (k i : Nat) : Prop where
 zero : ms[0]? = some (padL (onlyL N s0))
 nd : ms.Nodup
 bd : SubB ms
 arc : ∀ (k' : Nat) (l : List Int) (i' : Nat),(k' < k \/ (k' = k /\ i' < i)) -> i' < 9 -> ms[k']? = some l -> cheapD (nxtL f N l i') ≠ -1 -> ∃ t : Nat,ms[t]? = some (padL (nxtL f N l i')) /\ (⟨(k' : Int),(i' : Int) + 1,(i' : Int) + 1,(t : Int),cheapD (nxtL f N l i')⟩ : ArcD) ∈ ars
 is : ∀ a ∈ ars,∃ (k' : Nat) (l : List Int) (i' t : Nat),(k' < k \/ (k' = k /\ i' < i)) /\ i' < 9 /\ ms[k']? = some l /\ cheapD (nxtL f N l i') ≠ -1 /\ ms[t]? = some (padL (nxtL f N l i')) /\ a = ⟨(k' : Int),(i' : Int) + 1,(i' : Int) + 1,(t : Int),cheapD (nxtL f N l i')⟩
 ord : ars.Pairwise (fun a b => a.src < b.src \/ (a.src = b.src /\ a.inp < b.inp))
 come : ∀ t : Nat,0 < t -> t < ms.length -> ∃ a ∈ ars,a.dst = (t : Int) /\ a.src < (t : Int)
theorem meetL_ext (ms : List (List Int)) (l : List Int) {k : Nat} {m : List Int} (h : ms[k]? = some m) : (meetL ms l)[k]? = some m:=by
 unfold meetL
 split
 ·exact h
 ·rw [List.getElem?_append_left (List.getElem?_eq_some_iff.1 h).1]
  exact h
theorem meetL_nd {ms : List (List Int)} {l : List Int} (h : ms.Nodup) : (meetL ms l).Nodup:=by
 unfold meetL
 split
 ·exact h
 ·rename_i hn
  rw [List.nodup_append]
  refine ⟨h,by simp,fun a ha b hb e => ?_⟩
  have : b = l:=by simpa using hb
  subst this
  rw [e] at ha
  exact hn ha
theorem row_prices {ms : List (List Int)} (h : SubB ms) {k : Nat} {l : List Int} (hk : ms[k]? = some l) (N : Nat) : ∀ s,gI (l.take N) s = -1 \/ (0 <= gI (l.take N) s /\ gI (l.take N) s <= (k : Int) * 1000000000):=by
 intro s
 unfold gI
 rw [List.getD_eq_getElem?_getD]
 rcases e : (l.take N)[s]? with _ | x
 ·exact Or.inl rfl
 ·rw [Option.getD_some]
  exact (h k l hk).2 x (List.mem_of_mem_take (List.mem_of_getElem? e))
section
variable {f : FstD} {N s0 : Nat} {ms : List (List Int)} {ars : List ArcD} {k i : Nat} {l : List Int}
theorem nxt_bound (hw : ∀ a ∈ f.arcs,0 <= a.wt /\ a.wt <= 1000000000) (h : SubB ms) (hk : ms[k]? = some l) (i : Nat) : ∀ x ∈ nxtL f N l i,x = -1 \/ (0 <= x /\ x <= (k : Int) * 1000000000 + 1000000000) :=
 behL_bound (row_prices h hk N) hw i
theorem nxt_pr (hw : ∀ a ∈ f.arcs,0 <= a.wt /\ a.wt <= 1000000000) (h : SubB ms) (hk : ms[k]? = some l) (hk2 : k <= 300) (i : Nat) : PrOk (nxtL f N l i):=fun x hx => by
 have:=nxt_bound (N:=N) hw h hk i x hx
 omega
theorem Part.letter (hw : ∀ a ∈ f.arcs,0 <= a.wt /\ a.wt <= 1000000000) (h : Part f N s0 ms ars k i) (hk : ms[k]? = some l) (hk2 : k <= 300) (hi : i < 9) :
  Part f N s0 (letS (l.take N) N f.arcs k i (ms,ars)).1 (letS (l.take N) N f.arcs k i (ms,ars)).2 k (i + 1):=by
 have hkl:=(List.getElem?_eq_some_iff.1 hk).1
 unfold letS
 by_cases hc : cheapD (nxtL f N l i) = -1
 ·rw [if_pos (show cheapD (behL (l.take N) N f.arcs i) = -1 from hc)]
  refine ⟨h.zero,h.nd,h.bd,fun k' l' i' hlt hi9 hk' hc' => ?_,fun a ha => ?_,h.ord,h.come⟩
  ·by_cases e : k' = k /\ i' = i
   ·obtain ⟨rfl,rfl⟩:=e
    have : l' = l:=by rw [hk'] at hk; injection hk
    subst this
    exact absurd hc hc'
   ·exact h.arc k' l' i' (by omega) hi9 hk' hc'
  ·obtain ⟨k',l',i',t,hlt,r⟩:=h.is a ha
   exact ⟨k',l',i',t,by omega,r⟩
 ·rw [if_neg (show ¬ cheapD (behL (l.take N) N f.arcs i) = -1 from hc)]
  dsimp only
  obtain ⟨p,hp⟩ : ∃ p,p = padL (nxtL f N l i):=⟨_,rfl⟩
  obtain ⟨c,hcd⟩ : ∃ c,c = cheapD (nxtL f N l i):=⟨_,rfl⟩
  have e1 : padL (behL (l.take N) N f.arcs i) = p:=by rw [hp]; rfl
  have e2 : cheapD (behL (l.take N) N f.arcs i) = c:=by rw [hcd]; rfl
  rw [e1,e2]
  have hat:=idxL_at (meetL_mem ms p)
  obtain ⟨t,ht⟩ : ∃ t,t = idxL (meetL ms p) p:=⟨_,rfl⟩
  rw [<- ht] at hat ⊢
  refine ⟨meetL_ext _ _ h.zero,meetL_nd h.nd,?_,fun k' l' i' hlt hi9 hk' hc' => ?_,fun a ha => ?_,?_,fun t' h0 hlt => ?_⟩
  ·refine meetL_B h.bd hkl (by rw [hp]; exact padL_len _) ?_
   rw [hp]
   exact padL_bound (nxt_bound hw h.bd hk i) (by omega) hc
  ·have hold : k' < k \/ (k' = k /\ i' < i) \/ (k' = k /\ i' = i):=by omega
   have hk'' : ms[k']? = some l':=by
    have h1 : k' < ms.length:=by omega
    rw [<- hk',List.getElem?_eq_getElem h1]
    exact (meetL_ext ms p (List.getElem?_eq_getElem h1)).symm
   by_cases e : k' = k /\ i' = i
   ·obtain ⟨rfl,rfl⟩:=e
    have : l' = l:=by rw [hk''] at hk; injection hk
    subst this
    refine ⟨t,?_,List.mem_append_right _ ?_⟩
    ·rw [<- hp]; exact hat
    ·rw [<- hcd]; exact List.mem_singleton.2 rfl
   ·obtain ⟨t',h1,h2⟩:=h.arc k' l' i' (by omega) hi9 hk'' hc'
    exact ⟨t',meetL_ext _ _ h1,List.mem_append_left _ h2⟩
  ·rcases List.mem_append.1 ha with ha | ha
   ·obtain ⟨k',l',i',t',hlt,h9,h1,h2,h3,h4⟩:=h.is a ha
    exact ⟨k',l',i',t',by omega,h9,meetL_ext _ _ h1,h2,meetL_ext _ _ h3,h4⟩
   ·have : a = ⟨(k : Int),(i : Int) + 1,(i : Int) + 1,(t : Int),c⟩:=by simpa using ha
    exact ⟨k,l,i,t,by omega,hi,meetL_ext _ _ hk,hc,by rw [<- hp]; exact hat,by rw [this,hcd]⟩
  ·rw [List.pairwise_append]
   refine ⟨h.ord,by simp,fun a ha b hb => ?_⟩
   have hbe : b = ⟨(k : Int),(i : Int) + 1,(i : Int) + 1,(t : Int),c⟩:=by simpa using hb
   obtain ⟨k',l',i',t',hlt,h9,h1,h2,h3,h4⟩:=h.is a ha
   rw [hbe,h4]
   dsimp only
   omega
  ·by_cases e : t' < ms.length
   ·obtain ⟨a,ha,h1⟩:=h.come t' h0 e
    exact ⟨a,List.mem_append_left _ ha,h1⟩
   ·have hm:=meetL_len ms p
    have hnd:=meetL_nd (l:=p) h.nd
    have hpm : p ∉ ms:=fun hin => by
     have : meetL ms p = ms:=by unfold meetL; rw [if_pos hin]
     rw [this] at hlt
     omega
    have hm2 : meetL ms p = ms ++ [p]:=by unfold meetL; rw [if_neg hpm]
    have hte : t = ms.length:=by
     rw [hm2] at hat
     by_cases e3 : t < ms.length
     ·rw [List.getElem?_append_left e3] at hat
      exact absurd (List.mem_of_getElem? hat) hpm
     ·have:=(List.getElem?_eq_some_iff.1 hat).1
      rw [List.length_append,List.length_singleton] at this
      omega
    refine ⟨_,List.mem_append_right _ (List.mem_singleton.2 rfl),?_,?_⟩
    ·show ((t : Nat) : Int) = _
     omega
    ·show ((k : Nat) : Int) < _
     omega
theorem Part.next (h : Part f N s0 ms ars k 9) : Part f N s0 ms ars (k + 1) 0 :=
 ⟨h.zero,h.nd,h.bd,fun k' l i' hlt hi => h.arc k' l i' (by omega) hi,fun a ha => by
  obtain ⟨k',l,i',t,hlt,r⟩:=h.is a ha
  exact ⟨k',l,i',t,by omega,r⟩,h.ord,h.come⟩
theorem letsN_ext (at' : List Int) (ars' : List ArcD) (k : Nat) (S : List (List Int) × List ArcD) {j : Nat} {m : List Int} (h : S.1[j]? = some m) : ∀ i,(letsN at' N ars' k i S).1[j]? = some m
 | 0 => h
 | i + 1 => by
  unfold letsN letS
  split
  ·exact letsN_ext at' ars' k S h i
  ·exact meetL_ext _ _ (letsN_ext at' ars' k S h i)
theorem Part.letters (hw : ∀ a ∈ f.arcs,0 <= a.wt /\ a.wt <= 1000000000) (h : Part f N s0 ms ars k 0) (hk : ms[k]? = some l) (hk2 : k <= 300) :
  ∀ i,i <= 9 -> Part f N s0 (letsN (l.take N) N f.arcs k i (ms,ars)).1 (letsN (l.take N) N f.arcs k i (ms,ars)).2 k i
 | 0,_ => h
 | i + 1,hi => (h.letters hw hk hk2 i (by omega)).letter hw (letsN_ext _ _ _ _ hk i) hk2 (by omega)
theorem subR_ext (f : FstD) (N : Nat) {k j : Nat} {m : List Int} (h : (subR f N k).ms[j]? = some m) : (subR f N (k + 1)).ms[j]? = some m:=letsN_ext _ _ _ _ h 9
theorem subR_part (hw : ∀ a ∈ f.arcs,0 <= a.wt /\ a.wt <= 1000000000) (hs : s0 < N) (hsta : f.start = (s0 : Int)) : ∀ k,k <= 300 -> (∀ j,j < k -> j < (subR f N j).ms.length) ->
  Part f N s0 (subR f N k).ms (subR f N k).ars k 0 /\ ∀ (k' : Nat) (l : List Int),k' < k -> (subR f N k).ms[k']? = some l -> gI (subR f N k).fin k' = ownEnd f (l.take N)
 | 0,_,_ => by
  refine ⟨⟨?_,?_,?_,fun k' l i' hlt => (by omega),fun a ha => (by cases ha),List.Pairwise.nil,fun t h0 hlt => ?_⟩,fun k' l hlt => by omega⟩
  ·show some (padL ((List.replicate N (-1)).set f.start.toNat 0)) = _
   rw [hsta]
   rfl
  ·show List.Nodup [_]
   simp
  ·have:=subB_zero hs
   show SubB [padL ((List.replicate N (-1)).set f.start.toNat 0)]
   rw [hsta]
   exact this
  ·have : t < 1:=hlt
   omega
 | k + 1,hk,hp => by
  obtain ⟨ih,ihf⟩:=subR_part hw hs hsta k (by omega) (fun j hj => hp j (by omega))
  have hkl:=hp k (by omega)
  have hl : (subR f N k).ms[k]? = some ((subR f N k).ms[k]):=List.getElem?_eq_getElem hkl
  have hat : atS N (subR f N k) k = ((subR f N k).ms[k]).take N:=by
   unfold atS
   rw [List.getD_eq_getElem?_getD,hl]
   rfl
  refine ⟨?_,fun k' l hlt hk' => ?_⟩
  ·have:=(ih.letters hw hl (by omega) 9 (by omega)).next
   unfold subR
   rw [hat]
   exact this
  ·have hfl:=subR_fin f N k
   show gI ((subR f N k).fin ++ [ownEnd f (atS N (subR f N k) k)]) k' = _
   by_cases e : k' = k
   ·subst e
    have : (subR f N (k' + 1)).ms[k']? = some ((subR f N k').ms[k']):=subR_ext f N hl
    rw [this] at hk'
    injection hk' with hk'
    unfold gI
    rw [List.getD_eq_getElem?_getD,List.getElem?_append_right (by omega),hfl,Nat.sub_self]
    show ownEnd f (atS N (subR f N k') k') = _
    rw [hat,hk']
   ·have h1 : k' < k:=by omega
    have h2 : k' < (subR f N k).ms.length:=by omega
    have h3:=subR_ext f N (List.getElem?_eq_getElem h2)
    rw [h3] at hk'
    injection hk' with hk'
    have h4:=ihf k' _ h1 (List.getElem?_eq_getElem h2)
    rw [<- hk',<- h4]
    unfold gI
    rw [List.getD_eq_getElem?_getD,List.getD_eq_getElem?_getD,List.getElem?_append_left (by omega)]
end
structure Sub (f : FstD) (N s0 K : Nat) (g : FstD) (ms : List (List Int)) : Prop where
 st : g.states = (K : Int)
 sta : g.start = 0
 len : ms.length = K
 flen : g.final.length = K
 fin : ∀ (k : Nat) (l : List Int),ms[k]? = some l -> gI g.final k = ownEnd f (l.take N)
 part : Part f N s0 ms g.arcs K 0
theorem subR_sub {f : FstD} {N s0 K : Nat} (hw : ∀ a ∈ f.arcs,0 <= a.wt /\ a.wt <= 1000000000) (hs : s0 < N) (hsta : f.start = (s0 : Int)) (hK : K <= 300) (hp : ∀ j,j < K -> j < (subR f N j).ms.length) (hlen : (subR f N K).ms.length = K) :
  Sub f N s0 K ⟨(K : Int),0,(subR f N K).fin,(subR f N K).ars⟩ (subR f N K).ms:=by
 obtain ⟨h1,h2⟩:=subR_part hw hs hsta K hK hp
 exact ⟨rfl,rfl,hlen,subR_fin f N K,fun k l hk => h2 k l (by have:=(List.getElem?_eq_some_iff.1 hk).1; omega) hk,h1⟩
section
variable {f : FstD} {N s0 K : Nat} {g : FstD} {ms : List (List Int)}
theorem Sub.k0 (h : Sub f N s0 K g ms) : 0 < K:=by
 have:=(List.getElem?_eq_some_iff.1 h.part.zero).1
 have:=h.len
 omega
theorem pad_only {N s0 : Nat} (hs : s0 < N) (hN : N <= 200) : (padL (onlyL N s0)).take N = onlyL N s0:=by
 have hg : ∀ n,gI (onlyL N s0) n = if n = s0 then 0 else -1:=by
  intro n
  unfold onlyL
  rw [gI_set _ _ _ _ (by simpa using hs)]
  split
  ·rfl
  ·unfold gI
   by_cases hn : n < N <;> simp [List.getD,hn]
 have hp : PrOk (onlyL N s0):=fun x hx => by have:=onlyL_ok N s0 x hx; omega
 have hc : cheapD (onlyL N s0) = 0:=by
  rcases cheapD_what _ hp with ⟨e,_⟩ | ⟨e1,_,e3⟩
  ·exact absurd e (onlyL_cheap hs)
  ·have h0 : (0 : Int) ∈ onlyL N s0:=by
    unfold onlyL
    exact List.mem_iff_getElem.2 ⟨s0,by simpa using hs,by simp⟩
   have:=e3 0 h0
   omega
 apply List.ext_getElem
 ·rw [List.length_take,padL_len]
  unfold onlyL
  simp
  omega
 ·intro i h1 h2
  have hi : i < N:=by rw [List.length_take] at h1; omega
  have h3 : gI (padL (onlyL N s0)) i = gI (onlyL N s0) i:=by
   rw [padL_at _ (by omega),hc]
   split
   ·rename_i e; exact e.symm
   ·omega
  unfold gI at h3
  rw [List.getD_eq_getElem?_getD,List.getD_eq_getElem?_getD,List.getElem?_eq_getElem h2,List.getElem?_eq_getElem (by rw [padL_len]; omega)] at h3
  rw [List.getElem_take]
  exact h3
theorem Part.run {k0 i0 : Nat} (h : Part f N s0 ms g.arcs k0 i0) (hW : WideA f N) (hw : ∀ a ∈ f.arcs,0 <= a.wt /\ a.wt <= 1000000000) (hs : s0 < N) (hN : N <= 200) (hK : ms.length <= 300) : ∀ (u : List Int) (k : Nat) (c : Int),WdR g 0 u k c -> ∃ l,ms[k]? = some l /\ Enc f s0 N (l.take N) c u
 | [],k,c,hr => by
  obtain ⟨rfl,rfl⟩:=hr
  exact ⟨_,h.zero,by rw [pad_only hs hN]; exact enc_start hs⟩
 | x :: u,k,c,hr => by
  obtain ⟨a,ha,k',c',hr',hi,hsr,hd,rfl⟩:=hr
  obtain ⟨l,hl,hE⟩:=h.run hW hw hs hN hK u k' c' hr'
  obtain ⟨k2,l2,i,t,_,h9,h1,h2,h3,rfl⟩:=h.is a ha
  dsimp only at hi hsr hd ⊢
  obtain rfl : k2 = k':=by omega
  obtain rfl : t = k:=by omega
  have : l2 = l:=by rw [h1] at hl; injection hl
  subst this
  have hkK:=(List.getElem?_eq_some_iff.1 h1).1
  refine ⟨_,h3,?_⟩
  rw [<- hi]
  exact (hE.next hW hs i).pad (behL_len _ _ _ _) hN (nxt_pr hw h.bd h1 (by omega) i) h2
theorem Sub.reads (h : Sub f N s0 K g ms) (hW : WideA f N) (hA : AccD f) (hw : ∀ a ∈ f.arcs,0 <= a.wt /\ a.wt <= 1000000000) (hs : s0 < N) (hN : N <= 200) (hK : K <= 300) : ∀ (u : List Int) (n : Nat) (z : Int),WdR f s0 u n z -> ∃ k c,WdR g 0 u k c
 | [],_,_,_ => ⟨0,0,rfl,rfl⟩
 | x :: u,n,z,hr => by
  obtain ⟨a,ha,n',z',hr',hi,hsr,hd,rfl⟩:=hr
  obtain ⟨k,c,hg⟩:=h.reads hW hA hw hs hN hK u n' z' hr'
  obtain ⟨l,hl,hE⟩:=h.part.run hW hw hs hN (by rw [h.len]; exact hK) u k c hg
  have hin:=(hW a ha).2.2.2
  have h0:=(hA a ha).2
  obtain ⟨i,hie⟩ : ∃ i : Nat,a.inp = (i : Int) + 1:=⟨(a.inp - 1).toNat,by omega⟩
  have hkK:=(List.getElem?_eq_some_iff.1 hl).1
  have hlen:=h.len
  have hpr:=nxt_pr (N:=N) hw h.part.bd hl (by omega) i
  have hc : cheapD (nxtL f N l i) ≠ -1:=by
   intro e
   have hn:=(cheapD_none (behL_len _ _ _ _) hpr).1 e
   refine (hE.next hW hs i).dead hW hs hn (n:=n) (z:=z' + a.wt) ?_
   exact ⟨a,ha,n',z',hr',hie,hsr,hd,rfl⟩
  obtain ⟨t,ht,hm⟩:=h.part.arc k l i (Or.inl (by omega)) (by omega) hl hc
  exact ⟨t,_,_,hm,k,c,hg,by rw [<- hi,hie],rfl,rfl,rfl⟩
theorem Part.det {k0 i0 : Nat} (h : Part f N s0 ms g.arcs k0 i0) : ∀ (u : List Int) (k k' : Nat) (c c' : Int),WdR g 0 u k c -> WdR g 0 u k' c' -> k = k' /\ c = c'
 | [],_,_,_,_,h1,h2 => by obtain ⟨rfl,rfl⟩:=h1; obtain ⟨rfl,rfl⟩:=h2; exact ⟨rfl,rfl⟩
 | x :: u,k,k',c,c',h1,h2 => by
  obtain ⟨a,ha,m,z,hr,hi,hsr,hd,rfl⟩:=h1
  obtain ⟨b,hb,m',z',hr',hi',hsr',hd',rfl⟩:=h2
  obtain ⟨rfl,rfl⟩:=h.det u m m' z z' hr hr'
  obtain ⟨q,l,i,t,_,h9,e1,e2,e3,rfl⟩:=h.is a ha
  obtain ⟨q',l',i',t',_,h9',e1',e2',e3',rfl⟩:=h.is b hb
  dsimp only at hi hi' hsr hsr' hd hd' ⊢
  obtain rfl : q = q':=by omega
  obtain rfl : i = i':=by omega
  have : l = l':=by rw [e1] at e1'; injection e1'
  subst this
  have ht : t = t':=by
   exact nodup_at h.nd e3 e3'
  exact ⟨by omega,rfl⟩
theorem Part.comes {k0 i0 : Nat} (h : Part f N s0 ms g.arcs k0 i0) : ∀ (m k : Nat),k < m -> k < ms.length -> ∃ u c,WdR g 0 u k c
 | 0,_,hm,_ => by omega
 | m + 1,k,hm,hk => by
  by_cases e : k = 0
  ·exact ⟨[],0,e,rfl⟩
  ·obtain ⟨a,ha,hd,hsr⟩:=h.come k (by omega) hk
   obtain ⟨q,l,i,t,_,h9,e1,e2,e3,rfl⟩:=h.is a ha
   dsimp only at hd hsr
   obtain ⟨u,c,hr⟩:=h.comes m q (by omega) (by omega)
   exact ⟨((i : Int) + 1) :: u,_,_,ha,q,c,hr,rfl,rfl,hd,rfl⟩
end
end Go.Proofs.Yteehgcbjmdideab
