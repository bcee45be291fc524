import Derived.Test.YthbhgelncdnmgaaGreatDoorY28
import Derived.Test.YthbhgelncdnmgaaGreatDoorY29
set_option linter.unusedVariables false
set_option linter.unusedSimpArgs false
set_option maxRecDepth 100000
set_option maxHeartbeats 2000000
namespace Go.Proofs.YthbhgelncdnmgaaGreatDoor
open Go.Proofs.Tryz
open Go.RowKit Go.Maps Go.Sort
def encE(e:Ex):List Value:=[.int .i64 (e.1:Int),.int .i64 (e.2.1:Int),.int .i64 (e.2.2:Int)]
def cfE(e f:Ex):Int:=lexI ((e.1:Int),(e.2.1:Int),(e.2.2:Int)) ((f.1:Int),(f.2.1:Int),(f.2.2:Int))
theorem Qcu(e f:Ex):Go.Proofs.ltOf cfE e f=elt e f:=by
 unfold Go.Proofs.ltOf elt cfE lexI;refine decide_eq_decide.2 ?_;simp only;constructor
 ·intro h
  split at h
  ·omega
  ·split at h
   ·omega
   ·split at h
    ·omega
    ·split at h
     ·omega
     ·split at h
      ·omega
      ·split at h
       ·omega
       ·omega
 ·intro h
  split
  ·omega
  ·split
   ·omega
   ·split
    ·omega
    ·split
     ·omega
     ·split
      ·omega
      ·omega
theorem Qyo:SWO (Go.Proofs.ltOf cfE) where
 irrefl x:=by rw [Qcu];exact Qc6 x
 trans x y z h1 h2:=by rw [Qcu]at*;exact Qht h1 h2
 ntrans x y z h1 h2:=by
  rw [Qcu]at*
  rw [Bool.eq_false_iff,ne_eq,Qd6]at*
  omega
theorem Qtm(x y:Ex)(h1:Go.Proofs.ltOf cfE x y=false)(h2:Go.Proofs.ltOf cfE y x=false):x=y:=by
 rw [Qcu]at h1 h2;by_cases h:x=y
 ·exact h
 ·rcases Qhu h with h'|h'
  ·rw [h']at h1;cases h1
  ·rw [h']at h2;cases h2
theorem Qv3(blk off size:Nat)(w:World):Go.Proofs.CmpLays prog 184 #[] encE 3 cfE blk off size w:=
 fun _ _ _ _ x y=>Qh8 _ _ _ _ _ _ _ _ rfl
def sortK(K:List Ex):List Ex:=K.mergeSort fun x y=>!(Go.Proofs.ltOf cfE) y x
theorem Qeq(K:List Ex):(sortK K).Perm K:=List.mergeSort_perm _ _
theorem Ql0{K:List Ex}(hn:K.Nodup):(sortK K).Pairwise (fun e f=>elt e f=true):=by
 have h1:(sortK K).Pairwise (fun e f=>(!(Go.Proofs.ltOf cfE) f e)=true):=by
  refine List.pairwise_mergeSort (fun a b c h1 h2=>?_) (fun a b=>?_) K
  ·rw [Qcu]at*
   simp only [Bool.not_eq_true',Bool.eq_false_iff,ne_eq,Qd6]at*
   omega
  ·rw [Qcu,Qcu]
   by_cases h:elt b a=true
   ·have:elt a b=false:=by
     rw [Bool.eq_false_iff];exact fun h'=>Qlg h h'
    simp [this]
   ·simp [h]
 have h2:(sortK K).Nodup:=(Qeq K).nodup_iff.2 hn;refine(List.pairwise_and_iff.2 ⟨h1,h2⟩).imp ?_;rintro e f ⟨h3,h4⟩;rw [Qcu]at h3;rcases Qhu h4 with h|h
 ·exact h
 ·rw [h]at h3;cases h3
theorem Qv4{α:Type}(enc:α->List Value)(k:Nat)(hk:∀x,(enc x).length=k)(ss:List α):∀(i:Nat) (e:α),ss[i]? =some e->∀(j:Nat) (v:Value),(enc e)[j]? =some v->(ss.flatMap enc)[i*k+j]? =some v:=by
 induction ss with
 |nil=>intro i e h;simp at h
 |cons x ss ih=>
  intro i e h j v hj;have hj3:j<k:=by have:=(List.getElem?_eq_some_iff.1 hj).1;rwa [hk]at this
  rw [List.flatMap_cons];cases i with
  |zero=>
   simp at h;subst h;rw [List.getElem?_append_left (by rw [hk];omega)]
   simpa using hj
  |succ i=>
   have e1:(i+1)*k+j=k+(i*k+j):=(by rw [Nat.add_mul];omega);rw [e1,List.getElem?_append_right (by rw [hk];omega),hk,Nat.add_sub_cancel_left];exact ih i e (by simpa using h) j v hj
theorem holds_of_row{α:Type}[Inhabited α](enc:α->List Value)(k:Nat)(hk:∀x,(enc x).length=k){W:World}{gb:Nat}{cur:Array Value}{t:TypeId}{ss:List α}(hgb:W.heap[gb]? =some (.cells cur t (0,0)))(ht:cur.toList.take (ss.length*k)=ss.flatMap enc):HoldsK enc k W gb 0 ss.toArray:=by
 intro t' htl;rw [size_flatK]at htl;have hts:t'<ss.length*k:=by simpa using htl
 have k0:0<k:=by rcases Nat.eq_zero_or_pos k with h|h;· subst h;omega
                 ·exact h
 have hi:t' / k<ss.length:=Nat.div_lt_of_lt_mul (by rwa [Nat.mul_comm]);have hm:t'%k<k:=Nat.mod_lt _ k0;constructor
 ·rw [Nat.zero_add,cell_of_row W gb t' cur t (0,0) hgb,get_flatK _ _ _ _ htl]
  have h1:(ss.flatMap enc)[t' / k*k+t'%k]? =some ((enc ss.toArray[t' / k]!)[t'%k]!):=by
   refine Qv4 enc k hk ss (t' / k) (ss.toArray[t' / k]!) ?_ (t'%k) _ ?_
   ·rw [getElem!_pos ss.toArray (t' / k) (by simpa using hi)]
    simp
   ·rw [getElem!_pos (enc ss.toArray[t' / k]!) (t'%k) (by rw [hk];exact hm)]
    simp
  have e1:t' / k*k+t'%k=t':=by rw [Nat.mul_comm];exact Nat.div_add_mod t' k
  rw [e1,<-ht,List.getElem?_take,if_pos hts]at h1
  simpa using h1
 ·exact frozen_of_row W gb (0+t') cur t hgb
theorem rdk_of_holds{α:Type}[Inhabited α](enc:α->List Value)(k:Nat)(hk:∀x,(enc x).length=k){W:World}{gb cap:Nat}{ss:List α}(h:HoldsK enc k W gb 0 ss.toArray)(hlt:gb<W.heap.size)(hc:ss.length<=cap):RdK W k (ss.map enc) (some ⟨gb,0,none⟩) ss.length cap:=
 ⟨by rw [List.length_map],hc,fun _=>⟨gb,0,rfl,hlt,fun i x hx j v hv=>by
  rw [List.getElem?_map]at hx;obtain⟨e,he,rfl⟩:=Option.map_eq_some_iff.1 hx;have hi:i<ss.length:=(List.getElem?_eq_some_iff.1 he).1;have hj:j<k:=by have:=(List.getElem?_eq_some_iff.1 hv).1;rwa [hk]at this
  have h1:=(h.cell (i:=i) (c:=j) (by simpa using hi) hj).1;rw [h1];have e1:ss.toArray[i]! =e:=by
   rw [getElem!_pos ss.toArray i (by simpa using hi)]
   simpa using (List.getElem?_eq_some_iff.1 he).2
  rw [e1,getElem!_pos (enc e) j (by rw [hk];exact hj)];rw [List.getElem?_eq_getElem (by rw [hk];exact hj)]at hv;exact hv⟩⟩
theorem Qgm{α:Type}[Inhabited α](enc:α->List Value)(k:Nat)(w:World)(gb n:Nat)(d:Array α)(os:Array Obj):w.grownBy (Sort.grow (putRowK enc k (Sort.ahead w n) gb 0 d) os) (some gb):=by
 refine⟨rfl,rfl,rfl,by simp [putRowK,putRow,mapBlock,Sort.ahead,Sort.grow],fun i hi hne=>?_⟩;have hg:gb≠i:=fun e=>hne (by rw [e])
 rw [heap_grow_old _ _ (by simpa [putRowK,putRow,mapBlock,Sort.ahead] using hi)];simp [putRowK,putRow,mapBlock,Sort.ahead,Array.getElem?_modify,hg]
theorem Qyp{w:World}{b n:Nat}{D:DataW Value}(h:w.ownsMap prog 147 RV b n D):size D<=n:=by
 obtain⟨es,ck,_,_,hs,rfl⟩:=h;rw [size_eq,length_sorted,List.length_map]
 simpa using hs
theorem Qyq{w:World}{q:Rat}(h:RatQ w zR q):q=0:=by
 obtain⟨A,n,c,A',m,c',e,h1,_⟩:=h;simp only [zR,Value.agg.injEq,Array.mk.injEq,List.cons.injEq,Value.slice.injEq,and_true]at e;have hn:n=0:=by omega
 subst hn;have h0:(limbs q.num.natAbs).length=0:=h1.len.symm;rw [Qae]at h0;exact Rat.num_eq_zero.1 (Int.natAbs_eq_zero.1 h0)
theorem Qv5(x:Ex):∀v∈encE x,v.oneCell'=true:=by
 intro u hu;simp only [encE,List.mem_cons,List.not_mem_nil,or_false]at hu;rcases hu with rfl|rfl|rfl<;>rfl
def RetKeys(w0:World)(c:Co)(D:DataW Value)(e:Ending)(w':World):Prop:=
 ∃A cap K,e=.returned (.slice A K.length cap)/\K.Pairwise (fun e f=>elt e f=true)/\KeysAre D K/\RdK w' 3 (K.map encE) A K.length cap/\Below w0.heap.size w0 w'
theorem Qip(Bm b n:Nat)(D:DataW Value)(c:Co)(w:World)(hown:w.ownsMap prog 147 RV b n D)(hD0:∀l,has D l=true->∃e,deg e<=5/\l=klOf e)(hn:n<=1000000)(hBm:w.cell? ⟨Bm,0,none⟩=some (.map (some b)))(hlt:Bm<w.heap.size):
 Calls prog 230 #[.func (.func 277) #[] #[.pointer (some ⟨Bm,0,none⟩)],.func (.func 184) #[] #[]] w (RetKeys w c D):=by
 have hsz:=Qyp hown;have hcol:=(callsIn_wide (n:=6)).1 (Qqi Fence.wide 6 trivial trivial rfl (by omega) 277 #[.pointer (some ⟨Bm,0,none⟩)] trivial
  (enters_of func277 (by kernel_rfl) rfl) (KeysAre D) (size D) (by omega) w (Qqf Fence.wide _ trivial rfl (by omega) Bm b n D hD0 w hlt hBm hown))
 have HC:=Lib.hid hcol;clear hcol hown hD0;go_enter func230,ntmps230;go_wp2_with fail
 refine HC.out.mono ?_;rintro e w1 ⟨v,K,rfl,hK,hrow,hnil,hb1⟩;rcases hrow.2 with⟨rfl,hz⟩|⟨gb,cap,cur,rfl,hbase,hgb,r1,r2,r3,r4⟩
 ·have hK0:K=[]:=List.eq_nil_of_length_eq_zero hz
  subst hK0;have hs:Calls prog 276 #[.slice none 0 0,.func (.func 184) #[] #[]] w1 _:=Go.Proofs.AnyF.slices_SortFunc_none Ls.Tryz.sortE none 0 (.func (.func 184) #[] #[]) w1;have HS:=Lib.hid hs;clear hs hnil hrow;go_wp2_with fail
  refine HS.out.mono ?_;rintro e w2 ⟨rfl,rfl⟩;go_wp2_with fail
  go_ret;exact⟨none,0,[],rfl,List.Pairwise.nil,hK,RdK.nil _ _ _ _,hb1⟩
 ·have hgl:gb<w1.heap.size:=Qas hgb
  have hlenK:K.length<=1000000:=by
   have h1:=hK.1;have h2:K.length<=56:=by
    have:K.length<=allE.length:=h1.length_le_of_subset (fun e he=>(Qdo e).2 ((hK.2 e).1 he).1)
    rwa [Qe8]at this
   omega
  have hH:HoldsK encE 3 w1 gb 0 K.toArray:=holds_of_row encE 3 (fun _=>rfl) hgb r4;have hs:=Go.Proofs.AnyQ.slices_SortFunc_total Ls.Tryz.sortE 3 isAgg147 sizeOf147 encE (fun _=>rfl) Qv5 cfE Qyo 184 #[] gb 0 cap K.toArray w1 (enters_of func184 (by kernel_rfl) rfl) (Qv3 gb 0 K.toArray.size w1) hH hgl (by simp;omega) Qtm;have hs':Calls prog 276 #[.slice (some ⟨gb,0,none⟩) K.length cap,.func (.func 184) #[] #[]] w1 fun e w'=>e=.returned (.tuple #[])/\∃n os,w'=sortWorldK encE 3 w1 gb 0 n (sortK K).toArray os:=hs
  have HS:=Lib.hid hs';have HH:=Lib.hid hH;have HB:Hid (w.heap.size<=gb):=hbase;have HR:Hid (K.length<=cap):=r1;have HG:Hid (gb<w1.heap.size):=hgl;clear hs hs' hnil hrow hH r1 r2 r3 r4 hgb hbase;go_wp2_with fail
  refine HS.out.mono ?_;rintro e w2 ⟨rfl,n2,os,hw2⟩;have HW:=Lib.hid hw2;clear hw2;go_wp2_with fail
  go_ret;have hlen:(sortK K).length=K.length:=(Qeq K).length_eq;refine⟨some ⟨gb,0,none⟩,cap,sortK K,by rw [hlen];rfl,Ql0 hK.1,⟨(Qeq K).nodup_iff.2 hK.1,fun e=>by rw [(Qeq K).mem_iff];exact hK.2 e⟩,?_,?_⟩
  ·have h2:=holdsK_sortWorldK encE 3 w1 gb 0 n2 K.toArray (sortK K).toArray os HG.out HH.out (by simp [hlen])
   rw [<-HW.out]at h2;have hlt2:gb<w2.heap.size:=by
    rw [HW.out];exact Nat.lt_of_lt_of_le HG.out (Qgm encE 3 w1 gb n2 _ os).size
   exact rdk_of_holds encE 3 (fun _=>rfl) h2 hlt2 (by rw [hlen];exact HR.out)
  ·rw [HW.out]
   exact hb1.grown (Qgm encE 3 w1 gb n2 _ os) hb1.size (fun k e=>by cases e;exact HB.out)
end Go.Proofs.YthbhgelncdnmgaaGreatDoor
