import Derived.Test.YthbhgelncdnmgaaGreatDoorProg
import Derived.WalkKit
import Derived.WalkSpells
import Derived.WalkLawsBesides
import Derived.Lib.Hide
import Derived.Deep.QuietTactic
import Derived.BigQuiet
import Derived.Deep.OwnRows
import Derived.StillTailTactics
import Derived.Maps.AppendAt
import Derived.Lib.SliceRun
set_option linter.unusedVariables false
set_option linter.unusedSimpArgs false
set_option maxHeartbeats 2000000
set_option maxRecDepth 20000
namespace Go.Proofs.YthbhgelncdnmgaaGreatDoor
open Go.Proofs.Tryz
open Lib (hid)
open Nat (le_refl le_trans zero_le lt_of_lt_of_le lt_or_ge eq_zero_or_pos mod_lt mul_le_mul_right pow_pos mod_eq_of_lt)
def val:List Nat->Nat
 |[]=>0
 |x::l=>x+4294967296*val l
def Lim(l:List Nat):Prop:=∀x∈l,x<4294967296
def P(k:Nat):Nat:=4294967296^k
theorem Qfj:P 0=1:=rfl
theorem Qa2(k:Nat):P (k+1)=P k*4294967296:=by unfold P;exact Nat.pow_succ ..
theorem Qhg(k:Nat):0<P k:=pow_pos (by decide)
theorem Qra(i j:Nat):P (i+j)=P i*P j:=by unfold P;exact Nat.pow_add _ _ _
theorem Qjl{i j:Nat}(h:i<=j):P i<=P j:=Nat.pow_le_pow_right (by decide) h
theorem Qef(x:Nat)(l:List Nat):val (x::l)=x+4294967296*val l:=rfl
theorem Qcy(l r:List Nat):val (l++r)=val l+P l.length*val r:=by
 induction l with
 |nil=>simp [val,Qfj]
 |cons x l ih=>simp only [List.cons_append,val,ih,List.length_cons,Qa2];grind
theorem Qfk(l:List Nat)(x:Nat):val (l++[x])=val l+P l.length*x:=by simp [Qcy,val]
theorem Lim.nil:Lim []:=fun _ h=>by simp at h
theorem Lim.cons{x:Nat}{l:List Nat}(hx:x<4294967296)(h:Lim l):Lim (x::l):=fun y hy=>by
 rcases List.mem_cons.1 hy with rfl|hy
 ·exact hx
 ·exact h y hy
theorem Lim.append{l r:List Nat}(h:Lim l)(h':Lim r):Lim (l++r):=fun y hy=>by
 rcases List.mem_append.1 hy with hy|hy
 ·exact h y hy
 ·exact h' y hy
theorem Lim.snoc{l:List Nat}{x:Nat}(h:Lim l)(hx:x<4294967296):Lim (l++[x]):=h.append (Lim.cons hx Lim.nil)
theorem Lim.left{l r:List Nat}(h:Lim (l++r)):Lim l:=fun y hy=>h y (List.mem_append.2 (.inl hy))
theorem Lim.right{l r:List Nat}(h:Lim (l++r)):Lim r:=fun y hy=>h y (List.mem_append.2 (.inr hy))
theorem Lim.take{l:List Nat}(h:Lim l)(k:Nat):Lim (l.take k):=fun y hy=>h y (List.mem_of_mem_take hy)
theorem Lim.drop{l:List Nat}(h:Lim l)(k:Nat):Lim (l.drop k):=fun y hy=>h y (List.mem_of_mem_drop hy)
theorem Lim.tail{x:Nat}{l:List Nat}(h:Lim (x::l)):Lim l:=fun y hy=>h y (List.mem_cons_of_mem _ hy)
theorem Lim.head{x:Nat}{l:List Nat}(h:Lim (x::l)):x<4294967296:=h x List.mem_cons_self
theorem Lim.zeros(n:Nat):Lim (List.replicate n 0):=fun y hy=>by have:=(List.mem_replicate.1 hy).2;omega
theorem Lim.getD{l:List Nat}(h:Lim l)(k:Nat):l.getD k 0<4294967296:=by
 rw [List.getD_eq_getElem?_getD];cases hk:l[k]? with
 |none=>simp
 |some x=>exact h x (List.mem_of_getElem? hk)
theorem Qbg{l:List Nat}(h:Lim l):val l<P l.length:=by
 induction l with
 |nil=>simp [val,Qfj]
 |cons x l ih=>
  have h1:=ih h.tail;have h2:=h.head;simp only [val,List.length_cons,Qa2];omega
theorem Qcz(n:Nat):val (List.replicate n 0)=0:=by
 induction n with
 |zero=>rfl
 |succ n ih=>simp [List.replicate_succ,val,ih]
theorem Qfl{l:List Nat}{k:Nat}(h:k<l.length):l.take (k+1)=l.take k++[l.getD k 0]:=by
 rw [List.take_succ_eq_append_getElem h];simp [List.getD_eq_getElem?_getD,h]
theorem Qdh{l:List Nat}{k:Nat}(h:k<l.length):val (l.take (k+1))=val (l.take k)+P k*l.getD k 0:=by
 rw [Qfl h,Qfk,List.length_take,Nat.min_eq_left (by omega)]
theorem Qac(l:List Nat)(k:Nat):val (l.take (k+1))=val (l.take k)+P k*l.getD k 0:=by
 by_cases h:k<l.length
 ·exact Qdh h
 ·rw [List.take_of_length_le (by omega),List.take_of_length_le (by omega),show l.getD k 0=0 from by rw [List.getD_eq_getElem?_getD,List.getElem?_eq_none (by omega)];rfl];simp
theorem Qao(l:List Nat)(k:Nat)(h:k<=l.length):val l=val (l.take k)+P k*val (l.drop k):=by
 conv=>lhs;rw [<-List.take_append_drop k l]
 rw [Qcy,List.length_take,Nat.min_eq_left h]
def limbs(n:Nat):List Nat:=if h:n=0 then []else n%4294967296::limbs (n / 4294967296)
decreasing_by omega
theorem Qaf:limbs 0=[]:=by rw [limbs];simp
theorem Qd4{n:Nat}(h:n≠0):limbs n=n%4294967296::limbs (n / 4294967296):=by rw [limbs];simp [h]
theorem Qab(n:Nat):val (limbs n)=n:=by
 induction n using Nat.strongRecOn with
 |_ n ih=>
  by_cases h:n=0
  ·subst h;rw [Qaf];rfl
  ·rw [Qd4 h,val,ih _ (by omega)];omega
theorem Qau(n:Nat):Lim (limbs n):=by
 induction n using Nat.strongRecOn with
 |_ n ih=>
  by_cases h:n=0
  ·subst h;rw [Qaf];exact Lim.nil
  ·rw [Qd4 h];exact Lim.cons (mod_lt _ (by decide)) (ih _ (by omega))
theorem Qk0{a b:Nat}(h:limbs a=limbs b):a=b:=by rw [<-Qab a,<-Qab b,h]
theorem Qcl{a:Nat}:limbs a=[]↔a=0:=⟨fun h=>by rw [<-Qab a,h];rfl,fun h=>by rw [h,Qaf]⟩
theorem Qae{a:Nat}:(limbs a).length=0↔a=0:=by rw [List.length_eq_zero_iff,Qcl]
theorem Qiw{x:Nat}{n:Nat}(hx:x<4294967296)(h:x≠0\/n≠0):limbs (x+4294967296*n)=x::limbs n:=by
 rw [Qd4 (by omega)];rw [show(x+4294967296*n)%4294967296=x from by omega,show(x+4294967296*n) / 4294967296=n from by omega]
theorem Qix{l:List Nat}{x:Nat}(h:Lim l)(hx:x<4294967296)(h0:x≠0):limbs (val (l++[x]))=l++[x]:=by
 induction l with
 |nil=>
  show limbs (x+4294967296*0)=[x];rw [Qiw hx (.inl h0),Qaf]
 |cons y l ih=>
  have h1:=ih h.tail;show limbs (y+4294967296*val (l++[x]))=y::(l++[x]);rw [Qiw h.head,h1];right;intro hz;rw [hz,Qaf]at h1;simp at h1
theorem Qeg{a k:Nat}(h:(limbs a).length=k+1):(limbs a).getD k 0≠0:=by
 intro hz;have hk:k<(limbs a).length:=by omega
 have e:limbs a=(limbs a).take k++[0]:=by
  conv=>lhs;rw [<-List.take_of_length_le (Nat.le_of_eq h),Qfl hk,hz]
 have hv:a=val ((limbs a).take k):=by
  conv=>lhs;rw [<-Qab a,e,Qfk]
  simp
 have hl:val ((limbs a).take k)<P k:=by
  have h1:=Qbg ((Qau a).take k)
  rwa [List.length_take,Nat.min_eq_left (by omega)]at h1
 have:∀(m:Nat) (n:Nat),n<P m->(limbs n).length<=m:=by
  intro m
  induction m with
  |zero=>intro n hn;rw [Qfj]at hn;rw [show n=0 from by omega,Qaf];simp
  |succ m ih=>
   intro n hn;by_cases h0:n=0
   ·subst h0;rw [Qaf];simp
   ·rw [Qd4 h0,List.length_cons]
    have:=ih (n / 4294967296) (by rw [Qa2]at hn;exact(Nat.div_lt_iff_lt_mul (by decide)).2 hn);omega
 have:=this k a (by rw [hv];exact hl);omega
theorem Qax{n k:Nat}(hn:n<P k):(limbs n).length<=k:=by
 rcases lt_or_ge k (limbs n).length with h|h
 ·exfalso
  obtain⟨j,hj⟩:∃j,(limbs n).length=j+1:=⟨(limbs n).length-1,by omega⟩;have h1:=Qeg hj;have h2:=Qao (limbs n) j (by omega);rw [Qab]at h2;have h3:(limbs n).drop j=[(limbs n).getD j 0]:=by
   rw [List.drop_eq_getElem_cons (by omega),List.drop_of_length_le (by omega)];simp [List.getD_eq_getElem?_getD,show j<(limbs n).length from by omega]
  rw [h3]at h2;simp only [val,Nat.mul_zero,Nat.add_zero]at h2;have h4:P k<=P j:=Qjl (by omega);have h5:P j<=P j*(limbs n).getD j 0:=Nat.le_mul_of_pos_right _ (by omega);omega
 ·exact h
theorem Qap(n:Nat):n<P (limbs n).length:=by
 have:=Qbg (Qau n)
 rwa [Qab]at this
theorem Qad{a b:Nat}(h:a<=b):(limbs a).length<=(limbs b).length:=Qax (Nat.lt_of_le_of_lt h (Qap b))
def tl:List Nat->Nat->Nat
 |_,0=>0
 |l,k+1=>if l.getD k 0=0 then tl l k else k+1
theorem Qm6(l:List Nat)(k:Nat)(h:l.getD k 0=0):tl l (k+1)=tl l k:=by simp only [tl];rw [if_pos h]
theorem Qrb(l:List Nat)(k:Nat)(h:l.getD k 0≠0):tl l (k+1)=k+1:=by simp only [tl];rw [if_neg h]
theorem tl_le(l:List Nat)(k:Nat):tl l k<=k:=by
 induction k with
 |zero=>exact le_refl _
 |succ k ih=>simp only [tl];split<;>omega
theorem Qrc(l:List Nat)(k:Nat)(hk:k<=l.length)(h:Lim l):l.take (tl l k)=limbs (val (l.take k)):=by
 induction k with
 |zero=>simp [tl,val,Qaf]
 |succ k ih=>
  by_cases hz:l.getD k 0=0
  ·rw [Qm6 _ _ hz,ih (by omega),Qdh (by omega),hz];simp
  ·rw [Qrb _ _ hz,Qfl (by omega),Qix (h.take k) (h.getD k) hz]
theorem Qm7{l:List Nat}(h:Lim l)(hz:l.getLast? ≠some 0):limbs (val l)=l:=by
 rcases List.eq_nil_or_concat l with rfl|⟨r,x,rfl⟩
 ·exact Qaf
 ·simp only [List.concat_eq_append]at*
  exact Qix h.left (h.right x (by simp)) (fun e=>by subst e;simp at hz)
theorem Qk1(l:List Nat)(h:Lim l):tl l l.length=(limbs (val l)).length:=by
 have h1:=Qrc l l.length (le_refl _) h;have h2:=congrArg List.length h1;rw [List.length_take,Nat.min_eq_left (tl_le _ _),List.take_length]at h2;exact h2
theorem Qdi{l:List Nat}(h:Lim l)(k:Nat):l.getD k 0=val l / P k%4294967296:=by
 induction k generalizing l with
 |zero=>
  cases l with
  |nil=>simp [val]
  |cons x l=>have:=h.head;simp only [val,Qfj,List.getD_cons_zero,Nat.div_one];omega
 |succ k ih=>
  cases l with
  |nil=>simp [val]
  |cons x l=>
   have:=h.head;rw [List.getD_cons_succ,ih h.tail,Qef,Qa2,Nat.mul_comm (P k),<-Nat.div_div_eq_div_mul,show(x+4294967296*val l) / 4294967296=val l from by omega]
theorem Qk2{l r:List Nat}{k:Nat}(hl:Lim l)(hk:k<l.length)(hlen:l.length=r.length)(he:∀j,k<j->l.getD j 0=r.getD j 0)(hlt:l.getD k 0<r.getD k 0):val l<val r:=by
 have h1:l.drop (k+1)=r.drop (k+1):=by
  apply List.ext_getElem
  ·simp [hlen]
  ·intro i hi1 hi2
   have h:=he (k+1+i) (by omega);simp only [List.length_drop]at hi1 hi2;rw [List.getD_eq_getElem?_getD,List.getD_eq_getElem?_getD,List.getElem?_eq_getElem (by omega),List.getElem?_eq_getElem (by omega)]at h
   simpa using h
 have h2:=Qao l (k+1) (by omega);have h3:=Qao r (k+1) (by omega);rw [Qac l k,h1]at h2;rw [Qac r k]at h3;have h4:val (l.take k)<P k:=by
  have:=Qbg (hl.take k);rwa [List.length_take,Nat.min_eq_left (by omega)]at this
 have h5:P k*(l.getD k 0+1)<=P k*r.getD k 0:=Nat.mul_le_mul_left _ hlt;rw [Nat.mul_add,Nat.mul_one]at h5;omega
theorem Qc0{l r:List Nat}(hlen:l.length=r.length)(he:∀j,j<l.length->l.getD j 0=r.getD j 0):l=r:=by
 apply List.ext_getElem hlen;intro i h1 h2;have h:=he i h1;rw [List.getD_eq_getElem?_getD,List.getD_eq_getElem?_getD,List.getElem?_eq_getElem h1,List.getElem?_eq_getElem h2]at h
 simpa using h
theorem Qb1{a b:Nat}(h:(limbs a).length<(limbs b).length):a<b:=by
 rcases lt_or_ge a b with h1|h1
 ·exact h1
 ·have:=Qad h1;omega
theorem Qu1{L:List Nat}{k:Nat}(d:Nat)(h:k<L.length):(L.set k d).take (k+1)=L.take k++[d]:=by
 rw [List.take_succ_eq_append_getElem (by simpa using h),List.take_set_of_le (le_refl _)];simp
theorem Qba{L:List Nat}{k:Nat}(d:Nat)(h:k<L.length):val ((L.set k d).take (k+1))=val (L.take k)+P k*d:=by
 rw [Qu1 d h,Qfk,List.length_take,Nat.min_eq_left (by omega)]
theorem Lim.set{L:List Nat}(h:Lim L)(k:Nat){d:Nat}(hd:d<4294967296):Lim (L.set k d):=fun y hy=>by
 rcases List.mem_or_eq_of_mem_set hy with hy|rfl
 ·exact h y hy
 ·exact hd
theorem Qgc{M:List Nat}{j:Nat}(d:Nat)(h:j<M.length):val (M.set j d)+P j*M.getD j 0=val M+P j*d:=by
 have h1:=Qao M (j+1) (by omega);have h2:=Qao (M.set j d) (j+1) (by rw [List.length_set];omega);rw [Qba d h,List.drop_set_of_lt (by omega)]at h2;rw [Qac M j]at h1;omega
theorem Qgd(n j:Nat):(List.replicate n 0).getD j 0=0:=by
 rw [List.getD_eq_getElem?_getD,List.getElem?_replicate];split<;>rfl
theorem getD_set_ne{M:List Nat}{j i:Nat}(d:Nat)(h:j≠i):(M.set j d).getD i 0=M.getD i 0:=by
 rw [List.getD_eq_getElem?_getD,List.getD_eq_getElem?_getD,List.getElem?_set_ne h]
theorem Qe3{M:List Nat}{j:Nat}(d:Nat)(h:j<M.length):(M.set j d).getD j 0=d:=by
 rw [List.getD_eq_getElem?_getD,List.getElem?_set_self h];rfl
theorem Qoc{M:List Nat}{j N cr X x y s:Nat}(hj:j<N)(h:M.length=N/\Lim M/\val M+P j*cr=X)(hs:s=cr+(x*y+M.getD j 0)):
 (M.set j (s%4294967296)).length=N/\Lim (M.set j (s%4294967296))/\val (M.set j (s%4294967296))+P (j+1)*(s / 4294967296)=X+P j*(x*y):=by
 obtain⟨h1,h2,h3⟩:=h;refine⟨by simpa using h1,h2.set j (mod_lt _ (by decide)),?_⟩;have h4:=Qgc (s%4294967296) (show j<M.length by omega);rw [Qa2,Nat.mul_assoc];have:P j*(s%4294967296)+P j*(4294967296*(s / 4294967296))=P j*cr+P j*(x*y)+P j*M.getD j 0:=by
  rw [<-Nat.mul_add,Nat.mod_add_div,hs,Nat.mul_add,Nat.mul_add];omega
 omega
theorem Qu2{L:List Nat}{k N br d br' X Y:Nat}{x y:Nat}(hk:k<N)(h:L.length=N/\Lim L/\val (L.take k)+Y=X+P k*br)(hd:d<4294967296)(hs:d+y+br=x+4294967296*br'):
 (L.set k d).length=N/\Lim (L.set k d)/\val ((L.set k d).take (k+1))+(Y+P k*y)=X+P k*x+P (k+1)*br':=by
 obtain⟨h1,h2,h3⟩:=h;refine⟨by simpa using h1,h2.set k hd,?_⟩;rw [Qba _ (by omega),Qa2,Nat.mul_assoc];have:P k*d+P k*y+P k*br=P k*x+P k*(4294967296*br'):=by rw [<-Nat.mul_add,<-Nat.mul_add,<-Nat.mul_add,hs]
 omega
theorem Qod{L:List Nat}{k N T s X:Nat}(hk:k<N)(h:L.length=N/\Lim L/\val (L.take k)+P k*T=X)(Y:Nat)(hs:s=T+Y):
 (L.set k (s%4294967296)).length=N/\Lim (L.set k (s%4294967296))/\val ((L.set k (s%4294967296)).take (k+1))+P (k+1)*(s / 4294967296)=X+P k*Y:=by
 obtain⟨h1,h2,h3⟩:=h;refine⟨by simpa using h1,h2.set k (mod_lt _ (by decide)),?_⟩;rw [Qba _ (by omega),Qa2,<-h3];have:P k*(s%4294967296)+P k*4294967296*(s / 4294967296)=P k*T+P k*Y:=by
  rw [Nat.mul_assoc,<-Nat.mul_add,Nat.mod_add_div,hs,Nat.mul_add]
 omega
theorem Qpm(X k:Nat):X%P (k+1)=X%P k+P k*(X / P k%4294967296):=by rw [Qa2,Nat.mod_mul]
theorem Qpn{l:List Nat}{X:Nat}(h:∀j,j<l.length->l.getD j 0=X / P j%4294967296)(k:Nat)(hk:k<=l.length):val (l.take k)=X%P k:=by
 induction k with
 |zero=>simp [val,Qfj,Nat.mod_one]
 |succ k ih=>rw [Qdh (by omega),ih (by omega),Qpm,h k (by omega)]
theorem Qil{l:List Nat}{X:Nat}(h:∀j,j<l.length->l.getD j 0=X / P j%4294967296)(hX:X<P l.length):val l=X:=by
 have:=Qpn h l.length (le_refl _)
 rwa [List.take_length,mod_eq_of_lt hX]at this
theorem Qoe{l:List Nat}(h:Lim l)(k:Nat)(hk:k<=l.length):val (l.drop k)=val l / P k:=by
 have h1:=Qao l k hk;have h2:val (l.take k)<P k:=by
  have:=Qbg (h.take k);rwa [List.length_take,Nat.min_eq_left hk]at this
 rw [h1,Nat.add_mul_div_left _ _ (Qhg k),Nat.div_eq_of_lt h2,Nat.zero_add]
theorem Qrd(X k s:Nat)(hs:s<=32):(X / P (k+1)%4294967296*4294967296+X / P k%4294967296) / 2^s%4294967296=X / 2^s / P k%4294967296:=by
 obtain⟨u,hu⟩:∃u,2^(32-s)=u:=⟨_,rfl⟩;obtain⟨t,ht⟩:∃t,2^s=t:=⟨_,rfl⟩;have hst:t*u=4294967296:=by rw [<-ht,<-hu,<-Nat.pow_add,show s+(32-s)=32 from by omega]
 have ht0:0<t:=by rw [<-ht];exact pow_pos (by decide)
 rw [ht,Nat.div_div_eq_div_mul X t,Nat.mul_comm t,<-Nat.div_div_eq_div_mul X,Qa2,<-Nat.div_div_eq_div_mul X];generalize X / P k=Y;have h1:Y / 4294967296%4294967296*4294967296+Y%4294967296=Y%(t*(u*4294967296)):=by
  rw [<-Nat.mul_assoc,hst,Nat.mod_mul];omega
 rw [h1,Nat.mod_mul_right_div_self,Nat.mod_mul_left_mod]
theorem Qbm{l:List Nat}{k:Nat}(h:k<l.length):l.drop k=l.getD k 0::l.drop (k+1):=by
 rw [List.drop_eq_getElem_cons h];simp [List.getD_eq_getElem?_getD,h]
theorem Qfm{L:List Nat}{k:Nat}(d:Nat)(h:k<L.length):(L.set k d).drop k=d::L.drop (k+1):=by
 rw [Qbm (by rw [List.length_set];exact h),Qe3 d h,List.drop_set_of_lt (by omega)]
theorem Qu3{L l:List Nat}{j N d r q r' x:Nat}(hj:j<N)(hl:l.length=N)(h:L.length=N/\Lim L/\(∀i,i<=j->L.getD i 0=l.getD i 0)/\val (L.drop (j+1))*d+r=val (l.drop (j+1)))
 (hx:l.getD j 0=x)(hq:q<4294967296)(hs:q*d+r'=r*4294967296+x):
 (L.set j q).length=N/\Lim (L.set j q)/\(∀i,i<j->(L.set j q).getD i 0=l.getD i 0)/\val ((L.set j q).drop j)*d+r'=val (l.drop j):=by
 obtain⟨h1,h2,h3,h4⟩:=h;refine⟨by simpa using h1,h2.set j hq,fun i hi=>by rw [getD_set_ne _ (by omega)];exact h3 i (by omega),?_⟩;rw [Qfm q (by omega),Qbm (l:=l) (by omega),hx,Qef,Qef,<-h4]
 grind
theorem Qk3{L l r:List Nat}{k N c br d br' x y t s:Nat}(hk:k<N)(hl:l.length=N)(h:L.length=N/\Lim L/\(∀i,k<=i->L.getD i 0=l.getD i 0)/\val (L.take k)+t*val (r.take k)=val (l.take k)+P k*(c+br))
 (hx:l.getD k 0=x)(hy:r.getD k 0=y)(hd:d<4294967296)(hs:s=c+y*t)(he:d+s%4294967296+br=x+4294967296*br'):
 (L.set k d).length=N/\Lim (L.set k d)/\(∀i,k+1<=i->(L.set k d).getD i 0=l.getD i 0)/\val ((L.set k d).take (k+1))+t*val (r.take (k+1))=val (l.take (k+1))+P (k+1)*(s / 4294967296+br'):=by
 obtain⟨h1,h2,h3,h4⟩:=h;refine⟨by simpa using h1,h2.set k hd,fun i hi=>by rw [getD_set_ne _ (by omega)];exact h3 i (by omega),?_⟩;rw [Qba _ (by omega),Qac l k,Qac r k,Qa2,hx,hy];have hs2:=Nat.mod_add_div s 4294967296;have e:d+t*y+c+br=x+4294967296*(s / 4294967296+br'):=by rw [Nat.mul_comm t y];omega
 have e2:P k*d+P k*(t*y)+P k*(c+br)=P k*x+P k*4294967296*(s / 4294967296+br'):=by
  rw [Nat.mul_assoc (P k) 4294967296,<-Nat.mul_add,<-Nat.mul_add,<-Nat.mul_add,<-e,Nat.add_assoc (d+t*y)]
 rw [Nat.mul_add t,Nat.mul_left_comm t (P k) y];omega
theorem Qre{L l r:List Nat}{k N c d c' x y:Nat}(hk:k<N)(h:L.length=N/\Lim L/\(∀i,k<=i->L.getD i 0=l.getD i 0)/\val (L.take k)+P k*c=val (l.take k)+val (r.take k))
 (hx:l.getD k 0=x)(hy:r.getD k 0=y)(hd:d<4294967296)(he:d+4294967296*c'=x+y+c):
 (L.set k d).length=N/\Lim (L.set k d)/\(∀i,k+1<=i->(L.set k d).getD i 0=l.getD i 0)/\val ((L.set k d).take (k+1))+P (k+1)*c'=val (l.take (k+1))+val (r.take (k+1)):=by
 obtain⟨h1,h2,h3,h4⟩:=h;refine⟨by simpa using h1,h2.set k hd,fun i hi=>by rw [getD_set_ne _ (by omega)];exact h3 i (by omega),?_⟩;rw [Qba _ (by omega),Qac l k,Qac r k,Qa2,hx,hy];have e2:P k*d+P k*4294967296*c'=P k*x+P k*y+P k*c:=by
  rw [Nat.mul_assoc (P k) 4294967296,<-Nat.mul_add,<-Nat.mul_add,<-Nat.mul_add,he]
 omega
theorem Qxs{l:List Nat}{j:Nat}(h:Lim l)(hlen:l.length=j+2):∃a,a<P j/\val l=a+P j*(l.getD j 0+4294967296*l.getD (j+1) 0):=by
 refine⟨val (l.take j),?_,?_⟩
 ·have:=Qbg (h.take j);rwa [List.length_take,Nat.min_eq_left (by omega)]at this
 ·have h1:=Qao l j (by omega)
  rw [Qbm (by omega),Qbm (by omega),List.drop_of_length_le (by omega)]at h1
  simpa [val] using h1
theorem Qrf{l:List Nat}{j:Nat}(h:Lim l)(hlen:l.length=j+3):∃a,a<P j/\val l=a+P j*(l.getD j 0+4294967296*(l.getD (j+1) 0+4294967296*l.getD (j+2) 0)):=by
 refine⟨val (l.take j),?_,?_⟩
 ·have:=Qbg (h.take j);rwa [List.length_take,Nat.min_eq_left (by omega)]at this
 ·have h1:=Qao l j (by omega)
  rw [Qbm (by omega),Qbm (by omega),Qbm (by omega),List.drop_of_length_le (by omega)]at h1
  simpa [val] using h1
theorem Qof{X Y top y1 R q:Nat}(hq:q*Y<=X)(hY:y1*R<=Y)(hX:X<(top+1)*R):q*y1<=top:=by
 have h1:q*y1*R<=q*Y:=by rw [Nat.mul_assoc];exact Nat.mul_le_mul_left _ hY
 have h2:q*y1*R<(top+1)*R:=by omega
 have:=Nat.lt_of_mul_lt_mul_right h2;omega
theorem Qu4{X Y U V R g q:Nat}(hgV:g*V<=U)(hU:U*R<=X)(hX:X<(q+1)*Y)(hY:Y<(V+1)*R)(hg:g<=V):g<=q+1:=by
 rcases lt_or_ge (q+1) g with h|h
 ·exfalso
  obtain⟨k,rfl⟩:∃k,g=k+1:=⟨g-1,by omega⟩;have h1:(q+1)*Y<=k*Y:=mul_le_mul_right _ (by omega);have h2:k*Y<=k*((V+1)*R):=Nat.mul_le_mul_left _ (by omega);have h3:(k+1)*V*R<=U*R:=mul_le_mul_right _ hgV;have h4:(k+1)*V*R<k*(V+1)*R:=by rw [Nat.mul_assoc k];omega
  have h5:=Nat.lt_of_mul_lt_mul_right h4;rw [Nat.add_mul,Nat.mul_add]at h5;omega
 ·exact h
theorem Qrg{x t s d:Nat}(hx:x<4294967296)(hs:s<=32)(ht:2^s=t)(hd:d<t):x*t%4294967296%t=0/\x*t%4294967296+d<4294967296/\x*t / 4294967296<t:=by
 obtain⟨u,hu⟩:∃u,2^(32-s)=u:=⟨_,rfl⟩;have hst:t*u=4294967296:=by rw [<-ht,<-hu,<-Nat.pow_add,show s+(32-s)=32 from by omega]
 have hu0:0<u:=by rw [<-hu];exact pow_pos (by decide)
 have ht0:0<t:=by rw [<-ht];exact pow_pos (by decide)
 have h1:x*t%4294967296=t*(x%u):=by rw [<-hst,Nat.mul_comm x t,Nat.mul_mod_mul_left]
 have h2:t*(x%u)+t<=t*u:=by
  have:=Nat.mul_le_mul_left t (mod_lt x hu0);rw [Nat.mul_succ]at this;exact this
 refine⟨by rw [h1,Nat.mul_mod_right],by omega,?_⟩;rw [Nat.div_lt_iff_lt_mul (by decide),Nat.mul_comm];exact Nat.mul_lt_mul_of_pos_left hx ht0
theorem Qhh{n k:Nat}(h1:P k<=n)(h2:n<P (k+1)):(limbs n).length=k+1:=by
 have h3:=Qax h2;rcases lt_or_ge (limbs n).length (k+1)with h|h
 ·have h4:=Qap n
  have h5:P (limbs n).length<=P k:=Qjl (by omega);omega
 ·omega
theorem Qpo{l:List Nat}(k:Nat):val (l++List.replicate k 0)=val l:=by rw [Qcy,Qcz];simp
theorem Qiy{R:List Nat}{i m D:Nat}(hR:Lim R)(hlen:i+m+1<=R.length)(hD:D<P m)(hlt:val (R.drop (i+1))<D):
 val ((R.drop i).take (m+1))=val (R.drop i)/\val ((R.drop i).take (m+1))<D*4294967296/\val (R.drop (i+(m+1)))=0/\((R.drop i).take (m+1)).length=m+1:=by
 have h1:R.drop i=R.getD i 0::R.drop (i+1):=Qbm (by omega);have h2:=hR.getD i;have h3:val (R.drop i)<D*4294967296:=by rw [h1,Qef];omega
 have h4:=Qao (R.drop i) (m+1) (by rw [List.length_drop];omega);rw [List.drop_drop]at h4;have h5:val (R.drop (i+(m+1)))=0:=by
  rcases eq_zero_or_pos (val (R.drop (i+(m+1))))with h|h
  ·exact h
  ·have h6:P (m+1)*1<=P (m+1)*val (R.drop (i+(m+1))):=Nat.mul_le_mul_left _ h
   rw [Qa2]at h4 h6;omega
 rw [h5,Nat.mul_zero,Nat.add_zero]at h4;exact⟨h4.symm,by rw [<-h4];exact h3,h5,by rw [List.length_take,List.length_drop];omega⟩
theorem Qpp{R L Q:List Nat}{i m D N X q:Nat}(hR:Lim R)(hlen:i+m+1<=R.length)(hD:D<P m)(hD0:0<D)(hlt:val (R.drop (i+1))<D)
 (hQ:i<Q.length)(hX:X=P (i+1)*val (Q.drop (i+1))*D+val R)(hL:L.length=m+1)(hLim:Lim L)(hq:q=val ((R.drop i).take (m+1)) / D)(hLv:val L=val ((R.drop i).take (m+1))%D)(hN:R.length=N):
 (R.take i++(L++R.drop (i+(m+1)))).length=N/\Lim (R.take i++(L++R.drop (i+(m+1))))/\val ((R.take i++(L++R.drop (i+(m+1)))).drop i)<D/\
  X=P i*val ((Q.set i q).drop i)*D+val (R.take i++(L++R.drop (i+(m+1))))/\q<4294967296:=by
 obtain⟨h1,h2,h3,h4⟩:=Qiy hR hlen hD hlt;have hti:(R.take i).length=i:=by rw [List.length_take];omega
 have hm:val ((R.drop i).take (m+1))%D<D:=mod_lt _ hD0;have hv1:val (L++R.drop (i+(m+1)))=val L:=by rw [Qcy,h3];simp
 refine⟨?_,(hR.take i).append (hLim.append (hR.drop _)),?_,?_,?_⟩
 ·simp only [List.length_append,List.length_drop,hti,hL];omega
 ·rw [List.drop_append_of_le_length (by omega),List.drop_of_length_le (by omega),List.nil_append,hv1,hLv];exact hm
 ·rw [Qfm q hQ,Qef,Qcy,hti,hv1,hLv,hX,Qao R i (by omega),<-h1,Qa2]
  have h5:=Nat.div_add_mod (val ((R.drop i).take (m+1))) D;rw [<-hq]at h5;generalize val ((R.drop i).take (m+1))%D=r at*
  rw [<-h5]
  grind
 ·rw [hq,Nat.div_lt_iff_lt_mul hD0,Nat.mul_comm];exact h2
theorem Qpq{b j s yt:Nat}(hlen:(limbs b).length=j+2)(hyt:(limbs b).getD (j+1) 0=yt)(hs:s<32)(h1:2147483648<=yt*2^s)(h2:yt*2^s<4294967296):
 (limbs (b*2^s)).length=j+2/\2147483648<=(limbs (b*2^s)).getD (j+1) 0/\b*2^s<P (j+2)/\2147483648*P (j+1)<=b*2^s:=by
 obtain⟨u,hu⟩:∃u,2^(32-s)=u:=⟨_,rfl⟩;obtain⟨t,ht⟩:∃t,2^s=t:=⟨_,rfl⟩;have htu:u*t=4294967296:=by rw [<-ht,<-hu,<-Nat.pow_add,show 32-s+s=32 from by omega]
 rw [ht]at h1 h2⊢;have hyu:yt<u:=by rw [<-htu]at h2;exact Nat.lt_of_mul_lt_mul_right h2
 have hv:=Qao (limbs b) (j+1) (by omega);have hlt:val ((limbs b).take (j+1))<P (j+1):=by
  have:=Qbg ((Qau b).take (j+1));rwa [List.length_take,Nat.min_eq_left (by omega)]at this
 rw [Qbm (by omega),List.drop_of_length_le (by omega),hyt,Qab]at hv;simp only [val,Nat.mul_zero,Nat.add_zero]at hv;have hlo:2147483648*P (j+1)<=b*t:=by
  have h3:yt*t*P (j+1)<=b*t:=by
   rw [Nat.mul_right_comm];exact mul_le_mul_right _ (by rw [Nat.mul_comm];omega)
  exact le_trans (mul_le_mul_right _ h1) h3
 have hhi:b*t<P (j+2):=by
  have h3:b<(yt+1)*P (j+1):=by rw [Nat.add_mul,Nat.one_mul,Nat.mul_comm yt];omega
  have h4:b*t<(yt+1)*P (j+1)*t:=Nat.mul_lt_mul_of_pos_right h3 (by rw [<-ht];exact pow_pos (by decide));have h5:(yt+1)*P (j+1)*t<=u*P (j+1)*t:=mul_le_mul_right _ (mul_le_mul_right _ hyu);have h6:u*P (j+1)*t=P (j+2):=by rw [Nat.mul_right_comm,htu,Qa2 (j+1),Nat.mul_comm]
  omega
 have hl:=Qhh (k:=j+1) (n:=b*t) (le_trans (Nat.le_mul_of_pos_left _ (by decide)) hlo) hhi;refine⟨hl,?_,hhi,hlo⟩;rw [Qdi (Qau _),Qab];have h7:2147483648<=b*t / P (j+1):=(Nat.le_div_iff_mul_le (Qhg _)).2 hlo;have h8:b*t / P (j+1)<4294967296:=(Nat.div_lt_iff_lt_mul (Qhg _)).2 (by rw [Qa2 (j+1)]at hhi;rw [Nat.mul_comm 4294967296];exact hhi);rw [mod_eq_of_lt h8];exact h7
theorem Qpr{a n j s D:Nat}(ha:a<P n)(hs:s<32)(hn:j+2<=n)(hD:2147483648*P (j+1)<=D):a*2^s<D*P (n-(j+2)+1)/\a*2^s<P (n+1):=by
 have h1:(2:Nat)^s<=2147483648:=by rw [show(2147483648:Nat)=2^31 from rfl];exact Nat.pow_le_pow_right (by decide) (by omega)
 have h2:a*2^s<P n*2^s:=Nat.mul_lt_mul_of_pos_right ha (pow_pos (by decide));have h3:P n*2^s<=P n*2147483648:=Nat.mul_le_mul_left _ h1;have h4:P n=P (j+1)*P (n-(j+2)+1):=by rw [<-Qra];congr 1;omega
 have h5:P n*2147483648<=D*P (n-(j+2)+1):=by
  rw [h4,Nat.mul_comm,<-Nat.mul_assoc];exact mul_le_mul_right _ hD
 refine⟨by omega,?_⟩;rw [Qa2];omega
theorem Qu5{a b s Q R:Nat}(hb:0<b)(h:a*2^s=Q*(b*2^s)+R)(hR:R<b*2^s):Q=a / b/\R / 2^s=a%b:=by
 have ht:0<2^s:=pow_pos (by decide);have h1:a*2^s / (b*2^s)=Q:=by
  rw [h,Nat.mul_comm,Nat.mul_add_div (by omega),Nat.div_eq_of_lt hR,Nat.add_zero]
 have h2:a*2^s%(b*2^s)=R:=by
  rw [h,Nat.mul_comm,Nat.mul_add_mod,mod_eq_of_lt hR]
 rw [Nat.mul_div_mul_right _ _ ht]at h1;rw [Nat.mul_mod_mul_right]at h2;refine⟨h1.symm,?_⟩;rw [<-h2,Nat.mul_div_cancel _ ht]
end Go.Proofs.YthbhgelncdnmgaaGreatDoor
namespace Go.Proofs.YthbhgelncdnmgaaGreatDoor
open Go.Proofs.Tryz
open Lib (hid)
open Nat (le_refl le_trans zero_le lt_of_lt_of_le lt_or_ge eq_zero_or_pos mod_lt mul_le_mul_right pow_pos mod_eq_of_lt)
open Go.RowKit
def u32s(l:List Nat):List Value:=l.map fun(n:Nat)=>Value.int .u32 (n:Int)
theorem Qbh(l:List Nat):(u32s l).length=l.length:=by simp [u32s]
theorem Qbn(l r:List Nat):u32s (l++r)=u32s l++u32s r:=by simp [u32s]
theorem Qg3(l:List Nat)(k:Nat):(u32s l)[k]? =(l[k]?).map fun(n:Nat)=>Value.int .u32 (n:Int):=by simp [u32s]
structure Num (w:World) (l:List Nat) (A:Option Addr) (n c:Nat):Prop where
 len:n=l.length
 cap:n<=c
 lim:Lim l
 cells:0<n->∃b o,A=some ⟨b,o,none⟩/\b<w.heap.size/\∀(k x:Nat),l[k]? =some x->w.cell? ⟨b,o+k,none⟩=some (.int .u32 (x:Int))
structure Own (w:World) (B:Nat) (l:List Nat) (A:Option Addr) (n c:Nat):Prop where
 len:n=l.length
 cap:n<=c
 lim:Lim l
 row:0<n->∃b pre post,A=some ⟨b,pre.length,none⟩/\B<=b/\w.heap[b]? =some (.cells (pre++(u32s l++post)).toArray 97 (0,0))
theorem Qas{w:World}{b:Nat}{o:Obj}(h:w.heap[b]? =some o):b<w.heap.size:=(Array.getElem?_eq_some_iff.1 h).1
theorem Qjm{w:World}{b:Nat}{pre post:List Value}{l:List Nat}{t:TypeId}{f:Nat × Nat}(h:w.heap[b]? =some (.cells (pre++(u32s l++post)).toArray t f)){k x:Nat}(hx:l[k]? =some x):
 w.cell? ⟨b,pre.length+k,none⟩=some (.int .u32 (x:Int)):=by
 have hk:k<l.length:=(List.getElem?_eq_some_iff.1 hx).1;rw [cell_of_row w b _ _ t f h,List.getElem?_toArray,List.getElem?_append_right (by omega),show pre.length+k-pre.length=k from by omega,List.getElem?_append_left (by rw [Qbh];exact hk),Qg3,hx];rfl
theorem Own.num{w:World}{B n c:Nat}{l:List Nat}{A:Option Addr}(h:Own w B l A n c):Num w l A n c:=
 ⟨h.len,h.cap,h.lim,fun hn=>by
  obtain⟨b,pre,post,hA,_,hb⟩:=h.row hn;exact⟨b,pre.length,hA,Qas hb,fun k x hx=>Qjm hb hx⟩⟩
theorem Own.more{w:World}{B B' n c:Nat}{l:List Nat}{A:Option Addr}(h:Own w B l A n c)(hB:B'<=B):Own w B' l A n c:=
 ⟨h.len,h.cap,h.lim,fun hn=>by
  obtain⟨b,pre,post,hA,hb,hr⟩:=h.row hn;exact⟨b,pre,post,hA,by omega,hr⟩⟩
theorem Num.keep{w w':World}{l:List Nat}{A:Option Addr}{n c:Nat}(h:Num w l A n c)(hs:w.heap.size<=w'.heap.size)(hk:∀b,b<w.heap.size->w'.heap[b]? =w.heap[b]?):Num w' l A n c:=
 ⟨h.len,h.cap,h.lim,fun hn=>by
  obtain⟨b,o,hA,hb,hc⟩:=h.cells hn;exact⟨b,o,hA,by omega,fun k x hx=>(World.cell?_of_block (w:=w) (hk b hb)).trans (hc k x hx)⟩⟩
theorem Num.below{w w':World}{l:List Nat}{A:Option Addr}{n c:Nat}(h:Num w l A n c)(hb:Below w.heap.size w w'):Num w' l A n c:=h.keep hb.size hb.block
theorem Num.drew{w:World}{l:List Nat}{A:Option Addr}{n c:Nat}(h:Num w l A n c):Num w.drew l A n c:=⟨h.len,h.cap,h.lim,h.cells⟩
theorem Num.drewN{w:World}{l:List Nat}{A:Option Addr}{n c:Nat}(h:Num w l A n c)(k:Nat):Num (w.drewN k) l A n c:=⟨h.len,h.cap,h.lim,h.cells⟩
theorem Num.at_{w:World}{l:List Nat}{A:Option Addr}{n c:Nat}(h:Num w l A n c){k:Nat}(hk:k<n):
 ∃b o x,A=some ⟨b,o,none⟩/\b<w.heap.size/\l.getD k 0=x/\x<4294967296/\w.cell? ⟨b,o+k,none⟩=some (.int .u32 (x:Int)):=by
 obtain⟨b,o,hA,hb,hc⟩:=h.cells (by omega);have hl:=h.len;refine⟨b,o,l.getD k 0,hA,hb,rfl,h.lim.getD k,hc k _ ?_⟩;rw [List.getD_eq_getElem?_getD,List.getElem?_eq_getElem (by omega)];rfl
theorem Num.at'{w:World}{l:List Nat}{b o:Nat}{n c:Nat}(h:Num w l (some ⟨b,o,none⟩) n c){k:Nat}(hk:k<n):
 w.cell? ⟨b,o+k,none⟩=some (.int .u32 ((l.getD k 0:Nat):Int)):=by
 obtain⟨b',o',x,hA,_,hx,_,hc⟩:=h.at_ hk;cases hA;rw [hx];exact hc
theorem Own.below{w w':World}{B B':Nat}{l:List Nat}{A:Option Addr}{n c:Nat}(h:Own w B l A n c)(hb:Below B' w w')(hB:w.heap.size<=B'):Own w' B l A n c:=
 ⟨h.len,h.cap,h.lim,fun hn=>by
  obtain⟨b,pre,post,hA,hB',hr⟩:=h.row hn;exact⟨b,pre,post,hA,hB',(hb.block b (lt_of_lt_of_le (Qas hr) hB)).trans hr⟩⟩
def Off(A:Option Addr)(b:Nat):Prop:=∀a,A=some a->a.block≠b
theorem Num.grown{w w':World}{l:List Nat}{A:Option Addr}{n c g:Nat}(h:Num w l A n c)(hg:w.grownBy w' (some g))(ho:Off A g):Num w' l A n c:=
 ⟨h.len,h.cap,h.lim,fun hn=>by
  obtain⟨b,o,hA,hb,hc⟩:=h.cells hn;have hs:=hg.size;exact⟨b,o,hA,by omega,fun k x hx=>(World.cell?_of_block (w:=w) (hg.block b hb (fun e=>ho _ hA (Option.some.inj e)))).trans (hc k x hx)⟩⟩
theorem Num.nil(w:World)(A:Option Addr)(c:Nat):Num w [] A 0 c:=⟨rfl,zero_le _,Lim.nil,fun h=>absurd h (by omega)⟩
theorem Own.nil(w:World)(B:Nat)(A:Option Addr)(c:Nat):Own w B [] A 0 c:=⟨rfl,zero_le _,Lim.nil,fun h=>absurd h (by omega)⟩
theorem Qhi(l:List Nat)(h:Lim l):∃r,l=limbs (val l)++r:=by
 have h1:=Qrc l l.length (le_refl _) h;rw [List.take_length]at h1;exact⟨l.drop (tl l l.length),by rw [<-h1,List.take_append_drop]⟩
theorem Qjn(l:List Nat)(h:Lim l):(limbs (val l)).length<=l.length:=by
 obtain⟨r,hr⟩:=Qhi l h;have:=congrArg List.length hr;rw [List.length_append]at this;omega
theorem Num.trim{w:World}{l:List Nat}{A:Option Addr}{n c:Nat}(h:Num w l A n c):Num w (limbs (val l)) A (limbs (val l)).length c:=by
 obtain⟨r,hr⟩:=Qhi l h.lim;have hle:=Qjn l h.lim;refine⟨rfl,by have:=h.cap;have:=h.len;omega,Qau _,fun hn=>?_⟩;obtain⟨b,o,hA,hb,hc⟩:=h.cells (by have:=h.len;omega);refine⟨b,o,hA,hb,fun k x hx=>hc k x ?_⟩;rw [hr,List.getElem?_append_left (List.getElem?_eq_some_iff.1 hx).1];exact hx
theorem Own.trim{w:World}{B:Nat}{l:List Nat}{A:Option Addr}{n c:Nat}(h:Own w B l A n c):Own w B (limbs (val l)) A (limbs (val l)).length c:=by
 obtain⟨r,hr⟩:=Qhi l h.lim;have hle:=Qjn l h.lim;refine⟨rfl,by have:=h.cap;have:=h.len;omega,Qau _,fun hn=>?_⟩;obtain⟨b,pre,post,hA,hb,hc⟩:=h.row (by have:=h.len;omega);refine⟨b,pre,u32s r++post,hA,hb,?_⟩;rw [hc]
 congr 3
 rw [<-List.append_assoc (u32s _) (u32s r) post,<-Qbn,<-hr]
def RetOwn(w0:World)(l:List Nat)(e:Ending)(w':World):Prop:=∃A n c,e=.returned (.slice A n c)/\Own w' w0.heap.size l A n c/\Below w0.heap.size w0 w'
def zrow(n:Nat):Array Value:=(u32s (List.replicate n 0)).toArray
theorem Qfn(m:Nat)(e:Int)(he:e=(m:Int))(hm:m<=1099511627776)(W:World):
 (Instr.makeSlice 25 (.int .i64 e) (.int .i64 e)).run prog W=.ok (.slice (some ⟨W.heap.size,0,none⟩) m m) (W.alloc (.cells (zrow m) 97)):=by
 subst he;have h:=run_make_row' (P:=prog) 25 97 (.int .u32 0) 4 underlying25 (by kernel_rfl) rfl .i64 .i64 m (by omega) (by omega) W;have e:madeCells #[Value.int .u32 0] m=zrow m:=by
  apply Array.ext';rw [toList_madeCells_one];simp [zrow,u32s]
 rw [e]at h;exact h
def Row(w:World)(g:Nat)(l:List Nat):Prop:=w.heap[g]? =some (.cells (u32s l).toArray 97 (0,0))
theorem Row.lt{w:World}{g:Nat}{l:List Nat}(h:Row w g l):g<w.heap.size:=Qas h
theorem Row.new(w:World)(n:Nat):Row (w.alloc (.cells (zrow n) 97)) w.heap.size (List.replicate n 0):=heap_alloc_new w _
theorem Row.cell{w:World}{g:Nat}{l:List Nat}(h:Row w g l){k:Nat}(hk:k<l.length):w.cell? ⟨g,k,none⟩=some (.int .u32 ((l.getD k 0:Nat):Int)):=by
 rw [cell_of_row w g k _ _ _ h,List.getElem?_toArray,Qg3,List.getD_eq_getElem?_getD,List.getElem?_eq_getElem hk];rfl
theorem Row.frozen{w:World}{g:Nat}{l:List Nat}(h:Row w g l)(k:Nat):w.frozen? ⟨g,k,none⟩=false:=frozen_of_row w g k _ _ h
theorem Row.set{w:World}{g:Nat}{l:List Nat}(h:Row w g l)(k x:Nat):Row (w.setCell ⟨g,k,none⟩ (.int .u32 (x:Int))) g (l.set k x):=by
 have:=heap_setCell_same w g k _ _ (.int .u32 (x:Int)) h;unfold Row;rw [this]
 congr 2
 apply Array.ext';simp [u32s,List.map_set]
theorem Row.setI{w:World}{g:Nat}{l:List Nat}(h:Row w g l)(k:Nat)(x:Nat){e:Int}(he:e=(x:Int)):Row (w.setCell ⟨g,k,none⟩ (.int .u32 e)) g (l.set k x):=by
 subst he;exact h.set k x
theorem Row.num{w:World}{g:Nat}{l:List Nat}(h:Row w g l)(hl:Lim l){n c:Nat}(hn:n=l.length)(hc:n<=c):Num w l (some ⟨g,0,none⟩) n c:=
 ⟨hn,hc,hl,fun _=>⟨g,0,rfl,h.lt,fun k x hx=>by
  have hk:k<l.length:=(List.getElem?_eq_some_iff.1 hx).1;rw [Nat.zero_add,h.cell hk,List.getD_eq_getElem?_getD,hx];rfl⟩⟩
theorem Row.far{w:World}{g:Nat}{l:List Nat}(h:Row w g l){p:Addr}(hp:g≠p.block)(u:Value):Row (w.setCell p u) g l:=(Below.heap_setCell w p u g hp).trans h
theorem Row.drewN{w:World}{g:Nat}{l:List Nat}(h:Row w g l)(n:Nat):Row (w.drewN n) g l:=h
theorem Row.alloc{w:World}{g:Nat}{l:List Nat}(h:Row w g l)(o:Obj):Row (w.alloc o) g l:=(Below.heap_alloc w o g h.lt).trans h
theorem Row.below{w w':World}{B g:Nat}{l:List Nat}(h:Row w g l)(hb:Below B w w')(hg:g<B):Row w' g l:=(hb.block g hg).trans h
theorem Row.own{w:World}{B g:Nat}{l:List Nat}(h:Row w g l)(hB:B<=g)(hl:Lim l){c:Nat}(hc:l.length<=c):Own w B l (some ⟨g,0,none⟩) l.length c:=
 ⟨rfl,hc,hl,fun _=>⟨g,[],[],rfl,hB,by rw [List.append_nil];exact h⟩⟩
theorem Row.ret{w w':World}{g:Nat}{l:List Nat}(h:Row w' g l)(hg:w.heap.size<=g)(hl:Lim l)(hb:Below w.heap.size w w'){c:Nat}(hc:l.length<=c){m:Nat}(hm:val l=m):
 RetOwn w (limbs m) (.returned (.slice (some ⟨g,0,none⟩) (limbs (val l)).length c)) w':=by
 subst hm;exact⟨_,_,_,rfl,(h.own hg hl hc).trim,hb⟩
def Mid(w:World)(b:Nat)(pre:List Value)(l:List Nat)(post:List Value):Prop:=w.heap[b]? =some (.cells (pre++(u32s l++post)).toArray 97 (0,0))
theorem Mid.lt{w:World}{b:Nat}{pre post:List Value}{l:List Nat}(h:Mid w b pre l post):b<w.heap.size:=Qas h
theorem Mid.cell{w:World}{b:Nat}{pre post:List Value}{l:List Nat}(h:Mid w b pre l post){k:Nat}(hk:k<l.length):w.cell? ⟨b,pre.length+k,none⟩=some (.int .u32 ((l.getD k 0:Nat):Int)):=
 Qjm h (by rw [List.getD_eq_getElem?_getD,List.getElem?_eq_getElem hk];rfl)
theorem Mid.frozen{w:World}{b:Nat}{pre post:List Value}{l:List Nat}(h:Mid w b pre l post)(k:Nat):w.frozen? ⟨b,k,none⟩=false:=frozen_of_row w b k _ _ h
theorem Mid.set{w:World}{b:Nat}{pre post:List Value}{l:List Nat}(h:Mid w b pre l post){k:Nat}(hk:k<l.length)(x:Nat){e:Int}(he:e=(x:Int)):Mid (w.setCell ⟨b,pre.length+k,none⟩ (.int .u32 e)) b pre (l.set k x) post:=by
 subst he;have:=heap_setCell_same w b (pre.length+k) _ _ (.int .u32 (x:Int)) h;unfold Mid;rw [this]
 congr 2
 apply Array.ext';simp only [List.setIfInBounds_toArray];rw [List.set_append_right _ _ (by omega),Nat.add_sub_cancel_left,List.set_append_left _ _ (by rw [Qbh];exact hk)];simp [u32s,List.map_set]
theorem Mid.set'{w:World}{b:Nat}{pre post:List Value}{l:List Nat}(h:Mid w b pre l post){k:Nat}(hk:k<l.length)(x:Nat){e:Int}(he:e=(x:Int)){o:Nat}(ho:pre.length=o):Mid (w.setCell ⟨b,o+k,none⟩ (.int .u32 e)) b pre (l.set k x) post:=by
 subst ho;exact h.set hk x he
theorem Mid.drewN{w:World}{b:Nat}{pre post:List Value}{l:List Nat}(h:Mid w b pre l post)(n:Nat):Mid (w.drewN n) b pre l post:=h
theorem Mid.drew{w:World}{b:Nat}{pre post:List Value}{l:List Nat}(h:Mid w b pre l post):Mid w.drew b pre l post:=h
theorem Mid.num{w:World}{b:Nat}{pre post:List Value}{l:List Nat}(h:Mid w b pre l post)(hl:Lim l){n c o:Nat}(ho:o=pre.length)(hn:n=l.length)(hc:n<=c):Num w l (some ⟨b,o,none⟩) n c:=
 ⟨hn,hc,hl,fun _=>⟨b,o,rfl,h.lt,fun k x hx=>by subst ho;exact Qjm h hx⟩⟩
theorem Mid.own{w:World}{B b:Nat}{pre post:List Value}{l:List Nat}(h:Mid w b pre l post)(hB:B<=b)(hl:Lim l){o n c:Nat}(ho:o=pre.length)(hn:n=l.length)(hc:n<=c):Own w B l (some ⟨b,o,none⟩) n c:=
 ⟨hn,hc,hl,fun _=>⟨b,pre,post,by rw [ho],hB,h⟩⟩
theorem Mid.ret{w w':World}{b:Nat}{pre post:List Value}{l:List Nat}(h:Mid w' b pre l post)(hg:w.heap.size<=b)(hl:Lim l)(hb:Below w.heap.size w w'){o c:Nat}(ho:o=pre.length)(hc:l.length<=c){m:Nat}(hm:val l=m):
 RetOwn w (limbs m) (.returned (.slice (some ⟨b,o,none⟩) (limbs (val l)).length c)) w':=by
 subst hm;exact⟨_,_,_,rfl,(h.own hg hl ho rfl hc).trim,hb⟩
theorem Row.mid{w:World}{g:Nat}{l:List Nat}(h:Row w g l)(i t:Nat):Mid w g (u32s (l.take i)) ((l.drop i).take t) (u32s (l.drop (i+t))):=by
 unfold Mid;rw [h,<-Qbn,<-Qbn,<-List.drop_drop,List.take_append_drop,List.take_append_drop]
theorem Mid.row{w:World}{g:Nat}{p l q:List Nat}(h:Mid w g (u32s p) l (u32s q)):Row w g (p++(l++q)):=by
 unfold Mid at h;unfold Row;rw [h,<-Qbn,<-Qbn]
theorem Row.grown{w w':World}{g:Nat}{l:List Nat}{row:Option Nat}(h:Row w g l)(hg:w.grownBy w' row)(hne:some g≠row):Row w' g l:=(hg.block g h.lt hne).trans h
theorem Qu6:∃i,prog.info? 97=some i/\i.zero=some (.int .u32 0)/\i.size=1/\i.bytes=4:=by
 have h:(prog.info? 97).map (fun i=>(i.zero,i.size,i.bytes))=some (some (.int .u32 0),1,4):=by kernel_rfl
 obtain⟨i,hi,hz⟩:=Option.map_eq_some_iff.1 h;simp only [Prod.mk.injEq]at hz;exact⟨i,hi,hz.1,hz.2.1,hz.2.2⟩
def OwnR(w:World)(B:Nat)(v:Value)(l:List Nat):Prop:=w.ownsRow B 97 1 v l.length (u32s l)
theorem Qog(l:List Nat):∀u∈u32s l,u.oneCell'=true:=by
 intro u hu;obtain⟨x,_,rfl⟩:=List.mem_map.1 hu;rfl
theorem Qm8(w:World)(B:Nat)(v:Value)(l r:List Nat)(hown:OwnR w B v l)(A:Option Addr)(m c:Nat)(hnum:Num w r A m c)(hsum:l.length+m<=1099511627776)(hB:B<=w.heap.size):
 ∃v' w',(Builtin.append_ #[25,25] 25 #[v,.slice A m c]).run prog w=.ok v' w'/\OwnR w' B v' (l++r)/\w.grownBy w' v.ownBlock/\(v'.ownBlock=v.ownBlock\/v'.ownBlock=some w.heap.size):=by
 obtain⟨i,hi,hz,hs,hb⟩:=Qu6;have hu:=underlying25;rcases eq_zero_or_pos m with h0|h0
 ·subst h0
  have hr:r=[]:=List.eq_nil_of_length_eq_zero hnum.len.symm;subst hr;refine⟨v,w,?_,by simpa using hown,World.grownBy.refl w _,.inl rfl⟩;rcases hown.2 with⟨rfl,_⟩|⟨g,cap,cur,rfl,_,_,hnc,_⟩
  ·cases A<;>simp [Builtin.append_,run_underlying hu,sizeOf,typeInfo,hi,Builtin.lenOf,Builtin.firstCells,hs,loadCells,loadCellsFrom,storeCells]
  ·cases A<;>simp [Builtin.append_,run_underlying hu,sizeOf,typeInfo,hi,Builtin.lenOf,Builtin.firstCells,hs,hnc,loadCells,loadCellsFrom,storeCells]
 ·obtain⟨b,o,rfl,hb',hc⟩:=hnum.cells h0
  have hl:(u32s r).length=m*1:=by rw [Qbh,hnum.len];omega
  obtain⟨v',w',h1,h2,h3,_,h5⟩:=run_append_own_at (P:=prog) w B 25 25 97 i (.int .u32 0) 1 4 hu hi hz hs hb rfl (by omega) v l.length (u32s l) hown ⟨b,o,none⟩ m c (u32s r) hl
   (fun j u hju=>by
    rw [Qg3]at hju;obtain⟨x,hx,rfl⟩:=Option.map_eq_some_iff.1 hju;have:=hc j x hx;have e:(⟨b,o,none⟩:Addr).add j=⟨b,o+j,none⟩:=(by unfold Addr.add;split<;>simp_all);rw [e];exact this) (Qog r) (by unfold maxLen;omega) (by omega) hB
  refine⟨v',w',h1,?_,h3,h5⟩;unfold OwnR;rw [List.length_append,Qbn,<-hnum.len];exact h2
theorem Qeh{w:World}{ops:Array Oper}{rest:List Oper}{o:Oper}{a:Act}{Q:Exit->Act->World->Prop}(hgd:o.guard=none)(s x:Operand)
 (ho:o.op=.call {callee:=.builtin .append,args:=#[s,x],argTypes:=#[25,25]})(hty:o.type=25)(B:Nat)(v:Value)(l r:List Nat)(hs:a.eval s=v)(hown:OwnR w B v l)
 (A:Option Addr)(m c:Nat)(hx:a.eval x=.slice A m c)(hnum:Num w r A m c)(hsum:l.length+m<=1099511627776)(hB:B<=w.heap.size)
 (h:∀v' w',OwnR w' B v' (l++r)->w.grownBy w' v.ownBlock->(v'.ownBlock=v.ownBlock\/v'.ownBlock=some w.heap.size)->wpList prog ops Q rest (a.put o.dst v') w'):wpList prog ops Q (o::rest) a w:=by
 refine wpList_plain hgd fun K hK=>?_
 obtain⟨v',w',hrun,h1,h2,h3⟩:=Qm8 w B v l r hown A m c hnum hsum hB;unfold Oper.wp;simp [execOp,ho,hty,resolve,invoke,builtin,hs,hx,hrun,Result.andThen];exact hK _ _ (h v' w' h1 h2 h3)
theorem OwnR.own{w:World}{B:Nat}{v:Value}{l:List Nat}(h:OwnR w B v l)(hl:Lim l):∃A c,v=.slice A l.length c/\Own w B l A l.length c:=by
 rcases h.2 with⟨rfl,hn⟩|⟨g,cap,cur,rfl,hB,hh,hnc,_,_,hcur⟩
 ·have hl0:l=[]:=List.eq_nil_of_length_eq_zero hn
  subst hl0;exact⟨none,0,rfl,Own.nil _ _ _ _⟩
 ·refine⟨some ⟨g,0,none⟩,cap,rfl,rfl,hnc,hl,fun _=>⟨g,[],cur.toList.drop (l.length*1),rfl,hB,?_⟩⟩
  rw [hh,List.nil_append,<-hcur,List.take_append_drop,Array.toArray_toList]
theorem OwnR.nil(w:World)(B:Nat):OwnR w B (.slice none 0 0) []:=World.ownsRow_nil ..
theorem OwnR.new0(w:World){B:Nat}(hB:B<=w.heap.size):OwnR (w.alloc (.cells #[] 97)) B (.slice (some ⟨w.heap.size,0,none⟩) 0 0) []:=
 World.ownsRow_made w #[] 0 hB (zero_le _) rfl
theorem draws2(w:World)(a b:Nat):∃q,(w.drewN a).drewN b=w.drewN q:=⟨_,World.drewN_drewN ..⟩
theorem draws3(w:World)(a b c:Nat):∃q,((w.drewN a).drewN b).drewN c=w.drewN q:=⟨_,by rw [World.drewN_drewN,World.drewN_drewN]⟩
theorem Qei{P:Program}{f:FuncId}{args:Array Value}{w:World}{n:Nat}{v:Value}
 (h:Calls P f args (w.drewN n) fun e w'=>e=.returned v/\w.drewN n=w'):Calls P f args (w.drewN n) fun e w''=>e=.returned v/\∃m,w''=w.drewN m:=
 h.mono fun _ _ ⟨he,hm⟩=>⟨he,n,hm.symm⟩
theorem Qey{P:Program}{f:FuncId}{args:Array Value}{w:World}{a n:Nat}{v:Value}
 (h:Calls P f args (w.drewN (a+n)) fun e w'=>e=.returned v/\w.drewN (a+n)=w'):
 Calls P f args (w.drewN (a+n)) fun e w''=>e=.returned v/\∃m,w''=w.drewN (a+m):=
 h.mono fun _ _ ⟨he,hm⟩=>⟨he,n,hm.symm⟩
theorem Qah{B:Nat}{a w:World}(h:Below B a w)(n:Nat):Below B a (w.drewN n):=⟨h.os,h.tape,h.output,h.size,h.block⟩
theorem Qa6(w:World)(n B:Nat):Below B w (w.drewN n):=Qah (Below.refl _ _) n
theorem Own.drewN{w:World}{B:Nat}{l:List Nat}{A:Option Addr}{n c:Nat}(h:Own w B l A n c)(k:Nat):Own (w.drewN k) B l A n c:=⟨h.len,h.cap,h.lim,h.row⟩
theorem Qfo{a b:Nat}(A:Option Addr)(c:Nat)(h:a=b):Ending.returned (.slice A a c)=.returned (.slice A b c):=by rw [h]
theorem Qa7{k:IntKind}{a b:Int}(h:a=b):Ending.returned (.int k a)=.returned (.int k b):=by rw [h]
theorem Qal{a b:Bool}(h:a=b):Ending.returned (.bool a)=.returned (.bool b):=by rw [h]
theorem Qxt(A:Option Addr)(n c k x:Nat)(l:List Nat)(w:World)(h:Num w l A n c)(hk:k<n)(hx:l.getD k 0=x)(hn:n<=1073741824):
 Calls prog 287 #[.slice A n c,.int .i64 k] w fun e w'=>e=.returned (.int .u32 x)/\w=w':=by
 obtain⟨b,o,y,rfl,_,hy,_,hc⟩:=h.at_ hk;rw [hx]at hy;subst hy;have HX:=hid hx;clear hx h;go_enter func287,ntmps287
 go_wp2
 go_ret;exact⟨rfl,rfl⟩
theorem Qu7(A:Option Addr)(n c k:Nat)(w:World)(hk:n<=k):
 Calls prog 287 #[.slice A n c,.int .i64 k] w fun e w'=>e=.returned (.int .u32 0)/\w=w':=by
 go_enter func287,ntmps287
 go_wp2
 go_ret;exact⟨rfl,rfl⟩
theorem Qu8(A:Option Addr)(n c:Nat)(k:Int)(l:List Nat)(w:World)(h:Num w l A n c)(h0:0<=k)(hn:n<=1073741824):
 Calls prog 287 #[.slice A n c,.int .i64 k] w fun e w'=>e=.returned (.int .u32 ((l.getD k.toNat 0:Nat):Int))/\w=w':=by
 obtain⟨j,rfl⟩:=Int.eq_ofNat_of_zero_le h0;rw [Int.toNat_natCast];by_cases hk:j<n
 ·exact Qxt A n c j _ l w h hk rfl hn
 ·rw [show l.getD j 0=0 from by rw [List.getD_eq_getElem?_getD,List.getElem?_eq_none (by have:=h.len;omega)];rfl]
  exact Qu7 A n c j w (by omega)
theorem Qfp(A:Option Addr)(n c:Nat)(k:Int)(l:List Nat)(w:World)(y:Nat)(h:Num w l A n c)(h0:0<=k)(hn:n<=1073741824)(H:Hid (l.getD k.toNat 0=y)):
 Calls prog 287 #[.slice A n c,.int .i64 k] w fun e w'=>e=.returned (.int .u32 (y:Int))/\w=w':=by
 have e:=H.out;subst e;exact Qu8 A n c k l w h h0 hn
theorem Qat(A:Option Addr)(n c:Nat)(l:List Nat)(w:World)(h:Num w l A n c)(hn:n<=1073741824):
 Calls prog 223 #[.slice A n c] w fun e w'=>e=.returned (.slice A (limbs (val l)).length c)/\w=w':=by
 have hcap:=h.cap;have HT:Hid (tl l n=(limbs (val l)).length):=by rw [h.len];exact Qk1 l h.lim
 go_enter func223,ntmps223
 go_wp2
 go_loop [3] (fun i=> ∃k:Nat,k<=n/\i=.int .i64 k/\Hid (tl l n=tl l k)) (fun i=>(intOf i).toNat)
 case atStart=>exact⟨n,le_refl _,rfl,rfl⟩
 case round=>
  obtain⟨k,hk,rfl,HE⟩:=hrel;rcases eq_zero_or_pos k with h0|h0
  ·subst h0
   go_wp2
   go_ret;exact⟨Qfo _ _ (HE.out.symm.trans HT.out),rfl⟩
  ·obtain⟨j,rfl⟩:∃j,k=j+1:=⟨k-1,by omega⟩
   obtain⟨b,o,x,rfl,_,hx,_,hcj⟩:=h.at_ (show j<n by omega);clear h;by_cases hz:x=0
   ·subst hz
    have HX:=hid hx;clear hx
    go_wp2
    go_round
    case rel=>exact⟨j,by omega,by go_num,HE.out.trans (Qm6 l j HX.out)⟩
    case measure=>simp [intOf]
   ·have hne:((x:Int)==0)=false:=by simp;exact hz
    have HX:=hid hx;clear hx;have HZ:=hid hz;clear hz
    go_wp2
    go_ret;exact⟨Qfo _ _ ((HE.out.trans (Qrb l j (by rw [HX.out];exact HZ.out))).symm.trans HT.out),rfl⟩
theorem Qps(A:Option Addr)(n c:Nat)(l:List Nat)(w:World)(h:Num w l A n c)(hn:n<=1073741824):
 Calls prog 201 #[.slice A n c] w fun e w'=>e=.returned (.bool (decide (0<n/\l.getD (n-1) 0=0)))/\w=w':=by
 rcases eq_zero_or_pos n with h0|h0
 ·subst h0
  go_enter func201,ntmps201
  go_wp2
  go_ret;exact⟨Qal (by simp),rfl⟩
 ·obtain⟨j,rfl⟩:∃j,n=j+1:=⟨n-1,by omega⟩
  obtain⟨b,o,x,rfl,_,hx,_,hcj⟩:=h.at_ (show j<j+1 by omega);rw [Nat.add_sub_cancel,hx];clear hx h;go_enter func201,ntmps201
  go_wp2
  go_ret;exact⟨Qal (by rw [Bool.eq_iff_iff];simp),rfl⟩
theorem Qrh(A:Option Addr)(n c:Nat)(l:List Nat)(w:World)(h:Num w l A n c)(hn:n<=1073741824):
 Calls prog 202 #[.slice A n c] w fun e w'=>e=.returned (.bool (decide (l=[1])))/\w=w':=by
 by_cases h1:n=1
 ·subst h1
  obtain⟨b,o,x,rfl,_,hx,_,hcj⟩:=h.at_ (show 0<1 by omega);have hl:decide (l=[1])=decide ((x:Int)=1):=by
   have:=h.len
   match l,this with
   |[y],_=>simp at hx;subst hx;simp;omega
  rw [hl];rw [Nat.add_zero]at hcj;clear hx h hl;go_enter func202,ntmps202
  go_wp2
  go_ret;exact⟨Qal (by first|rfl|(rw [Bool.eq_iff_iff];simp)),rfl⟩
 ·have hl:decide (l=[1])=false:=by
   have:=h.len;simp;rintro rfl;simp at this;omega
  have hn1:((n:Int)==1)=false:=by simp;omega
  rw [hl];clear h hl h1;go_enter func202,ntmps202
  go_wp2
  go_ret;exact⟨rfl,rfl⟩
theorem Qay:limbs 1=[1]:=by rw [Qd4 (by decide),show 1 / 4294967296=0 from rfl,Qaf]
theorem Qxu(w:World):Calls prog 265 #[] w (RetOwn w [1]):=by
 go_enter func265,ntmps265
 go_wp2
 go_ret;refine⟨some ⟨w.heap.size,0,none⟩,1,1,rfl,⟨rfl,by omega,Lim.cons (by decide) Lim.nil,fun _=>⟨w.heap.size,[],[],rfl,le_refl _,?_⟩⟩,?_⟩
 ·exact heap_alloc_new w _
 ·exact(Below.refl _ _).alloc (le_refl _) _
def cmpI(a b:Int):Int:=if a<b then -1 else if b<a then 1 else 0
theorem Qhj(a:Int)(w:World):Calls prog 263 #[.int .i64 a] w fun e w'=>e=.returned (.bool false)/\w=w':=by
 go_enter func263,ntmps263
 go_wp2
 go_ret;exact⟨Qal (by simp),rfl⟩
theorem Qhk(a:Int)(w:World):Calls prog 304 #[.int .u32 a] w fun e w'=>e=.returned (.bool false)/\w=w':=by
 go_enter func304,ntmps304
 go_wp2
 go_ret;exact⟨Qal (by simp),rfl⟩
theorem Qhl(a b:Int)(w:World):Calls prog 218 #[.int .i64 a,.int .i64 b] w fun e w'=>e=.returned (.int .i64 (cmpI a b))/\w=w':=by
 rcases Int.lt_trichotomy a b with h|h|h
 ·have e:cmpI a b= -1:=by unfold cmpI;rw [if_pos h]
  rw [e];clear e;go_enter func218,ntmps218;go_wp2_with (go_at_call 263;refine(Qhj _ _).mono ?_;rintro e w' ⟨rfl,rfl⟩)
  go_ret;exact⟨rfl,rfl⟩
 ·subst h
  have e:cmpI a a=0:=by unfold cmpI;rw [if_neg (by omega),if_neg (by omega)]
  rw [e];clear e;go_enter func218,ntmps218;go_wp2_with (go_at_call 263;refine(Qhj _ _).mono ?_;rintro e w' ⟨rfl,rfl⟩)
  go_ret;exact⟨rfl,rfl⟩
 ·have e:cmpI a b=1:=by unfold cmpI;rw [if_neg (by omega),if_pos h]
  have h':¬a<b:=by omega
  rw [e];clear e;go_enter func218,ntmps218;go_wp2_with (go_at_call 263;refine(Qhj _ _).mono ?_;rintro e w' ⟨rfl,rfl⟩)
  go_ret;exact⟨rfl,rfl⟩
theorem Qxv(a b:Int)(w:World):Calls prog 264 #[.int .u32 a,.int .u32 b] w fun e w'=>e=.returned (.int .i64 (cmpI a b))/\w=w':=by
 rcases Int.lt_trichotomy a b with h|h|h
 ·have e:cmpI a b= -1:=by unfold cmpI;rw [if_pos h]
  rw [e];clear e;go_enter func264,ntmps264;go_wp2_with (go_at_call 304;refine(Qhk _ _).mono ?_;rintro e w' ⟨rfl,rfl⟩)
  go_ret;exact⟨rfl,rfl⟩
 ·subst h
  have e:cmpI a a=0:=by unfold cmpI;rw [if_neg (by omega),if_neg (by omega)]
  rw [e];clear e;go_enter func264,ntmps264;go_wp2_with (go_at_call 304;refine(Qhk _ _).mono ?_;rintro e w' ⟨rfl,rfl⟩)
  go_ret;exact⟨rfl,rfl⟩
 ·have e:cmpI a b=1:=by unfold cmpI;rw [if_neg (by omega),if_pos h]
  have h':¬a<b:=by omega
  rw [e];clear e;go_enter func264,ntmps264;go_wp2_with (go_at_call 304;refine(Qhk _ _).mono ?_;rintro e w' ⟨rfl,rfl⟩)
  go_ret;exact⟨rfl,rfl⟩
theorem Qb2{a b:Int}(h:a<b):cmpI a b= -1:=by unfold cmpI;rw [if_pos h]
theorem Qdj{a b:Int}(h:b<a):cmpI a b=1:=by unfold cmpI;rw [if_neg (by omega),if_pos h]
theorem Qri(a:Int):cmpI a a=0:=by unfold cmpI;rw [if_neg (by omega),if_neg (by omega)]
def RetQ(w0:World)(v:Value)(e:Ending)(w':World):Prop:=e=.returned v/\∃q,w'=w0.drewN q
theorem Qrj(A A':Option Addr)(n c n' c':Nat)(w:World)(h:n≠n')(hn:n<=1073741824)(hn':n'<=1073741824):
 Calls prog 219 #[.slice A n c,.slice A' n' c'] w (RetQ w (.int .i64 (cmpI n n'))):=by
 have h1:((n:Int) !=n')=true:=by simp;omega
 clear h;go_enter func219,ntmps219;go_wp2_with (go_at_call 218;refine(Qhl _ _ _).mono ?_;rintro e w' ⟨rfl,rfl⟩)
 go_ret;exact⟨rfl,0,rfl⟩
theorem Qiz{l r:List Nat}{k:Nat}(hl:Lim l)(hr:Lim r)(hk:k<l.length)(hlen:l.length=r.length)(he:∀j,k<j->j<l.length->l.getD j 0=r.getD j 0)(hne:l.getD k 0≠r.getD k 0):
 cmpI ((l.getD k 0:Nat):Int) ((r.getD k 0:Nat):Int)=cmpI ((val l:Nat):Int) ((val r:Nat):Int):=by
 have he':∀j,k<j->l.getD j 0=r.getD j 0:=fun j hj=>by
  by_cases h:j<l.length
  ·exact he j hj h
  ·rw [List.getD_eq_getElem?_getD,List.getD_eq_getElem?_getD,List.getElem?_eq_none (by omega),List.getElem?_eq_none (by omega)]
 rcases Nat.lt_or_gt_of_ne hne with h|h
 ·rw [Qb2 (by omega),Qb2 (by have:=Qk2 hl hk hlen he' h;omega)]
 ·rw [Qdj (by omega),Qdj (by have:=Qk2 hr (by omega) hlen.symm (fun j hj=>(he' j hj).symm) h;omega)]
theorem Qpt(A A':Option Addr)(n c c':Nat)(l r:List Nat)(w:World)(hx:Num w l A n c)(hy:Num w r A' n c')(hn:n<=1073741824):
 Calls prog 219 #[.slice A n c,.slice A' n c'] w (RetQ w (.int .i64 (cmpI ((val l:Nat):Int) ((val r:Nat):Int)))):=by
 have h1:((n:Int) !=n)=false:=by simp
 obtain⟨V,hV⟩:∃V,cmpI ((val l:Nat):Int) ((val r:Nat):Int)=V:=⟨_,rfl⟩;rw [hV];have HV:=hid hV;clear hV;go_enter func219,ntmps219
 go_wp2
 go_loopw [5] (fun i wr=> ∃k q:Nat,k<=n/\i=.int .i64 ((k:Int) - 1)/\wr=w.drewN q/\Hid (∀j,k<=j->j<n->l.getD j 0=r.getD j 0)) (fun i _=>(intOf i+1).toNat)
 case atStart=>exact⟨n,0,le_refl _,rfl,rfl,show Hid _ from fun j h1 h2=>by omega⟩
 case round=>
  obtain⟨k,q,hk,rfl,rfl,HE⟩:=hrel;rcases eq_zero_or_pos k with h0|h0
  ·subst h0
   go_wp2
   go_ret;refine⟨Qa7 ?_,q,rfl⟩;rw [<-HV.out,Qc0 (hx.len.symm.trans hy.len) (fun j hj=>HE.out j (by omega) (by have:=hx.len;omega)),Qri]
  ·obtain⟨j,rfl⟩:∃j,k=j+1:=⟨k-1,by omega⟩
   obtain⟨b,o,x,rfl,_,hx',_,hcx⟩:=hx.at_ (show j<n by omega);obtain⟨b',o',y,rfl,_,hy',_,hcy⟩:=hy.at_ (show j<n by omega);have hjn:(j:Int)<(n:Int):=(by omega);have e1:((j+1:Nat):Int) - 1=(j:Int):=(by omega);rw [e1];clear e1;have HX:=hid hx';have HY:=hid hy';have LX:=hid hx;have LY:=hid hy;clear hx' hy' hx hy;by_cases hxy:x=y
   ·have hne:((x:Int) !=y)=false:=by simp;omega
    have hne2:((y:Int) !=y)=false:=(by simp);have HXY:=hid hxy;subst hxy;go_wp2_with fail
    go_quiet (fail)
    go_wp2_with fail
    go_roundw
    case rel=>exact⟨j,_,by omega,rfl,rfl,show Hid _ from fun i hi1 hi2=>by
     rcases Nat.eq_or_lt_of_le hi1 with hi|hi
     ·subst hi;rw [HX.out,HY.out]
     ·exact HE.out i (by omega) hi2⟩
    case measure=>simp [intOf]
   ·have hne:((x:Int) !=y)=true:=by simp;omega
    go_wp2_with fail
    go_quiet (fail)
    go_wp2_with fail
    go_quiet ((go_at_call 264;exact Qey (Qxv _ _ _)))
    go_wp2_with fail
    go_ret;refine⟨Qa7 ?_,draws3 ..⟩;rw [<-HV.out,<-Qiz (k:=j) LX.out.lim LY.out.lim (by have:=LX.out.len;omega) (LX.out.len.symm.trans LY.out.len) (fun i hi1 hi2=>HE.out i (by omega) (by have:=LX.out.len;omega)) (by rw [HX.out,HY.out];exact hxy),HX.out,HY.out]
theorem Qrk(A A':Option Addr)(n c n' c' a b:Nat)(w:World)(hx:Num w (limbs a) A n c)(hy:Num w (limbs b) A' n' c')(hn:n<=1073741824)(hn':n'<=1073741824):
 Calls prog 219 #[.slice A n c,.slice A' n' c'] w (RetQ w (.int .i64 (cmpI a b))):=by
 by_cases h:n=n'
 ·subst h
  have:=Qpt A A' n c c' _ _ w hx hy hn
  rwa [Qab,Qab]at this
 ·have e:cmpI (n:Int) (n':Int)=cmpI (a:Int) (b:Int):=by
   have h1:=hx.len;have h2:=hy.len;rcases Nat.lt_or_gt_of_ne h with h'|h'
   ·rw [Qb2 (by omega),Qb2 (by have:=Qb1 (a:=a) (b:=b) (by omega);omega)]
   ·rw [Qdj (by omega),Qdj (by have:=Qb1 (a:=b) (b:=a) (by omega);omega)]
  rw [<-e];exact Qrj A A' n c n' c' w h hn hn'
theorem Qcm(A A':Option Addr)(n c n' c' a b:Nat)(w:World)(v:Int)(hx:Num w (limbs a) A n c)(hy:Num w (limbs b) A' n' c')(hn:n<=1073741824)(hn':n'<=1073741824)(H:Hid (cmpI a b=v)):
 Calls prog 219 #[.slice A n c,.slice A' n' c'] w (RetQ w (.int .i64 v)):=by
 have h:=Qrk A A' n c n' c' a b w hx hy hn hn'
 rwa [H.out]at h
def bor(x y b:Nat):Nat:=if x<y+b then 1 else 0
def dif(x y b:Nat):Nat:=(x+4294967296-y-b)%4294967296
theorem Qi0(x y b:Nat):bor x y b<=1:=by unfold bor;split<;>omega
theorem Qhm(x y b:Nat):dif x y b<4294967296:=mod_lt _ (by decide)
theorem Qoh(x y b:Nat)(hx:x<4294967296)(hy:y<4294967296)(hb:b<=1):((x:Int) - y-b)%4294967296=((dif x y b:Nat):Int):=by unfold dif;omega
theorem Qge(x y b:Nat)(hx:x<4294967296)(hy:y<4294967296)(hb:b<=1):dif x y b+y+b=x+4294967296*bor x y b:=by unfold dif bor;split<;>omega
theorem Qjo{n:Nat}(h:n<4294967296):n / 2147483648=(n.testBit 31).toNat:=by
 rw [Nat.testBit_eq_decide_div_mod_eq,show(2:Nat)^31=2147483648 from rfl];have:n / 2147483648=0\/n / 2147483648=1:=by omega
 rcases this with h|h<;>simp [h]
theorem Qxw(x y b:Nat)(hx:x<4294967296)(hy:y<4294967296)(hb:b<=1):
 ((((4294967295^^^x) &&& y)|||((4294967295^^^(x^^^y)) &&& dif x y b)):Nat) / 2147483648=bor x y b:=by
 have hm:(4294967295:Nat).testBit 31=true:=by decide
 have hd:=Qhm x y b;have e1:(4294967295^^^x)<2^32:=Nat.xor_lt_two_pow (by decide) hx;have e2:(4294967295^^^(x^^^y))<2^32:=Nat.xor_lt_two_pow (by decide) (Nat.xor_lt_two_pow hx hy);have e3:(((4294967295^^^x) &&& y)|||((4294967295^^^(x^^^y)) &&& dif x y b))<2^32:=Nat.or_lt_two_pow (Nat.and_lt_two_pow _ hy) (Nat.and_lt_two_pow _ hd);rw [Qjo e3,Nat.testBit_or,Nat.testBit_and,Nat.testBit_and,Nat.testBit_xor,Nat.testBit_xor,Nat.testBit_xor,hm];have hxb:=Qjo hx;have hyb:=Qjo hy;have hdb:=Qjo hd;have hval:=Qge x y b hx hy hb;have hle:=Qi0 x y b;cases h1:x.testBit 31<;>cases h2:y.testBit 31<;>cases h3:(dif x y b).testBit 31<;>simp only [h1,h2,h3]at hxb hyb hdb⊢ <;>simp at hxb hyb hdb⊢ <;>omega
theorem Qu9(x y b:Nat)(hx:x<4294967296)(hy:y<4294967296)(hb:b<=1):
 (bits .or .u32 (bits .and .u32 (bits .xor .u32 IntKind.u32.max (x:Int)) (y:Int)) (bits .and .u32 (bits .xor .u32 IntKind.u32.max (bits .xor .u32 (x:Int) (y:Int))) (((x:Int) - y-b)%4294967296))) / 2147483648=((bor x y b:Nat):Int):=by
 have hm:IntKind.u32.max=((4294967295:Nat):Int):=by decide
 have hd:=Qhm x y b;have e1:(4294967295^^^x)<2^32:=Nat.xor_lt_two_pow (by decide) hx;have e2:(x^^^y)<2^32:=Nat.xor_lt_two_pow hx hy;have e3:(4294967295^^^(x^^^y))<2^32:=Nat.xor_lt_two_pow (by decide) e2;rw [Qoh x y b hx hy hb,hm,u32_xor_nat _ _ (by decide) hx,u32_xor_nat _ _ hx hy,u32_xor_nat _ _ (by decide) e2,u32_and_nat _ _ e1 hy,u32_and_nat _ _ e3 hd,
  u32_or_nat _ _ (lt_of_lt_of_le (Nat.and_lt_two_pow _ hy) (le_refl (2^32))) (lt_of_lt_of_le (Nat.and_lt_two_pow _ hd) (le_refl (2^32)))]
 rw [<-Qxw x y b hx hy hb];rfl
theorem Qjp{k k':IntKind}{a b c d:Int}(h:a=b)(h':c=d):Ending.returned (.tuple #[.int k a,.int k' c])=.returned (.tuple #[.int k b,.int k' d]):=by rw [h,h']
theorem sub32(x y b:Nat)(w:World)(hx:x<4294967296)(hy:y<4294967296)(hb:b<=1):
 Calls prog 327 #[.int .u32 x,.int .u32 y,.int .u32 b] w fun e w'=>e=.returned (.tuple #[.int .u32 (dif x y b),.int .u32 (bor x y b)])/\w=w':=by
 go_enter func327,ntmps327
 go_wp2
 go_ret2
 exact⟨Qjp (Qoh x y b hx hy hb) (Qu9 x y b hx hy hb),rfl⟩
theorem add32(x y b:Nat)(w:World)(hx:x<4294967296)(hy:y<4294967296)(hb:b<=1):
 Calls prog 371 #[.int .u32 x,.int .u32 y,.int .u32 b] w fun e w'=>e=.returned (.tuple #[.int .u32 (((x+y+b)%4294967296:Nat):Int),.int .u32 (((x+y+b) / 4294967296:Nat):Int)])/\w=w':=by
 go_enter func371,ntmps371
 go_wp2
 go_ret2
 exact⟨Qjp (by omega) (by omega),rfl⟩
theorem sub32'(x:Nat)(Y:Int)(y b:Nat)(w:World)(hY:Hid (Y=(y:Int)))(hx:x<4294967296)(hy:y<4294967296)(hb:b<=1):
 Calls prog 327 #[.int .u32 x,.int .u32 Y,.int .u32 b] w fun e w'=>e=.returned (.tuple #[.int .u32 (dif x y b),.int .u32 (bor x y b)])/\w=w':=by
 have e:=hY.out;subst e;exact sub32 x y b w hx hy hb
def ltn(a b:Nat):Nat:=if a<b then 1 else 0
theorem Qc1(v:Nat)(w:World)(hv:v<18446744073709551616):
 Calls prog 288 #[.int .u64 v] w (RetOwn w (limbs v)):=by
 go_enter func288,ntmps288;have hlim:Lim [v%4294967296,v / 4294967296]:=Lim.cons (mod_lt _ (by decide)) (Lim.cons (by omega) Lim.nil);have hrow:Row (w.alloc (.cells #[.int .u32 ((v:Int)%4294967296),.int .u32 ((v:Int) / 4294967296)] 97)) w.heap.size [v%4294967296,v / 4294967296]:=heap_alloc_new w _;have HV:Hid (val [v%4294967296,v / 4294967296]=v):=by show _=_;simp only [val];omega
 go_wp2_with (go_at_call 223;refine(Qat _ 2 2 _ _ (hrow.num (n:=2) (c:=2) hlim rfl (by omega)) (by omega)).mono ?_;rintro e w' ⟨rfl,rfl⟩)
 go_ret;exact hrow.ret (le_refl _) hlim ((Below.refl _ _).alloc (le_refl _) _) (by simp) HV.out
theorem low_l(A:Option Addr)(n c:Nat)(l:List Nat)(w:World)(hx:Num w l A n c)(hn:n<=536870912):
 Calls prog 244 #[.slice A n c] w fun e w'=>e=.returned (.int .u64 ((l.getD 0 0+4294967296*l.getD 1 0:Nat):Int))/\w=w':=by
 obtain⟨x,hx'⟩:∃x,l.getD 0 0=x:=⟨_,rfl⟩;obtain⟨y,hy'⟩:∃y,l.getD 1 0=y:=⟨_,rfl⟩;have hx4:x<4294967296:=by rw [<-hx'];exact hx.lim.getD _
 have hy4:y<4294967296:=by rw [<-hy'];exact hx.lim.getD _
 rw [hx',hy'];have HX:=hid hx';have HY:=hid hy';clear hx' hy';go_enter func244,ntmps244;go_wp2_with fail
 refine(Qfp _ _ _ 1 l _ y hx (by omega) (by omega) HY).mono ?_;rintro e w' ⟨rfl,rfl⟩;go_wp2_with fail
 refine(Qfp _ _ _ 0 l _ x hx (by omega) (by omega) HX).mono ?_;rintro e w' ⟨rfl,rfl⟩;go_wp2_with fail
 go_ret;refine⟨Qa7 ?_,rfl⟩;rw [show(y:Int)*4294967296=((y*4294967296:Nat):Int)from by omega,u64_or_nat _ _ (by omega) (by omega),nat_join 32 (y*4294967296) x (by omega) (by omega)];omega
theorem Qcd(A:Option Addr)(n c a:Nat)(w:World)(hx:Num w (limbs a) A n c)(hn:n<=2):
 Calls prog 244 #[.slice A n c] w fun e w'=>e=.returned (.int .u64 (a:Int))/\w=w':=by
 have h:=low_l A n c _ w hx (by omega);have e:(limbs a).getD 0 0+4294967296*(limbs a).getD 1 0=a:=by
  have hl:=hx.len
  conv=>rhs;rw [<-Qab a]
  match h2:limbs a,hl with
  |[],_=>rfl
  |[x],_=>simp [val]
  |[x,y],_=>simp [val]
  |x::y::z::t,hl=>simp at hl;omega
 rwa [e]at h
theorem Qdk(A:Option Addr)(n c:Nat)(l:List Nat)(w:World)(hx:Num w l A n c)(hn:n<=536870912):
 Calls prog 176 #[.slice A n c] w (RetOwn w l):=by
 have hq:=Lib.run_eql_slice_nil (P:=prog) w 25 97 A n c 0 0 underlying25;cases A with
 |none=>
  have h0:n=0:=by
   rcases eq_zero_or_pos n with h|h
   ·exact h
   ·obtain⟨_,_,h,_⟩:=hx.cells h;cases h
  have hl:l=[]:=List.eq_nil_of_length_eq_zero (by rw [<-hx.len];exact h0);subst hl;subst h0;go_enter func176,ntmps176
  go_wp2
  go_ret;exact⟨none,0,0,rfl,Own.nil _ _ _ _,Below.refl _ _⟩
 |some a=>
  have hb0:Below w.heap.size w (w.alloc (.cells #[] 97)):=(Below.refl _ _).alloc (le_refl _) _;go_enter func176,ntmps176;go_wp2_with (at_builtin;refine Qeh rfl (.tmp 5) (.tmp 6) rfl rfl w.heap.size _ [] l rfl (OwnR.new0 w (le_refl _)) (some a) n c rfl (hx.below hb0) ?c1 hb0.size ?_)
  case c1=>simp;omega
  intro v' w' hown hgr _
  go_wp2
  go_ret;obtain⟨A',c',rfl,ho⟩:=hown.own hx.lim;exact⟨A',_,c',rfl,ho,hb0.grown hgr hb0.size (fun k hk=>by cases hk;exact le_refl _)⟩
theorem left_l(A:Option Addr)(n c p:Nat)(l:List Nat)(w:World)(hx:Num w l A n c)(hn:n<=536870912)(hp:p<=536870912):
 Calls prog 290 #[.slice A n c,.int .i64 p] w (RetOwn w (limbs (val l*2^p))):=by
 obtain⟨q,hq⟩:∃q,p / 32=q:=⟨_,rfl⟩;obtain⟨s,hs⟩:∃s,p%32=s:=⟨_,rfl⟩;have hs32:s<32:=by omega
 have HP:Hid (p=32*q+s):=by show p=32*q+s;omega
 have hq':(p:Int) / 32=q:=by omega
 have hs':(p:Int).tmod 32=s:=by rw [Int.tmod_eq_emod_of_nonneg (by omega)];omega
 have hq2:q<=16777216:=by omega
 clear hq hs;have hmk:=Qfn (q+n+1) ((q:Int)+(n:Int)+1) (by omega) (by omega);go_enter func290,ntmps290;go_wp2_with fail
 go_loopw [23] (fun si wr=> ∃(k:Nat) (L:List Nat),k<=n/\si=.int .i64 k/\Row wr w.heap.size L/\Below w.heap.size w wr/\Hid (L.length=q+n+1/\Lim L/\val L=val (l.take k)*2^s*P q/\L.getD (q+k) 0<2^s/\∀j,q+k<j->L.getD j 0=0))
  (fun si _=>n-(intOf si).toNat)
 case atStart=>exact⟨0,List.replicate (q+n+1) 0,zero_le _,rfl,Row.new _ _,(Below.refl _ _).alloc (le_refl _) _,show Hid _ from⟨by simp,Lim.zeros _,by simp [Qcz,val],by rw [Qgd];exact pow_pos (by decide),fun j _=>Qgd _ _⟩⟩
 case round=>
  obtain⟨k,L,hk,rfl,hrow,hbel,HI⟩:=hrel;clear hmk;by_cases hkn:k<n
  ·have hxw:=hx.below hbel
   obtain⟨b,o,x,rfl,_,hx',hx4,hcx⟩:=hxw.at_ hkn;have HX:=hid hx';clear hx';obtain⟨d,hd⟩:∃d,L.getD (q+k) 0=d:=⟨_,rfl⟩;obtain⟨d2,hd2⟩:∃d,L.getD (q+k+1) 0=d:=⟨_,rfl⟩;have hcs:=hrow.cell (k:=q+k) (by have:=HI.out.1;omega);have hcs2:=hrow.cell (k:=q+k+1) (by have:=HI.out.1;omega);have hfs:=hrow.frozen (q+k);have hfs2:=hrow.frozen (q+k+1);rw [hd]at hcs;rw [hd2]at hcs2;have HD:=hid hd;clear hd hd2;obtain⟨t,ht⟩:∃t,2^s=t:=⟨_,rfl⟩;have ht0:0<t:=(by rw [<-ht];exact pow_pos (by decide));have ht1:t<=2147483648:=(by rw [<-ht,show(2147483648:Nat)=2^31 from rfl];exact Nat.pow_le_pow_right (by decide) (by omega));have hti:(2:Int)^s=(t:Int):=(by rw [<-ht];exact(Int.natCast_pow 2 s).symm);have HS:=hid ht;have HT:=hid hti;clear ht hti;have hxt:x*t<=4294967295*2147483648:=Nat.mul_le_mul (by omega) ht1;have HXT:=hid hxt;clear hxt;go_wp2_with fail
   go_roundw
   case rel=>
    have hxt:=HXT.out;have hw:IntKind.u64.wrap ((x:Int)*2^s)=((x*t:Nat):Int):=by
     rw [HT.out,<-Int.natCast_mul,IntKind.wrap_u64];omega
    have hI:=HI.out;have hd4:d<2^s:=(by rw [<-HD.out];exact hI.2.2.2.1);obtain⟨hlow,hsum,hhi⟩:=Qrg (d:=d) hx4 (by omega) HS.out (by rw [<-HS.out];exact hd4);have hor:bits .or .u32 (d:Int) ((x*t%4294967296:Nat):Int)=((x*t%4294967296+d:Nat):Int):=by
     have h1:d<4294967296:=(by have:=HS.out;omega);rw [u32_or_nat _ _ h1 (mod_lt _ (by decide)),Nat.or_comm,nat_join s _ _ (by rw [HS.out];exact hlow) hd4]
    refine⟨k+1,(L.set (q+k) (x*t%4294967296+d)).set (q+k+1) (x*t / 4294967296),by omega,congrArg (Value.int _) (by omega),(hrow.setI (q+k) (x*t%4294967296+d) ?_).setI (q+k+1) (x*t / 4294967296) ?_,(hbel.setCell (le_refl _) _).setCell (le_refl _) _,?_⟩
    ·rw [hw,<-hor];congr 1
    ·rw [hw];omega
    show Hid _;refine⟨by simpa using hI.1,(hI.2.1.set _ hsum).set _ (by omega),?_,?_,fun j hj=>?_⟩
    ·have h4:=Qgc (M:=L) (x*t%4294967296+d) (show q+k<L.length by omega)
     have h5:=Qgc (M:=L.set (q+k) (x*t%4294967296+d)) (x*t / 4294967296) (show q+k+1<_ by rw [List.length_set];omega);rw [getD_set_ne _ (by omega),hI.2.2.2.2 (q+k+1) (by omega),Nat.mul_zero,Nat.add_zero]at h5;rw [HD.out]at h4;rw [h5,Qac l k,HX.out,HS.out];have h6:val (L.set (q+k) (x*t%4294967296+d))=val L+P (q+k)*(x*t%4294967296):=(by rw [Nat.mul_add]at h4;omega);rw [h6,hI.2.2.1,HS.out,Qa2,Nat.mul_assoc (P (q+k)),Nat.add_assoc,<-Nat.mul_add,Nat.mod_add_div,Qra]
     grind
    ·rw [show q+(k+1)=q+k+1 from by omega,Qe3 _ (by rw [List.length_set];omega),HS.out];exact hhi
    ·rw [getD_set_ne _ (by omega),getD_set_ne _ (by omega)];exact hI.2.2.2.2 j (by omega)
   case measure=>simp [intOf];omega
  ·obtain rfl:k=n:=by omega
   have hlim2:Lim L:=HI.out.2.1;have HL:Hid (L.length=q+k+1):=HI.out.1;have HV:Hid (val L=val l*2^p):=by
    show val L=val l*2^p;have h:=HI.out.2.2.1;rw [List.take_of_length_le (l:=l) (by have:=hx.len;omega)]at h;rw [h,HP.out,Nat.pow_add,Nat.pow_mul,show P q=(2^32)^q from rfl]
    grind
   go_wp2_with (go_at_call 223;refine(Qat _ _ _ L _ (hrow.num hlim2 HL.out.symm (le_refl _)) (by omega)).mono ?_;rintro e w' ⟨rfl,rfl⟩)
   go_ret;exact hrow.ret (le_refl _) hlim2 hbel (by have:=HL.out;omega) HV.out
theorem Qjq(A:Option Addr)(n c p a:Nat)(w:World)(hx:Num w (limbs a) A n c)(hn:n<=536870912)(hp:p<=536870912):
 Calls prog 290 #[.slice A n c,.int .i64 p] w (RetOwn w (limbs (a*2^p))):=by
 have h:=left_l A n c p _ w hx hn hp
 rwa [Qab]at h
theorem OwnR.mid{w:World}{B g n c:Nat}{l:List Nat}(h:OwnR w B (.slice (some ⟨g,0,none⟩) n c) l):n=l.length/\B<=g/\n<=c/\c<=maxLen/\∃post,Mid w g [] l post/\l.length+post.length=c:=by
 rcases h.2 with⟨h0,_⟩|⟨g',cap,cur,hv,hB,hh,hnc,hcm,hsz,hcur⟩
 ·cases h0
 ·injection hv with h1 h2 h3
  injection h1 with h1;injection h1 with h1;subst h1 h2 h3;refine⟨rfl,hB,hnc,hcm,cur.toList.drop (l.length*1),?_,?_⟩
  ·unfold Mid
   rw [hh,List.nil_append,<-hcur,List.take_append_drop,Array.toArray_toList]
  ·have h1:cur.toList.length=c:=by rw [Array.length_toList,hsz,Nat.mul_one]
   rw [List.length_drop,h1];show l.length+(c-l.length*1)=c;omega
theorem OwnR.shape{w:World}{B:Nat}{v:Value}{l:List Nat}(h:OwnR w B v l):∃A c,v=.slice A l.length c/\(l≠[]->∃g,A=some ⟨g,0,none⟩):=by
 rcases h.2 with⟨rfl,hn⟩|⟨g,cap,cur,rfl,_⟩
 ·exact⟨none,0,by rw [hn],fun hl=>absurd (List.eq_nil_of_length_eq_zero hn) hl⟩
 ·exact⟨_,cap,rfl,fun _=>⟨g,rfl⟩⟩
theorem Mid.cell0{w:World}{g:Nat}{l:List Nat}{post:List Value}(h:Mid w g [] l post){k:Nat}(hk:k<l.length):w.cell? ⟨g,k,none⟩=some (.int .u32 ((l.getD k 0:Nat):Int)):=by
 have:=h.cell hk
 simpa using this
theorem div32(h lo y:Nat)(w:World)(hh:h<y)(hl:lo<4294967296)(hy:y<4294967296):
 Calls prog 266 #[.int .u32 h,.int .u32 lo,.int .u32 y] w fun e w'=>e=.returned (.tuple #[.int .u32 (((h*4294967296+lo) / y:Nat):Int),.int .u32 (((h*4294967296+lo)%y:Nat):Int)])/\∃q,w'=w.drewN q:=by
 have hne:((y:Int) !=0)=true:=by simp;omega
 have hle:decide ((y:Int)<=h)=false:=by simp;omega
 have hle':decide (y<=h)=false:=by simp;omega
 have hy0:¬(y:Int)=0:=by omega
 have hy0':((y:Int)==0)=false:=by simp;omega
 have hdiv:(h*4294967296+lo) / y<4294967296:=by
  rw [Nat.div_lt_iff_lt_mul (by omega)];have:h*4294967296+4294967296<=y*4294967296:=by omega
  omega
 have hmod:(h*4294967296+lo)%y<y:=mod_lt _ (by omega);have hor:bits .or .u64 ((h:Int)*4294967296) (lo:Int)=((h*4294967296+lo:Nat):Int):=by
  rw [show(h:Int)*4294967296=((h*4294967296:Nat):Int)from by omega,u64_or_nat _ _ (by omega) (by omega),nat_join 32 (h*4294967296) lo (by omega) (by omega)]
 go_enter func266,ntmps266;go_wp2_with fail
 go_quiet (fail)
 go_wp2_with fail
 go_ret2
 have e1:(h:Int)*4294967296+lo=((h*4294967296+lo:Nat):Int):=by omega
 refine⟨Qjp ?_ ?_,nq,rfl⟩
 ·rw [e1,<-Int.natCast_ediv];exact Int.emod_eq_of_lt (Int.natCast_nonneg _) (Int.ofNat_lt.2 hdiv)
 ·rw [e1,<-Int.natCast_emod];exact Int.emod_eq_of_lt (Int.natCast_nonneg _) (Int.ofNat_lt.2 (Nat.lt_trans hmod hy))
def RetMid(w0:World)(v:Value)(b:Nat)(pre post:List Value)(n:Nat)(Ok:List Nat->Prop)(e:Ending)(w':World):Prop:=
 e=.returned v/\∃L,Mid w' b pre L post/\w0.grownBy w' (some b)/\L.length=n/\Lim L/\Ok L
theorem Qbb{a w:World}{g:Nat}(h:a.grownBy w (some g)){p:Addr}(hp:p.block=g)(u:Value):a.grownBy (w.setCell p u) (some g):=
 ⟨h.os,h.tape,h.output,by simpa [World.setCell] using h.size,fun i hi hne=>(Below.heap_setCell w p u i (by rintro rfl;exact hne (by rw [hp]))).trans (h.block i hi hne)⟩
theorem Qm9{a w:World}{row:Option Nat}(h:a.grownBy w row)(n:Nat):a.grownBy (w.drewN n) row:=⟨h.os,h.tape,h.output,h.size,h.block⟩
theorem Qim(b o n c d:Nat)(pre post:List Value)(l:List Nat)(w:World)(hm:Mid w b pre l post)(hl:Lim l)(ho:pre.length=o)(hlen:n=l.length)(hnc:n<=c)(hd0:0<d)(hd:d<4294967296)(hn:n<=1073741824):
 Calls prog 224 #[.slice (some ⟨b,o,none⟩) n c,.int .u32 d] w (RetMid w (.int .u32 ((val l%d:Nat):Int)) b pre post n fun L=>val L=val l / d):=by
 have HO:=hid ho;have HLEN:=hid hlen;have HLIM:=hid hl;clear ho hlen hl;go_enter func224,ntmps224;go_wp2_with fail
 go_loopw [5,6] (fun sr si wr=> ∃(k r:Nat) (L:List Nat),k<=n/\r<d/\sr=.int .u32 r/\si=.int .i64 ((k:Int) - 1)/\Mid wr b pre L post/\w.grownBy wr (some b)/\Hid (L.length=n/\Lim L/\(∀i,i<k->L.getD i 0=l.getD i 0)/\val (L.drop k)*d+r=val (l.drop k)))
  (fun _ si _=>(intOf si+1).toNat)
 case atStart=>exact⟨n,0,l,le_refl _,hd0,rfl,rfl,hm,World.grownBy.refl _ _,show Hid _ from⟨HLEN.out.symm,HLIM.out,fun _ _=>rfl,by rw [List.drop_of_length_le (by have:=HLEN.out;omega)];simp [val]⟩⟩
 case round=>
  obtain⟨k,r,L,hk,hr,rfl,rfl,hrow,hgr,HI⟩:=hrel;clear hm;rcases eq_zero_or_pos k with h0|h0
  ·subst h0
   have HV:Hid (val l%d=r/\val L=val l / d):=by
    have h:=HI.out.2.2.2;rw [List.drop_zero,List.drop_zero]at h;show _/\_;rw [<-h,Nat.mul_comm,Nat.mul_add_mod,mod_eq_of_lt hr,Nat.mul_add_div hd0,Nat.div_eq_of_lt hr,Nat.add_zero];exact⟨rfl,rfl⟩
   go_wp2_with fail
   go_ret;exact⟨Qa7 (by rw [HV.out.1]),L,hrow,hgr,HI.out.1,HI.out.2.1,HV.out.2⟩
  ·obtain⟨j,rfl⟩:∃j,k=j+1:=⟨k-1,by omega⟩
   obtain⟨x,hx'⟩:∃x,L.getD j 0=x:=⟨_,rfl⟩;have hx4:x<4294967296:=(by rw [<-hx'];exact HI.out.2.1.getD _);have hcs:=hrow.cell (k:=j) (by have:=HI.out.1;omega);have hfs:=hrow.frozen (o+j);rw [hx',HO.out]at hcs;have HX:=hid hx';clear hx';have hjn:(j:Int)<(n:Int):=(by omega);have e1:((j+1:Nat):Int) - 1=(j:Int):=(by omega);rw [e1];clear e1;go_wp2_with (go_at_call 266;refine(div32 r x d _ hr hx4 hd).mono ?_;rintro e w' ⟨rfl,q,rfl⟩)
   go_roundw
   case rel=>
    have hI:=HI.out;have hlx:l.getD j 0=x:=(by rw [<-hI.2.2.1 j (by omega)];exact HX.out);have h:=Qu3 (j:=j) (q:=(r*4294967296+x) / d) (r':=(r*4294967296+x)%d) (x:=x) (N:=n) (d:=d) (by omega) HLEN.out.symm ⟨hI.1,hI.2.1,fun i hi=>hI.2.2.1 i (by omega),hI.2.2.2⟩ hlx
     (by rw [Nat.div_lt_iff_lt_mul hd0];have:r*4294967296+4294967296<=d*4294967296:=by omega
         rw [Nat.mul_comm 4294967296 d];omega) (by rw [Nat.mul_comm,Nat.div_add_mod])
    refine⟨j,(r*4294967296+x)%d,L.set j ((r*4294967296+x) / d),by omega,mod_lt _ hd0,rfl,rfl,(hrow.drewN q).set' (by omega) _ rfl HO.out,Qbb (Qm9 hgr q) rfl _,h⟩
   case measure=>simp [intOf]
theorem Qgq(b o n c d rm:Nat)(pre post:List Value)(l:List Nat)(w:World)(hm:Mid w b pre l post)(hl:Lim l)(ho:pre.length=o)(hlen:n=l.length)(hnc:n<=c)(hd0:0<d)(hd:d<4294967296)(hn:n<=1073741824)(H:Hid (val l%d=rm)):
 Calls prog 224 #[.slice (some ⟨b,o,none⟩) n c,.int .u32 d] w (RetMid w (.int .u32 (rm:Int)) b pre post n fun L=>val L=val l / d):=by
 have h:=Qim b o n c d pre post l w hm hl ho hlen hnc hd0 hd hn
 rwa [H.out]at h
theorem Qgf(b o n c m c' t:Nat)(A':Option Addr)(pre post:List Value)(l r:List Nat)(w:World)(hm:Mid w b pre l post)(hl:Lim l)(ho:pre.length=o)(hlen:n=l.length)(hnc:n<=c)
 (hy:Num w r A' m c')(hoff:Off A' b)(hmn:n=m+1)(ht:t<4294967296)(hn:n<=1073741824):
 Calls prog 351 #[.slice (some ⟨b,o,none⟩) n c,.slice A' m c',.int .u64 t] w
  (RetMid w (.bool (decide (val l<t*val r))) b pre post n fun L=>val L+t*val r=val l+P n*(ltn (val l) (t*val r))):=by
 have HO:=hid ho;have HLEN:=hid hlen;have HLIM:=hid hl;have HOFF:=hid hoff;obtain⟨V,hV⟩:∃V,decide (val l<t*val r)=V:=⟨_,rfl⟩;rw [hV];have HV:=hid hV;clear ho hlen hl hoff hV;subst hmn;go_enter func351,ntmps351;go_wp2_with fail
 go_loopw [7,8,13] (fun sc sb si wr=> ∃(k cr br:Nat) (L:List Nat),k<=m/\cr<4294967296/\br<=1/\sc=.int .u64 cr/\sb=.int .u32 br/\si=.int .i64 k/\Mid wr b pre L post/\w.grownBy wr (some b)/\
  Hid (L.length=m+1/\Lim L/\(∀i,k<=i->L.getD i 0=l.getD i 0)/\val (L.take k)+t*val (r.take k)=val (l.take k)+P k*(cr+br)))
  (fun _ _ si _=>m-(intOf si).toNat)
 case atStart=>exact⟨0,0,0,l,zero_le _,by omega,by omega,rfl,rfl,rfl,hm,World.grownBy.refl _ _,show Hid _ from⟨HLEN.out.symm,HLIM.out,fun _ _=>rfl,by simp [val]⟩⟩
 case round=>
  obtain⟨k,cr,br,L,hk,hcr,hbr,rfl,rfl,rfl,hrow,hgr,HI⟩:=hrel;clear hm;by_cases hkm:k<m
  ·have hyw:=hy.grown hgr HOFF.out
   obtain⟨b',o',y,rfl,_,hy',hy4,hcy⟩:=hyw.at_ hkm;have HY:=hid hy';clear hy';obtain⟨x,hx'⟩:∃x,L.getD k 0=x:=⟨_,rfl⟩;have hx4:x<4294967296:=(by rw [<-hx'];exact HI.out.2.1.getD _);have hcs:=hrow.cell (k:=k) (by have:=HI.out.1;omega);have hfs:=hrow.frozen (o+k);rw [hx',HO.out]at hcs;have HX:=hid hx';clear hx';have hmul0:0<=(y:Int)*(t:Int):=Int.mul_nonneg (by omega) (by omega);have hmulN:y*t<=18446744065119617025:=Nat.mul_le_mul (show y<=4294967295 by omega) (show t<=4294967295 by omega);have hmul1:(y:Int)*(t:Int)<=18446744065119617025:=by
    rw [<-Int.natCast_mul];omega
   have hmc:((y*t:Nat):Int)=(y:Int)*(t:Int):=Int.natCast_mul ..;have HM:=hid hmc;clear hmc;have HMN:=hid hmulN;clear hmulN;have HLO:Hid (((cr:Int)+(y:Int)*(t:Int))%4294967296=(((cr+y*t)%4294967296:Nat):Int)):=by
    show _=_;rw [<-HM.out];omega
   have HHI:Hid (((cr:Int)+(y:Int)*(t:Int)) / 4294967296=(((cr+y*t) / 4294967296:Nat):Int)):=by
    show _=_;rw [<-HM.out];omega
   go_wp2_with (go_at_call 327;refine(sub32' x _ ((cr+y*t)%4294967296) br _ HLO hx4 (mod_lt _ (by decide)) hbr).mono ?_;rintro e w' ⟨rfl,rfl⟩)
   go_roundw
   case rel=>
    have hI:=HI.out;have h:=Qk3 (k:=k) (d:=dif x ((cr+y*t)%4294967296) br) (br':=bor x ((cr+y*t)%4294967296) br) (by omega) HLEN.out.symm hI (by rw [<-hI.2.2.1 k (le_refl _)];exact HX.out) HY.out (Qhm _ _ _) rfl (Qge _ _ _ hx4 (mod_lt _ (by decide)) hbr);exact⟨k+1,(cr+y*t) / 4294967296,bor x ((cr+y*t)%4294967296) br,L.set k (dif x ((cr+y*t)%4294967296) br),by omega,by have:=HMN.out;omega,Qi0 _ _ _,congrArg (Value.int _) HHI.out,rfl,by go_num,hrow.set' (by omega) _ rfl HO.out,Qbb hgr rfl _,h⟩
   case measure=>simp [intOf];omega
  ·obtain rfl:k=m:=by omega
   obtain⟨x,hx'⟩:∃x,L.getD k 0=x:=⟨_,rfl⟩;have hx4:x<4294967296:=(by rw [<-hx'];exact HI.out.2.1.getD _);have hcs:=hrow.cell (k:=k) (by have:=HI.out.1;omega);have hfs:=hrow.frozen (o+k);rw [hx',HO.out]at hcs;have HX:=hid hx';clear hx';have hI:=HI.out;have h:=Qk3 (k:=k) (t:=t) (r:=r) (y:=0) (s:=cr) (d:=dif x cr br) (br':=bor x cr br) (by omega) HLEN.out.symm hI (x:=x) (by rw [<-hI.2.2.1 k (le_refl _)];exact HX.out)
    (by rw [List.getD_eq_getElem?_getD,List.getElem?_eq_none (by have:=hy.len;omega)];rfl) (Qhm _ _ _) (by simp) (by rw [mod_eq_of_lt hcr];exact Qge _ _ _ hx4 hcr hbr)
   have hfin:(L.set k (dif x cr br)).length=k+1/\Lim (L.set k (dif x cr br))/\val (L.set k (dif x cr br))+t*val r=val l+P (k+1)*bor x cr br:=by
    refine⟨h.1,h.2.1,?_⟩;have h2:=h.2.2.2;rw [List.take_of_length_le (l:=L.set k (dif x cr br)) (by omega),List.take_of_length_le (l:=r) (by have:=hy.len;omega),List.take_of_length_le (l:=l) (by have:=HLEN.out;omega),Nat.div_eq_of_lt hcr,Nat.zero_add]at h2;exact h2
   have hb01:=Qi0 x cr br;have hlt1:val (L.set k (dif x cr br))<P (k+1):=(by have:=Qbg hfin.2.1;rwa [hfin.1]at this);have hlt2:t*val r<P (k+1):=by
    have h1:=Qbg hy.lim;rw [<-hy.len]at h1;have h2:t*val r<=4294967296*val r:=mul_le_mul_right _ (by omega);rw [Qa2];omega
   have HF:Hid (bor x cr br=ltn (val l) (t*val r)):=by
    show _=_;have h3:=hfin.2.2;rcases lt_or_ge (bor x cr br) 1 with hb|hb
    ·have hb0:bor x cr br=0:=by omega
     rw [hb0,Nat.mul_zero,Nat.add_zero]at h3;rw [hb0];unfold ltn;rw [if_neg (by omega)]
    ·have hb1:bor x cr br=1:=by omega
     rw [hb1,Nat.mul_one]at h3;rw [hb1];unfold ltn;rw [if_pos (by omega)]
   have HFIN:=hid hfin;obtain⟨be,hbe⟩:∃be,bor x cr br=be:=⟨_,rfl⟩;have HBE:=hid hbe;clear hI h hfin hb01 hlt1 hlt2 hbe;go_wp2_with (go_at_call 327;refine(sub32 x cr br _ hx4 hcr hbr).mono ?_;rintro e w' ⟨rfl,rfl⟩)
   go_ret;refine⟨Qal ?_,L.set k (dif x cr br),hrow.set' (by have:=HI.out.1;omega) _ rfl HO.out,Qbb hgr rfl _,HFIN.out.1,HFIN.out.2.1,by rw [<-HF.out];exact HFIN.out.2.2⟩;rw [<-HV.out,HF.out];unfold ltn;by_cases hlt:val l<t*val r
   ·rw [if_pos hlt,decide_eq_true hlt];rfl
   ·rw [if_neg hlt,decide_eq_false hlt];rfl
theorem Qdl(b o n c m c':Nat)(A':Option Addr)(pre post:List Value)(l r:List Nat)(w:World)(hm:Mid w b pre l post)(hl:Lim l)(ho:pre.length=o)(hlen:n=l.length)(hnc:n<=c)
 (hy:Num w r A' m c')(hoff:Off A' b)(hmn:n=m+1)(hn:n<=1073741824):
 Calls prog 352 #[.slice (some ⟨b,o,none⟩) n c,.slice A' m c'] w
  (RetMid w (.tuple #[]) b pre post n fun L=>val L=(val l+val r)%P n):=by
 have HO:=hid ho;have HLEN:=hid hlen;have HLIM:=hid hl;have HOFF:=hid hoff;clear ho hlen hl hoff;subst hmn;go_enter func352,ntmps352;go_wp2_with fail
 go_loopw [4,9] (fun sc si wr=> ∃(k cr:Nat) (L:List Nat),k<=m/\cr<=1/\sc=.int .u32 cr/\si=.int .i64 k/\Mid wr b pre L post/\w.grownBy wr (some b)/\
  Hid (L.length=m+1/\Lim L/\(∀i,k<=i->L.getD i 0=l.getD i 0)/\val (L.take k)+P k*cr=val (l.take k)+val (r.take k)))
  (fun _ si _=>m-(intOf si).toNat)
 case atStart=>exact⟨0,0,l,zero_le _,by omega,rfl,rfl,hm,World.grownBy.refl _ _,show Hid _ from⟨HLEN.out.symm,HLIM.out,fun _ _=>rfl,by simp [val]⟩⟩
 case round=>
  obtain⟨k,cr,L,hk,hcr,rfl,rfl,hrow,hgr,HI⟩:=hrel;clear hm;by_cases hkm:k<m
  ·have hyw:=hy.grown hgr HOFF.out
   obtain⟨b',o',y,rfl,_,hy',hy4,hcy⟩:=hyw.at_ hkm;have HY:=hid hy';clear hy';obtain⟨x,hx'⟩:∃x,L.getD k 0=x:=⟨_,rfl⟩;have hx4:x<4294967296:=(by rw [<-hx'];exact HI.out.2.1.getD _);have hcs:=hrow.cell (k:=k) (by have:=HI.out.1;omega);have hfs:=hrow.frozen (o+k);rw [hx',HO.out]at hcs;have HX:=hid hx';clear hx';go_wp2_with (go_at_call 371;refine(add32 x y cr _ hx4 hy4 hcr).mono ?_;rintro e w' ⟨rfl,rfl⟩)
   go_roundw
   case rel=>
    have hI:=HI.out;have h:=Qre (k:=k) (d:=(x+y+cr)%4294967296) (c':=(x+y+cr) / 4294967296) (by omega) hI (x:=x) (by rw [<-hI.2.2.1 k (le_refl _)];exact HX.out) HY.out (mod_lt _ (by decide)) (Nat.mod_add_div ..);exact⟨k+1,(x+y+cr) / 4294967296,L.set k ((x+y+cr)%4294967296),by omega,by omega,rfl,by go_num,hrow.set' (by omega) _ rfl HO.out,Qbb hgr rfl _,h⟩
   case measure=>simp [intOf];omega
  ·obtain rfl:k=m:=by omega
   obtain⟨x,hx'⟩:∃x,L.getD k 0=x:=⟨_,rfl⟩;have hx4:x<4294967296:=(by rw [<-hx'];exact HI.out.2.1.getD _);have hcs:=hrow.cell (k:=k) (by have:=HI.out.1;omega);have hfs:=hrow.frozen (o+k);rw [hx',HO.out]at hcs;have HX:=hid hx';clear hx';have HF:Hid (val (L.set k ((x+cr)%4294967296))=(val l+val r)%P (k+1)):=by
    show _=_;have hI:=HI.out;have h1:=hI.2.2.2;have h2:val l=val (l.take k)+P k*x:=by
     have h3:=Qac l k;rw [List.take_of_length_le (l:=l) (i:=k+1) (by have:=HLEN.out;omega),<-hI.2.2.1 k (le_refl _),HX.out]at h3;exact h3
    have h4:=Qba ((x+cr)%4294967296) (show k<L.length by omega);rw [List.take_of_length_le (l:=L.set k ((x+cr)%4294967296)) (by rw [List.length_set];omega)]at h4;rw [List.take_of_length_le (l:=r) (by have:=hy.len;omega)]at h1;have h5:val l+val r=val (L.take k)+P k*(x+cr):=(by rw [Nat.mul_add];omega);have h6:val (L.take k)<P k:=by
     have:=Qbg (hI.2.1.take k);rwa [List.length_take,Nat.min_eq_left (by omega)]at this
    rw [h4,h5,Qa2,Nat.mod_mul,Nat.add_mul_mod_self_left,mod_eq_of_lt h6,Nat.add_mul_div_left _ _ (Qhg k),Nat.div_eq_of_lt h6,Nat.zero_add]
   go_wp2_with fail
   go_end0
   refine⟨rfl,L.set k ((x+cr)%4294967296),hrow.set' (by have:=HI.out.1;omega) _ (by omega) HO.out,Qbb hgr rfl _,by rw [List.length_set];exact HI.out.1,HI.out.2.1.set _ (mod_lt _ (by decide)),HF.out⟩
theorem Qa3(b o n c m c' t:Nat)(A':Option Addr)(pre post:List Value)(l r:List Nat)(w:World)(V:Bool)(hm:Mid w b pre l post)(hl:Lim l)(ho:pre.length=o)(hlen:n=l.length)(hnc:n<=c)
 (hy:Num w r A' m c')(hoff:Off A' b)(hmn:n=m+1)(ht:t<4294967296)(hn:n<=1073741824)(hV:Hid (decide (val l<t*val r)=V)):
 Calls prog 351 #[.slice (some ⟨b,o,none⟩) n c,.slice A' m c',.int .u64 t] w
  (RetMid w (.bool V) b pre post n fun L=>val L+t*val r=val l+P n*ltn (val l) (t*val r)):=by
 have h:=Qgf b o n c m c' t A' pre post l r w hm hl ho hlen hnc hy hoff hmn ht hn
 rwa [hV.out]at h
theorem Qcq{a b c:World}{row:Option Nat}(h:a.grownBy b row)(k:b.grownBy c row):a.grownBy c row:=
 ⟨k.os.trans h.os,k.tape.trans h.tape,k.output.trans h.output,le_trans h.size k.size,fun i hi hne=>(k.block i (lt_of_lt_of_le hi h.size) hne).trans (h.block i hi hne)⟩
theorem Qbx{w w':World}{row:Option Nat}{n:Nat}(h:(w.drewN n).grownBy w' row):w.grownBy w' row:=⟨h.os,h.tape,h.output,h.size,h.block⟩
section
variable {X Y al ar R x0 x1 x2 y0 y1 top g rest:Nat}
theorem Qej(hX:X=al+R*(x0+4294967296*(x1+4294967296*x2)))(hY:Y=ar+R*(y0+4294967296*y1))(har:ar<R)(hT:x2*4294967296+x1=top)
 (hg:g*y1+rest=top)(hgb:g<=4294967295)(hy1:2147483648<=y1)(hy0:y0<4294967296)(hex:4294967296<=rest\/g*y0<=rest*4294967296+x0)(hY0:0<Y):g<=X / Y+1:=by
 have h0:g*y0<=rest*4294967296+x0:=by
  rcases hex with h|h
  ·have h1:g*y0<=4294967295*4294967295:=Nat.mul_le_mul hgb (by omega)
   omega
  ·exact h
 apply Qu4 (X:=X) (Y:=Y) (U:=x0+4294967296*top) (V:=y0+4294967296*y1) (R:=R)
 ·rw [<-hg,Nat.mul_add,Nat.mul_left_comm];omega
 ·rw [hX,<-hT,Nat.mul_comm,show x1+4294967296*x2=x2*4294967296+x1 from by omega];omega
 ·rw [Nat.add_mul,Nat.one_mul,Nat.mul_comm]
  have:=Nat.div_add_mod X Y;have:=mod_lt X hY0;omega
 ·rw [hY,Nat.mul_comm R,Nat.add_mul _ 1 R,Nat.one_mul];omega
 ·omega
theorem Qna(hX:X=al+R*(x0+4294967296*(x1+4294967296*x2)))(hal:al<R)(hx0:x0<4294967296)(hY:Y=ar+R*(y0+4294967296*y1))(hT:x2*4294967296+x1=top):X / Y*y1<=top:=by
 apply Qof (X:=X) (Y:=Y) (R:=R*4294967296)
 ·have:=Nat.div_add_mod X Y;rw [Nat.mul_comm];omega
 ·rw [hY,Nat.mul_add,Nat.mul_comm y1,Nat.mul_assoc];omega
 ·have h1:R*(x0+1)<=R*4294967296:=Nat.mul_le_mul_left _ (by omega)
  rw [hX,Nat.mul_add,<-Nat.mul_assoc R,show x1+4294967296*x2=top from by omega,Nat.add_mul,Nat.one_mul,Nat.mul_comm top];rw [Nat.mul_add]at h1;omega
theorem Qhn(hX:X=al+R*(x0+4294967296*(x1+4294967296*x2)))(hal:al<R)(hY:Y=ar+R*(y0+4294967296*y1))(hT:x2*4294967296+x1=top)
 (hq:X / Y<=g)(hg:g*y1+rest=top)(hgt:rest*4294967296+x0<g*y0):X / Y+1<=g:=by
 rcases lt_or_ge (X / Y) g with h|h
 ·exact h
 ·exfalso
  have hgq:X / Y=g:=by omega
  have h1:X / Y*(y0+4294967296*y1)<=x0+4294967296*top:=by
   apply Qof (X:=X) (Y:=Y) (R:=R)
   ·have:=Nat.div_add_mod X Y;rw [Nat.mul_comm];omega
   ·rw [hY,Nat.mul_comm];omega
   ·rw [hX,show x1+4294967296*x2=top from by omega,Nat.add_mul,Nat.one_mul,Nat.mul_comm R];omega
  rw [hgq,<-hg,Nat.mul_add,Nat.mul_left_comm]at h1;omega
theorem Qfq{a b n q:Nat}(hq:X / Y<=g)(hg:g<=X / Y+1)(hY:0<Y)(hlt:X<g*Y)(hL:a+g*Y=X+P n*ltn X (g*Y))(hYn:Y<P n)(hb:b=(a+Y)%P n)(hqg:g=q+1):q=X / Y/\b=X%Y:=by
 have h1:=Nat.div_add_mod X Y;have h2:=mod_lt X hY;have h3:g≠X / Y:=fun h=>by rw [h,Nat.mul_comm]at hlt;omega
 have h4:g=X / Y+1:=by omega
 have h5:q=X / Y:=by omega
 refine⟨h5,?_⟩;unfold ltn at hL;rw [if_pos hlt,Nat.mul_one,h4,Nat.add_mul,Nat.one_mul,Nat.mul_comm]at hL;have h6:a+Y=X%Y+P n:=by omega
 rw [hb,h6,Nat.add_mod_right,mod_eq_of_lt (by omega)]
theorem Qfr{a n:Nat}(hq:X / Y<=g)(hY:0<Y)(hlt:¬X<g*Y)(hL:a+g*Y=X+P n*ltn X (g*Y)):g=X / Y/\a=X%Y:=by
 have h1:=Nat.div_add_mod X Y;have h3:g<=X / Y:=(Nat.le_div_iff_mul_le hY).2 (by omega);have h4:g=X / Y:=by omega
 refine⟨h4,?_⟩;unfold ltn at hL;rw [if_neg hlt,Nat.mul_zero,Nat.add_zero,h4,Nat.mul_comm]at hL;omega
end
def Guess(q top y1 g rest:Nat):Prop:=q<=g/\g*y1+rest=top
theorem Qrl(b o c j b' o' c':Nat)(pre post:List Value)(l r:List Nat)(w:World)(hm:Mid w b pre l post)(hl:Lim l)(ho:pre.length=o)(hlen:l.length=j+3)(hnc:j+3<=c)
 (hy:Num w r (some ⟨b',o',none⟩) (j+2) c')(hoff:b'≠b)(htop:2147483648<=r.getD (j+1) 0)(hX:val l<val r*4294967296)(hn:j<=536870912):
 Calls prog 329 #[.slice (some ⟨b,o,none⟩) (j+3) c,.slice (some ⟨b',o',none⟩) (j+2) c'] w
  (RetMid w (.int .u32 ((val l / val r:Nat):Int)) b pre post (j+3) fun L=>val L=val l%val r):=by
 have HO:=hid ho;have HLEN:=hid hlen;have HLIM:=hid hl;have HX:=hid hX;have hcs0:=hm.cell (k:=j) (by omega);have hcs1:=hm.cell (k:=j+1) (by omega);have hcs2:=hm.cell (k:=j+2) (by omega);have hy0:=hy.at' (k:=j) (by omega);have hy1:=hy.at' (k:=j+1) (by omega);have hl0:=hl.getD j;have hl1:=hl.getD (j+1);have hl2:=hl.getD (j+2);have hr0:=hy.lim.getD j;have hr1:=hy.lim.getD (j+1);obtain⟨al,hal,hvl⟩:=Qrf hl hlen;obtain⟨ar,har,hvr⟩:=Qxs hy.lim hy.len.symm;obtain⟨x0,e0⟩:∃x,l.getD j 0=x:=⟨_,rfl⟩;obtain⟨x1,e1⟩:∃x,l.getD (j+1) 0=x:=⟨_,rfl⟩;obtain⟨x2,e2⟩:∃x,l.getD (j+2) 0=x:=⟨_,rfl⟩;obtain⟨y0,f0⟩:∃x,r.getD j 0=x:=⟨_,rfl⟩;obtain⟨y1,f1⟩:∃x,r.getD (j+1) 0=x:=⟨_,rfl⟩;rw [ho,e0]at hcs0;rw [ho,e1]at hcs1;rw [ho,e2]at hcs2;rw [f0]at hy0;rw [f1]at hy1 htop;rw [e0]at hl0 hvl;rw [e1]at hl1 hvl;rw [e2]at hl2 hvl;rw [f0]at hr0 hvr;rw [f1]at hr1 hvr;obtain⟨top,ht⟩:∃top,x2*4294967296+x1=top:=⟨_,rfl⟩;have hVL:=hid hvl;have hVR:=hid hvr;have hAL:=hid hal;have hAR:=hid har;clear hvl hvr hal har e0 e1 e2 f0 f1 ho hlen hl hX;have hor1:bits .or .u64 ((x2:Int)*4294967296) (x1:Int)=(top:Int):=by
  rw [show(x2:Int)*4294967296=((x2*4294967296:Nat):Int)from by omega,u64_or_nat _ _ (by omega) (by omega),nat_join 32 (x2*4294967296) x1 (by omega) (by omega),ht]
 have hy10:¬(y1:Int)=0:=by omega
 have hy10':((y1:Int)==0)=false:=by simp;omega
 have HT:=hid ht;clear ht;obtain⟨t1,ht1⟩:∃t1,top / y1=t1:=⟨_,rfl⟩;have htop64:top<4294967296*4294967296:=by have:=HT.out;omega
 have ht1y:t1*y1<=top:=by rw [<-ht1];exact Nat.div_mul_le_self _ _
 have ht1b:t1<8589934592:=by
  rw [<-ht1,Nat.div_lt_iff_lt_mul (by omega)];have:=Nat.mul_le_mul_left 8589934592 htop;omega
 have hE1:(top:Int) / y1=(t1:Int):=by rw [<-ht1];exact(Int.natCast_ediv _ _).symm
 obtain⟨g0,hg0⟩:∃g0,(if t1<=4294967295 then t1 else 4294967295)=g0:=⟨_,rfl⟩;have hg0t:g0<=t1:=by rw [<-hg0];split<;>omega
 have hg0b:g0<=4294967295:=by rw [<-hg0];split<;>omega
 have hg0y:g0*y1<=top:=le_trans (mul_le_mul_right _ hg0t) ht1y;obtain⟨ρ0,hρ0⟩:∃ρ0,top-g0*y1=ρ0:=⟨_,rfl⟩;have hmulc:(g0:Int)*y1=((g0*y1:Nat):Int):=(Int.natCast_mul ..).symm;have hE2:IntKind.u64.wrap ((g0:Int)*y1)=((g0*y1:Nat):Int):=by rw [hmulc,IntKind.wrap_u64];omega
 have hE3:IntKind.u64.wrap ((top:Int) - ((g0*y1:Nat):Int))=(ρ0:Int):=by rw [IntKind.wrap_u64];omega
 obtain⟨p,hp⟩:∃p,g0*y1=p:=⟨_,rfl⟩;rw [hp]at hE2 hE3;have HR0:Hid (g0*y1+ρ0=top):=by show _=_;omega
 have HG0:Hid ((if t1<=4294967295 then t1 else 4294967295)=g0):=hg0;have HE1:=hid ht1;have HTB:=hid htop64;clear ht1 htop64 ht1y hg0 hg0y hρ0 hmulc hp;go_enter func329,ntmps329;go_wp2_with fail
 go_quiet (fail)
 have hYpos:0<val r:=by
  have h1:=hVR.out;have h2:P j*1<=P j*(y0+4294967296*y1):=Nat.mul_le_mul_left _ (by omega);have h3:=Qhg j;omega
 have hqb:val l / val r<=4294967295:=by
  have h1:=(Nat.div_lt_iff_lt_mul hYpos).2 (by rw [Nat.mul_comm];exact HX.out);omega
 have hq1:val l / val r<=t1:=by
  rw [<-HE1.out,Nat.le_div_iff_mul_le (by omega)];exact Qna hVL.out hAL.out hl0 hVR.out HT.out
 have hqg:val l / val r<=g0:=by rw [<-HG0.out];split<;>omega
 have HQ:=hid hqg;have HY0:=hid hYpos;have hρ:ρ0<4294967296*4294967296:=by have:=HR0.out;have:=HTB.out;omega
 have HRB:=hid hρ;clear hqg hYpos hqb hq1 hρ;have hoffA:Off (some ⟨b',o',none⟩) b:=fun a ha=>by cases ha;exact hoff
 have HOFF:=hid hoffA;clear hoffA hoff;by_cases hb:t1<=4294967295
 ·obtain rfl:t1=g0:=by rw [<-HG0.out,if_pos hb]
  clear HG0 hg0t;go_wp2_with fail
  go_loopw [7,8] (fun sg sr wr=> ∃(g ρ q:Nat),g<=4294967295/\sg=.int .u64 g/\sr=.int .u64 ρ/\wr=w.drewN q/\Hid (ρ<4294967296*4294967296/\Guess (val l / val r) top y1 g ρ)) (fun sg _ _=>(intOf sg).toNat)
  case atStart=>exact⟨t1,ρ0,nq,hb,rfl,rfl,rfl,show Hid _ from⟨HRB.out,HQ.out,HR0.out⟩⟩
  case round=>
   clear hE1 hE2 hE3 hor1;obtain⟨g,ρ,q,hg,rfl,rfl,rfl,HI⟩:=hrel;by_cases hρB:ρ<4294967296
   ·have hmulN:g*y0<=4294967295*4294967295:=Nat.mul_le_mul (show g<=4294967295 by omega) (show y0<=4294967295 by omega)
    obtain⟨v,hv⟩:∃v,g*y0=v:=⟨_,rfl⟩;have hwm:IntKind.u64.wrap ((g:Int)*(y0:Int))=(v:Int):=(by rw [<-Int.natCast_mul,hv,IntKind.wrap_u64];omega);have hd0:decide ((ρ:Int)<4294967296)=true:=(by simp;omega);obtain⟨u,hu⟩:∃u,ρ*4294967296+x0=u:=⟨_,rfl⟩;have hor2:bits .or .u64 ((ρ:Int)*4294967296) (x0:Int)=(u:Int):=by
     rw [show(ρ:Int)*4294967296=((ρ*4294967296:Nat):Int)from by omega,u64_or_nat _ _ (by omega) (by omega),nat_join 32 (ρ*4294967296) x0 (by omega) (by omega),hu]
    by_cases hgt:ρ*4294967296+x0<g*y0
    ·have hgt':(u:Int)<(v:Int):=by omega
     have hg1:1<=g:=by
      rcases eq_zero_or_pos g with h|h
      ·subst h;rw [Nat.zero_mul]at hgt;omega
      ·exact h
     have HGT:=hid hgt;clear hmulN hgt hu hv;go_wp2_with fail
     go_quiet (fail)
     go_wp2_with fail
     go_roundw
     case rel=>
      have hI:=HI.out;have h1:=Qhn hVL.out hAL.out hVR.out HT.out hI.2.1 hI.2.2 HGT.out;refine⟨g-1,ρ+y1,_,by omega,congrArg (Value.int _) (by omega),congrArg (Value.int _) (by omega),rfl,show Hid _ from⟨by omega,by omega,?_⟩⟩;have h2:=hI.2.2;obtain⟨k,rfl⟩:∃k,g=k+1:=⟨g-1,by omega⟩;rw [Nat.add_mul,Nat.one_mul]at h2;rw [Nat.add_sub_cancel];omega
     case measure=>simp [intOf];omega
    ·have hd:decide ((u:Int)<(v:Int))=false:=by simp;omega
     have hd':decide (u<v)=false:=(by simp;omega);have HGT:=hid hgt;clear hmulN hgt hu hv;have HEX:Hid (val l / val r<=g/\g<=val l / val r+1):=⟨HI.out.2.1,Qej hVL.out hVR.out hAR.out HT.out HI.out.2.2 hg htop hr0 (by right;have:=HGT.out;omega) HY0.out⟩;by_cases hneg:val l<g*val r
     ·have HV:Hid (decide (val l<g*val r)=true):=decide_eq_true hneg
      have hg1:1<=g:=by
       rcases eq_zero_or_pos g with h|h
       ·subst h;rw [Nat.zero_mul]at hneg;omega
       ·exact h
      have HNEG:=hid hneg;clear hneg;go_wp2_with fail
      go_quiet (fail)
      go_wp2_with (go_at_call 351;refine(Qa3 b o (j+3) c (j+2) c' g _ pre post l r _ true (hm.drewN _) HLIM.out HO.out HLEN.out.symm hnc (hy.drewN _) HOFF.out rfl (by omega) (by omega) HV).mono ?_;rintro e w2 ⟨rfl,L1,hm2,hgr2,hlen2,hlim2,hval2⟩)
      go_wp2_with (go_at_call 352;refine(Qdl b o (j+3) c (j+2) c' _ pre post L1 r _ hm2 hlim2 HO.out hlen2.symm hnc ((hy.drewN _).grown hgr2 HOFF.out) HOFF.out rfl (by omega)).mono ?_;rintro e w3 ⟨rfl,L2,hm3,hgr3,hlen3,hlim3,hval3⟩)
      go_ret;have hYn:val r<P (j+3):=lt_of_lt_of_le (Qbg hy.lim) (Qjl (by have:=hy.len;omega));obtain⟨r1,r2⟩:=Qfq (q:=g-1) HEX.out.1 HEX.out.2 HY0.out HNEG.out hval2 hYn hval3 (by omega);exact⟨Qa7 (by rw [<-r1];omega),L2,hm3,Qcq (Qbx hgr2) hgr3,hlen3,hlim3,r2⟩
     ·have HV:Hid (decide (val l<g*val r)=false):=decide_eq_false hneg
      have HNEG:=hid hneg;clear hneg;go_wp2_with fail
      go_quiet (fail)
      go_wp2_with (go_at_call 351;refine(Qa3 b o (j+3) c (j+2) c' g _ pre post l r _ false (hm.drewN _) HLIM.out HO.out HLEN.out.symm hnc (hy.drewN _) HOFF.out rfl (by omega) (by omega) HV).mono ?_;rintro e w2 ⟨rfl,L1,hm2,hgr2,hlen2,hlim2,hval2⟩)
      go_ret;obtain⟨r1,r2⟩:=Qfr HEX.out.1 HY0.out HNEG.out hval2;exact⟨Qa7 (by rw [<-r1]),L1,hm2,Qbx hgr2,hlen2,hlim2,r2⟩
   ·have hd:decide ((ρ:Int)<4294967296)=false:=by simp;omega
    have HRH:=hid hρB;have HEX:Hid (val l / val r<=g/\g<=val l / val r+1):=⟨HI.out.2.1,Qej hVL.out hVR.out hAR.out HT.out HI.out.2.2 hg htop hr0 (by left;have:=HRH.out;omega) HY0.out⟩;by_cases hneg:val l<g*val r
    ·have HV:Hid (decide (val l<g*val r)=true):=decide_eq_true hneg
     have hg1:1<=g:=by
      rcases eq_zero_or_pos g with h|h
      ·subst h;rw [Nat.zero_mul]at hneg;omega
      ·exact h
     have HNEG:=hid hneg;clear hneg;go_wp2_with fail
     go_quiet (fail)
     go_wp2_with (go_at_call 351;refine(Qa3 b o (j+3) c (j+2) c' g _ pre post l r _ true (hm.drewN _) HLIM.out HO.out HLEN.out.symm hnc (hy.drewN _) HOFF.out rfl (by omega) (by omega) HV).mono ?_;rintro e w2 ⟨rfl,L1,hm2,hgr2,hlen2,hlim2,hval2⟩)
     go_wp2_with (go_at_call 352;refine(Qdl b o (j+3) c (j+2) c' _ pre post L1 r _ hm2 hlim2 HO.out hlen2.symm hnc ((hy.drewN _).grown hgr2 HOFF.out) HOFF.out rfl (by omega)).mono ?_;rintro e w3 ⟨rfl,L2,hm3,hgr3,hlen3,hlim3,hval3⟩)
     go_ret;have hYn:val r<P (j+3):=lt_of_lt_of_le (Qbg hy.lim) (Qjl (by have:=hy.len;omega));obtain⟨r1,r2⟩:=Qfq (q:=g-1) HEX.out.1 HEX.out.2 HY0.out HNEG.out hval2 hYn hval3 (by omega);exact⟨Qa7 (by rw [<-r1];omega),L2,hm3,Qcq (Qbx hgr2) hgr3,hlen3,hlim3,r2⟩
    ·have HV:Hid (decide (val l<g*val r)=false):=decide_eq_false hneg
     have HNEG:=hid hneg;clear hneg;go_wp2_with fail
     go_quiet (fail)
     go_wp2_with (go_at_call 351;refine(Qa3 b o (j+3) c (j+2) c' g _ pre post l r _ false (hm.drewN _) HLIM.out HO.out HLEN.out.symm hnc (hy.drewN _) HOFF.out rfl (by omega) (by omega) HV).mono ?_;rintro e w2 ⟨rfl,L1,hm2,hgr2,hlen2,hlim2,hval2⟩)
     go_ret;obtain⟨r1,r2⟩:=Qfr HEX.out.1 HY0.out HNEG.out hval2;exact⟨Qa7 (by rw [<-r1]),L1,hm2,Qbx hgr2,hlen2,hlim2,r2⟩
 ·obtain rfl:4294967295=g0:=by rw [<-HG0.out,if_neg hb]
  clear HG0 hE2 hE3 hg0t hg0b;have hE4:IntKind.u64.wrap ((top:Int) - 4294967295*(y1:Int))=(ρ0:Int):=by
   have h1:=HR0.out;have h2:=HRB.out;rw [IntKind.wrap_u64];omega
  go_wp2_with fail
  go_loopw [7,8] (fun sg sr wr=> ∃(g ρ q:Nat),g<=4294967295/\sg=.int .u64 g/\sr=.int .u64 ρ/\wr=w.drewN q/\Hid (ρ<4294967296*4294967296/\Guess (val l / val r) top y1 g ρ)) (fun sg _ _=>(intOf sg).toNat)
  case atStart=>exact⟨4294967295,ρ0,nq,le_refl _,congrArg (Value.int _) (by omega),rfl,rfl,show Hid _ from⟨HRB.out,HQ.out,HR0.out⟩⟩
  case round=>
   clear hE1 hE4 hor1;obtain⟨g,ρ,q,hg,rfl,rfl,rfl,HI⟩:=hrel;by_cases hρB:ρ<4294967296
   ·have hmulN:g*y0<=4294967295*4294967295:=Nat.mul_le_mul (show g<=4294967295 by omega) (show y0<=4294967295 by omega)
    obtain⟨v,hv⟩:∃v,g*y0=v:=⟨_,rfl⟩;have hwm:IntKind.u64.wrap ((g:Int)*(y0:Int))=(v:Int):=(by rw [<-Int.natCast_mul,hv,IntKind.wrap_u64];omega);have hd0:decide ((ρ:Int)<4294967296)=true:=(by simp;omega);obtain⟨u,hu⟩:∃u,ρ*4294967296+x0=u:=⟨_,rfl⟩;have hor2:bits .or .u64 ((ρ:Int)*4294967296) (x0:Int)=(u:Int):=by
     rw [show(ρ:Int)*4294967296=((ρ*4294967296:Nat):Int)from by omega,u64_or_nat _ _ (by omega) (by omega),nat_join 32 (ρ*4294967296) x0 (by omega) (by omega),hu]
    by_cases hgt:ρ*4294967296+x0<g*y0
    ·have hgt':(u:Int)<(v:Int):=by omega
     have hg1:1<=g:=by
      rcases eq_zero_or_pos g with h|h
      ·subst h;rw [Nat.zero_mul]at hgt;omega
      ·exact h
     have HGT:=hid hgt;clear hmulN hgt hu hv;go_wp2_with fail
     go_quiet (fail)
     go_wp2_with fail
     go_roundw
     case rel=>
      have hI:=HI.out;have h1:=Qhn hVL.out hAL.out hVR.out HT.out hI.2.1 hI.2.2 HGT.out;refine⟨g-1,ρ+y1,_,by omega,congrArg (Value.int _) (by omega),congrArg (Value.int _) (by omega),rfl,show Hid _ from⟨by omega,by omega,?_⟩⟩;have h2:=hI.2.2;obtain⟨k,rfl⟩:∃k,g=k+1:=⟨g-1,by omega⟩;rw [Nat.add_mul,Nat.one_mul]at h2;rw [Nat.add_sub_cancel];omega
     case measure=>simp [intOf];omega
    ·have hd:decide ((u:Int)<(v:Int))=false:=by simp;omega
     have hd':decide (u<v)=false:=(by simp;omega);have HGT:=hid hgt;clear hmulN hgt hu hv;have HEX:Hid (val l / val r<=g/\g<=val l / val r+1):=⟨HI.out.2.1,Qej hVL.out hVR.out hAR.out HT.out HI.out.2.2 hg htop hr0 (by right;have:=HGT.out;omega) HY0.out⟩;by_cases hneg:val l<g*val r
     ·have HV:Hid (decide (val l<g*val r)=true):=decide_eq_true hneg
      have hg1:1<=g:=by
       rcases eq_zero_or_pos g with h|h
       ·subst h;rw [Nat.zero_mul]at hneg;omega
       ·exact h
      have HNEG:=hid hneg;clear hneg;go_wp2_with fail
      go_quiet (fail)
      go_wp2_with (go_at_call 351;refine(Qa3 b o (j+3) c (j+2) c' g _ pre post l r _ true (hm.drewN _) HLIM.out HO.out HLEN.out.symm hnc (hy.drewN _) HOFF.out rfl (by omega) (by omega) HV).mono ?_;rintro e w2 ⟨rfl,L1,hm2,hgr2,hlen2,hlim2,hval2⟩)
      go_wp2_with (go_at_call 352;refine(Qdl b o (j+3) c (j+2) c' _ pre post L1 r _ hm2 hlim2 HO.out hlen2.symm hnc ((hy.drewN _).grown hgr2 HOFF.out) HOFF.out rfl (by omega)).mono ?_;rintro e w3 ⟨rfl,L2,hm3,hgr3,hlen3,hlim3,hval3⟩)
      go_ret;have hYn:val r<P (j+3):=lt_of_lt_of_le (Qbg hy.lim) (Qjl (by have:=hy.len;omega));obtain⟨r1,r2⟩:=Qfq (q:=g-1) HEX.out.1 HEX.out.2 HY0.out HNEG.out hval2 hYn hval3 (by omega);exact⟨Qa7 (by rw [<-r1];omega),L2,hm3,Qcq (Qbx hgr2) hgr3,hlen3,hlim3,r2⟩
     ·have HV:Hid (decide (val l<g*val r)=false):=decide_eq_false hneg
      have HNEG:=hid hneg;clear hneg;go_wp2_with fail
      go_quiet (fail)
      go_wp2_with (go_at_call 351;refine(Qa3 b o (j+3) c (j+2) c' g _ pre post l r _ false (hm.drewN _) HLIM.out HO.out HLEN.out.symm hnc (hy.drewN _) HOFF.out rfl (by omega) (by omega) HV).mono ?_;rintro e w2 ⟨rfl,L1,hm2,hgr2,hlen2,hlim2,hval2⟩)
      go_ret;obtain⟨r1,r2⟩:=Qfr HEX.out.1 HY0.out HNEG.out hval2;exact⟨Qa7 (by rw [<-r1]),L1,hm2,Qbx hgr2,hlen2,hlim2,r2⟩
   ·have hd:decide ((ρ:Int)<4294967296)=false:=by simp;omega
    have HRH:=hid hρB;have HEX:Hid (val l / val r<=g/\g<=val l / val r+1):=⟨HI.out.2.1,Qej hVL.out hVR.out hAR.out HT.out HI.out.2.2 hg htop hr0 (by left;have:=HRH.out;omega) HY0.out⟩;by_cases hneg:val l<g*val r
    ·have HV:Hid (decide (val l<g*val r)=true):=decide_eq_true hneg
     have hg1:1<=g:=by
      rcases eq_zero_or_pos g with h|h
      ·subst h;rw [Nat.zero_mul]at hneg;omega
      ·exact h
     have HNEG:=hid hneg;clear hneg;go_wp2_with fail
     go_quiet (fail)
     go_wp2_with (go_at_call 351;refine(Qa3 b o (j+3) c (j+2) c' g _ pre post l r _ true (hm.drewN _) HLIM.out HO.out HLEN.out.symm hnc (hy.drewN _) HOFF.out rfl (by omega) (by omega) HV).mono ?_;rintro e w2 ⟨rfl,L1,hm2,hgr2,hlen2,hlim2,hval2⟩)
     go_wp2_with (go_at_call 352;refine(Qdl b o (j+3) c (j+2) c' _ pre post L1 r _ hm2 hlim2 HO.out hlen2.symm hnc ((hy.drewN _).grown hgr2 HOFF.out) HOFF.out rfl (by omega)).mono ?_;rintro e w3 ⟨rfl,L2,hm3,hgr3,hlen3,hlim3,hval3⟩)
     go_ret;have hYn:val r<P (j+3):=lt_of_lt_of_le (Qbg hy.lim) (Qjl (by have:=hy.len;omega));obtain⟨r1,r2⟩:=Qfq (q:=g-1) HEX.out.1 HEX.out.2 HY0.out HNEG.out hval2 hYn hval3 (by omega);exact⟨Qa7 (by rw [<-r1];omega),L2,hm3,Qcq (Qbx hgr2) hgr3,hlen3,hlim3,r2⟩
    ·have HV:Hid (decide (val l<g*val r)=false):=decide_eq_false hneg
     have HNEG:=hid hneg;clear hneg;go_wp2_with fail
     go_quiet (fail)
     go_wp2_with (go_at_call 351;refine(Qa3 b o (j+3) c (j+2) c' g _ pre post l r _ false (hm.drewN _) HLIM.out HO.out HLEN.out.symm hnc (hy.drewN _) HOFF.out rfl (by omega) (by omega) HV).mono ?_;rintro e w2 ⟨rfl,L1,hm2,hgr2,hlen2,hlim2,hval2⟩)
     go_ret;obtain⟨r1,r2⟩:=Qfr HEX.out.1 HY0.out HNEG.out hval2;exact⟨Qa7 (by rw [<-r1]),L1,hm2,Qbx hgr2,hlen2,hlim2,r2⟩
theorem Qxx(b o c j nx ny c':Nat)(A':Option Addr)(pre post:List Value)(l r:List Nat)(w:World)(hm:Mid w b pre l post)(hl:Lim l)(ho:pre.length=o)(hlen:l.length=j+3)(hnc:j+3<=c)(hnx:nx=j+3)(hny:ny=j+2)
 (hy:Num w r A' ny c')(hoff:Off A' b)(htop:2147483648<=r.getD (j+1) 0)(hX:val l<val r*4294967296)(hn:j<=536870912)(q:Nat)(H:Hid (val l / val r=q)):
 Calls prog 329 #[.slice (some ⟨b,o,none⟩) nx c,.slice A' ny c'] w
  (RetMid w (.int .u32 (q:Int)) b pre post (j+3) fun L=>val L=val l%val r):=by
 rw [<-H.out];subst hnx;subst hny;obtain⟨b',o',rfl,_,_⟩:=hy.cells (by omega);exact Qrl b o c j b' o' c' pre post l r w hm hl ho hlen hnc hy (hoff _ rfl) htop hX hn
theorem sum_le(A A':Option Addr)(n c n' c':Nat)(l r:List Nat)(w:World)(hx:Num w l A n c)(hy:Num w r A' n' c')(hle:n'<=n)(hn:n<=536870912):
 Calls prog 293 #[.slice A n c,.slice A' n' c'] w (RetOwn w (limbs (val l+val r))):=by
 have hlt:decide ((n:Int)<(n':Int))=false:=by simp;omega
 have hlt':decide (n<n')=false:=by simp;omega
 have hmk:=Qfn (n+1) ((n:Int)+1) (by omega) (by omega);go_enter func293,ntmps293
 go_wp2
 go_loopw [6,21] (fun si sj wr=> ∃(k cr:Nat) (L:List Nat),k<=n/\cr<=1/\si=.int .u64 cr/\sj=.int .i64 k/\Row wr w.heap.size L/\Below w.heap.size w wr/\Hid (L.length=n+1/\Lim L/\val (L.take k)+P k*cr=val (l.take k)+val (r.take k)))
  (fun _ sj _=>n-(intOf sj).toNat)
 case atStart=>exact⟨0,0,List.replicate (n+1) 0,zero_le _,by omega,rfl,rfl,Row.new _ _,(Below.refl _ _).alloc (le_refl _) _,show Hid _ from⟨by simp,Lim.zeros _,by simp [val]⟩⟩
 case round=>
  obtain⟨k,cr,L,hk,hcr,rfl,rfl,hrow,hbel,HI⟩:=hrel;by_cases hkn:k<n
  ·have hxw:=hx.below hbel
   have hyw:=hy.below hbel;obtain⟨b,o,x,rfl,_,hx',hx4,hcx⟩:=hxw.at_ hkn;obtain⟨y,hy'⟩:∃y,r.getD k 0=y:=⟨_,rfl⟩;have hy4:y<4294967296:=(by rw [<-hy'];exact hy.lim.getD k);have HX:=hid hx';have HY:=hid hy';clear hx' hy';obtain⟨d,hd⟩:∃d,L.getD k 0=d:=⟨_,rfl⟩;have hcs:=hrow.cell (k:=k) (by have:=HI.out.1;omega);have hfs:=hrow.frozen k;rw [hd]at hcs;clear hd;go_wp2_with fail
   go_quiet ((go_at_call 287;exact Qei (Qfp _ _ _ _ r _ y (hyw.drewN _) (by omega) (by omega) HY)))
   go_wp2_with fail
   clear hmk hlt hlt'
   go_roundw
   case rel=>
    refine⟨k+1,(cr+(x+y)) / 4294967296,L.set k ((cr+(x+y))%4294967296),by omega,by omega,congrArg (Value.int _) (by omega),congrArg (Value.int _) (by omega),(hrow.drewN nq).setI k _ (by omega),(Qah hbel nq).setCell (le_refl _) _,?_⟩;show Hid _;have h:=Qod (k:=k) (by omega) HI.out (x+y) rfl;refine⟨h.1,h.2.1,h.2.2.trans ?_⟩;rw [Qac l k,Qac r k,HX.out,HY.out,Nat.mul_add];omega
   case measure=>simp [intOf];omega
  ·obtain rfl:k=n:=by omega
   obtain⟨d,hd⟩:∃d,L.getD k 0=d:=⟨_,rfl⟩;have hcs:=hrow.cell (k:=k) (by have:=HI.out.1;omega);have hfs:=hrow.frozen k;rw [hd]at hcs;clear hd;clear hmk hlt hlt';have hrow2:=hrow.set k cr;have hlim2:Lim (L.set k cr):=HI.out.2.1.set k (by omega);have hlen2:(L.set k cr).length=k+1:=(by rw [List.length_set];exact HI.out.1);have HV:Hid (val (L.set k cr)=val l+val r):=by
    show val (L.set k cr)=val l+val r;have e:=Qba cr (show k<L.length by have:=HI.out.1;omega);rw [List.take_of_length_le (by omega)]at e;have h:=HI.out.2.2;rw [List.take_of_length_le (l:=l) (by have:=hx.len;omega),List.take_of_length_le (l:=r) (by have:=hy.len;omega)]at h;omega
   have HL:=hid hlen2;clear hlen2;go_wp2_with (go_at_call 223;refine(Qat _ _ _ (L.set k cr) _ (hrow2.num hlim2 HL.out.symm (le_refl _)) (by omega)).mono ?_;rintro e w' ⟨rfl,rfl⟩)
   go_ret;exact hrow2.ret (le_refl _) hlim2 (hbel.setCell (le_refl _) _) (by have:=HL.out;omega) HV.out
theorem sum_lt(A A':Option Addr)(n c n' c':Nat)(l r:List Nat)(w:World)(hx:Num w l A n c)(hy:Num w r A' n' c')(hle:n'<=n)(hlt0:n'<n)(hn:n<=536870912):
 Calls prog 293 #[.slice A' n' c',.slice A n c] w (RetOwn w (limbs (val l+val r))):=by
 have hlt:decide ((n':Int)<(n:Int))=true:=by simp;omega
 have hlt':decide (n'<n)=true:=by simp;omega
 clear hlt0;have hmk:=Qfn (n+1) ((n:Int)+1) (by omega) (by omega);go_enter func293,ntmps293
 go_wp2
 go_loopw [6,21] (fun si sj wr=> ∃(k cr:Nat) (L:List Nat),k<=n/\cr<=1/\si=.int .u64 cr/\sj=.int .i64 k/\Row wr w.heap.size L/\Below w.heap.size w wr/\Hid (L.length=n+1/\Lim L/\val (L.take k)+P k*cr=val (l.take k)+val (r.take k)))
  (fun _ sj _=>n-(intOf sj).toNat)
 case atStart=>exact⟨0,0,List.replicate (n+1) 0,zero_le _,by omega,rfl,rfl,Row.new _ _,(Below.refl _ _).alloc (le_refl _) _,show Hid _ from⟨by simp,Lim.zeros _,by simp [val]⟩⟩
 case round=>
  obtain⟨k,cr,L,hk,hcr,rfl,rfl,hrow,hbel,HI⟩:=hrel;by_cases hkn:k<n
  ·have hxw:=hx.below hbel
   have hyw:=hy.below hbel;obtain⟨b,o,x,rfl,_,hx',hx4,hcx⟩:=hxw.at_ hkn;obtain⟨y,hy'⟩:∃y,r.getD k 0=y:=⟨_,rfl⟩;have hy4:y<4294967296:=(by rw [<-hy'];exact hy.lim.getD k);have HX:=hid hx';have HY:=hid hy';clear hx' hy';obtain⟨d,hd⟩:∃d,L.getD k 0=d:=⟨_,rfl⟩;have hcs:=hrow.cell (k:=k) (by have:=HI.out.1;omega);have hfs:=hrow.frozen k;rw [hd]at hcs;clear hd;go_wp2_with fail
   go_quiet ((go_at_call 287;exact Qei (Qfp _ _ _ _ r _ y (hyw.drewN _) (by omega) (by omega) HY)))
   go_wp2_with fail
   clear hmk hlt hlt'
   go_roundw
   case rel=>
    refine⟨k+1,(cr+(x+y)) / 4294967296,L.set k ((cr+(x+y))%4294967296),by omega,by omega,congrArg (Value.int _) (by omega),congrArg (Value.int _) (by omega),(hrow.drewN nq).setI k _ (by omega),(Qah hbel nq).setCell (le_refl _) _,?_⟩;show Hid _;have h:=Qod (k:=k) (by omega) HI.out (x+y) rfl;refine⟨h.1,h.2.1,h.2.2.trans ?_⟩;rw [Qac l k,Qac r k,HX.out,HY.out,Nat.mul_add];omega
   case measure=>simp [intOf];omega
  ·obtain rfl:k=n:=by omega
   obtain⟨d,hd⟩:∃d,L.getD k 0=d:=⟨_,rfl⟩;have hcs:=hrow.cell (k:=k) (by have:=HI.out.1;omega);have hfs:=hrow.frozen k;rw [hd]at hcs;clear hd;clear hmk hlt hlt';have hrow2:=hrow.set k cr;have hlim2:Lim (L.set k cr):=HI.out.2.1.set k (by omega);have hlen2:(L.set k cr).length=k+1:=(by rw [List.length_set];exact HI.out.1);have HV:Hid (val (L.set k cr)=val l+val r):=by
    show val (L.set k cr)=val l+val r;have e:=Qba cr (show k<L.length by have:=HI.out.1;omega);rw [List.take_of_length_le (by omega)]at e;have h:=HI.out.2.2;rw [List.take_of_length_le (l:=l) (by have:=hx.len;omega),List.take_of_length_le (l:=r) (by have:=hy.len;omega)]at h;omega
   have HL:=hid hlen2;clear hlen2;go_wp2_with (go_at_call 223;refine(Qat _ _ _ (L.set k cr) _ (hrow2.num hlim2 HL.out.symm (le_refl _)) (by omega)).mono ?_;rintro e w' ⟨rfl,rfl⟩)
   go_ret;exact hrow2.ret (le_refl _) hlim2 (hbel.setCell (le_refl _) _) (by have:=HL.out;omega) HV.out
theorem Qxy(A A':Option Addr)(n c n' c' a b:Nat)(w:World)(hx:Num w (limbs a) A n c)(hy:Num w (limbs b) A' n' c')(hn:n<=536870912)(hn':n'<=536870912):
 Calls prog 293 #[.slice A n c,.slice A' n' c'] w (RetOwn w (limbs (a+b))):=by
 by_cases h:n<n'
 ·have h:=sum_lt A' A n' c' n c _ _ w hy hx (by omega) h hn'
  rwa [Qab,Qab,Nat.add_comm]at h
 ·have h:=sum_le A A' n c n' c' _ _ w hx hy (by omega) hn
  rwa [Qab,Qab]at h
theorem Qrm(A A':Option Addr)(n c m c':Nat)(l r:List Nat)(w:World)(hx:Num w l A n c)(hy:Num w r A' m c')(hn:n<=536870912)(hm:m<=536870912):
 Calls prog 220 #[.slice A n c,.slice A' m c'] w (RetOwn w (limbs (val l*val r))):=by
 have hmk:=Qfn (n+m) ((n:Int)+(m:Int)) (by omega) (by omega);go_enter func220,ntmps220
 go_wp2
 go_loopw [20] (fun si wr=> ∃(i:Nat) (L:List Nat),i<=n/\si=.int .i64 i/\Row wr w.heap.size L/\Below w.heap.size w wr/\Hid (L.length=n+m/\Lim L/\val L=val (l.take i)*val r/\∀j,i+m<=j->L.getD j 0=0))
  (fun si _=>n-(intOf si).toNat)
 case atStart=>exact⟨0,List.replicate (n+m) 0,zero_le _,rfl,Row.new _ _,(Below.refl _ _).alloc (le_refl _) _,show Hid _ from⟨by simp,Lim.zeros _,by simp [Qcz,val],fun j _=>by rw [List.getD_eq_getElem?_getD,List.getElem?_replicate];split<;>rfl⟩⟩
 case round=>
  obtain⟨i,L,hi,rfl,hrow,hbel,HI⟩:=hrel;clear hmk;by_cases hin:i<n
  ·have hxw:=hx.below hbel
   obtain⟨b,o,x,rfl,_,hx',hx4,hcx⟩:=hxw.at_ hin;have HX:=hid hx';clear hx';have hne:¬n+m=i:=(by omega);have hsub:i+m-i=m:=(by omega);obtain⟨wo,rfl⟩:∃wo:World,wo=wr:=⟨_,rfl⟩;go_wp2_with fail
   go_loopw [8,34] (fun sc sk w2=> ∃(k cr:Nat) (M:List Nat),k<=m/\cr<4294967296/\sc=.int .u64 cr/\sk=.int .i64 k/\Row w2 w.heap.size M/\Below w.heap.size w w2/\Hid (M.length=n+m/\Lim M/\val M+P (i+k)*cr=val L+P i*(x*val (r.take k))/\∀j,i+k<=j->M.getD j 0=L.getD j 0))
    (fun _ sk _=>m-(intOf sk).toNat)
   case atStart=>exact⟨0,0,L,zero_le _,by omega,rfl,rfl,hrow,hbel,show Hid _ from⟨HI.out.1,HI.out.2.1,by simp [val],fun j _=>rfl⟩⟩
   case round=>
    obtain⟨k,cr,M,hk,hcr,rfl,rfl,hrow2,hbel2,HJ⟩:=hrel;by_cases hkm:k<m
    ·have hyw:=hy.below hbel2
     obtain⟨b',o',y,rfl,_,hy',hy4,hcy⟩:=hyw.at_ hkm;have HY:=hid hy';clear hy';obtain⟨d,hd⟩:∃d,M.getD (i+k) 0=d:=⟨_,rfl⟩;have hd4:d<4294967296:=(by rw [<-hd];exact HJ.out.2.1.getD _);have hcs:=hrow2.cell (k:=i+k) (by have:=HJ.out.1;omega);have hfs:=hrow2.frozen (i+k);rw [hd]at hcs;have HD:=hid hd;clear hd;have hmul0:0<=(x:Int)*(y:Int):=Int.mul_nonneg (by omega) (by omega);have hmul1:(x:Int)*(y:Int)<=18446744065119617025:=by
      have h:=Nat.mul_le_mul (show x<=4294967295 by omega) (show y<=4294967295 by omega);have h2:((x*y:Nat):Int)<=18446744065119617025:=by omega
      rwa [Int.natCast_mul]at h2
     have hmc:((x*y:Nat):Int)=(x:Int)*(y:Int):=Int.natCast_mul ..;have HM:=hid hmc;clear hmc;go_wp2_with fail
     go_roundw
     case rel=>
      have hmc:=HM.out;refine⟨k+1,(cr+(x*y+d)) / 4294967296,M.set (i+k) ((cr+(x*y+d))%4294967296),by omega,by omega,congrArg (Value.int _) (by omega),congrArg (Value.int _) (by omega),hrow2.setI _ _ (by omega),hbel2.setCell (le_refl _) _,?_⟩;show Hid _;have hJ:=HJ.out;have h:=Qoc (j:=i+k) (s:=cr+(x*y+d)) (x:=x) (y:=y) (by omega) ⟨hJ.1,hJ.2.1,hJ.2.2.1⟩ (by rw [HD.out]);refine⟨h.1,h.2.1,?_,fun j hj=>?_⟩
      ·rw [show i+(k+1)=i+k+1 from by omega,h.2.2,Qac r k,HY.out,Qra,Nat.mul_add,Nat.mul_add,<-Nat.add_assoc,Nat.mul_assoc,Nat.mul_left_comm (P k) x y]
      ·rw [getD_set_ne _ (by omega)];exact hJ.2.2.2 j (by omega)
     case measure=>simp [intOf];omega
    ·obtain rfl:k=m:=by omega
     obtain⟨d,hd⟩:∃d,M.getD (i+k) 0=d:=⟨_,rfl⟩;have hcs:=hrow2.cell (k:=i+k) (by have:=HJ.out.1;omega);have hfs:=hrow2.frozen (i+k);rw [hd]at hcs;have HD:=hid hd;clear hd;go_wp2_with fail
     go_roundw
     case rel=>
      refine⟨i+1,M.set (i+k) cr,by omega,congrArg (Value.int _) (by omega),hrow2.set _ _,hbel2.setCell (le_refl _) _,?_⟩;show Hid _;have hJ:=HJ.out;have hI:=HI.out;refine⟨by rw [List.length_set];exact hJ.1,hJ.2.1.set _ hcr,?_,fun j hj=>?_⟩
      ·have h4:=Qgc cr (show i+k<M.length by omega)
       rw [hJ.2.2.2 (i+k) (by omega),hI.2.2.2 (i+k) (by omega),Nat.mul_zero,Nat.add_zero,hJ.2.2.1,List.take_of_length_le (l:=r) (by have:=hy.len;omega),hI.2.2.1]at h4;rw [h4,Qac l i,HX.out,Nat.add_mul,Nat.mul_assoc]
      ·rw [getD_set_ne _ (by omega),hJ.2.2.2 j (by omega)];exact hI.2.2.2 j (by omega)
     case measure=>simp [intOf];omega
  ·obtain rfl:i=n:=by omega
   have hlim2:Lim L:=HI.out.2.1;have HL:Hid (L.length=i+m):=HI.out.1;have HV:Hid (val L=val l*val r):=by
    show val L=val l*val r;have h:=HI.out.2.2.1
    rwa [List.take_of_length_le (l:=l) (by have:=hx.len;omega)]at h
   go_wp2_with (go_at_call 223;refine(Qat _ _ _ L _ (hrow.num hlim2 HL.out.symm (le_refl _)) (by omega)).mono ?_;rintro e w' ⟨rfl,rfl⟩)
   go_ret;exact hrow.ret (le_refl _) hlim2 hbel (by have:=HL.out;omega) HV.out
theorem Qbe(A A':Option Addr)(n c n' c' a b:Nat)(w:World)(hx:Num w (limbs a) A n c)(hy:Num w (limbs b) A' n' c')(hn:n<=536870912)(hn':n'<=536870912):
 Calls prog 220 #[.slice A n c,.slice A' n' c'] w (RetOwn w (limbs (a*b))):=by
 have h:=Qrm A A' n c n' c' _ _ w hx hy hn hn'
 rwa [Qab,Qab]at h
theorem Qrn(A:Option Addr)(n c k x:Nat)(l:List Nat)(w:World)(h:Num w l A n c)(hk:k<n)(hx:l.getD k 0=x)(hn:n<=1073741824):
 Calls prog 117 #[.slice A n c,.int .i64 k] w fun e w'=>e=.returned (.int .u64 x)/\w=w':=by
 obtain⟨b,o,y,rfl,_,hy,hy4,hc⟩:=h.at_ hk;rw [hx]at hy;subst hy;have HX:=hid hx;clear hx h;go_enter func117,ntmps117
 go_wp2
 go_ret;exact⟨rfl,rfl⟩
theorem Qpu(A:Option Addr)(n c k:Nat)(w:World)(hk:n<=k):
 Calls prog 117 #[.slice A n c,.int .i64 k] w fun e w'=>e=.returned (.int .u64 0)/\w=w':=by
 go_enter func117,ntmps117
 go_wp2
 go_ret;exact⟨rfl,rfl⟩
theorem Qoi(A:Option Addr)(n c:Nat)(k:Int)(l:List Nat)(w:World)(y:Nat)(h:Num w l A n c)(h0:0<=k)(hn:n<=1073741824)(H:Hid (l.getD k.toNat 0=y)):
 Calls prog 117 #[.slice A n c,.int .i64 k] w fun e w'=>e=.returned (.int .u64 (y:Int))/\w=w':=by
 have e:=H.out;subst e;obtain⟨j,rfl⟩:=Int.eq_ofNat_of_zero_le h0;rw [Int.toNat_natCast];by_cases hk:j<n
 ·exact Qrn A n c j _ l w h hk rfl hn
 ·rw [show l.getD j 0=0 from by rw [List.getD_eq_getElem?_getD,List.getElem?_eq_none (by have:=h.len;omega)];rfl]
  exact Qpu A n c j w (by omega)
def lenOfS:Value->Nat
 | .slice _ n _=>n
 |_=>0
theorem Qk4(A:Option Addr)(n c:Nat)(l:List Nat)(w:World)(h:Num w l A n c)(hn:n<=1073741824):
 Calls prog 116 #[.slice A n c] w fun e w'=>e=.returned (.slice A (limbs (val l)).length c)/\w=w':=by
 have hcap:=h.cap;have HT:Hid (tl l n=(limbs (val l)).length):=by rw [h.len];exact Qk1 l h.lim
 go_enter func116,ntmps116
 go_wp2
 go_loop [0] (fun a=> ∃k:Nat,k<=n/\a=.slice A k c/\Hid (tl l n=tl l k)) (fun a=>lenOfS a)
 case atStart=>exact⟨n,le_refl _,rfl,rfl⟩
 case round=>
  obtain⟨k,hk,rfl,HE⟩:=hrel;rcases eq_zero_or_pos k with h0|h0
  ·subst h0
   go_wp2
   go_ret;exact⟨Qfo _ _ (HE.out.symm.trans HT.out),rfl⟩
  ·obtain⟨j,rfl⟩:∃j,k=j+1:=⟨k-1,by omega⟩
   obtain⟨b,o,x,rfl,_,hx,_,hcj⟩:=h.at_ (show j<n by omega);clear h;by_cases hz:x=0
   ·subst hz
    have HX:=hid hx;clear hx
    go_wp2
    go_round
    case rel=>exact⟨j,by omega,by go_num,HE.out.trans (Qm6 l j HX.out)⟩
    case measure=>simp [lenOfS]
   ·have hne:((x:Int)==0)=false:=by simp;exact hz
    have HX:=hid hx;clear hx;have HZ:=hid hz;clear hz
    go_wp2
    go_ret;exact⟨Qfo _ _ ((HE.out.trans (Qrb l j (by rw [HX.out];exact HZ.out))).symm.trans HT.out),rfl⟩
def sgnI(v:Int):Int:=if v<0 then -1 else if 0<v then 1 else 0
theorem Qw3(v:Int)(w:World):Calls prog 118 #[.int .i64 v] w fun e w'=>e=.returned (.int .i64 (sgnI v))/\w=w':=by
 rcases Int.lt_trichotomy v 0 with h|h|h
 ·rw [show sgnI v= -1 from by unfold sgnI;rw [if_pos h]]
  go_enter func118,ntmps118
  go_wp2
  go_ret;exact⟨rfl,rfl⟩
 ·subst h
  rw [show sgnI 0=0 from rfl];go_enter func118,ntmps118
  go_wp2
  go_ret;exact⟨rfl,rfl⟩
 ·have h':¬v<0:=by omega
  rw [show sgnI v=1 from by unfold sgnI;rw [if_neg h',if_pos h]];go_enter func118,ntmps118
  go_wp2
  go_ret;exact⟨rfl,rfl⟩
theorem Qoj(a b:Int):sgnI (a-b)=cmpI a b:=by
 unfold sgnI cmpI;by_cases h1:a<b
 ·rw [if_pos (by omega),if_pos h1]
 ·rw [if_neg (by omega),if_neg h1]
  by_cases h2:b<a
  ·rw [if_pos (by omega),if_pos h2]
  ·rw [if_neg (by omega),if_neg h2]
theorem Qjr(A A':Option Addr)(n c n' c':Nat)(w:World)(h:n≠n')(hn:n<=1073741824)(hn':n'<=1073741824):
 Calls prog 83 #[.slice A n c,.slice A' n' c'] w (RetQ w (.int .i64 (cmpI n n'))):=by
 have h1:((n:Int) !=n')=true:=by simp;omega
 have h2:IntKind.i64.wrap ((n:Int) - (n':Int))=(n:Int) - (n':Int):=IntWalk.i64_in _ (by omega);clear h;go_enter func83,ntmps83;go_wp2_with (go_at_call 118;refine(Qw3 _ _).mono ?_;rintro e w' ⟨rfl,rfl⟩)
 go_ret;exact⟨Qa7 (Qoj _ _),0,rfl⟩
theorem Qin(A A':Option Addr)(n c c':Nat)(l r:List Nat)(w:World)(hx:Num w l A n c)(hy:Num w r A' n c')(hn:n<=1073741824):
 Calls prog 83 #[.slice A n c,.slice A' n c'] w (RetQ w (.int .i64 (cmpI ((val l:Nat):Int) ((val r:Nat):Int)))):=by
 have h1:((n:Int) !=n)=false:=by simp
 obtain⟨V,hV⟩:∃V,cmpI ((val l:Nat):Int) ((val r:Nat):Int)=V:=⟨_,rfl⟩;rw [hV];have HV:=hid hV;clear hV;go_enter func83,ntmps83
 go_wp2
 go_loopw [5] (fun i wr=> ∃k q:Nat,k<=n/\i=.int .i64 ((k:Int) - 1)/\wr=w.drewN q/\Hid (∀j,k<=j->j<n->l.getD j 0=r.getD j 0)) (fun i _=>(intOf i+1).toNat)
 case atStart=>exact⟨n,0,le_refl _,rfl,rfl,show Hid _ from fun j h1 h2=>by omega⟩
 case round=>
  obtain⟨k,q,hk,rfl,rfl,HE⟩:=hrel;rcases eq_zero_or_pos k with h0|h0
  ·subst h0
   go_wp2
   go_ret;refine⟨Qa7 ?_,q,rfl⟩;rw [<-HV.out,Qc0 (hx.len.symm.trans hy.len) (fun j hj=>HE.out j (by omega) (by have:=hx.len;omega)),Qri]
  ·obtain⟨j,rfl⟩:∃j,k=j+1:=⟨k-1,by omega⟩
   obtain⟨b,o,x,rfl,_,hx',hx4,hcx⟩:=hx.at_ (show j<n by omega);obtain⟨b',o',y,rfl,_,hy',hy4,hcy⟩:=hy.at_ (show j<n by omega);have hjn:(j:Int)<(n:Int):=(by omega);have e1:((j+1:Nat):Int) - 1=(j:Int):=(by omega);rw [e1];clear e1;have HX:=hid hx';have HY:=hid hy';have LX:=hid hx;have LY:=hid hy;clear hx' hy' hx hy;by_cases hxy:x=y
   ·have hne:((x:Int) !=y)=false:=by simp;omega
    have hne2:((y:Int) !=y)=false:=(by simp);have HXY:=hid hxy;subst hxy;go_wp2_with fail
    go_quiet (fail)
    go_wp2_with fail
    go_roundw
    case rel=>exact⟨j,_,by omega,rfl,rfl,show Hid _ from fun i hi1 hi2=>by
     rcases Nat.eq_or_lt_of_le hi1 with hi|hi
     ·subst hi;rw [HX.out,HY.out]
     ·exact HE.out i (by omega) hi2⟩
    case measure=>simp [intOf]
   ·have hne:((x:Int) !=y)=true:=by simp;omega
    have h2:IntKind.i64.wrap ((x:Int) - (y:Int))=(x:Int) - (y:Int):=IntWalk.i64_in _ (by omega);go_wp2_with fail
    go_quiet (fail)
    go_wp2_with fail
    go_quiet ((go_at_call 118;exact Qey (Qw3 _ _)))
    go_wp2_with fail
    go_ret;refine⟨Qa7 ?_,draws3 ..⟩;rw [Qoj,<-HV.out,<-Qiz (k:=j) LX.out.lim LY.out.lim (by have:=LX.out.len;omega) (LX.out.len.symm.trans LY.out.len) (fun i hi1 hi2=>HE.out i (by omega) (by have:=LX.out.len;omega)) (by rw [HX.out,HY.out];exact hxy),HX.out,HY.out]
theorem Qc2(A A':Option Addr)(n c n' c' a b:Nat)(w:World)(v:Int)(hx:Num w (limbs a) A n c)(hy:Num w (limbs b) A' n' c')(hn:n<=1073741824)(hn':n'<=1073741824)(H:Hid (cmpI a b=v)):
 Calls prog 83 #[.slice A n c,.slice A' n' c'] w (RetQ w (.int .i64 v)):=by
 rw [<-H.out];by_cases h:n=n'
 ·subst h
  have:=Qin A A' n c c' _ _ w hx hy hn
  rwa [Qab,Qab]at this
 ·have e:cmpI (n:Int) (n':Int)=cmpI (a:Int) (b:Int):=by
   have h1:=hx.len;have h2:=hy.len;rcases Nat.lt_or_gt_of_ne h with h'|h'
   ·rw [Qb2 (by omega),Qb2 (by have:=Qb1 (a:=a) (b:=b) (by omega);omega)]
   ·rw [Qdj (by omega),Qdj (by have:=Qb1 (a:=b) (b:=a) (by omega);omega)]
  rw [<-e];exact Qjr A A' n c n' c' w h hn hn'
theorem Qk5(v:Nat)(w:World)(hv:v<18446744073709551616):
 Calls prog 85 #[.int .u64 v] w (RetOwn w (limbs v)):=by
 go_enter func85,ntmps85;have hlim:Lim [v%4294967296,v / 4294967296]:=Lim.cons (mod_lt _ (by decide)) (Lim.cons (by omega) Lim.nil);have hrow:Row (w.alloc (.cells #[.int .u32 ((v:Int)%4294967296),.int .u32 ((v:Int) / 4294967296)] 97)) w.heap.size [v%4294967296,v / 4294967296]:=heap_alloc_new w _;have HV:Hid (val [v%4294967296,v / 4294967296]=v):=by show _=_;simp only [val];omega
 go_wp2_with (go_at_call 116;refine(Qk4 _ 2 2 _ _ (hrow.num (n:=2) (c:=2) hlim rfl (by omega)) (by omega)).mono ?_;rintro e w' ⟨rfl,rfl⟩)
 go_ret;exact hrow.ret (le_refl _) hlim ((Below.refl _ _).alloc (le_refl _) _) (by simp) HV.out
theorem Qjs(A:Option Addr)(n c:Nat)(l:List Nat)(w:World)(V:Bool)(h:Num w l A n c)(hn:n<=1073741824)(H:Hid (decide (l=[1])=V)):
 Calls prog 111 #[.slice A n c] w fun e w'=>e=.returned (.bool V)/\w=w':=by
 rw [<-H.out];clear H;by_cases h1:n=1
 ·subst h1
  obtain⟨b,o,x,rfl,_,hx,_,hcj⟩:=h.at_ (show 0<1 by omega);have hl:decide (l=[1])=decide ((x:Int)=1):=by
   have:=h.len
   match l,this with
   |[y],_=>simp at hx;subst hx;simp;omega
  rw [hl];rw [Nat.add_zero]at hcj;clear hx h hl;go_enter func111,ntmps111
  go_wp2
  go_ret;exact⟨Qal (by first|rfl|(rw [Bool.eq_iff_iff];simp)),rfl⟩
 ·have hl:decide (l=[1])=false:=by
   have:=h.len;simp;rintro rfl;simp at this;omega
  have hn1:((n:Int)==1)=false:=by simp;omega
  rw [hl];clear h hl h1;go_enter func111,ntmps111
  go_wp2
  go_ret;exact⟨rfl,rfl⟩
theorem Qd5(A A':Option Addr)(n c m c':Nat)(l r:List Nat)(w:World)(V:Bool)(hx:Num w l A n c)(hy:Num w r A' m c')(hn:n<=1073741824)(hm:m<=1073741824)(H:Hid (decide (l=r)=V)):
 Calls prog 71 #[.slice A n c,.slice A' m c'] w (RetQ w (.bool V)):=by
 by_cases hnm:n=m
 ·subst hnm
  have h1:((n:Int) !=n)=false:=by simp
  go_enter func71,ntmps71
  go_wp2
  go_loopw [13] (fun i wr=> ∃k q:Nat,k<=n/\i=.int .i64 (k:Int)/\wr=w.drewN q/\Hid (∀j,j<k->l.getD j 0=r.getD j 0)) (fun i _=>(n-intOf i).toNat)
  case atStart=>exact⟨0,0,zero_le _,rfl,rfl,show Hid _ from fun j h1=>by omega⟩
  case round=>
   obtain⟨k,q,hk,rfl,rfl,HE⟩:=hrel;rcases lt_or_ge k n with hkn|hkn
   ·obtain⟨b,o,x,rfl,_,hx',_,hcx⟩:=hx.at_ hkn
    obtain⟨b',o',y,rfl,_,hy',_,hcy⟩:=hy.at_ hkn;have hkn2:(k:Int)<(n:Int):=(by omega);have HX:=hid hx';have HY:=hid hy';have LX:=hid hx;have LY:=hid hy;clear hx' hy' hx hy;by_cases hxy:x=y
    ·have hne:((x:Int) !=y)=false:=by simp;omega
     have hne2:((y:Int) !=y)=false:=(by simp);subst hxy;go_wp2_with fail
     go_quiet (fail)
     go_wp2_with fail
     go_roundw
     case rel=>exact⟨k+1,_,by omega,congrArg (Value.int _) (by omega),rfl,show Hid _ from fun i hi1=>by
      rcases Nat.lt_or_eq_of_le (Nat.le_of_lt_succ hi1)with hi|hi
      ·exact HE.out i hi
      ·subst hi;rw [HX.out,HY.out]⟩
     case measure=>simp [intOf];omega
    ·have hne:((x:Int) !=y)=true:=by simp;omega
     go_wp2_with fail
     go_quiet (fail)
     go_wp2_with fail
     go_ret;refine⟨Qal ?_,draws2 ..⟩;rw [<-H.out];exact(decide_eq_false (fun h=>hxy (by rw [<-HX.out,<-HY.out,h]))).symm
   ·have hlt:¬(k:Int)<(n:Int):=by omega
    go_wp2_with fail
    go_ret;refine⟨Qal ?_,q,rfl⟩;rw [<-H.out];exact(decide_eq_true (Qc0 (hx.len.symm.trans hy.len) (fun j hj=>HE.out j (by have:=hx.len;omega)))).symm
 ·have h1:((n:Int) !=m)=true:=by simp;omega
  go_enter func71,ntmps71
  go_wp2
  go_ret;refine⟨Qal ?_,0,rfl⟩;rw [<-H.out];exact(decide_eq_false (fun h=>hnm (by rw [hx.len,hy.len,h]))).symm
end Go.Proofs.YthbhgelncdnmgaaGreatDoor
