import Derived.Test.YthbhgelncdnmgaaGreatDoorY01
import Derived.Lib.TrailingZeros
set_option linter.unusedVariables false
set_option linter.unusedSimpArgs false
namespace Go.Proofs.YthbhgelncdnmgaaGreatDoor
open Nat (pow_pos)
def IsTz(n z:Nat):Prop:=∃m,n=2^z*(2*m+1)
theorem Qjt{f n:Nat}(h0:0<n)(h:n<2^f):IsTz n (Lib.ctz f n)/\Lib.ctz f n<f:=by
 obtain⟨m,h1,h2⟩:=Lib.ctzFrom_spec f n h0 h;unfold Lib.ctz;rw [if_neg (by omega)];exact⟨⟨m,h1⟩,h2⟩
theorem IsTz.le{n z:Nat}(h:IsTz n z)(h0:0<n):2^z<=n:=by
 obtain⟨m,rfl⟩:=h;exact Nat.le_mul_of_pos_right _ (by omega)
theorem IsTz.odd{n z:Nat}(h:IsTz n z):n / 2^z%2=1:=by
 obtain⟨m,rfl⟩:=h;rw [Nat.mul_div_cancel_left _ (pow_pos (by decide))];omega
theorem IsTz.back{n z:Nat}(h:IsTz n z):n / 2^z*2^z=n:=by
 obtain⟨m,rfl⟩:=h;rw [Nat.mul_div_cancel_left _ (pow_pos (by decide)),Nat.mul_comm]
theorem Qxz{n z:Nat}(hd:n%2^z=0)(ho:n / 2^z%2=1):IsTz n z:=by
 refine⟨n / 2^z / 2,?_⟩;have h1:=Nat.div_add_mod n (2^z);have h2:2*(n / 2^z / 2)+1=n / 2^z:=by omega
 rw [h2];omega
theorem Qe4{n z z':Nat}(h:IsTz n z)(h':IsTz n z'):z=z':=by
 have key:∀ {a b:Nat},IsTz n a->IsTz n b->a<b->False:=by
  intro a b ⟨m,h1⟩ ⟨m',h2⟩ hab;obtain⟨k,rfl⟩:∃k,b=a+(k+1):=⟨b-a-1,by omega⟩;rw [h1,Nat.pow_add,Nat.mul_assoc]at h2;have h3:=Nat.eq_of_mul_eq_mul_left (pow_pos (by decide)) h2;rw [Nat.pow_succ,Nat.mul_right_comm,Nat.mul_comm _ 2]at h3;omega
 rcases Nat.lt_trichotomy z z' with h1|h1|h1
 ·exact(key h h' h1).elim
 ·exact h1
 ·exact(key h' h h1).elim
theorem Qx0{x y i k:Nat}(hx:IsTz x i)(hy:IsTz y k):IsTz (x|||y) (min i k):=by
 have hmod:∀ {n z m:Nat},IsTz n z->m<=z->n%2^m=0:=by
  intro n z m ⟨t,h⟩ hm;rw [h,show z=m+(z-m)from by omega,Nat.pow_add,Nat.mul_assoc,Nat.mul_mod_right]
 apply Qxz
 ·rw [Nat.or_mod_two_pow,hmod hx (Nat.min_le_left _ _),hmod hy (Nat.min_le_right _ _)];rfl
 ·have h1:(x|||y) / 2^min i k=x / 2^min i k|||y / 2^min i k:=by
   rw [<-Nat.shiftRight_eq_div_pow,<-Nat.shiftRight_eq_div_pow,<-Nat.shiftRight_eq_div_pow,Nat.shiftRight_or_distrib]
  rw [h1,show(2:Nat)=2^1 from rfl,Nat.or_mod_two_pow];have h2:∀a b:Nat,a%2=1\/b%2=1->(a%2^1|||b%2^1)=1:=by
   intro a b h;rw [show(2:Nat)^1=2 from rfl];rcases Nat.mod_two_eq_zero_or_one a with ha|ha<;>rcases Nat.mod_two_eq_zero_or_one b with hb|hb<;>rw [ha,hb]<;>first|rfl|omega
  apply h2;rcases Nat.le_total i k with h|h
  ·left;rw [Nat.min_eq_left h];exact hx.odd
  ·right;rw [Nat.min_eq_right h];exact hy.odd
theorem Qnb{a:Nat}(h:a%2=1)(k:Nat):Nat.Coprime (2^k) a:=by
 apply Nat.Coprime.pow_left;unfold Nat.Coprime;rw [Nat.gcd_rec,h];rfl
theorem Qfs{a:Nat}(h:a%2=1)(k b:Nat):Nat.gcd a (2^k*b)=Nat.gcd a b:=Nat.Coprime.gcd_mul_left_cancel_right b (Qnb h k)
theorem Qi1{a y z:Nat}(h:a%2=1)(hy:IsTz y z):Nat.gcd a (y / 2^z)=Nat.gcd a y:=by
 conv=>rhs;rw [<-hy.back,Nat.mul_comm]
 rw [Qfs h]
theorem Qw4{x y i k:Nat}(hx:IsTz x i)(hy:IsTz y k):Nat.gcd x y=2^min i k*Nat.gcd (x / 2^i) (y / 2^k):=by
 have key:∀ {x y i k:Nat},IsTz x i->IsTz y k->i<=k->Nat.gcd x y=2^i*Nat.gcd (x / 2^i) (y / 2^k):=by
  intro x y i k hx hy h
  conv=>lhs;rw [<-hx.back,<-hy.back]
  rw [show k=i+(k-i)from by omega,Nat.pow_add,Nat.mul_comm _ (2^i),Nat.mul_comm _ (2^i*_),Nat.mul_assoc,Nat.gcd_mul_left,Qfs (by have:=hx.odd;omega)]
 rcases Nat.le_total i k with h|h
 ·rw [Nat.min_eq_left h];exact key hx hy h
 ·rw [Nat.min_eq_right h,Nat.gcd_comm,key hy hx h,Nat.gcd_comm]
theorem Qpv{x y i k:Nat}(hx:IsTz x i)(hy:IsTz y k):Nat.gcd (x / 2^i) y*2^min i k=Nat.gcd x y:=by
 rw [Qw4 hx hy,Qi1 hx.odd hy,Nat.mul_comm]
theorem Qgr{p r:Nat}(h:p<=r):Nat.gcd p (r-p)=Nat.gcd p r:=by
 conv=>rhs;rw [show r=r-p+p from by omega]
 rw [Nat.gcd_add_self_right]
theorem Qro{a k v z:Nat}(hk:k<(limbs a).length)(h0:∀j,j<k->(limbs a).getD j 0=0)(hv:(limbs a).getD k 0=v)(hz:IsTz v z)(hz32:z<32):IsTz a (32*k+z):=by
 have h1:=Qao (limbs a) k (by omega);have h2:val ((limbs a).take k)=0:=by
  have:∀j,j<=k->val ((limbs a).take j)=0:=by
   intro j
   induction j with
   |zero=>intro _;rfl
   |succ j ih=>intro hj;rw [Qac _ j,ih (by omega),h0 j (by omega)];simp
  exact this k (Nat.le_refl _)
 rw [h2,Nat.zero_add,Qab,Qbm hk,Qef,hv]at h1;obtain⟨m,hm⟩:=hz;generalize val ((limbs a).drop (k+1))=r at h1;have e1:2^(32*k+z)=P k*2^z:=by rw [Nat.pow_add,Nat.pow_mul];rfl
 obtain⟨u,hu⟩:∃u,2^(31-z)=u:=⟨_,rfl⟩;have e2:4294967296=2^z*(2*u):=by rw [<-hu,<-Nat.mul_assoc,Nat.mul_right_comm,<-Nat.pow_add,<-Nat.pow_succ,show z+(31-z)=31 from by omega]
 refine⟨m+u*r,?_⟩;rw [e1,h1,hm,e2]
 grind
theorem Qnc{l:List Nat}{j s:Nat}(hl:Lim l)(hlen:l.length<=j+3)(hs:s<=32):
 val l / (P j*2^(32-s))=(l.getD (j+2) 0*4294967296+l.getD (j+1) 0)*2^s+l.getD j 0 / 2^(32-s):=by
 have h1:val l=val (l.take (j+3)):=by rw [List.take_of_length_le hlen]
 rw [Qac l (j+2),Qac l (j+1),Qac l j]at h1;have hlt:val (l.take j)<P j:=by
  have h2:=Qbg (hl.take j);exact Nat.lt_of_lt_of_le h2 (Qjl (by rw [List.length_take];omega))
 generalize l.getD (j+2) 0=x2 at*
 generalize l.getD (j+1) 0=x1 at*
 generalize l.getD j 0=x0 at*
 obtain⟨u,hu⟩:∃u,2^(32-s)=u:=⟨_,rfl⟩;obtain⟨t,ht⟩:∃t,2^s=t:=⟨_,rfl⟩;have htu:u*t=4294967296:=by rw [<-ht,<-hu,<-Nat.pow_add,show 32-s+s=32 from by omega]
 have hu0:0<u:=by rw [<-hu];exact pow_pos (by decide)
 rw [hu,ht,<-Nat.div_div_eq_div_mul];have h3:val l=val (l.take j)+P j*(x0+u*((x2*4294967296+x1)*t)):=by
  rw [h1,Qa2 (j+1),Qa2 j];have e:u*((x2*4294967296+x1)*t)=4294967296*(x2*4294967296+x1):=by rw [<-htu];grind
  rw [e]
  grind
 rw [h3,Nat.add_mul_div_left _ _ (Qhg j),Nat.div_eq_of_lt hlt,Nat.zero_add,Nat.add_mul_div_left _ _ hu0];omega
theorem Qk6{L l r:List Nat}{k N a b p m br d br' v w Pk Mk:Nat}(hk:k<N)(h:L.length=N/\Lim L/\(∀i,k<=i->L.getD i 0=l.getD i 0)/\val (L.take k)+b*val (r.take k)+P k*p=a*val (l.take k)+P k*(br+m))
 (hv:l.getD k 0=v)(hw:r.getD k 0=w)(hd:d<4294967296)(hP:Pk=a*v+p)(hM:Mk=b*w+m)(he:d+Mk%4294967296+br=Pk%4294967296+4294967296*br'):
 (L.set k d).length=N/\Lim (L.set k d)/\(∀i,k+1<=i->(L.set k d).getD i 0=l.getD i 0)/\
  val ((L.set k d).take (k+1))+b*val (r.take (k+1))+P (k+1)*(Pk / 4294967296)=a*val (l.take (k+1))+P (k+1)*(br'+Mk / 4294967296):=by
 obtain⟨h1,h2,h3,h4⟩:=h;refine⟨by simpa using h1,h2.set k hd,fun i hi=>by rw [getD_set_ne _ (by omega)];exact h3 i (by omega),?_⟩;rw [Qba _ (by omega),Qac l k,Qac r k,Qa2,hv,hw];have e1:=Nat.mod_add_div Pk 4294967296;have e2:=Nat.mod_add_div Mk 4294967296;have e:d+b*w+4294967296*(Pk / 4294967296)+br+m=a*v+p+4294967296*(br'+Mk / 4294967296):=by omega
 have e3:P k*d+P k*(b*w)+P k*4294967296*(Pk / 4294967296)+P k*(br+m)=P k*(a*v)+P k*p+P k*4294967296*(br'+Mk / 4294967296):=by
  have:=congrArg (P k* ·) e;simp only [Nat.mul_add]at this⊢;simp only [Nat.mul_assoc]at this⊢;omega
 rw [Nat.mul_add b,Nat.mul_add a,Nat.mul_left_comm b (P k) w,Nat.mul_left_comm a (P k) v];omega
def Rel(H N x y a b c d cnt:Nat):Prop:=
 (cnt%2=0/\x+b*N=a*H/\y+c*H=d*N/\a*d=b*c+1)\/(cnt%2=1/\x+a*H=b*N/\y+d*N=c*H/\b*c=a*d+1)
theorem Rel.start(H N:Nat):Rel H N H N 1 0 0 1 0:=.inl ⟨rfl,by omega,by omega,rfl⟩
theorem Rel.step{H N x y a b c d cnt q y':Nat}(h:Rel H N x y a b c d cnt)(hq:x=q*y+y'):Rel H N y y' c d (a+q*c) (b+q*d) (cnt+1):=by
 rcases h with⟨h0,h1,h2,h3⟩|⟨h0,h1,h2,h3⟩
 ·refine .inr ⟨by omega,h2,?_,?_⟩
  ·have e:q*(y+c*H)=q*(d*N):=by rw [h2]
   rw [Nat.add_mul,Nat.add_mul,Nat.mul_assoc,Nat.mul_assoc];rw [Nat.mul_add]at e;omega
  ·rw [Nat.mul_add,Nat.mul_add,Nat.mul_comm d a,h3,Nat.mul_comm c b,Nat.mul_left_comm c q d,Nat.mul_left_comm d q c,Nat.mul_comm d c];omega
 ·refine .inl ⟨by omega,h2,?_,?_⟩
  ·have e:q*(y+d*N)=q*(c*H):=by rw [h2]
   rw [Nat.add_mul,Nat.add_mul,Nat.mul_assoc,Nat.mul_assoc];rw [Nat.mul_add]at e;omega
  ·rw [Nat.mul_add,Nat.mul_add,Nat.mul_comm c b,h3,Nat.mul_comm d a,Nat.mul_left_comm c q d,Nat.mul_left_comm d q c,Nat.mul_comm d c];omega
theorem Rel.weight{H N x y a b c d cnt:Nat}(h:Rel H N x y a b c d cnt):d*x+b*y=H:=by
 rcases h with⟨_,h1,h2,h3⟩|⟨_,h1,h2,h3⟩
 ·have e1:d*(x+b*N)=d*(a*H):=by rw [h1]
  have e2:b*(y+c*H)=b*(d*N):=by rw [h2]
  rw [Nat.mul_add]at e1 e2;have e3:d*(a*H)=b*(c*H)+H:=by rw [<-Nat.mul_assoc,Nat.mul_comm d a,h3,Nat.add_mul,Nat.one_mul,Nat.mul_assoc]
  have e4:d*(b*N)=b*(d*N):=Nat.mul_left_comm ..;omega
 ·have e1:d*(x+a*H)=d*(b*N):=by rw [h1]
  have e2:b*(y+d*N)=b*(c*H):=by rw [h2]
  rw [Nat.mul_add]at e1 e2;have e3:b*(c*H)=d*(a*H)+H:=by rw [<-Nat.mul_assoc,h3,Nat.add_mul,Nat.one_mul,Nat.mul_comm a d,Nat.mul_assoc]
  have e4:d*(b*N)=b*(d*N):=Nat.mul_left_comm ..;omega
theorem Rel.weight'{H N x y a b c d cnt:Nat}(h:Rel H N x y a b c d cnt):c*x+a*y=N:=by
 rcases h with⟨_,h1,h2,h3⟩|⟨_,h1,h2,h3⟩
 ·have e1:c*(x+b*N)=c*(a*H):=by rw [h1]
  have e2:a*(y+c*H)=a*(d*N):=by rw [h2]
  rw [Nat.mul_add]at e1 e2;have e3:a*(d*N)=c*(b*N)+N:=by rw [<-Nat.mul_assoc,h3,Nat.add_mul,Nat.one_mul,Nat.mul_comm b c,Nat.mul_assoc]
  have e4:c*(a*H)=a*(c*H):=Nat.mul_left_comm ..;omega
 ·have e1:c*(x+a*H)=c*(b*N):=by rw [h1]
  have e2:a*(y+d*N)=a*(c*H):=by rw [h2]
  rw [Nat.mul_add]at e1 e2;have e3:c*(b*N)=a*(d*N)+N:=by rw [<-Nat.mul_assoc,Nat.mul_comm c b,h3,Nat.add_mul,Nat.one_mul,Nat.mul_assoc]
  have e4:c*(a*H)=a*(c*H):=Nat.mul_left_comm ..;omega
theorem Rel.gcd{X Y x y a b c d cnt:Nat}(h:Rel X Y x y a b c d cnt):Nat.gcd x y=Nat.gcd X Y:=by
 have hw:=h.weight;have hw':=h.weight';apply Nat.dvd_antisymm
 ·have h1:=Nat.gcd_dvd_left x y
  have h2:=Nat.gcd_dvd_right x y;apply Nat.dvd_gcd
  ·conv=>rhs;rw [<-hw]
   exact Nat.dvd_add (Nat.dvd_mul_left_of_dvd h1 _) (Nat.dvd_mul_left_of_dvd h2 _)
  ·conv=>rhs;rw [<-hw']
   exact Nat.dvd_add (Nat.dvd_mul_left_of_dvd h1 _) (Nat.dvd_mul_left_of_dvd h2 _)
 ·have h1:=Nat.gcd_dvd_left X Y
  have h2:=Nat.gcd_dvd_right X Y;have key:∀ {u v r:Nat},r+v=u->Nat.gcd X Y∣u->Nat.gcd X Y∣v->Nat.gcd X Y∣r:=fun {u v r} e hu hv=>by
   have:r=u-v:=by omega
   rw [this];exact Nat.dvd_sub hu hv
  rcases h with⟨_,e1,e2,_⟩|⟨_,e1,e2,_⟩
  ·exact Nat.dvd_gcd (key e1 (Nat.dvd_mul_left_of_dvd h1 _) (Nat.dvd_mul_left_of_dvd h2 _)) (key e2 (Nat.dvd_mul_left_of_dvd h2 _) (Nat.dvd_mul_left_of_dvd h1 _))
  ·exact Nat.dvd_gcd (key e1 (Nat.dvd_mul_left_of_dvd h2 _) (Nat.dvd_mul_left_of_dvd h1 _)) (key e2 (Nat.dvd_mul_left_of_dvd h1 _) (Nat.dvd_mul_left_of_dvd h2 _))
theorem Qju{u v U V E eu ev r:Nat}(h:r+v*V=u*U)(hv:v<=r)(he:ev<E):v*(V*E+ev)<=u*(U*E+eu):=by
 have h1:v*ev<=v*E:=Nat.mul_le_mul_left _ (Nat.le_of_lt he);have h2:(v*V+v)*E<=u*U*E:=Nat.mul_le_mul_right _ (by omega);rw [Nat.mul_add,Nat.mul_add,<-Nat.mul_assoc,<-Nat.mul_assoc];rw [Nat.add_mul]at h2;omega
theorem Qrp{u v U V E eu ev r:Nat}(h:r+v*V=u*U)(hv:v<=r)(hv0:0<v)(he:ev<E):v*(V*E+ev)<u*(U*E+eu):=by
 have h1:v*ev<v*E:=Nat.mul_lt_mul_of_pos_left he hv0;have h2:(v*V+v)*E<=u*U*E:=Nat.mul_le_mul_right _ (by omega);rw [Nat.mul_add,Nat.mul_add,<-Nat.mul_assoc,<-Nat.mul_assoc];rw [Nat.add_mul]at h2;omega
def Cof(a b c d cnt:Nat):Prop:=(cnt=0/\a=1/\b=0/\c=0/\d=1)\/(1<=cnt/\a<=b/\1<=b/\1<=c/\c<=d/\b<=d/\cnt<=d)
theorem Cof.start:Cof 1 0 0 1 0:=.inl ⟨rfl,rfl,rfl,rfl,rfl⟩
theorem Cof.step{a b c d cnt q:Nat}(h:Cof a b c d cnt)(hq:1<=q):Cof c d (a+q*c) (b+q*d) (cnt+1):=by
 rcases h with⟨rfl,rfl,rfl,rfl,rfl⟩|⟨h1,h2,h3,h4,h5,h6,h7⟩
 ·refine .inr ⟨by omega,by omega,by omega,by omega,by omega,by omega,by omega⟩
 ·have e1:q*c<=q*d:=Nat.mul_le_mul_left _ h5
  have e2:d<=q*d:=Nat.le_mul_of_pos_left _ hq;have e3:c<=q*c:=Nat.le_mul_of_pos_left _ hq;refine .inr ⟨by omega,by omega,by omega,by omega,by omega,by omega,by omega⟩
theorem Cof.le{a b c d cnt:Nat}(h:Cof a b c d cnt):c<=d/\b<=d/\1<=d/\a<=d/\cnt<=d:=by
 rcases h with⟨rfl,rfl,rfl,rfl,rfl⟩|⟨h1,h2,h3,h4,h5,h6,h7⟩
 ·omega
 ·omega
theorem accept{H N X Y E eX eY hi ne a b c d cnt:Nat}(hX:X=H*E+eX)(hY:Y=N*E+eY)(heX:eX<E)(heY:eY<E)(hR:Rel H N hi ne a b c d cnt)(hC:Cof a b c d cnt)(h1:d<=ne)(h2:b+d<=hi-ne)(h3:ne<=hi):
 ∃x y,Rel X Y x y a b c d cnt/\y<x:=by
 have hC':=hC.le;rcases hR with⟨h0,e1,e2,e3⟩|⟨h0,e1,e2,e3⟩
 ·have f1:b*Y<=a*X:=by rw [hX,hY];exact Qju e1 (by omega) heY
  have f2:c*X<=d*Y:=by rw [hX,hY];exact Qju e2 (by omega) heX
  have f3:(b+d)*Y<(a+c)*X:=by
   rw [hX,hY];refine Qrp (r:=hi-ne) ?_ h2 (by omega) heY;rw [Nat.add_mul,Nat.add_mul];omega
  rw [Nat.add_mul,Nat.add_mul]at f3;exact⟨a*X-b*Y,d*Y-c*X,.inl ⟨h0,by omega,by omega,e3⟩,by omega⟩
 ·have hC2:1<=cnt/\a<=b/\1<=b/\1<=c/\c<=d/\b<=d/\cnt<=d:=by
   rcases hC with⟨rfl,_⟩|h
   ·omega
   ·exact h
  have f1:a*X<=b*Y:=by rw [hX,hY];exact Qju e1 (by omega) heX
  have f2:d*Y<=c*X:=by rw [hX,hY];exact Qju e2 (by omega) heY
  have f3:(a+c)*X<(b+d)*Y:=by
   rw [hX,hY];refine Qrp (r:=hi-ne) ?_ (by omega) (by omega) heX;rw [Nat.add_mul,Nat.add_mul];omega
  rw [Nat.add_mul,Nat.add_mul]at f3;exact⟨b*Y-a*X,c*X-d*Y,.inr ⟨h0,by omega,by omega,e3⟩,by omega⟩
theorem Qk7{H N hi ne a b c d cnt:Nat}(hR:Rel H N hi ne a b c d cnt)(hC:Cof a b c d cnt)(h1:d<=ne)(h3:ne<=hi)(hH:H<18446744073709551616):d<4294967296:=by
 have hw:=hR.weight;rcases Nat.lt_or_ge d 4294967296 with h|h
 ·exact h
 ·exfalso
  have e1:4294967296*4294967296<=d*hi:=Nat.mul_le_mul h (by omega);omega
end Go.Proofs.YthbhgelncdnmgaaGreatDoor
