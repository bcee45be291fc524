import Derived.Test.YthbhgelncdnmgaaGreatDoorY09
import Derived.Test.YthbhgelncdnmgaaGreatDoorY10
set_option linter.unusedVariables false
set_option linter.unusedSimpArgs false
set_option maxRecDepth 20000
set_option maxHeartbeats 2000000
namespace Go.Proofs.YthbhgelncdnmgaaGreatDoor
open Go.Proofs.Tryz
open Lib (hid)
open Nat (le_refl eq_zero_or_pos mod_lt le_of_lt div_le_self pos_of_ne_zero)
open Go.RowKit
def RetNum(w0:World)(a:Nat)(e:Ending)(w':World):Prop:=∃A n c,e=.returned (.slice A n c)/\Num w' (limbs a) A n c/\Below w0.heap.size w0 w'
def RetNum2(w0:World)(a b:Nat)(e:Ending)(w':World):Prop:=
 ∃A n c A' n' c',e=.returned (.tuple #[.slice A n c,.slice A' n' c'])/\Num w' (limbs a) A n c/\Num w' (limbs b) A' n' c'/\Below w0.heap.size w0 w'
theorem Qg4(A A':Option Addr)(n c m c' X Y:Nat)(w:World)(hx:Num w (limbs X) A n c)(hy:Num w (limbs Y) A' m c')(hn:n<=268435456)(hm:m<=268435456)(hY:Y≠0):
 Calls prog 247 #[.slice A n c,.slice A' m c'] w (RetNum w (X / Y)):=by
 by_cases h1:Y=1
 ·have HO:Hid (decide (limbs Y=[1])=true):=decide_eq_true (Qa1.2 h1)
  have HV:Hid (X / Y=X):=by show _=_;rw [h1,Nat.div_one]
  clear h1;go_enter func247,ntmps247;go_wp2_with fail
  refine(Qbw _ _ _ _ _ true hy (by omega) HO).mono ?_;rintro e w' ⟨rfl,rfl⟩;go_wp2_with fail
  go_ret;rw [HV.out];exact⟨_,_,_,rfl,hx,Below.refl _ _⟩
 ·have HO:Hid (decide (limbs Y=[1])=false):=decide_eq_false (fun h=>h1 (Qa1.1 h))
  have HY:=hid hY;clear h1 hY;go_enter func247,ntmps247;go_wp2_with fail
  refine(Qbw _ _ _ _ _ false hy (by omega) HO).mono ?_;rintro e w' ⟨rfl,rfl⟩;go_wp2_with fail
  refine(Qc3 _ _ _ _ _ _ X Y _ hx hy hn hm HY.out).mono ?_;rintro e w1 ⟨A1,n1,c1,A2,n2,c2,rfl,h1,h2,hb⟩;go_wp2_with fail
  go_ret;exact⟨_,_,_,rfl,h1.num,hb⟩
theorem Qgg(A A':Option Addr)(n c m c' X Y:Nat)(w:World)(hT:Tab w)(hx:Num w (limbs X) A n c)(hy:Num w (limbs Y) A' m c')(hn:n<=8388608)(hm:m<=8388608)(hXY:¬(X=0/\Y=0)):
 Calls prog 248 #[.slice A n c,.slice A' m c'] w (RetNum2 w (X / Nat.gcd X Y) (Y / Nat.gcd X Y)):=by
 have hG0:Nat.gcd X Y≠0:=fun h=>hXY ⟨Nat.eq_zero_of_gcd_eq_zero_left h,Nat.eq_zero_of_gcd_eq_zero_right h⟩
 have HG0:=hid hG0;by_cases h1:X=1
 ·have HO:Hid (decide (limbs X=[1])=true):=decide_eq_true (Qa1.2 h1)
  have HV:Hid (Nat.gcd X Y=1):=by show _=_;rw [h1,Nat.gcd_one_left]
  clear h1 hXY hG0;go_enter func248,ntmps248;go_wp2_with fail
  refine(Qbw _ _ _ _ _ true hx (by omega) HO).mono ?_;rintro e w' ⟨rfl,rfl⟩;go_wp2_with fail
  go_ret2
  rw [HV.out,Nat.div_one,Nat.div_one];exact⟨_,_,_,_,_,_,rfl,hx,hy,Below.refl _ _⟩
 ·have HO:Hid (decide (limbs X=[1])=false):=decide_eq_false (fun h=>h1 (Qa1.1 h))
  by_cases h2:Y=1
  ·have HO2:Hid (decide (limbs Y=[1])=true):=decide_eq_true (Qa1.2 h2)
   have HV:Hid (Nat.gcd X Y=1):=(by show _=_;rw [h2,Nat.gcd_one_right]);clear h1 h2 hXY hG0;go_enter func248,ntmps248;go_wp2_with fail
   refine(Qbw _ _ _ _ _ false hx (by omega) HO).mono ?_;rintro e w' ⟨rfl,rfl⟩;go_wp2_with fail
   refine(Qbw _ _ _ _ _ true hy (by omega) HO2).mono ?_;rintro e w' ⟨rfl,rfl⟩;go_wp2_with fail
   go_ret2
   rw [HV.out,Nat.div_one,Nat.div_one];exact⟨_,_,_,_,_,_,rfl,hx,hy,Below.refl _ _⟩
  ·have HO2:Hid (decide (limbs Y=[1])=false):=decide_eq_false (fun h=>h2 (Qa1.1 h))
   have HGL:Hid ((limbs (Nat.gcd X Y)).length<=8388608):=by
    show _<=_;rcases eq_zero_or_pos X with h|h
    ·rw [h,Nat.gcd_zero_left,<-hy.len];exact hm
    ·have:=Qad (Nat.le_of_dvd h (Nat.gcd_dvd_left X Y))
     have:=hx.len;omega
   clear h1 h2 hXY hG0;go_enter func248,ntmps248;go_wp2_with fail
   refine(Qbw _ _ _ _ _ false hx (by omega) HO).mono ?_;rintro e w' ⟨rfl,rfl⟩;go_wp2_with fail
   refine(Qbw _ _ _ _ _ false hy (by omega) HO2).mono ?_;rintro e w' ⟨rfl,rfl⟩;go_wp2_with fail
   refine(Qe5 _ _ _ _ _ _ X Y _ hT hx hy hn hm).mono ?_;rintro e w1 ⟨A1,n1,c1,rfl,ho1,hb1⟩;have hn1:n1<=8388608:=(by rw [ho1.len];exact HGL.out);go_wp2_with fail
   refine(Qg4 _ _ _ _ _ _ X _ _ (hx.below hb1) ho1.num (by omega) (by omega) HG0.out).mono ?_;rintro e w2 ⟨A2,n2,c2,rfl,h2,hb2⟩;have hb12:=bt hb1 hb2;go_wp2_with fail
   refine(Qg4 _ _ _ _ _ _ Y _ _ (hy.below hb12) (ho1.num.below hb2) (by omega) (by omega) HG0.out).mono ?_;rintro e w3 ⟨A3,n3,c3,rfl,h3,hb3⟩;go_wp2_with fail
   go_ret2
   exact⟨_,_,_,_,_,_,rfl,h2.below hb3,h3,bt hb12 hb3⟩
def dl(d:Nat):List Nat:=if d=1 then []else limbs d
def RatN(w:World)(v:Value)(neg:Bool)(a d:Nat):Prop:=∃A n c A' m c',v=.agg #[.bool neg,.slice A n c,.slice A' m c']/\Num w (limbs a) A n c/\Num w (dl d) A' m c'
def RetFrac(w0:World)(neg:Bool)(a d:Nat)(e:Ending)(w':World):Prop:=∃v,e=.returned v/\RatN w' v (neg && decide (a≠0)) a (if a=0 then 1 else d)/\Below w0.heap.size w0 w'
def Rc(w:World)(g:Nat)(z0 z1 z2:Value):Prop:=w.heap[g]? =some (.cells #[z0,z1,z2] 27 (0,0))
theorem Rc.lt{w:World}{g:Nat}{z0 z1 z2:Value}(h:Rc w g z0 z1 z2):g<w.heap.size:=Qas h
theorem Rc.new(w:World)(z0 z1 z2:Value):Rc (w.alloc (.cells #[z0,z1,z2] 27)) w.heap.size z0 z1 z2:=heap_alloc_new w _
theorem Rc.below{w w':World}{B g:Nat}{z0 z1 z2:Value}(h:Rc w g z0 z1 z2)(hb:Below B w w')(hg:g<B):Rc w' g z0 z1 z2:=(hb.block g hg).trans h
theorem Rc.drewN{w:World}{g:Nat}{z0 z1 z2:Value}(h:Rc w g z0 z1 z2)(n:Nat):Rc (w.drewN n) g z0 z1 z2:=h
theorem Rc.alloc{w:World}{g:Nat}{z0 z1 z2:Value}(h:Rc w g z0 z1 z2)(o:Obj):Rc (w.alloc o) g z0 z1 z2:=(Below.heap_alloc w o g h.lt).trans h
theorem Rc.far{w:World}{g:Nat}{z0 z1 z2:Value}(h:Rc w g z0 z1 z2){p:Addr}(hp:g≠p.block)(u:Value):Rc (w.setCell p u) g z0 z1 z2:=(Below.heap_setCell w p u g hp).trans h
theorem Rc.cells{w:World}{g:Nat}{z0 z1 z2:Value}(h:Rc w g z0 z1 z2):w.cell? ⟨g,0,none⟩=some z0/\w.cell? ⟨g,1,none⟩=some z1/\w.cell? ⟨g,2,none⟩=some z2:=by
 refine⟨?_,?_,?_⟩<;>(rw [cell_of_row w g _ _ _ _ h];rfl)
theorem Rc.frozen{w:World}{g:Nat}{z0 z1 z2:Value}(h:Rc w g z0 z1 z2):w.frozen? ⟨g,0,none⟩=false/\w.frozen? ⟨g,1,none⟩=false/\w.frozen? ⟨g,2,none⟩=false:=
 ⟨frozen_of_row w g 0 _ _ h,frozen_of_row w g 1 _ _ h,frozen_of_row w g 2 _ _ h⟩
theorem Rc.set{w:World}{g:Nat}{z0 z1 z2:Value}(h:Rc w g z0 z1 z2)(u0 u1 u2:Value):Rc (((w.setCell ⟨g,0,none⟩ u0).setCell ⟨g,1,none⟩ u1).setCell ⟨g,2,none⟩ u2) g u0 u1 u2:=
 heap_setCell_same _ g 2 _ _ _ (heap_setCell_same _ g 1 _ _ _ (heap_setCell_same w g 0 _ _ _ h))
theorem Qa8{fn:Func}{p:Tmp}(hres:fn.results=#[.cell p 27]){R:Ending->World->Prop}{a:Act}{w:World}{g:Nat}{z0 z1 z2:Value}(hp:a.tmps.getD p undef=.pointer (some ⟨g,0,none⟩))(h:Rc w g z0 z1 z2)(hd:a.defers=[])
 (hR:R (.returned (.agg #[z0,z1,z2])) w):bodyPost prog fn R .ret a w:=
 bodyPost_ret (results_cell_row (P:=prog) hres _ _ g 27 _ (0,0) _ hp h underlying27 rfl (by kernel_rfl)) hd hR
theorem Qai{B:Nat}{a w:World}(h:Below B a w){g:Nat}(hg:B<=g)(u0 u1 u2:Value):Below B a (((w.setCell ⟨g,0,none⟩ u0).setCell ⟨g,1,none⟩ u1).setCell ⟨g,2,none⟩ u2):=
 ((h.setCell (p:=⟨g,0,none⟩) hg _).setCell (p:=⟨g,1,none⟩) hg _).setCell (p:=⟨g,2,none⟩) hg _
theorem Num.ne_rc{w:World}{l:List Nat}{A:Option Addr}{n c g:Nat}(h:Num w l A n c){x:Bool}{B1 B2:Option Addr}{n1 c1 n2 c2:Nat}(hr:Rc w g (.bool x) (.slice B1 n1 c1) (.slice B2 n2 c2)):0<n->∀a,A=some a->a.block≠g:=by
 intro hn a ha e;obtain⟨b,o,y,hA,_,_,_,hc⟩:=h.at_ hn;rw [ha]at hA;cases hA;simp only at e;subst e;rw [cell_of_row w b _ _ _ _ hr]at hc
 match o,hc with
 |0,hc=>simp at hc
 |1,hc=>simp at hc
 |2,hc=>simp at hc
 |k+3,hc=>simp at hc
theorem Num.set3{w:World}{l:List Nat}{A:Option Addr}{n c:Nat}(h:Num w l A n c){g:Nat}(hA:0<n->∀a,A=some a->a.block≠g)(u0 u1 u2:Value):Num (((w.setCell ⟨g,0,none⟩ u0).setCell ⟨g,1,none⟩ u1).setCell ⟨g,2,none⟩ u2) l A n c:=
 ⟨h.len,h.cap,h.lim,fun hn=>by
  obtain⟨b,o,hA',hb,hc⟩:=h.cells hn;have hne:=hA hn _ hA';refine⟨b,o,hA',by simpa [World.setCell] using hb,fun k x hx=>?_⟩;rw [World.cell?_setCell_other _ _ _ _ (fun e=>hne (by injection e with e1;exact e1.symm)),World.cell?_setCell_other _ _ _ _ (fun e=>hne (by injection e with e1;exact e1.symm)),World.cell?_setCell_other _ _ _ _ (fun e=>hne (by injection e with e1;exact e1.symm))];exact hc k x hx⟩
theorem Qcr(neg:Bool)(A A':Option Addr)(n c m c' a d:Nat)(ld:List Nat)(w:World)(hx:Num w (limbs a) A n c)(hy:Num w ld A' m c')(hn:n<=268435456)(hm:m<=268435456)(hld:ld=limbs d\/(ld=[]/\d=1)):
 Calls prog 208 #[.bool neg,.slice A n c,.slice A' m c'] w (RetFrac w neg a d):=by
 have hbA:∀o,Below w.heap.size w (w.alloc o):=fun o=>(Below.refl _ _).alloc (le_refl _) _
 by_cases h0:n=0
 ·have ha:a=0:=Qae.1 (by rw [<-hx.len];exact h0)
  subst h0;have HA:=hid ha;clear ha hld;go_enter func208,ntmps208;go_wp2_with fail
  refine bodyPost_ret (v:=.agg #[.bool false,.slice none 0 0,.slice none 0 0]) (by simp [results,results208,go_sem]) rfl ?_;rw [HA.out];exact⟨_,rfl,⟨none,0,0,none,0,0,by simp,by rw [Qaf];exact Num.nil _ _ _,by rw [if_pos rfl];exact Num.nil _ _ _⟩,hbA _⟩
 ·have ha:a≠0:=fun h=>h0 (by rw [hx.len,h,Qaf];rfl)
  have hn0:((n:Int)==0)=false:=by simp;omega
  have HA:=hid ha;by_cases h1:ld=[1]
  ·have HO:Hid (decide (ld=[1])=true):=decide_eq_true h1
   have HD:Hid (d=1):=by
    show _=_;rcases hld with h|⟨_,h⟩
    ·exact Qa1.1 (by rw [<-h];exact h1)
    ·exact h
   clear ha hld h1;go_enter func208,ntmps208;go_wp2_with fail
   refine(Qbw _ _ _ _ _ true (hy.below (hbA _)) (by omega) HO).mono ?_;rintro e w' ⟨rfl,rfl⟩;go_wp2_with fail
   refine Qa8 results208 rfl (Rc.new w _ _ _) rfl ?_;exact⟨_,rfl,⟨A,n,c,none,0,0,by rw [decide_eq_true HA.out,Bool.and_true],hx.below (hbA _),by rw [if_neg HA.out,HD.out];exact Num.nil _ _ _⟩,hbA _⟩
  ·have HO:Hid (decide (ld=[1])=false):=decide_eq_false h1
   have HD:Hid (ld=dl d):=by
    show _=_;unfold dl;rcases hld with h|⟨h,h'⟩
    ·rw [if_neg (fun h2=>h1 (by rw [h,h2,Qay])),h]
    ·rw [if_pos h',h]
   clear ha hld h1;go_enter func208,ntmps208;go_wp2_with fail
   refine(Qbw _ _ _ _ _ false (hy.below (hbA _)) (by omega) HO).mono ?_;rintro e w' ⟨rfl,rfl⟩;go_wp2_with fail
   refine Qa8 results208 rfl (Rc.new w _ _ _) rfl ?_;exact⟨_,rfl,⟨A,n,c,A',m,c',by rw [decide_eq_true HA.out,Bool.and_true],hx.below (hbA _),by rw [if_neg HA.out,<-HD.out];exact hy.below (hbA _)⟩,hbA _⟩
def RetBal(w0:World)(V:Int)(e:Ending)(w':World):Prop:=
 ∃(neg:Bool) (t:Nat) (A:Option Addr) (n c:Nat),e=.returned (.tuple #[.bool neg,.slice A n c])/\(if neg then -(t:Int)else(t:Int))=V/\Num w' (limbs t) A n c/\Below w0.heap.size w0 w'
theorem Qgs(nx ny:Bool)(A A':Option Addr)(n c m c' a b:Nat)(w:World)(hx:Num w (limbs a) A n c)(hy:Num w (limbs b) A' m c')(hn:n<=268435456)(hm:m<=268435456):
 Calls prog 246 #[.bool nx,.slice A n c,.bool ny,.slice A' m c'] w (RetBal w (sgn nx a+sgn ny b)):=by
 by_cases he:nx=ny
 ·subst he
  have hbb:(nx==nx)=true:=by simp
  go_enter func246,ntmps246;go_wp2_with fail
  refine(Qxy _ _ _ _ _ _ a b _ hx hy (by omega) (by omega)).mono ?_;rintro e w1 ⟨A1,n1,c1,rfl,h1,hb⟩;go_wp2_with fail
  go_ret2
  exact⟨nx,a+b,_,_,_,rfl,by unfold sgn;cases nx<;>simp<;>omega,h1.num,hb⟩
 ·have hny:ny=!nx:=by cases nx<;>cases ny<;>simp_all
  subst hny;clear he;have hbb:(nx==!nx)=false:=by cases nx<;>rfl
  by_cases hlt:a<b
  ·have HC:Hid (cmpI (a:Int) (b:Int)= -1):=Qb2 (by omega)
   have HLT:=hid hlt;clear hlt;go_enter func246,ntmps246;go_wp2_with fail
   refine(Qcm _ _ _ _ _ _ a b _ (-1) hx hy (by omega) (by omega) HC).mono ?_;rintro e w' ⟨rfl,q,rfl⟩;go_wp2_with fail
   refine(Qe0 _ _ _ _ _ _ b a _ (hy.drewN q) (hx.drewN q) (by omega) (le_of_lt HLT.out)).mono ?_;rintro e w1 ⟨A1,n1,c1,rfl,h1,hb⟩;go_wp2_with fail
   go_ret2
   have:=HLT.out;exact⟨!nx,b-a,_,_,_,rfl,by unfold sgn;cases nx<;>simp<;>omega,h1.num,(Qa6 w q _).trans hb⟩
  ·obtain⟨v,hv⟩:∃v,cmpI (a:Int) (b:Int)=v:=⟨_,rfl⟩
   have hv0:0<=v:=(by rw [<-hv];unfold cmpI;rw [if_neg (by omega)];split<;>omega);have hd:decide (v<0)=false:=(by simp;omega);have HC:=hid hv;clear hv;have HLT:=hid hlt;clear hlt;go_enter func246,ntmps246;go_wp2_with fail
   refine(Qcm _ _ _ _ _ _ a b _ v hx hy (by omega) (by omega) HC).mono ?_;rintro e w' ⟨rfl,q,rfl⟩;go_wp2_with fail
   refine(Qe0 _ _ _ _ _ _ a b _ (hx.drewN q) (hy.drewN q) (by omega) (by have:=HLT.out;omega)).mono ?_;rintro e w1 ⟨A1,n1,c1,rfl,h1,hb⟩;go_wp2_with fail
   go_ret2
   have:=HLT.out;exact⟨nx,a-b,_,_,_,rfl,by unfold sgn;cases nx<;>simp<;>omega,h1.num,(Qa6 w q _).trans hb⟩
def RatQ(w:World)(v:Value)(q:Rat):Prop:=RatN w v (decide (q.num<0)) q.num.natAbs q.den
def RetRat(w0:World)(q:Rat)(e:Ending)(w':World):Prop:=∃v,e=.returned v/\RatQ w' v q/\Below w0.heap.size w0 w'
theorem RetFrac.rat{w0:World}{neg:Bool}{a d:Nat}{q:Rat}(hd:d≠0)(hg:Nat.gcd a d=1)(hq:qv neg a d=q){e:Ending}{w':World}(h:RetFrac w0 neg a d e w'):RetRat w0 q e w':=by
 obtain⟨v,rfl,h1,hb⟩:=h;refine⟨v,rfl,?_,hb⟩;rw [<-hq];unfold RatQ;rw [(Qc5 hd hg).1,(Qc5 hd hg).2,Qe6,Qjz];by_cases ha:a=0
 ·rw [if_pos ha]at h1
  have:d=1:=by rw [ha,Nat.gcd_zero_left]at hg;exact hg
  rw [this];exact h1
 ·rw [if_neg ha]at h1;exact h1
theorem Qlb:dl 1=[]:=rfl
theorem Qa0(a b:Nat):(limbs (a*b)).length<=(limbs a).length+(limbs b).length:=by
 refine Qax ?_;rw [Qra];exact Nat.mul_lt_mul'' (Qap a) (Qap b)
theorem Qj1{d:Nat}(h:d≠1):dl d=limbs d:=if_neg h
theorem Qar(neg:Bool)(A A':Option Addr)(n c m c' d:Nat)(w:World)(hy:Num w (dl d) A' m c')(hd:d≠0):
 Calls prog 221 #[.agg #[.bool neg,.slice A n c,.slice A' m c']] w (RetNum w d):=by
 have hbA:Below w.heap.size w (w.alloc (.cells #[.bool neg,.slice A n c,.slice A' m c'] 27)):=(Below.refl _ _).alloc (le_refl _) _;by_cases h1:d=1
 ·have hm:m=0:=by rw [hy.len,h1,Qlb];rfl
  subst hm;have H1:=hid h1;clear h1 hd;go_enter func221,ntmps221;go_wp2_with fail
  refine(Qxu _).mono ?_;rintro e w1 ⟨A1,n1,c1,rfl,h1,hb⟩;go_wp2_with fail
  go_ret;exact⟨_,_,_,rfl,by rw [H1.out,Qay];exact h1.num,bt hbA hb⟩
 ·have hy2:Num w (limbs d) A' m c':=by rw [<-Qj1 h1];exact hy
  have hm:m≠0:=by
   rw [hy2.len];exact fun e=>hd (Qae.1 e)
  have hm0:((m:Int)==0)=false:=by simp;omega
  clear h1 hd hy;go_enter func221,ntmps221;go_wp2_with fail
  go_ret;exact⟨_,_,_,rfl,hy2.below hbA,hbA⟩
theorem Qgt(neg:Bool)(A1 A2 A3 A4:Option Addr)(n1 c1 n2 c2 n3 c3 n4 c4 a b c d:Nat)(q:Rat)(w:World)(hT:Tab w)(h1:Num w (limbs a) A1 n1 c1)(h2:Num w (limbs b) A2 n2 c2)(h3:Num w (limbs c) A3 n3 c3)(h4:Num w (limbs d) A4 n4 c4)
 (hn1:n1<=8388608)(hn2:n2<=8388608)(hn3:n3<=8388608)(hn4:n4<=8388608)(hb:b≠0)(hd:d≠0)(hg1:Nat.gcd a b=1)(hg2:Nat.gcd c d=1)(hq:qv neg (a*c) (b*d)=q):
 Calls prog 222 #[.bool neg,.slice A1 n1 c1,.slice A2 n2 c2,.slice A3 n3 c3,.slice A4 n4 c4] w (RetRat w q):=by
 obtain⟨k1,k2,k3⟩:=Qva (x:=neg) hb hd hg1 hg2;have k4:(c / Nat.gcd c b=c / Nat.gcd c b):=rfl;rw [hq]at k1;have K1:=hid k1;have K2:=hid k2;have K3:=hid k3;have HB:=hid hb;have HD:=hid hd;clear k1 k2 k3 hb hd hg1 hg2 hq k4;have hbA:Below w.heap.size w (w.alloc (.cells #[.bool false,.slice none 0 0,.slice none 0 0] 27)):=(Below.refl _ _).alloc (le_refl _) _;have hrc:=Rc.new w (.bool false) (.slice none 0 0) (.slice none 0 0);go_enter func222,ntmps222;go_wp2_with fail
 refine(Qgg _ _ _ _ _ _ a d _ (hT.below hbA) (h1.below hbA) (h4.below hbA) hn1 hn4 (fun h=>HD.out h.2)).mono ?_;rintro e w1 ⟨B1,m1,e1,B4,m4,e4,rfl,g1,g4,hb1⟩;have hm1:m1<=8388608:=by have:=Qad (div_le_self a (Nat.gcd a d));rw [g1.len];rw [h1.len]at hn1;omega
 have hm4:m4<=8388608:=by have:=Qad (div_le_self d (Nat.gcd a d));rw [g4.len];rw [h4.len]at hn4;omega
 obtain⟨a',ha'⟩:∃x,a / Nat.gcd a d=x:=⟨_,rfl⟩;obtain⟨d',hd'⟩:∃x,d / Nat.gcd a d=x:=⟨_,rfl⟩;simp only [ha',hd']at K1 K2 K3;rw [ha']at g1;rw [hd']at g4;clear ha' hd';go_wp2_with fail
 refine(Qgg _ _ _ _ _ _ c b _ ((hT.below hbA).below hb1) ((h3.below hbA).below hb1) ((h2.below hbA).below hb1) hn3 hn2 (fun h=>HB.out h.2)).mono ?_;rintro e w2 ⟨B3,m3,e3,B2,m2,e2,rfl,g3,g2,hb2⟩;have hm3:m3<=8388608:=by have:=Qad (div_le_self c (Nat.gcd c b));rw [g3.len];rw [h3.len]at hn3;omega
 have hm2:m2<=8388608:=by have:=Qad (div_le_self b (Nat.gcd c b));rw [g2.len];rw [h2.len]at hn2;omega
 obtain⟨c',hc'⟩:∃x,c / Nat.gcd c b=x:=⟨_,rfl⟩;obtain⟨b',hb'⟩:∃x,b / Nat.gcd c b=x:=⟨_,rfl⟩;simp only [hc',hb']at K1 K2 K3;rw [hc']at g3;rw [hb']at g2;clear hc' hb';have hb12:=bt hb1 hb2;go_wp2_with fail
 refine(Qbe _ _ _ _ _ _ a' c' _ (g1.below hb2) g3 (by omega) (by omega)).mono ?_;rintro e w3 ⟨B5,m5,e5,rfl,g5,hb3⟩;have hm5:m5<=16777216:=by
  rw [g5.len];have:=Qa0 a' c';have:=g1.len;have:=g3.len;omega
 have hb13:=bt hb12 hb3;go_wp2_with fail
 refine(Qbe _ _ _ _ _ _ b' d' _ (g2.below hb3) (g4.below (bt hb2 hb3)) (by omega) (by omega)).mono ?_;rintro e w4 ⟨B6,m6,e6,rfl,g6,hb4⟩;have hm6:m6<=16777216:=by
  rw [g6.len];have:=Qa0 b' d';have:=g2.len;have:=g4.len;omega
 have hb14:=bt hb13 hb4;go_wp2_with fail
 refine(Qcr neg _ _ _ _ _ _ _ (b'*d') _ _ (g5.num.below hb4) g6.num (by omega) (by omega) (.inl rfl)).mono ?_;rintro e w5 hr;obtain⟨v,rfl,⟨A7,n7,c7,A8,n8,c8,rfl,g7,g8⟩,hb5⟩:=RetFrac.rat K2.out K3.out K1.out hr;have hb15:=bt hb14 hb5;have hrc2:=hrc.below hb15 (by simp);obtain⟨k0,k1,k2⟩:=hrc2.cells;obtain⟨f0,f1,f2⟩:=hrc2.frozen;have hne7:=g7.ne_rc hrc2;have hne8:=g8.ne_rc hrc2;obtain⟨nb,hnb⟩:∃nb,(decide (q.num<0))=nb:=⟨_,rfl⟩;rw [hnb];have HNB:=hid hnb;clear hnb;go_wp2_with fail
 refine Qa8 results222 rfl (hrc2.set _ _ _) rfl ?_;exact⟨_,rfl,⟨A7,n7,c7,A8,n8,c8,by rw [HNB.out],g7.set3 hne7 _ _ _,g8.set3 hne8 _ _ _⟩,Qai (bt hbA hb15) (le_refl _) _ _ _⟩
theorem OwnR.grew{w:World}{B:Nat}{v:Value}{l:List Nat}(h:OwnR w B v l):∀k,v.ownBlock=some k->B<=k:=fun k hk=>(World.ownsRow.lt h k hk).1
theorem Qvb{v a b p q r t cr:Nat}(h:v+t*cr=a+b)(h1:a<p)(h2:b<q)(h3:p<=r)(h4:q<=r)(h5:t=r*4294967296)(hcr:cr<=1):v=a+b:=by
 rcases eq_zero_or_pos cr with h0|h0
 ·rw [h0]at h;omega
 ·have h1:cr=1:=by omega
  rw [h1]at h;omega
theorem Qor(w:World)(s:Nat):Num (w.alloc (.cells #[.int .u32 ((s:Int)%4294967296)] 97)) [s%4294967296] (some ⟨w.heap.size,0,none⟩) 1 1:=by
 have e:((s:Int)%4294967296)=((s%4294967296:Nat):Int):=by omega
 rw [e];exact(show Row _ _ [s%4294967296]from heap_alloc_new w _).num (Lim.cons (mod_lt _ (by decide)) Lim.nil) rfl (le_refl _)
theorem Qru(A A':Option Addr)(n c n' c' N:Nat)(l r:List Nat)(w:World)(hx:Num w l A n c)(hy:Num w r A' n' c')(hn:n<=100000000)(hn':n'<=100000000)(hN:Hid (N=max n n'))(hmax:max (n:Int) (n':Int)=(N:Int)):
 Calls prog 82 #[.slice A n c,.slice A' n' c'] w (RetOwn w (limbs (val l+val r))):=by
 have hNb:N<=100000000:=by have:=hN.out;omega
 go_enter func82,ntmps82
 go_wp2
 go_loopw [5,6,7] (fun sv sc si wr=> ∃(k cr:Nat) (L:List Nat) (v:Value),k<=N+1/\cr<=1/\sv=v/\sc=.int .u64 cr/\si=.int .i64 k/\OwnR wr w.heap.size v L/\Below w.heap.size w wr/\Hid (L.length=k/\Lim L/\val L+P k*cr=val (l.take k)+val (r.take k)))
  (fun _ _ si _=>N+1-(intOf si).toNat)
 case atStart=>exact⟨0,0,[],_,by omega,by omega,rfl,rfl,rfl,OwnR.nil _ _,Below.refl _ _,show Hid _ from⟨rfl,Lim.nil,by simp [val]⟩⟩
 case round=>
  obtain⟨k,cr,L,v,hk,hcr,rfl,rfl,rfl,hown,hb,HI⟩:=hrel;by_cases hkn:k<=N
  ·have hxw:=hx.below hb
   have hyw:=hy.below hb;obtain⟨x,hx'⟩:∃x,l.getD k 0=x:=⟨_,rfl⟩;obtain⟨y,hy'⟩:∃y,r.getD k 0=y:=⟨_,rfl⟩;have hx4:x<4294967296:=(by rw [<-hx'];exact hx.lim.getD k);have hy4:y<4294967296:=(by rw [<-hy'];exact hy.lim.getD k);have HX:=hid hx';have HY:=hid hy';clear hx' hy';have hkN:(k:Int)<=(N:Int):=(by omega);go_wp2_with fail
   refine(Qoi _ _ _ (k:Int) l _ x hxw (by omega) (by omega) HX).mono ?_;rintro e w' ⟨rfl,rfl⟩;go_wp2_with fail
   refine(Qoi _ _ _ (k:Int) r _ y hyw (by omega) (by omega) HY).mono ?_;rintro e w' ⟨rfl,rfl⟩;obtain⟨s,hs⟩:∃s,x+y+cr=s:=⟨_,rfl⟩;have HS:=hid hs;have hs1:(x:Int)+(y:Int)+(cr:Int)=(s:Int):=(by omega);have hs4:s<8589934592:=(by omega);have hlim:Lim [s%4294967296]:=Lim.cons (mod_lt _ (by decide)) Lim.nil;clear hs;have hnum:=Qor wr s;have hbA:Below w.heap.size w (wr.alloc (.cells #[.int .u32 ((s:Int)%4294967296)] 97)):=hb.alloc hb.size _;have hownA:OwnR (wr.alloc (.cells #[.int .u32 ((s:Int)%4294967296)] 97)) w.heap.size u5 L:=World.ownsRow.alloc hown _;have hLl:L.length+1<=1099511627776:=(by have:=HI.out.1;omega);go_wp2_with (at_builtin;refine Qeh rfl (.tmp 27) (.tmp 30) rfl rfl w.heap.size u5 L [s%4294967296] rfl hownA _ 1 1 rfl hnum hLl hbA.size ?_)
   intro v3 w3 hC3 hg3 hsame;have hb3:=hbA.grown hg3 hbA.size hownA.grew;go_wp2_with fail
   go_roundw
   case rel=>
    refine⟨k+1,s / 4294967296,L++[s%4294967296],v3,by omega,by omega,rfl,congrArg (Value.int _) (by omega),congrArg (Value.int _) (by omega),hC3,hb3,?_⟩;show Hid _;have hI:=HI.out;refine⟨by simp [hI.1],hI.2.1.snoc (mod_lt _ (by decide)),?_⟩;have h:=hI.2.2;rw [Qfk,hI.1,Qa2,Qac l k,Qac r k,HX.out,HY.out];have h2:P k*(s%4294967296)+P k*4294967296*(s / 4294967296)=P k*s:=by
     rw [Nat.mul_assoc,<-Nat.mul_add]
     congr 1
     omega
    rw [<-HS.out,Nat.mul_add,Nat.mul_add]at h2;rw [HS.out]at h2;omega
   case measure=>simp [intOf];omega
  ·obtain rfl:k=N+1:=by omega
   have hkN:¬((N:Int)+1<=(N:Int)):=(by omega);have hI:=HI.out;obtain⟨A1,c1,rfl,ho1⟩:=hown.own hI.2.1;have hV:val L=val l+val r:=by
    have h:=hI.2.2;have hn1:=hx.len;have hn2:=hy.len;have hm:=hN.out;rw [List.take_of_length_le (l:=l) (by omega),List.take_of_length_le (l:=r) (by omega)]at h;have h1:=Qbg hx.lim;have h2:=Qbg hy.lim;rw [<-hn1]at h1;rw [<-hn2]at h2;have h3:P n<=P N:=Qjl (by omega);have h4:P n'<=P N:=Qjl (by omega);have h5:=Qa2 N;exact Qvb h h1 h2 h3 h4 h5 hcr
   have hLn:L.length<=1073741824:=(by rw [hI.1];omega);have HV:=hid hV;clear hV hI HI;go_wp2_with fail
   refine(Qk4 _ _ _ L _ ho1.num hLn).mono ?_;rintro e w' ⟨rfl,rfl⟩;go_wp2_with fail
   go_ret;have h2:=ho1.trim;rw [HV.out]at h2⊢;exact⟨_,_,_,rfl,h2,hb⟩
theorem Qos(A A':Option Addr)(n c n' c' a b:Nat)(w:World)(hx:Num w (limbs a) A n c)(hy:Num w (limbs b) A' n' c')(hn:n<=100000000)(hn':n'<=100000000):
 Calls prog 82 #[.slice A n c,.slice A' n' c'] w (RetOwn w (limbs (a+b))):=by
 have h:=Qru A A' n c n' c' (max n n') _ _ w hx hy hn hn' rfl (by omega)
 rwa [Qab,Qab]at h
theorem Qrv{v a b p br:Nat}(h:v+b=a+p*br)(h1:v<p)(h2:b<=a)(hbr:br<=1):v=a-b:=by
 rcases eq_zero_or_pos br with h0|h0
 ·rw [h0]at h;omega
 ·have h1:br=1:=by omega
  rw [h1]at h;omega
theorem Qp0{v p x y d br br' L R:Nat}(h:v+R=L+p*br)(hd:x+4294967296=d+y+br)(hb:d / 4294967296+br'=1):v+p*(d%4294967296)+(R+p*y)=L+p*x+p*4294967296*br':=by
 have e:p*(d%4294967296)+p*(4294967296*(d / 4294967296))=p*d:=by rw [<-Nat.mul_add];congr 1;omega
 have e1:p*4294967296*br'+p*(4294967296*(d / 4294967296))=p*4294967296:=by rw [Nat.mul_assoc,<-Nat.mul_add,<-Nat.mul_add,show br'+d / 4294967296=1 from by omega]
 have e2:p*x+p*4294967296=p*d+p*y+p*br:=by rw [<-Nat.mul_add,<-Nat.mul_add,<-Nat.mul_add,hd]
 generalize p*(d%4294967296)=t1 at*
 generalize p*(4294967296*(d / 4294967296))=t2 at*
 generalize p*4294967296*br'=t3 at*
 generalize p*4294967296=t4 at*
 generalize p*d=t5 at*
 generalize p*y=t6 at*
 generalize p*x=t7 at*
 generalize p*br=t8 at*
 omega
theorem Qp1(A A':Option Addr)(n c n' c':Nat)(l r:List Nat)(w:World)(hx:Num w l A n c)(hy:Num w r A' n' c')(hn:n<=100000000)(hn':n'<=n)(hle:Hid (val r<=val l)):
 Calls prog 84 #[.slice A n c,.slice A' n' c'] w (RetOwn w (limbs (val l-val r))):=by
 go_enter func84,ntmps84
 go_wp2
 go_loopw [5,6,7] (fun sv sc si wr=> ∃(k br:Nat) (L:List Nat) (v:Value),k<=n/\br<=1/\sv=v/\sc=.int .u64 br/\si=.int .i64 k/\OwnR wr w.heap.size v L/\Below w.heap.size w wr/\Hid (L.length=k/\Lim L/\val L+val (r.take k)=val (l.take k)+P k*br))
  (fun _ _ si _=>n-(intOf si).toNat)
 case atStart=>exact⟨0,0,[],_,by omega,by omega,rfl,rfl,rfl,OwnR.nil _ _,Below.refl _ _,show Hid _ from⟨rfl,Lim.nil,by simp [val]⟩⟩
 case round=>
  obtain⟨k,br,L,v,hk,hbr,rfl,rfl,rfl,hown,hb,HI⟩:=hrel;by_cases hkn:k<n
  ·have hxw:=hx.below hb
   have hyw:=hy.below hb;obtain⟨x,hx'⟩:∃x,l.getD k 0=x:=⟨_,rfl⟩;obtain⟨y,hy'⟩:∃y,r.getD k 0=y:=⟨_,rfl⟩;have hx4:x<4294967296:=(by rw [<-hx'];exact hx.lim.getD k);have hy4:y<4294967296:=(by rw [<-hy'];exact hy.lim.getD k);have HX:=hid hx';have HY:=hid hy';clear hx' hy';have hkN:(k:Int)<(n:Int):=(by omega);go_wp2_with fail
   refine(Qoi _ _ _ (k:Int) l _ x hxw (by omega) (by omega) HX).mono ?_;rintro e w' ⟨rfl,rfl⟩;go_wp2_with fail
   refine(Qoi _ _ _ (k:Int) r _ y hyw (by omega) (by omega) HY).mono ?_;rintro e w' ⟨rfl,rfl⟩;obtain⟨d,hd⟩:∃d,x+4294967296-y-br=d:=⟨_,rfl⟩;have HD:=hid hd;have hd0:(x:Int)+4294967296-(y:Int)=((x+4294967296-y:Nat):Int):=(by omega);have hd1:((x+4294967296-y:Nat):Int) - (br:Int)=(d:Int):=(by omega);have hd4:d<8589934592:=(by omega);have hlim:Lim [d%4294967296]:=Lim.cons (mod_lt _ (by decide)) Lim.nil;clear hd;have hnum:=Qor wr d;have hbA:Below w.heap.size w (wr.alloc (.cells #[.int .u32 ((d:Int)%4294967296)] 97)):=hb.alloc hb.size _;have hownA:OwnR (wr.alloc (.cells #[.int .u32 ((d:Int)%4294967296)] 97)) w.heap.size u5 L:=World.ownsRow.alloc hown _;have hLl:L.length+1<=1099511627776:=(by have:=HI.out.1;omega);go_wp2_with (at_builtin;refine Qeh rfl (.tmp 25) (.tmp 28) rfl rfl w.heap.size u5 L [d%4294967296] rfl hownA _ 1 1 rfl hnum hLl hbA.size ?_)
   intro v3 w3 hC3 hg3 hsame;have hb3:=hbA.grown hg3 hbA.size hownA.grew;go_wp2_with fail
   go_roundw
   case rel=>
    refine⟨k+1,1-d / 4294967296,L++[d%4294967296],v3,by omega,by omega,rfl,congrArg (Value.int _) (by omega),congrArg (Value.int _) (by omega),hC3,hb3,?_⟩;show Hid _;have hI:=HI.out;refine⟨by simp [hI.1],hI.2.1.snoc (mod_lt _ (by decide)),?_⟩;rw [Qfk,hI.1,Qa2,Qac l k,Qac r k,HX.out,HY.out];exact Qp0 hI.2.2 (by have:=HD.out;omega) (by omega)
   case measure=>simp [intOf];omega
  ·obtain rfl:k=n:=by omega
   have hkN:¬((k:Int)<(k:Int)):=(by omega);have hI:=HI.out;obtain⟨A1,c1,rfl,ho1⟩:=hown.own hI.2.1;have hV:val L=val l-val r:=by
    have h:=hI.2.2;have hn1:=hx.len;have hn2:=hy.len;rw [List.take_of_length_le (l:=l) (by omega),List.take_of_length_le (l:=r) (by omega)]at h;have h1:=Qbg hI.2.1;rw [hI.1]at h1;exact Qrv h h1 hle.out hbr
   have hLn:L.length<=1073741824:=(by rw [hI.1];omega);have HV:=hid hV;clear hV hI HI;go_wp2_with fail
   refine(Qk4 _ _ _ L _ ho1.num hLn).mono ?_;rintro e w' ⟨rfl,rfl⟩;go_wp2_with fail
   go_ret;have h2:=ho1.trim;rw [HV.out]at h2⊢;exact⟨_,_,_,rfl,h2,hb⟩
theorem Qhs(A A':Option Addr)(n c n' c' a b:Nat)(w:World)(hx:Num w (limbs a) A n c)(hy:Num w (limbs b) A' n' c')(hn:n<=100000000)(hle:b<=a):
 Calls prog 84 #[.slice A n c,.slice A' n' c'] w (RetOwn w (limbs (a-b))):=by
 have h:=Qp1 A A' n c n' c' _ _ w hx hy hn (by have:=hx.len;have:=hy.len;have:=Qad hle;omega) (by show val _<=val _;rw [Qab,Qab];exact hle)
 rwa [Qab,Qab]at h
def RetDiv(w0:World)(q r:Nat)(e:Ending)(w':World):Prop:=∃A n c A' n' c',e=.returned (.tuple #[.slice A n c,.slice A' n' c'])/\Own w' w0.heap.size (limbs q) A n c/\Own w' w0.heap.size (limbs r) A' n' c'/\Below w0.heap.size w0 w'
theorem bit_of{l:List Nat}(hl:Lim l){j q s x:Nat}(hj:j=32*q+s)(hs:s<32)(hx:l.getD q 0=x):x / 2^s%2=val l / 2^j%2:=by
 rw [<-hx,Qdi hl q,hj,Nat.pow_add,Nat.pow_mul,show(2^32:Nat)=4294967296 from rfl,show 4294967296^q=P q from rfl,<-Nat.div_div_eq_div_mul];generalize val l / P q=y;have h1:(2:Nat)^32=2^s*(2*2^(31-s)):=by rw [<-Nat.pow_succ',<-Nat.pow_add];congr 1;omega
 rw [show(4294967296:Nat)=2^32 from rfl,h1,Nat.mod_mul_right_div_self,Nat.mod_mul_right_mod]
theorem Qrw(X j:Nat):X / 2^j=2*(X / 2^(j+1))+X / 2^j%2:=by
 rw [Nat.pow_succ,<-Nat.div_div_eq_div_mul];omega
theorem Qx5(x s:Nat)(hx:x<4294967296):bits .and .u32 ((x:Int) / 2^s) 1=((x / 2^s%2:Nat):Int):=by
 have e:((x:Int) / 2^s)=((x / 2^s:Nat):Int):=by rw [Int.natCast_ediv,Int.natCast_pow];rfl
 have h1:x / 2^s<4294967296:=Nat.lt_of_le_of_lt (div_le_self _ _) hx;rw [e,show(1:Int)=((1:Nat):Int)from rfl,u32_and_nat _ _ h1 (by decide),Nat.and_one_is_mod]
theorem Qb3(a b:Nat):(limbs (a+b)).length<=max (limbs a).length (limbs b).length+1:=by
 refine Qax ?_;have h1:=Qap a;have h2:=Qap b;have h3:P (limbs a).length<=P (max (limbs a).length (limbs b).length):=Qjl (by omega);have h4:P (limbs b).length<=P (max (limbs a).length (limbs b).length):=Qjl (by omega);rw [Qa2];generalize P (max (limbs a).length (limbs b).length)=t at*
 generalize P (limbs a).length=t1 at*
 generalize P (limbs b).length=t2 at*
 omega
theorem div_lo{Z T R Y t:Nat}(hT:Z=2*T+t)(hR:R=T%Y)(h:2*R+t<Y):Z / Y=2*(T / Y)/\Z%Y=2*R+t:=by
 have e:Z=Y*(2*(T / Y))+(2*R+t):=by
  have:=Nat.div_add_mod T Y;rw [<-hR]at this;rw [hT];grind
 rw [e,Nat.mul_add_div (by omega),Nat.mul_add_mod,Nat.div_eq_of_lt h,Nat.mod_eq_of_lt h];exact⟨rfl,rfl⟩
theorem div_hi{Z T R Y t:Nat}(hT:Z=2*T+t)(hR:R=T%Y)(hY:0<Y)(ht:t<=1)(h:Y<=2*R+t):Z / Y=2*(T / Y)+1/\Z%Y=2*R+t-Y:=by
 have hlt:R<Y:=by rw [hR];exact mod_lt _ hY
 have e:Z=Y*(2*(T / Y)+1)+(2*R+t-Y):=by
  have:=Nat.div_add_mod T Y;rw [<-hR]at this;rw [hT,Nat.mul_add,Nat.mul_one];have e2:Y*(2*(T / Y))=2*(Y*(T / Y)):=by grind
  rw [e2];omega
 have h2:2*R+t-Y<Y:=by omega
 rw [e,Nat.mul_add_div hY,Nat.mul_add_mod,Nat.div_eq_of_lt h2,Nat.mod_eq_of_lt h2];exact⟨rfl,rfl⟩
theorem Own.far{w:World}{B:Nat}{l:List Nat}{A:Option Addr}{n c:Nat}(h:Own w B l A n c){p:Addr}(hp:p.block<B)(u:Value):Own (w.setCell p u) B l A n c:=
 ⟨h.len,h.cap,h.lim,fun hn=>by
  obtain⟨b,pre,post,hA,hB',hr⟩:=h.row hn;exact⟨b,pre,post,hA,hB',(Below.heap_setCell w p u b (by omega)).trans hr⟩⟩
theorem or_bit{L:List Nat}{j q s d T:Nat}(hL:Lim L)(hj:j=32*q+s)(hs:s<32)(hd:L.getD q 0=d)(hv:val L=2^(j+1)*T):
 bits .or .u32 (d:Int) (2^s%4294967296)=((d+2^s:Nat):Int)/\d+2^s<4294967296:=by
 have hd4:d<4294967296:=by rw [<-hd];exact hL.getD q
 have hs4:2^s<4294967296:=by rw [show(4294967296:Nat)=2^32 from rfl];exact Nat.pow_lt_pow_right (by decide) hs
 have h0:d%2^(s+1)=0:=by
  rw [<-hd,Qdi hL q,hv,hj,show 32*q+s+1=32*q+(s+1)from rfl,Nat.pow_add,Nat.pow_mul,show(2^32:Nat)^q=P q from rfl,Nat.mul_assoc,Nat.mul_div_cancel_left _ (Qhg q),show(4294967296:Nat)=2^(s+1)*2^(31-s)from by rw [<-Nat.pow_add,show s+1+(31-s)=32 from by omega],Nat.mul_mod_mul_left,Nat.mul_mod_right]
 have hor:d|||2^s=d+2^s:=nat_join (s+1) d (2^s) h0 (Nat.pow_lt_pow_right (by decide) (Nat.lt_succ_self _));have e:((2:Int)^s%4294967296)=((2^s:Nat):Int):=by
  have:((2^s:Nat):Int)=(2:Int)^s:=by rw [Int.natCast_pow];rfl
  rw [<-this];omega
 refine⟨by rw [e,u32_or_nat _ _ hd4 hs4,hor],?_⟩;rw [<-hor];exact Nat.or_lt_two_pow (n:=32) hd4 hs4
theorem Qj2(A A':Option Addr)(n c n' c' X Y:Nat)(w:World)(hx:Num w (limbs X) A n c)(hy:Num w (limbs Y) A' n' c')(hn:n<=1000000)(hn':n'<=1000000)(hY:Hid (Y≠0)):
 Calls prog 115 #[.slice A n c,.slice A' n' c'] w (RetDiv w (X / Y) (X%Y)):=by
 have hmk:=Qfn n (n:Int) rfl (by omega);have hw1:IntKind.i64.wrap (32*(n:Int))=32*(n:Int):=IntWalk.i64_in _ (by omega);have hw2:IntKind.i64.wrap (32*(n:Int) - 1)=32*(n:Int) - 1:=IntWalk.i64_in _ (by omega);have HYL:=hid hy.len;go_enter func115,ntmps115
 go_wp2
 go_loopw [7,8] (fun sr si wr=> ∃(k R:Nat) (L:List Nat) (A1:Option Addr) (n1 c1:Nat),k<=32*n/\sr=.slice A1 n1 c1/\si=.int .i64 ((k:Int) - 1)/\Own wr (w.heap.size+1) (limbs R) A1 n1 c1/\Row wr w.heap.size L/\Below w.heap.size w wr/\Hid (L.length=n/\Lim L/\val L=2^k*(X / 2^k / Y)/\R=X / 2^k%Y))
  (fun _ si _=>(intOf si+1).toNat)
 case atStart=>
  refine⟨32*n,0,List.replicate n 0,none,0,0,le_refl _,rfl,congrArg (Value.int _) (by omega),by rw [Qaf];exact Own.nil _ _ _ _,Row.new _ _,(Below.refl _ _).alloc (le_refl _) _,?_⟩;show Hid _;have h0:X / 2^(32*n)=0:=by
   apply Nat.div_eq_of_lt;have:=Qap X;rw [<-hx.len]at this
   rwa [Nat.pow_mul]
  exact⟨by simp,Lim.zeros _,by rw [Qcz,h0];simp,by rw [h0];simp⟩
 case round=>
  obtain⟨k,R,L,A1,n1,c1,hk,rfl,rfl,hR,hrow,hb,HI⟩:=hrel;clear hmk hw1 hw2;rcases eq_zero_or_pos k with h0|h0
  ·subst h0
   have hI:=HI.out;have HL:=hid hI.1;have hll:Lim L:=hI.2.1;have hnum:=hrow.num hll hI.1.symm (le_refl n);have HV:Hid (val L=X / Y):=(by show _=_;rw [hI.2.2.1];simp);have HRR:Hid (R=X%Y):=(by show _=_;rw [hI.2.2.2];simp);have how:=hrow.own (le_refl _) hll (c:=n) (Nat.le_of_eq hI.1);clear hI HI;go_wp2_with fail
   refine(Qk4 _ _ _ L _ hnum (by omega)).mono ?_;rintro e w' ⟨rfl,rfl⟩;go_wp2_with fail
   go_ret2
   have h2:=how.trim;rw [HV.out]at h2⊢;rw [<-HRR.out];exact⟨_,_,_,_,_,_,rfl,h2,hR.more (Nat.le_succ _),hb⟩
  ·obtain⟨j,rfl⟩:∃j,k=j+1:=⟨k-1,by omega⟩
   have e1:((j+1:Nat):Int) - 1=(j:Int):=(by omega);rw [e1];clear e1 h0;obtain⟨q,hq⟩:∃q,j / 32=q:=⟨_,rfl⟩;obtain⟨s,hs⟩:∃s,j%32=s:=⟨_,rfl⟩;have hs32:s<32:=(by omega);have HJ:Hid (j=32*q+s):=(by show j=32*q+s;omega);have hq':(j:Int) / 32=q:=(by omega);have hs':(j:Int).tmod 32=s:=(by rw [Int.tmod_eq_emod_of_nonneg (by omega)];omega);have hqn:q<n:=(by omega);clear hq hs;have hjk:(0:Int)<=(j:Int):=(by omega);have hRY:R<Y:=(by have:=HI.out.2.2.2;rw [this];exact mod_lt _ (pos_of_ne_zero hY.out));have hRn:n1<=1000000:=(by rw [hR.len];have:=Qad (le_of_lt hRY);have:=HYL.out;omega);have HRY:=hid hRY;clear hRY;have hLR:Hid ((limbs R).length<=1000000):=(by show _<=_;rw [<-hR.len];exact hRn);go_wp2_with fail
   refine(Qos _ _ _ _ _ _ R R _ hR.num hR.num (by omega) (by omega)).mono ?_;rintro e w1 ⟨A2,n2,c2,rfl,h2,hb2⟩;have hb02:=bt hb hb2;have hxw:=hx.below hb02;obtain⟨b,o,x,rfl,_,hx',hx4,hcx⟩:=hxw.at_ hqn;have HX:=hid hx';clear hx';have HBIT:Hid (x / 2^s%2=X / 2^j%2):=by
    show _=_;have:=bit_of (Qau X) HJ.out hs32 HX.out
    rwa [Qab]at this
   have hbit:=Qx5 x s hx4;rw [HBIT.out]at hbit;obtain⟨r1,hr1⟩:∃r1,2*R+X / 2^j%2=r1:=⟨_,rfl⟩;have HR1:=hid hr1;have HS1:Hid (X / 2^j=2*(X / 2^(j+1))+X / 2^j%2):=Qrw X j;obtain⟨t,ht⟩:∃t,X / 2^j%2=t:=⟨_,rfl⟩;rw [ht]at hbit hr1;have HT:=hid ht;have ht2:t=0\/t=1:=(by rw [<-ht];have:=mod_lt (X / 2^j) (show 0<2 by decide);omega);clear ht hR;refine Or.elim ht2 (fun h0=>?ca) (fun h1=>?cb)
   case' ca=>
    subst h0;go_wp2_with fail
    have hB3:Below w.heap.size w w1:=hb02;have h3:Own w1 (w.heap.size+1) (limbs r1) A2 n2 c2:=by
     rw [<-hr1,Nat.add_zero,Nat.two_mul];exact h2.more (by have:=hrow.lt;omega)
    have hrow3:=hrow.below hb2 hrow.lt;have hn3:n2<=1000002:=by
     rw [h2.len];have:=Qb3 R R;have:=hLR.out;omega
   case' cb=>
    subst h1;have hbo:Below w1.heap.size w1 (w1.alloc (.cells #[.int .u32 1] 97)):=(Below.refl _ _).alloc (le_refl _) _;have hone:Num (w1.alloc (.cells #[.int .u32 1] 97)) (limbs 1) (some ⟨w1.heap.size,0,none⟩) 1 1:=by
     rw [Qay];exact(show Row _ _ [1]from heap_alloc_new w1 _).num (Lim.cons (by decide) Lim.nil) rfl (le_refl _)
    have hn2:n2<=1000001:=by
     rw [h2.len];have:=Qb3 R R;have:=hLR.out;omega
    go_wp2_with fail
    refine(Qos _ _ _ _ _ _ (R+R) 1 _ (h2.num.below hbo) hone (by omega) (by omega)).mono ?_;rintro e w3 ⟨A3,n3,c3,rfl,h3a,hb3⟩;have hb13:Below w1.heap.size w1 w3:=bt hbo hb3;have hB3:Below w.heap.size w w3:=bt hb02 hb13;have hrow3:=(hrow.below hb2 hrow.lt).below hb13 (by have:=hb2.size;have:=hrow.lt;omega);have h3:Own w3 (w.heap.size+1) (limbs r1) A3 n3 c3:=by
     rw [<-hr1,Nat.two_mul];exact h3a.more (by have:=hrow.lt;have:=hb2.size;have:=hbo.size;omega)
    have hn3:n3<=1000002:=by
     rw [h3a.len];have:=Qb3 (R+R) 1;have:=h2.len;have:(limbs 1).length=1:=by rw [Qay];rfl
     omega
    clear hb3 h3a hn2 hone hbo;go_wp2_with fail
   all_goals
    have hwsz:w.heap.size<w.heap.size+1:=Nat.lt_succ_self _;by_cases hcmp:r1<Y
    ·have HC:Hid (cmpI (r1:Int) (Y:Int)= -1):=Qb2 (by omega)
     have HR:=hid hcmp;clear hcmp;refine(Qc2 _ _ _ _ _ _ r1 Y _ (-1) h3.num (hy.below hB3) (by omega) (by omega) HC).mono ?_;rintro e w' ⟨rfl,qd,rfl⟩;go_wp2_with fail
     go_roundw
     case rel=>
      refine⟨j,r1,L,_,_,_,by omega,rfl,congrArg (Value.int _) (by omega),h3.drewN qd,hrow3.drewN qd,Qah hB3 qd,?_⟩;show Hid _;have hI:=HI.out;have hd:=div_lo (t:=X / 2^j%2) HS1.out hI.2.2.2 (by have:=HR1.out;have:=HR.out;omega);exact⟨hI.1,hI.2.1,by rw [hI.2.2.1,hd.1,Nat.pow_succ];grind,by rw [hd.2,HR1.out]⟩
     case measure=>simp [intOf]
    ·obtain⟨V,hV⟩:∃V,cmpI (r1:Int) (Y:Int)=V:=⟨_,rfl⟩
     have hV0:(0:Int)<=V:=(by rw [<-hV];unfold cmpI;rw [if_neg (by omega)];split<;>omega);have HC:=hid hV;have HR:Hid (Y<=r1):=Nat.le_of_not_lt hcmp;clear hcmp hV;refine(Qc2 _ _ _ _ _ _ r1 Y _ V h3.num (hy.below hB3) (by omega) (by omega) HC).mono ?_;rintro e w' ⟨rfl,qd,rfl⟩;go_wp2_with fail
     refine(Qhs _ _ _ _ _ _ r1 Y _ (h3.num.drewN qd) ((hy.below hB3).drewN qd) (by omega) HR.out).mono ?_;rintro e w5 ⟨A5,n5,c5,rfl,h5,hb5⟩;have hrow5:=(hrow3.drewN qd).below hb5 (hrow3.drewN qd).lt;have hB5:=(Qah hB3 qd).trans (hb5.mono (Qah hB3 qd).size);obtain⟨d,hd⟩:∃d,L.getD q 0=d:=⟨_,rfl⟩;have hcs:=hrow5.cell (k:=q) (by have:=HI.out.1;omega);have hfs:=hrow5.frozen q;rw [hd]at hcs;have HD:=hid hd;clear hd;go_wp2_with fail
     go_roundw
     case rel=>
      have hI:=HI.out;have hdv:=div_hi (t:=X / 2^j%2) HS1.out hI.2.2.2 (pos_of_ne_zero hY.out) (by omega) (by have:=HR1.out;have:=HR.out;omega);have hq2:q<L.length:=(by omega);obtain⟨ho,hv⟩:=or_bit hI.2.1 HJ.out hs32 HD.out hI.2.2.1;refine⟨j,r1-Y,L.set q (d+2^s),_,_,_,by omega,rfl,congrArg (Value.int _) (by omega),(h5.more (hrow3.drewN qd).lt).far (Nat.lt_succ_self _) _,hrow5.setI q _ ho,hB5.setCell (p:=⟨w.heap.size,q,none⟩) (le_refl _) _,?_⟩;show Hid _;refine⟨by rw [List.length_set];exact hI.1,hI.2.1.set _ hv,?_,by rw [hdv.2,HR1.out]⟩;have h7:=Qgc (d+2^s) hq2;rw [HD.out,hI.2.2.1]at h7;rw [hdv.1];have e2:P q*2^s=2^j:=(by rw [HJ.out,Nat.pow_add,Nat.pow_mul];rfl);rw [Nat.mul_add,e2]at h7;rw [Nat.pow_succ]at h7;have e3:2^j*2*(X / (2^j*2) / Y)=2^j*(2*(X / (2^j*2) / Y)):=(by rw [Nat.mul_assoc]);rw [e3]at h7;rw [Nat.pow_succ,Nat.mul_add,Nat.mul_one];omega
     case measure=>simp [intOf]
theorem Qlc(A A':Option Addr)(n c n' c' X Y:Nat)(w:World)(hx:Num w (limbs X) A n c)(hy:Num w (limbs Y) A' n' c')(hn:n<=1000000)(hn':n'<=1000000):
 Calls prog 112 #[.slice A n c,.slice A' n' c'] w (RetNum w (Nat.gcd X Y)):=by
 go_enter func112,ntmps112
 go_wp2
 go_loopg [0,1] Y (fun g s0 s1 wr=> ∃(A1:Option Addr) (n1 c1:Nat) (A2:Option Addr) (n2 c2 a b:Nat),s0=.slice A1 n1 c1/\s1=.slice A2 n2 c2/\Num wr (limbs a) A1 n1 c1/\Num wr (limbs b) A2 n2 c2/\n1<=1000000/\n2<=1000000/\Below w.heap.size w wr/\b<=g/\Hid (Nat.gcd a b=Nat.gcd X Y))
 case atStart=>exact⟨A,n,c,A',n',c',X,Y,rfl,rfl,hx,hy,hn,hn',Below.refl _ _,le_refl _,rfl⟩
 case round=>
  obtain⟨A1,n1,c1,A2,n2,c2,a,b,rfl,rfl,h1,h2,hn1,hn2,hb,hg,HG⟩:=hrel;by_cases h0:n2=0
  ·have hb0:b=0:=Qae.1 (by rw [<-h2.len];exact h0)
   subst h0;have HE:Hid (a=Nat.gcd X Y):=(by show _=_;rw [<-HG.out,hb0,Nat.gcd_zero_right]);clear hb0;go_wp2_with fail
   go_ret;rw [<-HE.out];exact⟨_,_,_,rfl,h1,hb⟩
  ·have hpos:(0:Int)<(n2:Int):=by omega
   have hb0:b≠0:=fun h=>h0 (by rw [h2.len,h,Qaf];rfl)
   have HB:=hid hb0;clear hb0 h0;go_wp2_with fail
   refine(Qj2 _ _ _ _ _ _ a b _ h1 h2 hn1 hn2 HB).mono ?_;rintro e w2 ⟨Aq,nq,cq,Ar,nr,cr,rfl,hq,hr,hb2⟩;go_wp2_with fail
   go_roundg (a%b)
   case rel=>
    refine⟨_,_,_,_,_,_,b,a%b,rfl,rfl,h2.below hb2,hr.num,hn2,?_,bt hb hb2,le_refl _,?_⟩
    ·rw [hr.len]
     have:=Qad (le_of_lt (mod_lt a (pos_of_ne_zero HB.out)));have:=h2.len;omega
    ·show _=_
     rw [<-HG.out,Nat.gcd_comm b,<-Nat.gcd_rec,Nat.gcd_comm]
   case measure=>exact Nat.lt_of_lt_of_le (mod_lt a (pos_of_ne_zero HB.out)) hg
def Cs(w:World)(g:Nat)(l:List Value)(t:TypeId):Prop:=w.heap[g]? =some (.cells l.toArray t (0,0))
theorem Cs.lt{w:World}{g:Nat}{l:List Value}{t:TypeId}(h:Cs w g l t):g<w.heap.size:=Qas h
theorem Cs.new(w:World)(l:List Value)(t:TypeId):Cs (w.alloc (.cells l.toArray t)) w.heap.size l t:=heap_alloc_new w _
theorem Cs.cell{w:World}{g:Nat}{l:List Value}{t:TypeId}(h:Cs w g l t){k:Nat}{v:Value}(hk:l[k]? =some v):w.cell? ⟨g,k,none⟩=some v:=by
 rw [cell_of_row w g k _ _ _ h,List.getElem?_toArray];exact hk
theorem Cs.frozen{w:World}{g:Nat}{l:List Value}{t:TypeId}(h:Cs w g l t)(k:Nat):w.frozen? ⟨g,k,none⟩=false:=frozen_of_row w g k _ _ h
theorem Cs.below{w w':World}{B g:Nat}{l:List Value}{t:TypeId}(h:Cs w g l t)(hb:Below B w w')(hg:g<B):Cs w' g l t:=(hb.block g hg).trans h
theorem Cs.alloc{w:World}{g:Nat}{l:List Value}{t:TypeId}(h:Cs w g l t)(o:Obj):Cs (w.alloc o) g l t:=(Below.heap_alloc w o g h.lt).trans h
theorem Cs.drew{w:World}{g:Nat}{l:List Value}{t:TypeId}(h:Cs w g l t):Cs w.drew g l t:=h
theorem Cs.far{w:World}{g:Nat}{l:List Value}{t:TypeId}(h:Cs w g l t){p:Addr}(hp:g≠p.block)(u:Value):Cs (w.setCell p u) g l t:=(Below.heap_setCell w p u g hp).trans h
theorem Cs.set{w:World}{g:Nat}{l:List Value}{t:TypeId}(h:Cs w g l t)(k:Nat)(u:Value):Cs (w.setCell ⟨g,k,none⟩ u) g (l.set k u) t:=by
 have:=heap_setCell_same w g k _ _ u h;unfold Cs;rw [this]
 congr 2
 apply Array.ext';simp
def setL(w:World)(g:Nat):Nat->List Value->World
 |_,[]=>w
 |k,u::us=>setL (w.setCell ⟨g,k,none⟩ u) g (k+1) us
theorem Cs.setL'{g:Nat}{t:TypeId}:∀(us:List Value) (k:Nat) (w:World) (l:List Value),Cs w g l t->k+us.length=l.length->Cs (setL w g k us) g (l.take k++us) t
 |[],k,w,l,h,hk=>by
  rw [List.append_nil,List.take_of_length_le (by simp at hk;omega)];exact h
 |u::us,k,w,l,h,hk=>by
  have:=Cs.setL' us (k+1) _ _ (h.set k u) (by simp at hk⊢;omega);have e:(l.set k u).take (k+1)++us=l.take k++u::us:=by
   have hlt:k<(l.set k u).length:=(by simp at hk⊢;omega);rw [List.take_succ_eq_append_getElem hlt,List.getElem_set_self,List.take_set_of_le (le_refl _),List.append_assoc];rfl
  rw [e]at this;exact this
theorem Cs.setL{w:World}{g:Nat}{l:List Value}{t:TypeId}(h:Cs w g l t)(us:List Value)(hl:us.length=l.length):Cs (setL w g 0 us) g us t:=by
 have:=Cs.setL' us 0 w l h (by omega)
 simpa using this
theorem Cs.farL{g:Nat}{l:List Value}{t:TypeId}{g':Nat}(hne:g≠g'):∀(us:List Value) (k:Nat) {w:World},Cs w g l t->Cs (Go.Proofs.YthbhgelncdnmgaaGreatDoor.setL w g' k us) g l t
 |[],_,_,h=>h
 |u::us,k,_,h=>Cs.farL hne us (k+1) (h.far (p:=⟨g',k,none⟩) hne u)
theorem Qbk{B g:Nat}(hg:B<=g){a:World}:∀(us:List Value) (k:Nat) {w:World},Below B a w->Below B a (setL w g k us)
 |[],_,_,h=>h
 |u::us,k,_,h=>Qbk hg us (k+1) (h.setCell (p:=⟨g,k,none⟩) hg u)
theorem Qfv(g:Nat):∀(us:List Value) (k:Nat) (w:World),(setL w g k us).heap.size=w.heap.size
 |[],_,_=>rfl
 |u::us,k,w=>by rw [show setL w g k (u::us)=setL (w.setCell ⟨g,k,none⟩ u) g (k+1) us from rfl,Qfv g us];simp
theorem Num.set1k{w:World}{l:List Nat}{A:Option Addr}{n c:Nat}(h:Num w l A n c){g k:Nat}(hA:0<n->∀a,A=some a->a.block≠g)(u:Value):Num (w.setCell ⟨g,k,none⟩ u) l A n c:=
 ⟨h.len,h.cap,h.lim,fun hn=>by
  obtain⟨b,o,hA',hb,hc⟩:=h.cells hn;have hne:=hA hn _ hA';refine⟨b,o,hA',by simpa [World.setCell] using hb,fun k x hx=>?_⟩;rw [World.cell?_setCell_other _ _ _ _ (fun e=>hne (by injection e with e1;exact e1.symm))];exact hc k x hx⟩
theorem Num.setL{l:List Nat}{A:Option Addr}{n c g:Nat}(hA:0<n->∀a,A=some a->a.block≠g):∀(us:List Value) (k:Nat) {w:World},Num w l A n c->Num (Go.Proofs.YthbhgelncdnmgaaGreatDoor.setL w g k us) l A n c
 |[],_,_,h=>h
 |u::us,k,_,h=>Num.setL hA us (k+1) (h.set1k hA u)
theorem Num.ne_cs{w:World}{l:List Nat}{A:Option Addr}{n c g:Nat}(h:Num w l A n c){l':List Value}{t:TypeId}(hr:Cs w g l' t)(hl:∀v∈l',∀x:Nat,v≠ .int .u32 (x:Int)):0<n->∀a,A=some a->a.block≠g:=by
 intro hn a ha e;obtain⟨b,o,y,hA,_,_,_,hc⟩:=h.at_ hn;rw [ha]at hA;cases hA;simp only at e;subst e;rw [cell_of_row w b _ _ _ _ hr,List.getElem?_toArray]at hc;exact hl _ (List.mem_of_getElem? hc) _ rfl
theorem Cs.c8{w:World}{g:Nat}{z0 z1 z2 z3 z4 z5 z6 z7:Value}{t:TypeId}(h:Cs w g [z0,z1,z2,z3,z4,z5,z6,z7] t):
 w.cell? ⟨g,0,none⟩=some z0/\w.cell? ⟨g,1,none⟩=some z1/\w.cell? ⟨g,2,none⟩=some z2/\w.cell? ⟨g,3,none⟩=some z3/\w.cell? ⟨g,4,none⟩=some z4/\w.cell? ⟨g,5,none⟩=some z5/\w.cell? ⟨g,6,none⟩=some z6/\w.cell? ⟨g,7,none⟩=some z7:=
 ⟨h.cell rfl,h.cell rfl,h.cell rfl,h.cell rfl,h.cell rfl,h.cell rfl,h.cell rfl,h.cell rfl⟩
theorem Cs.f8{w:World}{g:Nat}{l:List Value}{t:TypeId}(h:Cs w g l t):
 w.frozen? ⟨g,0,none⟩=false/\w.frozen? ⟨g,1,none⟩=false/\w.frozen? ⟨g,2,none⟩=false/\w.frozen? ⟨g,3,none⟩=false/\w.frozen? ⟨g,4,none⟩=false/\w.frozen? ⟨g,5,none⟩=false/\w.frozen? ⟨g,6,none⟩=false/\w.frozen? ⟨g,7,none⟩=false:=
 ⟨h.frozen 0,h.frozen 1,h.frozen 2,h.frozen 3,h.frozen 4,h.frozen 5,h.frozen 6,h.frozen 7⟩
theorem Cs.c10{w:World}{g:Nat}{z0 z1 z2 z3 z4 z5 z6 z7 z8 z9:Value}{t:TypeId}(h:Cs w g [z0,z1,z2,z3,z4,z5,z6,z7,z8,z9] t):
 w.cell? ⟨g,0,none⟩=some z0/\w.cell? ⟨g,1,none⟩=some z1/\w.cell? ⟨g,2,none⟩=some z2/\w.cell? ⟨g,3,none⟩=some z3/\w.cell? ⟨g,4,none⟩=some z4/\w.cell? ⟨g,5,none⟩=some z5/\w.cell? ⟨g,6,none⟩=some z6/\w.cell? ⟨g,7,none⟩=some z7/\w.cell? ⟨g,8,none⟩=some z8/\w.cell? ⟨g,9,none⟩=some z9:=
 ⟨h.cell rfl,h.cell rfl,h.cell rfl,h.cell rfl,h.cell rfl,h.cell rfl,h.cell rfl,h.cell rfl,h.cell rfl,h.cell rfl⟩
theorem Cs.at{w:World}{g:Nat}{l:List Value}{t:TypeId}(h:Cs w g l t)(k:Nat)(hk:k<l.length):w.cell? ⟨g,k,none⟩=some l[k]:=h.cell (List.getElem?_eq_getElem hk)
theorem Qak{fn:Func}{p:Tmp}{t:TypeId}{l:List Value}{fs:Array Field}(hres:fn.results=#[.cell p t])(hu:prog.underlying t=some (.struct fs))(hn:(prog.info? t).map (·.size)=some l.length){R:Ending->World->Prop}{a:Act}{w:World}{g:Nat}(hp:a.tmps.getD p undef=.pointer (some ⟨g,0,none⟩))(h:Cs w g l t)(hd:a.defers=[])
 (hR:R (.returned (.agg l.toArray)) w):bodyPost prog fn R .ret a w:=
 bodyPost_ret (results_cell_row (P:=prog) hres _ _ g t _ (0,0) _ hp h hu rfl hn) hd hR
theorem Qrx{w:World}{g:Nat}{l:List Value}{t:TypeId}(h:Cs w g l t)(hl:l.length=3)(u0 u1 u2:Value):Cs (((w.setCell ⟨g,0,none⟩ u0).setCell ⟨g,1,none⟩ u1).setCell ⟨g,2,none⟩ u2) g [u0,u1,u2] t:=Cs.setL h [u0,u1,u2] hl.symm
theorem Qot{B g:Nat}{a w:World}(h:Below B a w)(hg:B<=g)(u0 u1 u2:Value):Below B a (((w.setCell ⟨g,0,none⟩ u0).setCell ⟨g,1,none⟩ u1).setCell ⟨g,2,none⟩ u2):=Qbk hg [u0,u1,u2] 0 h
theorem Qbo{w:World}{g g':Nat}{l:List Value}{t:TypeId}(h:Cs w g l t)(hne:g≠g')(u0 u1 u2 u3 u4 u5 u6 u7:Value):Cs ((((((((w.setCell ⟨g',0,none⟩ u0).setCell ⟨g',1,none⟩ u1).setCell ⟨g',2,none⟩ u2).setCell ⟨g',3,none⟩ u3).setCell ⟨g',4,none⟩ u4).setCell ⟨g',5,none⟩ u5).setCell ⟨g',6,none⟩ u6).setCell ⟨g',7,none⟩ u7) g l t:=Cs.farL hne [u0,u1,u2,u3,u4,u5,u6,u7] 0 h
theorem Qaj{w:World}{g:Nat}{l:List Value}{t:TypeId}(h:Cs w g l t)(hl:l.length=8)(u0 u1 u2 u3 u4 u5 u6 u7:Value):Cs ((((((((w.setCell ⟨g,0,none⟩ u0).setCell ⟨g,1,none⟩ u1).setCell ⟨g,2,none⟩ u2).setCell ⟨g,3,none⟩ u3).setCell ⟨g,4,none⟩ u4).setCell ⟨g,5,none⟩ u5).setCell ⟨g,6,none⟩ u6).setCell ⟨g,7,none⟩ u7) g [u0,u1,u2,u3,u4,u5,u6,u7] t:=Cs.setL h [u0,u1,u2,u3,u4,u5,u6,u7] hl.symm
theorem Qam{B g:Nat}{a w:World}(h:Below B a w)(hg:B<=g)(u0 u1 u2 u3 u4 u5 u6 u7:Value):Below B a ((((((((w.setCell ⟨g,0,none⟩ u0).setCell ⟨g,1,none⟩ u1).setCell ⟨g,2,none⟩ u2).setCell ⟨g,3,none⟩ u3).setCell ⟨g,4,none⟩ u4).setCell ⟨g,5,none⟩ u5).setCell ⟨g,6,none⟩ u6).setCell ⟨g,7,none⟩ u7):=Qbk hg [u0,u1,u2,u3,u4,u5,u6,u7] 0 h
theorem Qw8{w:World}{l:List Nat}{A:Option Addr}{n c g:Nat}(h:Num w l A n c)(hA:0<n->∀a,A=some a->a.block≠g)(u0 u1 u2 u3 u4 u5 u6 u7:Value):Num ((((((((w.setCell ⟨g,0,none⟩ u0).setCell ⟨g,1,none⟩ u1).setCell ⟨g,2,none⟩ u2).setCell ⟨g,3,none⟩ u3).setCell ⟨g,4,none⟩ u4).setCell ⟨g,5,none⟩ u5).setCell ⟨g,6,none⟩ u6).setCell ⟨g,7,none⟩ u7) l A n c:=Num.setL hA [u0,u1,u2,u3,u4,u5,u6,u7] 0 h
theorem Qcf{w:World}{g g':Nat}{l:List Value}{t:TypeId}(h:Cs w g l t)(hne:g≠g')(u0 u1 u2 u3 u4 u5 u6 u7 u8 u9:Value):Cs ((((((((((w.setCell ⟨g',0,none⟩ u0).setCell ⟨g',1,none⟩ u1).setCell ⟨g',2,none⟩ u2).setCell ⟨g',3,none⟩ u3).setCell ⟨g',4,none⟩ u4).setCell ⟨g',5,none⟩ u5).setCell ⟨g',6,none⟩ u6).setCell ⟨g',7,none⟩ u7).setCell ⟨g',8,none⟩ u8).setCell ⟨g',9,none⟩ u9) g l t:=Cs.farL hne [u0,u1,u2,u3,u4,u5,u6,u7,u8,u9] 0 h
theorem Qa5{w:World}{g:Nat}{l:List Value}{t:TypeId}(h:Cs w g l t)(hl:l.length=10)(u0 u1 u2 u3 u4 u5 u6 u7 u8 u9:Value):Cs ((((((((((w.setCell ⟨g,0,none⟩ u0).setCell ⟨g,1,none⟩ u1).setCell ⟨g,2,none⟩ u2).setCell ⟨g,3,none⟩ u3).setCell ⟨g,4,none⟩ u4).setCell ⟨g,5,none⟩ u5).setCell ⟨g,6,none⟩ u6).setCell ⟨g,7,none⟩ u7).setCell ⟨g,8,none⟩ u8).setCell ⟨g,9,none⟩ u9) g [u0,u1,u2,u3,u4,u5,u6,u7,u8,u9] t:=Cs.setL h [u0,u1,u2,u3,u4,u5,u6,u7,u8,u9] hl.symm
theorem Qav{B g:Nat}{a w:World}(h:Below B a w)(hg:B<=g)(u0 u1 u2 u3 u4 u5 u6 u7 u8 u9:Value):Below B a ((((((((((w.setCell ⟨g,0,none⟩ u0).setCell ⟨g,1,none⟩ u1).setCell ⟨g,2,none⟩ u2).setCell ⟨g,3,none⟩ u3).setCell ⟨g,4,none⟩ u4).setCell ⟨g,5,none⟩ u5).setCell ⟨g,6,none⟩ u6).setCell ⟨g,7,none⟩ u7).setCell ⟨g,8,none⟩ u8).setCell ⟨g,9,none⟩ u9):=Qbk hg [u0,u1,u2,u3,u4,u5,u6,u7,u8,u9] 0 h
theorem blk1(w:World)(l:List Value)(t:TypeId):Below w.heap.size w (w.alloc (.cells l.toArray t))/\Cs (w.alloc (.cells l.toArray t)) w.heap.size l t:=
 ⟨(Below.refl _ _).alloc (le_refl _) _,Cs.new w l t⟩
theorem blk2(w:World)(l l':List Value)(t t':TypeId):Below w.heap.size w ((w.alloc (.cells l.toArray t)).alloc (.cells l'.toArray t'))/\Cs ((w.alloc (.cells l.toArray t)).alloc (.cells l'.toArray t')) w.heap.size l t/\
 Cs ((w.alloc (.cells l.toArray t)).alloc (.cells l'.toArray t')) (w.heap.size+1) l' t':=by
 obtain⟨h1,h2⟩:=blk1 w l t;have h3:=Cs.new (w.alloc (.cells l.toArray t)) l' t';rw [show(w.alloc (.cells l.toArray t)).heap.size=w.heap.size+1 by simp]at h3;exact⟨h1.alloc (by simp) _,h2.alloc _,h3⟩
theorem blk3(w:World)(l l' l'':List Value)(t t' t'':TypeId):Below w.heap.size w (((w.alloc (.cells l.toArray t)).alloc (.cells l'.toArray t')).alloc (.cells l''.toArray t''))/\Cs (((w.alloc (.cells l.toArray t)).alloc (.cells l'.toArray t')).alloc (.cells l''.toArray t'')) w.heap.size l t/\
 Cs (((w.alloc (.cells l.toArray t)).alloc (.cells l'.toArray t')).alloc (.cells l''.toArray t'')) (w.heap.size+1) l' t'/\Cs (((w.alloc (.cells l.toArray t)).alloc (.cells l'.toArray t')).alloc (.cells l''.toArray t'')) (w.heap.size+1+1) l'' t'':=by
 obtain⟨h1,h2,h3⟩:=blk2 w l l' t t';have h4:=Cs.new ((w.alloc (.cells l.toArray t)).alloc (.cells l'.toArray t')) l'' t'';rw [show((w.alloc (.cells l.toArray t)).alloc (.cells l'.toArray t')).heap.size=w.heap.size+1+1 by simp]at h4;exact⟨h1.alloc (by simp;omega) _,h2.alloc _,h3.alloc _,h4⟩
abbrev W8(z0 z1 z2 z3 z4 z5 z6 z7:Value):Obj:=.cells #[z0,z1,z2,z3,z4,z5,z6,z7] 32
abbrev aw(q0 q1 q2:Value)(c:Int)(i:Bool):Value:=.agg #[q0,q1,q2,.int .i64 c,.bool i,.int .u64 0,.slice none 0 0,.slice none 0 0]
abbrev W8q(q0 q1 q2:Value)(c:Int)(i:Bool):Obj:=W8 q0 q1 q2 (.int .i64 c) (.bool i) (.int .u64 0) (.slice none 0 0) (.slice none 0 0)
abbrev tw(c:Int)(i:Bool):Value:=aw (.bool false) (.slice none 0 0) (.slice none 0 0) c i
abbrev W8t(c:Int)(i:Bool):Obj:=W8q (.bool false) (.slice none 0 0) (.slice none 0 0) c i
theorem equal0(A B:Option Addr)(c d:Nat)(w:World):Calls prog 71 #[.slice A 0 c,.slice B 0 d] w (RetQ w (.bool true)):=
 Qd5 A B 0 c 0 d [] [] w true (Num.nil _ _ _) (Num.nil _ _ _) (by omega) (by omega) (show decide _=_ by decide)
theorem equalFuncM0(A B:Option Addr)(c d:Nat)(f:Value)(w:World):Calls prog 43 #[.slice A 0 c,.slice B 0 d,f] w (RetV w (.bool true)):=by
 go_enter func43,ntmps43;go_wp2_with fail
 go_loopw [17] (fun i wr=>i=.int .i64 0/\wr=w) (fun _ _=>0)
 case atStart=>exact⟨rfl,rfl⟩
 case round=>
  obtain⟨rfl,rfl⟩:=hrel;go_wp2_with fail
  go_ret;exact⟨rfl,Below.refl _ _⟩
theorem equalFuncW0(A B:Option Addr)(c d:Nat)(f:Value)(w:World):Calls prog 45 #[.slice A 0 c,.slice B 0 d,f] w (RetV w (.bool true)):=by
 go_enter func45,ntmps45;go_wp2_with fail
 go_loopw [17] (fun i wr=>i=.int .i64 0/\wr=w) (fun _ _=>0)
 case atStart=>exact⟨rfl,rfl⟩
 case round=>
  obtain⟨rfl,rfl⟩:=hrel;go_wp2_with fail
  go_ret;exact⟨rfl,Below.refl _ _⟩
abbrev zq:List Value:=[.bool false,.slice none 0 0,.slice none 0 0]
abbrev zw:List Value:=[.bool false,.slice none 0 0,.slice none 0 0,.int .i64 0,.bool false,.int .u64 0,.slice none 0 0,.slice none 0 0]
theorem Qgh(w:World):Calls prog 42 #[.agg #[.bool false,.slice none 0 0,.slice none 0 0],.agg #[.bool false,.slice none 0 0,.slice none 0 0]] w (RetV w (.bool true)):=by
 obtain⟨hb0,c1,c2⟩:=blk2 w [.bool false,.slice none 0 0,.slice none 0 0] [.bool false,.slice none 0 0,.slice none 0 0] 27 27;go_enter func42,ntmps42;go_wp2_with fail
 refine(equal0 _ _ _ _ _).mono ?_;rintro e w1 ⟨rfl,q,rfl⟩;go_wp2_with fail
 refine(equal0 _ _ _ _ _).mono ?_;rintro e w1 ⟨rfl,q',rfl⟩;go_wp2_with fail
 go_ret;exact⟨rfl,Qah hb0 _⟩
theorem Qp2(w:World):Calls prog 18 #[tw 0 false,tw 0 false] w (RetV w (.bool true)):=by
 obtain⟨hb0,c1,c2⟩:=blk2 w [.bool false,.slice none 0 0,.slice none 0 0,.int .i64 0,.bool false,.int .u64 0,.slice none 0 0,.slice none 0 0] [.bool false,.slice none 0 0,.slice none 0 0,.int .i64 0,.bool false,.int .u64 0,.slice none 0 0,.slice none 0 0] 32 32;go_enter func18,ntmps18;go_wp2_with fail
 generalize ((w.alloc (W8t 0 false)).alloc (W8t 0 false))=W0 at*
 refine(Qgh _).mono ?_;rintro e w1 ⟨rfl,hb1⟩;replace hb0:=bt hb0 hb1;replace c1:=c1.below hb1 c1.lt;replace c2:=c2.below hb1 c2.lt;clear hb1;obtain⟨a0,a1,a2,a3,a4,a5,a6,a7⟩:=c1.c8;obtain⟨b0,b1,b2,b3,b4,b5,b6,b7⟩:=c2.c8;go_wp2_with fail
 refine(equalFuncM0 _ _ _ _ _ _).mono ?_;rintro e w2 ⟨rfl,hb1⟩;replace hb0:=bt hb0 hb1;replace c1:=c1.below hb1 c1.lt;replace c2:=c2.below hb1 c2.lt;clear hb1 a0 a1 a2 a3 a4 a5 a6 a7 b0 b1 b2 b3 b4 b5 b6 b7;obtain⟨a0,a1,a2,a3,a4,a5,a6,a7⟩:=c1.c8;obtain⟨b0,b1,b2,b3,b4,b5,b6,b7⟩:=c2.c8;go_wp2_with fail
 refine(equalFuncW0 _ _ _ _ _ _).mono ?_;rintro e w3 ⟨rfl,hb1⟩;replace hb0:=bt hb0 hb1;go_wp2_with fail
 go_ret;exact⟨rfl,hb0⟩
theorem Qek(w:World):Calls prog 168 #[tw 0 false] w (RetV w (.bool true)):=by
 obtain⟨hb0,c1⟩:=blk1 w [.bool false,.slice none 0 0,.slice none 0 0,.int .i64 0,.bool false,.int .u64 0,.slice none 0 0,.slice none 0 0] 32;go_enter func168,ntmps168;go_wp2_with fail
 refine(Qp2 _).mono ?_;rintro e w1 ⟨rfl,hb1⟩;go_wp2_with fail
 go_ret;exact⟨rfl,bt hb0 hb1⟩
theorem Qj3(w:World):Calls prog 120 #[tw 0 true] w (RetV w (.bool true)):=by
 obtain⟨hb0,c1⟩:=blk1 w [.bool false,.slice none 0 0,.slice none 0 0,.int .i64 0,.bool true,.int .u64 0,.slice none 0 0,.slice none 0 0] 32;have h0:=(blk1 w [.bool false,.slice none 0 0,.slice none 0 0,.int .i64 0,.bool false,.int .u64 0,.slice none 0 0,.slice none 0 0] 32).1;go_enter func120,ntmps120;go_wp2_with fail
 refine(Qek _).mono ?_;rintro e w1 ⟨rfl,hb1⟩;go_wp2_with fail
 go_ret;exact⟨rfl,bt h0 hb1⟩
theorem Qj4(c:Int)(w:World)(hc:0<=c/\c<=1099511627776):Calls prog 120 #[tw c false] w (RetV w (.bool true)):=by
 obtain⟨hb0,c1⟩:=blk1 w [.bool false,.slice none 0 0,.slice none 0 0,.int .i64 c,.bool false,.int .u64 0,.slice none 0 0,.slice none 0 0] 32;have h0:=(blk1 w [.bool false,.slice none 0 0,.slice none 0 0,.int .i64 0,.bool false,.int .u64 0,.slice none 0 0,.slice none 0 0] 32).1;obtain⟨hc0,hc1⟩:=hc;go_enter func120,ntmps120;go_wp2_with fail
 refine(Qek _).mono ?_;rintro e w1 ⟨rfl,hb1⟩;go_wp2_with fail
 go_ret;exact⟨rfl,bt h0 hb1⟩
def Cost(c:Int)(i:Bool):Prop:=(i=true/\c=0)\/(i=false/\0<=c/\c<=1099511627776)
theorem Cost.le{c:Int}{i:Bool}(h:Cost c i):0<=c/\c<=1099511627776:=by
 rcases h with⟨_,h⟩|⟨_,h1,h2⟩<;>omega
theorem Qld(c:Int)(i:Bool)(w:World)(h:Cost c i):Calls prog 120 #[tw c i] w (RetV w (.bool true)):=by
 rcases h with⟨rfl,rfl⟩|⟨rfl,h1⟩
 ·exact Qj3 w
 ·exact Qj4 c w h1
abbrev fv(k:Nat):Value:=.func (.func k) #[] #[]
abbrev cln(b1 b2:Nat):Value:=.func (.func 169) #[] #[.pointer (some ⟨b1,0,none⟩),.pointer (some ⟨b2,0,none⟩)]
def Cl(w:World)(b1 b2:Nat)(f g:Value):Prop:=Cs w b1 [f] 52/\Cs w b2 [g] 57
theorem Cl.below{w w':World}{b1 b2:Nat}{f g:Value}(h:Cl w b1 b2 f g)(hb:Below w.heap.size w w'):Cl w' b1 b2 f g:=⟨h.1.below hb h.1.lt,h.2.below hb h.2.lt⟩
theorem Cl.alloc{w:World}{b1 b2:Nat}{f g:Value}(h:Cl w b1 b2 f g)(o:Obj):Cl (w.alloc o) b1 b2 f g:=⟨h.1.alloc o,h.2.alloc o⟩
theorem Qe7(f g:Nat)(A B:Array Value)(w:World):Calls prog 97 #[.func (.func f) #[] A,.func (.func g) #[] B] w (fun e w'=> ∃b1 b2,e=.returned (cln b1 b2)/\Cl w' b1 b2 (.func (.func f) #[] A) (.func (.func g) #[] B)/\Below w.heap.size w w'):=by
 obtain⟨hb0,c1,c2⟩:=blk2 w [.func (.func f) #[] A] [.func (.func g) #[] B] 52 57;go_enter func97,ntmps97;go_wp2_with fail
 go_ret;exact⟨_,_,rfl,⟨c1,c2⟩,hb0⟩
theorem Qry(A A':Option Addr)(n c m c':Nat)(l r:List Nat)(w:World)(hx:Num w l A n c)(hy:Num w r A' m c')(hn:n<=536870912)(hm:m<=536870912):
 Calls prog 78 #[.slice A n c,.slice A' m c'] w (RetOwn w (limbs (val l*val r))):=by
 have hmk:=Qfn (n+m) ((n:Int)+(m:Int)) (by omega) (by omega);go_enter func78,ntmps78
 go_wp2
 go_loopw [6] (fun si wr=> ∃(i:Nat) (L:List Nat),i<=n/\si=.int .i64 i/\Row wr w.heap.size L/\Below w.heap.size w wr/\Hid (L.length=n+m/\Lim L/\val L=val (l.take i)*val r/\∀j,i+m<=j->L.getD j 0=0))
  (fun si _=>n-(intOf si).toNat)
 case atStart=>exact⟨0,List.replicate (n+m) 0,Nat.zero_le _,rfl,Row.new _ _,(Below.refl _ _).alloc (le_refl _) _,show Hid _ from⟨by simp,Lim.zeros _,by simp [Qcz,val],fun j _=>by rw [List.getD_eq_getElem?_getD,List.getElem?_replicate];split<;>rfl⟩⟩
 case round=>
  obtain⟨i,L,hi,rfl,hrow,hbel,HI⟩:=hrel;clear hmk;by_cases hin:i<n
  ·have hxw:=hx.below hbel
   obtain⟨b,o,x,rfl,_,hx',hx4,hcx⟩:=hxw.at_ hin;have HX:=hid hx';clear hx';obtain⟨wo,rfl⟩:∃wo:World,wo=wr:=⟨_,rfl⟩;go_wp2_with fail
   go_loopw [7,8] (fun sc sk w2=> ∃(k cr:Nat) (M:List Nat),k<=m/\cr<4294967296/\sc=.int .u64 cr/\sk=.int .i64 k/\Row w2 w.heap.size M/\Below w.heap.size w w2/\Hid (M.length=n+m/\Lim M/\val M+P (i+k)*cr=val L+P i*(x*val (r.take k))/\∀j,i+k<=j->M.getD j 0=L.getD j 0))
    (fun _ sk _=>m-(intOf sk).toNat)
   case atStart=>exact⟨0,0,L,Nat.zero_le _,by omega,rfl,rfl,hrow,hbel,show Hid _ from⟨HI.out.1,HI.out.2.1,by simp [val],fun j _=>rfl⟩⟩
   case round=>
    obtain⟨k,cr,M,hk,hcr,rfl,rfl,hrow2,hbel2,HJ⟩:=hrel;by_cases hkm:k<m
    ·have hyw:=hy.below hbel2
     have hcx2:=(hx.below hbel2).at' hin;rw [HX.out]at hcx2;obtain⟨b',o',y,rfl,_,hy',hy4,hcy⟩:=hyw.at_ hkm;have HY:=hid hy';clear hy';obtain⟨d,hd⟩:∃d,M.getD (i+k) 0=d:=⟨_,rfl⟩;have hd4:d<4294967296:=(by rw [<-hd];exact HJ.out.2.1.getD _);have hcs:=hrow2.cell (k:=i+k) (by have:=HJ.out.1;omega);have hfs:=hrow2.frozen (i+k);rw [hd]at hcs;have HD:=hid hd;clear hd;have hmul0:0<=(x:Int)*(y:Int):=Int.mul_nonneg (by omega) (by omega);have hmul1:(x:Int)*(y:Int)<=18446744065119617025:=by
      have h:=Nat.mul_le_mul (show x<=4294967295 by omega) (show y<=4294967295 by omega);have h2:((x*y:Nat):Int)<=18446744065119617025:=by omega
      rwa [Int.natCast_mul]at h2
     have hmc:((x*y:Nat):Int)=(x:Int)*(y:Int):=Int.natCast_mul ..;have HM:=hid hmc;clear hmc;have hik:(i:Int)+(k:Int)<(n:Int)+(m:Int):=(by omega);have hik0:(0:Int)<=(i:Int)+(k:Int):=(by omega);have hki:(k:Int)<(m:Int):=(by omega);have hii:(i:Int)<(n:Int):=(by omega);go_wp2_with fail
     go_quiet (fail)
     go_wp2_with fail
     go_roundw
     case rel=>
      have hmc:=HM.out;refine⟨k+1,(cr+(x*y+d)) / 4294967296,M.set (i+k) ((cr+(x*y+d))%4294967296),by omega,by omega,congrArg (Value.int _) (by omega),congrArg (Value.int _) (by omega),(hrow2.drewN nq).setI _ _ (by omega),(Qah hbel2 nq).setCell (le_refl _) _,?_⟩;show Hid _;have hJ:=HJ.out;have h:=Qoc (j:=i+k) (s:=cr+(x*y+d)) (x:=x) (y:=y) (by omega) ⟨hJ.1,hJ.2.1,hJ.2.2.1⟩ (by rw [HD.out]);refine⟨h.1,h.2.1,?_,fun j hj=>?_⟩
      ·rw [show i+(k+1)=i+k+1 from by omega,h.2.2,Qac r k,HY.out,Qra,Nat.mul_add,Nat.mul_add,<-Nat.add_assoc,Nat.mul_assoc,Nat.mul_left_comm (P k) x y]
      ·rw [getD_set_ne _ (by omega)];exact hJ.2.2.2 j (by omega)
     case measure=>simp [intOf];omega
    ·obtain rfl:k=m:=by omega
     obtain⟨d,hd⟩:∃d,M.getD (i+k) 0=d:=⟨_,rfl⟩;have hcs:=hrow2.cell (k:=i+k) (by have:=HJ.out.1;omega);have hfs:=hrow2.frozen (i+k);rw [hd]at hcs;have HD:=hid hd;clear hd;go_wp2_with fail
     go_roundw
     case rel=>
      refine⟨i+1,M.set (i+k) cr,by omega,congrArg (Value.int _) (by omega),hrow2.set _ _,hbel2.setCell (le_refl _) _,?_⟩;show Hid _;have hJ:=HJ.out;have hI:=HI.out;refine⟨by rw [List.length_set];exact hJ.1,hJ.2.1.set _ hcr,?_,fun j hj=>?_⟩
      ·have h4:=Qgc cr (show i+k<M.length by omega)
       rw [hJ.2.2.2 (i+k) (by omega),hI.2.2.2 (i+k) (by omega),Nat.mul_zero,Nat.add_zero,hJ.2.2.1,List.take_of_length_le (l:=r) (by have:=hy.len;omega),hI.2.2.1]at h4;rw [h4,Qac l i,HX.out,Nat.add_mul,Nat.mul_assoc]
      ·rw [getD_set_ne _ (by omega),hJ.2.2.2 j (by omega)];exact hI.2.2.2 j (by omega)
     case measure=>simp [intOf];omega
  ·obtain rfl:i=n:=by omega
   have hlim2:Lim L:=HI.out.2.1;have HL:Hid (L.length=i+m):=HI.out.1;have HV:Hid (val L=val l*val r):=by
    show val L=val l*val r;have h:=HI.out.2.2.1
    rwa [List.take_of_length_le (l:=l) (by have:=hx.len;omega)]at h
   go_wp2_with (go_at_call 116;refine(Qk4 _ _ _ L _ (hrow.num hlim2 HL.out.symm (le_refl _)) (by omega)).mono ?_;rintro e w' ⟨rfl,rfl⟩)
   go_ret;exact hrow.ret (le_refl _) hlim2 hbel (by have:=HL.out;omega) HV.out
theorem Qnh(A A':Option Addr)(n c n' c' a b:Nat)(w:World)(hx:Num w (limbs a) A n c)(hy:Num w (limbs b) A' n' c')(hn:n<=536870912)(hn':n'<=536870912):
 Calls prog 78 #[.slice A n c,.slice A' n' c'] w (RetOwn w (limbs (a*b))):=by
 have h:=Qry A A' n c n' c' _ _ w hx hy hn hn'
 rwa [Qab,Qab]at h
end Go.Proofs.YthbhgelncdnmgaaGreatDoor
