import Derived.Test.YthbhgelncdnmgaaGreatDoorY11
import Derived.Deep.RegionHeld3
set_option linter.unusedVariables false
set_option linter.unusedSimpArgs false
set_option maxRecDepth 20000
set_option maxHeartbeats 2000000
namespace Go.Proofs.YthbhgelncdnmgaaGreatDoor
open Go.Proofs.Tryz
open Lib (hid)
open Nat (le_refl le_trans div_le_self)
open Go.RowKit
theorem Rc.drew{w:World}{g:Nat}{z0 z1 z2:Value}(h:Rc w g z0 z1 z2):Rc w.drew g z0 z1 z2:=h
theorem Qaa{w:World}{b g k:Nat}{x u0 u1 u2:Value}(h:b≠g)(hc:w.cell? ⟨b,k,none⟩=some x):(((w.setCell ⟨g,0,none⟩ u0).setCell ⟨g,1,none⟩ u1).setCell ⟨g,2,none⟩ u2).cell? ⟨b,k,none⟩=some x:=by
 rw [World.cell?_setCell_other _ _ _ _ (fun e=>h (by injection e with e1;exact e1.symm)),World.cell?_setCell_other _ _ _ _ (fun e=>h (by injection e with e1;exact e1.symm)),World.cell?_setCell_other _ _ _ _ (fun e=>h (by injection e with e1;exact e1.symm))];exact hc
theorem Qrz{w:World}{A:Option Addr}{m c d:Nat}(h:Num w (dl d) A m c)(hd:d≠0):m=0↔d=1:=by
 rw [h.len];unfold dl;split
 ·next e=>simp [e]
 ·next e=>exact⟨fun h=>absurd (Qae.1 h) hd,fun h=>absurd h e⟩
theorem Qp3(a b:Nat):(limbs (a+b)).length<=(limbs a).length+(limbs b).length+1:=by
 refine Qax ?_;have h1:=Qap a;have h2:=Qap b;have h3:=Qjl (Nat.le_add_right (limbs a).length (limbs b).length);have h4:=Qjl (Nat.le_add_left (limbs b).length (limbs a).length);have:=Qhg ((limbs a).length+(limbs b).length);rw [Qa2];omega
theorem Qi4{z x y:Bool}{t a b:Nat}(h:sgn z t=sgn x a+sgn y b):(limbs t).length<=(limbs a).length+(limbs b).length+1:=by
 refine le_trans (Qad ?_) (Qp3 a b);unfold sgn at h;cases x<;>cases y<;>cases z<;>simp at h<;>omega
theorem Qr0(nx ny:Bool)(A A' B B':Option Addr)(n c c' m f f' a b:Nat)(q:Rat)(w:World)(hx:Num w (limbs a) A n c)(hy:Num w (limbs b) B m f)(hn:n<=4000000)(hm:m<=4000000)(hq:qv nx a 1+qv ny b 1=q):
 Calls prog 204 #[.agg #[.bool nx,.slice A n c,.slice A' 0 c'],.agg #[.bool ny,.slice B m f,.slice B' 0 f']] w (RetRat w q):=by
 have hbA:Below w.heap.size w (((w.alloc (.cells #[.bool nx,.slice A n c,.slice A' 0 c'] 27)).alloc (.cells #[.bool ny,.slice B m f,.slice B' 0 f'] 27)).alloc (.cells #[.bool false,.slice none 0 0,.slice none 0 0] 27)):=(((Below.refl _ _).alloc (le_refl _) _).alloc (by simp) _).alloc (by simp;omega) _;have hrr:Rc (((w.alloc (.cells #[.bool nx,.slice A n c,.slice A' 0 c'] 27)).alloc (.cells #[.bool ny,.slice B m f,.slice B' 0 f'] 27)).alloc (.cells #[.bool false,.slice none 0 0,.slice none 0 0] 27)) (w.heap.size+1+1) (.bool false) (.slice none 0 0) (.slice none 0 0):=by
  have:=Rc.new ((w.alloc (.cells #[.bool nx,.slice A n c,.slice A' 0 c'] 27)).alloc (.cells #[.bool ny,.slice B m f,.slice B' 0 f'] 27)) (.bool false) (.slice none 0 0) (.slice none 0 0)
  rwa [World.size_alloc,World.size_alloc]at this
 have hxW:=hx.below hbA;have hyW:=hy.below hbA;go_enter func204,ntmps204;go_wp2_with fail
 generalize (((w.alloc (.cells #[.bool nx,.slice A n c,.slice A' 0 c'] 27)).alloc (.cells #[.bool ny,.slice B m f,.slice B' 0 f'] 27)).alloc (.cells #[.bool false,.slice none 0 0,.slice none 0 0] 27))=W at*
 have hgr:=hrr.lt;refine(Qgs nx ny _ _ _ _ _ _ a b _ hxW hyW (by omega) (by omega)).mono ?_;rintro e w1 ⟨z,t,A1,n1,c1,rfl,hV,h1,hb1⟩;have hn1:n1<=8000001:=by
  have:=Qi4 (z:=z) hV;have:=h1.len;have:=hx.len;have:=hy.len;omega
 have HQ:Hid (qv z t 1=q):=by
  show _=_;rw [<-hq];have:=Qw7 (x:=nx) (y:=ny) (a:=a) (c:=b) (b:=1) (d:=1) (g:=1) (z:=z) (t:=t) (by decide) (by decide) (Nat.gcd_one_right _) (Nat.gcd_one_right _) rfl (by simpa [sgn] using hV)
  simpa using this.1
 clear hq hV;go_wp2_with fail
 refine(Qcr z _ _ _ _ _ _ t 1 [] _ h1 (Num.nil _ _ _) (by omega) (by omega) (.inr ⟨rfl,rfl⟩)).mono ?_;rintro e w2 hr;obtain⟨v,rfl,⟨A9,n9,c9,B9,m9,e9,rfl,g1,g2⟩,hb2⟩:=RetFrac.rat (by decide) (Nat.gcd_one_right _) HQ.out hr;have hb12:=bt hb1 hb2;have hrr9:=hrr.below hb12 hgr;obtain⟨nb,hnb⟩:∃nb,(decide (q.num<0))=nb:=⟨_,rfl⟩;rw [hnb];have HNB:=hid hnb;clear hnb;have hne1:=g1.ne_rc hrr9;have hne2:=g2.ne_rc hrr9;obtain⟨r0,r1,r2⟩:=hrr9.cells;obtain⟨f0,f1,f2⟩:=hrr9.frozen;go_wp2_with fail
 refine Qa8 results204 rfl (hrr9.set _ _ _) rfl ?_;exact⟨_,rfl,⟨A9,n9,c9,B9,m9,e9,by rw [HNB.out],g1.set3 hne1 _ _ _,g2.set3 hne2 _ _ _⟩,Qai (bt hbA hb12) (by omega) _ _ _⟩
theorem Qw9{w:World}{A:Option Addr}{m c d:Nat}(h:Num w (dl d) A m c):(limbs d).length<=m+1:=by
 have:=h.len;unfold dl at this;split at this
 ·next h=>rw [h,Qay];simp
 ·omega
theorem Qr1(nx ny:Bool)(A A' B B':Option Addr)(n c n' c' m f m' f' a b g d:Nat)(q:Rat)(w:World)(hT:Tab w)(hx:Num w (limbs a) A n c)(hx':Num w (dl b) A' n' c')(hy:Num w (limbs g) B m f)(hy':Num w (dl d) B' m' f')
 (hn:n<=1000000)(hn':n'<=1000000)(hm:m<=1000000)(hm':m'<=1000000)(hb:b≠0)(hd:d≠0)(hg1:Nat.gcd a b=1)(hg2:Nat.gcd g d=1)(hne:¬(n'=0/\m'=0))(hq:qv nx a b+qv ny g d=q):
 Calls prog 204 #[.agg #[.bool nx,.slice A n c,.slice A' n' c'],.agg #[.bool ny,.slice B m f,.slice B' m' f']] w (RetRat w q):=by
 have hbA:Below w.heap.size w (((w.alloc (.cells #[.bool nx,.slice A n c,.slice A' n' c'] 27)).alloc (.cells #[.bool ny,.slice B m f,.slice B' m' f'] 27)).alloc (.cells #[.bool false,.slice none 0 0,.slice none 0 0] 27)):=(((Below.refl _ _).alloc (le_refl _) _).alloc (by simp) _).alloc (by simp;omega) _;have hrr:Rc (((w.alloc (.cells #[.bool nx,.slice A n c,.slice A' n' c'] 27)).alloc (.cells #[.bool ny,.slice B m f,.slice B' m' f'] 27)).alloc (.cells #[.bool false,.slice none 0 0,.slice none 0 0] 27)) (w.heap.size+1+1) (.bool false) (.slice none 0 0) (.slice none 0 0):=by
  have:=Rc.new ((w.alloc (.cells #[.bool nx,.slice A n c,.slice A' n' c'] 27)).alloc (.cells #[.bool ny,.slice B m f,.slice B' m' f'] 27)) (.bool false) (.slice none 0 0) (.slice none 0 0)
  rwa [World.size_alloc,World.size_alloc]at this
 have hrx:Rc (((w.alloc (.cells #[.bool nx,.slice A n c,.slice A' n' c'] 27)).alloc (.cells #[.bool ny,.slice B m f,.slice B' m' f'] 27)).alloc (.cells #[.bool false,.slice none 0 0,.slice none 0 0] 27)) w.heap.size (.bool nx) (.slice A n c) (.slice A' n' c'):=((Rc.new w _ _ _).alloc _).alloc _;have hry:Rc (((w.alloc (.cells #[.bool nx,.slice A n c,.slice A' n' c'] 27)).alloc (.cells #[.bool ny,.slice B m f,.slice B' m' f'] 27)).alloc (.cells #[.bool false,.slice none 0 0,.slice none 0 0] 27)) (w.heap.size+1) (.bool ny) (.slice B m f) (.slice B' m' f'):=by
  have:=(Rc.new (w.alloc (.cells #[.bool nx,.slice A n c,.slice A' n' c'] 27)) (.bool ny) (.slice B m f) (.slice B' m' f')).alloc (.cells #[.bool false,.slice none 0 0,.slice none 0 0] 27)
  rwa [World.size_alloc]at this
 have hTW:=hT.below hbA;have hxW:=hx.below hbA;have hyW:=hy.below hbA;have hxW':=hx'.below hbA;have hyW':=hy'.below hbA;have hcase:(n'≠0)\/(n'=0/\m'≠0):=by omega
 have HB:=hid hb;have HD:=hid hd;have HQ:=hid hq;have HG1:=hid hg1;have HG2:=hid hg2;clear hne hb hd hq hg1 hg2;refine Or.elim hcase (fun hc=>?ca) (fun hc'=>?cb);all_goals clear hcase
 case' ca=>
  have hd1:((n':Int)==0)=false:=by simp;omega
  clear hc;go_enter func204,ntmps204;go_wp2_with fail
  generalize (((w.alloc (.cells #[.bool nx,.slice A n c,.slice A' n' c'] 27)).alloc (.cells #[.bool ny,.slice B m f,.slice B' m' f'] 27)).alloc (.cells #[.bool false,.slice none 0 0,.slice none 0 0] 27))=W at*
 case' cb=>
  have hd1:((n':Int)==0)=true:=by simp;omega
  have hd2:((m':Int)==0)=false:=by simp;omega
  clear hc';go_enter func204,ntmps204;go_wp2_with fail
  generalize (((w.alloc (.cells #[.bool nx,.slice A n c,.slice A' n' c'] 27)).alloc (.cells #[.bool ny,.slice B m f,.slice B' m' f'] 27)).alloc (.cells #[.bool false,.slice none 0 0,.slice none 0 0] 27))=W at*
 all_goals
  have hgx:w.heap.size<W.drew.heap.size:=hrx.lt;have hgy:w.heap.size+1<W.drew.heap.size:=hry.lt;have hgr:w.heap.size+1+1<W.drew.heap.size:=hrr.lt;replace hrx:=hrx.drew;replace hry:=hry.drew;replace hrr:=hrr.drew;replace hTW:=hTW.drew;replace hxW:=hxW.drew;replace hyW:=hyW.drew;replace hxW':=hxW'.drew;replace hyW':=hyW'.drew;replace hbA:=hbA.drew;have hsx:=hrx.cells;have hsy:=hry.cells
  go_region_held3 (fun w'=>(w'.cell? ⟨w.heap.size,0,none⟩=some (.bool nx)/\w'.cell? ⟨w.heap.size,1,none⟩=some (.slice A n c)/\w'.cell? ⟨w.heap.size,2,none⟩=some (.slice A' n' c'))/\(w'.cell? ⟨w.heap.size+1,0,none⟩=some (.bool ny)/\w'.cell? ⟨w.heap.size+1,1,none⟩=some (.slice B m f)/\w'.cell? ⟨w.heap.size+1,2,none⟩=some (.slice B' m' f')))
   (exact⟨hsx,hsy⟩)
   (first
    |(have _g:=hb1;go_at_call 221;refine(Qar ny B B' m f m' f' d _ (hyW'.below hb1) HD.out).mono ?_;rintro e w2 ⟨A2,n2,c2,rfl,h2,hb2⟩;have hb12:=bt hb1 hb2;have hsx:=(hrx.below hb12 hgx).cells;have hsy:=(hry.below hb12 hgy).cells)
    |(go_at_call 221;refine(Qar nx A A' n c n' c' b _ hxW' HB.out).mono ?_;rintro e w1 ⟨A1,n1,c1,rfl,h1,hb1⟩;have hsx:=(hrx.below hb1 hgx).cells;have hsy:=(hry.below hb1 hgy).cells))
  have hl1:n1<=1000001:=by have:=Qw9 hx';have:=h1.len;omega
  have hl2:n2<=1000001:=by have:=Qw9 hy';have:=h2.len;omega
  go_wp2_with fail
  refine(Qe5 _ _ _ _ _ _ b d _ (hTW.below hb12) (h1.below hb2) h2 (by omega) (by omega)).mono ?_;rintro e w3 ⟨A3,n3,c3,rfl,h3,hb3⟩;have hb13:=bt hb12 hb3;have hl3:n3<=1000001:=by
   have:=Qad (Nat.le_of_dvd (Nat.pos_of_ne_zero HD.out) (Nat.gcd_dvd_right b d));have:=h3.len;have:=h2.len;omega
  obtain⟨G,hG⟩:∃G,Nat.gcd b d=G:=⟨_,rfl⟩;have HG0:Hid (G≠0):=by
   show _≠_;rw [<-hG];exact fun h=>HD.out (Nat.eq_zero_of_gcd_eq_zero_right h)
  rw [hG]at h3;have HG:=hid hG;clear hG;go_wp2_with fail
  refine(Qg4 _ _ _ _ _ _ b G _ (h1.below (bt hb2 hb3)) h3.num (by omega) (by omega) HG0.out).mono ?_;rintro e w4 ⟨A4,n4,c4,rfl,h4,hb4⟩;have hb14:=bt hb13 hb4;go_wp2_with fail
  refine(Qg4 _ _ _ _ _ _ d G _ (h2.below (bt hb3 hb4)) (h3.num.below hb4) (by omega) (by omega) HG0.out).mono ?_;rintro e w5 ⟨A5,n5,c5,rfl,h5,hb5⟩;have hb15:=bt hb14 hb5;have hl4:n4<=1000001:=by have:=Qad (div_le_self b G);have:=h4.len;have:=h1.len;omega
  have hl5:n5<=1000001:=by have:=Qad (div_le_self d G);have:=h5.len;have:=h2.len;omega
  obtain⟨b',hb'⟩:∃x,b / G=x:=⟨_,rfl⟩;obtain⟨d',hd'⟩:∃x,d / G=x:=⟨_,rfl⟩;rw [hb']at h4;rw [hd']at h5;have HB':=hid hb';clear hb';have HD':=hid hd';clear hd';have hb15d:=hb15.drew;have hsx:=(hrx.below hb15d hgx).cells;have hsy:=(hry.below hb15d hgy).cells;have h3d:=(h3.num.below (bt hb4 hb5)).drew;have h4d:=(h4.below hb5).drew;have h5d:=h5.drew;go_wp2_with fail
  go_region_held3 (fun w'=>(w'.cell? ⟨w.heap.size,0,none⟩=some (.bool nx)/\w'.cell? ⟨w.heap.size,1,none⟩=some (.slice A n c)/\w'.cell? ⟨w.heap.size,2,none⟩=some (.slice A' n' c'))/\(w'.cell? ⟨w.heap.size+1,0,none⟩=some (.bool ny)/\w'.cell? ⟨w.heap.size+1,1,none⟩=some (.slice B m f)/\w'.cell? ⟨w.heap.size+1,2,none⟩=some (.slice B' m' f')))
   (exact⟨hsx,hsy⟩)
   (first
    |(go_at_call 246;refine(Qgs nx ny _ _ _ _ _ _ (a*d') (g*b') _ (h6.num.below hb7) h7.num ?_ ?_).mono ?_;(have:=Qa0 a d';have:=h6.len;have:=hx.len;have:=h5.len;omega);(have:=Qa0 g b';have:=h7.len;have:=hy.len;have:=h4.len;omega);rintro e w8 ⟨z,t,A8,n8,c8,rfl,hV,h8,hb8⟩;have hb18:=bt hb17 hb8;have hsx:=(hrx.below hb18 hgx).cells;have hsy:=(hry.below hb18 hgy).cells)
    |(have _g:=hb6;go_at_call 220;refine(Qbe _ _ _ _ _ _ g b' _ ((hyW.below hb15d).below hb6) (h4d.below hb6) (by omega) (by omega)).mono ?_;rintro e w7 ⟨A7,n7,c7,rfl,h7,hb7⟩;have hb17:=bt hb16 hb7;have hsx:=(hrx.below hb17 hgx).cells;have hsy:=(hry.below hb17 hgy).cells)
    |(go_at_call 220;refine(Qbe _ _ _ _ _ _ a d' _ (hxW.below hb15d) h5d (by omega) (by omega)).mono ?_;rintro e w6 ⟨A6,n6,c6,rfl,h6,hb6⟩;have hb16:=bt hb15d hb6;have hsx:=(hrx.below hb16 hgx).cells;have hsy:=(hry.below hb16 hgy).cells))
  have hl8:n8<=4000005:=by
   have:=Qi4 (z:=z) hV;have:=Qa0 a d';have:=Qa0 g b';have:=h8.len;have:=hx.len;have:=hy.len;have:=h4.len;have:=h5.len;omega
  have HS:Hid (qv z (t / Nat.gcd t G) (b'*d'*(G / Nat.gcd t G))=q/\b'*d'*(G / Nat.gcd t G)≠0/\Nat.gcd (t / Nat.gcd t G) (b'*d'*(G / Nat.gcd t G))=1):=by
   have:=Qw7 (x:=nx) (y:=ny) (t:=t) (z:=z) HB.out HD.out HG1.out HG2.out HG.out (by rw [HB'.out,HD'.out];exact hV);rw [HB'.out,HD'.out,HQ.out]at this;exact this
  clear hV;have hb78:=(bt hb6 hb7).trans (hb8.mono (bt hb6 hb7).size);go_wp2_with fail
  refine(Qgg _ _ _ _ _ _ t G _ (hTW.below hb18) h8 (h3d.below hb78) (by omega) (by omega) (fun h=>HG0.out h.2)).mono ?_;rintro e w9 ⟨A9,n9,c9,A10,n10,c10,rfl,h9,h10,hb9⟩;have hb19:=bt hb18 hb9;have hl9:n9<=4000005:=by have:=Qad (div_le_self t (Nat.gcd t G));have:=h9.len;have:=h8.len;omega
  have hl10:n10<=1000001:=by have:=Qad (div_le_self G (Nat.gcd t G));have:=h10.len;have:=h3.num.len;omega
  obtain⟨t',ht'⟩:∃x,t / Nat.gcd t G=x:=⟨_,rfl⟩;obtain⟨G',hG'⟩:∃x,G / Nat.gcd t G=x:=⟨_,rfl⟩;rw [ht']at h9;rw [hG']at h10;simp only [ht',hG']at HS;clear ht' hG';go_wp2_with fail
  refine(Qbe _ _ _ _ _ _ b' d' _ (h4d.below (bt hb78 hb9)) (h5d.below (bt hb78 hb9)) (by omega) (by omega)).mono ?_;rintro e w10 ⟨A11,n11,c11,rfl,h11,hb10⟩;have hb110:=bt hb19 hb10;have hl11:n11<=2000002:=by have:=Qa0 b' d';have:=h11.len;have:=h4.len;have:=h5.len;omega
  go_wp2_with fail
  refine(Qbe _ _ _ _ _ _ (b'*d') G' _ h11.num (h10.below hb10) (by omega) (by omega)).mono ?_;rintro e w11 ⟨A12,n12,c12,rfl,h12,hb11⟩;have hb111:=bt hb110 hb11;have hl12:n12<=3000003:=by have:=Qa0 (b'*d') G';have:=h12.len;have:=h11.len;have:=h10.len;omega
  go_wp2_with fail
  refine(Qcr z _ _ _ _ _ _ t' (b'*d'*G') _ _ (h9.below (bt hb10 hb11)) h12.num (by omega) (by omega) (.inl rfl)).mono ?_;rintro e w12 hr;obtain⟨v,rfl,⟨A13,n13,c13,A14,n14,c14,rfl,g1,g2⟩,hb12'⟩:=RetFrac.rat HS.out.2.1 HS.out.2.2 HS.out.1 hr;have hb112:=bt hb111 hb12';have hrr9:=hrr.below hb112 hgr;obtain⟨nb,hnb⟩:∃nb,(decide (q.num<0))=nb:=⟨_,rfl⟩;rw [hnb];have HNB:=hid hnb;clear hnb;have hne1:=g1.ne_rc hrr9;have hne2:=g2.ne_rc hrr9;obtain⟨r0,r1,r2⟩:=hrr9.cells;obtain⟨f0,f1,f2⟩:=hrr9.frozen;go_wp2_with fail
  refine Qa8 results204 rfl (hrr9.set _ _ _) rfl ?_;exact⟨_,rfl,⟨A13,n13,c13,A14,n14,c14,by rw [HNB.out],g1.set3 hne1 _ _ _,g2.set3 hne2 _ _ _⟩,Qai (bt hbA hb112) (by omega) _ _ _⟩
def dv(ld:List Nat):Nat:=if ld=[]then 1 else val ld
def fq(neg:Bool)(ln ld:List Nat):Rat:=if vld neg ln ld then qv neg (val ln) (dv ld)else 0
theorem Qfw{neg:Bool}{ln ld:List Nat}(hl:Lim ln)(hl':Lim ld)(h:vld neg ln ld=true):
 ln=limbs (val ln)/\ld=dl (dv ld)/\dv ld≠0/\Nat.gcd (val ln) (dv ld)=1/\(neg && decide (val ln≠0))=neg:=by
 unfold vld at h;split at h
 ·cases h
 ·next hp=>
  split at h
  ·cases h
  ·next hp'=>
   split at h
   ·cases h
   ·next h1=>
    have e1:=Qby hl (by simpa using hp);have e2:=Qby hl' (by simpa using hp');have hden:ld=dl (dv ld)/\dv ld≠0:=by
     unfold dv;by_cases hn:ld=[]
     ·rw [if_pos hn,hn];exact⟨rfl,by decide⟩
     ·rw [if_neg hn]
      have hne:val ld≠0:=fun h0=>hn (by rw [e2,h0,Qaf])
      have hne1:val ld≠1:=fun h0=>h1 (by rw [e2,h0,Qay])
      exact⟨by rw [Qj1 hne1];exact e2,hne⟩
    refine⟨e1,hden.1,hden.2,?_⟩;split at h
    ·next hn=>
     simp only [Bool.and_eq_true,decide_eq_true_eq,Bool.not_eq_true']at h;have hv:val ln=0:=(by rw [hn];rfl);have hd:dv ld=1:=(by unfold dv;rw [if_pos h.1]);rw [hv,hd,h.2];exact⟨rfl,rfl⟩
    ·next hn=>
     have hv:val ln≠0:=fun h0=>hn (by rw [e1,h0,Qaf])
     refine⟨?_,by simp [hv]⟩;simp only [Bool.or_eq_true,decide_eq_true_eq,beq_iff_eq]at h;unfold dv;rcases h with h|h
     ·rw [if_pos h,Nat.gcd_one_right]
     ·split
      ·rw [Nat.gcd_one_right]
      ·exact h
theorem Qfx(w:World):RatQ w (.agg #[.bool false,.slice none 0 0,.slice none 0 0]) 0:=
 ⟨none,0,0,none,0,0,rfl,by rw [show(0:Rat).num.natAbs=0 from rfl,Qaf];exact Num.nil _ _ _,by rw [show(0:Rat).den=1 from rfl,Qlb];exact Num.nil _ _ _⟩
theorem Qj5{w:World}{neg:Bool}{A A':Option Addr}{n c m c':Nat}{ln ld:List Nat}(h:vld neg ln ld=true)(hx:Num w ln A n c)(hy:Num w ld A' m c'):RatQ w (.agg #[.bool neg,.slice A n c,.slice A' m c']) (fq neg ln ld):=by
 obtain⟨e1,e2,e3,e4,e5⟩:=Qfw hx.lim hy.lim h;unfold fq;rw [if_pos h];unfold RatQ;rw [(Qc5 e3 e4).1,(Qc5 e3 e4).2,Qe6,Qjz,e5];exact⟨A,n,c,A',m,c',rfl,by rw [<-e1];exact hx,by rw [<-e2];exact hy⟩
theorem RatQ.below{w w':World}{v:Value}{q:Rat}(h:RatQ w v q)(hb:Below w.heap.size w w'):RatQ w' v q:=by
 obtain⟨A,n,c,A',m,c',e,h1,h2⟩:=h;exact⟨A,n,c,A',m,c',e,h1.below hb,h2.below hb⟩
theorem Qr2(neg:Bool)(A A':Option Addr)(n c m c':Nat)(ln ld:List Nat)(q:Rat)(w:World)(hT:Tab w)(hx:Num w ln A n c)(hy:Num w ld A' m c')(hn:n<=8388608)(hm:m<=8388608)(hq:fq neg ln ld=q):
 Calls prog 178 #[.agg #[.bool neg,.slice A n c,.slice A' m c']] w (RetRat w q):=by
 obtain⟨V,hV⟩:∃V,vld neg ln ld=V:=⟨_,rfl⟩;have HV:=hid hV;have HQ:=hid hq;clear hV hq;have hbA:Below w.heap.size w ((w.alloc (.cells #[.bool neg,.slice A n c,.slice A' m c'] 27)).alloc (.cells #[.bool false,.slice none 0 0,.slice none 0 0] 27)):=((Below.refl _ _).alloc (le_refl _) _).alloc (by simp) _;have hrx:Rc ((w.alloc (.cells #[.bool neg,.slice A n c,.slice A' m c'] 27)).alloc (.cells #[.bool false,.slice none 0 0,.slice none 0 0] 27)) w.heap.size (.bool neg) (.slice A n c) (.slice A' m c'):=(Rc.new w _ _ _).alloc _;have hrr:Rc ((w.alloc (.cells #[.bool neg,.slice A n c,.slice A' m c'] 27)).alloc (.cells #[.bool false,.slice none 0 0,.slice none 0 0] 27)) (w.heap.size+1) (.bool false) (.slice none 0 0) (.slice none 0 0):=by
  have:=Rc.new (w.alloc (.cells #[.bool neg,.slice A n c,.slice A' m c'] 27)) (.bool false) (.slice none 0 0) (.slice none 0 0)
  rwa [World.size_alloc]at this
 have hTW:=hT.below hbA;have hxW:=hx.below hbA;have hyW:=hy.below hbA;go_enter func178,ntmps178;go_wp2_with fail
 generalize ((w.alloc (.cells #[.bool neg,.slice A n c,.slice A' m c'] 27)).alloc (.cells #[.bool false,.slice none 0 0,.slice none 0 0] 27))=W at*
 refine(Qc4 neg _ _ _ _ _ _ ln ld _ V hTW hxW hyW hn hm HV).mono ?_;rintro e w1 ⟨rfl,hb1⟩;have hrx1:=hrx.below hb1 hrx.lt;have hrr1:=hrr.below hb1 hrr.lt;have hx1:=hxW.below hb1;have hy1:=hyW.below hb1;have hne1:=hx1.ne_rc hrr1;have hne2:=hy1.ne_rc hrr1;obtain⟨k0,k1,k2⟩:=hrx1.cells;obtain⟨r0,r1,r2⟩:=hrr1.cells;obtain⟨f0,f1,f2⟩:=hrr1.frozen;have hb01:=bt hbA hb1;cases V
 ·have hq0:q=0:=by rw [<-HQ.out];unfold fq;rw [HV.out];rfl
  subst hq0;go_wp2_with fail
  refine Qa8 results178 rfl (hrr1.set _ _ _) rfl ?_;exact⟨_,rfl,Qfx _,Qai hb01 (by omega) _ _ _⟩
 ·go_wp2_with fail
  refine Qa8 results178 rfl (hrr1.set _ _ _) rfl ?_;refine⟨_,rfl,?_,Qai hb01 (by omega) _ _ _⟩;rw [<-HQ.out];exact Qj5 HV.out (hx1.set3 hne1 _ _ _) (hy1.set3 hne2 _ _ _)
def Sz(q:Rat)(L:Nat):Prop:=(limbs q.num.natAbs).length<=L/\(limbs q.den).length<=L
theorem Sz.mono{q:Rat}{L M:Nat}(h:Sz q L)(hm:L<=M):Sz q M:=⟨le_trans h.1 hm,le_trans h.2 hm⟩
theorem Qbd(d:Nat):(dl d).length<=(limbs d).length:=by
 unfold dl;split
 ·simp
 ·exact le_refl _
def Inp(w:World)(v:Value)(q:Rat)(L:Nat):Prop:=
 ∃neg A n c A' m c' ln ld,v=.agg #[.bool neg,.slice A n c,.slice A' m c']/\Num w ln A n c/\Num w ld A' m c'/\n<=8388608/\m<=8388608/\fq neg ln ld=q/\Sz q L
theorem Qfy{q:Rat}:vld (decide (q.num<0)) (limbs q.num.natAbs) (dl q.den)=true:=by
 have hp:∀a,pad (limbs a)=false:=fun a=>by
  unfold pad;simp only [decide_eq_false_iff_not,not_and];intro h;obtain⟨k,hk⟩:∃k,(limbs a).length=k+1:=⟨_,(Nat.succ_pred_eq_of_pos h).symm⟩;rw [hk,Nat.add_sub_cancel];exact Qeg hk
 have hpd:∀a,pad (dl a)=false:=fun a=>by
  unfold dl;split
  ·rfl
  ·exact hp a
 unfold vld;rw [hp,hpd,if_neg (by decide),if_neg (by decide),if_neg]
 ·split
  ·next h=>
   have h0:=Qcl.1 h;have hg:q.den=1:=by
    have:=q.reduced;rw [h0]at this
    simpa using this
   have hn:¬q.num<0:=(by omega);rw [hg];simp [Qlb,hn]
  ·by_cases hd:q.den=1
   ·rw [hd];simp [Qlb]
   ·rw [Qj1 hd,Qab,Qab]
    have:Nat.gcd q.num.natAbs q.den=1:=q.reduced;simp [this]
 ·intro h
  unfold dl at h;split at h
  ·cases h
  ·next h1=>exact h1 (Qa1.1 h)
theorem Qg5(q:Rat):fq (decide (q.num<0)) (limbs q.num.natAbs) (dl q.den)=q:=by
 unfold fq;rw [if_pos Qfy,Qab];have hd:dv (dl q.den)=q.den:=by
  unfold dv dl;by_cases h:q.den=1
  ·simp [h]
  ·rw [if_neg h,if_neg,Qab]
   intro h0;exact q.den_nz (Qcl.1 h0)
 rw [hd];exact Qdn q
theorem RatQ.inp{w:World}{v:Value}{q:Rat}{L:Nat}(h:RatQ w v q)(hs:Sz q L)(hL:L<=8388608):Inp w v q L:=by
 obtain⟨A,n,c,A',m,c',e,h1,h2⟩:=h;have l1:=h1.len;have l2:=h2.len;have l3:=Qbd q.den;exact⟨_,A,n,c,A',m,c',_,_,e,h1,h2,by have:=hs.1;omega,by have:=hs.2;omega,Qg5 q,hs⟩
theorem Inp.below{w w':World}{v:Value}{q:Rat}{L:Nat}(h:Inp w v q L)(hb:Below w.heap.size w w'):Inp w' v q L:=by
 obtain⟨neg,A,n,c,A',m,c',ln,ld,e,h1,h2,h3⟩:=h;exact⟨neg,A,n,c,A',m,c',ln,ld,e,h1.below hb,h2.below hb,h3⟩
abbrev R0:Obj:=.cells #[.bool false,.slice none 0 0,.slice none 0 0] 27
abbrev R1(z0 z1 z2:Value):Obj:=.cells #[z0,z1,z2] 27
theorem blocks2(w:World)(z0 z1 z2 u0 u1 u2:Value):
 Below w.heap.size w ((w.alloc (R1 z0 z1 z2)).alloc (R1 u0 u1 u2))/\Rc ((w.alloc (R1 z0 z1 z2)).alloc (R1 u0 u1 u2)) w.heap.size z0 z1 z2/\Rc ((w.alloc (R1 z0 z1 z2)).alloc (R1 u0 u1 u2)) (w.heap.size+1) u0 u1 u2:=by
 refine⟨((Below.refl _ _).alloc (le_refl _) _).alloc (by simp) _,(Rc.new w _ _ _).alloc _,?_⟩;have:=Rc.new (w.alloc (R1 z0 z1 z2)) u0 u1 u2
 rwa [World.size_alloc]at this
theorem blocks3(w:World)(z0 z1 z2 y0 y1 y2 u0 u1 u2:Value):
 Below w.heap.size w (((w.alloc (R1 z0 z1 z2)).alloc (R1 y0 y1 y2)).alloc (R1 u0 u1 u2))/\Rc (((w.alloc (R1 z0 z1 z2)).alloc (R1 y0 y1 y2)).alloc (R1 u0 u1 u2)) w.heap.size z0 z1 z2/\
 Rc (((w.alloc (R1 z0 z1 z2)).alloc (R1 y0 y1 y2)).alloc (R1 u0 u1 u2)) (w.heap.size+1) y0 y1 y2/\Rc (((w.alloc (R1 z0 z1 z2)).alloc (R1 y0 y1 y2)).alloc (R1 u0 u1 u2)) (w.heap.size+1+1) u0 u1 u2:=by
 obtain⟨h1,h2,h3⟩:=blocks2 w z0 z1 z2 y0 y1 y2;refine⟨h1.alloc (by simp;omega) _,h2.alloc _,h3.alloc _,?_⟩;have:=Rc.new ((w.alloc (R1 z0 z1 z2)).alloc (R1 y0 y1 y2)) u0 u1 u2
 rwa [World.size_alloc,World.size_alloc]at this
theorem dl_or(d:Nat):dl d=limbs d\/(dl d=[]/\d=1):=by
 unfold dl;split
 ·next h=>exact .inr ⟨rfl,h⟩
 ·exact .inl rfl
theorem Qr3(nx ny:Bool)(v v':Value)(a b g d:Nat)(q:Rat)(w:World)(hT:Tab w)(hx:RatN w v nx a b)(hy:RatN w v' ny g d)
 (ha:(limbs a).length<=1000000)(hb':(limbs b).length<=1000000)(hg:(limbs g).length<=1000000)(hd':(limbs d).length<=1000000)(hb:b≠0)(hd:d≠0)(hg1:Nat.gcd a b=1)(hg2:Nat.gcd g d=1)(hq:qv nx a b+qv ny g d=q):
 Calls prog 204 #[v,v'] w (RetRat w q):=by
 obtain⟨A,n,c,A',n',c',rfl,h1,h2⟩:=hx;obtain⟨B,m,f,B',m',f',rfl,h3,h4⟩:=hy;have l1:=h1.len;have l2:=h2.len;have l3:=h3.len;have l4:=h4.len;have l5:=Qbd b;have l6:=Qbd d;by_cases h0:n'=0/\m'=0
 ·have e1:=(Qrz h2 hb).1 h0.1
  have e2:=(Qrz h4 hd).1 h0.2;rw [h0.1,h0.2];exact Qr0 nx ny A A' B B' n c c' m f f' a g q w h1 h3 (by omega) (by omega) (by rw [e1,e2]at hq;exact hq)
 ·exact Qr1 nx ny A A' B B' n c n' c' m f m' f' a b g d q w hT h1 h2 h3 h4 (by omega) (by omega) (by omega) (by omega) hb hd hg1 hg2 h0 hq
theorem add_q(v v':Value)(x y:Rat)(w:World)(hT:Tab w)(hx:RatQ w v x)(hy:RatQ w v' y)(sx:Sz x 1000000)(sy:Sz y 1000000):
 Calls prog 204 #[v,v'] w (RetRat w (x+y)):=
 Qr3 _ _ v v' _ _ _ _ _ w hT hx hy sx.1 sx.2 sy.1 sy.2 x.den_nz y.den_nz x.reduced y.reduced (by rw [Qdn,Qdn])
theorem Qni(neg:Bool)(A A':Option Addr)(n c m c':Nat)(w:World)(V:Int)(H:Hid ((if neg then -1 else if n=0 then 0 else 1)=V)):
 Calls prog 217 #[.agg #[.bool neg,.slice A n c,.slice A' m c']] w (RetV w (.int .i64 V)):=by
 have hbA:∀o,Below w.heap.size w (w.alloc o):=fun o=>(Below.refl _ _).alloc (le_refl _) _
 by_cases h0:n=0
 ·have hd1:((n:Int)==0)=true:=by simp;omega
  cases neg;all_goals
   go_enter func217,ntmps217;go_wp2_with fail
   go_ret;exact⟨Qa7 (by rw [<-H.out];simp [h0]),hbA _⟩
 ·have hd1:((n:Int)==0)=false:=by simp;omega
  cases neg;all_goals
   go_enter func217,ntmps217;go_wp2_with fail
   go_ret;exact⟨Qa7 (by rw [<-H.out];simp [h0]),hbA _⟩
theorem Qxa(v:Value)(x:Rat)(w:World)(hx:RatQ w v x):Calls prog 217 #[v] w (RetV w (.int .i64 x.num.sign)):=by
 obtain⟨A,n,c,A',n',c',rfl,h1,h2⟩:=hx;refine Qni _ _ _ _ _ _ _ _ _ ?_;show _=_;have l1:=h1.len;by_cases h:x.num<0
 ·simp [h,Int.sign_eq_neg_one_of_neg h]
 ·have:n=0↔x.num=0:=by rw [l1,Qae];omega
  by_cases h0:x.num=0
  ·simp [h0,this.2 h0]
  ·have hp:0<x.num:=by omega
   simp [h,Int.sign_eq_one_of_pos hp,this,h0]
theorem Qp4(neg neg':Bool)(v:Value)(a d:Nat)(q:Rat)(w:World)(hx:RatN w v neg' a d)(ha:(limbs a).length<=4000000)(hd':(limbs d).length<=4000000)(hd:d≠0)(hg:Nat.gcd a d=1)(hq:qv neg a d=q):
 Calls prog 234 #[.bool neg,v] w (RetRat w q):=by
 obtain⟨A,n,c,A',m,c',rfl,h1,h2⟩:=hx;have hn:n<=4000000:=by have:=h1.len;omega
 have hm:m<=4000000:=by have:=h2.len;have:=Qbd d;omega
 have HD:=hid hd;have HG:=hid hg;have HQ:=hid hq;clear hd hg hq ha hd';obtain⟨hbA,hrx,hrr⟩:=blocks2 w (.bool neg') (.slice A n c) (.slice A' m c') (.bool false) (.slice none 0 0) (.slice none 0 0);have hxW:=h1.below hbA;have hyW:=h2.below hbA;go_enter func234,ntmps234;go_wp2_with fail
 generalize ((w.alloc (R1 (.bool neg') (.slice A n c) (.slice A' m c'))).alloc (R1 (.bool false) (.slice none 0 0) (.slice none 0 0)))=W at*
 have hgx:w.heap.size<W.drew.heap.size:=hrx.lt;have hgr:w.heap.size+1<W.drew.heap.size:=hrr.lt;replace hrx:=hrx.drew;replace hrr:=hrr.drew;replace hxW:=hxW.drew;replace hyW:=hyW.drew;replace hbA:=hbA.drew;have hs:=hrx.cells
 go_region_held3 (fun w'=>w'.cell? ⟨w.heap.size,0,none⟩=some (.bool neg')/\w'.cell? ⟨w.heap.size,1,none⟩=some (.slice A n c)/\w'.cell? ⟨w.heap.size,2,none⟩=some (.slice A' m c'))
  (first|exact hs|exact⟨Qaa (Nat.ne_of_lt (Nat.lt_succ_self _)) hs.1,Qaa (Nat.ne_of_lt (Nat.lt_succ_self _)) hs.2.1,Qaa (Nat.ne_of_lt (Nat.lt_succ_self _)) hs.2.2⟩)
  (first
   |(go_at_call 208;refine(Qcr neg _ _ _ _ _ _ a d (dl d) _ (g1.num.below hb2) g2.num ?_ ?_ ?_).mono ?_;(have:=g1.len;have:=h1.len;omega);(have:=g2.len;have:=h2.len;omega);exact dl_or d;rintro e w3 hr;obtain⟨v,rfl,⟨A9,n9,c9,B9,m9,e9,rfl,g3,g4⟩,hb3⟩:=RetFrac.rat HD.out HG.out HQ.out hr;have hb13:=bt hb12 hb3;have hs:=(hrx.below hb13 hgx).cells;have hrr9:=hrr.below hb13 hgr;obtain⟨nb,hnb⟩:∃nb,(decide (q.num<0))=nb:=⟨_,rfl⟩;rw [hnb];have HNB:=hid hnb;clear hnb;have hne1:=g3.ne_rc hrr9;have hne2:=g4.ne_rc hrr9;obtain⟨r0,r1,r2⟩:=hrr9.cells;obtain⟨f0,f1,f2⟩:=hrr9.frozen)
   |(have _g:=hb1;go_at_call 176;refine(Qdk _ _ _ (dl d) _ (hyW.below hb1) (by omega)).mono ?_;rintro e w2 ⟨A2,n2,c2,rfl,g2,hb2⟩;have hb12:=bt hb1 hb2;have hs:=(hrx.below hb12 hgx).cells)
   |(go_at_call 176;refine(Qdk _ _ _ (limbs a) _ hxW (by omega)).mono ?_;rintro e w1 ⟨A1,n1,c1,rfl,g1,hb1⟩;have hs:=(hrx.below hb1 hgx).cells))
 go_wp2_with fail
 refine Qa8 results234 rfl (hrr9.set _ _ _) rfl ?_;exact⟨_,rfl,⟨A9,n9,c9,B9,m9,e9,by rw [HNB.out],g3.set3 hne1 _ _ _,g4.set3 hne2 _ _ _⟩,Qai (bt hbA hb13) (Nat.le_succ _) _ _ _⟩
theorem Qb4(v:Value)(q:Rat)(L:Nat)(w:World)(hT:Tab w)(h:Inp w v q L):Calls prog 178 #[v] w (RetRat w q):=by
 obtain⟨neg,A,n,c,A',m,c',ln,ld,rfl,h1,h2,h3,h4,h5,_⟩:=h;exact Qr2 neg A A' n c m c' ln ld q w hT h1 h2 h3 h4 h5
theorem Inp.agg{w:World}{v:Value}{q:Rat}{L:Nat}(h:Inp w v q L):∃nb A n c B m e,v=.agg #[.bool nb,.slice A n c,.slice B m e]:=by
 obtain⟨neg,A,n,c,A',m,c',ln,ld,e,_⟩:=h;exact⟨_,_,_,_,_,_,_,e⟩
theorem RatQ.agg{w:World}{v:Value}{q:Rat}(h:RatQ w v q):∃nb A n c B m e,v=.agg #[.bool nb,.slice A n c,.slice B m e]:=by
 obtain⟨A,n,c,A',m,c',e,_⟩:=h;exact⟨_,_,_,_,_,_,_,e⟩
theorem RatQ.parts{w:World}{nb:Bool}{A B:Option Addr}{n c m e:Nat}{q:Rat}(h:RatQ w (.agg #[.bool nb,.slice A n c,.slice B m e]) q):nb=decide (q.num<0)/\Num w (limbs q.num.natAbs) A n c/\Num w (dl q.den) B m e:=by
 obtain⟨A1,n1,c1,A2,m2,c2,e,h1,h2⟩:=h;injection e with e;injection e with e;injection e with e1 e;injection e with e2 e;injection e with e3 e;injection e1 with e1;injection e2 with e21 e22 e23;injection e3 with e31 e32 e33;subst e21 e22 e23 e31 e32 e33;exact⟨e1,h1,h2⟩
theorem RatQ.set3{w:World}{v:Value}{q:Rat}(h:RatQ w v q){g:Nat}{x:Bool}{B1 B2:Option Addr}{n1 c1 n2 c2:Nat}(hr:Rc w g (.bool x) (.slice B1 n1 c1) (.slice B2 n2 c2))(u0 u1 u2:Value):RatQ (((w.setCell ⟨g,0,none⟩ u0).setCell ⟨g,1,none⟩ u1).setCell ⟨g,2,none⟩ u2) v q:=by
 obtain⟨A,n,c,A',m,c',e,h1,h2⟩:=h;exact⟨A,n,c,A',m,c',e,h1.set3 (h1.ne_rc hr) _ _ _,h2.set3 (h2.ne_rc hr) _ _ _⟩
theorem Rc.far3{w:World}{g g':Nat}{z0 z1 z2:Value}(h:Rc w g z0 z1 z2)(hne:g≠g')(u0 u1 u2:Value):Rc (((w.setCell ⟨g',0,none⟩ u0).setCell ⟨g',1,none⟩ u1).setCell ⟨g',2,none⟩ u2) g z0 z1 z2:=
 ((h.far (p:=⟨g',0,none⟩) hne _).far (p:=⟨g',1,none⟩) hne _).far (p:=⟨g',2,none⟩) hne _
theorem Qr4(w:World)(g:Nat)(u0 u1 u2:Value):(((w.setCell ⟨g,0,none⟩ u0).setCell ⟨g,1,none⟩ u1).setCell ⟨g,2,none⟩ u2).heap.size=w.heap.size:=by simp
theorem Sz.up{q:Rat}{L:Nat}(h:Sz q L){M:Nat}(hL:L<=M):(limbs q.num.natAbs).length<=M/\(limbs q.den).length<=M:=h.mono hL
theorem Qg6(v:Value)(q:Rat)(L:Nat)(w:World)(hT:Tab w)(h:Inp w v q L):Calls prog 183 #[v] w (RetV w (.int .i64 q.num.sign)):=by
 obtain⟨z0,Z,zn,zc,Z',zm,ze,rfl⟩:=h.agg;have hbA:Below w.heap.size w (w.alloc (R1 (.bool z0) (.slice Z zn zc) (.slice Z' zm ze))):=(Below.refl _ _).alloc (le_refl _) _;have hrx:=Rc.new w (.bool z0) (.slice Z zn zc) (.slice Z' zm ze);go_enter func183,ntmps183;go_wp2_with fail
 refine(Qb4 _ q L _ (hT.below hbA) (h.below hbA)).mono ?_;rintro e w1 ⟨v1,rfl,h1,hb1⟩;go_wp2_with fail
 refine(Qxa _ q _ h1).mono ?_;rintro e w2 ⟨rfl,hb2⟩;go_wp2_with fail
 go_ret;exact⟨rfl,hbA.trans ((bt hb1 hb2).mono hbA.size)⟩
theorem Qx6(v:Value)(q r:Rat)(L:Nat)(w:World)(hT:Tab w)(h:Inp w v q L)(hS:Sz q 4000000)(hr:qv false q.num.natAbs q.den=r):Calls prog 190 #[v] w (RetRat w r):=by
 obtain⟨z0,Z,zn,zc,Z',zm,ze,rfl⟩:=h.agg;obtain⟨hbA,hrx,hrr⟩:=blocks2 w (.bool z0) (.slice Z zn zc) (.slice Z' zm ze) (.bool false) (.slice none 0 0) (.slice none 0 0);have HR:=hid hr;clear hr;go_enter func190,ntmps190;go_wp2_with fail
 refine(Qb4 _ q L _ (hT.below hbA) (h.below hbA)).mono ?_;rintro e w1 ⟨v1,rfl,h1,hb1⟩;go_wp2_with fail
 refine(Qp4 false _ _ _ _ r _ h1 hS.1 hS.2 q.den_nz q.reduced HR.out).mono ?_;rintro e w2 ⟨v2,rfl,h2,hb2⟩;have hb12:=bt hb1 hb2;have hrr2:=hrr.below hb12 hrr.lt;obtain⟨nb,A,n,c,B,m,e,rfl⟩:=h2.agg;obtain⟨r0,r1,r2⟩:=hrr2.cells;obtain⟨f0,f1,f2⟩:=hrr2.frozen;go_wp2_with fail
 refine Qa8 results190 rfl (hrr2.set _ _ _) rfl ?_;exact⟨_,rfl,h2.set3 hrr2 _ _ _,Qai (bt hbA hb12) (by omega) _ _ _⟩
theorem Qr5(v v':Value)(x y r:Rat)(L:Nat)(w:World)(hT:Tab w)(h:Inp w v x L)(h':Inp w v' y L)(sx:Sz x 1000000)(sy:Sz y 1000000)(hr:x+y=r):Calls prog 163 #[v,v'] w (RetRat w r):=by
 have HR:=hid hr;clear hr;obtain⟨z0,Z,zn,zc,Z',zm,ze,rfl⟩:=h.agg;obtain⟨y0,Y,yn,yc,Y',ym,ye,rfl⟩:=h'.agg;obtain⟨hbA,hrx,hry,hrr⟩:=blocks3 w (.bool z0) (.slice Z zn zc) (.slice Z' zm ze) (.bool y0) (.slice Y yn yc) (.slice Y' ym ye) (.bool false) (.slice none 0 0) (.slice none 0 0);have hI:=h.below hbA;have hI':=h'.below hbA;have hTW:=hT.below hbA;go_enter func163,ntmps163;go_wp2_with fail
 generalize (((w.alloc (R1 (.bool z0) (.slice Z zn zc) (.slice Z' zm ze))).alloc (R1 (.bool y0) (.slice Y yn yc) (.slice Y' ym ye))).alloc (R1 (.bool false) (.slice none 0 0) (.slice none 0 0)))=W at*
 have hgx:w.heap.size<W.drew.heap.size:=hrx.lt;have hgy:w.heap.size+1<W.drew.heap.size:=hry.lt;have hgr:w.heap.size+1+1<W.drew.heap.size:=hrr.lt;replace hrx:=hrx.drew;replace hry:=hry.drew;replace hrr:=hrr.drew;replace hTW:=hTW.drew;replace hI:Inp W.drew _ x L:=hI.below (Below.refl _ _).drew;replace hI':Inp W.drew _ y L:=hI'.below (Below.refl _ _).drew;replace hbA:=hbA.drew;have hsx:=hrx.cells;have hsy:=hry.cells
 go_region_held3 (fun w'=>(w'.cell? ⟨w.heap.size,0,none⟩=some (.bool z0)/\w'.cell? ⟨w.heap.size,1,none⟩=some (.slice Z zn zc)/\w'.cell? ⟨w.heap.size,2,none⟩=some (.slice Z' zm ze))/\(w'.cell? ⟨w.heap.size+1,0,none⟩=some (.bool y0)/\w'.cell? ⟨w.heap.size+1,1,none⟩=some (.slice Y yn yc)/\w'.cell? ⟨w.heap.size+1,2,none⟩=some (.slice Y' ym ye)))
  (first|exact⟨hsx,hsy⟩|exact⟨⟨Qaa (by omega) hsx.1,Qaa (by omega) hsx.2.1,Qaa (by omega) hsx.2.2⟩,⟨Qaa (by omega) hsy.1,Qaa (by omega) hsy.2.1,Qaa (by omega) hsy.2.2⟩⟩)
  (first
   |(have _g:=hb2;go_at_call 204;refine(add_q _ _ x y _ (hTW.below hb12) (h1.below hb2) h2 sx sy).mono ?_;rw [HR.out];rintro e w3 ⟨v3,rfl,h3,hb3⟩;have hb13:=bt hb12 hb3;have hsx:=(hrx.below hb13 hgx).cells;have hsy:=(hry.below hb13 hgy).cells;have hrr3:=hrr.below hb13 hgr;obtain⟨nb,A,n,c,B,m,e,rfl⟩:=h3.agg;obtain⟨r0,r1,r2⟩:=hrr3.cells;obtain⟨f0,f1,f2⟩:=hrr3.frozen)
   |(have _g:=hb1;go_at_call 178;refine(Qb4 _ y L _ (hTW.below hb1) (hI'.below hb1)).mono ?_;rintro e w2 ⟨v2,rfl,h2,hb2⟩;have hb12:=bt hb1 hb2;have hsx:=(hrx.below hb12 hgx).cells;have hsy:=(hry.below hb12 hgy).cells)
   |(go_at_call 178;refine(Qb4 _ x L _ hTW hI).mono ?_;rintro e w1 ⟨v1,rfl,h1,hb1⟩;have hsx:=(hrx.below hb1 hgx).cells;have hsy:=(hry.below hb1 hgy).cells))
 go_wp2_with fail
 refine Qa8 results163 rfl (hrr3.set _ _ _) rfl ?_;exact⟨_,rfl,h3.set3 hrr3 _ _ _,Qai (bt hbA hb13) (by omega) _ _ _⟩
theorem Num.set0{w:World}{l:List Nat}{A:Option Addr}{n c:Nat}(h:Num w l A n c){g:Nat}(hA:0<n->∀a,A=some a->a.block≠g)(k:Nat)(u:Value):Num (w.setCell ⟨g,k,none⟩ u) l A n c:=
 ⟨h.len,h.cap,h.lim,fun hn=>by
  obtain⟨b,o,hA',hb,hc⟩:=h.cells hn;have hne:=hA hn _ hA';refine⟨b,o,hA',by simpa [World.setCell] using hb,fun k x hx=>?_⟩;rw [World.cell?_setCell_other _ _ _ _ (fun e=>hne (by injection e with e1;exact e1.symm))];exact hc k x hx⟩
theorem Rc.set0{w:World}{g:Nat}{z0 z1 z2:Value}(h:Rc w g z0 z1 z2)(u:Value):Rc (w.setCell ⟨g,0,none⟩ u) g u z1 z2:=heap_setCell_same w g 0 _ _ _ h
theorem Qr6(v v':Value)(x y r:Rat)(L:Nat)(w:World)(hT:Tab w)(h:Inp w v x L)(h':Inp w v' y L)(sx:Sz x 1000000)(sy:Sz y 1000000)(hr:x-y=r):Calls prog 193 #[v,v'] w (RetRat w r):=by
 have hr':qv (decide (x.num<0)) x.num.natAbs x.den+qv (!decide (y.num<0)) y.num.natAbs y.den=r:=by rw [<-qv_neg,Qdn,Qdn,<-Rat.sub_eq_add_neg,hr]
 have HR:=hid hr';clear hr hr';obtain⟨z0,Z,zn,zc,Z',zm,ze,rfl⟩:=h.agg;obtain⟨y0,Y,yn,yc,Y',ym,ye,rfl⟩:=h'.agg;obtain⟨hbA,hrx,hry,hrr⟩:=blocks3 w (.bool z0) (.slice Z zn zc) (.slice Z' zm ze) (.bool y0) (.slice Y yn yc) (.slice Y' ym ye) (.bool false) (.slice none 0 0) (.slice none 0 0);go_enter func193,ntmps193;go_wp2_with fail
 refine(Qb4 _ y L _ (hT.below hbA) (h'.below hbA)).mono ?_;rintro e w1 ⟨v1,rfl,h1,hb1⟩;have hrx1:=hrx.below hb1 hrx.lt;have hry1:=hry.below hb1 hry.lt;have hrr1:=hrr.below hb1 hrr.lt;obtain⟨nb,A,n,c,B,m,e,rfl⟩:=h1.agg;obtain⟨k0,k1,k2⟩:=hry1.cells;obtain⟨f0,f1,f2⟩:=hry1.frozen;have hb01:=bt hbA hb1;have hry2:=hry1.set (.bool nb) (.slice A n c) (.slice B m e);have hrx2:=hrx1.far3 (g':=w.heap.size+1) (by omega) (.bool nb) (.slice A n c) (.slice B m e);have hrr2:=hrr1.far3 (g':=w.heap.size+1) (by omega) (.bool nb) (.slice A n c) (.slice B m e);obtain⟨hnb,h2,h2'⟩:=(h1.set3 hry1 (.bool nb) (.slice A n c) (.slice B m e)).parts;have hb02:=Qai hb01 (Nat.le_succ _) (.bool nb) (.slice A n c) (.slice B m e);rw [<-hnb]at HR;clear hnb;go_wp2_with fail
 generalize (((w1.setCell ⟨w.heap.size+1,0,none⟩ (.bool nb)).setCell ⟨w.heap.size+1,1,none⟩ (.slice A n c)).setCell ⟨w.heap.size+1,2,none⟩ (.slice B m e))=W2 at*
 have hry3:=hry2.set0 (.bool !nb);have hrx3:Rc (W2.setCell ⟨w.heap.size+1,0,none⟩ (.bool !nb)) _ _ _ _:=hrx2.far (p:=⟨w.heap.size+1,0,none⟩) (Nat.ne_of_lt (Nat.lt_succ_self _)) _;have hrr3:Rc (W2.setCell ⟨w.heap.size+1,0,none⟩ (.bool !nb)) _ _ _ _:=hrr2.far (p:=⟨w.heap.size+1,0,none⟩) (Nat.succ_ne_self _) _;have h3:=h2.set0 (h2.ne_rc hry2) 0 (.bool !nb);have h3':=h2'.set0 (h2'.ne_rc hry2) 0 (.bool !nb);have hb03:=hb02.setCell (p:=⟨w.heap.size+1,0,none⟩) (Nat.le_succ _) (.bool !nb);clear hry hry1 hry2 hrx hrx1 hrx2 hrr hrr1 hrr2 h1 h2 h2' hb1 hb01 hb02 k0 k1 k2 f0 f1 f2;generalize (W2.setCell ⟨w.heap.size+1,0,none⟩ (.bool !nb))=W3 at*
 have hgx:w.heap.size<W3.drew.heap.size:=hrx3.lt;have hgy:w.heap.size+1<W3.drew.heap.size:=hry3.lt;have hgr:w.heap.size+1+1<W3.drew.heap.size:=hrr3.lt;replace hrx3:=hrx3.drew;replace hry3:=hry3.drew;replace hrr3:=hrr3.drew;replace h3:=h3.drew;replace h3':=h3'.drew;replace hb03:=hb03.drew;have hsx:=hrx3.cells;have hsy:=hry3.cells
 go_region_held3 (fun w'=>(w'.cell? ⟨w.heap.size,0,none⟩=some (.bool z0)/\w'.cell? ⟨w.heap.size,1,none⟩=some (.slice Z zn zc)/\w'.cell? ⟨w.heap.size,2,none⟩=some (.slice Z' zm ze))/\(w'.cell? ⟨w.heap.size+1,0,none⟩=some (.bool !nb)/\w'.cell? ⟨w.heap.size+1,1,none⟩=some (.slice A n c)/\w'.cell? ⟨w.heap.size+1,2,none⟩=some (.slice B m e)))
  (first|exact⟨hsx,hsy⟩|exact⟨⟨Qaa (by omega) hsx.1,Qaa (by omega) hsx.2.1,Qaa (by omega) hsx.2.2⟩,⟨Qaa (by omega) hsy.1,Qaa (by omega) hsy.2.1,Qaa (by omega) hsy.2.2⟩⟩)
  (first
   |(have _g:=hb4;go_at_call 204;refine(Qr3 (decide (x.num<0)) (!nb) _ _ x.num.natAbs x.den y.num.natAbs y.den r _ ((hT.below hb03).below hb4) h4 ⟨A,n,c,B,m,e,rfl,h3.below hb4,h3'.below hb4⟩ sx.1 sx.2 sy.1 sy.2 x.den_nz y.den_nz x.reduced y.reduced HR.out).mono ?_;rintro e' w5 ⟨v5,rfl,h5,hb5⟩;have hb45:=bt hb4 hb5;have hsx:=(hrx3.below hb45 hgx).cells;have hsy:=(hry3.below hb45 hgy).cells;have hrr5:=hrr3.below hb45 hgr;obtain⟨nb5,A5,n5,c5,B5,m5,e5,rfl⟩:=h5.agg;obtain⟨r0,r1,r2⟩:=hrr5.cells;obtain⟨g0,g1,g2⟩:=hrr5.frozen)
   |(go_at_call 178;refine(Qb4 _ x L _ (hT.below hb03) (h.below hb03)).mono ?_;rintro e' w4 ⟨v4,rfl,h4,hb4⟩;have hsx:=(hrx3.below hb4 hgx).cells;have hsy:=(hry3.below hb4 hgy).cells))
 go_wp2_with fail
 refine Qa8 results193 rfl (hrr5.set _ _ _) rfl ?_;exact⟨_,rfl,h5.set3 hrr5 _ _ _,Qai (bt hb03 hb45) (by omega) _ _ _⟩
end Go.Proofs.YthbhgelncdnmgaaGreatDoor
namespace Go.Proofs.YthbhgelncdnmgaaGreatDoor
open Go.Proofs.Tryz
open Lib (hid)
open Nat (le_refl le_trans div_le_self)
def sumL{α:Type}(l:List α)(f:α->Rat):Rat:=l.foldr (fun x s=>f x+s) 0
@[simp] theorem sumL_nil {α:Type} (f:α->Rat):sumL [] f=0:=rfl
@[simp] theorem sumL_cons {α:Type} (x:α) (l:List α) (f:α->Rat):sumL (x::l) f=f x+sumL l f:=rfl
theorem Qx7{α:Type}(l m:List α)(f:α->Rat):sumL (l++m) f=sumL l f+sumL m f:=by
 induction l with
 |nil=>simp;grind
 |cons x l ih=>simp [ih];grind
theorem Qb5{α:Type}{l:List α}{f g:α->Rat}(h:∀x∈l,f x=g x):sumL l f=sumL l g:=by
 induction l with
 |nil=>rfl
 |cons x l ih=>simp only [sumL_cons];rw [h x (by simp),ih (fun y hy=>h y (by simp [hy]))]
theorem Qbu{α:Type}{l:List α}{f:α->Rat}(h:∀x∈l,f x=0):sumL l f=0:=by
 rw [Qb5 h]
 induction l with
 |nil=>rfl
 |cons x l ih=>simp only [sumL_cons];rw [ih (fun y hy=>h y (by simp [hy]))];grind
theorem Qvc{α:Type}(l:List α)(f g:α->Rat):sumL l (fun x=>f x+g x)=sumL l f+sumL l g:=by
 induction l with
 |nil=>simp;grind
 |cons x l ih=>simp [ih];grind
theorem Qr7{α β:Type}(l:List α)(m:List β)(f:α->β->Rat):sumL l (fun x=>sumL m (fun y=>f x y))=sumL m (fun y=>sumL l (fun x=>f x y)):=by
 induction l with
 |nil=>simp;exact(Qbu (fun _ _=>rfl)).symm
 |cons x l ih=>simp only [sumL_cons];rw [ih,<-Qvc]
theorem Qvd{α:Type}{l:List α}(hn:l.Nodup){a:α}(ha:a∈l){f:α->Rat}(h:∀x∈l,x≠a->f x=0):sumL l f=f a:=by
 induction l with
 |nil=>cases ha
 |cons x l ih=>
  obtain⟨h1,h2⟩:=List.nodup_cons.1 hn;simp only [sumL_cons];by_cases e:x=a
  ·subst e
   rw [Qbu (fun y hy=>h y (by simp [hy]) (fun e=>h1 (e▸hy)))];grind
  ·rw [h x (by simp) e,ih h2 (by rcases List.mem_cons.1 ha with h|h;exact absurd h.symm e;exact h) (fun y hy=>h y (by simp [hy]))];grind
theorem Qve{α β:Type}(l:List α)(g:α->β)(f:β->Rat):sumL (l.map g) f=sumL l (fun x=>f (g x)):=by
 induction l with
 |nil=>rfl
 |cons x l ih=>simp [ih]
theorem Qnj{α:Type}(l:List α)(p:α->Bool)(f:α->Rat):sumL (l.filter p) f=sumL l (fun x=>if p x=true then f x else 0):=by
 induction l with
 |nil=>rfl
 |cons x l ih=>
  by_cases h:p x=true
  ·simp [h,ih]
  ·simp [h,ih];grind
abbrev Ex:=Nat × Nat × Nat
def deg(e:Ex):Nat:=e.1+e.2.1+e.2.2
def eadd(e f:Ex):Ex:=(e.1+f.1,e.2.1+f.2.1,e.2.2+f.2.2)
theorem Qle(e f:Ex):eadd e f=eadd f e:=by unfold eadd;rw [Nat.add_comm e.1,Nat.add_comm e.2.1,Nat.add_comm e.2.2]
theorem Qlf(e:Ex):eadd e (0,0,0)=e:=rfl
def elt(e f:Ex):Bool:=decide (e.1<f.1\/(e.1=f.1/\(e.2.1<f.2.1\/(e.2.1=f.2.1/\e.2.2<f.2.2))))
theorem Qd6{e f:Ex}:elt e f=true↔(e.1<f.1\/(e.1=f.1/\(e.2.1<f.2.1\/(e.2.1=f.2.1/\e.2.2<f.2.2)))):=by unfold elt;exact decide_eq_true_iff
theorem Qc6(e:Ex):elt e e=false:=by unfold elt;exact decide_eq_false (by omega)
theorem Qht{e f g:Ex}(h:elt e f=true)(h':elt f g=true):elt e g=true:=by rw [Qd6]at*;omega
theorem Qlg{e f:Ex}(h:elt e f=true)(h':elt f e=true):False:=by rw [Qd6]at*;omega
theorem Qhu{e f:Ex}(h:e≠f):elt e f=true\/elt f e=true:=by
 rw [Qd6,Qd6];have:¬(e.1=f.1/\e.2.1=f.2.1/\e.2.2=f.2.2):=fun⟨h1,h2,h3⟩=>h (Prod.ext h1 (Prod.ext h2 h3))
 omega
def allE:List Ex:=(List.range 6).reverse.flatMap fun a=>(List.range (6-a)).reverse.flatMap fun b=>(List.range (6-a-b)).reverse.map fun c=>(a,b,c)
theorem Qdo(e:Ex):e∈allE↔deg e<=5:=by
 obtain⟨a,b,c⟩:=e;simp only [allE,List.mem_flatMap,List.mem_map,List.mem_reverse,List.mem_range,Prod.mk.injEq,deg];constructor
 ·rintro⟨a',h1,b',h2,c',h3,rfl,rfl,rfl⟩;omega
 ·intro h;exact⟨a,by omega,b,by omega,c,by omega,rfl,rfl,rfl⟩
theorem Qnk:allE.Pairwise (fun e f=>elt f e=true):=by decide+kernel
theorem Qe8:allE.length=56:=by decide+kernel
abbrev Co:=Ex->Rat
abbrev Mon:=Ex × Rat
def listOf(c:Co):List Mon:=(allE.filter (fun e=>decide (c e≠0))).map (fun e=>(e,c e))
def co(l:List Mon):Co:=fun e=>sumL l (fun m=>if m.1=e then m.2 else 0)
def VP(l:List Mon):Prop:=(∀m∈l,deg m.1<=5/\m.2≠0)/\l.Pairwise (fun m n=>elt n.1 m.1=true)
theorem Qd7{c d:Co}(h:∀e,deg e<=5->c e=d e):listOf c=listOf d:=by
 unfold listOf;have h1:allE.filter (fun e=>decide (c e≠0))=allE.filter (fun e=>decide (d e≠0)):=List.filter_congr (fun e he=>by rw [h e ((Qdo e).1 he)]);rw [h1];exact List.map_congr_left (fun e he=>by rw [h e ((Qdo e).1 (List.mem_filter.1 he).1)])
theorem Qb6{c:Co}{m:Mon}:m∈listOf c↔deg m.1<=5/\m.2≠0/\m.2=c m.1:=by
 unfold listOf;rw [List.mem_map];constructor
 ·rintro⟨e,he,rfl⟩
  obtain⟨h1,h2⟩:=List.mem_filter.1 he;exact⟨(Qdo e).1 h1,of_decide_eq_true h2,rfl⟩
 ·rintro⟨h1,h2,h3⟩
  exact⟨m.1,List.mem_filter.2 ⟨(Qdo _).2 h1,decide_eq_true (h3▸h2)⟩,by rw [<-h3]⟩
theorem Qfz(c:Co):VP (listOf c):=by
 refine⟨fun m hm=>⟨(Qb6.1 hm).1,(Qb6.1 hm).2.1⟩,?_⟩;unfold listOf;rw [List.pairwise_map];exact Qnk.filter _
theorem Qel{l:List Mon}(h:VP l):(l.map (·.1)).Nodup:=by
 unfold List.Nodup;rw [List.pairwise_map];exact h.2.imp (fun {m n} h e=>by rw [e,Qc6]at h;cases h)
theorem Qhv{l:List Mon}(h:VP l):l.Nodup:=h.2.imp (fun {m n} h e=>by rw [e,Qc6]at h;cases h)
theorem vp_key{l:List Mon}(h:VP l){m n:Mon}(hm:m∈l)(hn:n∈l)(e:m.1=n.1):m=n:=by
 have:=Qel h
 induction l with
 |nil=>cases hm
 |cons x l ih=>
  obtain⟨h1,h2⟩:=List.nodup_cons.1 (show(x.1::l.map (·.1)).Nodup from this);have hl:VP l:=⟨fun m hm=>h.1 m (by simp [hm]),(List.pairwise_cons.1 h.2).2⟩;rcases List.mem_cons.1 hm with rfl|hm'<;>rcases List.mem_cons.1 hn with rfl|hn'
  ·rfl
  ·exact absurd (List.mem_map.2 ⟨n,hn',e.symm⟩) h1
  ·exact absurd (List.mem_map.2 ⟨m,hm',e⟩) h1
  ·exact ih hl hm' hn' h2
theorem Qxb{l:List Mon}(h:VP l){m:Mon}(hm:m∈l):co l m.1=m.2:=by
 unfold co;rw [Qvd (Qhv h) hm (fun x hx hne=>if_neg (fun e=>hne (vp_key h hx hm e)))];exact if_pos rfl
theorem Qlh{l:List Mon}{e:Ex}(h:∀m∈l,m.1≠e):co l e=0:=Qbu (fun m hm=>if_neg (h m hm))
theorem Qr8{l k:List Mon}(h:VP l)(h':VP k)(hm:∀m,m∈l↔m∈k):l=k:=by
 have hp:l.Perm k:=(List.perm_ext_iff_of_nodup (Qhv h) (Qhv h')).2 hm;exact hp.eq_of_pairwise (fun a b _ _ h1 h2=>absurd h2 (fun h2=>Qlg h1 h2)) h.2 h'.2
theorem Qd8{l:List Mon}(h:VP l):listOf (co l)=l:=by
 refine Qr8 (Qfz _) h (fun m=>?_);rw [Qb6];constructor
 ·rintro⟨h1,h2,h3⟩
  by_cases hx:∃n∈l,n.1=m.1
  ·obtain⟨n,hn,e⟩:=hx
   have:=Qxb h hn;rw [e]at this;rw [show m=n from Prod.ext e.symm (by rw [h3,this])];exact hn
  ·exact absurd (h3.trans (Qlh (fun n hn e=>hx ⟨n,hn,e⟩))) h2
 ·intro hm
  exact⟨(h.1 m hm).1,(h.1 m hm).2,(Qxb h hm).symm⟩
theorem Qhw(c:Co)(f:Ex->Rat->Rat)(h0:∀e,f e 0=0):sumL (listOf c) (fun m=>f m.1 m.2)=sumL allE (fun e=>f e (c e)):=by
 unfold listOf;rw [Qve,Qnj];refine Qb5 (fun e _=>?_);by_cases h:c e=0
 ·simp [h,h0]
 ·simp [h]
def addAt(c:Co)(e:Ex)(x:Rat):Co:=fun f=>c f+if f=e then x else 0
def zeroC:Co:=fun _=>0
def addL(c:Co)(l:List Mon):Co:=l.foldl (fun c m=>addAt c m.1 m.2) c
theorem Qr9(l:List Mon)(c:Co)(e:Ex):addL c l e=c e+co l e:=by
 unfold addL co
 induction l generalizing c with
 |nil=>simp;grind
 |cons m l ih=>
  simp only [List.foldl_cons,sumL_cons];rw [ih];unfold addAt;by_cases h:e=m.1
  ·rw [if_pos h,if_pos h.symm];grind
  ·rw [if_neg h,if_neg (fun e'=>h e'.symm)];grind
def addM(c:Co)(q:List Mon)(e:Ex)(x:Rat):Co:=q.foldl (fun c n=>addAt c (eadd n.1 e) (n.2*x)) c
theorem Qj6(q:List Mon)(c:Co)(e:Ex)(x:Rat)(f:Ex):addM c q e x f=c f+sumL q (fun n=>if eadd n.1 e=f then n.2*x else 0):=by
 unfold addM
 induction q generalizing c with
 |nil=>simp;grind
 |cons m l ih=>
  simp only [List.foldl_cons,sumL_cons];rw [ih];unfold addAt;by_cases h:f=eadd m.1 e
  ·rw [if_pos h,if_pos h.symm];grind
  ·rw [if_neg h,if_neg (fun e'=>h e'.symm)];grind
def mulL(p q:List Mon):Co:=p.foldl (fun c m=>addM c q m.1 m.2) zeroC
theorem Qj7(p q:List Mon)(c:Co)(f:Ex):p.foldl (fun c m=>addM c q m.1 m.2) c f=c f+sumL p (fun m=>sumL q (fun n=>if eadd n.1 m.1=f then n.2*m.2 else 0)):=by
 induction p generalizing c with
 |nil=>simp;grind
 |cons m l ih=>
  simp only [List.foldl_cons,sumL_cons];rw [ih,Qj6];grind
theorem Qx8(p q:List Mon)(f:Ex):mulL p q f=sumL p (fun m=>sumL q (fun n=>if eadd n.1 m.1=f then n.2*m.2 else 0)):=by
 unfold mulL;rw [Qj7];unfold zeroC;grind
def addC(c d:Co):Co:=fun e=>c e+d e
def mulC(c d:Co):Co:=fun e=>if deg e<=5 then sumL allE (fun a=>sumL allE (fun b=>if eadd a b=e then c a*d b else 0))else 0
def constC(x:Rat):Co:=fun e=>if e=(0,0,0)then x else 0
theorem Qsa{p q:List Mon}(hp:VP p)(hq:VP q){f:Ex}(hf:deg f<=5):mulL p q f=mulC (co p) (co q) f:=by
 rw [Qx8];unfold mulC;rw [if_pos hf];have e1:∀m:Mon,sumL q (fun n=>if eadd n.1 m.1=f then n.2*m.2 else 0)=sumL allE (fun b=>if eadd b m.1=f then co q b*m.2 else 0):=fun m=>by
  have:=Qhw (co q) (fun b y=>if eadd b m.1=f then y*m.2 else 0) (fun b=>by split<;>simp);rw [Qd8 hq]at this;exact this
 rw [Qb5 (fun m _=>e1 m)];have e2:=Qhw (co p) (fun a x=>sumL allE (fun b=>if eadd b a=f then co q b*x else 0)) (fun a=>Qbu (fun b _=>by split<;>simp));rw [Qd8 hp]at e2;rw [e2];refine Qb5 (fun a _=>Qb5 (fun b _=>?_));rw [Qle,Rat.mul_comm]
theorem Qsb(c d:Co):addC c d=addC d c:=by funext e;unfold addC;grind
theorem Qsc(c d:Co):mulC c d=mulC d c:=by
 funext e
 unfold mulC;split
 ·rw [Qr7]
  refine Qb5 (fun a _=>Qb5 (fun b _=>?_));rw [Qle,Rat.mul_comm]
 ·rfl
def setAt(c:Co)(e:Ex)(x:Rat):Co:=fun f=>if f=e then x else c f
theorem Qsd(c:Co):mulC zeroC c=zeroC:=by
 funext e
 unfold mulC zeroC;split
 ·exact Qbu (fun a _=>Qbu (fun b _=>by split<;>grind))
 ·rfl
def upTo(c:Co)(K:List Ex):List Mon:=(K.filter (fun e=>decide (c e≠0))).map (fun e=>(e,c e))
theorem Qou{c:Co}{K:List Ex}{m:Mon}:m∈upTo c K↔m.1∈K/\m.2≠0/\m.2=c m.1:=by
 unfold upTo;rw [List.mem_map];constructor
 ·rintro⟨e,he,rfl⟩
  obtain⟨h1,h2⟩:=List.mem_filter.1 he;exact⟨h1,of_decide_eq_true h2,rfl⟩
 ·rintro⟨h1,h2,h3⟩
  exact⟨m.1,List.mem_filter.2 ⟨h1,decide_eq_true (h3▸h2)⟩,by rw [<-h3]⟩
theorem Qli{c:Co}{K:List Ex}(hs:K.Pairwise (fun e f=>elt e f=true))(hk:∀e∈K,deg e<=5)(h0:∀e,deg e<=5->e ∉ K->c e=0):(upTo c K).reverse=listOf c:=by
 refine Qr8 ⟨fun m hm=>?_,?_⟩ (Qfz c) (fun m=>?_)
 ·have:=Qou.1 (List.mem_reverse.1 hm)
  exact⟨hk _ this.1,this.2.1⟩
 ·rw [List.pairwise_reverse]
  unfold upTo;rw [List.pairwise_map];exact hs.filter _
 ·rw [List.mem_reverse,Qou,Qb6]
  constructor
  ·rintro⟨h1,h2,h3⟩;exact⟨hk _ h1,h2,h3⟩
  ·rintro⟨h1,h2,h3⟩
   refine⟨?_,h2,h3⟩;by_cases hm:m.1∈K
   ·exact hm
   ·exact absurd (h3.trans (h0 _ h1 hm)) h2
end Go.Proofs.YthbhgelncdnmgaaGreatDoor
namespace Go.Proofs.YthbhgelncdnmgaaGreatDoor
open Go.Proofs.Tryz
open Lib (hid)
open Nat (le_refl le_trans div_le_self)
open Go.RowKit
structure RdK (w:World) (k:Nat) (xs:List (List Value)) (A:Option Addr) (n c:Nat):Prop where
 len:n=xs.length
 cap:n<=c
 cells:0<n->∃b o,A=some ⟨b,o,none⟩/\b<w.heap.size/\∀(i:Nat) (x:List Value),xs[i]? =some x->∀(j:Nat) (v:Value),x[j]? =some v->w.cell? ⟨b,o+i*k+j,none⟩=some v
theorem RdK.keep{w w':World}{k:Nat}{xs:List (List Value)}{A:Option Addr}{n c:Nat}(h:RdK w k xs A n c)(hs:w.heap.size<=w'.heap.size)(hk:∀b,b<w.heap.size->w'.heap[b]? =w.heap[b]?):RdK w' k xs A n c:=
 ⟨h.len,h.cap,fun hn=>by
  obtain⟨b,o,hA,hb,hc⟩:=h.cells hn;exact⟨b,o,hA,by omega,fun i x hx j v hv=>(World.cell?_of_block (w:=w) (hk b hb)).trans (hc i x hx j v hv)⟩⟩
theorem RdK.below{w w':World}{k:Nat}{xs:List (List Value)}{A:Option Addr}{n c:Nat}(h:RdK w k xs A n c)(hb:Below w.heap.size w w'):RdK w' k xs A n c:=h.keep hb.size hb.block
theorem RdK.nil(w:World)(k:Nat)(A:Option Addr)(c:Nat):RdK w k [] A 0 c:=⟨rfl,Nat.zero_le _,fun h=>absurd h (by omega)⟩
theorem RdK.take{w:World}{k:Nat}{xs:List (List Value)}{A:Option Addr}{n c:Nat}(h:RdK w k xs A n c){m:Nat}(hm:m<=n):RdK w k (xs.take m) A m c:=
 ⟨by rw [List.length_take,Nat.min_eq_left (by have:=h.len;omega)],by have:=h.cap;omega,fun hn=>by
  obtain⟨b,o,hA,hb,hc⟩:=h.cells (by omega);refine⟨b,o,hA,hb,fun i x hx=>hc i x ?_⟩;rw [List.getElem?_take]at hx;split at hx
  ·exact hx
  ·cases hx⟩
def At6(w:World)(b o:Nat)(z0 z1 z2 z3 z4 z5:Value):Prop:=
 w.cell? ⟨b,o,none⟩=some z0/\w.cell? ⟨b,o+1,none⟩=some z1/\w.cell? ⟨b,o+2,none⟩=some z2/\w.cell? ⟨b,o+3,none⟩=some z3/\w.cell? ⟨b,o+4,none⟩=some z4/\w.cell? ⟨b,o+5,none⟩=some z5
theorem RdK.at6{w:World}{xs:List (List Value)}{A:Option Addr}{n c:Nat}(h:RdK w 6 xs A n c){i:Nat}{z0 z1 z2 z3 z4 z5:Value}(hx:xs[i]? =some [z0,z1,z2,z3,z4,z5]):
 ∃b o,A=some ⟨b,o,none⟩/\b<w.heap.size/\At6 w b (o+i*6) z0 z1 z2 z3 z4 z5:=by
 have hi:i<xs.length:=(List.getElem?_eq_some_iff.1 hx).1;obtain⟨b,o,hA,hb,hc⟩:=h.cells (by have:=h.len;omega);exact⟨b,o,hA,hb,hc i _ hx 0 _ rfl,hc i _ hx 1 _ rfl,hc i _ hx 2 _ rfl,hc i _ hx 3 _ rfl,hc i _ hx 4 _ rfl,hc i _ hx 5 _ rfl⟩
theorem At6.keep{w w':World}{b o:Nat}{z0 z1 z2 z3 z4 z5:Value}(h:At6 w b o z0 z1 z2 z3 z4 z5)(hb:w'.heap[b]? =w.heap[b]?):At6 w' b o z0 z1 z2 z3 z4 z5:=
 ⟨(World.cell?_of_block hb).trans h.1,(World.cell?_of_block hb).trans h.2.1,(World.cell?_of_block hb).trans h.2.2.1,(World.cell?_of_block hb).trans h.2.2.2.1,(World.cell?_of_block hb).trans h.2.2.2.2.1,(World.cell?_of_block hb).trans h.2.2.2.2.2⟩
theorem At6.below{w w':World}{B b o:Nat}{z0 z1 z2 z3 z4 z5:Value}(h:At6 w b o z0 z1 z2 z3 z4 z5)(hb:Below B w w')(hlt:b<B):At6 w' b o z0 z1 z2 z3 z4 z5:=h.keep (hb.block b hlt)
abbrev RawM:=(Int × Int × Int) × Rat
abbrev mcells(e:Int × Int × Int)(z0 z1 z2:Value):List Value:=[.int .i64 e.1,.int .i64 e.2.1,.int .i64 e.2.2,z0,z1,z2]
def PBy(R:Value->Rat->Prop)(w:World)(v:Value)(l:List RawM):Prop:=
 ∃A n c xs,v=.slice A n c/\RdK w 6 xs A n c/\xs.length=l.length/\∀(i:Nat) (e:Int × Int × Int) (q:Rat),l[i]? =some (e,q)->∃z0 z1 z2,xs[i]? =some (mcells e z0 z1 z2)/\R (.agg #[z0,z1,z2]) q
theorem PBy.imp{R R':Value->Rat->Prop}{w w':World}{v:Value}{l:List RawM}(h:PBy R w v l)(hR:∀z q,R z q->R' z q)(hs:w.heap.size<=w'.heap.size)(hk:∀b,b<w.heap.size->w'.heap[b]? =w.heap[b]?):PBy R' w' v l:=by
 obtain⟨A,n,c,xs,e,h1,h2,h3⟩:=h;refine⟨A,n,c,xs,e,h1.keep hs hk,h2,fun i e q hi=>?_⟩;obtain⟨z0,z1,z2,hx,hr⟩:=h3 i e q hi;exact⟨z0,z1,z2,hx,hR _ _ hr⟩
theorem PBy.slice{R:Value->Rat->Prop}{w:World}{v:Value}{l:List RawM}(h:PBy R w v l):∃A c,v=.slice A l.length c:=by
 obtain⟨A,n,c,xs,e,h1,h2,_⟩:=h;exact⟨A,c,by rw [e,<-h2,<-h1.len]⟩
theorem PBy.at{R:Value->Rat->Prop}{w:World}{A:Option Addr}{n c:Nat}{l:List RawM}(h:PBy R w (.slice A n c) l){i:Nat}{e:Int × Int × Int}{q:Rat}(hi:l[i]? =some (e,q)):
 ∃b o z0 z1 z2,A=some ⟨b,o,none⟩/\b<w.heap.size/\At6 w b (o+i*6) (.int .i64 e.1) (.int .i64 e.2.1) (.int .i64 e.2.2) z0 z1 z2/\R (.agg #[z0,z1,z2]) q:=by
 obtain⟨A',n',c',xs,e',h1,h2,h3⟩:=h;cases e';obtain⟨z0,z1,z2,hx,hr⟩:=h3 i e q hi;obtain⟨b,o,hA,hb,hc⟩:=h1.at6 hx;exact⟨b,o,z0,z1,z2,hA,hb,hc,hr⟩
theorem PBy.take{R:Value->Rat->Prop}{w:World}{A:Option Addr}{n c:Nat}{l:List RawM}(h:PBy R w (.slice A n c) l){m:Nat}(hm:m<=n):PBy R w (.slice A m c) (l.take m):=by
 obtain⟨A',n',c',xs,e',h1,h2,h3⟩:=h;cases e';refine⟨A,m,c,xs.take m,rfl,h1.take hm,by rw [List.length_take,List.length_take,h2],fun i e q hi=>?_⟩;rw [List.getElem?_take]at hi;split at hi
 ·next hlt=>
  obtain⟨z0,z1,z2,hx,hr⟩:=h3 i e q hi;exact⟨z0,z1,z2,by rw [List.getElem?_take,if_pos hlt];exact hx,hr⟩
 ·cases hi
theorem PBy.nil(R:Value->Rat->Prop)(w:World)(A:Option Addr)(c:Nat):PBy R w (.slice A 0 c) []:=⟨A,0,c,[],rfl,RdK.nil _ _ _ _,rfl,fun i e q hi=>by simp at hi⟩
def PIn(w:World)(v:Value)(l:List RawM)(L:Nat):Prop:=PBy (fun z q=>Inp w z q L) w v l/\l.length<=1000000
theorem PIn.below{w w':World}{v:Value}{l:List RawM}{L:Nat}(h:PIn w v l L)(hb:Below w.heap.size w w'):PIn w' v l L:=⟨h.1.imp (fun _ _ hr=>hr.below hb) hb.size hb.block,h.2⟩
def rawOf(m:Mon):RawM:=(((m.1.1:Int),(m.1.2.1:Int),(m.1.2.2:Int)),m.2)
def Pol(w:World)(v:Value)(l:List Mon):Prop:=PBy (RatQ w) w v (l.map rawOf)
theorem Pol.below{w w':World}{v:Value}{l:List Mon}(h:Pol w v l)(hb:Below w.heap.size w w'):Pol w' v l:=PBy.imp h (fun _ _ hr=>hr.below hb) hb.size hb.block
theorem Pol.slice{w:World}{v:Value}{l:List Mon}(h:Pol w v l):∃A c,v=.slice A l.length c:=by
 obtain⟨A,c,e⟩:=PBy.slice h;exact⟨A,c,by rw [e,List.length_map]⟩
theorem Pol.at{w:World}{A:Option Addr}{n c:Nat}{l:List Mon}(h:Pol w (.slice A n c) l){i:Nat}{m:Mon}(hi:l[i]? =some m):
 ∃b o z0 z1 z2,A=some ⟨b,o,none⟩/\b<w.heap.size/\At6 w b (o+i*6) (.int .i64 (m.1.1:Int)) (.int .i64 (m.1.2.1:Int)) (.int .i64 (m.1.2.2:Int)) z0 z1 z2/\RatQ w (.agg #[z0,z1,z2]) m.2:=
 PBy.at h (by rw [List.getElem?_map,hi];rfl)
theorem Pol.nil(w:World)(A:Option Addr)(c:Nat):Pol w (.slice A 0 c) []:=PBy.nil _ _ _ _
def RetPol(w0:World)(l:List Mon)(e:Ending)(w':World):Prop:=∃v,e=.returned v/\Pol w' v l/\Below w0.heap.size w0 w'
def SzL(l:List Mon)(L:Nat):Prop:=∀m∈l,Sz m.2 L
theorem SzL.mono{l:List Mon}{L M:Nat}(h:SzL l L)(hm:L<=M):SzL l M:=fun m hm'=>(h m hm').mono hm
def knownI(e:Int × Int × Int):Bool:=decide (0<=e.1/\e.1<=5/\0<=e.2.1/\e.2.1<=5/\0<=e.2.2/\e.2.2<=5/\e.1+e.2.1+e.2.2<=5)
def lexI(e f:Int × Int × Int):Int:=if e.1<f.1 then -1 else if f.1<e.1 then 1 else if e.2.1<f.2.1 then -1 else if f.2.1<e.2.1 then 1 else if e.2.2<f.2.2 then -1 else if f.2.2<e.2.2 then 1 else 0
def okAt(l:List RawM)(i:Nat):Prop:=∀m,l[i]? =some m->knownI m.1=true/\m.2≠0/\(0<i->∀p,l[i-1]? =some p->0<lexI p.1 m.1)
def vraw(l:List RawM):Prop:=∀i,i<l.length->okAt l i
def monOf(m:RawM):Mon:=((m.1.1.toNat,m.1.2.1.toNat,m.1.2.2.toNat),m.2)
noncomputable def cleanL(l:List RawM):List Mon:=by classical exact if vraw l then l.map monOf else []
theorem Qcg{l:List RawM}(h:vraw l):cleanL l=l.map monOf:=by unfold cleanL;exact if_pos h
theorem Qc7{l:List RawM}(h:¬vraw l):cleanL l=[]:=by unfold cleanL;exact if_neg h
theorem Qem{e:Int × Int × Int}:knownI e=true↔(0<=e.1/\0<=e.2.1/\0<=e.2.2/\e.1+e.2.1+e.2.2<=5):=by
 unfold knownI;rw [decide_eq_true_iff];omega
theorem Qvf{e f:Int × Int × Int}(h:0<lexI e f)(he:knownI e=true)(hf:knownI f=true):elt (f.1.toNat,f.2.1.toNat,f.2.2.toNat) (e.1.toNat,e.2.1.toNat,e.2.2.toNat)=true:=by
 rw [Qem]at he hf;rw [Qd6];unfold lexI at h;simp only;split at h
 ·omega
 ·split at h
  ·omega
  ·split at h
   ·omega
   ·split at h
    ·omega
    ·split at h
     ·omega
     ·split at h
      ·omega
      ·omega
theorem Qc8{α:Type}{R:α->α->Prop}(ht:∀ {a b c},R a b->R b c->R a c):∀(l:List α),(∀i a b,l[i]? =some a->l[i+1]? =some b->R a b)->l.Pairwise R
 |[],_=>List.Pairwise.nil
 |[a],_=>List.pairwise_singleton _ _
 |a::b::l,h=>by
  have ih:=Qc8 (R:=R) ht (b::l) (fun i x y hx hy=>h (i+1) x y (by simpa using hx) (by simpa using hy));refine List.pairwise_cons.2 ⟨fun c hc=>?_,ih⟩;have hab:R a b:=h 0 a b rfl rfl;rcases List.mem_cons.1 hc with rfl|hc
  ·exact hab
  ·exact ht hab ((List.pairwise_cons.1 ih).1 c hc)
theorem Qx9{l:List RawM}(h:vraw l):VP (l.map monOf):=by
 refine⟨fun m hm=>?_,?_⟩
 ·obtain⟨r,hr,rfl⟩:=List.mem_map.1 hm
  obtain⟨i,hi,rfl⟩:=List.getElem_of_mem hr;obtain⟨h1,h2,_⟩:=h i hi _ (List.getElem?_eq_getElem hi);rw [Qem]at h1;exact⟨by unfold deg monOf;simp only;omega,h2⟩
 ·refine Qc8 (R:=fun m n:Mon=>elt n.1 m.1=true) (fun h1 h2=>Qht h2 h1) _ (fun i a b ha hb=>?_)
  rw [List.getElem?_map]at ha hb;obtain⟨x,hx,rfl⟩:=Option.map_eq_some_iff.1 ha;obtain⟨y,hy,rfl⟩:=Option.map_eq_some_iff.1 hb;have h1:=h i (List.getElem?_eq_some_iff.1 hx).1 x hx;have h2:=h (i+1) (List.getElem?_eq_some_iff.1 hy).1 y hy;exact Qvf (h2.2.2 (by omega) x hx) h1.1 h2.1
theorem Qlj(l:List RawM):VP (cleanL l):=by
 classical
 by_cases h:vraw l
 ·rw [Qcg h];exact Qx9 h
 ·rw [Qc7 h];exact⟨fun m hm=>absurd hm (List.not_mem_nil),List.Pairwise.nil⟩
theorem Qya{e:RawM}(h:knownI e.1=true):rawOf (monOf e)=e:=by
 rw [Qem]at h;obtain⟨⟨a,b,c⟩,q⟩:=e;simp only [rawOf,monOf,Prod.mk.injEq,and_true];simp only at h;omega
theorem Qov{l:List RawM}(h:vraw l):(l.map monOf).map rawOf=l:=by
 rw [List.map_map]
 conv=>rhs;rw [<-List.map_id l]
 refine List.map_congr_left (fun e he=>?_);obtain⟨i,hi,rfl⟩:=List.getElem_of_mem he;exact Qya (h i hi _ (List.getElem?_eq_getElem hi)).1
theorem Qyb(m:Mon):monOf (rawOf m)=m:=rfl
theorem Qi5{l:List Mon}(h:VP l):vraw (l.map rawOf):=by
 intro i hi m hm;rw [List.getElem?_map]at hm;obtain⟨x,hx,rfl⟩:=Option.map_eq_some_iff.1 hm;have hmem:=List.mem_of_getElem? hx;have hd:=(h.1 x hmem).1;unfold deg at hd;refine⟨Qem.2 (by unfold rawOf;simp only;omega),(h.1 x hmem).2,fun h0 p hp=>?_⟩;rw [List.getElem?_map]at hp;obtain⟨y,hy,rfl⟩:=Option.map_eq_some_iff.1 hp;have hlt:elt x.1 y.1=true:=by
  have h1:=List.pairwise_iff_getElem.1 h.2 (i-1) i (List.getElem?_eq_some_iff.1 hy).1 (List.getElem?_eq_some_iff.1 hx).1 (by omega)
  rwa [(List.getElem?_eq_some_iff.1 hy).2,(List.getElem?_eq_some_iff.1 hx).2]at h1
 rw [Qd6]at hlt;unfold lexI rawOf;simp only;split
 ·omega
 ·split
  ·omega
  ·split
   ·omega
   ·split
    ·omega
    ·split
     ·omega
     ·split
      ·omega
      ·omega
theorem Qp5{l:List Mon}(h:VP l):cleanL (l.map rawOf)=l:=by
 rw [Qcg (Qi5 h),List.map_map]
 conv=>rhs;rw [<-List.map_id l]
 exact List.map_congr_left (fun m _=>Qyb m)
theorem Qc9{l:List Mon}(h:VP l):l.length<=56:=by
 rw [<-Qd8 h];unfold listOf;rw [List.length_map,<-Qe8];exact List.length_filter_le _ _
theorem Inp.ratq{w:World}{v:Value}{q:Rat}{L:Nat}(h:Inp w v q L)(h0:q≠0):RatQ w v q:=by
 obtain⟨neg,A,n,c,A',m,c',ln,ld,rfl,h1,h2,_,_,h5,_⟩:=h;subst h5;by_cases hv:vld neg ln ld=true
 ·exact Qj5 hv h1 h2
 ·exact absurd (by unfold fq;rw [if_neg hv]) h0
theorem Inp.sz{w:World}{v:Value}{q:Rat}{L:Nat}(h:Inp w v q L):Sz q L:=by
 obtain⟨_,_,_,_,_,_,_,_,_,_,_,_,_,_,_,h6⟩:=h;exact h6
theorem PIn.pol{w:World}{v:Value}{l:List RawM}{L:Nat}(h:PIn w v l L)(hv:vraw l):Pol w v (cleanL l):=by
 rw [Qcg hv];unfold Pol;rw [Qov hv];obtain⟨⟨A,n,c,xs,e,h1,h2,h3⟩,_⟩:=h;refine⟨A,n,c,xs,e,h1,h2,fun i e q hi=>?_⟩;obtain⟨z0,z1,z2,hx,hr⟩:=h3 i e q hi;exact⟨z0,z1,z2,hx,hr.ratq (hv i (List.getElem?_eq_some_iff.1 hi).1 _ hi).2.1⟩
theorem PIn.szl{w:World}{v:Value}{l:List RawM}{L:Nat}(h:PIn w v l L):SzL (cleanL l) L:=by
 classical
 by_cases hv:vraw l
 ·rw [Qcg hv]
  intro m hm;obtain⟨r,hr,rfl⟩:=List.mem_map.1 hm;obtain⟨i,hi,rfl⟩:=List.getElem_of_mem hr;obtain⟨⟨A,n,c,xs,e,h1,h2,h3⟩,_⟩:=h;obtain⟨z0,z1,z2,hx,hr⟩:=h3 i _ _ (List.getElem?_eq_getElem hi);exact hr.sz
 ·rw [Qc7 hv];intro m hm;cases hm
end Go.Proofs.YthbhgelncdnmgaaGreatDoor
