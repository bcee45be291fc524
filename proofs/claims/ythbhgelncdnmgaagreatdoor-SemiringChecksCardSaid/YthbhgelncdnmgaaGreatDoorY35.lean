import Derived.Test.YthbhgelncdnmgaaGreatDoorY20
import Derived.Test.YthbhgelncdnmgaaGreatDoorY14
import Derived.Test.YthbhgelncdnmgaaGreatDoorY34
import Derived.Test.YthbhgelncdnmgaaGreatDoorY23
import Derived.Test.YthbhgelncdnmgaaGreatDoorY24
set_option linter.unusedVariables false
set_option linter.unusedSimpArgs false
set_option maxRecDepth 20000
set_option maxHeartbeats 2000000
namespace Go.Proofs.YthbhgelncdnmgaaGreatDoor
open Go.RowKit
theorem fmt_of{neg:Bool}{a d:Nat}(hd:d≠0)(hg:Nat.gcd a d=1):fmtQ (qv neg a d)=(if(neg && decide (a≠0))=true then [45]else [])++Lib.decDigits a++(if d=1 then []else 47::Lib.decDigits d):=by
 unfold fmtQ;rw [(Qc5 hd hg).1,(Qc5 hd hg).2,Qe6,<-Qjz];simp
theorem Qyv{n:Nat}(h:n<10):Lib.decDigits n=[UInt8.ofNat (48+n)]:=by rw [Lib.decDigits,dif_pos h]
def SzC(c:Co)(L:Nat):Prop:=∀e,deg e<=5->Sz (c e) L
theorem SzC.mono{c:Co}{L M:Nat}(h:SzC c L)(hm:L<=M):SzC c M:=fun e he=>(h e he).mono hm
theorem Qo8(L:Nat)(h:1<=L):SzC zeroC L:=fun _ _=>Qcw L h
theorem Qyw{q:List Mon}(hq:(q.map (·.1)).Nodup)(c:Co)(e:Ex)(x:Rat)(f:Ex):(∃m∈q,eadd m.1 e=f/\addM c q e x f=c f+m.2*x)\/((∀m∈q,eadd m.1 e≠f)/\addM c q e x f=c f):=by
 rw [Qj6];by_cases h:∃m∈q,eadd m.1 e=f
 ·obtain⟨m,hm,hf⟩:=h
  refine .inl ⟨m,hm,hf,?_⟩;have key:∀l:List Mon,(l.map (·.1)).Nodup->m∈l->sumL l (fun n=>if eadd n.1 e=f then n.2*x else 0)=m.2*x:=by
   intro l
   induction l with
   |nil=>intro _ h;cases h
   |cons y l ih=>
    intro hn hm;obtain⟨h1,h2⟩:=List.nodup_cons.1 (show(y.1::l.map (·.1)).Nodup from hn);have inj:∀z∈l,eadd z.1 e=f->y.1=z.1->False:=fun z hz _ hyz=>h1 (List.mem_map.2 ⟨z,hz,hyz.symm⟩)
    have same:∀z:Mon,eadd z.1 e=f->∀u:Mon,eadd u.1 e=f->z.1=u.1:=fun z hz u hu=>by
     have:=hz.trans hu.symm;unfold eadd at this;simp only [Prod.mk.injEq]at this;exact Prod.ext (by omega) (Prod.ext (by omega) (by omega))
    rw [sumL_cons];rcases List.mem_cons.1 hm with rfl|hm'
    ·rw [if_pos hf,Qbu (fun z hz=>if_neg (fun hz'=>inj z hz hz' (same _ hf _ hz')))];grind
    ·rw [if_neg (fun hy=>inj m hm' hf (same _ hy _ hf)),ih h2 hm'];grind
  rw [key q hq hm]
 ·refine .inr ⟨fun m hm hf=>h ⟨m,hm,hf⟩,?_⟩
  rw [Qbu (fun m hm=>if_neg (fun hf=>h ⟨m,hm,hf⟩))];grind
theorem Qo9{c:Co}{B M:Nat}(h:SzC c B){q:List Mon}(hq:(q.map (·.1)).Nodup){e:Ex}{x:Rat}{L Lq:Nat}(hx:Sz x L)(hl:SzL q Lq)(hM:B+(Lq+L)+1<=M):SzC (addM c q e x) M:=fun f hf=>by
 rcases Qyw hq c e x f with⟨m,hm,_,he⟩|⟨_,he⟩
 ·rw [he];exact Qxg (h f hf) (Qxf (hl m hm) hx (Nat.le_refl _)) hM
 ·rw [he];exact(h f hf).mono (by omega)
theorem Qfh{w W W':World}{row:Option Nat}(hb:Below w.heap.size w W)(hg:W.grownBy W' row):w.grownBy W' row:=
 ⟨hg.os.trans hb.os,hg.tape.trans hb.tape,hg.output.trans hb.output,Nat.le_trans hb.size hg.size,fun k hk hne=>(hg.block k (Nat.lt_of_lt_of_le hk hb.size) hne).trans (hb.block k hk)⟩
theorem Cs.grw{w w':World}{g:Nat}{l:List Value}{t:TypeId}{row:Option Nat}(h:Cs w g l t)(hg:w.grownBy w' row)(hne:some g≠row):Cs w' g l t:=(hg.block g h.lt hne).trans h
theorem Rc.grw{w w':World}{g:Nat}{z0 z1 z2:Value}{row:Option Nat}(h:Rc w g z0 z1 z2)(hg:w.grownBy w' row)(hne:some g≠row):Rc w' g z0 z1 z2:=(hg.block g h.lt hne).trans h
def RetSums(w0:World)(b n:Nat)(c:Co)(e:Ending)(w':World):Prop:=e=.returned (.tuple #[])/\Sums w' b n c/\w0.grownBy w' (some b)
theorem Qg9(b n:Nat)(e:Ex)(v:Value)(x:Rat)(c:Co)(w:World)(hT:Tab w)(hS:Sums w b n c)(hn:n<=1000000)(he:deg e<=5)(hv:Inp w v x 1000000)(sc:Sz (c e) 1000000):
 Calls Tryz.prog 185 #[.map (some b),exV e,v] w (RetSums w b (n+1) (addAt c e x)):=by
 have sx:=hv.sz;obtain⟨z0,Z,zn,zc,Z',zm,ze,rfl⟩:=hv.agg;have c1:=Cs.new w [.int .i64 (e.1:Int),.int .i64 (e.2.1:Int),.int .i64 (e.2.2:Int)] 147;have hb1:Below w.heap.size w (w.alloc (E3 e.1 e.2.1 e.2.2)):=(Below.refl _ _).alloc (Nat.le_refl _) _;have hbA:Below w.heap.size w ((w.alloc (E3 e.1 e.2.1 e.2.2)).alloc (R1 (.bool z0) (.slice Z zn zc) (.slice Z' zm ze))):=hb1.alloc (by simp) _;replace c1:=c1.alloc (R1 (.bool z0) (.slice Z zn zc) (.slice Z' zm ze));have hrx:Rc ((w.alloc (E3 e.1 e.2.1 e.2.2)).alloc (R1 (.bool z0) (.slice Z zn zc) (.slice Z' zm ze))) (w.heap.size+1) (.bool z0) (.slice Z zn zc) (.slice Z' zm ze):=by
  have:=Rc.new (w.alloc (E3 e.1 e.2.1 e.2.2)) (.bool z0) (.slice Z zn zc) (.slice Z' zm ze)
  rwa [World.size_alloc]at this
 have hSW:=hS.below hbA;have hIW:=hv.below hbA;have hTW:=hT.below hbA;have hblt:=hS.lt;have HE:=Lib.hid he;have n1:some w.heap.size≠some b:=fun h=>by cases h;omega
 have n2:some (w.heap.size+1)≠some b:=fun h=>by cases h;omega
 clear he;go_enter Tryz.func185,Tryz.ntmps185;go_wp2_with fail
 generalize ((w.alloc (E3 e.1 e.2.1 e.2.2)).alloc (R1 (.bool z0) (.slice Z zn zc) (.slice Z' zm ze)))=W at*
 have hgx:w.heap.size<W.drew.heap.size:=c1.lt;have hgy:w.heap.size+1<W.drew.heap.size:=hrx.lt;replace c1:=c1.drew;replace hrx:=hrx.drew;replace hTW:=hTW.drew;replace hIW:Inp W.drew _ x 1000000:=hIW.below (Below.refl _ _).drew;replace hSW:Sums W.drew b n c:=hSW.below (Below.refl _ _).drew;replace hbA:=hbA.drew;obtain⟨u,hlook,hu⟩:=hSW.look HE.out;obtain⟨y0,Y,yn,yc,Y',ym,ye,rfl⟩:=hu.agg;have hs0:W.drew.cell? ⟨w.heap.size,0,none⟩=some (.int .i64 (e.1:Int)):=c1.cell rfl;have hs1:W.drew.cell? ⟨w.heap.size,1,none⟩=some (.int .i64 (e.2.1:Int)):=c1.cell rfl;have hs2:W.drew.cell? ⟨w.heap.size,2,none⟩=some (.int .i64 (e.2.2:Int)):=c1.cell rfl;have hsx:=hrx.cells
 go_region_held3 (fun w'=>(w'.cell? ⟨w.heap.size,0,none⟩=some (.int .i64 (e.1:Int))/\w'.cell? ⟨w.heap.size,1,none⟩=some (.int .i64 (e.2.1:Int))/\w'.cell? ⟨w.heap.size,2,none⟩=some (.int .i64 (e.2.2:Int)))/\(w'.cell? ⟨w.heap.size+1,0,none⟩=some (.bool z0)/\w'.cell? ⟨w.heap.size+1,1,none⟩=some (.slice Z zn zc)/\w'.cell? ⟨w.heap.size+1,2,none⟩=some (.slice Z' zm ze)))
  (first|with_reducible exact⟨⟨hs0,hs1,hs2⟩,hsx⟩|with_reducible exact⟨⟨hm0,hm1,hm2⟩,hmx⟩|fail)
  (first
   |(go_at_call 163;refine(Qr5 _ _ (c e) x _ 1000000 _ hTW (hu.inp sc (by omega)) hIW sc sx rfl).mono ?_;rintro e2 w2 ⟨v2,rfl,h2,hb2⟩;have hs0:=(c1.below hb2 hgx).cell (k:=0) rfl;have hs1:=(c1.below hb2 hgx).cell (k:=1) rfl;have hs2:=(c1.below hb2 hgx).cell (k:=2) rfl;have hsx:=(hrx.below hb2 hgy).cells;obtain⟨w3,hput,hS3,hg3⟩:=(hSW.below hb2).put hn HE.out h2;have hm0:=((c1.below hb2 hgx).grw hg3 n1).cell (k:=0) rfl;have hm1:=((c1.below hb2 hgx).grw hg3 n1).cell (k:=1) rfl;have hm2:=((c1.below hb2 hgx).grw hg3 n1).cell (k:=2) rfl;have hmx:=((hrx.below hb2 hgy).grw hg3 n2).cells)
   |fail)
 go_wp2_with fail
 go_end0
 exact⟨rfl,(Qtd c e x)▸hS3,Qfh hbA (Qfh hb2 hg3)⟩
end Go.Proofs.YthbhgelncdnmgaaGreatDoor
