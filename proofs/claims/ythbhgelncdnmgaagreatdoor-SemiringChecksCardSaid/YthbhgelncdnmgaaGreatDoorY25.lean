import Derived.Test.YthbhgelncdnmgaaGreatDoorY23
import Derived.Test.YthbhgelncdnmgaaGreatDoorY24
set_option linter.unusedVariables false
set_option linter.unusedSimpArgs false
set_option maxRecDepth 20000
set_option maxHeartbeats 2000000
namespace Go.Proofs.YthbhgelncdnmgaaGreatDoor
open Go.Proofs.Tryz
open Go.RowKit
theorem Qh7(a:Int):cmpI a a=0:=by unfold cmpI;rw [if_neg (by omega),if_neg (by omega)]
def RetSame(w0:World)(v:Value)(e:Ending)(w':World):Prop:=e=.returned v/\w0=w'
theorem scompare(b b':Nat)(x0 x1 x2 y0 y1 y2:Int)(w:World)(V:Int)(h0:w.cell? ⟨b,0,none⟩=some (.int .i64 x0))(h1:w.cell? ⟨b,1,none⟩=some (.int .i64 x1))(h2:w.cell? ⟨b,2,none⟩=some (.int .i64 x2))
 (k0:w.cell? ⟨b',0,none⟩=some (.int .i64 y0))(k1:w.cell? ⟨b',1,none⟩=some (.int .i64 y1))(k2:w.cell? ⟨b',2,none⟩=some (.int .i64 y2))(H:Hid (lexI (x0,x1,x2) (y0,y1,y2)=V)):
 Calls prog 229 #[.slice (some ⟨b,0,none⟩) 3 3,.slice (some ⟨b',0,none⟩) 3 3] w (RetSame w (.int .i64 V)):=by
 go_enter func229,ntmps229;go_wp2_with fail
 refine wp_loop_rounds 4 ?_;rw [rounds_succ];go_wp2_with fail
 refine(Qhl x0 y0 _).mono ?_;rintro e w' ⟨rfl,rfl⟩;rcases Int.lt_trichotomy x0 y0 with h|h|h
 ·rw [Qb2 h]
  have HV:Hid (V= -1):=by show _=_;rw [<-H.out];unfold lexI;simp only;rw [if_pos h]
  clear h;go_wp2_with fail
  go_ret;exact⟨by rw [HV.out];rfl,rfl⟩
 ·subst h
  rw [Qh7];go_wp2_with fail
  rw [rounds_succ];go_wp2_with fail
  refine(Qhl x1 y1 _).mono ?_;rintro e w' ⟨rfl,rfl⟩;rcases Int.lt_trichotomy x1 y1 with h|h|h
  ·rw [Qb2 h]
   have HV:Hid (V= -1):=(by show _=_;rw [<-H.out];unfold lexI;simp only;rw [if_neg (by omega),if_neg (by omega),if_pos h]);clear h;go_wp2_with fail
   go_ret;exact⟨by rw [HV.out];rfl,rfl⟩
  ·subst h
   rw [Qh7];go_wp2_with fail
   rw [rounds_succ];go_wp2_with fail
   refine(Qhl x2 y2 _).mono ?_;rintro e w' ⟨rfl,rfl⟩;rcases Int.lt_trichotomy x2 y2 with h|h|h
   ·rw [Qb2 h]
    have HV:Hid (V= -1):=(by show _=_;rw [<-H.out];unfold lexI;simp only;rw [if_neg (by omega),if_neg (by omega),if_neg (by omega),if_neg (by omega),if_pos h]);clear h;go_wp2_with fail
    go_ret;exact⟨by rw [HV.out];rfl,rfl⟩
   ·subst h
    rw [Qh7];have HV:Hid (V=0):=(by show _=_;rw [<-H.out];unfold lexI;simp only;rw [if_neg (by omega),if_neg (by omega),if_neg (by omega),if_neg (by omega),if_neg (by omega),if_neg (by omega)]);go_wp2_with fail
    rw [rounds_succ];go_wp2_with fail
    go_ret;exact⟨by rw [HV.out];rfl,rfl⟩
   ·rw [Qdj h]
    have HV:Hid (V=1):=(by show _=_;rw [<-H.out];unfold lexI;simp only;rw [if_neg (by omega),if_neg (by omega),if_neg (by omega),if_neg (by omega),if_neg (by omega),if_pos h]);clear h;go_wp2_with fail
    go_ret;exact⟨by rw [HV.out];rfl,rfl⟩
  ·rw [Qdj h]
   have HV:Hid (V=1):=(by show _=_;rw [<-H.out];unfold lexI;simp only;rw [if_neg (by omega),if_neg (by omega),if_neg (by omega),if_pos h]);clear h;go_wp2_with fail
   go_ret;exact⟨by rw [HV.out];rfl,rfl⟩
 ·rw [Qdj h]
  have HV:Hid (V=1):=by show _=_;rw [<-H.out];unfold lexI;simp only;rw [if_neg (by omega),if_pos h]
  clear h;go_wp2_with fail
  go_ret;exact⟨by rw [HV.out];rfl,rfl⟩
def RetGrow(w0:World)(v:Value)(e:Ending)(w':World):Prop:=e=.returned v/\∃q os,w'=Sort.grow (w0.drewN q) os
theorem Qh8(a b c a' b' c':Int)(w:World)(V:Int)(H:Hid (lexI (a,b,c) (a',b',c')=V)):Calls prog 184 #[eV a b c,eV a' b' c'] w (RetGrow w (.int .i64 V)):=by
 have c1:=(Cs.new w [.int .i64 a,.int .i64 b,.int .i64 c] 147).alloc (E3 a' b' c');have c2:=Cs.new (w.alloc (E3 a b c)) [.int .i64 a',.int .i64 b',.int .i64 c'] 147;rw [World.size_alloc]at c2;have hgrow:(w.alloc (E3 a b c)).alloc (E3 a' b' c')=Sort.grow w (#[E3 a b c]++ #[E3 a' b' c']):=by
  rw [Sort.alloc_eq_grow,Sort.alloc_eq_grow,Sort.grow_grow]
 have HG:=Lib.hid hgrow;clear hgrow;go_enter func184,ntmps184;go_wp2_with fail
 generalize (w.alloc (E3 a b c)).alloc (E3 a' b' c')=W at*
 have hcall:=scompare w.heap.size (w.heap.size+1) a b c a' b' c' W.drew V (c1.cell rfl) (c1.cell rfl) (c1.cell rfl) (c2.cell rfl) (c2.cell rfl) (c2.cell rfl) H
 go_region_held3 (fun _=>True) (first|exact trivial) (first|(go_at_call 229;refine hcall.mono ?_;rintro e w2 ⟨rfl,rfl⟩))
 go_wp2_with fail
 go_ret;exact⟨rfl,1,_,by rw [HG.out];rfl⟩
end Go.Proofs.YthbhgelncdnmgaaGreatDoor
