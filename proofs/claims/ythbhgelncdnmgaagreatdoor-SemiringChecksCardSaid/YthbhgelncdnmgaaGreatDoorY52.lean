import Derived.Test.YthbhgelncdnmgaaGreatDoorY53
import Derived.Test.YthbhgelncdnmgaaGreatDoorY44
import Derived.Test.YthbhgelncdnmgaaGreatDoorY50
import Derived.ChangeMaps5
set_option linter.unusedVariables false
set_option linter.unusedSimpArgs false
set_option maxRecDepth 100000
set_option maxHeartbeats 8000000
namespace Go.Proofs.YthbhgelncdnmgaaGreatDoor
open Go.Proofs.Tryz
open Go Go.ChangeShapes Go.WideShapes Go.RowKit Go.ChangeMaps
theorem semiringChecks_lifted(os:Os)(started:os.Started)(H:Type)(enc:TypeId × Value->H):
 ReturnsInHanded {} Tryz.checked os 3 .any (fun w args=>(Rows.semiringChecksSpec.pre enc prog Tryz.f3 [] false w args/\laidMetH prog lay9 w)/\sizedMet enc prog Tryz.f3 (OpenSpec.ofChange Rows.semiringChecksSpec) false w args)
  (Rows.semiringChecksSpec.post enc prog Tryz.f3 false true false false):=by
 refine Qcs (C:=Tryz.checked) (X:=fun w _=>laidMetH prog lay9 w) (fun _ _ _ hh h=>h.of_heap hh) own9 started (by kernel_rfl) func3
  (ChangeSpec.witness_shaped (enc:=enc) (C:=Tryz.checked) (os:=os) (X:=fun w _=>laidMetH prog lay9 w) false (World.laidAll prog os lay9) #[.agg #[.int .i64 0,.slice none 0 0],.agg #[.int .i64 0,.slice none 0 0],.agg #[.bool false,.slice none 0 0,.slice none 0 0,.int .i64 0,.bool false,.int .u64 0,.slice none 0 0,.slice none 0 0],.agg #[.bool false,.slice none 0 0,.slice none 0 0,.int .i64 0,.bool false,.int .u64 0,.slice none 0 0,.slice none 0 0]] 8 (World.laidAll_os _ _ _) (World.shaped_of_ZipB (by kernel_rfl) (by kernel_rfl)) (by kernel_rfl) (by kernel_rfl) (by kernel_rfl) (Qlk os _)) ?_
 intro W base args ds gs before hval0 hW hsh hL;have hval:∀(j:Nat) t v,Tryz.f3.params[j]? =some t->args[j]? =some v->Value.okWide prog W .any base t v:=hval0;have hW':=hW;have hlt:=hW.lt;obtain⟨p,q,hA0,hV,rfl,hfz,hnd⟩:=hW;have hA:DataW.TrodAll enc prog W 0 (fun _=>true) true Tryz.f3.params.toList args.toList ds p:=hA0;rw [params3]at hA hval;obtain⟨v1,v2,v3,v4,d1,d2,d3,d4,p1,p2,p3,p4,rfl,rfl,rfl,h1,h2,h3,h4⟩:=trodAll_four hA;obtain⟨rfl,rfl⟩:=trodVars_none hV;have q1:=h1;have q2:=h2;have q3:=h3;have q4:=h4;obtain⟨k1,A1,n1,c1,l1,rfl,g1⟩:=Qn3 (hval 0 _ v1 rfl rfl) h1;obtain⟨k2,A2,n2,c2,l2,rfl,g2⟩:=Qn3 (hval 1 _ v2 rfl rfl) h2;obtain⟨x3,e3,rfl,g3,b3⟩:=Qf9 (hval 2 _ v3 rfl rfl) h3;obtain⟨x4,e4,rfl,g4,b4⟩:=Qf9 (hval 3 _ v4 rfl rfl) h4;refine(Qq9 k1 l1 A1 n1 c1 k2 l2 A2 n2 c2 e3 e4 x3 x4 W (Qsl hL hsh) g1 g2 g3 g4 b3 b4).mono fun e W' ⟨he,hb⟩=>?_
 subst he;have e1:Rows.semiringChecksSpec.fn H ([d1,d2,d3,d4]++[])= {results:=[.lit (.bool true)],args:=[d1,d2,d3,d4]}:=rfl;refine⟨_,rfl,_,_,_,[],p1++(p2++(p3++p4)),[],hW',?_,?_,?_,hb.frame _,fun h=>by cases h⟩
 ·rw [e1];exact trodAll_mk1 (shut_bool underlying4 true)
 ·rw [e1]
  exact trodAll_mk4 (Qcp (by kernel_rfl) (of_decide_eq_true (by kernel_rfl)) q1 hb (fun x hx=>hlt x (by simp [hx]))) (Qcp (by kernel_rfl) (of_decide_eq_true (by kernel_rfl)) q2 hb (fun x hx=>hlt x (by simp [hx]))) (Qcp (by kernel_rfl) (of_decide_eq_true (by kernel_rfl)) q3 hb (fun x hx=>hlt x (by simp [hx]))) (Qcp (by kernel_rfl) (of_decide_eq_true (by kernel_rfl)) q4 hb (fun x hx=>hlt x (by simp [hx])))
 ·rw [e1];rfl
theorem semiringChecks_row:Rows.SemiringChecksSaid:=
 OpenClaim.holds_of_wide 3 Tryz.f3 rfl rfl rfl rfl rfl rfl rfl ⟨rfl,rfl,rfl,rfl,rfl⟩ rfl rfl rfl rfl rfl (by as_aux_lemma=>kernel_rfl) func3 semiringChecks_closed
  (of_decide_eq_true (by as_aux_lemma=>kernel_rfl)) (by unfold Func.isWrapper;first|(rw [if_pos (by decide+kernel)];kernel_rfl)|(rw [if_neg (by decide+kernel)];exact⟨rfl,rfl⟩))
  (fun os started H enc _=>semiringChecks_lifted os started H enc)
theorem semiringChecks_holds:Rows.SemiringChecksCardSaid:=
 Claim7.holds_tied_plain_at .later [] [.data,.data,.data,.data,.sentinel,.sentinel,.listed,.data,.pinned] true (true,"e7abad007e9696022afac0013b3f6f02e5a9d727193d0e0d1c1f1d3bdd6c3260") true
  semiringChecks_row (fun _ h=>by cases h) (by as_aux_lemma=>kernel_rfl) (fun _ h=>by cases h) semiringChecks_row_tie rfl ⟨rfl,rfl⟩ (by as_aux_lemma=>kernel_rfl) rfl
  (fun f fn hf hfn=>by
   obtain rfl:f=3:=Option.some.inj ((show prog.funcNamed "weighted/weightedlaw03.SemiringChecks" =some 3 by as_aux_lemma=>kernel_rfl).symm.trans hf)|>.symm;obtain rfl:fn=Tryz.f3:=(Option.some.inj (func3.symm.trans hfn)).symm;exact⟨by as_aux_lemma=>kernel_rfl,fun j t ht=>by
    rw [params3]at ht;have hm:t∈[24,32]:=by
     have:=Array.mem_of_getElem? ht;simp at this⊢;exact this
    have hall:([24,32].all fun u=>!prog.wantsStandIn u)=true:=by as_aux_lemma=>kernel_rfl
    exact(show prog.wantsStandIn t=false by simpa using List.all_eq_true.1 hall t hm)⟩)
  (by as_aux_lemma=>kernel_rfl)
end Go.Proofs.YthbhgelncdnmgaaGreatDoor
