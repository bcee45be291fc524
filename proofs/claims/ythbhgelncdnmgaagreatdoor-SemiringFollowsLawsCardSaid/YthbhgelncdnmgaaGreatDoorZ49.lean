import Derived.Test.YthbhgelncdnmgaaGreatDoorZ16
import Derived.Test.YthbhgelncdnmgaaGreatDoorZ48
set_option linter.unusedVariables false
set_option linter.unusedSimpArgs false
set_option maxRecDepth 100000
set_option maxHeartbeats 8000000
namespace Go.Proofs.YthbhgelncdnmgaaGreatDoor
open Go.Proofs.Tryz
open Go Go.ChangeShapes Go.WideShapes Go.RowKit
theorem semiringFollowsLaws_lifted(os:Os)(started:os.Started)(H:Type)(enc:TypeId × Value->H):
 ReturnsInHanded {} Tryz.checked os 5 .any (fun w args=>(Rows.semiringFollowsLawsSpec.pre enc prog Tryz.f5 [] false w args/\laidMetH prog lay9 w)/\sizedMet enc prog Tryz.f5 (OpenSpec.ofChange Rows.semiringFollowsLawsSpec) false w args)
  (Rows.semiringFollowsLawsSpec.post enc prog Tryz.f5 false true false false):=by
 refine Qf2 (C:=Tryz.checked) (X:=fun w _=>laidMetH prog lay9 w) (fun _ _ _ hh h=>h.of_heap hh) own9 started (by kernel_rfl) func5
  (ChangeSpec.witness_shaped (enc:=enc) (C:=Tryz.checked) (os:=os) (X:=fun w _=>laidMetH prog lay9 w) false (World.laidAll prog os lay9) #[.int .i64 0,.int .i64 0,.int .i64 0,.int .i64 0] 8 (World.laidAll_os _ _ _) (World.shaped_of_ZipB (by kernel_rfl) (by kernel_rfl)) (by kernel_rfl) (by kernel_rfl) (by kernel_rfl) (Qtl os _)) ?_
 intro W base args ds gs before hval0 hW hsh hL;have hval:∀(j:Nat) t v,Tryz.f5.params[j]? =some t->args[j]? =some v->Value.okWide prog W .any base t v:=hval0;have hW':=hW;obtain⟨p,q,hA0,hV,rfl,hfz,hnd⟩:=hW;have hA:DataW.TrodAll enc prog W 0 (fun _=>true) true Tryz.f5.params.toList args.toList ds p:=hA0;rw [params5]at hA hval;obtain⟨v1,v2,v3,v4,d1,d2,d3,d4,p1,p2,p3,p4,rfl,rfl,rfl,h1,h2,h3,h4⟩:=trodAll_four hA;obtain⟨rfl,rfl⟩:=trodVars_none hV;obtain⟨i1,rfl,rfl,rfl,hw1⟩:=open_int underlying3 (hval 0 _ v1 rfl rfl) h1;have hx1:=hw1;simp only [Lit.wf,Bool.and_eq_true,decide_eq_true_eq]at hx1;obtain⟨i2,rfl,rfl,rfl,hw2⟩:=open_int underlying3 (hval 1 _ v2 rfl rfl) h2;have hx2:=hw2;simp only [Lit.wf,Bool.and_eq_true,decide_eq_true_eq]at hx2;obtain⟨i3,rfl,rfl,rfl,hw3⟩:=open_int underlying3 (hval 2 _ v3 rfl rfl) h3;have hx3:=hw3;simp only [Lit.wf,Bool.and_eq_true,decide_eq_true_eq]at hx3;obtain⟨i4,rfl,rfl,rfl,hw4⟩:=open_int underlying3 (hval 3 _ v4 rfl rfl) h4;have hx4:=hw4;simp only [Lit.wf,Bool.and_eq_true,decide_eq_true_eq]at hx4;refine(Qxn i1 i2 i3 i4 W (Qy3 hL hsh) hx1.1 hx1.2 hx2 hx3 hx4).mono fun e W' ⟨he,hb⟩=>?_
 subst he;have e1:Rows.semiringFollowsLawsSpec.fn H ([.lit (.int .i64 i1),.lit (.int .i64 i2),.lit (.int .i64 i3),.lit (.int .i64 i4)]++[])= {results:=[.lit (.bool true)],args:=[.lit (.int .i64 i1),.lit (.int .i64 i2),.lit (.int .i64 i3),.lit (.int .i64 i4)]}:=rfl;refine⟨_,rfl,_,_,_,[],[],[],hW',?_,?_,?_,hb.frame _,fun h=>by cases h⟩
 ·rw [e1];exact trodAll_mk1 (shut_bool underlying4 true)
 ·rw [e1]
  exact trodAll_mk4 (shut_int underlying3 hw1) (shut_int underlying3 hw2) (shut_int underlying3 hw3) (shut_int underlying3 hw4)
 ·rw [e1];rfl
theorem semiringFollowsLaws_row:Rows.SemiringFollowsLawsSaid:=
 OpenClaim.holds_of_wide 5 Tryz.f5 rfl rfl rfl rfl rfl rfl rfl ⟨rfl,rfl,rfl,rfl,rfl⟩ rfl rfl rfl rfl rfl (by as_aux_lemma=>kernel_rfl) func5 semiringFollowsLaws_closed
  (of_decide_eq_true (by as_aux_lemma=>kernel_rfl)) (by unfold Func.isWrapper;first|(rw [if_pos (by decide+kernel)];kernel_rfl)|(rw [if_neg (by decide+kernel)];exact⟨rfl,rfl⟩))
  (fun os started H enc _=>semiringFollowsLaws_lifted os started H enc)
theorem semiringFollowsLaws_holds:Rows.SemiringFollowsLawsCardSaid:=
 Claim7.holds_tied_plain_at .later [] [.data,.data,.data,.data,.sentinel,.sentinel,.listed,.data,.pinned] true (true,"e7abad007e9696022afac0013b3f6f02e5a9d727193d0e0d1c1f1d3bdd6c3260") true
  semiringFollowsLaws_row (fun _ h=>by cases h) (by as_aux_lemma=>kernel_rfl) (fun _ h=>by cases h) semiringFollowsLaws_row_tie rfl ⟨rfl,rfl⟩ (by as_aux_lemma=>kernel_rfl) rfl
  (fun f fn hf hfn=>by
   obtain rfl:f=5:=Option.some.inj ((show prog.funcNamed "weighted/weightedlaw03.SemiringFollowsLaws" =some 5 by as_aux_lemma=>kernel_rfl).symm.trans hf)|>.symm;obtain rfl:fn=Tryz.f5:=(Option.some.inj (func5.symm.trans hfn)).symm;exact⟨by as_aux_lemma=>kernel_rfl,fun j t ht=>by
    rw [params5]at ht;have hm:t∈[3]:=(by simpa using Array.mem_of_getElem? ht);have hall:([3].all fun u=>!prog.wantsStandIn u)=true:=by as_aux_lemma=>kernel_rfl
    exact(show prog.wantsStandIn t=false by simpa using List.all_eq_true.1 hall t hm)⟩)
  (by as_aux_lemma=>kernel_rfl)
end Go.Proofs.YthbhgelncdnmgaaGreatDoor
