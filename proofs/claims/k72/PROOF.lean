import PyProof.Rows.All
import Wide.All
import Wide.FinOn
import KE.KRevIter
import KE.KIntText
import KE.RegKIsAll
import KE.RegKTryMore
import KE.KDictOf
import KE.KFromBytes
import KE.KItem
import PySem.Challenge.RW_calmwires_k72_no_place
set_option Elab.async false
set_option linter.all false
namespace L2
open PySem PySem.W
noncomputable def pT (l:List Obj):BT->Nat->Option BT :=
 @List.rec Obj (fun _=>BT->Nat->Option BT) (fun t _=>some t) (fun o _ ih t n=>bif ((t.ins n o).get n).isSome then ih (t.ins n o) (n + 1) else none) l
theorem pTo (life:Life):∀ {l:List Obj} {t t' : BT} {n:Nat},pT l t n = some t'->absHeap t' (n + l.length) life = ⟨(absHeap t n life).objs++l.toArray,life⟩
 | [],t,t',n,h=>by
  cases h
  show absHeap t n life = _
  simp
  rfl
 | o :: r,t,t',n,h=>by
  have h' : (bif ((t.ins n o).get n).isSome then pT r (t.ins n o) (n + 1) else none) = some t':=h
  cases e:((t.ins n o).get n).isSome with
  | false=>rw [e] at h'; cases h'
  | true =>
   rw [e] at h'
   have i:=pTo life (l:=r) h'
   rw [absHeap_ins e] at i
   rw [show n + (o :: r).length = n + 1 + r.length by simp only [List.length_cons]; omega,i]
   show Heap.mk ((absHeap t n life).objs.push o++r.toArray) life = _
   congr 1
   apply Array.toList_inj.mp
   simp
noncomputable def pn (s:Shared):Option SharedT:=(pT s.heap.objs.toList .nil 0).map fun t=>⟨t,s.heap.objs.size,s.heap.life,s.gens,s.drawn,s.toks,s.os⟩
theorem po {s:Shared} {S:SharedT} (h:pn s = some S):S.abs = s:=by
 obtain ⟨t,e,rfl⟩:=Option.map_eq_some_iff.mp h
 have i:=pTo s.heap.life e
 obtain ⟨⟨objs,life⟩,gens,drawn,toks,os⟩:=s
 show Shared.mk (absHeap t objs.size life) gens drawn toks os = _
 have j:absHeap t objs.size life = ⟨objs,life⟩:=by
  rw [Nat.zero_add] at i
  have k:(absHeap BT.nil 0 life).objs = #[]:=rfl
  simp only [k] at i
  rw [show objs.size = objs.toList.length from rfl,i]
  simp
 rw [j]
noncomputable def goT (st:SharedT->Thread->Option (SharedT × Thread)) (ok:Thread->Bool) (n:Nat):SharedT->Thread->Option SharedT :=
 @Nat.rec (fun _=>SharedT->Thread->Option SharedT) (fun _ _=>none) (fun _ ih s t=>bif through t then some s else bif ok t then (st s t).bind fun z=>ih z.1 z.2 else none) n
theorem gTo {tb:String->Option Builtin} {p:Program} {w:World} {m:Nat} {a:Option Value}:∀ {n:Nat} {s s' : SharedT} {t:Thread},goT (stepT (denote tb) p w) (stepOk m a) n s t = some s'->topRun tb p w m a n s.abs t = some s'.abs
 | 0,_,_,_,h=>nomatch h
 | n + 1,s,s',t,h=>by
  have h' : (bif through t then some s else bif stepOk m a t then (stepT (denote tb) p w s t).bind fun z=>goT (stepT (denote tb) p w) (stepOk m a) n z.1 z.2 else none) = some s':=h
  unfold topRun
  cases e:through t with
  | true=>rw [e] at h'; cases h'; rfl
  | false =>
   rw [e] at h'
   cases e2:stepOk m a t with
   | false=>rw [e2] at h'; cases h'
   | true =>
    rw [e2] at h'
    obtain ⟨⟨s2,t2⟩,e3,e4⟩:=Option.bind_eq_some_iff.mp h'
    rw [stepT_spec e3]
    exact gTo e4
noncomputable def aT (tb:String->Option Builtin) (p:Program) (w:World) (N:Nat) (z:Shared):Option Shared :=
 bif z.heap.isNs mainGlobals && z.gens.size == 0 then
  (pn z).bind fun S=>(goT (stepT (denote tb) p w) (stepOk z.heap.objs.size (z.heap.nsMap mainGlobals "__annotations__")) N S (topStub p)).bind fun y =>
   bif staticsOk (importedModules p.main.body) z.heap y.abs.heap && namesBound p y.abs.heap && gensDone y.abs && laidKept z.heap y.abs.heap then some y.abs else none
 else none
theorem aTo {tb:String->Option Builtin} {p:Program} {w:World} {N:Nat} {z y:Shared} (h:aT tb p w N z = some y):topFrom tb p w N z = some y:=by
 unfold aT at h
 unfold topFrom
 cases e:(z.heap.isNs mainGlobals && z.gens.size == 0) with
 | false=>rw [e] at h; cases h
 | true =>
  rw [e] at h
  obtain ⟨S,e1,h⟩:=Option.bind_eq_some_iff.mp h
  obtain ⟨Y,e2,h⟩:=Option.bind_eq_some_iff.mp h
  have r:=gTo e2
  rw [po e1] at r
  dsimp only
  rw [r]
  cases e3:(staticsOk (importedModules p.main.body) z.heap Y.abs.heap && namesBound p Y.abs.heap && gensDone Y.abs && laidKept z.heap Y.abs.heap) with
  | false=>rw [e3] at h; cases h
  | true =>
   rw [e3] at h
   cases h
   show (match staticsOk (importedModules p.main.body) z.heap Y.abs.heap && namesBound p Y.abs.heap && gensDone Y.abs && laidKept z.heap Y.abs.heap with | true=>_ | false=>_) = _
   rw [e3]
theorem l2 {p q:Program} {loose:List PySem.Str} {Xt:Shared->Bool} {α:Type} {Yf:Shared->α} {Ya:World->α} {N:Nat} {g0:Bool}
  (h1:∀ w,((fencedOpening treeTable p w N).bind (aT treeTable p w N)).map (fun s=>openSeen q loose (importedModules p.main.body) Xt g0 s) = some (openGood q loose))
  (h2:∀ w,((fencedOpening treeTable p w N).bind (aT treeTable p w N)).map Yf = some (Ya w)):LeftO p q loose Xt Yf Ya N g0:=fun w=>by
 obtain ⟨s,e,e2⟩:=Option.map_eq_some_iff.mp (h1 w)
 have h3:=h2 w
 rw [e] at h3
 obtain ⟨z,e3,e4⟩:=Option.bind_eq_some_iff.mp e
 unfold openEnds
 rw [e3]
 show (topFrom treeTable p w N z).map _ = _
 rw [aTo e4]
 show some (openSeen q loose (importedModules p.main.body) Xt g0 s,Yf s) = _
 rw [e2,show Yf s = Ya w from Option.some.inj h3]
theorem l1 {p q:Program} {loose:List PySem.Str} {Xt:Shared->Bool} {α:Type} {Yf:Shared->α} {Ya:World->α} {N:Nat} {g0:Bool}
  (h:∀ w,((fencedOpening treeTable p w N).bind (aT treeTable p w N)).map (fun s=>(openSeen q loose (importedModules p.main.body) Xt g0 s,Yf s)) = some (openGood q loose,Ya w)):LeftO p q loose Xt Yf Ya N g0 :=
 l2 (fun w=>by
  obtain ⟨s,e,e2⟩:=Option.map_eq_some_iff.mp (h w)
  rw [e]
  exact congrArg some (Prod.mk.inj e2).1) (fun w=>by
  obtain ⟨s,e,e2⟩:=Option.map_eq_some_iff.mp (h w)
  rw [e]
  exact congrArg some (Prod.mk.inj e2).2)
end L2
section
open PySem PySem.W PyProof.Rows PySem.W.Fast
lay_quick PySem.Challenge.pw_calmwires_k72_no_place
local macro_rules | `(tactic| refine $f:ident $as*) => do if (f.getId.toString.splitOn "holds_open").length > 1 then `(tactic| (refine' $f $as*; case' $(Lean.mkIdent `hl):ident => (refine' L2.l1 (fun w => ?_); unfold fencedOpening L2.aT; rw [show PySem.Challenge.rw_calmwires_k72_no_place.row.prog = _ from te9464091112921384781,te10156331382660048174,te11892475500146522536,te6613529449190102663,te10274390034422433532,te14289696077712309145,te14364793385576792824,te1435165496053646825,te8920871248978507458,te4187177175401517315]; kernel_rfl!))) else Lean.Macro.throwUnsupported
set_option maxRecDepth 100000 in
set_option maxHeartbeats 0 in
open_top theTop for PySem.Challenge.rw_calmwires_k72_no_place
end
open List (map_nil all_cons all_map map_set map_take map_drop)
open PySem.W (methodObj codeRec_of)
open Nat (strongRecOn)
open PySem.Heap (SameBut ExtBut)
noncomputable section
set_option Elab.async false
set_option linter.all false
set_option maxRecDepth 100000
abbrev A2:=PySem.Value
abbrev A4:=PySem.Addr
abbrev C0:=PySem.Shared
abbrev C1:=PySem.Around
abbrev C2:=@Option
abbrev C3:=@List
abbrev C4:=PySem.Expr
abbrev C5:=PySem.Stmt
abbrev Df:=PySem.FuncData
abbrev Ff:=PySem.Program
abbrev Fn:=PySem.World
abbrev Gf:=PySem.Heap
abbrev H3:=PySem.Scope
abbrev IA:=PySem.Env
def AA:=@PySem.wpAny_bind
def AB:=@List.getElem?_eq_some_iff
def AC:=@List.length_map
def AD:=@Or.inl
def AE:=@decide_eq_false
def AF:=@PySem.Heap.get?_push_of_some
def AG:=@if_pos
def AH:=@List.getElem?_eq_getElem
def AI:=@List.mem_of_getElem?
def AJ:=@decide_eq_true
def AK:=@PySem.wpAny_pure
def AL:=@List.mem_singleton
def AM:=@List.getElem?_map
def AN:=@List.length_append
def AO:=@Ne.symm
def AQ:=@if_neg
def AR:=@PySem.Heap.lt_size
def AT:=@List.size_toArray
def AU:=@Nat.lt_of_lt_of_le
def AV:=@Bool.and_eq_true
def AW:=@List.mem_cons_self
def AX:=@List.mem_cons_of_mem
def AY:=@Nat.le_refl
def AZ:=@Nat.le_trans
def BA:=@PySem.Heap.get?_push_size
def BB:=@List.getElem?_set
def BC:=@List.length_cons
def BD:=@Option.some.inj
def BE:=@PySem.Heap.get?_update_other
def BF:=@of_decide_eq_true
def BG:=@List.getElem?_append_left
def BH:=@List.length_set
def BI:=@List.mem_cons
def BJ:=@Or.inr
def BK:=@List.map_append
def BM:=@PySem.wpAny_mono
def BN:=@PySem.wpAny_loadPart_at
def BO:=@PySem.mem_of_lookup
def BP:=@List.mem_filter
def BQ:=@List.mem_append
def BR:=@List.mem_append_right
def BS:=@List.mem_append_left
def BU:=@Nat.ne_of_lt
def BV:=@List.length_range
def BW:=@PySem.PassesOwn.never
def BX:=@beq_eq_false_iff_ne
def BY:=@List.map_cons
def BZ:=@PySem.wpAny_holding
def CA:=@Int.toNat_natCast
def CB:=@decide_eq_true_eq
def CC:=@List.length_drop
def CF:=@List.mem_range
def CG:=@Bool.false_ne_true
def CH:=@PySem.Heap.get?_update_self
def CI:=@PySem.wpAny_field
def CJ:=@List.length_take
def CK:=@List.take_of_length_le
def CL:=@PySem.wpAny_newObj_type
def CM:=@List.getElem?_append_right
def CN:=@PySem.F.slot_list_append
def CO:=@PySem.F.type_list_append
def CP:=@Int.zero_add
def CQ:=@PySem.wpAny_Call_Name_kw
def CS:=@List.length_singleton
def CT:=@Nat.pow_le_pow_right
def CU:=@Nat.eq_of_testBit_eq
def CV:=@congrArg
def CW:=@PySem.wpAny_standAt
def CY:=@List.eraseIdx_eq_take_drop_succ
def CZ:=@List.mem_map
def DA:=@Nat.lt_irrefl
def DB:=@List.nodup_cons
def DC:=@beq_iff_eq
def DE:=@Nat.lt_or_ge
def DF:=@List.all_eq_true
def DG:=@Nat.testBit_and
def DH:=@List.drop_eq_getElem_cons
def DI:=@List.map_map
def DJ:=@Nat.zero_le
def DK:=@Nat.eq_zero_or_pos
def DL:=@PyProof.Rows.callWith_type1
def DM:=@Array.getElem?_eq_some_iff
def DN:=@PySem.F.excBase_ValueError
def DO:=@PySem.Obj.data_mapFields
def DP:=@List.mem_or_eq_of_mem_set
def DQ:=@PyProof.Rows.slot_tuple_getitem
def DR:=@List.lookup_cons
def DU:=@List.any_eq_true
def DV:=@PySem.sizeLine_eq
def DW:=@Nat.le_of_lt
def DX:=@Bool.eq_iff_iff
def DY:=@Bool.and_eq_true_iff
def DZ:=@Nat.le_succ
def EB:=@PySem.wpAny_truthy_bool
def EC:=@PySem.wpAny_callSpecial?_slot
def ED:=@PySem.F.plainAttrs_list
def EE:=@List.filterMap_cons
def EF:=@List.length_replicate
def EG:=@decide_eq_decide
def EH:=@List.length_eq_zero_iff
def EI:=@Nat.mod_lt
def EJ:=@List.getElem?_of_mem
def EK:=@PySem.wpAny_passesOwn
def EL:=@PySem.wpAny_loadPart'
def EM:=@PySem.F.slot_tuple_iterator_next
def EN:=@Nat.not_lt
def EO:=@Classical.byContradiction
def EQ:=@List.nodup_nil
def ER:=@PySem.Heap.size_push
def ES:=@List.getElem?_range
def ET:=@PySem.wpAny_setField
def EU:=@List.take_append_drop
def EV:=@List.length_filter_le
def EW:=@PySem.codeAny_mono
def EY:=@Option.isSome_iff_exists
def EZ:=@PySem.wpAny_call_entry
def FA:=@beq_self_eq_true
def FB:=@Array.length_toList
def FC:=@List.getElem?_replicate
def FD:=@PySem.wpAny_getItem_str_slice
def FE:=@List.mem_replicate
def FF:=@List.append_nil
def FG:=@List.find?_cons
def FH:=@List.idxOf_cons
def FI:=@Nat.testBit_or
def FJ:=@Bool.or_eq_true
def FK:=@Bool.not_eq_true'
def FL:=@List.take_succ_cons
def FM:=@List.getElem_of_mem
def FN:=@Nat.lt_of_le_of_lt
def FO:=@PySem.Obj.isFreed_of_fields
def FP:=@List.getElem?_eq_none
def FQ:=@PySem.codeAny_handlers_test
def FR:=@List.count_cons_of_ne
def FS:=@PySem.F.typeOf_object_class
def FT:=@List.idxOf_lt_length_of_mem
def FU:=@List.getElem?_set_ne
def FV:=@PySem.wpAny_call
def FW:=@List.mem_of_mem_drop
def FX:=@PySem.codeAny_call_builtin
def FY:=@List.Pairwise.filter
def FZ:=@PySem.strLen_append
def GA:=@Bool.true_and
def GB:=@Nat.testBit_xor
def GC:=@PySem.wpAny_handleBy_cons
def GD:=@Nat.testBit_two_pow
def GE:=@List.getElem?_eq_none_iff
def GF:=@List.any_cons
def GG:=@Nat.lt_succ_self
def GH:=@Nat.zero_testBit
def GI:=@PySem.wpAny_pyIter_tuple
def GJ:=@PySem.W.callWith_K
def GK:=@PySem.F.args_tuple_add_2
def GL:=@PySem.wpAny_typeOf
def GM:=@Bool.false_eq_true
def GN:=@PySem.Txt.slice_le
def GO:=@Nat.succ.inj
def GP:=@PySem.Code.quiet_builtin
def GQ:=@List.mem_map_of_mem
def GR:=@PySem.call_meets
def GS:=@PySem.F.entry_tuple_add
def GT:=@List.getElem?_cons_succ
def GU:=@PySem.F.slot_list_index
def GV:=@decide_eq_false_iff_not
def GW:=@PySem.wpAny_pyIter_list
def GY:=@Nat.le_succ_of_le
def GZ:=@List.getElem_mem
def HA:=@List.nodup_range
def HB:=@PySem.Heap.size_update
def HC:=@PySem.F.slot_tuple_add
def HD:=@List.range_succ_eq_map
def HE:=@List.pairwise_cons
def HF:=@List.getElem?_drop
def HG:=@List.getElem?_cons
def HH:=@Nat.succ_le_succ
def HI:=@List.take_succ
def HJ:=@List.reverse_cons
def HK:=@List.nodup_append
def HL:=@PySem.Heap.get?_none_of_le
def HM:=@PySem.wpAny_execs_nil
def HN:=@Option.map_some
def HP:=@PySem.post_val_or_str
def HQ:=@PySem.codeAny_builtin
def HR:=@Nat.two_pow_pos
def HU:=@List.count_cons_self
def HV:=@PySem.wpAny_isSubtype_exc
def HW:=@List.length_reverse
def HX:=@PySem.W.cellsFrom_some
def HY:=@Nat.zero_add
def HZ:=@if_false
def IB:=@Prod.ext
def IC:=@Prod.mk.inj
def ID:=@List.filterMap_map
def IE:=@Array.all_eq_true'
def IF:=@List.count_pos_iff
def IG:=@of_decide_eq_false
def IH:=@PySem.Paired.length
def II:=@Bool.and_self
def IJ:=@Option.some.injEq
def IK:=@PySem.wpAny_pyIter_enum
def IL:=@List.ext_getElem?
def IM:=@Bool.eq_false_iff
def IN:=@List.any_eq_false
def IP:=@List.of_mem_zip
def IQ:=@List.range_succ
def IR:=@True.intro
def IS:=@if_true
def IT:=@PySem.noFill_tuple_add
def IU:=@Option.getD_some
def IV:=@PySem.wpAny_Try_except
def IW:=@Nat.mod_eq_of_lt
def IX:=@List.length_nil
def IY:=@PySem.wpAny_specialOf
def IZ:=@Nat.min_eq_left
def JA:=@PySem.seqIndex_of
def JB:=@List.any_map
def JC:=@Bool.false_and
def JD:=@PySem.wpAny_seqItems
def JE:=@PySem.arm_exec_Raise
def JF:=@Nat.le_of_eq
def JG:=@Eq.trans
def JH:=@PySem.seq_tuple_add
def JI:=@Bool.or_false
def JJ:=@List.drop_zero
def JK:=@List.take_zero
def JL:=@Nat.ne_of_gt
def JM:=@PySem.concat_meets
def JO:=@PySem.seqIndex_neg
def JP:=@Bool.or_true
abbrev KD:=PySem.Value->PySem.Shared->Prop
abbrev JT:=PySem.W.Frag
abbrev J1:=C3 (PySem.Addr×PySem.Obj)
abbrev KB:=PySem.Str->C2 PySem.Value
variable{u v au pm ah ct oc vl vu:PySem.Value}{κ α:Type}{P prog q:PySem.Program}{w:PySem.World}{h h' base:PySem.Heap}{e tg iter aA:PySem.Expr}{ex ch fp:C3 PySem.Addr}{aa:J1}{s s':PySem.Shared}{t' i j k tk:Nat}{it D f l C dx:PySem.Addr}{N ps loose:C3 PySem.Str}{A:PySem.Around}{E Q:KD}{pos am p ax al:PySem.Pos}{op:PySem.CmpOp}{aj es az:C3 PySem.Expr}{xs:C3 α}{K:JT}{body:C3 PySem.Stmt}{vs its us its':C3 PySem.Value}{lo hi:C2 Int}{name ai:PySem.Str}{kw:C3 (PySem.Str×PySem.Value)}{mg:KB}{outer:C3 PySem.Env}{fd:PySem.FuncData}{sc scope aq:PySem.Scope}{an od:C2 PySem.Addr}{T:String}{af:Array PySem.Value}{ns:C3 Int}{XP:(PySem.Str->C2 PySem.Value)->PySem.Heap->Prop}{YP:PySem.World->PySem.Heap->Prop}{B:Prop}{env:PySem.Env}{cells:C3 (PySem.Str×PySem.Addr)}
namespace L2
open PySem PySem.Spec PyProof.Rows
abbrev Ul:=Sum Int Str
def Ac:Ul->A2->Bool
 | .inl k,v=>Value.isInt k v
 | .inr x,v=>Value.isStrOf x v
def kH(w:Fn):Ul->Int
 | .inl k=>hashInt k
 | .inr x=>hashStr w x
theorem Vn:∀ {k:Ul} {v:A2},Ac k v=true->(∃ i t,k=Sum.inl i/\v=Value.int i t)\/(∃ x t,k=Sum.inr x/\v=Value.str x t)
 | .inl i,v,h=>by
  obtain⟨t,e⟩:=Value.isInt_shape (k:=i) (v:=v) h;exact .inl ⟨i,t,rfl,e⟩
 | .inr x,v,h=>by
  obtain⟨t,e⟩:=Value.isStrOf_shape (x:=x) (v:=v) h;exact .inr ⟨x,t,rfl,e⟩
theorem f5(i:Int)(t:Tok):Ac (.inl i) (.int i t)=true:=by simp[Ac,Value.isInt]
theorem gn(x:Str)(t:Tok):Ac (.inr x) (.str x t)=true:=by simp[Ac,Value.isStrOf]
theorem eB(a b:Int):decide ((Sum.inl a:Ul)=Sum.inl b)=(a==b):=by
 by_cases e:a=b
 ·subst e;simp
 ·have h:¬ (Sum.inl a:Ul)=Sum.inl b:=fun q=>e (Sum.inl.inj q)
  rw[AE h];exact(BX.mpr e).symm
theorem m7(a b:Str):decide ((Sum.inr a:Ul)=Sum.inr b)=decide (a=b):=by
 by_cases e:a=b
 ·subst e;simp
 ·have h:¬ (Sum.inr a:Ul)=Sum.inr b:=fun q=>e (Sum.inr.inj q)
  rw[AE h,AE e]
theorem lA(a:Int)(b:Str):decide ((Sum.inl a:Ul)=Sum.inr b)=false:=AE (fun q=>nomatch q)
theorem hU(a:Str)(b:Int):decide ((Sum.inr a:Ul)=Sum.inl b)=false:=AE (fun q=>nomatch q)
def U8(prog:Ff)(w:Fn):PySem.KeyKind prog w Ul where
 is:=Ac
 hash:=kH w
 inj:=fun v a b ha U=>by
  rcases Vn ha with⟨i,t,rfl,rfl⟩ | ⟨x,t,rfl,rfl⟩
  ·rcases Vn U with⟨j,u,rfl,e⟩ | ⟨y,u,rfl,e⟩
   ·injection e with e1 _;rw[e1]
   ·exact nomatch e
  ·rcases Vn U with⟨j,u,rfl,e⟩ | ⟨y,u,rfl,e⟩
   ·exact nomatch e
   ·injection e with e1 _;rw[e1]
 byValue:=fun k v h=>by
  rcases Vn h with⟨i,t,rfl,rfl⟩ | ⟨x,t,rfl,rfl⟩<;>rfl
 pyHash:=fun hv h=>by
  rcases Vn hv with⟨i,t,rfl,rfl⟩ | ⟨x,t,rfl,rfl⟩
  ·exact wpAny_pyHash_int h
  ·exact wpAny_pyHash_str h
 eqBool:=fun hu hv h=>by
  rcases Vn hu with⟨i,t,rfl,rfl⟩ | ⟨x,t,rfl,rfl⟩
  ·rcases Vn hv with⟨j,u,rfl,rfl⟩ | ⟨y,u,rfl,rfl⟩
   ·rw[eB] at h;exact wpAny_eqBool_int h
   ·rw[lA] at h;exact SeqAt.EqAt.int_str i t y u _ _ _ _ h
  ·rcases Vn hv with⟨j,u,rfl,rfl⟩ | ⟨y,u,rfl,rfl⟩
   ·rw[hU] at h;exact SeqAt.EqAt.str_int x t j u _ _ _ _ h
   ·rw[m7] at h;exact wpAny_eqBool_str h
 «strs» := fun k x t v h=>by
  rcases Vn h with⟨i,u,rfl,e⟩ | ⟨y,u,rfl,e⟩
  ·exact nomatch e
  ·injection e with e1 _
   subst e1;cases v<;>rfl
theorem k8(prog:Ff)(w:Fn)(i:Int)(t:Tok):(U8 prog w).is (.inl i) (.int i t)=true:=f5 i t
theorem lv(prog:Ff)(w:Fn)(x:Str)(t:Tok):(U8 prog w).is (.inr x) (.str x t)=true:=gn x t
variable{Q:Unit->C0->Prop}
inductive V where
 | non | bl (b:Bool) | int (i:Int) | str (x:Str) | byt (b:Array UInt8) | flt (b:UInt64) | ref (a:Addr) | ty (n:String)
 deriving DecidableEq
def W2:V->A2->Prop
 | .non,u=>u=Value.none
 | .bl b,u=>u=Value.bool b
 | .int i,u=>∃ t,u=Value.int i t
 | .str x,u=>∃ t,u=Value.str x t
 | .byt b,u=>∃ t,u=Value.bytes b t
 | .flt b,u=>∃ t,u=Value.float b t
 | .ref a,u=>u=Value.ref a
 | .ty n,u=>u=Value.type n
abbrev Y5:C3 V->C3 A2->Prop:=Paired W2
theorem Y5.length{xs:C3 V}{us:C3 A2}(r:Y5 xs us):xs.length=us.length:=IH r
theorem Y5.get:∀ {xs:C3 V} {us:C3 A2} {i:Nat} {x:V},Y5 xs us->xs[i]?=some x->∃ u,us[i]?=some u/\W2 x u
 | _,_,_,_,.nil,e=>by simp at e
 | _,_,0,_,.cons r _,e=>by simp at e;subst e;exact⟨_,rfl,r⟩
 | _,_,i+1,x,.cons _ t,e=>by
  obtain⟨u,h1,h2⟩:=Y5.get (i:=i) (x:=x) t (by simpa using e);exact⟨u,by simpa using h1,h2⟩
theorem Y5.set{x:V}(r:W2 x u):∀ {xs:C3 V} {us:C3 A2} (i:Nat),Y5 xs us->Y5 (xs.set i x) (us.set i u)
 | _,_,_,.nil=>.nil
 | _,_,0,.cons _ t=>.cons r t
 | _,_,i+1,.cons q t=>.cons q (Y5.set r i t)
theorem Y5.append:∀ {xs ys:C3 V} {us ws:C3 A2},Y5 xs us->Y5 ys ws->Y5 (xs++ys) (us++ws)
 | _,_,_,_,.nil,s=>s
 | _,_,_,_,.cons r t,s=>.cons r (Y5.append t s)
theorem Y5.take:∀ {xs:C3 V} {us:C3 A2} (n:Nat),Y5 xs us->Y5 (xs.take n) (us.take n)
 | _,_,0,_=>.nil
 | _,_,_+1,.nil=>.nil
 | _,_,n+1,.cons r t=>.cons r (Y5.take n t)
theorem Y5.drop:∀ {xs:C3 V} {us:C3 A2} (n:Nat),Y5 xs us->Y5 (xs.drop n) (us.drop n)
 | _,_,0,r=>r
 | _,_,_+1,.nil=>.nil
 | _,_,n+1,.cons _ t=>Y5.drop n t
def Po:C2 V->C2 A2->Prop
 | some v,some u=>W2 v u
 | none,none=>True
 | _,_=>False
def KV:C3 (κ×V)->C3 (κ×A2)->Prop:=Paired fun(p:κ×V) (q:κ×A2)=>p.1=q.1/\W2 p.2 q.2
def kV:Ul->V
 | .inl i=>.int i
 | .inr x=>.str x
inductive HO where
 | lst (xs:List V)
 | tup (xs:List V)
 | dK (kvs:List (Ul×V)) | dT (kvs:List (List Ul×V))
 | set (S:Int->Bool) (n:Nat)
 | ins (C dx:Addr) (fs:List (Str×V))
 | own (x:Addr)
 | xd (fs:List (Str×V))
 | met (f x:Addr)
 | rng (lo hi:Int)
 | frz (o:Obj) (u:HO)
 | tbl (ps:Array Value)
 | ext (φ:Heap->Prop)
abbrev Hp:=A4->C2 HO
def W7(H:Hp)(a:A4)(o:HO):Hp:=fun b=>if b=a then some o else H b
theorem Zk{H:Hp}{a:A4}{o:HO}:W7 H a o a=some o:=by unfold W7;rw[AG rfl]
theorem Zd{H:Hp}{a b:A4}{o:HO}(h:b≠a):W7 H a o b=H b:=by unfold W7;rw[AQ h]
theorem YJ{H:Hp}{a b:A4}{o u:HO}(h:H a=some o)(h':H b=some u)(d:o≠u):a≠b:=by
 intro e;subst e;rw[h] at h';exact d (BD h')
variable{H H':Hp}{v:V}{l:C4}
theorem Yh{a b:A4}{o:HO}(h:H a=some o)(h':H b=none):a≠b:=by
 intro e;subst e;rw[h] at h';cases h'
section
variable(P:Ff)(w:Fn)
def V2(H:Hp)(h:Gf)(a:A4):HO->Prop
 | .lst xs=>xs.length<=sizeLine/\∃ (its:C3 A2) (n:Nat),Y5 xs its/\h.get? a=some { cls:=.type "list",data:=.seq its.toArray n }
 | .tup xs=>xs.length<=sizeLine/\∃ its:C3 A2,Y5 xs its/\IsTup h a its.toArray
 | .dK kvs=>kvs.length<=sizeLine/\(a==sysModules)=false/\∃ vs,KV kvs vs/\h.DictOf (U8 P w) a vs
 | .dT kvs=>kvs.length<=sizeLine/\(a==sysModules)=false/\∃ xs:C3 (C3 Ul×A4×A2),
  Paired (fun(p:C3 Ul×V) (q:C3 Ul×A4×A2)=>p.1=q.1/\H q.2.1=some (.tup (p.1.map kV))/\W2 p.2 q.2.2) kvs xs /\
  ∃ o es ep,h.get? a=some o/\o.ExactDict/\o.data=.dict es ep/\es.toList=xs.map (entryOfKey (tupleKind (U8 P w)))/\(xs.map (·.1)).Nodup
 | .set S n=>h.SetOf (intKind P w) a S n
 | .ins C dx fs=>H dx=some (.own a)/\fs.length<=1000/\dx≠a/\h.get? a=some (PySem.W.instObj C dx) /\
  ∃ mA,h.Ns1 dx mA/\(∀ f,Po (fs.lookup f) (mA f))/\PySem.Within mA (fs.map (·.1))
 | .own _=>∃ o,h.get? a=some o
 | .xd fs=>∃ mA,h.Ns1 a mA/\∀ f,Po (fs.lookup f) (mA f)
 | .rng lo hi=>∃ t u v,h.get? a=some { cls:=.type "range",data:=.fields #[.int lo t,.int hi u,.int 1 v] }
 | .frz o u=>h.get? a=some o/\V2 H h a u
 | .tbl ps=>h.get? a=some { cls:=.none,data:=.fields ps }
 | .met f x=>h.get? a=some (methodObj (.ref f) (.ref x))
 | .ext φ=>φ h/\(∃ o,h.get? a=some o)/\∀ h1 h2:Gf,φ h1->(∀ o,h1.get? a=some o->h2.get? a=some o)->φ h2
def Ee(H:Hp)(h:Gf):Prop:=∀ a o,H a=some o->V2 P w H h a o
end
section
variable{a:A4}{o:HO}
theorem V2.lt(x:V2 P w H h a o):a<h.objs.size:=by
 cases o with
 | lst xs=>obtain⟨_,_,_,_,e⟩:=x;exact AR e
 | tup xs=>obtain⟨_,_,_,p⟩:=x;exact p.lt
 | dK kvs=>obtain⟨_,_,_,_,o,_,_,e,_⟩:=x;exact AR e
 | dT kvs=>obtain⟨_,_,_,_,o,_,_,e,_⟩:=x;exact AR e
 | set S n=>obtain⟨o,_,_,_,e,_⟩:=x;exact AR e
 | ins C dx fs=>obtain⟨_,_,_,e,_⟩:=x;exact AR e
 | own y=>obtain⟨_,e⟩:=x;exact AR e
 | xd fs=>obtain⟨_,⟨_,_,_,e,_⟩,_⟩:=x;exact AR e
 | rng lo hi=>obtain⟨_,_,_,e⟩:=x;exact AR e
 | frz ob u=>obtain⟨e,_⟩:=x;exact AR e
 | tbl ps=>exact AR (show h.get? a=some _ from x)
 | met f y=>exact AR (show h.get? a=some _ from x)
 | ext φ=>obtain⟨_,⟨_,e⟩,_⟩:=x;exact AR e
theorem Paired.mapP{β:Type}{F G:α->β->Prop}:∀ {l₁:C3 α} {l₂:C3 β},Paired F l₁ l₂->(∀ a b,F a b->G a b)->Paired G l₁ l₂
 | _,_,.nil,_=>.nil
 | _,_,.cons r t,f=>.cons (f _ _ r) (Paired.mapP t f)
theorem V2.stay(x:V2 P w H h a o)(k:∀ b u,(b=a\/H b=some (.own a))->h.get? b=some u->h'.get? b=some u)
  (J:∀ b,H b=some (.own a)->H' b=some (.own a)) (ht:∀ b xs,H b=some (.tup xs)->H' b=some (.tup xs)):V2 P w H' h' a o:=by
 induction o with
 | lst xs=>obtain⟨z,its,n,r,e⟩:=x;exact⟨z,its,n,r,k _ _ (.inl rfl) e⟩
 | tup xs=>obtain⟨z,its,r,ob,e,c⟩:=x;exact⟨z,its,r,ob,k _ _ (.inl rfl) e,c⟩
 | dK kvs=>obtain⟨z,y,vs,r,ob,es,ep,e,c⟩:=x;exact⟨z,y,vs,r,ob,es,ep,k _ _ (.inl rfl) e,c⟩
 | dT kvs =>
  obtain⟨z,y,xs,r,ob,es,ep,e,c⟩:=x;exact⟨z,y,xs,Paired.mapP r fun p q z=>⟨z.1,ht _ _ z.2.1,z.2.2⟩,ob,es,ep,k _ _ (.inl rfl) e,c⟩
 | set S n=>obtain⟨ob,es,ep,t,e,c⟩:=x;exact⟨ob,es,ep,t,k _ _ (.inl rfl) e,c⟩
 | ins C dx fs =>
  obtain⟨d,z,ne,e,mA,⟨od,es,ep,e2,c⟩,r⟩:=x;exact⟨J _ d,z,ne,k _ _ (.inl rfl) e,mA,⟨od,es,ep,k _ _ (.inr d) e2,c⟩,r⟩
 | own y=>obtain⟨ob,e⟩:=x;exact⟨ob,k _ _ (.inl rfl) e⟩
 | xd fs=>obtain⟨mA,⟨od,es,ep,e,c⟩,r⟩:=x;exact⟨mA,⟨od,es,ep,k _ _ (.inl rfl) e,c⟩,r⟩
 | rng lo hi=>obtain⟨t,u,v,e⟩:=x;exact⟨t,u,v,k _ _ (.inl rfl) e⟩
 | frz ob u ih=>obtain⟨e,q⟩:=x;exact⟨k _ _ (.inl rfl) e,ih q⟩
 | tbl ps =>
  have e:h.get? a=some { cls:=.none,data:=.fields ps }:=x;show h'.get? a=some { cls:=.none,data:=.fields ps };exact k a _ (.inl rfl) e
 | met f y =>
  have e:h.get? a=some (methodObj (.ref f) (.ref y)):=x;show h'.get? a=some (methodObj (.ref f) (.ref y));exact k a _ (.inl rfl) e
 | ext φ=>obtain⟨p,⟨o,e⟩,st⟩:=x;exact⟨st _ _ p fun o q=>k _ _ (.inl rfl) q,⟨o,k _ _ (.inl rfl) e⟩,st⟩
theorem Ee.lt(x:Ee P w H h)(e:H a=some o):a<h.objs.size:=(x a o e).lt
theorem Ee.fresh(x:Ee P w H h)(e:h.objs.size<=a):H a=none:=by
 cases q:H a with
 | none=>rfl
 | some u=>exact absurd (AU (x.lt q) e) (DA _)
theorem Ee.kept(x:Ee P w H h)(k:∀ b u,h.get? b=some u->h'.get? b=some u):Ee P w H h':=fun a o e =>
 (x a o e).stay (fun b u _ q=>k b u q) (fun _ q=>q) fun _ _ q=>q
theorem Ee.laid(x:Ee P w H h)(k:∀ b u,h.get? b=some u->h'.get? b=some u)(hp:h.objs.size<=a)(new:V2 P w (W7 H a o) h' a o):Ee P w (W7 H a o) h':=fun b u e=>by
 have hn:=x.fresh hp;by_cases U:b=a
 ·subst U;rw[Zk] at e;cases e;exact new
 ·rw[Zd U] at e
  exact(x b u e).stay (fun c v _ q=>k c v q) (fun c q=>by rw[Zd (Yh q hn)];exact q) fun c xs q=>by rw[Zd (Yh q hn)];exact q
end
variable{f:A2->A2->Sem A2}{g:Int->Int->Int}
def Rd(H:Hp)(a:A4)(u:HO):Prop:=H a=some u\/∃ o,H a=some (.frz o u)
theorem Rd.of{a:A4}{u:HO}(h:H a=some u):Rd H a u:=.inl h
theorem Rd.ok{a:A4}{u:HO}(r:Rd H a u)(x:Ee P w H h):V2 P w H h a u:=by
 rcases r with r | ⟨o,r⟩
 ·exact x a u r
 ·obtain⟨_,q⟩:=x a _ r
  exact q
def SR:C2 HO->Prop
 | some (.lst _)=>True
 | some (.dK _)=>True
 | some (.dT _)=>True
 | some (.set _ _)=>True
 | some (.ins _ _ _)=>True
 | some (.ext _)=>True
 | _=>False
section
variable{x e:A4}{o':HO}
theorem Ee.write(ok:Ee P w H h)(mu:SR (H x))(he:e=x\/H e=some (.own x))(k:∀ b u,b≠e->h.get? b=some u->h'.get? b=some u)(a:∃ u,h'.get? e=some u)
  (new:V2 P w (W7 H x o') h' x o'):Ee P w (W7 H x o') h':=fun b u q=>by
 have f:∀ c y,H c=some (.own y)->c≠x:=fun c y r z=>by subst z;rw[r] at mu;exact mu
 have g:∀ c xs,H c=some (.tup xs)->c≠x:=fun c xs r z=>by subst z;rw[r] at mu;exact mu
 by_cases U:b=x
 ·subst U;rw[Zk] at q;cases q;exact new
 ·rw[Zd U] at q
  by_cases d:b=e
  ·have W:H b=some (.own x):=by
    rcases he with z | z
    ·exact absurd (d.trans z) U
    ·rw[d];exact z
   rw[q] at W;cases W;obtain⟨v,hv⟩:=a;exact⟨v,by rw[d];exact hv⟩
  ·refine(ok b u q).stay (fun c v O r=>k c v ?_ r) (fun c r=>by rw[Zd (f c b r)];exact r) fun c xs r=>by rw[Zd (g c xs r)];exact r
   rcases O with rfl | O
   ·exact d
   ·rintro rfl
    rcases he with z | z
    ·exact f c b O z
    ·rw[O] at z;cases z;exact U rfl
end
structure Un (fs ex:List Addr) (H H':Hp) (h h':Heap):Prop where
 keep:∀ b o,h.get? b=some o->H b=none->b∉fs->b∉ex->h'.get? b=some o
 slot:∀ b o,h.get? b=some o->H b=none->b∈fs->b∉ex->∃ sl,h'.get? b=some { o with slots:=sl }
 free:∀ b o,h.get? b=some o->H b=none->b∉ex->H' b=none
 there:∀ b o,h.get? b=some o->b∉ex->∃ o',h'.get? b=some o'
 tups:∀ b xs,H b=some (.tup xs)->H' b=some (.tup xs)
 frzs:∀ b o u,H b=some (.frz o u)->H' b=some (.frz o u)
 tbls:∀ b ps,H b=some (.tbl ps)->∃ ak,H' b=some (.tbl (ps++ak))
section
variable{fs aM aW:C3 A4}{H1 H2:Hp}{h1 h2:Gf}{a x e:A4}{o:HO}
theorem Un.any(u:Un fs ex H H1 h h1){b:A4}{ob:Obj}(q:h.get? b=some ob)(n:H b=none)(hx:b∉ex):∃ sl,h1.get? b=some { ob with slots:=sl }:=by
 by_cases U:b∈fs
 ·exact u.slot b ob q n U hx
 ·exact⟨ob.slots,u.keep b ob q n U hx⟩
theorem Un.kept(k:∀ b u,h.get? b=some u->h'.get? b=some u):Un fs ex H H h h' :=
 ⟨fun b ob q _ _ _=>k b ob q,fun b ob q _ _ _=>⟨ob.slots,k b ob q⟩,fun _ _ _ n _=>n,fun b ob q _=>⟨ob,k b ob q⟩,fun _ _ q=>q,fun _ _ _ q=>q,fun _ ps q=>⟨#[],by rw[q];simp⟩⟩
theorem Un.refl:Un fs ex H H h h:=Un.kept fun _ _ q=>q
theorem Un.laid(k:∀ b u,h.get? b=some u->h'.get? b=some u)(hp:h.objs.size<=a)(hn:H a=none):Un fs ex H (W7 H a o) h h' where
 keep:=fun b u q _ _ _=>k b u q
 slot:=fun b u q _ _ _=>⟨u.slots,k b u q⟩
 free:=fun b u q n _=>by rw[Zd (BU (AU (AR q) hp))];exact n
 there:=fun b u q _=>⟨u,k b u q⟩
 tups:=fun b xs q=>by rw[Zd (Yh q hn)];exact q
 frzs:=fun b u xs q=>by rw[Zd (Yh q hn)];exact q
 tbls:=fun b ps q=>⟨#[],by rw[Zd (Yh q hn),q];simp⟩
theorem Un.write(mu:SR (H x))(he:e=x\/H e=some (.own x))(k:∀ b u,b≠e->h.get? b=some u->h'.get? b=some u)(a:∃ u,h'.get? e=some u):Un fs ex H (W7 H x o) h h':=by
 have hx:∀ b,H b=none->b≠x:=fun b n z=>by subst z;rw[n] at mu;exact mu
 have U:∀ b,H b=none->b≠e:=fun b n z=>by
  subst z;rcases he with r | r
  ·exact hx b n r
  ·rw[n] at r;cases r
 have hm:∀ b u,H b=some u->¬ SR (some u)->b≠x:=fun b u q nm z=>by subst z;rw[q] at mu;exact nm mu
 refine⟨fun b u q n _ _=>k b u (U b n) q,fun b u q n _ _=>⟨u.slots,k b u (U b n) q⟩,fun b u q n _=>by rw[Zd (hx b n)];exact n,fun b u q _=>?_,
  fun b xs q=>by rw[Zd (hm b _ q fun z=>z)];exact q,fun b u xs q=>by rw[Zd (hm b _ q fun z=>z)];exact q,fun b ps q=>⟨#[],by rw[Zd (hm b _ q fun z=>z),q];simp⟩⟩
 by_cases d:b=e
 ·subst d;exact a
 ·exact⟨u,k b u d q⟩
end
variable{xs:C3 V}
def TL(h:Gf)(H:Hp):C3 A4:=(List.range h.objs.size).filter fun a=>(H a).isSome
def By(h:Gf)(H:Hp):Gf:=PySem.W.hideAll h (TL h H)
theorem gJ(h:Gf)(H:Hp):(By h H).objs.size=h.objs.size:=PySem.W.hideAll_size _ _
theorem eL{b:A4}{o:Obj}(e:h.get? b=some o)(n:H b=none):(By h H).get? b=some o :=
 PySem.W.hideAll_get _ e fun hm=>by
  have q:(H b).isSome=true:=(BP.mp hm).2;rw[n] at q;simp at q
theorem ey{b:A4}{o:Obj}(e:(By h H).get? b=some o):h.get? b=some o/\H b=none:=by
 have e':h.get? b=some o:=PySem.W.of_hideAll (TL h H) e;refine⟨e',?_⟩;cases q:H b with
 | none=>rfl
 | some x =>
  have hm:b∈TL h H:=BP.mpr ⟨CF.mpr (AR e'),by simp[q]⟩;have z:(By h H).get? b=none:=PySem.W.hideAll_none (TL h H) hm;rw[z] at e;cases e
structure Mod (K:JT) (mg:KB) (base:Heap):Prop where
 kin:K.In base
 glob:base.Ns mainGlobals mg
 blt:∃ t,base.Ns builtinsNs t/\∀ x:Str,x≠"__name__" -> t x=bootBuiltins x
 nolimit:base.NoLimit
structure Cx where
 prog:Program
 w:World
 K:JT
 mg:Str->Option Value
 base:Heap
 A:Around
 N:List Str
 s₀:Shared
 H₀:Hp
 env:Env
 outer:List Env
 stack:List Env
 ex:List Addr
 fn:Str->Bool
 calm:Bool
 pn:List (Addr×Obj)
 xe:Value->Shared->Prop
 pl:Bool:=false
def He(l:C3 IA):C3 A4:=l.filterMap (·.frame)
abbrev Cx.fs(X:Cx):C3 A4:=He X.outer
def LU(sc:H3)(x:Str):Prop:=sc.names.lookup x=some .local\/sc.names.lookup x=some .cell\/sc.names.lookup x=some .free
def LC(sc:H3)(x:Str):Prop:=sc.names.lookup x=some .local\/sc.names.lookup x=some .cell
def gr(env:IA)(h:Gf)(m:KB)(x:Str)(u:A2):Prop :=
 (env.kindOf x=some .local/\m x=some u)\/((env.kindOf x=some .cell\/env.kindOf x=some .free)/\∃ c,env.cells.lookup x=some c/\h.IsCell c (some u))
structure Cx.Ok (X:Cx):Prop where
 mod:Mod X.K X.mg X.base
 kind:X.env.scope.kind=.function
 glob:X.env.globals=mainGlobals
 blt:X.env.builtins=builtinsNs
 above:X.s₀.heap.objs.size<=X.env.locals
 inj:∀ x y c,X.env.cells.lookup x=some c->X.env.cells.lookup y=some c->x=y
 has:∀ x,(X.env.kindOf x=some .cell\/X.env.kindOf x=some .free)->∃ c,X.env.cells.lookup x=some c
 cab:∀ x c,X.fn x=true->X.env.cells.lookup x=some c->X.s₀.heap.objs.size<=c
 hd:X.calm=true->X.A.handled=none
 frames:X.A.frames=some X.stack
 stk:X.stack=X.outer\/(X.stack=X.env::X.outer/\X.env.frame=some X.env.locals)
 exf:∀ b∈X.ex,b≠X.env.locals/\∀ x c,X.env.cells.lookup x=some c->c≠b
 bs:∀ b o,X.base.get? b=some o->X.s₀.heap.get? b=some o/\X.H₀ b=none
 bsz:X.base.objs.size<=X.s₀.heap.objs.size
 noex:∀ b o,X.base.get? b=some o->b∉X.ex
 exfs:∀ b∈X.ex,b∉X.fs
 funs:X.s₀.heap.FunFrames X.base X.outer
 frf:∀ b∈X.fs,X.H₀ b=none
variable{X:Cx}{fs:C3 (Str×V)}
structure C' (X:Cx) (aa:J1) (σ:List (Option V)) (H:Hp) (s:Shared):Prop where
 ok:X.Ok
 os:s.os=X.s₀.os
 bare:AllBare s.gens
 base:Un X.fs X.ex X.H₀ H X.s₀.heap s.heap
 loc:∃ m,s.heap.Ns X.env.locals m/\∀ (i:Nat) (x:Str) (v:V),X.N[i]?=some x->σ[i]?=some (some v)->LU X.env.scope x->∃ u,W2 v u/\gr X.env s.heap m x u
 cell:∀ x c,X.env.cells.lookup x=some c->∃ v,s.heap.IsCell c v
 free:H X.env.locals=none
 freeC:∀ x c,X.env.cells.lookup x=some c->H c=none
 pin:∀ p∈X.pn++aa,s.heap.get? p.1=some p.2/\H p.1=none/\p.1≠X.env.locals/\p.1∉X.fs/\∀ v,p.2.data≠.cell v
 hok:Ee X.prog X.w H s.heap
 len:σ.length=X.N.length
section
variable{σ:C3 (C2 V)}
theorem Cx.Ok.nofr(ok:X.Ok){b:A4}{o:Obj}(e:X.base.get? b=some o):b∉X.fs:=fun U=>by
 have:=(ok.funs.mem U).1;rw[e] at this;cases this
theorem C'.bs(I:C' X aa σ H s):∀ b o,X.base.get? b=some o->s.heap.get? b=some o/\H b=none:=fun b o e =>
 ⟨I.base.keep b o (I.ok.bs b o e).1 (I.ok.bs b o e).2 (I.ok.nofr e) (I.ok.noex b o e),I.base.free b o (I.ok.bs b o e).1 (I.ok.bs b o e).2 (I.ok.noex b o e)⟩
theorem C'.bk(I:C' X aa σ H s):∀ b o,X.base.get? b=some o->s.heap.get? b=some o:=fun b o e=>(I.bs b o e).1
theorem C'.mod(I:C' X aa σ H s):Mod X.K X.mg X.base:=I.ok.mod
theorem C'.kIn(I:C' X aa σ H s):X.K.In s.heap:=I.ok.mod.kin.keeps I.bk
theorem C'.lt(I:C' X aa σ H s):X.env.locals<s.heap.objs.size:=let ⟨_,hn,_⟩:=I.loc;hn.lt
theorem C'.sz(I:C' X aa σ H s):X.s₀.heap.objs.size<=s.heap.objs.size:=AZ I.ok.above (DW I.lt)
theorem C'.nofs(I:C' X aa σ H s){a:A4}(h:s.heap.objs.size<=a):a∉X.fs:=fun U=>by
 obtain⟨_,o,J,_⟩:=I.ok.funs.mem U;exact absurd (AU (AR J) (AZ I.sz h)) (DA _)
theorem C'.cne(I:C' X aa σ H s):∀ x c,X.env.cells.lookup x=some c->c≠X.env.locals:=fun x c e z=>by
 obtain⟨v,o,J,hd⟩:=I.cell x c e;obtain⟨m,⟨o',es,ep,S,ah,_⟩,_⟩:=I.loc;rw[z,S] at J;cases J;rw[ah] at hd;cases hd
theorem C'.funs(I:C' X aa σ H s):s.heap.FunFrames X.base X.outer:=by
 have all:∀ (l:C3 IA),(∀ b∈He l,b∈X.fs)->X.s₀.heap.FunFrames X.base l->s.heap.FunFrames X.base l:=by
  intro l;induction l with
  | nil=>intro _ _;trivial
  | cons env r ih =>
   intro hs hl;obtain⟨Y,⟨L,o,hf,hn,J,hd⟩,Z⟩:=hl;have f:L∈X.fs:=hs L (by unfold He;rw[EE,hf];exact AW);obtain⟨sl,e⟩:=I.base.slot L o J (I.ok.frf L f) f fun z=>I.ok.exfs L z f
   exact⟨Y,⟨L,_,hf,hn,e,hd⟩,ih (fun b U=>hs b (by unfold He;rw[EE,hf];exact AX _ U)) Z⟩
 exact all X.outer (fun _ U=>U) I.ok.funs
theorem C'.stack(I:C' X aa σ H s):s.heap.FunFrames X.base X.stack:=by
 rcases I.ok.stk with e | ⟨e,hf⟩
 ·rw[e];exact I.funs
 ·rw[e]
  obtain⟨m,hn,_⟩:=I.loc;refine .cons (by rw[I.ok.kind];decide) hf hn ?_ I.funs;exact HL (AZ I.ok.bsz I.ok.above)
theorem C'.stkSub(I:C' X aa σ H s):∀ b∈He X.stack,b∈X.env.locals::X.fs:=fun b U=>by
 rcases I.ok.stk with e | ⟨e,hf⟩
 ·rw[e] at U;exact AX _ U
 ·rw[e] at U
  unfold He at U;rw[EE,hf] at U;exact U
theorem C'.stkFree(I:C' X aa σ H s):∀ b∈He X.stack,H b=none:=fun b U=>by
 rcases BI.mp (I.stkSub b U) with e | U
 ·rw[e];exact I.free
 ·obtain⟨_,o,J,_⟩:=I.ok.funs.mem U
  exact I.base.free b o J (I.ok.frf b U) fun z=>I.ok.exfs b z U
theorem C'.step{g':Array GenState}{d':Drawn}(I:C' X aa σ H s)
  (Q:∀ b∈ch,(b∈X.ex\/X.s₀.heap.objs.size<=b)/\b≠X.env.locals/\(∀ x c,X.env.cells.lookup x=some c->c≠b)/\∀ p∈X.pn++aa,p.1≠b)
  (keep:∀ b o,b≠X.env.locals->b∉X.fs->b∉ch->s.heap.get? b=some o->H b=none->h'.get? b=some o)
  (slot:∀ b o,b≠X.env.locals->b∈X.fs->b∉ch->s.heap.get? b=some o->H b=none->∃ sl,h'.get? b=some { o with slots:=sl }) (free:∀ b o,b∉ch->s.heap.get? b=some o->H b=none->H' b=none)
  (there:∀ b o,b∉ch->s.heap.get? b=some o->∃ o',h'.get? b=some o')
  (tups:∀ b xs,H b=some (.tup xs)->H' b=some (.tup xs)) (frzs:∀ b o u,H b=some (.frz o u)->H' b=some (.frz o u)) (tbls:∀ b ps,H b=some (.tbl ps)->∃ ak,H' b=some (.tbl (ps++ak)))
  (ns:∀ m,s.heap.Ns X.env.locals m->h'.Ns X.env.locals m) (hok:Ee X.prog X.w H' h') (hg:AllBare g') :
  C' X aa σ H' { s with heap:=h',gens:=g',drawn:=d',toks:=t' }:=by
 have j:∀ b o,X.s₀.heap.get? b=some o->b≠X.env.locals:=fun b o e=>BU (AU (AR e) I.ok.above)
 have h:∀ b o,X.s₀.heap.get? b=some o->b∉X.ex->b∉ch:=fun b o e hx U=>by
  rcases(Q b U).1 with z | z
  ·exact hx z
  ·exact absurd (AU (AR e) z) (DA _)
 have f:∀ x c,X.env.cells.lookup x=some c->∀ v,s.heap.IsCell c v->h'.IsCell c v:=fun x c e v L=>by
  obtain⟨o,J,hd⟩:=L;have a:c∉ch:=fun z=>(Q c z).2.2.1 x c e rfl
  by_cases O:c∈X.fs
  ·obtain⟨sl,q⟩:=slot c o (I.cne x c e) O a J (I.freeC x c e)
   exact⟨_,q,hd⟩
  ·exact⟨o,keep c o (I.cne x c e) O a J (I.freeC x c e),hd⟩
 refine⟨I.ok,I.os,hg,⟨fun b o e n U hx=>?_,fun b o e n U hx=>?_,fun b o e n hx=>?_,fun b o e hx=>?_,fun b xs e=>tups b xs (I.base.tups b xs e),fun b o xs e=>frzs b o xs (I.base.frzs b o xs e),fun b ps e=>?_⟩,?_,fun x c e=>?_,?_,fun x c e=>?_,fun p hp=>?_,hok,I.len⟩
 ·exact keep b o (j b o e) U (h b o e hx) (I.base.keep b o e n U hx) (I.base.free b o e n hx)
 ·obtain⟨sl,e1⟩:=I.base.slot b o e n U hx
  obtain⟨g,e2⟩:=slot b _ (j b o e) U (h b o e hx) e1 (I.base.free b o e n hx);exact⟨g,e2⟩
 ·obtain⟨o',e1⟩:=I.base.there b o e hx
  exact free b o' (h b o e hx) e1 (I.base.free b o e n hx)
 ·obtain⟨o',e1⟩:=I.base.there b o e hx
  exact there b o' (h b o e hx) e1
 ·obtain⟨m1,e1⟩:=I.base.tbls b ps e
  obtain⟨m2,e2⟩:=tbls b _ e1;exact⟨m1++m2,by rw[e2,Array.append_assoc]⟩
 ·obtain⟨m,hn,hl⟩:=I.loc
  refine⟨m,ns m hn,fun i x v e1 e2 e3=>?_⟩;obtain⟨u,r,l⟩:=hl i x v e1 e2 e3;refine⟨u,r,?_⟩;rcases l with l | ⟨k,c,e,z⟩
  ·exact .inl l
  ·exact .inr ⟨k,c,e,f x c e _ z⟩
 ·obtain⟨v,z⟩:=I.cell x c e
  exact⟨v,f x c e v z⟩
 ·obtain⟨m,⟨o,_,_,J,_⟩,_⟩:=I.loc
  exact free _ o (fun z=>(Q _ z).2.1 rfl) J I.free
 ·obtain⟨v,o,J,hd⟩:=I.cell x c e
  exact free c o (fun z=>(Q c z).2.2.1 x c e rfl) J (I.freeC x c e)
 ·obtain⟨e,n,ne,P,d⟩:=I.pin p hp
  have a:p.1∉ch:=fun z=>(Q p.1 z).2.2.2 p hp rfl
  exact⟨keep p.1 p.2 ne P a e n,free p.1 p.2 a e n,ne,P,d⟩
theorem C'.un(I:C' X aa σ H s)(u:Un X.fs [] H H' s.heap h')(hok:Ee X.prog X.w H' h'):C' X aa σ H' { s with heap:=h',toks:=t' }:=by
 obtain⟨m,⟨o,es,ep,J,r⟩,_⟩:=id I.loc;obtain⟨sl,f⟩:=u.any J I.free (by simp);exact I.step (g':=s.gens) (d':=s.drawn) (ch:=[]) (fun _ z=>nomatch z) (fun b o _ U _ e n=>u.keep b o e n U (by simp)) (fun b o _ U _ e n=>u.slot b o e n U (by simp)) (fun b o _ e n=>u.free b o e n (by simp)) (fun b o _ e=>u.there b o e (by simp)) u.tups u.frzs u.tbls (fun m' hm=>by
  obtain⟨o',a,d,S,r'⟩:=hm;rw[J] at S;cases S;exact⟨_,a,d,f,r'⟩) hok I.bare
theorem C'.call{g':Array GenState}{d':Drawn}(I:C' X aa σ H s)(u:Un (He X.stack) ch H H' s.heap h')(hok:Ee X.prog X.w H' h')(hg:AllBare g')
  (Q:∀ b∈ch,(b∈X.ex\/X.s₀.heap.objs.size<=b)/\b≠X.env.locals/\(∀ x c,X.env.cells.lookup x=some c->c≠b)/\∀ p∈X.pn++aa,p.1≠b) :
  C' X aa σ H' { s with heap:=h',gens:=g',drawn:=d',toks:=t' }:=by
 obtain⟨m,⟨o,es,ep,J,r⟩,_⟩:=id I.loc;obtain⟨sl,f⟩:=u.any J I.free fun z=>(Q _ z).2.1 rfl
 exact I.step (ch:=ch) Q (fun b o f U O e n=>u.keep b o e n (fun z=>(BI.mp (I.stkSub b z)).elim f U) O) (fun b o _ _ O e n=>u.any e n O) (fun b o O e n=>u.free b o e n O) (fun b o O e=>u.there b o e O) u.tups u.frzs u.tbls (fun m' hm=>by
  obtain⟨o',a,d,S,r'⟩:=hm;rw[J] at S;cases S;exact⟨_,a,d,f,r'⟩) hok hg
theorem C'.turned(I:C' X aa σ H s)(k:∀ b o,b≠it->s.heap.get? b=some o->h'.get? b=some o)(hn:H it=none)(f:it≠X.env.locals)
  (h1:it∈X.ex\/X.s₀.heap.objs.size<=it) (h2:∀ x c,X.env.cells.lookup x=some c->c≠it) (h3:∀ p∈X.pn++aa,p.1≠it):C' X aa σ H { s with heap:=h',toks:=t' }:=by
 have a:∀ b u,H b=some u->b≠it:=fun b u e z=>by rw[z,hn] at e;cases e
 refine I.step (g':=s.gens) (d':=s.drawn) (ch:=[it]) (fun b U=>?_) (fun b o _ _ O e _=>k b o (fun z=>O (by simp[z])) e) (fun b o _ _ O e _=>⟨o.slots,k b o (fun z=>O (by simp[z])) e⟩) (fun _ _ _ _ n=>n)
  (fun b o O e=>⟨o,k b o (fun z=>O (by simp[z])) e⟩) (fun _ _ e=>e) (fun _ _ _ e=>e) (fun b ps e=>⟨#[],by rw[e];simp⟩) (fun m hm=>?_) (fun b u e=>?_) I.bare
 ·have e:b=it:=by simpa using U
  subst e;exact⟨h1,f,h2,h3⟩
 ·obtain⟨o,es,ep,J,r⟩:=hm
  exact⟨o,es,ep,k _ o (AO f) J,r⟩
 ·refine(I.hok b u e).stay (fun c v O q=>k c v ?_ q) (fun _ q=>q) fun _ _ q=>q
  rcases O with z | z
  ·rw[z];exact a b u e
  ·exact a c _ z
theorem C'.tok(I:C' X aa σ H s)(t:Nat):C' X aa σ H { s with toks:=t }:=I.un (h':=s.heap) (t':=t) Un.refl I.hok
theorem C'.kept(I:C' X aa σ H s)(k:∀ b u,s.heap.get? b=some u->h'.get? b=some u):C' X aa σ H { s with heap:=h',toks:=t' }:=I.un (Un.kept k) (I.hok.kept k)
theorem C'.laid{a:A4}{o:HO}(I:C' X aa σ H s)(k:∀ b u,s.heap.get? b=some u->h'.get? b=some u)(hp:s.heap.objs.size<=a)(new:V2 X.prog X.w (W7 H a o) h' a o) :
 C' X aa σ (W7 H a o) { s with heap:=h',toks:=t' }:=I.un (Un.laid k hp (I.hok.fresh hp)) (I.hok.laid k hp new)
theorem C'.write{x e:A4}{o:HO}(I:C' X aa σ H s)(mu:SR (H x))(he:e=x\/H e=some (.own x))(k:∀ b u,b≠e->s.heap.get? b=some u->h'.get? b=some u)(a:∃ u,h'.get? e=some u)
 (new:V2 X.prog X.w (W7 H x o) h' x o):C' X aa σ (W7 H x o) { s with heap:=h',toks:=t' }:=I.un (Un.write mu he k a) (I.hok.write mu he k a new)
theorem C'.weak{σ':C3 (C2 V)}(I:C' X aa σ H s)(hl:σ'.length=σ.length)(w:∀ (i:Nat) v,σ'[i]?=some (some v)->σ[i]?=some (some v)):C' X aa σ' H s :=
 ⟨I.ok,I.os,I.bare,I.base,let ⟨m,hn,a⟩:=I.loc;⟨m,hn,fun i x v e1 e2 e3=>a i x v e1 (w i v e2) e3⟩,I.cell,I.free,I.freeC,I.pin,I.hok,hl.trans I.len⟩
theorem C'.pins_of{ay:J1}(I:C' X aa σ H s)(h:∀ p∈ay,s.heap.get? p.1=some p.2/\H p.1=none/\p.1≠X.env.locals/\p.1∉X.fs/\∀ v,p.2.data≠.cell v):C' X ay σ H s :=
 ⟨I.ok,I.os,I.bare,I.base,I.loc,I.cell,I.free,I.freeC,fun p hp=>(BQ.mp hp).elim (fun z=>I.pin p (BS _ z)) (h p),I.hok,I.len⟩
theorem Xe(hN:N.Nodup){x:Str}(a:N[i]?=some x)(b:N[j]?=some x):i=j:=by
 obtain⟨h1,e1⟩:=AB.mp a;obtain⟨h2,e2⟩:=AB.mp b;exact(List.getElem_inj hN).mp (e1.trans e2.symm)
theorem Ad{M:Model}{x:Str}(I:C' X aa σ H s)(hN:X.N.Nodup)(hi:X.N[i]?=some x)(hx:LC X.env.scope x)(r:W2 v u)
   (h:∀ s',C' X aa (σ.set i (some v)) H s'->(∃ a,SameBut a s.heap s'.heap/\(a=X.env.locals\/X.env.cells.lookup x=some a))->Q () s') (hf:X.fn x=true\/X.env.scope.names.lookup x=some .local:=by first | exact .inl rfl | exact .inr rfl | assumption):wpAny M A (storeName X.env x u) Q E s:=by
 obtain⟨m,hn,hl⟩:=id I.loc;have B:(X.env.scope.kind==.class||(X.env.scope.kind==.module&&X.env.locals != X.env.globals))=false:=by rw[I.ok.kind];rfl
 have hiσ:i<σ.length:=by rw[I.len];exact(AB.mp hi).1
 have cne:=I.cne;have g:∀ {a:A4} {h':Gf},(∃ o,s.heap.get? a=some o/\H a=none)->SameBut a s.heap h'->Ee X.prog X.w H h':=fun {a h'} ha hs b ob e=>by
   obtain⟨_,_,L⟩:=ha;refine(I.hok b ob e).stay (fun c l O q=>(hs.2 c ?_).trans q) (fun _ q=>q) fun _ _ q=>q
   rintro rfl;rcases O with rfl | O
   · rw[L] at e;cases e
   · rw[L] at O;cases O
 rcases hx with Y | Y
 · refine wpAny_storeName_local Y hn (fun h' F hs=>?_) B
   obtain⟨S,_,_,J,_⟩:=id hn;refine h _ ⟨I.ok,I.os,I.bare,⟨fun b o e n U hx=>?_,fun b o e n U hx=>?_,I.base.free,fun b o e hx=>?_,I.base.tups,I.base.frzs,I.base.tbls⟩,⟨_,F,fun j y t e1 e2 e3=>?_⟩,fun y c e=>?_,I.free,I.freeC,fun p hp=>?_,g ⟨S,J,I.free⟩ hs,by simpa using I.len⟩ ⟨_,hs,.inl rfl⟩
   · exact(hs.2 b (BU (AU (AR e) I.ok.above))).trans (I.base.keep b o e n U hx)
   · obtain⟨sl,e1⟩:=I.base.slot b o e n U hx
     exact⟨sl,(hs.2 b (BU (AU (AR e) I.ok.above))).trans e1⟩
   · obtain⟨o',e1⟩:=I.base.there b o e hx
     exact⟨o',(hs.2 b (BU (AU (AR e) I.ok.above))).trans e1⟩
   · by_cases hj:j=i
     · subst hj
       rw[hi] at e1;cases e1;rw[List.getElem?_set_self hiσ] at e2;cases e2;exact⟨u,r,.inl ⟨Y,by simp⟩⟩
     · rw[FU (AO hj)] at e2
       obtain⟨C,r',q⟩:=hl j y t e1 e2 e3;refine⟨C,r',?_⟩;rcases q with⟨k,e⟩ | ⟨k,c,e,z⟩
       · refine .inl ⟨k,?_⟩
         have:y≠x:=fun e=>hj (Xe hN e1 (e▸hi))
         simp[this,e]
       · exact .inr ⟨k,c,e,z.sameBut hs (cne y c e)⟩
   · obtain⟨l,z⟩:=I.cell y c e
     exact⟨l,z.sameBut hs (cne y c e)⟩
   · obtain⟨e,n,ne,P,d⟩:=I.pin p hp
     exact⟨(hs.2 p.1 ne).trans e,n,ne,P,d⟩
 · have am:X.fn x=true:=by
     rcases hf with z | z
     · exact z
     · rw[z] at Y;cases Y
   obtain⟨c,O⟩:=I.ok.has x (.inl Y);obtain⟨l,z⟩:=I.cell x c O;refine wpAny_storeName_cell I.ok.kind Y O z (fun h' f hs=>?_);obtain⟨oc,ag,R⟩:=id z;refine h { s with heap:=h' } ⟨I.ok,I.os,I.bare,⟨fun b o e n U hx=>?_,fun b o e n U hx=>?_,I.base.free,fun b o e hx=>?_,I.base.tups,I.base.frzs,I.base.tbls⟩,⟨m,hn.sameBut hs (AO (cne x c O)),fun j y t e1 e2 e3=>?_⟩,fun y c' e=>?_,I.free,I.freeC,fun p hp=>?_,g ⟨oc,ag,I.freeC x c O⟩ hs,by simpa using I.len⟩ ⟨c,hs,.inr O⟩
   · exact(hs.2 b (BU (AU (AR e) (I.ok.cab x c am O)))).trans (I.base.keep b o e n U hx)
   · obtain⟨sl,e1⟩:=I.base.slot b o e n U hx
     exact⟨sl,(hs.2 b (BU (AU (AR e) (I.ok.cab x c am O)))).trans e1⟩
   · obtain⟨o',e1⟩:=I.base.there b o e hx
     exact⟨o',(hs.2 b (BU (AU (AR e) (I.ok.cab x c am O)))).trans e1⟩
   · by_cases hj:j=i
     · subst hj
       rw[hi] at e1;cases e1;rw[List.getElem?_set_self hiσ] at e2;cases e2;exact⟨u,r,.inr ⟨.inl Y,c,O,f⟩⟩
     · rw[FU (AO hj)] at e2
       obtain⟨C,r',q⟩:=hl j y t e1 e2 e3;refine⟨C,r',?_⟩;rcases q with q | ⟨k,c',e,G⟩
       · exact .inl q
       · refine .inr ⟨k,c',e,G.sameBut hs ?_⟩
         rintro rfl;exact hj (Xe hN e1 (I.ok.inj _ _ _ e O▸hi))
   · by_cases D:c'=c
     · subst D;exact⟨_,f⟩
     · obtain⟨w2,z2⟩:=I.cell y c' e
       exact⟨w2,z2.sameBut hs D⟩
   · obtain⟨e,n,ne,P,d⟩:=I.pin p hp
     refine⟨(hs.2 p.1 ?_).trans e,n,ne,P,d⟩;intro q;rw[q,ag] at e;have W:oc=p.2:=BD e;exact d l (by rw[← W];exact R)
theorem Kr{M:Model}{x:Str}(I:C' X aa σ H s)(hN:X.N.Nodup)(hi:X.N[i]?=some x)(hx:LC X.env.scope x)(r:W2 v u)
  (h:∀ s',C' X aa (σ.set i (some v)) H s'->Q () s') (hf:X.fn x=true\/X.env.scope.names.lookup x=some .local:=by first | exact .inl rfl | exact .inr rfl | assumption):wpAny M A (storeName X.env x u) Q E s :=
 Ad I hN hi hx r (fun s' I' _=>h s' I') hf
theorem C'.call'(I:C' X aa σ H s)(J:s'.os=s.os)(u:Un (He X.stack) ch H H' s.heap s'.heap)(hok:Ee X.prog X.w H' s'.heap)(hg:AllBare s'.gens)
  (Q:∀ b∈ch,(b∈X.ex\/X.s₀.heap.objs.size<=b)/\b≠X.env.locals/\(∀ x c,X.env.cells.lookup x=some c->c≠b)/\∀ p∈X.pn++aa,p.1≠b):C' X aa σ H' s':=by
 obtain⟨h',g',d',t',o'⟩:=s';have e:o'=s.os:=J;subst e;exact I.call (g':=g') (t':=t') (d':=d') u hok hg Q
end
variable{vs:C3 V}{m:Str}
abbrev XK:=A2->C2 A4->Hp->Prop
abbrev St:=C3 (C2 V)
abbrev VK:=V->Hp->Prop
abbrev TE:=St->Hp->VK->Prop
abbrev TT:=St->Hp->(Bool->Hp->Prop)->Prop
abbrev TA:=St->Hp->(C3 V->Hp->Prop)->Prop
structure KG where
 nx:St->Hp->Prop
 rt:VK
 bk:St->Hp->Prop:=fun _ _=>False
 ct:St->Hp->Prop:=fun _ _=>False
abbrev TS:=KG->St->Hp->Prop
def EP(X:Cx)(aa:J1)(σ:St)(Q:VK)(u:A2)(s':C0):Prop:=∃ v H',C' X aa σ H' s'/\W2 v u/\Q v H'
def TP(X:Cx)(aa:J1)(σ:St)(Q:Bool->Hp->Prop)(b:Bool)(s':C0):Prop:=∃ H',C' X aa σ H' s'/\Q b H'
def AP(X:Cx)(aa:J1)(σ:St)(Q:C3 V->Hp->Prop)(us:C3 A2)(s':C0):Prop:=∃ vs H',C' X aa σ H' s'/\Y5 vs us/\Q vs H'
def SP(X:Cx)(aa:J1)(D:KG)(f:Flow)(s':C0):Prop :=
 match f with
 | .next=>∃ σ' H',C' X aa σ' H' s'/\D.nx σ' H'
 | .brk=>∃ σ' H',C' X aa σ' H' s'/\D.bk σ' H'
 | .cont=>∃ σ' H',C' X aa σ' H' s'/\D.ct σ' H'
 | .ret u=>∃ v σ' H',C' X aa σ' H' s'/\W2 v u/\D.rt v H'
def PE(X:Cx)(e:C4)(t:TE):Prop :=
 ∀ (aa:J1) (s:C0) (σ:St) (H:Hp) (Q:VK),C' X aa σ H s->t σ H Q->wpAny (model X.prog X.w) X.A (eval e X.env) (EP X aa σ Q) X.xe s
def PT(X:Cx)(e:C4)(t:TT):Prop :=
 ∀ (aa:J1) (s:C0) (σ:St) (H:Hp) (Q:Bool->Hp->Prop),C' X aa σ H s->t σ H Q->wpAny (model X.prog X.w) X.A (isTrue e X.env (eval e X.env)) (TP X aa σ Q) X.xe s
def PW(X:Cx)(e:C4)(t:TT):Prop :=
 ∀ (c:Sem A2) (aa:J1) (s:C0) (σ:St) (H:Hp) (Q:Bool->Hp->Prop),C' X aa σ H s->t σ H Q->wpAny (model X.prog X.w) X.A (isTrue e X.env c) (TP X aa σ Q) X.xe s
theorem PW.pt{t:TT}(h:PW X e t):PT X e t:=h _
def PA(X:Cx)(es:C3 C4)(t:TA):Prop :=
 ∀ (pos:Pos) (aa:J1) (s:C0) (σ:St) (H:Hp) (Q:C3 V->Hp->Prop),C' X aa σ H s->t σ H Q->wpAny (model X.prog X.w) X.A (spliced (backTo pos (starEach es X.env))) (AP X aa σ Q) X.xe s
def PS(X:Cx)(st:C5)(t:TS):Prop :=
 ∀ (aa:J1) (s:C0) (σ:St) (H:Hp) (D:KG),C' X aa σ H s->t D σ H->wpAny (model X.prog X.w) X.A (exec st X.env) (SP X aa D) X.xe s
def Gr(X:Cx)(st:C3 C5)(t:TS):Prop :=
 ∀ (aa:J1) (s:C0) (σ:St) (H:Hp) (D:KG),C' X aa σ H s->t D σ H->wpAny (model X.prog X.w) X.A (execs st X.env) (SP X aa D) X.xe s
theorem Vk{t:Sem α}{Q Y:α->C0->Prop}{M:Model}(h:wpAny M A t Q E s)(j:∀ a s,Q a s->Y a s):wpAny M A t Y E s:=BM h j fun _ _ x=>x
section
def Sx(i:Nat):TE:=fun σ H Q=>∃ v,σ[i]?=some (some v)/\Q v H
def tC(v:V):TE:=fun _ H Q=>Q v H
theorem Rx{x:Str}(hN:X.N[i]?=some x)(hv:LU X.env.scope x)(hd:(x==("__debug__" : Str))=false:=by decide)(M:(x==("__classdict__" : Str))=false:=by decide):PE X (.Name x pos) (Sx i):=by
 intro aa s σ H Q I h;obtain⟨v,e,h⟩:=h;obtain⟨m,hn,hl⟩:=I.loc;obtain⟨u,r,l⟩:=hl i x v hN e hv;have B:EP X aa σ Q u s:=⟨v,H,I,r,h⟩;rcases l with⟨Y,hm⟩ | ⟨Y,c,O,a⟩
 ·exact wpAny_Name (wpAny_loadName_local I.ok.kind Y hn hm B) hd
 ·rcases Y with Y | Y
  ·exact wpAny_Name (wpAny_loadName_cell I.ok.kind Y O a B) hd
  ·exact wpAny_Name (wpAny_loadName_free I.ok.kind Y O a B M) hd
theorem gS{i j pos}:PE X (.Constant (.int i) j pos) (tC (.int i)):=fun _ _ _ H _ I h=>wpAny_Constant_int ⟨.int i,H,I.tok _,⟨_,rfl⟩,h⟩
theorem jF{b j pos}:PE X (.Constant (.bool b) j pos) (tC (.bl b)):=fun _ _ _ H _ I h=>Constant_bool ⟨.bl b,H,I,rfl,h⟩
theorem nu{j pos}:PE X (.Constant .none j pos) (tC .non):=fun _ _ _ H _ I h=>Constant_none ⟨.non,H,I,rfl,h⟩
theorem WJ{x j pos}:PE X (.Constant (.str x) j pos) (tC (.str x)):=fun _ _ _ H _ I h=>Calls.Constant_str ⟨.str x,H,I.tok _,⟨_,rfl⟩,h⟩
def Gl(X:Cx)(x:Str):Prop:=X.env.kindOf x=some .globalImplicit
theorem Uj{σ:St}{x:Str}{Q:KD}(I:C' X aa σ H s)(hg:Gl X x)(hm:X.mg x=some u)(h:Q u s)
  (hd:(x==("__debug__" : Str))=false:=by decide):wpAny (model X.prog X.w) X.A (eval (.Name x pos) X.env) Q E s :=
 Calls.Name_function_global I.ok.kind hg (Calls.loadGlobal_global (by rw[I.ok.glob];exact I.mod.glob.keeps I.bk) hm h) hd
theorem Dw{σ:St}{x:Str}{Q:KD}(I:C' X aa σ H s)(hg:Gl X x)(hm:X.mg x=none)(hv:bootBuiltins x=some u)(h:Q u s)
  (hn:x≠"__name__" := by decide) (hd:(x==("__debug__" : Str))=false:=by decide):wpAny (model X.prog X.w) X.A (eval (.Name x pos) X.env) Q E s:=by
 obtain⟨t,h1,h2⟩:=I.mod.blt;exact Calls.Name_function_global I.ok.kind hg (Calls.loadGlobal_builtin (by rw[I.ok.glob];exact I.mod.glob.keeps I.bk) hm (by rw[I.ok.blt];exact h1.keeps I.bk) ((h2 x hn).trans hv) h) hd
theorem jo{x:Str}(hg:Gl X x)(hm:X.mg x=some u)(r:W2 v u)(hd:(x==("__debug__" : Str))=false:=by decide):PE X (.Name x pos) (tC v) :=
 fun _ _ _ H _ I h=>Uj I hg hm ⟨v,H,I,r,h⟩ hd
theorem mF{x:Str}(hg:Gl X x)(hm:X.mg x=none)(hv:bootBuiltins x=some u)(r:W2 v u)(hn:x≠"__name__" := by decide)(hd:(x==("__debug__" : Str))=false:=by decide):PE X (.Name x pos) (tC v) :=
 fun _ _ _ H _ I h=>Dw I hg hm hv ⟨v,H,I,r,h⟩ hn hd
variable{a b:C4}{ta tb:TE}
def PC(X:Cx)(op:CmpOp)(a b:C4)(t:TE):Prop :=
 ∀ (aa:J1) (s:C0) (σ:St) (H:Hp) (Q:VK),C' X aa σ H s->t σ H Q ->
  wpAny (model X.prog X.w) X.A (eval a X.env) (fun v s₁=>wpAny (model X.prog X.w) X.A (eval b X.env) (fun u s₂=>wpAny (model X.prog X.w) X.A (compareOp op v u) (EP X aa σ Q) X.xe s₂) X.xe s₁) X.xe s
def tB(t:TE):TT:=fun σ H Q=>t σ H fun x H1=>∃ c,x=.bl c/\Q c H1
theorem eT{t:TE}(h:PC X op a b t)(h1:behindInMarks op b=false:=by first | exact nobehind _ (by decide) (by decide) | rfl):PT X (.Compare a [op] [b] pos) (tB t):=by
 intro aa s σ H Q I hw;refine wpAny_isTrue_Compare1 (Vk (h aa s σ H _ I hw) fun v s1 h1=>Vk h1 fun u s2 h2=>Vk h2 fun c C ⟨x,H1,I1,r1,q1⟩=>?_) h1;obtain⟨d,rfl,q⟩:=q1;cases r1;exact EB ⟨H1,I1,q⟩
variable{tA aJ:TT}
def dk(t u:TT):TT:=fun σ H Q=>t σ H fun c H1=>if c=true then u σ H1 Q else Q false H1
def hQ(t u:TT):TT:=fun σ H Q=>t σ H fun c H1=>if c=true then Q true H1 else u σ H1 Q
def lP(t:TT):TT:=fun σ H Q=>t σ H fun c H1=>Q (!c) H1
theorem dq(ha:PT X a tA):PW X (.BoolOp .And [a] pos) tA:=by
 intro d aa s σ H Q I h;refine isTrue_and (Vk (ha aa s σ H Q I h) fun c s1 e=>?_);cases c with
 | true=>exact isTrue_and_nil e
 | false=>exact e
theorem gf(ha:PT X a tA):PW X (.BoolOp .Or [a] pos) tA:=by
 intro d aa s σ H Q I h;refine isTrue_or (Vk (ha aa s σ H Q I h) fun c s1 e=>?_);cases c with
 | false=>exact isTrue_or_nil e
 | true=>exact e
theorem lM(ha:PT X a tA)(U:PW X (.BoolOp .And (b::aj) pos) aJ):PW X (.BoolOp .And (a::b::aj) pos) (dk tA aJ):=by
 intro d aa s σ H Q I h;refine isTrue_and (Vk (ha aa s σ H _ I h) fun c s1 ⟨H1,I1,q1⟩=>?_);cases c with
 | true=>exact U d aa s1 σ H1 Q I1 q1
 | false=>exact⟨H1,I1,q1⟩
theorem mD(ha:PT X a tA)(U:PW X (.BoolOp .Or (b::aj) pos) aJ):PW X (.BoolOp .Or (a::b::aj) pos) (hQ tA aJ):=by
 intro d aa s σ H Q I h;refine isTrue_or (Vk (ha aa s σ H _ I h) fun c s1 ⟨H1,I1,q1⟩=>?_);cases c with
 | true=>exact⟨H1,I1,q1⟩
 | false=>exact U d aa s1 σ H1 Q I1 q1
theorem ef(ha:PT X a tA):PT X (.UnaryOp .Not a pos) (lP tA):=by
 intro aa s σ H Q I h;exact isTrue_not (ha aa s σ H (fun c H1=>Q (!c) H1) I h)
def iF(ta tb:TE):TE:=fun σ H Q=>ta σ H fun x H1=>∃ c,x=.bl c/\if c=true then tb σ H1 Q else Q (.bl false) H1
def mW(ta tb:TE):TE:=fun σ H Q=>ta σ H fun x H1=>∃ c,x=.bl c/\if c=true then Q (.bl true) H1 else tb σ H1 Q
def m4(ta:TE):TE:=fun σ H Q=>ta σ H fun x H1=>∃ c,x=.bl c/\Q (.bl (!c)) H1
theorem nL{op}{t:TE}(h:PE X a t):PE X (.BoolOp op [a] pos) t:=fun aa s σ H Q I hw=>BoolOp_one (h aa s σ H Q I hw)
theorem ma(ha:PE X a ta)(U:PE X (.BoolOp .And (b::aj) pos) tb):PE X (.BoolOp .And (a::b::aj) pos) (iF ta tb):=by
 intro aa s σ H Q I h;refine BoolOp_and (Vk (ha aa s σ H _ I h) fun v s1 ⟨x,H1,I1,r1,q1⟩=>?_);obtain⟨c,rfl,q1⟩:=q1;cases r1;refine EB ?_;cases c with
 | true=>exact U aa s1 σ H1 Q I1 q1
 | false=>exact⟨.bl false,H1,I1,rfl,q1⟩
theorem lj(ha:PE X a ta)(U:PE X (.BoolOp .Or (b::aj) pos) tb):PE X (.BoolOp .Or (a::b::aj) pos) (mW ta tb):=by
 intro aa s σ H Q I h;refine BoolOp_or (Vk (ha aa s σ H _ I h) fun v s1 ⟨x,H1,I1,r1,q1⟩=>?_);obtain⟨c,rfl,q1⟩:=q1;cases r1;refine EB ?_;cases c with
 | false=>exact U aa s1 σ H1 Q I1 q1
 | true=>exact⟨.bl true,H1,I1,rfl,q1⟩
theorem mK(ha:PE X a ta):PE X (.UnaryOp .Not a pos) (m4 ta):=by
 intro aa s σ H Q I h;refine UnaryOp_ (Vk (ha aa s σ H _ I h) fun v s1 ⟨x,H1,I1,r1,q1⟩=>?_);obtain⟨c,rfl,q1⟩:=q1;cases r1;exact not_of (EB ⟨.bl (!c),H1,I1,rfl,q1⟩)
end
variable{σ:St}{te tl ta:TE}{tc:TT}{tb:TS}{v:A2}
def Hk(K:JT)(H:Hp)(a:A4)(xs:C3 V):Prop :=
 Rd H a (.lst xs) \/
  ∃ (o:Obj) (its:Array A2) (n:Nat),K.lookup a=some o/\o.cls=.type "list" /\ o.dict=none/\o.data=.seq its n/\its.size<=sizeLine/\Y5 xs its.toList
def Hw(K:JT)(H:Hp)(a:A4)(xs:C3 V):Prop :=
 H a=some (.tup xs) \/
  ∃ (o:Obj) (its:Array A2) (n:Nat),K.lookup a=some o/\o.cls=.type "tuple" /\ o.data=.seq its n/\its.size<=sizeLine/\Y5 xs its.toList/\∀ i:Int,V.int i∉xs
def la:A2->C2 V
 | .none=>some .non
 | .bool b=>some (.bl b)
 | .int i _=>some (.int i)
 | .str x _=>some (.str x)
 | .bytes b _=>some (.byt b)
 | .float b _=>some (.flt b)
 | .ref a=>some (.ref a)
 | .type n=>some (.ty n)
 | _=>none
theorem W2.abs{x:V}(r:W2 x u):la u=some x:=by
 cases x with
 | non=>cases r;rfl
 | bl _=>cases r;rfl
 | int _=>obtain⟨t,rfl⟩:=r;rfl
 | str _=>obtain⟨t,rfl⟩:=r;rfl
 | byt _=>obtain⟨t,rfl⟩:=r;rfl
 | flt _=>obtain⟨t,rfl⟩:=r;rfl
 | ref _=>cases r;rfl
 | ty _=>cases r;rfl
theorem W2.inj{x y:V}{u:A2}(r:W2 x u)(q:W2 y u):x=y:=BD (r.abs.symm.trans q.abs)
theorem Y5.inj:∀ {xs ys:C3 V} {us:C3 A2},Y5 xs us->Y5 ys us->xs=ys
 | _,_,_,.nil,.nil=>rfl
 | _,_,_,.cons r t,.cons r' t'=>by rw[r.inj r',Y5.inj t t']
section
variable{a:A4}{ys:C3 V}
theorem Hk.of(h:H a=some (.lst xs)):Hk K H a xs:=.inl (.inl h)
theorem C'.list(I:C' X aa σ H s)(h:Hk X.K H a xs):∃ its:C3 A2,Y5 xs its/\PlainL s.heap a its.toArray/\xs.length<=sizeLine:=by
 rcases h with h | ⟨o,its,n,Y,O,hd,hs,hz,r⟩
 ·obtain⟨z,its,n,r,e⟩:=h.ok I.hok
  exact⟨its,r,⟨_,n,e,rfl,rfl,rfl⟩,z⟩
 ·refine⟨its.toList,r,⟨o,n,I.kIn a o Y,O,hd,by simpa using hs⟩,?_⟩
  have e:=r.length;simp only[FB] at e;lia
theorem C'.tuple(I:C' X aa σ H s)(h:Hw X.K H a xs):∃ its:C3 A2,Y5 xs its/\IsTup s.heap a its.toArray/\xs.length<=sizeLine:=by
 rcases h with h | ⟨o,its,n,Y,O,hs,hz,r,_⟩
 ·obtain⟨z,its,r,p⟩:=(Rd.of h).ok I.hok
  exact⟨its,r,p,z⟩
 ·refine⟨its.toList,r,⟨o,I.kIn a o Y,O,n,by simpa using hs⟩,?_⟩
  have e:=r.length;simp only[FB] at e;lia
theorem C'.list_inj(I:C' X aa σ H s)(h:Hk X.K H a xs)(h':Hk X.K H a ys):xs=ys:=by
 obtain⟨its,r,⟨o,n,e,_,_,d⟩,_⟩:=I.list h;obtain⟨its',r',⟨o',g,e',_,_,d'⟩,_⟩:=I.list h';rw[e] at e';cases e';rw[d] at d';injection d' with f _
 have:its=its':=by simpa using CV Array.toList f
 subst this;exact r.inj r'
theorem C'.tuple_inj(I:C' X aa σ H s)(h:Hw X.K H a xs)(h':Hw X.K H a ys):xs=ys:=by
 obtain⟨its,r,⟨o,e,_,n,d⟩,_⟩:=I.tuple h;obtain⟨its',r',⟨o',e',_,g,d'⟩,_⟩:=I.tuple h';rw[e] at e';cases e';rw[d] at d';injection d' with f _
 have:its=its':=by simpa using CV Array.toList f
 subst this;exact r.inj r'
end
abbrev Cx.wish(X:Cx)(E:KD):Cx:={ X with xe:=E }
abbrev Cx.nox(X:Cx):Cx:=X.wish fun _ _=>False
theorem Cx.Ok.wish(ok:X.Ok)(E:KD):(X.wish E).Ok :=
 ⟨ok.mod,ok.kind,ok.glob,ok.blt,ok.above,ok.inj,ok.has,ok.cab,ok.hd,ok.frames,ok.stk,ok.exf,ok.bs,ok.bsz,ok.noex,ok.exfs,ok.funs,ok.frf⟩
theorem Cx.Ok.unwish(ok:(X.wish E).Ok):X.Ok :=
 ⟨ok.mod,ok.kind,ok.glob,ok.blt,ok.above,ok.inj,ok.has,ok.cab,ok.hd,ok.frames,ok.stk,ok.exf,ok.bs,ok.bsz,ok.noex,ok.exfs,ok.funs,ok.frf⟩
theorem C'.wish(I:C' X aa σ H s)(E:KD):C' (X.wish E) aa σ H s:=⟨I.ok.wish E,I.os,I.bare,I.base,I.loc,I.cell,I.free,I.freeC,I.pin,I.hok,I.len⟩
theorem C'.unwish(I:C' (X.wish E) aa σ H s):C' X aa σ H s:=⟨I.ok.unwish,I.os,I.bare,I.base,I.loc,I.cell,I.free,I.freeC,I.pin,I.hok,I.len⟩
theorem SP.unwish{D:KG}{f:Flow}(h:SP (X.wish E) aa D f s'):SP X aa D f s':=by
 cases f with
 | next=>obtain⟨σ',H',I,q⟩:=h;exact⟨σ',H',I.unwish,q⟩
 | brk=>obtain⟨σ',H',I,q⟩:=h;exact⟨σ',H',I.unwish,q⟩
 | cont=>obtain⟨σ',H',I,q⟩:=h;exact⟨σ',H',I.unwish,q⟩
 | ret u=>obtain⟨v,σ',H',I,r,q⟩:=h;exact⟨v,σ',H',I.unwish,r,q⟩
theorem Gr.nox{st:C3 C5}{t:TS}(h:Gr X.nox st t):Gr X st t:=fun aa s σ H D I hw =>
 BM (h aa s σ H D (I.wish _) hw) (fun _ _ q=>q.unwish) fun _ _ z=>False.elim z
section
variable{st:C5}{aj:C3 C5}{t u:TS}
def iZ:TS:=fun D σ H=>D.nx σ H
def Pt(t u:TS):TS:=fun D σ H=>t { D with nx:=u D } σ H
theorem d1:Gr X [] iZ:=fun _ _ σ H _ I h=>HM ⟨σ,H,I,h⟩
theorem Qe(h1:PS X st t)(h2:Gr X aj u):Gr X (st::aj) (Pt t u):=by
 intro aa s σ H D I h;refine wpAny_execs_cons (Vk (h1 aa s σ H { D with nx:=u D } I h) fun f s1 q=>?_);cases f with
 | next =>
  obtain⟨σ',H',I',q⟩:=q;exact h2 aa s1 σ' H' D I' q
 | ret v=>exact q
 | brk=>exact q
 | cont=>exact q
theorem Dq(h1:PS X st t):Gr X [st] t:=by
 intro aa s σ H D I h;refine wpAny_execs_cons (Vk (h1 aa s σ H D I h) fun f s1 q=>?_);cases f with
 | next=>exact HM q
 | ret v=>exact q
 | brk=>exact q
 | cont=>exact q
def jv:TS:=fun D σ H=>D.ct σ H
theorem nl:PS X (.Continue pos) jv:=fun _ _ σ H _ I h=>wpAny_Continue ⟨σ,H,I,h⟩
theorem C'.quiet(I:C' X aa σ H s):interactive X.env=false:=by simp[interactive,I.ok.kind]
def QV(te:TE):TS:=fun D σ H=>te σ H fun _ H1=>D.nx σ H1
theorem R4(he:PE X e te)(hs:swapsWith e none pos.line X.env=pure false:=by rfl):PS X (.Expr e pos) (QV te):=by
 intro aa s σ H D I h;exact wpAny_Expr_any (Vk (he aa s σ H _ I h) fun v s1 ⟨x,H1,I1,r1,q1⟩=>⟨σ,H1,I1,q1⟩) I.quiet hs
def nR(te:TE):TS:=fun D σ H=>te σ H D.rt
theorem B8(he:PE X e te):PS X (.Return (some e) pos) (nR te):=by
 intro aa s σ H D I h;exact wpAny_Return_some (Vk (he aa s σ H _ I h) fun v s1 ⟨x,H1,I1,r1,q1⟩=>⟨x,σ,H1,I1,r1,q1⟩)
def m8(c:TT)(t u:TS):TS:=fun D σ H=>c σ H fun b H1=>if b=true then t D σ H1 else u D σ H1
theorem ni{c:C4}{a b:C3 C5}(O:PT X c tc)(ha:Gr X a t)(U:Gr X b u):PS X (.If c a b pos) (m8 tc t u):=by
 intro aa s σ H D I h;refine wpAny_If (Vk (O aa s σ H _ I h) fun d s1 ⟨H1,I1,q1⟩=>?_);cases d with
 | true=>exact ha aa s1 σ H1 D I1 q1
 | false=>exact U aa s1 σ H1 D I1 q1
end
abbrev TG:=V->St->Hp->(St->Hp->Prop)->Prop
abbrev MY:=C3 V->St->Hp->(St->Hp->Prop)->Prop
def PG(X:Cx)(a:C4)(t:TG):Prop :=
 ∀ (aa:J1) (s:C0) (σ:St) (H:Hp) (v:V) (u:A2) (Q:St->Hp->Prop),C' X aa σ H s->W2 v u->t v σ H Q ->
  wpAny (model X.prog X.w) X.A (assign a X.env u) (fun _ s'=>∃ σ' H',C' X aa σ' H' s'/\Q σ' H') X.xe s
def NP(X:Cx)(ts:C3 C4)(t:MY):Prop :=
 ∀ (aa:J1) (s:C0) (σ:St) (H:Hp) (vs:C3 V) (us:C3 A2) (Q:St->Hp->Prop),C' X aa σ H s->Y5 vs us->t vs σ H Q ->
  wpAny (model X.prog X.w) X.A (assignInOrder ((assignEach ts X.env).map (·.2)) us) (fun _ s'=>∃ σ' H',C' X aa σ' H' s'/\Q σ' H') X.xe s
abbrev VW:=V->V->V->Hp->(Hp->Prop)->Prop
def YN(X:Cx)(t:VW):Prop :=
 ∀ (aa:J1) (s:C0) (σ:St) (H:Hp) (o i v:V) (E b u:A2) (Q:Hp->Prop),C' X aa σ H s->W2 o E->W2 i b->W2 v u->t o i v H Q ->
  wpAny (model X.prog X.w) X.A (setItem E b u) (fun _ s'=>∃ H',C' X aa σ H' s'/\Q H') X.xe s
abbrev TK:=V->V->Hp->VK->Prop
def WZ(X:Cx)(op:Operator)(t:TK):Prop :=
 ∀ (aa:J1) (s:C0) (σ:St) (H:Hp) (x y:V) (v u:A2) (Q:VK),C' X aa σ H s->W2 x v->W2 y u->t x y H Q ->
  wpAny (model X.prog X.w) X.A (inplaceOp op v u) (EP X aa σ Q) X.xe s
def UO(i:Nat):TG:=fun v σ H Q=>Q (σ.set i (some v)) H
theorem du{x:Str}(hN:X.N.Nodup)(hi:X.N[i]?=some x)(hx:LC X.env.scope x)(hf:X.fn x=true\/X.env.scope.names.lookup x=some .local:=by first | exact .inl rfl | exact .inr rfl | assumption):PG X (.Name x pos) (UO i):=by
 intro aa s σ H v u Q I r h;exact wpAny_assign_Name (Kr I hN hi hx r (fun s' I'=>⟨_,H,I',h⟩) hf)
def m5:MY:=fun vs σ H Q=>vs=[]/\Q σ H
def gi(t:TG)(u:MY):MY:=fun vs σ H Q=>∃ v r,vs=v::r/\t v σ H fun σ' H'=>u r σ' H' Q
theorem dm:NP X [] m5:=by
 intro aa s σ H vs us Q I r h;obtain⟨e,h⟩:=h;subst e;cases r;exact assignInOrder_nil ⟨σ,H,I,h⟩
theorem fD{t:TG}{u:MY}(h1:PG X e t)(h2:NP X es u)
  (hs:(assignEach (e::es) X.env).map (·.2)=assign e X.env::(assignEach es X.env).map (·.2):=by rfl):NP X (e::es) (gi t u):=by
 intro aa s σ H vs us Q I r h;obtain⟨v,a,e1,h⟩:=h;subst e1;cases r with
 | cons r l =>
  rw[hs];refine assignInOrder_cons (Vk (h1 aa s σ H _ _ _ I r h) fun _ s1 ⟨σ1,H1,I1,q1⟩=>?_);exact h2 aa s1 σ1 H1 _ _ Q I1 l q1
def b9(K:JT)(n:Nat)(t:MY):TG:=fun v σ H Q=>∃ a xs,v=.ref a/\Hw K H a xs/\xs.length=n/\t xs σ H Q
theorem je{t:MY}{n:Nat}(O:X.calm=true)(h:NP X es t)
  (hn:(assignEach es X.env).length=n:=by rfl) (l:(assignEach es X.env).findIdx? (·.1)=none:=by rfl):PG X (.Tuple es k pos) (b9 X.K n t):=by
 intro aa s σ H v u Q I r hw;obtain⟨a,xs,e1,hq,hl,hw⟩:=hw;subst e1;cases r;obtain⟨its,L,ht,hz⟩:=I.tuple hq;refine assign_Tuple_tuple (I.ok.hd O) ht (by simp[hn,← hl,L.length]) l fun h' hx=>?_
 have I1:C' X aa σ H { s with heap:=h' }:=I.kept (t':=s.toks) fun b o e=>hx b o (BU (AR e)) e
 exact h aa _ σ H xs _ Q I1 (by simpa using L) hw
def lz(to d:TE)(t:VW):TG:=fun v σ H Q=>to σ H fun o H1=>d σ H1 fun i H2=>t o i v H2 fun G=>Q σ G
theorem lG{o i:C4}{to d:TE}{t:VW}(J:PE X o to)(hi:PE X i d)(hs:YN X t)
  (ha:∀ v,assign (.Subscript o i pos) X.env v=(do
   let E ← holding [v] (eval o X.env)
   let b ← holding [v,E] (eval i X.env)
   standAt pos
   holding [v,E,b] (setItem E b v)
   release [v,E,b] []):=by intro _;rfl):PG X (.Subscript o i pos) (lz to d t):=by
 intro aa s σ H v u Q I r h;rw[ha];refine AA (BZ (Vk (J aa s σ H _ I h) fun E s1 ⟨x,H1,I1,r1,q1⟩=>?_));refine AA (BZ (Vk (hi aa s1 σ H1 _ I1 q1) fun b s2 ⟨y,H2,I2,r2,q2⟩=>?_));refine AA (CW (AA (BZ (Vk (hs aa s2 σ H2 x y v E b u _ I2 r1 r2 r q2) fun _ C ⟨G,I3,q3⟩=>?_))));exact wpAny_release ⟨σ,G,I3,q3⟩
def VT(te:TE)(g:TG):TS:=fun D σ H=>te σ H fun x H1=>g x σ H1 D.nx
theorem bA{g:TG}(he:PE X e te)(hg:PG X tg g)(hs:swapsWithSole [tg] e pos.line X.env=pure false:=by rfl)(hw:swappedStores [tg] e X.env=pure none:=by rfl)
  (h1:(assignEach [tg] X.env).map (·.2)=[assign tg X.env]:=by rfl):PS X (.Assign [tg] e pos) (VT te g):=by
 intro aa s σ H D I h;refine wpAny_Assign_stores (Vk (he aa s σ H _ I h) fun v s1 ⟨x,H1,I1,r1,q1⟩=>?_) hs hw;rw[h1];exact Vk (hg aa s1 σ H1 x v _ I1 r1 q1) fun _ s2 q=>q
theorem Xf{x:Str}(hN:X.N.Nodup)(hi:X.N[i]?=some x)(hx:LC X.env.scope x)(he:PE X e te)(hs:swapsWith e (some (.Name x am)) pos.line X.env=pure false:=by rfl)(hf:X.fn x=true\/X.env.scope.names.lookup x=some .local:=by first | exact .inl rfl | exact .inr rfl | assumption) :
  PS X (.Assign [.Name x am] e pos) (VT te (UO i)):=by
 intro aa s σ H D I h;refine wpAny_Assign_Name (Vk (he aa s σ H _ I h) fun v s1 ⟨y,H1,I1,r1,q1⟩=>?_) hs;exact Kr I1 hN hi hx r1 (fun s2 I2=>⟨_,H1,I2,q1⟩) hf
def eD(i:Nat)(te:TE)(d:TK):TS:=fun D σ H=>∃ x,σ[i]?=some (some x)/\te σ H fun y H1=>d x y H1 fun z H2=>D.nx (σ.set i (some z)) H2
theorem iC{x:Str}{op:Operator}{d:TK}(hN:X.N.Nodup)(hi:X.N[i]?=some x)(hx:LC X.env.scope x)(he:PE X e te)(J:WZ X op d)(hf:X.fn x=true\/X.env.scope.names.lookup x=some .local:=by first | exact .inl rfl | exact .inr rfl | assumption) :
  PS X (.AugAssign (.Name x am) op e pos) (eD i te d):=by
 intro aa s σ H D I h;obtain⟨v,e1,h⟩:=h;obtain⟨m,hn,hl⟩:=I.loc;have b:LU X.env.scope x:=by rcases hx with k | k;exact .inl k;exact .inr (.inl k)
 obtain⟨u,r,l⟩:=hl i x v hi e1 b;refine wpAny_AugAssign_Name ?_;have go:wpAny (model X.prog X.w) X.A (eval e X.env) (fun w s₂=>wpAny (model X.prog X.w) X.A (inplaceOp op u w) (fun r s₃=>wpAny (model X.prog X.w) X.A (storeName X.env x r) (fun _=>SP X aa D .next) X.xe s₃) X.xe s₂) X.xe s:=by
  refine Vk (he aa s σ H _ I h) fun w s1 ⟨y,H1,I1,r1,q1⟩=>?_
  refine Vk (J aa s1 σ H1 v y u w _ I1 r r1 q1) fun z s2 ⟨zv,H2,I2,r2,q2⟩=>?_
  exact Kr I2 hN hi hx r2 (fun C I3=>⟨_,H2,I3,q2⟩) hf
 rcases l with⟨Y,hm⟩ | ⟨Y,c,O,a⟩
 ·exact wpAny_loadName_local I.ok.kind Y hn hm go
 ·rcases Y with Y | Y
  ·exact wpAny_loadName_cell I.ok.kind Y O a go
  ·rcases hx with k | k
   ·have:X.env.scope.names.lookup x=some .free:=Y
    rw[k] at this;cases this
   ·have:X.env.scope.names.lookup x=some .free:=Y
    rw[k] at this;cases this
def eY(f:Int->Int->Int):TK:=fun x y H Q=>∃ i j,x=.int i/\y=.int j/\Q (.int (f i j)) H
theorem oA:WZ X .Add (eY fun i j=>i+j):=by
 intro aa s σ H x y v u Q I r1 r2 h;obtain⟨i,j,e1,e2,q⟩:=h;subst e1;subst e2;obtain⟨t,rfl⟩:=r1;obtain⟨t',rfl⟩:=r2;exact iadd_int ⟨.int _,H,I.tok _,⟨_,rfl⟩,q⟩
def gj(c:TT)(tb:TS):TS:=fun D σ H=>∃ W:Nat->St->Hp->Prop,(∃ m,W m σ H)/\∀ m σ H,W m σ H ->
 c σ H fun b H1=>if b=true then ∃ N:St->Hp->Prop,(∀ σ' H',N σ' H'->∃ m',m'<m/\W m' σ' H')/\tb { D with nx:=N,ct:=N,bk:=D.nx } σ H1 else D.nx σ H1
theorem fx{c:C4}(hp:PassesOwn (model X.prog X.w) X.A X.env X.xe)(O:PT X c tc)(U:Gr X body tb):PS X (.While c body [] pos) (gj tc tb):=by
 intro aa s σ H D I h;obtain⟨W,⟨m0,w0⟩,t⟩:=h;refine wpAny_While (codeAny_whileLoop (fun n s'=>∃ σ' H',C' X aa σ' H' s'/\W n σ' H') ?_ m0 ⟨σ,H,I,w0⟩);rintro n s1 ⟨σ1,H1,I1,w1⟩;refine EK hp (Vk (O aa s1 σ1 H1 _ I1 (t n σ1 H1 w1)) fun b s2 ⟨H2,I2,q2⟩=>?_);cases b with
 | true =>
  obtain⟨N,hN,q2⟩:=q2;rw[AG rfl];refine EK hp (Vk (U aa s2 σ1 H2 _ I2 q2) fun f C q3=>?_);cases f with
  | next =>
   obtain⟨σ3,G,I3,n3⟩:=q3;obtain⟨m',hm,a⟩:=hN σ3 G n3;exact⟨m',hm,σ3,G,I3,a⟩
  | cont =>
   obtain⟨σ3,G,I3,n3⟩:=q3;obtain⟨m',hm,a⟩:=hN σ3 G n3;exact⟨m',hm,σ3,G,I3,a⟩
  | brk=>exact q3
  | ret v=>exact q3
 | false =>
  rw[AQ CG];exact HM ⟨σ1,H2,I2,q2⟩
structure It where
 go:Nat->Hp->Prop
 yld:Nat->Hp->V->Hp->Prop
 stop:Nat->Hp->Prop
def Hu(X:Cx)(aa:J1)(H:Hp)(b:A4):Prop :=
 H b=none/\b≠X.env.locals/\b∉X.fs/\(b∈X.ex\/X.s₀.heap.objs.size<=b)/\(∀ x c,X.env.cells.lookup x=some c->c≠b)/\∀ p∈X.pn++aa,p.1≠b
theorem C'.fpOk{b:A4}(I:C' X aa σ H s)(U:s.heap.objs.size<=b)(hn:H' b=none):Hu X aa H' b:=by
 refine⟨hn,JL (AU I.lt U),I.nofs U,.inr (AZ I.sz U),fun x c e z=>?_,fun p hp z=>?_⟩
 ·obtain⟨v,q⟩:=I.cell x c e
  exact absurd (AU q.lt (by rw[z];exact U)) (DA _)
 ·exact absurd (AU (AR (I.pin p hp).1) (by rw[z];exact U)) (DA _)
structure KR (P:Program) (w:World) (K:JT) (tg:Expr) (J:It) (fp:List Addr) (it:Addr) (tn:Nat->Heap->Prop):Prop where
 mem:it∈fp
 obj:∀ i h,tn i h->∀ b∈fp,∃ o,h.get? b=some o/\∀ v,o.data≠.cell v
 keep:∀ i h h',tn i h->(∀ b∈fp,∀ o,h.get? b=some o->h'.get? b=some o)->tn i h'
 item:∀ (X:Cx),X.prog=P->X.w=w->X.K=K->X.calm=true->∀ (i:Nat) (aa:J1) (s:Shared) (σ:St) (H:Hp) (E:KD),C' X aa σ H s->(∀ b∈fp,Hu X aa H b)->tn i s.heap->J.go i H ->
  wpAny (model P w) X.A (pyNext (.ref it)) (fun r s1=>∃ u,r=some u /\
   wpAny (model P w) X.A (letOwnedTupleGo tg (.ref it) u) (fun _ s2=>∃ x H',C' X aa σ H' s2/\W2 x u/\J.yld i H x H'/\tn (i+1) s2.heap/\∀ b∈fp,H' b=none) E s1) E s
 done:∀ (X:Cx),X.prog=P->X.w=w->X.K=K->X.calm=true->∀ (i:Nat) (aa:J1) (s:Shared) (σ:St) (H:Hp) (E:KD),C' X aa σ H s->(∀ b∈fp,Hu X aa H b)->tn i s.heap->J.stop i H ->
  wpAny (model P w) X.A (pyNext (.ref it)) (fun r s1=>r=none/\C' X aa σ H s1) E s
 self:∀ (A:Around) (i:Nat) (s:Shared) (Q:KD) (E:KD),tn i s.heap->Q (.ref it) s->wpAny (model P w) A (pyIter (.ref it)) Q E s
abbrev TI:=St->Hp->(It->Hp->Prop)->Prop
def XV(X:Cx)(aa:J1)(σ:St)(tg:C4)(R:It->Hp->Prop)(c:A2)(s2:C0):Prop :=
 ∃ (it:A4) (fp:C3 A4) (tn:Nat->Gf->Prop) (J:It) (H':Hp),c=.ref it/\C' X aa σ H' s2/\KR X.prog X.w X.K tg J fp it tn/\tn 0 s2.heap/\(∀ b∈fp,Hu X aa H' b)/\R J H'
def PI(X:Cx)(tg iter:C4)(wi:TI):Prop :=
 ∀ (aa:J1) (s:C0) (σ:St) (H:Hp) (R:It->Hp->Prop),C' X aa σ H s->wi σ H R ->
  wpAny (model X.prog X.w) X.A (eval iter X.env) (fun v s1=>wpAny (model X.prog X.w) X.A (pyIter v) (XV X aa σ tg R) X.xe s1) X.xe s
theorem TN{M:Model}{o:Obj}{n:String}{vs:Array A2}(J:s.heap.get? it=some o)(O:o.cls=.type n)(hd:o.data=.fields vs)
   (hn:["enumerate","zip","dict_itemiterator","dict_reverseitemiterator","odict_iterator","itertools.zip_longest","itertools.pairwise"].contains n=false) (j:Q () s):wpAny M A (letOwnedTupleGo tg (.ref it) u) Q E s:=by
 unfold letOwnedTupleGo;cases tg<;>first
   | exact AK j
   | (cases u<;>first
       | exact AK j
       | (refine AA (wpAny_load J ?_)
          rw[O,hd];show wpAny M A (if(["enumerate","zip","dict_itemiterator","dict_reverseitemiterator","odict_iterator","itertools.zip_longest","itertools.pairwise"].contains n&&vs[0]?==some (rawInt _))=true then _ else _) Q E s;rw[AQ (by intro h;rw[hn,JC] at h;cases h)];exact AK j))
def VQ(K:JT)(a:A4):It :=
 ⟨fun i H=>∃ xs x,Hk K H a xs/\xs[i]?=some x,fun i H x H'=>H'=H/\∀ xs,Hk K H a xs->xs[i]?=some x,fun i H=>∃ xs,Hk K H a xs/\xs.length<=i⟩
def VJ(K:JT)(a:A4):It :=
 ⟨fun i H=>∃ xs x,Hw K H a xs/\xs[i]?=some x,fun i H x H'=>H'=H/\∀ xs,Hw K H a xs->xs[i]?=some x,fun i H=>∃ xs,Hw K H a xs/\xs.length<=i⟩
def SO(lo:Int)(n:Nat):It:=⟨fun i _=>i<n,fun i H x H'=>H'=H/\x=.int (lo+i),fun i _=>n<=i⟩
theorem hB(a it:A4):KR P w K tg (VQ K a) [it] it (fun i h=>h.IsListIter it a i) where
 mem:=by simp
 obj:=fun i h st b U=>by
  have e:b=it:=by simpa using U
  subst e;obtain⟨o,e,c,d⟩:=st;exact⟨o,e,fun v z=>by rw[d] at z;cases z⟩
 keep:=fun i h h' st k=>st.at fun o e=>k it (by simp) o e
 item:=by
  intro X m hw f O i aa s σ H E I hf st hg;subst m hw f;obtain⟨xs,x,hq,hx⟩:=hg;obtain⟨its,L,p,hz⟩:=I.list hq;obtain⟨u,hu,N⟩:=L.get hx;obtain⟨Z,f1,f2,f3,l,q⟩:=hf it (by simp);refine wpAny_pyNext_list_item st p.isList (x:=u) (by simpa using hu) fun h' j sb=>?_
  have I1:C' X aa σ H { s with heap:=h' }:=I.turned (t':=s.toks) (fun b o U e=>(sb.2 b U).trans e) Z f1 f3 l q;obtain⟨o,e,c,d⟩:=id j;exact⟨u,rfl,TN (s:={ s with heap:=h' }) e c d (by decide) ⟨x,H,I1,N,⟨rfl,fun ys hy=>by rw[I.list_inj hy hq];exact hx⟩,j,fun b U=>(hf b U).1⟩⟩
 done:=by
  intro X m hw f O i aa s σ H E I hf st hg;subst m hw f;obtain⟨xs,hq,hx⟩:=hg;obtain⟨its,L,p,hz⟩:=I.list hq;obtain⟨Z,f1,f2,f3,l,q⟩:=hf it (by simp);have hl:=L.length;exact wpAny_pyNext_list_end (I.ok.hd O) st p.isList (by simp;lia) fun h' F=>⟨rfl,I.turned (t':=s.toks) (fun b o U e=>F b o U e) Z f1 f3 l q⟩
 self:=fun _ _ _ _ _ st h=>wpAny_pyIter_listiter st h
theorem i3(a it:A4):KR P w K tg (VJ K a) [it] it (fun i h=>h.IsTupleIter it a i) where
 mem:=by simp
 obj:=fun i h st b U=>by
  have e:b=it:=by simpa using U
  subst e;obtain⟨o,e,c,d⟩:=st;exact⟨o,e,fun v z=>by rw[d] at z;cases z⟩
 keep:=fun i h h' st k=>st.at fun o e=>k it (by simp) o e
 item:=by
  intro X m hw f O i aa s σ H E I hf st hg;subst m hw f;obtain⟨xs,x,hq,hx⟩:=hg;obtain⟨its,L,p,hz⟩:=I.tuple hq;obtain⟨u,hu,N⟩:=L.get hx;obtain⟨Z,f1,f2,f3,l,q⟩:=hf it (by simp);refine wpAny_pyNext_tuple_item st (show s.heap.IsTuple a its.toArray from p) (x:=u) (by simpa using hu) fun h' j sb=>?_
  have I1:C' X aa σ H { s with heap:=h' }:=I.turned (t':=s.toks) (fun b o U e=>(sb.2 b U).trans e) Z f1 f3 l q;obtain⟨o,e,c,d⟩:=id j;exact⟨u,rfl,TN (s:={ s with heap:=h' }) e c d (by decide) ⟨x,H,I1,N,⟨rfl,fun ys hy=>by rw[I.tuple_inj hy hq];exact hx⟩,j,fun b U=>(hf b U).1⟩⟩
 done:=by
  intro X m hw f O i aa s σ H E I hf st hg;subst m hw f;obtain⟨xs,hq,hx⟩:=hg;obtain⟨its,L,p,hz⟩:=I.tuple hq;obtain⟨Z,f1,f2,f3,l,q⟩:=hf it (by simp);have hl:=L.length;exact wpAny_pyNext_tuple_end (I.ok.hd O) st (show s.heap.IsTuple a its.toArray from p) (by simp;lia) fun h' F=>⟨rfl,I.turned (t':=s.toks) (fun b o U e=>F b o U e) Z f1 f3 l q⟩
 self:=fun _ _ _ _ _ st h=>wpAny_pyIter_tupleiter st h
variable{Q:VK}
theorem lR(it:A4)(lo:Int)(n:Nat):KR P w K tg (SO lo n) [it] it (fun i h=>IsRangeIter h it (lo+(i:Nat)*1) ((n:Int) - (i:Nat)) 1) where
 mem:=by simp
 obj:=fun i h st b U=>by
  have e:b=it:=by simpa using U
  subst e;exact⟨_,st,fun v z=>by
   have G:Data.fields _=Data.cell v:=z;cases G⟩
 keep:=fun i h h' st k=>k it (by simp) _ st
 item:=by
  intro X m hw f O i aa s σ H E I hf st hg;subst m hw f;obtain⟨Z,f1,f2,f3,l,q⟩:=hf it (by simp);have W:=Walks.range (prog:=X.prog) (w:=X.w) (I.ok.hd O) it lo 1 n;refine W.item i s _ _ hg st fun v h' tk hv j kk=>?_
  obtain⟨t,rfl⟩:=hv;have I1:C' X aa σ H { s with heap:=h',toks:=tk }:=I.turned (fun b o U e=>kk b o (by simpa using U) e) Z f1 f3 l q;refine⟨_,rfl,TN (s:={ s with heap:=h',toks:=tk }) (n:="range_iterator") j rfl rfl (by decide) ⟨.int (lo+i),H,I1,⟨t,?_⟩,⟨rfl,rfl⟩,j,fun b U=>(hf b U).1⟩⟩;rw[Int.mul_one]
 done:=by
  intro X m hw f O i aa s σ H E I hf st hg;subst m hw f;obtain⟨Z,f1,f2,f3,l,q⟩:=hf it (by simp);exact wpAny_pyNext_range_end (I.ok.hd O) st (by have:n<=i:=hg;lia) fun h' F=>⟨rfl,I.turned (t':=s.toks) (fun b o U e=>F b o U e) Z f1 f3 l q⟩
 self:=fun _ _ _ _ _ st h=>wpAny_pyIter_rangeiter st h
def ZD(K:JT)(tl:TE):TI:=fun σ H R=>tl σ H fun x H1=>∃ a,x=.ref a/\(∃ xs,Hk K H1 a xs)/\R (VQ K a) H1
def b4(K:JT)(tl:TE):TI:=fun σ H R=>tl σ H fun x H1=>∃ a,x=.ref a/\(∃ xs,Hw K H1 a xs)/\R (VJ K a) H1
theorem jB(hl:PE X l tl):PI X tg l (ZD X.K tl):=by
 intro aa s σ H R I h;refine Vk (hl aa s σ H _ I h) fun v s1 ⟨x,H1,I1,r1,q1⟩=>?_
 obtain⟨a,e,⟨xs,hq⟩,q⟩:=q1;subst e;cases r1;obtain⟨its,L,p,hz⟩:=I1.list hq;refine GW p.isList ?_;refine⟨s1.heap.objs.size,[s1.heap.objs.size],_,_,H1,rfl,I1.kept (t':=s1.toks) fun b o e=>AF _ e,hB a _,⟨_,BA _ rfl,rfl,rfl⟩,fun b U=>?_,q⟩;have e:b=s1.heap.objs.size:=by simpa using U
 subst e;exact I1.fpOk (AY _) (I1.hok.fresh (AY _))
theorem nk(hl:PE X l tl):PI X tg l (b4 X.K tl):=by
 intro aa s σ H R I h;refine Vk (hl aa s σ H _ I h) fun v s1 ⟨x,H1,I1,r1,q1⟩=>?_
 obtain⟨a,e,⟨xs,hq⟩,q⟩:=q1;subst e;cases r1;obtain⟨its,L,p,hz⟩:=I1.tuple hq;refine GI (show s1.heap.IsTuple a its.toArray from p) ?_;refine⟨s1.heap.objs.size,[s1.heap.objs.size],_,_,H1,rfl,I1.kept (t':=s1.toks) fun b o e=>AF _ e,i3 a _,⟨_,BA _ rfl,rfl,rfl⟩,fun b U=>?_,q⟩;have e:b=s1.heap.objs.size:=by simpa using U
 subst e;exact I1.fpOk (AY _) (I1.hok.fresh (AY _))
theorem bu{R:It->Hp->Prop}{lo hi:Int}{t u v:Tok}(I:C' X aa σ H s)(h1 : -(2^62)<=lo)(h2:lo<2^62)(h3 : -(2^62)<=hi)(h4:hi<2^62)
  (q:R (SO lo (hi - lo).toNat) H):wpAny (model X.prog X.w) X.A (pyIter (.ref s.heap.objs.size)) (XV X aa σ tg R) E { s with heap:=s.heap.push { cls:=.type "range",data:=.fields #[.int lo t,.int hi u,.int 1 v] },toks:=tk }:=by
 refine wpAny_pyIter_range (IsRange.new ..) (small_one h1 h2 h3 h4) ?_;have I1:C' X aa σ H { s with heap:=s.heap.push { cls:=.type "range",data:=.fields #[.int lo t,.int hi u,.int 1 v] },toks:=tk }:=I.kept fun b o e=>AF _ e
 refine⟨(s.heap.push { cls:=.type "range",data:=.fields #[.int lo t,.int hi u,.int 1 v] }).objs.size,[(s.heap.push { cls:=.type "range",data:=.fields #[.int lo t,.int hi u,.int 1 v] }).objs.size],_,_,H,rfl,
  I1.kept (t':=tk) fun b o e=>AF _ e,lR _ lo (hi - lo).toNat,?_,fun b U=>?_,q⟩
 ·have e1:lo+((0:Nat):Int)*1=lo:=by simp
  have e2:(((hi - lo).toNat:Nat):Int) - ((0:Nat):Int)=Builtin.Range.rangeSize lo hi 1:=by rw[rangeSize_one];split<;>lia
  show IsRangeIter _ _ (lo+((0:Nat):Int)*1) ((((hi - lo).toNat:Nat):Int) - ((0:Nat):Int)) 1;rw[e1,e2];exact BA _ rfl
 ·have e:b=(s.heap.push { cls:=.type "range",data:=.fields #[.int lo t,.int hi u,.int 1 v] }).objs.size:=by simpa using U
  subst e;exact I1.fpOk (AY _) (I1.hok.fresh (AY _))
def ii(ta:TA):TI:=fun σ H R=>ta σ H fun vs H1=>∃ j:Int,vs=[.int j]/\-(2^62)<=j/\j<2^62/\R (SO 0 j.toNat) H1
def nG(ta:TA):TI:=fun σ H R=>ta σ H fun vs H1=>∃ i j:Int,vs=[.int i,.int j]/\(-(2^62)<=i/\i<2^62/\-(2^62)<=j/\j<2^62)/\R (SO i (j - i).toNat) H1
theorem hb{a:C4}{ta:TA}(hg:Gl X "range")(hm:X.mg "range" = none)(ha:PA X [a] ta)(hs:starEach [a] X.env=[(false,eval a X.env)]:=by rfl):PI X tg (.Call (.Name "range" p) [a] [] pos) (ii ta):=by
 intro aa s σ H R I h;refine Call_ (Dw I hg hm boot_range (DL (Vk (ha pos aa s σ H _ I h) fun us s1 ⟨vs,H1,I1,r1,q1⟩=>?_) hs rfl));obtain⟨j,e,q1,q2,q⟩:=q1;subst e;cases r1 with
 | cons r l =>
  cases l;obtain⟨t,rfl⟩:=r;exact call_range_1 (bu I1 (by lia) (by lia) q1 q2 (by simpa using q))
theorem n9{a b:C4}{ta:TA}(hg:Gl X "range")(hm:X.mg "range" = none)(ha:PA X [a,b] ta)(hs:starEach [a,b] X.env=[(false,eval a X.env),(false,eval b X.env)]:=by rfl)(y:starEach [b] X.env=[(false,eval b X.env)]:=by rfl) :
  PI X tg (.Call (.Name "range" p) [a,b] [] pos) (nG ta):=by
 intro aa s σ H R I h;refine Call_ (Dw I hg hm boot_range (DL (Vk (ha pos aa s σ H _ I h) fun us s1 ⟨vs,H1,I1,r1,q1⟩=>?_) (by rw[hs,y]) (by rw[y];rfl)));obtain⟨i,j,e,⟨q1,q2,q3,q4⟩,q⟩:=q1;subst e;cases r1 with
 | cons r l =>
  cases l with
  | cons r' l =>
   cases l;obtain⟨t,rfl⟩:=r;obtain⟨t',rfl⟩:=r';exact call_range_2 (bu I1 q1 q2 q3 q4 q)
def iQ(wi:TI)(g:TG)(tb:TS):TS:=fun D σ H=>wi σ H fun J H1=>∃ W:Nat->Nat->St->Hp->Prop,(∃ m,W 0 m σ H1)/\∀ i m σ H,W i m σ H ->
 (J.stop i H/\D.nx σ H)\/(J.go i H/\∃ N:St->Hp->Prop,(∀ σ' H',N σ' H'->∃ m',m'<m/\W (i+1) m' σ' H')/\∀ x H',J.yld i H x H'->g x σ H' fun σ2 H2=>tb { D with nx:=N,ct:=N,bk:=D.nx } σ2 H2)
def Xs(fp:C3 A4)(h:Gf):C3 (A4×Obj):=fp.filterMap fun b=>(h.get? b).map fun o=>(b,o)
theorem Do{b:A4}{o:Obj}(U:b∈fp)(e:h.get? b=some o):(b,o)∈Xs fp h:=List.mem_filterMap.mpr ⟨b,U,by rw[e];rfl⟩
theorem lw{p:A4×Obj}(hp:p∈Xs fp h):p.1∈fp/\h.get? p.1=some p.2:=by
 obtain⟨b,U,e⟩:=List.mem_filterMap.mp hp;cases q:h.get? b with
 | none=>rw[q] at e;cases e
 | some o =>
  rw[q] at e;have e':(b,o)=p:=BD e;subst e';exact⟨U,q⟩
theorem C'.pinned(I:C' X aa σ H s)(hf:∀ b∈fp,Hu X aa H b)(J:∀ b∈fp,∃ o,s.heap.get? b=some o/\∀ v,o.data≠.cell v):C' X (aa++Xs fp s.heap) σ H s :=
 I.pins_of fun p hp=>(BQ.mp hp).elim (fun z=>I.pin p (BR _ z)) fun z=>by
  obtain⟨U,e⟩:=lw z;obtain⟨Z,f1,f2,_⟩:=hf p.1 U;obtain⟨o,e',d⟩:=J p.1 U;rw[e] at e';cases e';exact⟨e,Z,f1,f2,d⟩
theorem C'.unpinned{pl:J1}(I:C' X (aa++pl) σ H s):C' X aa σ H s:=I.pins_of fun p hp=>I.pin p (BR _ (BS _ hp))
theorem kK{wi:TI}{g:TG}(hp:PassesOwn (model X.prog X.w) X.A X.env X.xe)(O:X.calm=true)(hi:PI X tg iter wi)(hg:PG X tg g)(U:Gr X body tb)
  (hs:∀ x,foldedSetIterable iter X.env x=pure x:=by intro _;rfl):PS X (.For tg iter body [] pos) (iQ wi g tb):=by
 intro aa s σ H D I h;refine wpAny_For (Vk (hi aa s σ H _ I h) fun v s1 h1=>Vk h1 fun c s2 h2=>?_) hs;obtain⟨it,fp,tn,J,H2,e,I2,T,j,f2,W,⟨m0,w0⟩,t⟩:=h2;subst e
 -- what stays true of aK iterator's l through aK ag
 have B:∀ {H':Hp},(∀ b∈fp,H' b=none)->∀ b∈fp,Hu X aa H' b:=fun hn b U=>⟨hn b U,(f2 b U).2⟩
 refine codeAny_forLoop_any (fun n s'=>∃ i σ' H',C' X aa σ' H' s'/\tn i s'.heap/\(∀ b∈fp,H' b=none)/\W i n σ' H') ?_ m0 ⟨0,σ,H2,I2,j,fun b U=>(f2 b U).1,w0⟩;rintro n C ⟨i,σ3,G,I3,k,p,a⟩;rcases t i n σ3 G a with⟨stop,qn⟩ | ⟨go,N,hN,step⟩
 ·refine EK hp (Vk (T.done X rfl rfl rfl O i aa C σ3 G X.xe I3 (B p) k stop) fun r M ⟨Z,I4⟩=>?_)
  subst Z;exact HM ⟨σ3,G,I4,qn⟩
 ·refine EK hp (Vk (T.item X rfl rfl rfl O i aa C σ3 G X.xe I3 (B p) k go) fun r M ⟨u,Z,h4⟩=>?_)
  subst Z;refine EK hp (Vk h4 fun _ s5 ⟨x,H5,I5,r5,y5,ae,ap⟩=>?_);have ar:=I5.pinned (B ap) (T.obj _ _ ae);refine EK hp (Vk (hg _ s5 σ3 H5 x u _ ar r5 (step x H5 y5)) fun _ s6 ⟨σ6,H6,I6,q6⟩=>?_);refine EK hp (Vk (U _ s6 σ6 H6 _ I6 q6) fun f s7 q7=>?_);have again:∀ {σ7:St} {H7:Hp},C' X (aa++Xs fp s5.heap) σ7 H7 s7->N σ7 H7->∃ m,m<n/\∃ i σ' H',C' X aa σ' H' s7/\tn i s7.heap/\(∀ b∈fp,H' b=none)/\W i m σ' H':=fun {σ7 H7} I7 q=>by
   obtain⟨m',hm,w7⟩:=hN σ7 H7 q;refine⟨m',hm,i+1,σ7,H7,I7.unpinned,T.keep _ _ _ ae fun b U o e=>(I7.pin (b,o) (BR _ (BR _ (Do U e)))).1,fun b U=>?_,w7⟩;obtain⟨o,e,d⟩:=T.obj _ _ ae b U;exact(I7.pin (b,o) (BR _ (BR _ (Do U e)))).2.1
  cases f with
  | next=>obtain⟨σ7,H7,I7,q⟩:=q7;exact again I7 q
  | cont=>obtain⟨σ7,H7,I7,q⟩:=q7;exact again I7 q
  | brk=>obtain⟨σ7,H7,I7,q7⟩:=q7;exact⟨σ7,H7,I7.unpinned,q7⟩
  | ret v=>obtain⟨y,σ7,H7,I7,r7,q7⟩:=q7;exact⟨y,σ7,H7,I7.unpinned,r7,q7⟩
abbrev R2:=V->V->Hp->VK->Prop
def Hx(X:Cx)(f:A2->A2->Sem A2)(r:R2):Prop :=
 ∀ (aa:J1) (s:C0) (σ:St) (H:Hp) (x y:V) (v u:A2) (Q:VK),C' X aa σ H s->W2 x v->W2 y u->r x y H Q ->
  wpAny (model X.prog X.w) X.A (f v u) (EP X aa σ Q) X.xe s
def MZ(X:Cx)(f:A2->Sem A2)(r:V->Hp->VK->Prop):Prop :=
 ∀ (aa:J1) (s:C0) (σ:St) (H:Hp) (x:V) (v:A2) (Q:VK),C' X aa σ H s->W2 x v->r x H Q ->
  wpAny (model X.prog X.w) X.A (f v) (EP X aa σ Q) X.xe s
def Uf(X:Cx)(f:A2)(r:C3 V->Hp->VK->Prop):Prop :=
 ∀ (aa:J1) (s:C0) (σ:St) (H:Hp) (xs:C3 V) (us:C3 A2) (Q:VK),C' X aa σ H s->Y5 xs us->r xs H Q ->
  wpAny (model X.prog X.w) X.A (call f us) (EP X aa σ Q) X.xe s
def dN(X:Cx)(r:V->Hp->(Bool->Hp->Prop)->Prop):Prop :=
 ∀ (aa:J1) (s:C0) (σ:St) (H:Hp) (x:V) (v:A2) (Q:Bool->Hp->Prop),C' X aa σ H s->W2 x v->r x H Q ->
  wpAny (model X.prog X.w) X.A (truthy v) (TP X aa σ Q) X.xe s
def QI(r:R2)(ta tb:TE):TE:=fun σ H Q=>ta σ H fun x H1=>tb σ H1 fun y H2=>r x y H2 Q
def l8(r:V->Hp->VK->Prop)(ta:TE):TE:=fun σ H Q=>ta σ H fun x H1=>r x H1 Q
def rI(C:Int->Int->Prop)(g:Int->Int->V):R2:=fun x y H Q=>∃ i j,x=.int i/\y=.int j/\C i j/\Q (g i j) H
def MU(g:Int->Int->V):R2:=fun x y H Q=>∃ i j,x=.int i/\y=.int j/\Q (g i j) H
def rU(g:Int->V):V->Hp->VK->Prop:=fun x H Q=>∃ i,x=.int i/\Q (g i) H
section
variable{a b c:C4}{tb tc:TE}
theorem VS(ha:PE X a ta)(U:PE X b tb){R:V->V->Hp->Prop}(I:C' X aa σ H s)
  (h:ta σ H fun x H1=>tb σ H1 fun y H2=>R x y H2) {Q:KD} {f:A2->A2->Sem A2}
  (hf:∀ v u s2 x y H2,C' X aa σ H2 s2->W2 x v->W2 y u->R x y H2->wpAny (model X.prog X.w) X.A (f v u) Q X.xe s2) :
  wpAny (model X.prog X.w) X.A (eval a X.env) (fun v s₁=>wpAny (model X.prog X.w) X.A (eval b X.env) (fun u s₂=>wpAny (model X.prog X.w) X.A (f v u) Q X.xe s₂) X.xe s₁) X.xe s:=by
 refine Vk (ha aa s σ H _ I h) fun v s1 ⟨x,H1,I1,r1,q1⟩=>?_
 refine Vk (U aa s1 σ H1 _ I1 q1) fun u s2 ⟨y,H2,I2,r2,q2⟩=>?_
 exact hf v u s2 x y H2 I2 r1 r2 q2
theorem XY{op:Operator}{r:R2}(J:Hx X (binaryOp op) r)(ha:PE X a ta)(U:PE X b tb):PE X (.BinOp a op b pos) (QI r ta tb):=by
 intro aa s σ H Q I h;exact wpAny_BinOp (VS ha U I h fun v u s2 x y H2 I2 S m q=>J aa s2 σ H2 x y v u Q I2 S m q)
theorem eM{op:UnaryOp}{r:V->Hp->VK->Prop}(J:MZ X (unaryOp op) r)(ha:PE X a ta):PE X (.UnaryOp op a pos) (l8 r ta):=by
 intro aa s σ H Q I h;exact UnaryOp_ (Vk (ha aa s σ H _ I h) fun v s1 ⟨x,H1,I1,r1,q1⟩=>J aa s1 σ H1 x v Q I1 r1 q1)
theorem QO{C:Int->Int->Prop} 
  (rule:∀ (i j:Int) (t u:Tok) (s:C0) (Q:KD) (E:KD),C i j->Q (.int (g i j) s.toks) { s with toks:=s.toks+1 }->wpAny (model X.prog X.w) X.A (f (.int i t) (.int j u)) Q E s) :
  Hx X f (rI C fun i j=>.int (g i j)):=by
 intro aa s σ H x y v u Q I S m h;obtain⟨i,j,rfl,rfl,O,q⟩:=h;obtain⟨t,rfl⟩:=S;obtain⟨t',rfl⟩:=m;exact rule i j t t' s _ _ O ⟨.int (g i j),H,I.tok _,⟨_,rfl⟩,q⟩
theorem SH
  (rule:∀ (i j:Int) (t u:Tok) (s:C0) (Q:KD) (E:KD),Q (.int (g i j) s.toks) { s with toks:=s.toks+1 }->wpAny (model X.prog X.w) X.A (f (.int i t) (.int j u)) Q E s) :
  Hx X f (MU fun i j=>.int (g i j)):=by
 intro aa s σ H x y v u Q I S m h;obtain⟨i,j,rfl,rfl,q⟩:=h;obtain⟨t,rfl⟩:=S;obtain⟨t',rfl⟩:=m;exact rule i j t t' s _ _ ⟨.int (g i j),H,I.tok _,⟨_,rfl⟩,q⟩
theorem WP{g:Int->Int->Bool}
  (rule:∀ (i j:Int) (t u:Tok) (s:C0) (Q:KD) (E:KD),Q (.bool (g i j)) s->wpAny (model X.prog X.w) X.A (f (.int i t) (.int j u)) Q E s) :
  Hx X f (MU fun i j=>.bl (g i j)):=by
 intro aa s σ H x y v u Q I S m h;obtain⟨i,j,rfl,rfl,q⟩:=h;obtain⟨t,rfl⟩:=S;obtain⟨t',rfl⟩:=m;exact rule i j t t' s _ _ ⟨.bl (g i j),H,I,rfl,q⟩
def RL(i j:Int):Prop:=0<j/\j<1073741824
def TW(i j:Int):Prop:=0<=j/\j<=1000000/\i.natAbs<2^64
def PF(i j:Int):Prop:=(-(2^64)<i/\i<2^64)\/(-(2^64)<j/\j<2^64)
theorem PF.ok{i j:Int}(h:PF i j):IntMulOk i j:=by
 rcases h with⟨h1,h2⟩ | ⟨h1,h2⟩
 ·exact .of_left (intBits_le_64 h1 h2)
 ·exact .of_right (intBits_le_64 h1 h2)
theorem gT(k:Nat):(0:Int)<=2^k:=by
 rw[two_pow_cast];exact Int.natCast_nonneg _
theorem lB:Hx X (binaryOp .Add) (MU fun i j=>.int (i+j)):=SH fun _ _ _ _ _ _ _ q=>add_int q
theorem fO:Hx X (binaryOp .Sub) (MU fun i j=>.int (i - j)):=SH fun _ _ _ _ _ _ _ q=>sub_int q
theorem jG:Hx X (binaryOp .Mult) (rI PF fun i j=>.int (i*j)):=QO fun _ _ _ _ _ _ _ O q=>mul_int q O.ok
theorem kZ:Hx X (binaryOp .FloorDiv) (rI RL fun i j=>.int (i / j)):=QO fun i j _ _ _ _ _ O q=>by
 have h1:(0:Int)<j:=O.1;have h2:j<1073741824:=O.2;exact floordiv_int (by lia) (by rw[Int.fdiv_eq_ediv_of_nonneg i (by lia)];exact q) (.inl (PyProof.noPylong_small (by lia)))
theorem db:Hx X (binaryOp .Mod) (rI (fun _ j=>0<j) fun i j=>.int (i % j)):=QO fun i j _ _ _ _ _ O q=>by
 have h1:(0:Int)<j:=O;exact mod_int' (by lia) (by rw[Int.fmod_eq_emod_of_nonneg i (by lia)];exact q)
theorem mG:Hx X (binaryOp .LShift) (rI TW fun i j=>.int (i*2^j.toNat)):=QO fun _ _ _ _ _ _ _ O q=>lshift_int_small O.1 O.2.1 O.2.2 q
theorem gN:Hx X (binaryOp .RShift) (rI (fun _ j=>0<=j) fun i j=>.int (i / 2^j.toNat)):=QO fun i j _ _ _ _ _ O q =>
 rshift_int O (by rw[Int.fdiv_eq_ediv_of_nonneg i (gT _)];exact q)
theorem gH:Hx X (binaryOp .BitAnd) (MU fun i j=>.int (Builtin.bitAnd i j)):=SH fun _ _ _ _ _ _ _ q=>and_int q
theorem lu:Hx X (binaryOp .BitOr) (MU fun i j=>.int (Builtin.bitOr i j)):=SH fun _ _ _ _ _ _ _ q=>or_int q
theorem kE:Hx X (binaryOp .BitXor) (MU fun i j=>.int (Builtin.bitXor i j)):=SH fun _ _ _ _ _ _ _ q=>xor_int q
theorem bL{f:A2->Sem A2}{g:Int->Int}
  (rule:∀ (i:Int) (t:Tok) (s:C0) (Q:KD) (E:KD),Q (.int (g i) s.toks) { s with toks:=s.toks+1 }->wpAny (model X.prog X.w) X.A (f (.int i t)) Q E s) :
  MZ X f (rU fun i=>.int (g i)):=by
 intro aa s σ H x v Q I S h;obtain⟨i,rfl,q⟩:=h;obtain⟨t,rfl⟩:=S;exact rule i t s _ _ ⟨.int (g i),H,I.tok _,⟨_,rfl⟩,q⟩
theorem md:MZ X (unaryOp .USub) (rU fun i=>.int (-i)):=bL fun _ _ _ _ _ q=>neg_int q
theorem jR:MZ X (unaryOp .Invert) (rU fun i=>.int (Builtin.bitNot i)):=bL fun _ _ _ _ _ q=>invert_int q
theorem VU{k k':Bool}(I:C' X aa σ H s)(q:Q (.bl k) H)(e:k=k'):EP X aa σ Q (.bool k') s:=by
 subst e;exact⟨.bl k,H,I,rfl,q⟩
theorem eA:Hx X (compareOp .Lt) (MU fun i j=>.bl (decide (i<j))):=WP fun _ _ _ _ _ _ _ q=>lt_int q
theorem d3:Hx X (compareOp .Gt) (MU fun i j=>.bl (decide (j<i))):=WP fun _ _ _ _ _ _ _ q=>gt_int q
theorem dI:Hx X (compareOp .GtE) (MU fun i j=>.bl (decide (j<=i))):=WP fun _ _ _ _ _ _ _ q=>ge_int q
theorem lT:Hx X (compareOp .In) (fun x y H Q=>∃ i j,x=.str i/\y=.str j/\Q (.bl (!(Builtin.Str.occurrences j i 0 j.length 1).isEmpty)) H):=by
 intro aa s σ H x y v u Q I S m h;obtain⟨i,j,rfl,rfl,q⟩:=h;obtain⟨t,rfl⟩:=S;obtain⟨t',rfl⟩:=m;exact in_str (VU I q rfl)
theorem fK:Hx X (compareOp .Is) (fun x y H Q=>y=.non/\Q (.bl (decide (x=.non))) H):=by
 intro aa s σ H x y v u Q I S m h;obtain⟨rfl,q⟩:=h;cases m;refine is_none_gen (VU I q ?_);cases x<;>first
   | (cases S;rfl)
   | (obtain⟨t,rfl⟩:=S;rfl)
theorem jS:Hx X (compareOp .IsNot) (fun x y H Q=>y=.non/\Q (.bl (!decide (x=.non))) H):=by
 intro aa s σ H x y v u Q I S m h;obtain⟨rfl,q⟩:=h;cases m;refine isnot_none_gen (VU I q ?_);cases x<;>first
   | (cases S;rfl)
   | (obtain⟨t,rfl⟩:=S;rfl)
theorem Y1(b:C4)(h:op≠.In:=by decide)(h2:op≠.NotIn:=by decide):behindInMarks op b=false:=by
 have e1:(op==CmpOp.In)=false:=by cases op<;>first | rfl | exact absurd rfl h
 have e2:(op==CmpOp.NotIn)=false:=by cases op<;>first | rfl | exact absurd rfl h2
 cases b<;>simp[behindInMarks,e1,e2]
theorem lJ{r:R2}(J:Hx X (compareOp op) r)(ha:PE X a ta)(U:PE X b tb)(hm:behindInMarks op b=false):PE X (.Compare a [op] [b] pos) (QI r ta tb):=by
 intro aa s σ H Q I h;exact wpAny_Compare1 (VS ha U I h fun v u s2 x y H2 I2 S m q=>J aa s2 σ H2 x y v u Q I2 S m q) hm
def mR(t:TE):TT:=fun σ H Q=>t σ H fun x H'=>∃ k,x=.bl k/\Q k H'
theorem f9{r:R2}(J:Hx X (compareOp op) r)(ha:PE X a ta)(U:PE X b tb)(hm:behindInMarks op b=false):PT X (.Compare a [op] [b] pos) (mR (QI r ta tb)):=by
 intro aa s σ H Q I h;refine wpAny_isTrue_Compare1 (Vk (ha aa s σ H _ I h) fun v s1 ⟨x,H1,I1,r1,q1⟩=>Vk (U aa s1 σ H1 _ I1 q1) fun u s2 ⟨y,H2,I2,r2,q2⟩ =>
  Vk (J aa s2 σ H2 x y v u _ I2 r1 r2 q2) fun c C ⟨z,G,I3,r3,k,e,q3⟩=>?_) hm
 subst e;cases r3;exact EB ⟨G,I3,q3⟩
def cY(K:JT)(x:V)(H:Hp)(k:Bool):Prop :=
 match x with
 | .non=>k=false
 | .bl b=>k=b
 | .int i=>k=(i != 0)
 | .str y=>y.length<=sizeLine/\k=((y.length:Int) != 0)
 | .byt y=>y.size<=sizeLine/\k=((y.size:Int) != 0)
 | .ref p=>(∃ xs,Hk K H p xs/\k=!xs.isEmpty)\/(∃ xs,Hw K H p xs/\k=!xs.isEmpty)\/∃ kvs,H p=some (.dK kvs)/\k=!kvs.isEmpty
 | _=>False
theorem gz{kvs:C3 (κ×V)}{vs:C3 (κ×A2)}(r:KV kvs vs):(!vs.isEmpty)=!kvs.isEmpty:=by
 cases r<;>rfl
theorem Xt(r:Y5 xs its):(!its.toArray.isEmpty)=!xs.isEmpty:=by
 cases r<;>simp
theorem Ie:(sizeLine:Nat)<2^63:=by rw[DV];decide
theorem iM:dN X (fun x H Q=>∃ k,cY X.K x H k/\Q k H):=by
 intro aa s σ H x v Q I S h;obtain⟨k,e,q⟩:=h;have hl:=Ie;have hs:sizeLine=16777216:=DV;cases x with
 | non =>
  cases S;have e':k=false:=e;subst e';exact truthy_none ⟨H,I,q⟩
 | bl b =>
  cases S;have e':k=b:=e;subst e';exact EB ⟨H,I,q⟩
 | int i =>
  obtain⟨t,rfl⟩:=S;have e':k=(i != 0):=e;subst e';exact PySem.P.truthy_int ⟨H,I,q⟩
 | str y =>
  obtain⟨t,rfl⟩:=S;obtain⟨hy,e'⟩:y.length<=sizeLine/\k=((y.length:Int) != 0):=e;subst e';exact PySem.P.truthy_str (by lia) ⟨H,I.tok _,q⟩
 | byt y =>
  obtain⟨t,rfl⟩:=S;obtain⟨hy,e'⟩:y.size<=sizeLine/\k=((y.size:Int) != 0):=e;subst e';exact PySem.W.truthy_bytes (by lia) ⟨H,I.tok _,q⟩
 | ref p =>
  cases S;have e':(∃ xs,Hk X.K H p xs/\k=!xs.isEmpty)\/(∃ xs,Hw X.K H p xs/\k=!xs.isEmpty)\/∃ kvs,H p=some (.dK kvs)/\k=!kvs.isEmpty:=e;rcases e' with⟨xs,hx,e'⟩ | ⟨xs,hx,e'⟩ | ⟨kvs,hx,e'⟩
  ·subst e'
   obtain⟨its,r,pl,hz⟩:=I.list hx;have ae:=r.length;exact wpAny_truthy_list pl.isList (by simp only[AT];lia) ⟨H,I.tok _,by rw[Xt r];exact q⟩
  ·subst e'
   obtain⟨its,r,pl,hz⟩:=I.tuple hx;have ae:=r.length;exact truthy_tuple pl (by simp only[AT];lia) ⟨H,I.tok _,by rw[Xt r];exact q⟩
  ·subst e'
   obtain⟨hz,hS,vs,r,m⟩:kvs.length<=sizeLine/\(p==sysModules)=false/\∃ vs,KV kvs vs/\s.heap.DictOf (U8 X.prog X.w) p vs:=I.hok p _ hx;have ae:kvs.length=vs.length:=IH r;exact wpAny_truthy_dict hS m (by lia) ⟨H,I.tok _,by rw[gz r];exact q⟩
 | _=>exact(show False from e).elim
theorem hO(ha:PE X a ta)(he:∀ c,isTrue a X.env c=(do let v ← c;standAt a.pos;holding [v] (truthy v))) :
  PT X a (fun σ H Q=>ta σ H fun x H'=>∃ k,cY X.K x H' k/\Q k H'):=by
 intro aa s σ H Q I h;exact isTrue_plain (Vk (ha aa s σ H _ I h) fun v s1 ⟨x,H1,I1,r1,q1⟩=>iM aa s1 σ H1 x v Q I1 r1 q1) (he _)
theorem iT:Hx X (binaryOp .Add) (fun x y H Q=>∃ i j,x=.str i/\y=.str j/\i.length+j.length<=sizeLine/\Q (.str (i++j)) H):=by
 intro aa s σ H x y v u Q I S m h;obtain⟨i,j,rfl,rfl,hz,q⟩:=h;obtain⟨t,rfl⟩:=S;obtain⟨t',rfl⟩:=m;exact add_str (fun t' tk=>⟨.str (i++j),H,I.tok _,⟨_,rfl⟩,q⟩) hz
theorem Ef{x:V}(r:Y5 [x] us):∃ u,us=[u]/\W2 x u:=by
 cases r with
 | cons r1 r2=>cases r2;exact⟨_,rfl,r1⟩
theorem RF{x y:V}(r:Y5 [x,y] us):∃ u l,us=[u,l]/\W2 x u/\W2 y l:=by
 cases r with
 | cons r1 r2 =>
  cases r2 with
  | cons r3 r4=>cases r4;exact⟨_,_,rfl,r1,r3⟩
theorem dJ(O:X.calm=true):Uf X (.builtin "max") (fun xs H Q=>∃ i j,xs=[.int i,.int j]/\Q (.int (if j > i then j else i)) H):=by
 intro aa s σ H xs us Q I r h;obtain⟨i,j,rfl,q⟩:=h;obtain⟨u,l,rfl,⟨t,rfl⟩,⟨t',rfl⟩⟩:=RF r;refine max_two_ints (I.ok.hd O) fun h' tk k=>⟨_,H,I.kept k,?_,q⟩
 by_cases hj:j > i
 ·rw[AG hj,AG hj];exact⟨_,rfl⟩
 ·rw[AQ hj,AQ hj];exact⟨_,rfl⟩
theorem mL(O:X.calm=true):Uf X (.builtin "min") (fun xs H Q=>∃ i j,xs=[.int i,.int j]/\Q (.int (if j<i then j else i)) H):=by
 intro aa s σ H xs us Q I r h;obtain⟨i,j,rfl,q⟩:=h;obtain⟨u,l,rfl,⟨t,rfl⟩,⟨t',rfl⟩⟩:=RF r;refine min_two_ints (I.ok.hd O) fun h' tk k=>⟨_,H,I.kept k,?_,q⟩
 by_cases hj:j<i
 ·rw[AG hj,AG hj];exact⟨_,rfl⟩
 ·rw[AQ hj,AQ hj];exact⟨_,rfl⟩
end
section
variable{x f:A4}{mA:KB}
end
section
variable{a:A4}{aM:C3 (Str×V)}
end
section
variable{a:A4}{f:Str}{v:V}
end
section
variable{o ap:C4}{f:Str}{aC:Pos}{tv:TE}
end
section
variable{Q:KD}{c:A2}{b:Bool}
end
variable{f:A4}{E:XK}
structure JQ (k:Nat) (A:Around):Prop where
 hd:A.handled=none
 dp:A.depth+3*k+5<recursionLimit
 un:A.units+16*k+200<cLine
 gd:A.guards=some []
theorem JQ.mono(r:JQ k A)(h:j<=k:=by lia):JQ j A:=⟨r.hd,by have:=r.dp;lia,by have:=r.un;lia,r.gd⟩
theorem JQ.deeper(r:JQ (k+1) A)(env:IA):JQ k (A.deeper env) :=
 ⟨r.hd,by have:=r.dp;show A.depth+1+3*k+5<_;lia,by have:=r.un;show A.units+3+16*k+200<_;lia,r.gd⟩
theorem Xy:(A.under (.builtin "type.__call__" ⟨.ref C::us,kw⟩)).depth=A.depth+1:=by
 first | rfl | simp[Around.under,Code.weight,Code.isCreation,Code.isGuard,Code.isCaller,Code.frames,Code.isFrame,guardIds]
theorem Xc:(A.under (.builtin "type.__call__" ⟨.ref C::us,kw⟩)).units=A.units+1:=by
 first | rfl | simp[Around.under,Code.cUnits,Code.frames,Code.isFrame]
theorem JQ.make(r:JQ (k+1) A)(C:A4)(us:C3 A2)(kw:C3 (Str×A2)):JQ k (A.under (.builtin "type.__call__" ⟨.ref C::us,kw⟩)) :=
 ⟨r.hd,by have:=r.dp;rw[Xy];lia,by have:=r.un;rw[Xc];lia,r.gd⟩
theorem JQ.depth(r:JQ k A):A.depth<recursionLimit:=by have:=r.dp;lia
theorem JQ.units(r:JQ k A):A.units+64<cLine:=by have:=r.un;lia
def Bi:TA:=fun _ H Q=>Q [] H
def D6(ta:TE)(M:TA):TA:=fun σ H Q=>ta σ H fun x H1=>M σ H1 fun xs H2=>Q (x::xs) H2
section
variable{t:TA}
theorem U3:PA X [] Bi:=fun _ _ _ _ H Q I h=>Calls.spliced_nil ⟨[],H,I,.nil,h⟩
theorem Yu(ha:PE X e te)(Z:PA X es t)(hs:starEach (e::es) X.env=(false,eval e X.env)::starEach es X.env:=by rfl):PA X (e::es) (D6 te t):=by
 intro pos aa s σ H Q I h;rw[hs];show wpAny _ _ (spliced ((false,eval e X.env)::backTo pos (starEach es X.env))) _ _ s;refine Calls.spliced_cons (Vk (ha aa s σ H _ I h) fun u s1 ⟨x,H1,I1,r1,q1⟩=>?_);exact Vk (Z pos aa s1 σ H1 _ I1 q1) fun us s2 ⟨xs,H2,I2,r2,q2⟩=>⟨x::xs,H2,I2,.cons r1 r2,q2⟩
def dr(t:TA):TE:=fun σ H Q=>t σ H fun xs H1=>xs.length<=sizeLine/\∀ p,H1 p=none->Q (.ref p) (W7 H1 p (.tup xs))
def iu(t:TA):TE:=fun σ H Q=>t σ H fun xs H1=>xs.length<=sizeLine/\∀ p,H1 p=none->Q (.ref p) (W7 H1 p (.lst xs))
theorem n7{x1}(h:PA X es t):PE X (.Tuple es x1 pos) (dr t):=by
 intro aa s σ H Q I hq;refine wpAny_Tuple_spliced (Vk (h pos aa s σ H _ I hq) fun us s1 ⟨xs,H1,I1,r,z,q⟩=>⟨by rw[← r.length];exact z,?_⟩);have hf:H1 s1.heap.objs.size=none:=I1.hok.fresh (AY _);refine⟨.ref s1.heap.objs.size,W7 H1 s1.heap.objs.size (.tup xs),I1.laid (t':=s1.toks) (fun b u e=>AF _ e) (AY _) ?_,rfl,q _ hf⟩;exact⟨z,us,r,⟨_,BA _ rfl,rfl,_,rfl⟩⟩
theorem cw(h:PA X es t):PE X (.List es pos) (iu t):=by
 intro aa s σ H Q I hq;refine wpAny_List_spliced (Vk (h pos aa s σ H _ I hq) fun us s1 ⟨xs,H1,I1,r,z,q⟩=>⟨by rw[← r.length];exact z,?_⟩);have hf:H1 s1.heap.objs.size=none:=I1.hok.fresh (AY _);refine⟨.ref s1.heap.objs.size,W7 H1 s1.heap.objs.size (.lst xs),I1.laid (t':=s1.toks) (fun b u e=>AF _ e) (AY _) ?_,rfl,q _ hf⟩;exact⟨z,us,0,r,BA _ rfl⟩
end
abbrev Sp:=C3 V->Hp->VK->XK->Prop
abbrev F9:=C3 IA->Hp->C0->XK->A2->C0->Prop
structure KQ (P:Program) (w:World) (K:JT) (mg:KB) (base:Heap) (A:Around) (outer:List Env) (s:Shared) (H:Hp):Prop where
 frames:A.frames=some outer
 mod:Mod K mg base
 bs:∀ b o,base.get? b=some o->s.heap.get? b=some o/\H b=none
 bsz:base.objs.size<=s.heap.objs.size
 funs:s.heap.FunFrames base outer
 frf:∀ b∈He outer,H b=none
 hok:Ee P w H s.heap
 bare:AllBare s.gens
def CE(outer:C3 IA)(P:Ff)(w:Fn)(H:Hp)(s:C0)(Q:VK)(u:A2)(s':C0):Prop :=
 ∃ v H',s'.os=s.os/\AllBare s'.gens/\Un (He outer) [] H H' s.heap s'.heap/\Ee P w H' s'.heap/\W2 v u/\Q v H'
def CR(CX:F9)(outer:C3 IA)(P:Ff)(w:Fn)(H:Hp)(s:C0)(Q:VK)(E:XK)(r:Result)(s':C0):Prop :=
 match r with
 | .ok (.ret u)=>CE outer P w H s Q u s'
 | .ok _=>False
 | .error e=>CX outer H s E e s'
structure KC (P:Program) (w:World) (K:JT) (mg:KB) (base:Heap) (CX:F9) (k:Nat) (f:Addr) (fd:FuncData) (ps:List Str) (sp:Sp):Prop where
 len:∀ vs H Q E,sp vs H Q E->vs.length=ps.length
 run:∀ (A:Around) (outer:List Env) (s:Shared) (H:Hp) (args:Args) (us:List Value) (vs:List V) (Q:VK) (E:XK),JQ k A->KQ P w K mg base A outer s H->BindsTo s fd args (ps.zip us)->Y5 vs us->sp vs H Q E ->
  codeAny (model P w) A (.call (.ref f) args) (CR CX outer P w H s Q E) s
theorem KQ.make(e:KQ P w K mg base A outer s H)(C:A4)(us:C3 A2)(kw:C3 (Str×A2)) :
 KQ P w K mg base (A.under (.builtin "type.__call__" ⟨.ref C::us,kw⟩)) outer s H:=⟨by first | exact e.frames | (simpa[Around.under,Code.envs,Code.isFrame,pushEnvs] using e.frames),e.mod,e.bs,e.bsz,e.funs,e.frf,e.hok,e.bare⟩
theorem C'.env0(I:C' X aa σ H s):KQ X.prog X.w X.K X.mg X.base X.A X.stack s H :=
 ⟨I.ok.frames,I.ok.mod,I.bs,AZ I.ok.bsz I.sz,I.stack,I.stkFree,I.hok,I.bare⟩
theorem C'.after(I:C' X aa σ H s)(h:CE X.stack X.prog X.w H s Q u s'):EP X aa σ Q u s':=by
 obtain⟨v,H',os,bare,un,hok,r,q⟩:=h;obtain⟨hh,g,d,t,a⟩:=s';obtain rfl:a=s.os:=os;exact⟨v,H',I.call (h':=hh) (g':=g) (d':=d) (t':=t) (ch:=[]) un hok bare (fun b z=>absurd z (by simp)),r,q⟩
variable{CX:F9}{sp:Sp}
def SV(sp:Sp)(dvs:C3 V)(E:XK)(t:TA):TE:=fun σ H Q=>t σ H fun vs H1=>sp (vs++dvs) H1 Q E
def Si(K:JT)(fd:Df)(ps:C3 Str)(ds:C3 A2):Prop :=
 ∀ (s:C0) (us:C3 A2),K.In s.heap->(us++ds).length=ps.length->BindsTo s fd ⟨us,[]⟩ (ps.zip (us++ds))
theorem Si.all(h:∀ us:C3 A2,us.length=ps.length->bindArgs fd ⟨us,[]⟩=pure (ps.zip us)):Si K fd ps []:=fun s us _ hl=>by
 rw[FF] at hl ⊢;exact .of_eq (h us hl)
def X3(CX:F9)(X:Cx)(E:XK):Prop:=∀ (aa:J1) (σ:St) (H:Hp) (s:C0) (e:A2) (s':C0),C' X aa σ H s->CX X.stack H s E e s'->X.xe e s'
section
variable{dvs:C3 V}{ds:C3 A2}{x:Str}{o:C4}{t:TA}
theorem lW(F:KC X.prog X.w X.K X.mg X.base CX k f fd ps sp)(Z:JQ k X.A)(U:Si X.K fd ps ds)(hd:Y5 dvs ds)(hx:X3 CX X E)
  (I:C' X aa σ H s) (r:Y5 vs us) (h:sp (vs++dvs) H Q E):wpAny (model X.prog X.w) X.A (call (.ref f) us) (EP X aa σ Q) X.xe s:=by
 have r2:Y5 (vs++dvs) (us++ds):=r.append hd;have hl:(us++ds).length=ps.length:=by rw[← r2.length];exact F.len _ _ _ _ h
 refine FV (EW (F.run X.A X.stack s H ⟨us,[]⟩ (us++ds) (vs++dvs) Q E Z I.env0 (U s us I.kIn hl) r2 h) fun r s' hq=>?_);cases r with
 | error e=>exact hx aa σ H s e s' I hq
 | ok fl =>
  cases fl with
  | ret u=>exact I.after hq
  | next=>exact False.elim hq
  | brk=>exact False.elim hq
  | cont=>exact False.elim hq
theorem dj(F:KC X.prog X.w X.K X.mg X.base CX k f fd ps sp)(Z:JQ k X.A)(hg:Gl X x)(hm:X.mg x=some (.ref f))(Y:PySem.W.keepIn X.K (.ref f)=true)(U:Si X.K fd ps ds)(hd:Y5 dvs ds)(hx:X3 CX X E)
  (ha:PA X (e::es) t) (P:(x==("__debug__" : Str))=false:=by decide) (he:starEach (e::es) X.env=(false,eval e X.env)::starEach es X.env:=by rfl) (af:(backTo pos (starEach es X.env)).any (·.1)=false:=by rfl) :
  PE X (.Call (.Name x p) (e::es) [] pos) (SV sp dvs E t):=by
 intro aa s σ H Q I h;refine CQ (Uj I hg hm ?_ P);refine GJ (h₀:=X.base) I.ok.mod.kin Y (Vk (ha pos aa s σ H _ I h) fun us s1 ⟨vs,H1,I1,r,q⟩=>⟨I1.kIn,?_⟩) he af;exact lW F Z U hd hx I1 r q
end
section
variable{ks:C3 Str}{x:Str}{aO:Pos}{o:C4}{aX:C3 Keyword}{t tk:TA}{nm:C2 Str}
variable{g:C3 A2->C3 A2->C3 A2}{gV:C3 V->C3 V->C3 V}
end
structure FnScope (N P:List Str) (sc:Scope):Prop where
 kind:sc.kind=.function
 co:sc.isCoroutine=false
 gen:sc.isGenerator=false
 nd:N.Nodup
 pre:N.take P.length=P
 par:∀ x∈P,sc.names.lookup x=some .local\/sc.names.lookup x=some .cell
 nofree:∀ y∈sc.names,y.2≠.free
theorem Fq{kindOf:Str->C2 NameKind}{x:Str}:∀ {binds:C3 (Str×A2)} {m:KB},(∀ v,(x,v)∉binds)->bindL kindOf binds m x=m x
 | [],_,_=>rfl
 | (n,v)::r,m,h=>by
   unfold bindL;rw[Fq fun w hw=>h w (AX _ hw)];split
   · have:x≠n:=by rintro rfl;exact h v AW
     simp[this]
   · rfl
theorem Fg{kindOf:Str->C2 NameKind}{x:Str}:∀ {binds:C3 (Str×A2)} {m:KB},(∀ v,(x,v)∉binds)->bindC kindOf binds m x=m x
 | [],_,_=>rfl
 | (n,v)::r,m,h=>by
   unfold bindC;rw[Fg fun w hw=>h w (AX _ hw)];split
   · rfl
   · have:x≠n:=by rintro rfl;exact h v AW
     simp[this]
theorem Lk{kindOf:Str->C2 NameKind}{x:Str} :∀ {P:C3 Str} {vs:C3 A2} {i:Nat} {m:KB},P.Nodup->P[i]?=some x->vs[i]?=some v->kindOf x=some .local ->
  bindL kindOf (P.zip vs) m x=some v
 | [],_,_,_,_,h,_,_=>by simp at h
 | _::_,[],_,_,_,_,h,_=>by simp at h
 | p::P,w::vs,0,m,nd,h1,h2,Y=>by
  simp at h1 h2;subst h1;subst h2;show bindL kindOf ((p,w)::P.zip vs) m p=_;unfold bindL;rw[Fq fun v hv=>(DB.mp nd).1 (IP hv).1,AG Y];simp
 | p::P,w::vs,i+1,m,nd,h1,h2,Y=>by
  show bindL kindOf ((p,w)::P.zip vs) m x=_;unfold bindL;exact Lk (i:=i) (DB.mp nd).2 (by simpa using h1) (by simpa using h2) Y
theorem Lw{kindOf:Str->C2 NameKind}{x:Str} :∀ {P:C3 Str} {vs:C3 A2} {i:Nat} {m:KB},P.Nodup->P[i]?=some x->vs[i]?=some v->kindOf x≠some .local ->
  bindC kindOf (P.zip vs) m x=some v
 | [],_,_,_,_,h,_,_=>by simp at h
 | _::_,[],_,_,_,_,h,_=>by simp at h
 | p::P,w::vs,0,m,nd,h1,h2,Y=>by
  simp at h1 h2;subst h1;subst h2;show bindC kindOf ((p,w)::P.zip vs) m p=_;unfold bindC;rw[Fg fun v hv=>(DB.mp nd).1 (IP hv).1,AQ Y];simp
 | p::P,w::vs,i+1,m,nd,h1,h2,Y=>by
  show bindC kindOf ((p,w)::P.zip vs) m x=_;unfold bindC;exact Lw (i:=i) (DB.mp nd).2 (by simpa using h1) (by simpa using h2) Y
def JU(N:C3 Str)(vs:C3 V):St:=vs.map some++List.replicate (N.length - vs.length) none
def Qq(CX:F9)(P:Ff)(w:Fn)(K:JT)(mg:KB)(base:Gf)(N:C3 Str)(ai:Str)(scope:H3)(f:A4)(cd:A2)(A:C1)(outer:C3 IA)(s:C0)(H:Hp)(E:XK):Cx where
 prog:=P
 w:=w
 K:=K
 mg:=mg
 base:=base
 A:=A.deeper (envOfC ai scope s.heap.objs.size f cd)
 N:=N
 s₀:=s
 H₀:=H
 env:=envOfC ai scope s.heap.objs.size f cd
 outer:=outer
 stack:=envOfC ai scope s.heap.objs.size f cd::outer
 ex:=[]
 calm:=true
 fn:=fun _=>true
 pn:=[]
 xe:=fun e s'=>wpAny (model P w) (A.deeper (envOfC ai scope s.heap.objs.size f cd)) (leaving (envOfC ai scope s.heap.objs.size f cd) e) (fun _ b=>CX outer H s E e b) (fun e' b=>CX outer H s E e' b) s'
theorem L3{n:Nat}{x:Str}(h:sc.names.lookup x=some .cell):∃ c,(cellsFrom n sc.names []).lookup x=some c:=by
 have q:=HX sc.names n [] (.inl h);exact EY.mp q
theorem jP{cd:A2}{s1:C0} 
  (S:FnScope N ps scope) (hd:A.handled=none) (C:KQ P w K mg base A outer s H) (hl:vs.length=ps.length) (r:Y5 vs us)
  (x:InCallC s s.heap.objs.size (bindL (envOfC ai scope s.heap.objs.size f cd).kindOf (ps.zip us) fun _=>none) (cellsFrom (s.heap.objs.size+1) scope.names []) (bindC (envOfC ai scope s.heap.objs.size f cd).kindOf (ps.zip us) fun _=>none) s1) :
  C' (Qq CX P w K mg base N ai scope f cd A outer s H E) [] (JU N vs) H s1:=by
 have af:ps.length<=N.length:=by have:=CV List.length S.pre;rw[CJ] at this;lia
 obtain⟨h1,tk,rfl,Y⟩:=x.done;have j:∀ b:A4,b∉(Qq CX P w K mg base N ai scope f cd A outer s H E).ex:=fun b z=>absurd (show b∈([]:C3 A4) from z) (by simp)
 refine⟨⟨C.mod,S.kind,rfl,rfl,AY _,fun y z c h1 h2=>?_,fun y hy=>?_,fun y c _ h=>?_,fun _=>hd,Around.frames_deeper C.frames,.inr ⟨rfl,rfl⟩,fun b z=>absurd z (j b),C.bs,C.bsz,fun b _ _=>j b,fun b z=>absurd z (j b),C.funs,C.frf⟩,
  rfl,C.bare,Un.kept Y,⟨_,x.toInCall.ns,fun i y v h1 h2 h3=>?_⟩,fun y c h=>⟨_,x.cell y c h⟩,C.hok.fresh (AY _),fun y c h=>?_,fun p hp=>absurd (show p∈([]:J1) from hp) (by simp),C.hok.kept Y,?_⟩
 ·exact name_of_addr x.apart (BO h1) (BO h2)
 ·have hy:scope.names.lookup y=some .cell\/scope.names.lookup y=some .free:=hy
  rcases hy with hy | hy
  ·exact L3 hy
  ·exact absurd rfl (S.nofree _ (BO hy))
 ·exact DW (x.above y c (BO h))
 ·have hi:i<vs.length:=by
   unfold JU at h2;by_cases hi:i<vs.length
   ·exact hi
   ·rw[CM (by simpa using hi)] at h2
    rw[FC] at h2;split at h2<;>cases h2
  have ha:vs[i]?=some v:=by
   unfold JU at h2;rw[BG (by simpa using hi),AM] at h2;cases e:vs[i]? with
   | none=>rw[e] at h2;cases h2
   | some a=>rw[e] at h2;cases h2;rfl
  obtain⟨u,hu,L⟩:=r.get ha;have hp:ps[i]?=some y:=by
   rw[← S.pre,List.getElem?_take_of_lt (by lia)];exact h1
  have d:ps.Nodup:=by rw[← S.pre];exact S.nd.sublist (List.take_sublist _ _)
  refine⟨u,L,?_⟩;rcases S.par y (AI hp) with k | k
  ·exact .inl ⟨k,Lk d hp hu k⟩
  ·obtain⟨c,e⟩:=L3 (n:=s.heap.objs.size+1) k
   refine .inr ⟨.inl k,c,e,?_⟩;have q:=x.cell y c e;rw[Lw d hp hu (by show scope.names.lookup y≠_;rw[k];decide)] at q;exact q
 ·exact C.hok.fresh (DW (x.above y c (BO h)))
 ·unfold JU
  show _=N.length;rw[AN,AC,EF];lia
theorem YT{params:Arguments}{dV kV:A2} 
  {j:Array (C2 A2)} {N ps:C3 Str} {sp:Sp} (lk:K.lookup f=some ⟨oc,od,.func (PySem.W.fnOf name ai params body scope dV kV au pm an ah ct),j⟩) (M:PySem.W.codeIn K ah ai=true) (S:FnScope N ps scope)
  (len:∀ vs H Q E,sp vs H Q E->vs.length=ps.length)
  (a:∀ (A:C1) (outer:C3 IA) (s:C0) (H:Hp) (vs:C3 V) (Q:VK) (E:XK),JQ k (A.deeper (envOfC ai scope s.heap.objs.size f ah))->sp vs H Q E ->
   ∃ t,Gr (Qq CX P w K mg base N ai scope f ah A outer s H E) body t/\t { nx:=fun _ H'=>Q .non H',rt:=Q } (JU N vs) H) :
  KC P w K mg base CX (k+1) f (PySem.W.fnOf name ai params body scope dV kV au pm an ah ct) ps sp:=by
 refine⟨len,fun A outer s H args us vs Q E Z C U r i=>?_⟩;have hl:=len _ _ _ _ i;have p:K.In s.heap:=C.mod.kin.keeps fun b o e=>(C.bs b o e).1
 have d:s.heap.NoLimit:=C.mod.nolimit.keeps fun b o e=>(C.bs b o e).1
 have c:∀ y∈ps.zip us,scope.names.lookup y.1=some .local\/(scope.names.lookup y.1=some .cell/\((cellsFrom (s.heap.objs.size+1) scope.names []).lookup y.1).isSome=true):=fun⟨n,v⟩ hy=>by
  rcases S.par n (IP hy).1 with q | q
  ·exact .inl q
  ·exact .inr ⟨q,HX _ _ _ (.inl q)⟩
 refine codeAny_call_function Z.depth (p _ _ lk) rfl S.co S.gen rfl (codeRec_of p M) (U _ _ _ _ ?_);refine wpAny_newFunctionEnv_cells S.kind c fun env he s1 x=>?_
 subst he;refine⟨d.keeps x.toInCall.keep,codeAny_func ?_⟩;obtain⟨t,ht,hq⟩:=a A outer s H vs Q E (Z.deeper _) i;have I:C' (Qq CX P w K mg base N ai scope f ah A outer s H E) [] (JU N vs) H s1:=jP S Z.hd C hl r x;refine BM (ht [] s1 (JU N vs) H _ I hq) (fun fl s' hs=>?_) fun e s' hs=>hs
 have B:∀ {σ':St} {H':Hp} {v:V} {u:A2},C' (Qq CX P w K mg base N ai scope f ah A outer s H E) [] σ' H' s'->W2 v u->Q v H'->CE outer P w H s Q u s' :=
  fun {σ' H' v u} J L q=>⟨v,H',J.os,J.bare,J.base,J.hok,L,q⟩
 cases fl with
 | ret u =>
  obtain⟨v,σ',H',J,L,q⟩:=hs;exact B J L q
 | next =>
  obtain⟨σ',H',J,q⟩:=hs;exact B (v:=V.non) (u:=Value.none) J rfl q
 | brk =>
  obtain⟨_,_,_,q⟩:=hs;exact False.elim q
 | cont =>
  obtain⟨_,_,_,q⟩:=hs;exact False.elim q
section
variable{x:Str}{t:TA}{id:String}{r:C3 V->Hp->VK->Prop}
def QJ(r:C3 V->Hp->VK->Prop)(t:TA):TE:=fun σ H Q=>t σ H fun vs H1=>r vs H1 Q
theorem K1(O:Uf X (.builtin id) r)(hg:Gl X x)(hm:X.mg x=none)(hv:bootBuiltins x=some (.builtin id))(ha:PA X (e::es) t)(hn:x≠"__name__" := by decide)(P:(x==("__debug__" : Str))=false:=by decide)
  (he:starEach (e::es) X.env=(false,eval e X.env)::starEach es X.env:=by rfl) (af:(backTo pos (starEach es X.env)).any (·.1)=false:=by rfl):PE X (.Call (.Name x p) (e::es) [] pos) (QJ r t):=by
 intro aa s σ H Q I h;refine CQ (Dw I hg hm hv ?_ hn P);exact PyProof.Rows.callWith_builtin1 (Vk (ha pos aa s σ H _ I h) fun us s1 ⟨vs,H1,I1,r1,q1⟩=>O aa s1 σ H1 vs us Q I1 r1 q1) he af
theorem J9(O:Uf X (.type T) r)(hg:Gl X x)(hm:X.mg x=none)(hv:bootBuiltins x=some (.type T))(ha:PA X (e::es) t)(hn:x≠"__name__" := by decide)(P:(x==("__debug__" : Str))=false:=by decide)
  (he:starEach (e::es) X.env=(false,eval e X.env)::starEach es X.env:=by rfl) (af:(backTo pos (starEach es X.env)).any (·.1)=false:=by rfl):PE X (.Call (.Name x p) (e::es) [] pos) (QJ r t):=by
 intro aa s σ H Q I h;refine CQ (Dw I hg hm hv ?_ hn P);exact DL (Vk (ha pos aa s σ H _ I h) fun us s1 ⟨vs,H1,I1,r1,q1⟩=>O aa s1 σ H1 vs us Q I1 r1 q1) he af
end
end L2
variable{vs xs ys:C3 L2.V}{v:L2.V}{X:L2.Cx}{te tl ta tb to:L2.TE}{r r':L2.V->C2 Int->C2 Int->L2.Hp->L2.VK->Prop}{σ:L2.St}{H H' H1:L2.Hp}{p:PySem.Addr}{f:PySem.Value->PySem.Value->PySem.Sem PySem.Value}{sp:L2.Sp}{fs:C3 (C2 Nat)}{tc tt:L2.TT}{g:Int->Int->L2.V}{wi:L2.TI}{m:Bool}{is:C3 Nat}
namespace HT
open PySem PyProof.Rows
section
open PySem.SeqAt

open PySem.MeetsSeq PySem.MeetsSeq2 PySem.MeetsSeq3
end
theorem cat_tup{t b:A4}{vs ws:C3 A2}(ht:IsTup s.heap t vs.toArray)(U:IsTup s.heap b ws.toArray)(hv:vs≠[])
  (h1:ws=[]->Q (.ref t) s) (h2:ws≠[]->Q (.ref s.heap.objs.size) { s with heap:=s.heap.push { cls:=.type "tuple",data:=.seq (vs++ws).toArray } })
  (hsz:vs.length+ws.length<=sizeLine):wpAny (model prog w) A (binaryOp .Add (.ref t) (.ref b)) Q E s:=by
 obtain⟨⟨cls,dd,data,sl⟩,J,O,n,hd⟩:=id ht;obtain⟨⟨g,d,data2,f⟩,c,D,n2,a⟩:=id U;simp only at O hd D a;subst O hd D a;have e:vs.toArray++ws.toArray=(vs++ws).toArray:=by simp
 by_cases hw:ws=[]
 ·exact JM ⟨_,J,rfl⟩ ⟨_,c,rfl⟩ IT JH HC GS (GK _ _)
   (tuple_addW1 t b vs.toArray ws.toArray n n2 dd d sl f (by simpa using hv) (by simp[hw])) ⟨J,c,h1 hw⟩
 ·refine JM ⟨_,J,rfl⟩ ⟨_,c,rfl⟩ IT JH HC GS (GK _ _)
   (tuple_addW2 t b vs.toArray ws.toArray n n2 dd d sl f (by simpa using hv) (by simpa using hw) (by rw[AT,AT];exact hsz)) ⟨J,c,?_⟩
  rw[e];exact h2 hw
def sIx(n d:Nat):C2 Int->Nat
 | none=>d
 | some v=>if v<0 then(v+(n:Int)).toNat else min v.toNat n
theorem sIx_none(n d:Nat):sIx n d none=d:=rfl
theorem sIx_nat(n d k:Nat):sIx n d (some (k:Int))=min k n:=by
 show(if(k:Int)<0 then((k:Int)+(n:Int)).toNat else min (k:Int).toNat n)=min k n;rw[AQ (by lia),CA]
theorem sIx_le(n d:Nat)(hd:d<=n)(o:C2 Int):sIx n d o<=n:=by
 cases o with
 | none=>exact hd
 | some v =>
  show(if v<0 then(v+(n:Int)).toNat else min v.toNat n)<=n;by_cases hv:v<0
  ·rw[AG hv];lia
  ·rw[AQ hv];exact Nat.min_le_right _ _
theorem clip_eq(v:Int)(n d:Nat):(if v<0 then max (v+(n:Int)) 0 else min v (n:Int))=((sIx n d (some v):Nat):Int):=by
 show(if v<0 then max (v+(n:Int)) 0 else min v (n:Int))=(((if v<0 then(v+(n:Int)).toNat else min v.toNat n):Nat):Int);by_cases hv:v<0
 ·simp only[AG hv];lia
 ·simp only[AQ hv];lia
theorem iq(lo hi:C2 Int)(n:Nat):Builtin.Slice.sliceAdjust lo hi 1 (n:Int)=(((sIx n 0 lo:Nat):Int),((sIx n n hi:Nat):Int)):=by
 have h1:¬ ((1:Int)<0):=by lia
 unfold Builtin.Slice.sliceAdjust;simp only[h1,HZ];refine IB ?_ ?_
 ·cases lo with
  | none=>rfl
  | some v=>exact clip_eq v n 0
 ·cases hi with
  | none=>rfl
  | some v=>exact clip_eq v n n
theorem dy(i j:Nat):Builtin.Slice.slicePlaces (i:Int) (j:Int) 1=j - i:=by
 unfold Builtin.Slice.slicePlaces;have h1:(1:Int) > 0:=by lia
 simp only[h1,IS,Int.ediv_one];split<;>lia
theorem P9{v:A2}{o:C2 Int}{Q:C2 Int->C0->Prop}(p:IsPart v o)(h:Q o s):wpAny (model prog w) A (Builtin.Slice.slicePartIndex v) Q E s:=by
 cases p with
 | none=>exact slicePart_none h
 | int i t=>exact slicePart_int h
theorem Dc{sl:A4}{n:Nat}{Q:Int×Int×Nat->C0->Prop}(hs:s.heap.IsSliceOf sl vl vu .none)(pl:IsPart vl lo)(c:IsPart vu hi)
   (h:Q (((sIx n 0 lo:Nat):Int),1,sIx n n hi - sIx n 0 lo) s):wpAny (model prog w) A (Builtin.Slice.sliceApplied (.ref sl) (pure (n:Int))) Q E s:=by
 obtain⟨os,b,v,D⟩:=id hs;unfold Builtin.Slice.sliceApplied Builtin.Slice.sliceFields;refine AA (AA (CI b D (x:=vl) rfl (AA (CI b D (x:=vu) rfl (AA (CI b D (x:=.none) rfl (AK ?_)))))));refine AA (slicePart_none ?_);show wpAny _ _ (if((1:Int)==0)=true then _ else _) _ _ s;rw[AQ (by decide)];refine AA (P9 pl (AA (P9 c (AA (AK ?_)))));show wpAny _ _ (match Builtin.Slice.sliceAdjust lo hi 1 (n:Int) with | (lo,hi)=>pure (lo,(1:Int),Builtin.Slice.slicePlaces lo hi 1)) _ _ s;rw[iq lo hi n];show wpAny _ _ (pure (((sIx n 0 lo:Nat):Int),(1:Int),Builtin.Slice.slicePlaces ((sIx n 0 lo:Nat):Int) ((sIx n n hi:Nat):Int) 1)) _ _ s;rw[dy];exact AK h
theorem mJ(xs:Array A2)(i k:Nat):((List.range k).filterMap fun(m:Nat)=>xs[((i:Int)+(m:Int)*1).toNat]?).toArray=((xs.toList.drop i).take k).toArray:=by
 have e:(fun(m:Nat)=>xs[((i:Int)+(m:Int)*1).toNat]?)=fun m=>xs[i+m]?:=by
  funext m
  have:((i:Int)+(m:Int)*1).toNat=i+m:=by lia
  rw[this]
 rw[e];have:=pick_run xs i k;rw[ID] at this;have e2:((fun x=>xs[x]?) ∘ fun x=>i+x)=fun m=>xs[i+m]?:=rfl
 rw[e2] at this;rw[this]
theorem getItem_tuple_cut{t sl:A4}(ht:IsTup s.heap t af)(hs:s.heap.IsSliceOf sl vl vu .none)(pl:IsPart vl lo)(c:IsPart vu hi)
   (hw:¬ (sIx af.size 0 lo=0/\sIx af.size af.size hi=af.size))
   (h:Q (.ref s.heap.objs.size) { s with heap:=s.heap.push { cls:=.type "tuple",data:=.seq ((af.toList.drop (sIx af.size 0 lo)).take (sIx af.size af.size hi - sIx af.size 0 lo)).toArray } })
   (hsz:af.size<=sizeLine):wpAny (model prog w) A (getItem (.ref t) (.ref sl)) Q E s:=by
 have a:sizeOk (.seq ((af.toList.drop (sIx af.size 0 lo)).take (sIx af.size af.size hi - sIx af.size 0 lo)).toArray):=by
   show((af.toList.drop (sIx af.size 0 lo)).take (sIx af.size af.size hi - sIx af.size 0 lo)).toArray.size<=sizeLine;rw[AT,CJ,CC,FB];lia
 have hj:sIx af.size af.size hi<=af.size:=sIx_le _ _ (AY _) hi;obtain⟨os,b,v,D⟩:=id hs;have ao:s.TypeIs (.ref sl) "slice" := ⟨os,b,v⟩;unfold getItem;try with_reducible refine BZ ?_
 first | refine AA (AK ?_) | skip
 refine AA (wpAny_sequenceKey ht.typeIs (by decide) ?_);refine AA (EC (name:=Str.ofString "__getitem__") ht.typeIs DQ
   (EZ DQ ht.typeIs entry_tuple_getitem ?_ (args_tuple_getitem _ _)))
 show wpAny _ _ (Builtin.Tuple.tupleItemsOf (.ref t) >>= _) _ _ s;refine AA (tupleItemsOf_ ht ?_);refine AA (GL ao ?_);rw[AG (by decide)];refine AA (Dc hs pl c ?_);have I:¬ ((((sIx af.size 0 lo:Nat):Int)==0&&(1:Int)==1&&(sIx af.size af.size hi - sIx af.size 0 lo)==af.size)=true):=by
   intro q;rw[AV,AV] at q;have q1:((sIx af.size 0 lo:Nat):Int)=0:=eq_of_beq q.1.1;have q2:sIx af.size af.size hi - sIx af.size 0 lo=af.size:=eq_of_beq q.2;exact hw ⟨by lia,by lia⟩
 show wpAny _ _ (if(((sIx af.size 0 lo:Nat):Int)==0&&(1:Int)==1&&(sIx af.size af.size hi - sIx af.size 0 lo)==af.size)=true then _ else _) _ _ s;rw[AQ I,mJ];first
   | exact AA (m:=Builtin.Tuple.tupleExact _) (CL (AK ⟨_,rfl,AK h⟩) a)
   | exact AA (m:=Builtin.Tuple.tupleExact _) (CL (AA (AK (AK ⟨_,rfl,AK h⟩))) a)
   | exact AA (AA (m:=Builtin.Tuple.tupleExact _) (CL (AK (AK ⟨_,rfl,AK h⟩)) a))
   | exact AA (AA (m:=Builtin.Tuple.tupleExact _) (CL (AK ⟨_,rfl,AK h⟩) a))
end HT
variable{Q:Unit->PySem.Shared->Prop}{dct:C2 PySem.Addr}{L:PySem.Addr}{oe:PySem.Obj}{cls:PySem.Value×C2 PySem.Value}
namespace L2
open PySem PySem.Spec PyProof.Rows
abbrev TO:=St->Hp->(C2 Int->Hp->Prop)->Prop
def PO(X:Cx)(e:C2 C4)(t:TO):Prop :=
 ∀ (aa:J1) (s:C0) (σ:St) (H:Hp) (Q:C2 Int->Hp->Prop),C' X aa σ H s->t σ H Q ->
  wpAny (model X.prog X.w) X.A (evalPart e X.env) (fun u s'=>∃ o H',C' X aa σ H' s'/\IsPart u o/\Q o H') X.xe s
def nh:TO:=fun _ H Q=>Q none H
def mc(t:TE):TO:=fun σ H Q=>t σ H fun x H1=>∃ i,x=.int i/\Q (some i) H1
theorem Xp:∀ {us:C3 A2},Y5 (ns.map V.int) us->IntsAre us ns:=by
 induction ns with
 | nil=>intro us r;rw[map_nil] at r;cases r;exact .nil
 | cons n ns ih =>
  intro us r;rw[BY] at r;cases r with
  | cons r1 r2 =>
   obtain⟨t,e⟩:=r1;subst e;exact .cons n t (ih r2)
section
variable{lo hi:C2 C4}{tl th:TO}{p2:Pos}
theorem nK:PO X none nh:=by
 intro aa s σ H Q I h;rw[evalPart_none];exact AK ⟨none,H,I,.none,h⟩
theorem nT(h:PE X e te):PO X (some e) (mc te):=by
 intro aa s σ H Q I hw;rw[evalPart_some];refine Vk (h aa s σ H _ I hw) fun u s1 ⟨x,H1,I1,r1,q1⟩=>?_
 obtain⟨i,rfl,q⟩:=q1;obtain⟨t,rfl⟩:=r1;exact⟨some i,H1,I1,.int i t,q⟩
def LX(X:Cx)(r:V->C2 Int->C2 Int->Hp->VK->Prop):Prop :=
 ∀ (aa:J1) (s:C0) (σ:St) (H:Hp) (x:V) (v vl vu:A2) (lo hi:C2 Int) (sl:A4) (Q:VK),C' X aa σ H s->W2 x v->s.heap.IsSliceOf sl vl vu .none->IsPart vl lo->IsPart vu hi->r x lo hi H Q ->
  ∃ T id,typeLookup (.type T) "__getitem__" = pure (some (.builtin id))/\s.TypeIs v T/\wpAny (model X.prog X.w) X.A (getItem v (.ref sl)) (EP X aa σ Q) X.xe s
theorem LX.or(h:LX X r)(h':LX X r'):LX X (fun x lo hi H Q=>r x lo hi H Q\/r' x lo hi H Q):=by
 intro aa s σ H x v vl vu lo hi sl Q I S hs pl c q;rcases q with q | q
 ·exact h aa s σ H x v vl vu lo hi sl Q I S hs pl c q
 ·exact h' aa s σ H x v vl vu lo hi sl Q I S hs pl c q
def dw(r:V->C2 Int->C2 Int->Hp->VK->Prop)(te:TE)(tl th:TO):TE:=fun σ H Q=>te σ H fun x H1=>tl σ H1 fun l H2=>th σ H2 fun u G=>r x l u G Q
theorem dQ(Z:LX X r)(he:PE X e te)(hl:PO X lo tl)(hu:PO X hi th):PE X (.Subscript e (.Slice lo hi none p2) pos) (dw r te tl th):=by
 intro aa s σ H Q I h;refine Subscript_ (Vk (he aa s σ H _ I h) fun v s1 ⟨x,H1,I1,r1,q1⟩=>?_);refine wpAny_Slice (Vk (hl aa s1 σ H1 _ I1 q1) fun vl s2 ⟨l,H2,I2,pl,q2⟩=>Vk (hu aa s2 σ H2 _ I2 q2) fun vu C ⟨u,G,I3,c,q3⟩=>?_);rw[evalPart_none];refine AK ?_;have I4:C' X aa σ G { C with heap:=C.heap.push { cls:=.type "slice",data:=.fields #[vl,vu,.none] } }:=I3.kept (t':=C.toks) fun b ob q=>AF _ q
 obtain⟨T,id,hT,ht,hg⟩:=Z aa { C with heap:=C.heap.push { cls:=.type "slice",data:=.fields #[vl,vu,.none] } } σ G x v vl vu l u C.heap.objs.size Q I4 r1 (Heap.IsSliceOf.new ..) pl c q3;show wpAny (model X.prog X.w) X.A (subscriptTail e (.Slice lo hi none p2) v (.ref C.heap.objs.size)) (EP X aa σ Q) X.xe { C with heap:=C.heap.push { cls:=.type "slice",data:=.fields #[vl,vu,.none] } };exact tail_any (ops:=[.ref C.heap.objs.size,v]) ht hT hg (by with_unfolding_all rfl)
def OM(xs:C3 V)(lo hi:C2 Int):C3 V:=(xs.drop (HT.sIx xs.length 0 lo)).take (HT.sIx xs.length xs.length hi - HT.sIx xs.length 0 lo)
theorem Nn(xs:C3 V)(lo hi:C2 Int):(OM xs lo hi).length<=xs.length:=by
 unfold OM;rw[CJ,CC];lia
def ZE(K:JT):V->C2 Int->C2 Int->Hp->VK->Prop:=fun x lo hi H Q=>∃ a xs,x=.ref a/\Hw K H a xs /\
 ¬ (HT.sIx xs.length 0 lo=0/\HT.sIx xs.length xs.length hi=xs.length)/\∀ p,H p=none->Q (.ref p) (W7 H p (.tup (OM xs lo hi)))
theorem jc:LX X (ZE X.K):=by
 intro aa s σ H x v vl vu lo hi sl Q I S hs pl c h;obtain⟨a,xs,rfl,hx,hw,q⟩:=h;cases S;obtain⟨its,r,ht,hz⟩:=I.tuple hx;have ae:its.toArray.size=xs.length:=by rw[AT];exact r.length.symm
 refine⟨"tuple",_,PyProof.Rows.slot_tuple_getitem.lookup,ht.typeIs,?_⟩;refine HT.getItem_tuple_cut ht hs pl c (by rw[ae];exact hw) ?_ (by rw[ae];exact hz);rw[ae];refine⟨.ref s.heap.objs.size,_,I.laid (t':=s.toks) (o:=.tup (OM xs lo hi)) (fun b ob q=>AF _ q) (AY _) ?_,rfl,q _ (I.hok.fresh (AY _))⟩;exact⟨AZ (Nn xs lo hi) hz,_,(r.drop (HT.sIx xs.length 0 lo)).take (HT.sIx xs.length xs.length hi - HT.sIx xs.length 0 lo),IsTup.new _ _⟩
def mB(K:JT):R2:=fun x y H Q=>∃ a b xs ys,x=.ref a/\y=.ref b/\Hw K H a xs/\Hw K H b ys/\xs≠[]/\xs.length+ys.length<=sizeLine /\
 (ys=[]->Q (.ref a) H)/\(ys≠[]->∀ p,H p=none->Q (.ref p) (W7 H p (.tup (xs++ys))))
theorem Y5.nil_iff(r:Y5 xs us):us=[]↔xs=[]:=by
 cases r with
 | nil=>simp
 | cons _ _=>simp
theorem lp:Hx X (binaryOp .Add) (mB X.K):=by
 intro aa s σ H x y v u Q I S m h;obtain⟨a,b,xs,ys,rfl,rfl,ha,U,hx,hz,q1,q2⟩:=h;cases S;cases m;obtain⟨its,r1,M,_⟩:=I.tuple ha;obtain⟨c,r2,p2,_⟩:=I.tuple U;refine HT.cat_tup M p2 (fun z=>hx (r1.nil_iff.mp z)) (fun z=>⟨.ref a,H,I,rfl,q1 (r2.nil_iff.mp z)⟩) (fun z=>?_) (by rw[← r1.length,← r2.length];exact hz);refine⟨.ref s.heap.objs.size,_,I.laid (t':=s.toks) (o:=.tup (xs++ys)) (fun b ob q=>AF _ q) (AY _) ?_,rfl,q2 (fun w=>z (r2.nil_iff.mpr w)) _ (I.hok.fresh (AY _))⟩;exact⟨by rw[AN];exact hz,_,r1.append r2,IsTup.new _ _⟩
end
def OI(n:Nat)(i:Int):C2 Nat:=if 0<=i then(if i<n then some i.toNat else none) else if -(n:Int)<=i then some (i+n).toNat else none
def A3(xs:C3 α)(i:Int):C2 α:=(OI xs.length i).bind fun j=>xs[j]?
theorem bt{n:Nat}{i:Int}(h:OI n i=some j):seqIndex? i n=some j/\j<n/\-(n:Int)<=i/\i<n:=by
 unfold OI at h;by_cases h0:0<=i
 ·rw[AG h0] at h
  by_cases h1:i<n
  ·rw[AG h1] at h
   have e:i.toNat=j:=BD h;exact⟨by rw[JA h0 h1,e],by lia,by lia,h1⟩
  ·rw[AQ h1] at h;cases h
 ·rw[AQ h0] at h
  by_cases h1 : -(n:Int)<=i
  ·rw[AG h1] at h
   have e:(i+n).toNat=j:=BD h;exact⟨by rw[JO (by lia) h1,e],by lia,h1,by lia⟩
  ·rw[AQ h1] at h;cases h
variable{v:α}
theorem Bg{xs:C3 α}{i:Int}(h:A3 xs i=some v):∃ j,seqIndex? i xs.length=some j/\xs[j]?=some v/\j<xs.length/\-(xs.length:Int)<=i/\i<xs.length:=by
 unfold A3 at h;cases e:OI xs.length i with
 | none=>rw[e] at h;cases h
 | some j =>
  rw[e] at h;obtain⟨h1,h2,h3,h4⟩:=bt e;exact⟨j,h1,h,h2,h3,h4⟩
theorem K8{xs:C3 α}(h:xs[j]?=some v):A3 xs (j:Int)=some v:=by
 have hj:j<xs.length:=(AB.mp h).1;have e:OI xs.length (j:Int)=some j:=by
  unfold OI;rw[AG (by lia),AG (by lia)];simp
 unfold A3;rw[e];exact h
def Oq(b:C4):Prop:=∀ o i,subscripted b false o i=operate [o,i] (getItem o i)
def LV(X:Cx)(r:R2):Prop :=
 ∀ (ap slice:C4) (aa:J1) (s:C0) (σ:St) (H:Hp) (x y:V) (v u:A2) (Q:VK),C' X aa σ H s->W2 x v->W2 y u->r x y H Q ->
  subscripted slice false v u=operate [v,u] (getItem v u)->wpAny (model X.prog X.w) X.A (subscriptTail ap slice v u) (EP X aa σ Q) X.xe s
def MV(X:Cx)(id:String)(r:V->C3 V->Hp->VK->Prop):Prop :=
 ∀ (aa:J1) (s:C0) (σ:St) (H:Hp) (x:V) (xs:C3 V) (v:A2) (us:C3 A2) (Q:VK),C' X aa σ H s->W2 x v->Y5 xs us->r x xs H Q ->
  wpAny (model X.prog X.w) X.A (call (.builtin id) (v::us)) (EP X aa σ Q) X.xe s
section
variable{a b:C4}
theorem LV.or{r r':R2}(h:LV X r)(h':LV X r'):LV X (fun x y H Q=>r x y H Q\/r' x y H Q):=by
 intro ap slice aa s σ H x y v u Q I S m q hs;rcases q with q | q
 ·exact h ap slice aa s σ H x y v u Q I S m q hs
 ·exact h' ap slice aa s σ H x y v u Q I S m q hs
theorem V'{r:R2}(Z:LV X r)(ha:PE X a ta)(U:PE X b tb)(hs:Oq b):PE X (.Subscript a b pos) (QI r ta tb):=by
 intro aa s σ H Q I h;exact Subscript_ (VS ha U I h fun v u s2 x y H2 I2 S m q=>Z a b aa s2 σ H2 x y v u Q I2 S m q (hs _ _))
def cD(K:JT):R2:=fun x y H Q=>∃ p xs i v,x=.ref p/\y=.int i/\Hk K H p xs/\A3 xs i=some v/\Q v H
def bP(K:JT):R2:=fun x y H Q=>∃ p xs i v,x=.ref p/\y=.int i/\Hw K H p xs/\A3 xs i=some v/\Q v H
def YO:R2:=fun x y H Q=>∃ z i c,x=.str z/\y=.int i/\z.length<=sizeLine/\A3 z.cps.toList i=some c/\Q (.str ⟨#[c]⟩) H
theorem Cz:LV X (cD X.K):=by
 intro ap slice aa s σ H x y v u Q I S m h hs;obtain⟨p,xs,i,z,rfl,rfl,hq,he,q⟩:=h;cases S;obtain⟨t,rfl⟩:=m;obtain⟨its,r,pl,hz⟩:=I.list hq;obtain⟨j,h1,h2,h3,h4,h5⟩:=Bg he;obtain⟨w,ew,a⟩:=r.get h2;have hl:=r.length;have hn:=Ie;have B:EP X aa σ Q w s:=⟨z,H,I,a,q⟩;by_cases h0:0<=i
 ·have hj:i.toNat=j:=by
   rw[JA h0 h5] at h1;exact BD h1
  exact item_listR pl.isList h0 (by lia) (by rw[hj];simpa using ew) B hs
 ·have hj:(i+(its.toArray.size:Int)).toNat=j:=by
   rw[JO (by lia) h4] at h1;rw[AT,← hl];exact BD h1
  exact subscriptTail_builtinR (x:=w) pl.isList.typeIs slot_list_getitem.lookup
   (wpAny_getItem_list_neg (Q:=fun r s'=>r=w/\EP X aa σ Q r s') pl.isList (by lia) (by rw[AT]<;>lia) (by lia) (by rw[hj];simpa using ew) ⟨rfl,B⟩) hs
theorem eZ:LV X (bP X.K):=by
 intro ap slice aa s σ H x y v u Q I S m h hs;obtain⟨p,xs,i,z,rfl,rfl,hq,he,q⟩:=h;cases S;obtain⟨t,rfl⟩:=m;obtain⟨its,r,pl,hz⟩:=I.tuple hq;obtain⟨j,h1,h2,h3,h4,h5⟩:=Bg he;obtain⟨w,ew,a⟩:=r.get h2;have hl:=r.length;have hn:=Ie;have B:EP X aa σ Q w s:=⟨z,H,I,a,q⟩;exact subscriptTail_builtinR (x:=w) pl.typeIs slot_tuple_getitem.lookup
  (getItem_tuple (j:=j) (Q:=fun r s'=>r=w/\EP X aa σ Q r s') pl (by lia) (by lia) (by rw[AT,← hl];exact h1) (by simpa using ew) ⟨rfl,B⟩) hs
theorem hZ:LV X YO:=by
 intro ap slice aa s σ H x y v u Q I S m h hs;obtain⟨z,i,c,rfl,rfl,hz,he,q⟩:=h;obtain⟨t,rfl⟩:=S;obtain⟨t',rfl⟩:=m;obtain⟨j,h1,h2,h3,h4,h5⟩:=Bg he;have hl:z.cps.toList.length=z.length:=by simp[Str.length]
 rw[hl] at h1 h4 h5;have hn:=Ie;exact tail_any (typeIs_str s z t) slot_str_getitem.lookup (getItem_str (c:=c) (by
  have e1:decide (i < -(2^63:Int))=false:=AE (by lia);have e2:decide (i≥2^63)=false:=AE (by lia);rw[e1,e2,JI]) (by rw[h1];simpa using h2) ⟨.str ⟨#[c]⟩,H,I.tok _,⟨_,rfl⟩,q⟩) hs
def mv(K:JT):R2:=fun x y H Q=>cD K x y H Q\/bP K x y H Q\/YO x y H Q
theorem io:LV X (mv X.K):=Cz.or (eZ.or hZ)
theorem kI(its:C3 A2)(n j:Nat)(u:A2):Obj.mapSeq (·.setIfInBounds j u) { cls:=.type "list",data:=.seq its.toArray n }={ cls:=.type "list",data:=.seq (its.set j u).toArray n }:=by
 simp[Obj.mapSeq]
theorem C'.lst(I:C' X aa σ H s)(h:H p=some (.lst xs)) :
  ∃ (its:C3 A2) (n:Nat),Y5 xs its/\s.heap.get? p=some { cls:=.type "list",data:=.seq its.toArray n }/\xs.length<=sizeLine:=by
 obtain⟨z,its,n,r,e⟩:=I.hok p _ h;exact⟨its,n,r,e,z⟩
theorem C'.lstUpd{n g:Nat}{f:Obj->Obj}(I:C' X aa σ H s)(h:H p=some (.lst xs))
  (J:s.heap.get? p=some { cls:=.type "list",data:=.seq its.toArray n }) (hf:f { cls:=.type "list",data:=.seq its.toArray n }={ cls:=.type "list",data:=.seq its'.toArray g }) (r:Y5 ys its') (hz:ys.length<=sizeLine) (t:Nat) :
  C' X aa σ (W7 H p (.lst ys)) { s with heap:=s.heap.update p f,toks:=t }:=by
 have e:(s.heap.update p f).get? p=some { cls:=.type "list",data:=.seq its'.toArray g }:=by
  rw[CH f J (by rw[hf]<;>rfl),hf]
 refine I.write (x:=p) (e:=p) (by rw[h];trivial) (.inl rfl) (fun b u U q=>(BE _ _ (AO U)).trans q) ⟨_,e⟩ ?_;exact⟨hz,its',g,r,e⟩
def mq:V->V->V->Hp->(Hp->Prop)->Prop:=fun o i v H Q=>∃ p xs k j,o=.ref p/\i=.int k/\H p=some (.lst xs)/\OI xs.length k=some j/\Q (W7 H p (.lst (xs.set j v)))
theorem kD:YN X mq:=by
 intro aa s σ H o i v E b u Q I a c L h;obtain⟨p,xs,k,j,rfl,rfl,hp,hj,q⟩:=h;cases a;obtain⟨t,rfl⟩:=c;obtain⟨its,n,r,J,hz⟩:=I.lst hp;obtain⟨h1,h2,h3,h4⟩:=bt hj;have hl:=r.length;have hn:=Ie;have I':C' X aa σ (W7 H p (.lst (xs.set j v))) { s with heap:=s.heap.update p (Obj.mapSeq (·.setIfInBounds j u)) } :=
  I.lstUpd hp J (kI its n j u) (r.set L j) (by rw[BH];exact hz) s.toks
 by_cases h0:0<=k
 ·have Y:k.toNat=j:=by
   rw[JA h0 h4] at h1;exact BD h1
  exact PySem.W.ki_setAt J h0 (by lia) (by rw[AT,← hl];exact h4) (by rw[Y];exact⟨_,I',q⟩)
 ·have Y:(k+(its.toArray.size:Int)).toNat=j:=by
   rw[JO (by lia) h3] at h1;rw[AT,← hl];exact BD h1
  exact PySem.W.ki_setBack J (by lia) (by rw[AT,← hl];exact h3) (by lia) (by rw[Y];exact⟨_,I',q⟩)
theorem Br(lo hi:C2 Int)(n:Nat):(sliceBounds lo hi none n).1=((HT.sIx n 0 lo:Nat):Int)/\(sliceBounds lo hi none n).2.1=((HT.sIx n n hi:Nat):Int)/\(sliceBounds lo hi none n).2.2=1:=by
 refine⟨?_,?_,rfl⟩
 ·cases lo with
  | none=>simp[sliceBounds,HT.sIx]
  | some i =>
   simp only[sliceBounds,HT.sIx,Option.getD_none,show(1:Int) > 0 by decide,IS];by_cases h:i<0
   ·simp only[h,IS]<;>lia
   ·simp only[h,HZ]<;>lia
 ·cases hi with
  | none=>simp[sliceBounds,HT.sIx]
  | some i =>
   simp only[sliceBounds,HT.sIx,Option.getD_none,show(1:Int) > 0 by decide,IS];by_cases h:i<0
   ·simp only[h,IS]<;>lia
   ·simp only[h,HZ]<;>lia
theorem F5(its:C3 A2)(lo hi:C2 Int):slicePick its.toArray lo hi none=((its.drop (HT.sIx its.length 0 lo)).take (HT.sIx its.length its.length hi - HT.sIx its.length 0 lo)).toArray:=by
 obtain⟨h1,h2,h3⟩:=Br lo hi its.toArray.size;unfold slicePick;rw[h1,h2,h3];simp only[sliceRange_one,pick_run,AT]<;>rfl
def dG(K:JT):V->C2 Int->C2 Int->Hp->VK->Prop:=fun x lo hi H Q=>∃ a xs,x=.ref a/\Hk K H a xs/\∀ p,H p=none->Q (.ref p) (W7 H p (.lst (OM xs lo hi)))
theorem kr:LX X (dG X.K):=by
 intro aa s σ H x v vl vu lo hi sl Q I S hs pl c h;obtain⟨a,xs,rfl,hx,q⟩:=h;cases S;obtain⟨its,r,ht,hz⟩:=I.list hx;have ae:=r.length;refine⟨"list",_,slot_list_getitem.lookup,ht.isList.typeIs,?_⟩;refine wpAny_getItem_list_slice ht.isList hs pl c .none (by simp) ?_ (by rw[AT]<;>lia);rw[F5,← ae];refine⟨.ref s.heap.objs.size,_,I.laid (t':=s.toks) (o:=.lst (OM xs lo hi)) (fun b ob q=>AF _ q) (AY _) ?_,rfl,q _ (I.hok.fresh (AY _))⟩;exact⟨AZ (Nn xs lo hi) hz,_,0,(r.drop (HT.sIx xs.length 0 lo)).take (HT.sIx xs.length xs.length hi - HT.sIx xs.length 0 lo),BA _ rfl⟩
theorem Bt:Hx X (compareOp .NotIn) (fun x y H Q=>∃ i j,x=.str i/\y=.str j/\Q (.bl (!(!(Builtin.Str.occurrences j i 0 j.length 1).isEmpty))) H):=by
 intro aa s σ H x y v u Q I S m h;obtain⟨i,j,rfl,rfl,q⟩:=h;obtain⟨t,rfl⟩:=S;obtain⟨t',rfl⟩:=m;exact notIn_str ⟨.bl _,H,I,rfl,q⟩
theorem Az:Uf X (.builtin "len") (fun xs H Q=>∃ p ys,xs=[.ref p]/\(Hk X.K H p ys\/Hw X.K H p ys)/\Q (.int ys.length) H):=by
 intro aa s σ H xs us Q I r h;obtain⟨p,ys,rfl,hq,q⟩:=h;obtain⟨u,rfl,S⟩:=Ef r;cases S;have hn:=Ie;rcases hq with hq | hq
 ·obtain⟨its,r',pl,hz⟩:=I.list hq
  have ae:=r'.length;exact Calls.call_len_list pl.isList (by simp only[AT]<;>lia) ⟨.int ys.length,H,I.tok _,⟨s.toks+1,by rw[AT,ae]⟩,q⟩
 ·obtain⟨its,r',pl,hz⟩:=I.tuple hq
  have ae:=r'.length;exact len_tuple pl (by simp only[AT]<;>lia) ⟨.int ys.length,H,I.tok _,⟨s.toks+1,by rw[AT,ae]⟩,q⟩
theorem Bw:Uf X (.builtin "len") (fun xs H Q=>∃ z,xs=[.str z]/\z.length<=sizeLine/\Q (.int z.length) H):=by
 intro aa s σ H xs us Q I r h;obtain⟨z,rfl,hz,q⟩:=h;obtain⟨u,rfl,t,rfl⟩:=Ef r;have hn:=Ie;exact len_str (by lia) ⟨.int z.length,H,I.tok _,⟨_,rfl⟩,q⟩
theorem Uf.or{f:A2}{r r':C3 V->Hp->VK->Prop}(h:Uf X f r)(h':Uf X f r'):Uf X f (fun xs H Q=>r xs H Q\/r' xs H Q):=by
 intro aa s σ H xs us Q I rs q;rcases q with q | q
 ·exact h aa s σ H xs us Q I rs q
 ·exact h' aa s σ H xs us Q I rs q
theorem Kv:Uf X (.type "list") (fun xs H Q=>∃ p ys,xs=[.ref p]/\(Hk X.K H p ys\/Hw X.K H p ys)/\∀ l,H l=none->Q (.ref l) (W7 H l (.lst ys))):=by
 intro aa s σ H xs us Q I r h;obtain⟨p,ys,rfl,hq,q⟩:=h;obtain⟨u,rfl,S⟩:=Ef r;cases S;have B:∀ (its:C3 A2),Y5 ys its->ys.length<=sizeLine->∀ (h':Gf) (c':Nat),(∀ b o',s.heap.get? b=some o'->h'.get? b=some o') ->
   h'.get? s.heap.objs.size=some { cls:=.type "list",dict:=none,data:=.seq its.toArray c',slots:=#[] }->EP X aa σ Q (.ref s.heap.objs.size) { s with heap:=h' }:=fun its r' hz h' c' kp e =>
  ⟨.ref s.heap.objs.size,_,I.laid (t':=s.toks) kp (AY _) (show V2 X.prog X.w _ h' _ (.lst ys) from⟨hz,its,c',r',e⟩),rfl,q _ (I.hok.fresh (AY _))⟩
 rcases hq with hq | hq
 ·obtain⟨its,r',pl,hz⟩:=I.list hq
  have ae:=r'.length;obtain⟨o,J,O,n,hd⟩:=pl.isList;exact call_list_seq p (.inl rfl) J O hd (fun h' c' kp e=>B its r' hz h' c' kp e) (by simp only[AT]<;>lia)
 ·obtain⟨its,r',pl,hz⟩:=I.tuple hq
  have ae:=r'.length;obtain⟨o,J,O,n,hd⟩:=pl;exact call_list_seq p (.inr rfl) J O hd (fun h' c' kp e=>B its r' hz h' c' kp e) (by simp only[AT]<;>lia)
theorem F3:Uf X (.type "tuple") (fun xs H Q=>∃ p ys,xs=[.ref p]/\((Hk X.K H p ys/\∀ l,H l=none->Q (.ref l) (W7 H l (.tup ys)))\/(Hw X.K H p ys/\Q (.ref p) H))):=by
 intro aa s σ H xs us Q I r h;obtain⟨p,ys,rfl,h⟩:=h;obtain⟨u,rfl,S⟩:=Ef r;cases S;rcases h with⟨hq,q⟩ | ⟨hq,q⟩
 ·obtain⟨its,r',pl,hz⟩:=I.list hq
  have ae:=r'.length;refine call_tuple_list pl.isList (fun h' kp=>?_) (by simp only[AT]<;>lia);have I1:C' X aa σ H { s with heap:=h' }:=I.kept (t':=s.toks) kp;have I2:C' X aa σ (W7 H h'.objs.size (.tup ys)) { s with heap:=h'.push { cls:=.type "tuple",data:=.seq its.toArray } } :=
   I1.laid (t':=s.toks) (fun b o e=>AF _ e) (AY _) (show V2 X.prog X.w _ _ _ (.tup ys) from⟨hz,its,r',IsTup.new _ _⟩)
  exact⟨.ref h'.objs.size,_,I2,rfl,q _ (I1.hok.fresh (AY _))⟩
 ·obtain⟨its,r',pl,hz⟩:=I.tuple hq
  exact call_tuple_same pl ⟨.ref p,H,I,rfl,q⟩
def UR(K:JT)(T:String)(x:V)(H:Hp):Prop:=match x with
 | .str _=>T="str"
 | .int _=>T="int"
 | .ref p=>(T="list" /\ ∃ xs,Hk K H p xs)\/(T="tuple" /\ ∃ o,K.lookup p=some o/\o.cls=.type "tuple" /\ o.dict=none) \/
  (T="dict" /\ ((∃ kvs,H p=some (.dK kvs))\/∃ kvs,H p=some (.dT kvs)))\/(T="set" /\ ∃ S n,H p=some (.set S n))
 | _=>False
theorem gk{x:V}{v:A2}(I:C' X aa σ H s)(r:W2 x v)(ty:UR X.K T x H) :
  s.TypeIs v T/\∀ a,v=.ref a->∃ ob,s.heap.get? a=some ob/\ob.dict=none:=by
 cases x with
 | str z =>
  obtain⟨t,rfl⟩:=r;cases (show T="str" from ty);exact⟨typeIs_str s z t,fun _ e=>nomatch e⟩
 | int i =>
  obtain⟨t,rfl⟩:=r;cases (show T="int" from ty);exact⟨typeIs_int s i t,fun _ e=>nomatch e⟩
 | ref p =>
  cases r;rcases ty with⟨rfl,xs,hq⟩ | ⟨rfl,o,Y,O,hd⟩ | ⟨rfl,Y⟩ | ⟨rfl,S,n,Y⟩
  ·obtain⟨its,_,pl,_⟩:=I.list hq
   refine⟨pl.isList.typeIs,fun a e=>?_⟩;cases e;obtain⟨o,n,e,c,hd,_⟩:=pl;exact⟨o,e,hd⟩
  ·refine⟨⟨o,I.kIn p o Y,O⟩,fun a e=>?_⟩
   cases e;exact⟨o,I.kIn _ o Y,hd⟩
  ·have z:∃ o,s.heap.get? p=some o/\o.ExactDict:=by
    rcases Y with⟨kvs,Y⟩ | ⟨kvs,Y⟩
    ·obtain⟨_,_,_,_,o,_,_,e,ex,_⟩:=I.hok p _ Y
     exact⟨o,e,ex⟩
    ·obtain⟨_,_,_,_,o,_,_,e,ex,_⟩:=I.hok p _ Y
     exact⟨o,e,ex⟩
   obtain⟨o,e,ex⟩:=z;refine⟨⟨o,e,ex.1⟩,fun a e2=>?_⟩;cases e2;exact⟨o,e,ex.2.1⟩
  ·obtain⟨o,_,_,_,e,ex,_⟩:=I.hok p _ Y
   refine⟨⟨o,e,ex.1⟩,fun a e2=>?_⟩;cases e2;exact⟨o,e,ex.2.1⟩
 | _=>exact False.elim ty
def iV(K:JT)(T:String)(r:V->C3 V->Hp->VK->Prop)(to:TE)(t:TA):TE:=fun σ H Q=>to σ H fun x H1=>UR K T x H1/\t σ H1 fun xs H2=>r x xs H2 Q
variable{o:C4}{t:TA}{id:String}{r:V->C3 V->Hp->VK->Prop}
theorem SY(pa:PlainAttrs T)(slot:Slot T name id)(g:typeOf (.builtin id)=pure (.type "method_descriptor"))(hm:MV X id r)(J:PE X o to)(ha:PA X (e::es) t)
   (u:attributeBase o name X.env (eval o X.env)=eval o X.env:=by rfl)
   (S:((backTo al (starEach (e::es) X.env)).all (fun x=>!x.1)&&(backToKw al (keywordEach [] X.env)).all (fun x=>x.1.isSome)
     && decide ((e::es).length+([]:C3 Keyword).length+(if([]:C3 Keyword).isEmpty then 0 else 1)<30))=true:=by rfl)
   (P:(ax.endLine==al.line)=true:=by rfl) (hs:starEach (e::es) X.env=(false,eval e X.env)::starEach es X.env:=by rfl) (E:(backTo al (starEach es X.env)).any (·.1)=false:=by rfl) :
   PE X (.Call (.Attribute o name ax) (e::es) [] al) (iV X.K T r to t):=by
 intro aa s σ H Q I h;refine wpAny_Call_method_late u S P rfl (Vk (J aa s σ H _ I h) fun v s1 ⟨x,H1,I1,r1,ty,q1⟩=>?_);obtain⟨h1,h2⟩:=gk I1 r1 ty;refine⟨T,id,pa,slot,g,h1,h2,?_⟩;have hA:=ha al aa s1 σ H1 _ I1 q1;rw[hs] at hA ⊢;refine Calls.callWith_builtin (by show(false||(backTo al (starEach es X.env)).any (·.1))=false;rw[E]<;>rfl) (Calls.evalArgs_plain ?_);exact Vk hA fun us s2 ⟨vs,H2,I2,r2,q2⟩=>hm aa s2 σ H2 x vs v us Q I2 r1 r2 q2
end
def VH(X:Cx)(id:String)(r:V->C3 V->Hp->VK->Prop):Prop :=
 ∀ (aa:J1) (s:C0) (σ:St) (H:Hp) (x:V) (xs:C3 V) (v:A2) (us:C3 A2) (Q:VK),C' X aa σ H s->W2 x v->Y5 xs us->r x xs H Q ->
  wpAny (model X.prog X.w) X.A (call (.builtin id) (v::us)) (EP X aa σ Q) X.xe s
theorem Y5.one:∀ {x:V} {us:C3 A2},Y5 [x] us->∃ u,us=[u]/\W2 x u
 | _,_,.cons r .nil=>⟨_,rfl,r⟩
theorem Y5.eraseIdx:∀ {xs:C3 V} {us:C3 A2} (i:Nat),Y5 xs us->Y5 (xs.eraseIdx i) (us.eraseIdx i)
 | _,_,_,.nil=>.nil
 | _,_,0,.cons _ t=>t
 | _,_,i+1,.cons r t=>.cons r (Y5.eraseIdx i t)
theorem Fk:∀ (l:C3 α) (i:Nat),(l.eraseIdx i).length<=l.length
 | [],_=>AY _
 | _::_,0=>DZ _
 | _::r,i+1=>HH (Fk r i)
section
variable{b:A4}{zs:C3 V}
theorem C'.lset{n:Nat}{f:Array A2->Array A2}(I:C' X aa σ H s)(d:H l=some (.lst xs))
  (e:s.heap.get? l=some { cls:=.type "list",data:=.seq its.toArray n }) (hf:f its.toArray=its'.toArray) (hv:Y5 ys its') (hz:ys.length<=sizeLine) :
  C' X aa σ (W7 H l (.lst ys)) { s with heap:=s.heap.update l (Obj.mapSeq f),toks:=t' }:=by
 have q:=PySem.IsL.update e f;rw[hf] at q;refine I.write (x:=l) (e:=l) (by rw[d];exact trivial) (.inl rfl) (fun T u U hu=>(BE s.heap (Obj.mapSeq f) (AO U)).trans hu) ⟨_,q⟩ ?_;exact⟨hz,its',_,hv,q⟩
theorem C'.lnew(I:C' X aa σ H s)(hv:Y5 ys its)(hz:ys.length<=sizeLine) :
  C' X aa σ (W7 H s.heap.objs.size (.lst ys)) { s with heap:=s.heap.push { cls:=.type "list",data:=.seq its.toArray },toks:=t' } :=
 I.laid (fun _ _ q=>AF _ q) (AY _) ⟨hz,its,0,hv,BA _ rfl⟩
theorem C'.fresh(I:C' X aa σ H s):H s.heap.objs.size=none:=I.hok.fresh (AY _)
theorem C'.lstM(I:C' X aa σ H s)(d:H l=some (.lst xs)):xs.length<=sizeLine/\∃ (its:C3 A2) (n:Nat),Y5 xs its/\xs.length=its.length/\s.heap.get? l=some { cls:=.type "list",data:=.seq its.toArray n }:=by
 obtain⟨z,its,n,r,e⟩:=I.hok l _ d;exact⟨z,its,n,r,r.length,e⟩
theorem mr{n:Nat}(h:n<=sizeLine):Builtin.List.listTooLong n=false:=by
 unfold Builtin.List.listTooLong;exact AE (by lia)
end
def jx:V->C3 V->Hp->VK->Prop:=fun x vs H Q=>∃ l xs y,x=.ref l/\vs=[y]/\H l=some (.lst xs)/\xs.length<sizeLine/\Q .non (W7 H l (.lst (xs++[y])))
theorem Aa:VH X "list.append" jx:=by
 intro aa s σ H x vs v us Q I S L h;obtain⟨l,xs,y,rfl,rfl,d,hz,q⟩:=h;cases S;obtain⟨u,rfl,N⟩:=L.one;obtain⟨z,its,n,r,hl,e⟩:=I.lstM d;refine GR F.slot_list_append ⟨_,e,rfl⟩ F.entry_list_append (F.args_list_append_2 _ _) (PySem.list_append l its.toArray n u (by rw[AT];lia)) ⟨e,?_⟩;refine⟨.non,_,I.lset (its':=its++[u]) d e (by simp) (r.append (.cons N .nil)) ?_,rfl,q⟩;rw[AN,CS];lia
def me:V->C3 V->Hp->VK->Prop:=fun x vs H Q=>∃ l xs i k y,x=.ref l/\vs=[.int i]/\H l=some (.lst xs)/\-(2^63)<=i/\i<2^63/\seqIndex? i xs.length=some k/\xs[k]?=some y/\Q y (W7 H l (.lst (xs.eraseIdx k)))
theorem fT:VH X "list.pop" me:=by
 intro aa s σ H x vs v us Q I S L h;obtain⟨l,xs,i,k,y,rfl,rfl,d,h1,h2,Y,hy,q⟩:=h;cases S;obtain⟨u,rfl,N⟩:=L.one;obtain⟨t,rfl⟩:=N;obtain⟨z,its,n,r,hl,e⟩:=I.lstM d;obtain⟨w,hw,a⟩:=r.get hy;refine GR F.slot_list_pop ⟨_,e,rfl⟩ F.entry_list_pop (F.args_list_pop_2 _ _)
  (MeetsSeq.list_pop_at l its.toArray n i t k w (fitsIndex_both h1 h2) (by rw[AT,← hl];exact Y) (by rw[← Array.getElem?_toList];exact hw) (by rw[AT];lia)) ⟨e,?_⟩
 refine⟨y,_,I.lset (its':=its.eraseIdx k) d e ?_ (r.eraseIdx k) ?_,a,q⟩
 ·show its.toArray.eraseIdxIfInBounds k=(its.eraseIdx k).toArray
  rw[List.eraseIdxIfInBounds_toArray]
 ·have:=Fk xs k
  lia
end L2
variable{aE:PySem.Pos}{t':L2.TT}{H0:L2.Hp}{fr:Bool}
namespace Att
open PySem PySem.W PySem.Calls PyProof.Rows
theorem O7{P:Params} :∀ (ns:C3 Int) (vs:C3 A2),WellAll P h vs (ns.map WData.int)->IntsAre vs ns:=by
 intro ns;induction ns with
 | nil =>
  intro vs w;rw[map_nil] at w;cases w;exact .nil
 | cons n ns ih =>
  intro vs w;rw[BY] at w;cases w with
  | cons a b =>
   cases a;exact .cons _ _ (ih _ b)
theorem jn{l:OpenLaw}{n:Nat}(hn:l.most=some n){P:Params}{args:C3 WData}{B:C3 A2}
   (v:l.row.toRowW.claim.pre args=true) (S:WellAll P h B args) :
   ∃ a vs ns,B=[Value.ref a]/\args=[WData.list (ns.map WData.int)]/\h.get? a=some { cls:=.type "list",data:=.seq vs.toArray }/\IntsAre vs ns/\ns.length<=n:=by
 have g:WShape.hasAll [] args [.list .int]=true:=(pre_splitW v).1;have O:l.pre.holds [] { args:=args }=true:=(pre_splitW v).2;obtain⟨d,r,rfl,h1,h2⟩:=hasAllW_cons g;obtain rfl:=hasAllW_nil h2;obtain⟨xs,rfl,h3⟩:=hasW_list h1;obtain⟨ns,rfl⟩:=items_int h3;have ae:ns.length<=n:=by
   unfold OpenLaw.pre at O;have h4:(WTm.not (.lt (.lit (.int (n:Int))) (.len (.arg 0)))).holds [] { args:=[.list (ns.map .int)] }=true:=by
     have h4:=(holds_andW O).1;rw[hn] at h4;exact h4
   have h5:=condW_of h4 (w_not (w_lt w_lit (w_len_list (w_arg rfl))));rw[AC] at h5;refine Nat.le_of_not_lt fun q=>?_
   have W:(n:Int)<((ns.length:Nat):Int):=by lia
   first
     | (rw[AJ W] at h5;exact absurd h5 (by decide))
     | (simp at h5;lia)
 cases S with
 | cons w1 w2 =>
   cases w2;cases w1 with
   | list J f=>exact⟨_,_,ns,rfl,rfl,J,O7 ns _ f,ae⟩
theorem ip(l:OpenLaw)(args:C3 WData):l.row.toRowW.claim.post args (.bool true) args=true :=
 postW_of (r:=l.row.toRowW) (X:=(true==true))
  (show WShape.has [] (.bool true) .bool=true by first | rfl | decide | simp[WShape.has,WShape.arms,WShape.armsAll])
  (show(WTm.eq .res (.lit (.bool true))).value [] { args:=args,res:=some (.bool true),after:=args }=some (.bool (true==true)) from w_eq_bool (w_res rfl) w_lit) rfl
theorem attach_call{l:OpenLaw}{n:Nat}{d:DefRec}
  (hn:l.most=some n) (m:d.params.defaults=[])
  (call:∀ (w:Fn) (s₀ s₁:C0) (mg t:KB) (fa:A4) (o:Obj) (pm cd au:A2) (a:A4) (vs:C3 A2) (ns:C3 Int),
   Ground q loose [] XP w s₀ mg t s₁.heap->YP w s₁.heap ->
   s₁.heap.get? fa=some o->o.data=.func (docDef d.name d.params d.body d.scope pm cd au)->s₁.heap.CodeRec cd d.name->mg d.name=some (.ref fa) ->
   s₁.heap.get? a=some { cls:=.type "list",data:=.seq vs.toArray }->IntsAre vs ns->ns.length<=n->s₁.gens=#[] ->
   codeAny (model l.prog w) callerA (.call (.ref fa) ⟨[.ref a],[]⟩) (fun r s'=>r=.ok (.ret (.bool true))/\OldK s₁.heap s'.heap/\s'.os=s₁.os/\AllBare s'.gens) s₁) :
  WalkO q loose XP YP l.row.toRowW d [] (fun f vs=>PySem.call f vs):=by
 intro w s₀ s₁ mg t G Y fa o pm cd au dV kV J hd M R y hg args B as v hlay hrd S j;obtain rfl:dV=.none:=Dflts.none R m;obtain rfl:kV=.none:=Dflts.noKw R;obtain⟨a,vs,ns,rfl,rfl,z,c,ae⟩:=jn hn v S;refine enter_call (EW (call w s₀ s₁ mg t fa o pm cd au a vs ns G Y J (fd_plain hd) M y z c ae hg) fun r s' hq=>?_);obtain⟨rfl,h2,h3,h4⟩:=hq;exact⟨.inl ⟨.bool true,.bool true,[],rfl,fun _=>rfl,.bool true,ip l _,fun _=>⟨List.Pairwise.nil,fun _ hm=>(nomatch hm)⟩⟩,h2,h3,h4⟩
section
variable{K:Frag}
end
end Att
namespace L2
open PySem PySem.Spec PyProof.Rows
theorem Fi:∀ {vs:C3 A2} {ns:C3 Int},IntsAre vs ns->Y5 (ns.map V.int) vs
 | _,_,.nil=>.nil
 | _,_,.cons n t h=>.cons ⟨t,rfl⟩ (Fi h)
def SL(K:JT)(H:Hp)(a:A4)(xs:C3 V):Prop :=
 Rd H a (.lst xs)\/∃ (its:C3 A2) (n:Nat),K.lookup a=some { cls:=.type "list",data:=.seq its.toArray n }/\xs.length<=sizeLine/\Y5 xs its
def UX(H:Hp):Prop:=∀ b,H b=none\/∃ o xs,H b=some (.frz o (.lst xs))
theorem iE{t:KB}{CX:F9}{fa a:A4}{x:Str}{s₁:C0}{vs:C3 A2} 
  (p:K.In s₁.heap) (N:s₁.heap.Ns mainGlobals mg) (U:s₁.heap.Ns builtinsNs t) (D:∀ x:Str,x≠"__name__" -> t x=bootBuiltins x) (J:s₁.heap.NoLimit) (hg:s₁.gens=#[])
  (ha:s₁.heap.get? a=some { cls:=.type "list",data:=.seq vs.toArray }) (hi:IntsAre vs ns) (hl:ns.length<=sizeLine) (Z:JQ k callerA)
  (F:∀ base:Gf,K.In base->base.Ns mainGlobals mg->KC P w K mg base CX k fa fd [x] sp) (E:∀ (s:C0) (u:A2),BindsTo s fd ⟨[u],[]⟩ [(x,u)])
  (i:∀ H:Hp,UX H->SL K H a (ns.map V.int)->sp [.ref a] H (fun v _=>v=.bl true) fun _ _ _=>False)
  (I:∀ H e s',CX [] H s₁ (fun _ _ _=>False) e s'->False) :
  codeAny (model P w) callerA (.call (.ref fa) ⟨[.ref a],[]⟩) (fun r s'=>r=.ok (.ret (.bool true))/\OldK s₁.heap s'.heap/\s'.os=s₁.os/\AllBare s'.gens) s₁:=by
 have L:=Fi hi;have lenV:=hi.length
 -- from an abstract heap in which nothing but aK y may be g
 have B:∀ H:Hp,UX H->SL K H a (ns.map V.int)->Ee P w H s₁.heap->(∀ b,H b≠none->b=a)->(H a≠none->K.lookup a=none) ->
   codeAny (model P w) callerA (.call (.ref fa) ⟨[.ref a],[]⟩) (fun r s'=>r=.ok (.ret (.bool true))/\OldK s₁.heap s'.heap/\s'.os=s₁.os/\AllBare s'.gens) s₁:=by
  intro H S hS hok hA f;have c:∀ {b:A4} {o:Obj},s₁.heap.get? b=some o->H b=none->(By s₁.heap H).get? b=some o:=fun e n=>eL e n
  have j:∀ {b:A4} {o:Obj} {es:Array DictEntry} {ep:Nat},s₁.heap.get? b=some o->o.data=.dict es ep->H b=none:=fun {b o es ep} e d=>by
   cases q:H b with
   | none=>rfl
   | some u =>
    have e':b=a:=hA b (by rw[q];simp);subst e';rw[ha] at e;cases e;have d':Data.seq vs.toArray _=Data.dict es ep:=d;cases d'
  have A:∀ {b:A4} {m:KB},s₁.heap.Ns b m->(By s₁.heap H).Ns b m:=fun {b m} ⟨o,es,ep,e,d,r⟩=>⟨o,es,ep,c e (j e d),d,r⟩
  have M:K.In (By s₁.heap H):=fun b o e=>c (p b o e) (by
   cases q:H b with
   | none=>rfl
   | some u =>
    have e':b=a:=hA b (by rw[q];simp);subst e';rw[f (by rw[q];simp)] at e;cases e)
  have hM:Mod K mg (By s₁.heap H):=⟨M,A N,⟨t,A U,D⟩,let ⟨Q,h1,h2⟩:=J;⟨Q,A h1,h2⟩⟩;have C:KQ P w K mg (By s₁.heap H) callerA [] s₁ H:=⟨rfl,hM,fun b o e=>ey e,JF (gJ _ _),trivial,fun b U=>absurd (show b∈([]:C3 A4) from U) (by simp),hok,.of_eq hg⟩;refine EW ((F _ M (A N)).run callerA [] s₁ H ⟨[.ref a],[]⟩ [.ref a] [.ref a] _ _ Z C (E s₁ (.ref a)) (.cons rfl .nil) (i H S hS)) fun r s' h=>?_
  cases r with
  | error e=>exact(I H e s' h).elim
  | ok fl =>
   cases fl with
   | next=>exact False.elim h
   | brk=>exact False.elim h
   | cont=>exact False.elim h
   | ret u =>
    obtain⟨v,H',os,bare,un,O,r',q⟩:=h;have W:v=.bl true:=q;subst W;obtain rfl:u=Value.bool true:=r';refine⟨rfl,OldK.of_keep fun b o e=>?_,os,bare⟩;cases q:H b with
    | none=>exact un.keep b o e q (by intro z;exact absurd (show b∈([]:C3 A4) from z) (by simp)) (by simp)
    | some u =>
     rcases S b with z | ⟨ob,xs,z⟩
     ·rw[q] at z;cases z
     ·have z2:=un.frzs b ob _ z
      obtain⟨e1,_⟩:=hok b _ z;obtain⟨e2,_⟩:=O b _ z2;rw[e] at e1;cases e1;exact e2
 cases Y:K.lookup a with
 | some o =>
  -- aK y is one of aK module's own l
  have e:=p a o Y;rw[ha] at e;cases e;refine B (fun _=>none) (fun _=>.inl rfl) (.inr ⟨vs,_,Y,by rw[AC];exact hl,L⟩) (fun b u z=>by have G:(none:C2 HO)=some u:=z;cases G) (fun b z=>absurd rfl z) fun z=>absurd rfl z
 | none =>
  refine B (fun b=>if b=a then some (.frz { cls:=.type "list",data:=.seq vs.toArray } (.lst (ns.map V.int))) else none) (fun b=>?_) (.inl (.inr ⟨{ cls:=.type "list",data:=.seq vs.toArray },AG rfl⟩)) (fun b u z=>?_) (fun b z=>?_) fun _=>Y
  ·by_cases U:b=a
   ·exact .inr ⟨_,_,AG U⟩
   ·exact .inl (AQ U)
  ·by_cases U:b=a
   ·have G:=(AG U).symm.trans z
    cases G;subst U;exact⟨ha,by rw[AC];exact hl,vs,_,L,ha⟩
   ·have G:=(AQ U).symm.trans z
    cases G
  ·by_cases U:b=a
   ·exact U
   ·exact absurd (AQ U) z
variable{f:A4}{Y:Cx}{g:TG}{Q:VK}
theorem Zlq{l:PySem.W.OpenLaw}{n:Nat}{d:DefRec}{K:Params->JT}{CX:Fn->F9}{sp:Fn->Sp}{x:Str}
  (hn:l.most=some n) (ap:n<=sizeLine) (m:d.params.defaults=[]) (Z:JQ k callerA)
  (R:∀ (w:Fn) (h:Gf),YP w h->(K w.params).In h)
  (F:∀ (w:Fn) (mg:KB) (fa:A4) (h:Gf),(K w.params).In h->h.Ns mainGlobals mg->mg d.name=some (.ref fa) ->
   ∃ fd:Df,(∀ (s:C0) (u:A2),BindsTo s fd ⟨[u],[]⟩ [(x,u)]) /\
    ∀ base:Gf,(K w.params).In base->base.Ns mainGlobals mg->KC l.prog w (K w.params) mg base (CX w) k fa fd [x] (sp w))
  (i:∀ (w:Fn) (H:Hp) (a:A4) (ns:C3 Int),ns.length<=n->UX H->SL (K w.params) H a (ns.map V.int)->sp w [.ref a] H (fun v _=>v=.bl true) fun _ _ _=>False)
  (I:∀ (w:Fn) (H:Hp) (s:C0) (e:A2) (s':C0),CX w [] H s (fun _ _ _=>False) e s'->False) :
  PySem.W.WalkO q loose XP YP l.row.toRowW d [] (fun f vs=>PySem.call f vs):=by
 refine Att.attach_call hn m fun w s₀ s₁ mg t fa o pm cd au a vs ns G Y J hd M y z c ae hg=>?_
 have p:=R w _ Y;obtain⟨fd,U,hF⟩:=F w mg fa _ p G.T.g y;exact iE p G.T.g G.T.b G.T.builtins G.T.nolimit hg z c (AZ ae ap) Z hF U (fun H S hS=>i w H a ns ae S hS) fun H e s'=>I w H s₁ e s'
def Hl(s:C5)(j:Nat):C5:=match s with
 | .ClassDef _ _ _ body _ _ _ _ _ _ _=>body.getD j (.Pass ⟨0,0,0,0⟩)
 | _=>.Pass ⟨0,0,0,0⟩
def U9(s:C5):Arguments:=match s with
 | .FunctionDef _ a _ _ _ _ _ _ _ _=>a
 | _=>{ posonlyargs:=[],args:=[],vararg:=none,kwonlyargs:=[],kw_defaults:=[],kwarg:=none,defaults:=[] }
def Yk(s:C5):C3 C5:=match s with
 | .FunctionDef _ _ b _ _ _ _ _ _ _=>b
 | _=>[]
def Z6(s:C5):H3:=match s with
 | .FunctionDef _ _ _ _ _ _ sc _ _ _=>sc
 | _=>{ kind:=.function,names:=[],isGenerator:=false,isCoroutine:=false }
abbrev Ht:F9:=fun _ _ _ _ _ _=>False
abbrev E0:XK:=fun _ _ _=>False
theorem bO:X3 Ht X E0:=fun _ _ _ _ _ _ _ h=>h.elim
structure KY (K:JT) (x ai:Str) (st:Stmt) (f:Addr) (fd:FuncData):Prop where
 ex:∃ (oc:Value) (od:Option Addr) (kV au pm:Value) (an:Option Addr) (ah ct:Value) (j:Array (Option Value)),
  fd=PySem.W.fnOf x ai (U9 st) (Yk st) (Z6 st) .none kV au pm an ah ct/\K.lookup f=some ⟨oc,od,.func fd,j⟩/\PySem.W.codeIn K ah ai=true
 kp:PySem.W.keepIn K (.ref f)=true
theorem KY.ok{x:Str}{st:C5}(F:KY K x ai st f fd)(S:FnScope N ps (Z6 st))(len:∀ vs H Q E,sp vs H Q E->vs.length=ps.length)
  (a:∀ (ah:A2) (A:C1) (outer:C3 IA) (s:C0) (H:Hp) (vs:C3 V) (Q:VK) (E:XK),JQ k (A.deeper (envOfC ai (Z6 st) s.heap.objs.size f ah))->sp vs H Q E ->
   ∃ t,Gr (Qq Ht P w K mg base N ai (Z6 st) f ah A outer s H E).nox (Yk st) t/\t { nx:=fun _ H'=>Q .non H',rt:=Q } (JU N vs) H):KC P w K mg base Ht (k+1) f fd ps sp:=by
 obtain⟨oc,od,kV,au,pm,an,ah,ct,j,rfl,lk,M⟩:=F.ex;refine YT lk M S len fun A outer s H vs Q E Z i=>?_
 obtain⟨t,h,q⟩:=a ah A outer s H vs Q E Z i;exact⟨t,h.nox,q⟩
theorem KY.binds{x:Str}{st:C5}(F:KY K x ai st f fd)
  (h:∀ (kV au pm:A2) (an:C2 A4) (ah ct:A2) (us:C3 A2),us.length=ps.length->bindArgs (PySem.W.fnOf x ai (U9 st) (Yk st) (Z6 st) .none kV au pm an ah ct) ⟨us,[]⟩=pure (ps.zip us)):Si K fd ps []:=by
 obtain⟨oc,od,kV,au,pm,an,ah,ct,j,rfl,lk,M⟩:=F.ex;exact .all (h kV au pm an ah ct)
theorem WE{x:Str}{st:C5}{j:Array (C2 A2)}{kV:A2}(l:K.lookup f=some ⟨oc,od,.func (PySem.W.fnOf x ai (U9 st) (Yk st) (Z6 st) .none kV au pm an ah ct),j⟩)
 (c:PySem.W.codeIn K ah ai=true) (k:PySem.W.keepIn K (.ref f)=true):KY K x ai st f (PySem.W.fnOf x ai (U9 st) (Yk st) (Z6 st) .none kV au pm an ah ct):=⟨⟨oc,od,kV,au,pm,an,ah,ct,j,rfl,l,c⟩,k⟩
theorem WD(Z:JQ k A):A.units+1<cLine:=FN (Nat.add_le_add_left (by decide:1<=64) _) Z.units
theorem T9{n:Nat}(h:n<=1000):n<sizeLine:=FN h (by decide)
theorem pv(i:Nat){x:Str}(hN:X.N[i]?=some x:=by rfl)(hv:LU X.env.scope x:=by first | exact AD rfl | exact BJ (AD rfl) | exact BJ (BJ rfl))(hd:(x==("__debug__" : Str))=false:=by decide)
 (M:(x==("__classdict__" : Str))=false:=by decide):PE X (.Name x pos) (Sx i):=Rx hN hv hd M
theorem bB{A:Prop}(h:B):if false=true then A else B:=by
 rw[AQ CG];exact h
theorem bG{A:Prop}(h:A):if true=true then A else B:=by
 rw[AG rfl];exact h
def Zu(H H':Hp):Prop:=∀ b o,H b=some o->H' b=some o
theorem Zu.refl(H:Hp):Zu H H:=fun _ _ h=>h
theorem Zu.trans{H H1 H2:Hp}(a:Zu H H1)(b:Zu H1 H2):Zu H H2:=fun c o h=>b c o (a c o h)
theorem Zu.free(e:Zu H H')(h:H' l=Option.none):H l=Option.none:=by
 cases q:H l with
 | none=>rfl
 | some o =>
  rw[e l o q] at h;cases h
theorem mi{R:Result->C0->Prop}{aA a iter:C4}{az:C3 C4}{scope:H3}{pos:Pos}{it l:A2}{env:IA}(I:Nat->C0->Prop)
  (t:∀ n s,I n s->wpAny (model prog w) A (pyNext it) (fun r s₁=>match r with
   | none=>R (.ok .next) s₁
   | some v=>wpAny (model prog w) A (letOwnedTupleGo a it v) (fun _ s₁'=>wpAny (model prog w) A (assign a env v) (fun _ s₂ =>
    wpAny (model prog w) A (forIn az true fun c r=>if r=true then do let ok ← isTrue c env (eval c env);pure (ForInStep.yield ok) else pure (ForInStep.yield r)) (fun ok s₃ =>
     if ok=true then wpAny (model prog w) A (eval aA env) (fun x s₄ =>
      wpAny (model prog w) A (call (.builtin "list.append") [l,x]) (fun _ s₅=>∃ m,m<n/\I m s₅) (fun _ _=>False) s₄) (fun _ _=>False) s₃
     else ∃ m,m<n/\I m s₃) (fun _ _=>False) s₂) (fun _ _=>False) s₁') (fun _ _=>False) s₁) (fun _ _=>False) s)
  (n:Nat) (h:I n s) :
  codeAny (model prog w) A (.compLoop (.ListComp aA [⟨a,iter,az,0⟩] scope pos) 0 it l env) R s:=by
 refine codeAny_loop rfl I (fun n s y=>?_) n h;show wpAny _ A ((compTurn (.ListComp aA [⟨a,iter,az,0⟩] scope pos) 0 it l env).onRaise (fun x=>do noteFrame x env;theTreesLotGoes x)) _ _ s;refine wpAny_noted ?_;rw[compTurn_list];refine AA (CW (AA (BM (t n s y) (fun r s₁ h₁=>?_) fun _ _ h'=>h'.elim)));cases r with
 | none=>exact AK h₁
 | some v =>
  refine AA (BM h₁ (fun _ s₁' h₁'=>?_) fun _ _ h'=>h'.elim);refine AA (BM h₁' (fun _ s₂ h₂=>AA (BM h₂ (fun ok s₃ h₃=>?_) fun _ _ h'=>h'.elim)) fun _ _ h'=>h'.elim);cases ok with
  | false=>exact AK ⟨rfl,h₃⟩
  | true =>
   exact AA (AA (BM h₃ (fun x s₄ h₄=>AA (BM h₄ (fun _ s₅ h₅=>AK (AK ⟨rfl,h₅⟩)) fun _ _ h'=>h'.elim)) fun _ _ h'=>h'.elim))
def Ll(cells:C3 (Str×A4)):C3 (Str×NameKind)->C3 (Str×A4)->C3 (Str×A4)
 | [],l=>l
 | (n,k)::r,l=>Ll cells r (if k==.free then(n,(cells.lookup n).getD 0)::l else l)
theorem Xb(h:∀ y∈sc.names,y.2=.free->∃ c,env.cells.lookup y.1=some c):closureFor sc env=pure (Ll env.cells sc.names []):=by
 unfold closureFor;generalize ([]:C3 (Str×A4))=l;generalize hl:sc.names=names at h;clear hl;induction names generalizing l with
 | nil=>rfl
 | cons y r ih =>
  obtain⟨n,k⟩:=y;have a:=fun l=>ih l fun y hy=>h y (AX _ hy)
  dsimp only at a ⊢;rw[List.forIn_cons];by_cases Y:k=.free
  ·subst Y
   obtain⟨c,O⟩:=h (n,.free) AW rfl;simp only[cellOf,O,FA,IS,pure_bind,Ll,IU];exact a _
  ·have U:(k==NameKind.free)=false:=by simpa using Y
   simp only[U,GM,HZ,pure_bind,Ll];exact a _
theorem Ni:∀ (names:C3 (Str×NameKind)) (l:C3 (Str×A4)),(∀ y∈names,y.2=.free->∃ c,cells.lookup y.1=some c)->(∀ x c,l.lookup x=some c->cells.lookup x=some c) ->
   ∀ x c,(Ll cells names l).lookup x=some c->cells.lookup x=some c
 | [],_,_,ha,x,c,e=>ha x c e
 | (n,k)::r,l,h,ha,x,c,e=>by
   unfold Ll at e;refine Ni r _ (fun y hy=>h y (AX _ hy)) (fun g c' e'=>?_) x c e;split at e'
   · rename_i Y
     have C:k=.free:=by simpa using Y
     obtain⟨c0,a⟩:=h (n,k) AW C;simp only at a;rw[DR] at e';split at e'
     · rename_i hx
       have ae:g=n:=by simpa using hx
       subst ae;rw[a] at e';simp at e';rw[a,e']
     · exact ha g c' e'
   · exact ha g c' e'
theorem Xl:∀ (names:C3 (Str×NameKind)) (l:C3 (Str×A4)) (x:Str),((x,NameKind.free)∈names\/(l.lookup x).isSome=true)->((Ll cells names l).lookup x).isSome=true
 | [],l,x,h=>by
   rcases h with h | h
   · simp at h
   · exact h
 | (n,k)::r,l,x,h=>by
   unfold Ll;refine Xl r _ x ?_;rcases h with h | h
   · rcases BI.mp h with e | h
     · cases e
       right;simp
     · exact .inl h
   · right
     split
     · rw[DR]
       split
       · rfl
       · exact h
     · exact h
def Vr(X:Cx)(sc:H3)(N:C3 Str)(C:A4)(s:C0)(H:Hp)(fp:C3 A4):Cx :=
 { X with N:=N,s₀:=s,H₀:=H,env:=compEnvC sc (Ll X.env.cells sc.names []) C X.env,outer:=X.stack,ex:=fp,fn:=fun _=>false,pn:=[],xe:=fun _ _=>False }
def cK(aq sc:H3)(a N:C3 Str)(fs:C3 (C2 Nat)):Bool :=
 N.length==fs.length&&(N.zip fs).all (fun p=>match p.2 with | none=>true | some j=>a[j]?==some p.1&&sc.names.lookup p.1==some .free) &&
 sc.names.all (fun y=>y.2 != .cell&&(y.2 != .free||(aq.names.lookup y.1==some .cell||aq.names.lookup y.1==some .free))&&(y.2 != .local||sc.names.lookup y.1==some .local))&&sc.kind==.function
structure CompOk (aq sc:Scope) (a N:List Str) (fs:List (Option Nat)):Prop where
 len:N.length=fs.length
 frees:∀ (i j:Nat),fs[i]?=some (some j)->∃ x,N[i]?=some x/\a[j]?=some x/\sc.names.lookup x=some .free
 nocell:∀ y∈sc.names,y.2≠.cell
 par:∀ y∈sc.names,y.2=.free->aq.names.lookup y.1=some .cell\/aq.names.lookup y.1=some .free
 loc:∀ y∈sc.names,y.2=.local->sc.names.lookup y.1=some .local
 kind:sc.kind=.function
theorem CompOk.of{a:C3 Str}(h:cK aq sc a N fs=true):CompOk aq sc a N fs:=by
 unfold cK at h;simp only[AV,DC,DF,bne_iff_ne,ne_eq,FJ] at h;obtain⟨⟨⟨h1,h2⟩,h3⟩,h4⟩:=h;refine⟨h1,fun i j e=>?_,fun y hy=>(h3 y hy).1.1,fun y hy e=>?_,fun y hy e=>?_,h4⟩
 ·have hi:i<fs.length:=(AB.mp e).1
  have hN:i<N.length:=by lia
  have hz:(N.zip fs)[i]?=some (N[i],some j):=by
   rw[List.getElem?_zip_eq_some];exact⟨by simp[hN],e⟩
  have:=h2 _ (AI hz);simp only[AV,DC] at this;exact⟨N[i],by simp[hN],this.1,this.2⟩
 ·rcases(h3 y hy).1.2 with z | z
  ·exact absurd e z
  ·exact z
 ·rcases(h3 y hy).2 with z | z
  ·exact absurd e z
  ·exact z
theorem Ia{x:Str}{k:NameKind}(a:∀ y∈sc.names,y.2≠.cell)(h:(relabel sc env).names.lookup x=some k)(Y:k=.cell\/k=.free):(x,NameKind.free)∈sc.names:=by
 have hm:=BO h;unfold relabel at hm;simp only[CZ] at hm;obtain⟨⟨n,k'⟩,hy,e⟩:=hm;dsimp only at e;split at e
 ·rename_i O
  simp only[AV,DC] at O;cases e;rw[O.1.1] at hy;exact hy
 ·cases e
  rcases Y with z | z
  ·exact absurd z (a _ hy)
  ·rw[z] at hy;exact hy
theorem Aw{x:Str}(h:sc.names.lookup x=some .free):(relabel sc env).names.lookup x=some .cell\/(relabel sc env).names.lookup x=some .free:=by
 unfold relabel;dsimp only;generalize sc.names=names at h;induction names with
 | nil=>simp at h
 | cons y r ih =>
  obtain⟨n,k⟩:=y;rw[DR] at h;rw[BY];split at h
  ·rename_i hx
   cases h;have:x=n:=by simpa using hx
   subst this;dsimp only;split
   ·left;rw[DR];simp
   ·right;rw[DR];simp
  ·rename_i hx
   dsimp only;split
   ·rw[DR,hx];exact ih h
   ·rw[DR,hx];exact ih h
theorem Iu(I:C' X aa σ H s)(hp:X.env.scope=aq)(S:CompOk aq sc X.N N fs):∀ y∈sc.names,y.2=.free->∃ c,X.env.cells.lookup y.1=some c:=fun y hy e=>by
 refine I.ok.has y.1 ?_;have:=S.par y hy e;rw[← hp] at this;exact this
theorem Sh(I:C' X aa σ H s)(hp:X.env.scope=aq)(S:CompOk aq sc X.N N fs):∀ x c,(Ll X.env.cells sc.names []).lookup x=some c->X.env.cells.lookup x=some c :=
 Ni sc.names [] (Iu I hp S) fun x c e=>by simp at e
theorem ij(I:C' X aa σ H s)(hp:X.env.scope=aq)(S:CompOk aq sc X.N N fs)(hf:∀ b∈fp,Hu X aa H b)(aj:∀ b∈fp,b<s.heap.objs.size)(hC:s.heap.objs.size<=C):(Vr X sc N C s H fp).Ok where
 mod:=I.ok.mod
 kind:=S.kind
 glob:=I.ok.glob
 blt:=I.ok.blt
 above:=hC
 inj:=fun x y c h1 h2=>I.ok.inj x y c (Sh I hp S x c h1) (Sh I hp S y c h2)
 has:=fun x hx=>by
  have hm:(x,NameKind.free)∈sc.names:=by
   rcases hx with hx | hx
   ·exact Ia S.nocell hx (.inl rfl)
   ·exact Ia S.nocell hx (.inr rfl)
  exact EY.mp (Xl sc.names [] x (.inl hm))
 cab:=fun x c h _=>by cases h
 hd:=I.ok.hd
 frames:=I.ok.frames
 stk:=.inl rfl
 exf:=fun b U=>⟨BU (AU (aj b U) hC),fun x c e=>(hf b U).2.2.2.2.1 x c (Sh I hp S x c e)⟩
 bs:=I.bs
 bsz:=AZ I.ok.bsz I.sz
 noex:=fun b o e U=>by
  rcases(hf b U).2.2.2.1 with z | z
  ·exact I.ok.noex b o e z
  ·exact absurd (AU (AR e) (AZ I.ok.bsz z)) (DA _)
 exfs:=fun b U hs=>by
  rcases BI.mp (I.stkSub b hs) with z | z
  ·exact(hf b U).2.1 z
  ·exact(hf b U).2.2.1 z
 funs:=I.stack
 frf:=I.stkFree
def Up(fs:C3 (C2 Nat))(σ:St):St:=fs.map fun o=>match o with | none=>none | some j=>(σ[j]?).getD none
theorem fg{h₁:Gf}{B:Obj}{m₁:KB}(I:C' X aa σ H s)(hp:X.env.scope=aq)(S:CompOk aq sc X.N N fs)(hf:∀ b∈fp,Hu X aa H b)(aj:∀ b∈fp,b<s.heap.objs.size)(hC:s.heap.objs.size<=C)
  (F:∀ b o,s.heap.get? b=some o->h₁.get? b=some o) (hn:h₁.Ns C m₁) (R:h₁.get? D=some B) (d:s.heap.objs.size<=D) (h:D≠C) (w:∀ v,B.data≠.cell v) :
  C' (Vr X sc N C s H fp) [(D,B)] (Up fs σ) H { s with heap:=h₁,toks:=tk }:=by
 refine⟨ij I hp S hf aj hC,rfl,I.bare,Un.kept F,⟨m₁,hn,fun i x v e1 e2 e3=>?_⟩,fun x c e=>?_,I.hok.fresh hC,fun x c e=>I.freeC x c (Sh I hp S x c e),fun p ar=>?_,I.hok.kept F,?_⟩
 ·unfold Up at e2
  rw[AM] at e2;cases n:fs[i]? with
  | none=>rw[n] at e2;cases e2
  | some o =>
   rw[n] at e2;cases o with
   | none=>simp at e2
   | some j =>
    simp only[HN,IJ] at e2;obtain⟨g,ex,ej,el⟩:=S.frees i j n;have:g=x:=by
     have q:N[i]?=some x:=e1;rw[ex] at q;exact BD q
    subst this;have ev:σ[j]?=some (some v):=by
     cases q:σ[j]? with
     | none=>rw[q] at e2;simp at e2
     | some z=>rw[q] at e2;simp at e2;rw[e2]
    have kk:X.env.scope.names.lookup g=some .cell\/X.env.scope.names.lookup g=some .free:=by
     rw[hp];exact S.par (g,.free) (BO el) rfl
    obtain⟨m,hm,hl⟩:=I.loc;obtain⟨u,r,l⟩:=hl j g v ej ev (by
     rcases kk with k | k
     ·exact .inr (.inl k)
     ·exact .inr (.inr k))
    refine⟨u,r,.inr ⟨Aw el,?_⟩⟩;rcases l with⟨k,_⟩ | ⟨_,c,O,a⟩
    ·have k':X.env.scope.names.lookup g=some .local:=k
     rcases kk with z | z<;>rw[z] at k'<;>cases k'
    ·obtain⟨c',f⟩:=EY.mp (Xl (cells:=X.env.cells) sc.names [] g (.inl (BO el)))
     have:=Sh I hp S g c' f;rw[O] at this;cases this;obtain⟨oc,J,hd⟩:=a;exact⟨c,f,oc,F _ _ J,hd⟩
 ·obtain⟨v,oc,J,hd⟩:=I.cell x c (Sh I hp S x c e)
  exact⟨v,oc,F _ _ J,hd⟩
 ·have t:p=(D,B):=by
   rcases BQ.mp ar with z | z
   ·exact absurd (show p∈([]:J1) from z) (by simp)
   ·simpa using z
  subst t;refine⟨R,I.hok.fresh d,h,fun hs=>?_,w⟩;have U:D∈X.env.locals::X.fs:=I.stkSub D hs;rcases BI.mp U with z | z
  ·exact absurd (AU I.lt (by rw[← z];exact d)) (DA _)
  ·exact I.nofs d z
 ·show(Up fs σ).length=N.length
  unfold Up;rw[AC,S.len]
theorem Ee.adopt{n:Nat}(ok:Ee P w H h)(R:H D=none)(J:h.get? D=some { cls:=.type "list",data:=.seq its.toArray n })(r:Y5 ys its)(hz:ys.length<=sizeLine) :
  Ee P w (W7 H D (.lst ys)) h:=fun b u e=>by
 by_cases U:b=D
 ·subst U
  rw[Zk] at e;cases e;exact⟨hz,its,n,r,J⟩
 ·rw[Zd U] at e
  refine(ok b u e).stay (fun c v _ q=>q) (fun c q=>?_) fun c xs q=>?_
  ·rw[Zd (Yh q R)];exact q
  ·rw[Zd (Yh q R)];exact q
theorem Un.adopt{fs:C3 A4}{o:HO}(u:Un fs ex H H' h h')(R:h.objs.size<=D)(hn:H' D=none):Un fs ex H (W7 H' D o) h h' where
 keep:=u.keep
 slot:=u.slot
 free:=fun b ob q n hx=>by rw[Zd (BU (AU (AR q) R))];exact u.free b ob q n hx
 there:=u.there
 tups:=fun b xs q=>by rw[Zd (Yh (u.tups b xs q) hn)];exact u.tups b xs q
 frzs:=fun b ob x q=>by rw[Zd (Yh (u.frzs b ob x q) hn)];exact u.frzs b ob x q
 tbls:=fun b ps q=>by
  obtain⟨ak,e⟩:=u.tbls b ps q;exact⟨ak,by rw[Zd (Yh e hn)];exact e⟩
def NO(Y:Cx)(az:C3 C4)(tt:TT):Prop :=
 ∀ (aa:J1) (s:C0) (σ:St) (H:Hp) (Q:Bool->Hp->Prop),C' Y aa σ H s->tt σ H Q ->
  wpAny (model Y.prog Y.w) Y.A (forIn az true fun c r=>if r=true then do let ok ← isTrue c Y.env (eval c Y.env);pure (ForInStep.yield ok) else pure (ForInStep.yield r)) (TP Y aa σ Q) Y.xe s
def kX:TT:=fun _ H Q=>Q true H
theorem iN:NO Y [] kX:=fun _ _ _ H _ I h=>wpAny_tests_nil ⟨H,I,h⟩
theorem iw{c:C4}(h:PT Y c tc):NO Y [c] tc:=fun aa s σ H Q I q=>wpAny_tests_one (h aa s σ H Q I q)
def UE(σ σ2:St):Prop:=σ.length=σ2.length/\∀ (i:Nat) v,σ[i]?=some (some v)->σ2[i]?=some (some v)
def bQ(wi:TI)(fs:C3 (C2 Nat))(g:TG)(tt:TT)(te:TE):TE:=fun σ H Q=>wi σ H fun J H1=>∃ W:Nat->Nat->C3 V->Hp->Prop,(∃ m,W 0 m [] H1)/\∀ i m ys H,W i m ys H ->
 (J.stop i H/\ys.length<=sizeLine/\∀ p,H p=none->Q (.ref p) (W7 H p (.lst ys))) \/
 (J.go i H/\ys.length<=sizeLine/\∃ N:C3 V->Hp->Prop,(∀ P H',N P H'->∃ m',m'<m/\W (i+1) m' P H')/\∀ x H',J.yld i H x H'->g x (Up fs σ) H' fun σ2 H2=>UE (Up fs σ) σ2 /\
  tt σ2 H2 fun b G=>if b=true then te σ2 G fun v H4=>N (ys++[v]) H4 else N ys G)
theorem XZ{tn:Nat->Gf->Prop}{J:It}{RR:A2->A4->Result->C0->Prop}
  (hp:X.env.scope=aq) (S:CompOk aq sc X.N N fs) (O:X.calm=true)
  (U:∀ (C:A4) (s:C0) (H:Hp) (fp:C3 A4),PG (Vr X sc N C s H fp) tg g/\NO (Vr X sc N C s H fp) az tt/\PE (Vr X sc N C s H fp) aA te)
  (I:C' X aa σ H s) (T:KR X.prog X.w X.K tg J fp it tn) (st:tn 0 s.heap) (hf:∀ b∈fp,Hu X aa H b) {Q:VK}
  (hW:∃ W:Nat->Nat->C3 V->Hp->Prop,(∃ m,W 0 m [] H)/\∀ i m ys H,W i m ys H ->
   (J.stop i H/\ys.length<=sizeLine/\∀ p,H p=none->Q (.ref p) (W7 H p (.lst ys))) \/
   (J.go i H/\ys.length<=sizeLine/\∃ N:C3 V->Hp->Prop,(∀ P H',N P H'->∃ m',m'<m/\W (i+1) m' P H')/\∀ x H',J.yld i H x H'->g x (Up fs σ) H' fun σ2 H2=>UE (Up fs σ) σ2 /\
    tt σ2 H2 fun b G=>if b=true then te σ2 G fun v H4=>N (ys++[v]) H4 else N ys G))
  (aH:∀ (D C:A4) (s':C0) (H':Hp),(∃ m,s'.heap.Ns C m)->C' X aa σ H' s'->Hu X aa H' C->Q (.ref D) H'->RR (.ref D) C (.ok .next) s') :
  wpAny (model X.prog X.w) X.A (newList []) (fun l s₃=>wpAny (model X.prog X.w) X.A (newFunctionEnv sc X.env.globals (Ll X.env.cells sc.names []) [] X.env.qual none .none (some X.env)) (fun al s₄ =>
   codeAny (model X.prog X.w) X.A (.compStart (.ListComp aA [⟨tg,iter,az,0⟩] sc pos) 0 (.ref it) l { al with scope:=relabel sc X.env }) (RR l al.locals) s₄) E s₃) E s:=by
 refine CL (wpAny_newFunctionEnv S.nocell (by intro y hy;simp at hy) (fun h₁ hns₁ hsb₁=>?_) S.kind);dsimp only at hns₁ hsb₁ ⊢;generalize au:s.heap.push { cls:=.type "list",dict:=none,data:=.seq ([]:C3 A2).toArray }=G2 at hns₁ hsb₁ ⊢;have hC:G2.objs.size=s.heap.objs.size+1:=by rw[← au,ER]
 have h:s.heap.objs.size≠G2.objs.size:=by rw[hC];exact BU (GG _)
 have am:s.heap.objs.size<=G2.objs.size:=by rw[hC];exact DZ _
 have f:∀ b,b<s.heap.objs.size->b≠G2.objs.size/\b≠s.heap.objs.size:=fun b U=>⟨by rw[hC];exact BU (Nat.lt_succ_of_lt U),BU U⟩
 have aj:∀ b∈fp,b<s.heap.objs.size:=fun b U=>by
  obtain⟨o,e,_⟩:=T.obj _ _ st b U;exact AR e
 have F:∀ b o,s.heap.get? b=some o->h₁.get? b=some o:=fun b o e=>hsb₁.extBut b o (f b (AR e)).1 (AF _ (au▸AF _ e))
 have ac:h₁.get? s.heap.objs.size=some { cls:=.type "list",data:=.seq ([]:C3 A2).toArray 0 }:=hsb₁.extBut _ _ h (AF _ (au▸BA _ rfl));have aC:tn 0 h₁:=T.keep _ _ _ st fun b _ o e=>F b o e
 obtain⟨W,⟨m0,w0⟩,t⟩:=hW;obtain⟨pg,ax,pe⟩:=U G2.objs.size s H fp;generalize R:Vr X sc N G2.objs.size s H fp=Y at pg ax pe;have Ye:Y.env=compEnvC sc (Ll X.env.cells sc.names []) G2.objs.size X.env:=by rw[← R];rfl
 have YA:Y.A=X.A:=by rw[← R];rfl
 have Yp:Y.prog=X.prog:=by rw[← R];rfl
 have Yw:Y.w=X.w:=by rw[← R];rfl
 have YK:Y.K=X.K:=by rw[← R];rfl
 have Yx:Y.xe=fun _ _=>False:=by rw[← R];rfl
 have Yc:Y.calm=true:=by rw[← R];exact O
 have aw:∀ x c,X.env.cells.lookup x=some c->c<s.heap.objs.size:=fun x c e=>by
  obtain⟨v,q⟩:=I.cell x c e;exact q.lt
 have ag:∀ s₃:C0,s₃={ s with heap:=h₁,toks:=s.toks+([]:C3 (Str×A2)).length } ->
   codeAny (model X.prog X.w) X.A (.compLoop (.ListComp aA [⟨tg,iter,az,0⟩] sc pos) 0 (.ref it) (.ref s.heap.objs.size) (compEnvC sc (Ll X.env.cells sc.names []) G2.objs.size X.env)) (RR (.ref s.heap.objs.size) G2.objs.size) s₃:=by
  rintro s₃ rfl;refine mi (fun n s'=>∃ (i:Nat) (H':Hp) (ys:C3 V) (its:C3 A2) (k:Nat),Y5 ys its/\C' Y [(s.heap.objs.size,{ cls:=.type "list",data:=.seq its.toArray k })] (Up fs σ) H' s'/\tn i s'.heap/\(∀ b∈fp,H' b=none)/\W i n ys H') ?_ m0
   ⟨0,H,[],[],0,.nil,R▸fg (D:=s.heap.objs.size) I hp S hf aj am F hns₁ ac (AY _) h (fun v z=>by cases z),aC,fun b U=>(hf b U).1,w0⟩
  rintro n s1 ⟨i,H1,ys,its,k,L,I1,j,ay,w1⟩;have B:∀ {H':Hp} {pl:J1},(∀ b∈fp,H' b=none)->(∀ p∈pl,p.1=s.heap.objs.size)->∀ b∈fp,Hu Y pl H' b:=fun {H' pl} hn af b U=>by
   rw[← R];refine⟨hn b U,(f b (aj b U)).1,fun z=>?_,.inl U,fun x c e=>(hf b U).2.2.2.2.1 x c (Sh I hp S x c e),fun p ah=>?_⟩
   ·rcases BI.mp (I.stkSub b z) with z | z
    ·exact(hf b U).2.1 z
    ·exact(hf b U).2.2.1 z
   ·have aB:p∈pl:=by
     rcases BQ.mp ah with z | z
     ·exact absurd (show p∈([]:J1) from z) (by simp)
     ·exact z
    rw[af p aB];exact AO (f b (aj b U)).2
  have one:∀ {o:Obj} (p:A4×Obj),p∈([(s.heap.objs.size,o)]:J1)->p.1=s.heap.objs.size:=fun {o} p ah=>by
   have:p=_:=AL.mp ah;rw[this]
  rcases t i n ys H1 w1 with⟨stop,hz,qn⟩ | ⟨go,hz,N',hN,step⟩
  ·have:=T.done Y Yp Yw YK Yc i _ s1 _ H1 (fun _ _=>False) I1 (B ay one) j stop
   rw[YA] at this;refine Vk this fun r M ⟨Z,I4⟩=>?_
   subst Z;have Ib:=I4.base;have a:=I4.pin (s.heap.objs.size,_) (BR _ AW);obtain⟨mC,aD,_⟩:=I4.loc;have e1:Y.fs=He X.stack:=by rw[← R];rfl
   have e2:Y.ex=fp:=by rw[← R];rfl
   have e3:Y.H₀=H:=by rw[← R];rfl
   have e4:Y.s₀=s:=by rw[← R];rfl
   have e5:Y.env.locals=G2.objs.size:=by rw[← R];rfl
   rw[e1,e2,e3,e4] at Ib;rw[e5] at aD;have aE:Ee X.prog X.w H1 M.heap:=by
    have:=I4.hok;rw[Yp,Yw] at this;exact this
   have freeC:H1 G2.objs.size=none:=by have:=I4.free;rw[e5] at this;exact this
   have ak:W7 H1 s.heap.objs.size (.lst ys) G2.objs.size=none:=by rw[Zd (AO h)];exact freeC
   have aI:M.os=s.os:=by have:=I4.os;rw[e4] at this;exact this
   refine aH _ _ M (W7 H1 s.heap.objs.size (.lst ys)) ⟨mC,aD⟩ ?_ (I.fpOk am ak) (qn _ a.2.1);exact I.call' (s':=M) (ch:=fp) aI (Ib.adopt (AY _) a.2.1) (aE.adopt a.2.1 a.1 L hz) I4.bare fun b U=>⟨(hf b U).2.2.2.1,(hf b U).2.1,(hf b U).2.2.2.2.1,(hf b U).2.2.2.2.2⟩
  ·have:=T.item Y Yp Yw YK Yc i _ s1 _ H1 (fun _ _=>False) I1 (B ay one) j go
   rw[YA] at this;refine Vk this fun r M ⟨u,Z,h4⟩=>?_
   subst Z;refine Vk h4 fun _ s5 ⟨x,H5,I5,r5,y5,ae,ap⟩=>?_
   have ar:=I5.pinned (B ap one) (T.obj _ _ ae);have a1:=pg _ s5 _ H5 x u _ ar r5 (step x H5 y5);rw[YA,Yp,Yw,Yx,Ye] at a1;refine Vk a1 fun _ s6 ⟨σ6,H6,I6,ext,q6⟩=>?_
   have a2:=ax _ s6 σ6 H6 _ I6 q6;rw[YA,Yp,Yw,Yx,Ye] at a2;refine Vk a2 fun b s7 ⟨H7,I7,q7⟩=>?_
   have ao:∀ {H8:Hp} {s8:C0},C' Y ([(s.heap.objs.size,({ cls:=.type "list",data:=.seq its.toArray k }:Obj))]++Xs fp s5.heap) σ6 H8 s8->C' Y [(s.heap.objs.size,{ cls:=.type "list",data:=.seq its.toArray k })] (Up fs σ) H8 s8/\tn (i+1) s8.heap/\∀ b∈fp,H8 b=none:=fun {H8 s8} I8 =>
    ⟨I8.unpinned.weak ext.1 ext.2,T.keep _ _ _ ae fun b U o e=>(I8.pin (b,o) (BR _ (BR _ (Do U e)))).1,fun b U=>by
     obtain⟨o,e,d⟩:=T.obj _ _ ae b U;exact(I8.pin (b,o) (BR _ (BR _ (Do U e)))).2.1⟩
   cases b with
   | false =>
    rw[AQ CG] at q7 ⊢;obtain⟨m',hm,w7⟩:=hN _ _ q7;obtain⟨aJ,aK,aL⟩:=ao I7;exact⟨m',hm,i+1,H7,ys,its,k,L,aJ,aK,aL,w7⟩
   | true =>
    rw[AG rfl] at q7 ⊢;have a3:=pe _ s7 σ6 H7 _ I7 q7;rw[YA,Yp,Yw,Yx,Ye] at a3;refine Vk a3 fun y s8 ⟨v,H8,I8,r8,q8⟩=>?_
    obtain⟨m',hm,w8⟩:=hN _ _ q8;obtain⟨aF,aM,aN⟩:=ao I8;have a:=aF.pin (s.heap.objs.size,_) (BR _ AW);refine append_at (hsz:=by show its.toArray.size<=sizeLine;rw[AT,← L.length];exact hz) a.1 fun h9 aG aO=>?_
    have e5:Y.env.locals=G2.objs.size:=by rw[← R];rfl
    have I9:C' Y [] (Up fs σ) H8 { s8 with heap:=h9 }:=by
     have J0:C' Y [] (Up fs σ) H8 s8:=aF.pins_of fun p hp=>absurd hp (by simp)
     refine J0.turned (t':=s8.toks) (it:=s.heap.objs.size) (fun b o U e=>aG.extBut b o U e) a.2.1 (by rw[e5];exact h) (.inr ?_) (fun x c e=>?_) fun p hp=>?_
     ·rw[← R];exact AY _
     ·rw[← R] at e
      exact BU (aw x c (Sh I hp S x c e))
     ·rw[← R] at hp
      exact absurd (show p∈([]:J1) from hp) (by simp)
    refine⟨m',hm,i+1,H8,ys++[v],its++[y],k+1,L.append (.cons r8 .nil),I9.pins_of fun p hp=>?_,T.keep _ _ _ aM fun b U o e=>aG.extBut b o (f b (aj b U)).2 e,aN,w8⟩;have:p=_:=AL.mp hp;subst this;refine⟨?_,a.2.1,a.2.2.1,a.2.2.2.1,fun v z=>by cases z⟩;have e9:its.toArray.push y=(its++[y]).toArray:=by simp
    rw[← e9];exact aO
 exact codeAny_compStart_list (ag _ rfl) (T.self _ 0 _ _ _ aC (ag _ rfl))
theorem C'.letGo{H':Hp}(I:C' X aa σ H s)(f:Hu X aa H C)(hs:SameBut C s.heap h'):C' X aa σ H { s with heap:=h' }:=by
 obtain⟨Z,f1,f2,f3,l,q⟩:=f;exact I.turned (t':=s.toks) (fun b o U e=>hs.extBut b o U e) Z f1 f3 l q
theorem gw(aq:H3)(fs:C3 (C2 Nat))(N:C3 Str)(hp:X.env.scope=aq)(S:CompOk aq sc X.N N fs)(O:X.calm=true)(hi:PI X tg iter wi)
  (U:∀ (C:A4) (s:C0) (H:Hp) (fp:C3 A4),PG (Vr X sc N C s H fp) tg g/\NO (Vr X sc N C s H fp) az tt/\PE (Vr X sc N C s H fp) aA te)
  (hs:∀ x,foldedSetIterable iter X.env x=pure x:=by intro _;rfl):PE X (.ListComp aA [⟨tg,iter,az,0⟩] sc pos) (bQ wi fs g tt te):=by
 intro aa s σ H Q I h;rw[eval_ListComp];refine wpAny_comprehension_free (use:=none) rfl hs (Xb (Iu I hp S)) S.kind S.loc (Vk (hi aa s σ H _ I h) fun xv s₁ h₁=>Vk h₁ fun c s₂ h₂=>?_);obtain⟨it,fp,tn,J,H2,e,I2,T,j,f2,hW⟩:=h₂;subst e;refine XZ (RR:=fun l C=>compPost (model X.prog X.w) X.A X.xe none (EP X aa σ Q) l C) hp S O U I2 T j f2 hW ?_;intro D C s' H' ⟨m,hm⟩ I' f q;exact⟨m,hm,fun h' F=>⟨.ref D,H',I'.letGo (H':=H') f F,rfl,q⟩⟩
theorem X7{x:Str}(hN:X.N.Nodup)(y:X.N[i]?=some x)(hx:LC X.env.scope x)(aq:H3)(fs:C3 (C2 Nat))(N:C3 Str)(hp:X.env.scope=aq)(S:CompOk aq sc X.N N fs)(O:X.calm=true)(hi:PI X tg iter wi)
  (U:∀ (C:A4) (s:C0) (H:Hp) (fp:C3 A4),PG (Vr X sc N C s H fp) tg g/\NO (Vr X sc N C s H fp) az tt/\PE (Vr X sc N C s H fp) aA te)
  (hs:∀ x,foldedSetIterable iter X.env x=pure x:=by intro _;rfl) (ac:swapsWith (.ListComp aA [⟨tg,iter,az,0⟩] sc pos) (some (.Name x am)) aE.line X.env=pure true:=by rfl)
  (hf:X.fn x=true\/X.env.scope.names.lookup x=some .local:=by first | exact .inl rfl | exact .inr rfl | assumption) :
  PS X (.Assign [.Name x am] (.ListComp aA [⟨tg,iter,az,0⟩] sc pos) aE) (VT (bQ wi fs g tt te) (UO i)):=by
 intro aa s σ H D I h;rw[exec_Assign_Name_used _ _ _ _ ac];refine AA (CW (AA ?_));show wpAny _ X.A (do let _ ← comprehension (.ListComp aA [⟨tg,iter,az,0⟩] sc pos) sc X.env _ (newList []) false (eval iter X.env) (some (assign (.Name x am) X.env))) _ _ s;refine AA (BM (wpAny_comprehension_free (use:=some (assign (.Name x am) X.env)) (Q:=fun _ s'=>SP X aa D .next s') rfl hs (Xb (Iu I hp S)) S.kind S.loc
  (Vk (hi aa s σ H _ I h) fun xv s₁ h₁=>Vk h₁ fun c s₂ h₂=>?_)) (fun _ s' hq=>AK (AK hq)) fun _ _ e=>e)
 obtain⟨it,fp,tn,J,H2,e,I2,T,j,f2,hW⟩:=h₂;subst e;refine XZ (Q:=fun v H'=>UO i v σ H' D.nx) (RR:=fun l C=>compPost (model X.prog X.w) X.A X.xe (some (assign (.Name x am) X.env)) (fun _ s'=>SP X aa D .next s') l C) hp S O U I2 T j f2 hW ?_;intro L C s' H' ⟨m,hm⟩ I' f q;refine wpAny_assign_Name (Ad I' hN y hx (show W2 (V.ref L) (Value.ref L) from rfl) (fun b d ⟨a,k,ha⟩=>?_) hf);have n:C≠a:=by
  rintro rfl;rcases ha with z | z
  ·exact f.2.1 z
  ·exact f.2.2.2.2.1 x _ z rfl
 refine⟨m,hm.sameBut k n,fun h' F=>⟨_,H',d.letGo (H':=H') f F,q⟩⟩
section
variable{t u:TS}{a b c:St->Hp->Prop}{r:VK}{td:TT}
end
def ng(K:JT):C3 V->Hp->VK->Prop:=fun xs H Q=>(∃ p ys,xs=[.ref p]/\(Hk K H p ys\/Hw K H p ys)/\(ys.length<=sizeLine->Q (.int ys.length) H))\/∃ z,xs=[.str z]/\z.length<=sizeLine/\Q (.int z.length) H
theorem eV:Uf X (.builtin "len") (ng X.K):=by
 intro aa s σ H xs us Q I r h;rcases h with⟨p,ys,e,hq,q⟩ | h
 ·refine Az aa s σ H xs us Q I r ⟨p,ys,e,hq,q ?_⟩
  rcases hq with hq | hq
  ·exact(I.list hq).choose_spec.2.2
  ·exact(I.tuple hq).choose_spec.2.2
 ·exact Bw aa s σ H xs us Q I r h
theorem PI.or{w1 w2:TI}(h1:PI X tg iter w1)(h2:PI X tg iter w2):PI X tg iter (fun σ H R=>w1 σ H R\/w2 σ H R):=by
 intro aa s σ H R I h;rcases h with h | h
 ·exact h1 aa s σ H R I h
 ·exact h2 aa s σ H R I h
def lg(K:JT)(tl:TE):TI:=fun σ H R=>ZD K tl σ H R\/b4 K tl σ H R
theorem ZY{l:C4}(hl:PE X l tl):PI X tg l (lg X.K tl):=(jB hl).or (nk hl)
section
variable{ta:TA}{tb:TS}{D:KG}{a b c:St->Hp->Prop}{r:VK}
end
structure JZ (K:JT) (mg:KB) (x:Str) (st:Stmt):Prop where
 ex:∃ f fd,KY K x x st f fd/\mg x=some (.ref f)
structure UY (P:Program) (w:World) (K:JT) (mg:KB) (base:Heap) (k:Nat) (x:Str) (ps:List Str) (sp:Sp):Prop where
 ex:∃ f fd,KC P w K mg base Ht k f fd ps sp/\mg x=some (.ref f)/\PySem.W.keepIn K (.ref f)=true/\Si K fd ps []
def ZH(sp:Sp)(t:TA):TE:=fun σ H Q=>t σ H fun vs H1=>sp vs H1 Q E0
theorem bN{x:Str}{p:Pos}{t:TA}(C:UY X.prog X.w X.K X.mg X.base k x ps sp)(Z:JQ k X.A)(ha:PA X (e::es) t)(hg:Gl X x:=by rfl)
  (P:(x==("__debug__" : Str))=false:=by decide) (he:starEach (e::es) X.env=(false,eval e X.env)::starEach es X.env:=by rfl) (af:(backTo pos (starEach es X.env)).any (·.1)=false:=by rfl) :
  PE X (.Call (.Name x p) (e::es) [] pos) (ZH sp t):=by
 obtain⟨f,fd,F,hm,Y,U⟩:=C.ex;have:=dj (dvs:=[]) (ds:=[]) (E:=E0) F Z hg hm Y U .nil bO ha P he af (p:=p);intro aa s σ H Q I h;refine this aa s σ H Q I ?_;unfold SV;simp only[FF];exact h
theorem hV{x:Str}{st:C5}(D:JZ K mg x st)(S:FnScope N ps (Z6 st))
  (b:∀ (kV au pm:A2) (an:C2 A4) (ah ct:A2) (us:C3 A2),us.length=ps.length->bindArgs (PySem.W.fnOf x x (U9 st) (Yk st) (Z6 st) .none kV au pm an ah ct) ⟨us,[]⟩=pure (ps.zip us))
  (len:∀ vs H Q E,sp vs H Q E->vs.length=ps.length)
  (a:∀ (f:A4) (ah:A2) (A:C1) (outer:C3 IA) (s:C0) (H:Hp) (vs:C3 V) (Q:VK) (E:XK),JQ k (A.deeper (envOfC x (Z6 st) s.heap.objs.size f ah))->sp vs H Q E ->
   ∃ t,Gr (Qq Ht P w K mg base N x (Z6 st) f ah A outer s H E).nox (Yk st) t/\t (KG.mk (fun _ H'=>Q .non H') Q (fun _ _=>False) (fun _ _=>False)) (JU N vs) H):UY P w K mg base (k+1) x ps sp:=by
 obtain⟨f,fd,F,hm⟩:=D.ex;exact⟨f,fd,F.ok S len (fun ah A outer s H vs Q E Z h=>a f ah A outer s H vs Q E Z h),hm,F.kp,F.binds b⟩
theorem ju{x:Str}{st:C5}(F:KY K x x st f fd)(S:FnScope N ps (Z6 st))(len:∀ vs H Q E,sp vs H Q E->vs.length=ps.length)
  (a:∀ (ah:A2) (A:C1) (outer:C3 IA) (s:C0) (H:Hp) (vs:C3 V) (Q:VK) (E:XK),JQ k (A.deeper (envOfC x (Z6 st) s.heap.objs.size f ah))->sp vs H Q E ->
   ∃ t,Gr (Qq Ht P w K mg base N x (Z6 st) f ah A outer s H E).nox (Yk st) t/\t (KG.mk (fun _ H'=>Q .non H') Q (fun _ _=>False) (fun _ _=>False)) (JU N vs) H):KC P w K mg base Ht (k+1) f fd ps sp :=
 F.ok S len a
theorem Zu.new{o:HO}(h:H l=none):Zu H (W7 H l o):=fun b u e=>by rw[Zd (Yh e h)];exact e
theorem Zu.seqT{a:A4}(e:Zu H H')(h:Hw K H a xs):Hw K H' a xs:=by
 rcases h with h | h
 ·exact .inl (e _ _ h)
 ·exact .inr h
theorem hk{x:Str}(hg:Gl X x)(hm:X.mg x=none)(hv:bootBuiltins x=some (.type T))(hn:x≠"__name__" := by decide)(hd:(x==("__debug__" : Str))=false:=by decide):PE X (.Name x pos) (tC (.ty T)) :=
 mF (v:=.ty T) hg hm hv rfl hn hd
def ZX:V->C2 Int->C2 Int->Hp->VK->Prop:=fun x lo hi H Q=>∃ z,x=.str z/\z.length<=sizeLine/\Q (.str (Txt.slice z lo hi)) H
theorem nD:LX X ZX:=by
 intro aa s σ H x v vl vu lo hi sl Q I S hs pl c h;obtain⟨z,rfl,hz,q⟩:=h;obtain⟨t,rfl⟩:=S;have B:∀ t' k,EP X aa σ Q (.str (Txt.slice z lo hi) t') { s with toks:=k }:=fun t' k=>⟨.str (Txt.slice z lo hi),H,I.tok _,⟨_,rfl⟩,q⟩
 refine⟨"str",_,F.slot_str_getitem.lookup,typeIs_str _ _ _,?_⟩;cases pl with
 | none =>
  cases c with
  | none=>exact FD (l:=none) (u:=none) (st:=none) hs rfl (HP ⟨AZ (GN z _ _) hz,B⟩)
  | int j a=>exact FD (l:=none) (u:=some (j,a)) (st:=none) hs rfl (HP ⟨AZ (GN z _ _) hz,B⟩)
 | int i d =>
  cases c with
  | none=>exact FD (l:=some (i,d)) (u:=none) (st:=none) hs rfl (HP ⟨AZ (GN z _ _) hz,B⟩)
  | int j a=>exact FD (l:=some (i,d)) (u:=some (j,a)) (st:=none) hs rfl (HP ⟨AZ (GN z _ _) hz,B⟩)
def jL(K:JT):V->C2 Int->C2 Int->Hp->VK->Prop:=fun x lo hi H Q=>dG K x lo hi H Q\/ZE K x lo hi H Q\/ZX x lo hi H Q
theorem js:LX X (jL X.K):=kr.or (jc.or nD)
theorem L8:∀ {us:C3 A2},IntsAre us ns->Y5 (ns.map V.int) us:=by
 intro us h;induction h with
 | nil=>exact .nil
 | cons n t h ih=>exact .cons ⟨t,rfl⟩ ih
def iY(K:JT):C3 V->Hp->VK->Prop:=fun xs H Q=>∃ p ns,xs=[.ref p]/\Hk K H p (ns.map V.int)/\ns.length<64 /\
 ∀ (ms:C3 Int) (l:A4),ms.Perm ns->ms.Pairwise (·<=·)->H l=none->Q (.ref l) (W7 H l (.lst (ms.map V.int)))
theorem Cb:Uf X (.builtin "sorted") (iY X.K):=by
 intro aa s σ H xs us Q I r h;obtain⟨p,ns,rfl,hq,a,q⟩:=h;obtain⟨u,rfl,S⟩:=Ef r;cases S;obtain⟨its,r',pl,hz⟩:=I.list hq;have ae:=r'.length;rw[AC] at ae;refine sorted_ints pl.isList (Xp r') (by lia) fun aD ms h1 h2 h3=>?_
 obtain⟨e,he⟩:=sortedAll_at s.heap its aD;have hl:ms.length=ns.length:=h2.length_eq;refine⟨.ref (s.heap.objs.size+1),W7 H (s.heap.objs.size+1) (.lst (ms.map V.int)),I.laid (t':=s.toks) (fun b o q=>sortedAll_old q) (DZ _) ?_,rfl,q ms _ h2 h3 (I.hok.fresh (DZ _))⟩;refine⟨by rw[AC] at hz ⊢;lia,aD.toList,e,L8 h1,?_⟩;rw[he]
theorem Nj{bs:C3 Bool}(r:Y5 (bs.map V.bl) its):TruthOf X.prog X.w A (fun i v=>its.toArray[i]?=some v) (fun i=>bs.getD i false):=by
 intro i v s Q E hv h;have b:its[i]?=some v:=by simpa using hv
 have hi:i<its.length:=(AB.mp b).1;have hl:=r.length;rw[AC] at hl;have U:(bs.map V.bl)[i]?=some (V.bl (bs[i]'(by lia))):=by simp[show i<bs.length by lia]
 obtain⟨u,hu,N⟩:=r.get U;rw[b] at hu;cases hu;cases N;have:bs.getD i false=bs[i]'(by lia):=by simp[List.getD,show i<bs.length by lia]
 have h':Q (bs.getD i false) s:=h;rw[this] at h';exact EB h'
theorem jy(bs:C3 Bool):(List.range bs.length).all (fun i=>bs.getD i false)=bs.all id:=by
 induction bs with
 | nil=>rfl
 | cons b bs ih =>
  rw[BC,HD,all_cons,all_map,all_cons];have:(fun i=>(b::bs).getD i false) ∘ Nat.succ=fun i=>bs.getD i false:=by funext i;rfl
  rw[this,ih];rfl
theorem nA(bs:C3 Bool):(List.range bs.length).any (fun i=>bs.getD i false)=bs.any id:=by
 induction bs with
 | nil=>rfl
 | cons b bs ih =>
  rw[BC,HD,GF,JB,GF];have:(fun i=>(b::bs).getD i false) ∘ Nat.succ=fun i=>bs.getD i false:=by funext i;rfl
  rw[this,ih];rfl
def jd(K:JT):C3 V->Hp->VK->Prop:=fun xs H Q=>∃ (p:A4) (bs:C3 Bool),xs=[.ref p]/\Hk K H p (bs.map V.bl)/\Q (.bl (bs.all id)) H
def fR(K:JT):C3 V->Hp->VK->Prop:=fun xs H Q=>∃ (p:A4) (bs:C3 Bool),xs=[.ref p]/\Hk K H p (bs.map V.bl)/\Q (.bl (bs.any id)) H
theorem iX(O:X.calm=true):Uf X (.builtin "all") (jd X.K):=by
 intro aa s σ H xs us Q I r h;obtain⟨p,bs,rfl,hq,q⟩:=h;obtain⟨u,rfl,S⟩:=Ef r;cases S;obtain⟨its,r',pl,hz⟩:=I.list hq;have hl:=pl.isList;have ah:p<s.heap.objs.size:=by obtain⟨o,e,_⟩:=hl;exact AR e
 have ae:=r'.length;rw[AC] at ae;refine call_all_walk (GW hl ⟨s.heap.objs.size,_,_,_,_,_,fun i=>bs.getD i false,rfl,Walks.list (A:=X.A.in1) (I.ok.hd O) s.heap.objs.size p (BU ah) its.toArray,⟨⟨_,BA _ rfl,rfl,rfl⟩,hl.push _⟩,Nj r',fun h' tk Y=>?_⟩);have e:(List.range its.toArray.size).all (fun i=>bs.getD i false)=bs.all id:=by rw[AT,← ae];exact jy bs
 rw[e];exact⟨.bl _,H,I.kept (h':=h') (t':=tk) (fun b o e=>Y b o (by simpa using BU (AR e)) (AF _ e)),rfl,q⟩
theorem gv(O:X.calm=true):Uf X (.builtin "any") (fR X.K):=by
 intro aa s σ H xs us Q I r h;obtain⟨p,bs,rfl,hq,q⟩:=h;obtain⟨u,rfl,S⟩:=Ef r;cases S;obtain⟨its,r',pl,hz⟩:=I.list hq;have hl:=pl.isList;have ah:p<s.heap.objs.size:=by obtain⟨o,e,_⟩:=hl;exact AR e
 have ae:=r'.length;rw[AC] at ae;refine call_any_walk (GW hl ⟨s.heap.objs.size,_,_,_,_,_,fun i=>bs.getD i false,rfl,Walks.list (A:=X.A.in1) (I.ok.hd O) s.heap.objs.size p (BU ah) its.toArray,⟨⟨_,BA _ rfl,rfl,rfl⟩,hl.push _⟩,Nj r',fun h' tk Y=>?_⟩);have e:(List.range its.toArray.size).any (fun i=>bs.getD i false)=bs.any id:=by rw[AT,← ae];exact nA bs
 rw[e];exact⟨.bl _,H,I.kept (h':=h') (t':=tk) (fun b o e=>Y b o (by simpa using BU (AR e)) (AF _ e)),rfl,q⟩
def TZ(z:Str):It:=⟨fun i _=>i<z.length,fun i H x H'=>H'=H/\∃ c,z.cps[i]?=some c/\x=.str ⟨#[c]⟩,fun i _=>i=z.length⟩
theorem YH(it:A4)(z:Str)(t:Tok)(ty:String)(g:["enumerate","zip","dict_itemiterator","dict_reverseitemiterator","odict_iterator","itertools.zip_longest","itertools.pairwise"].contains ty=false)
  (W:∀ A':C1,A'.handled=none->Walks P w A' it [it] [it] z.cps.size (SignAt z) (fun i h=>h.IsStrIter it ty z t i))
  (S:∀ (A:C1) (i:Nat) (s:C0) (Q:KD) (E:KD),s.heap.IsStrIter it ty z t i->Q (.ref it) s->wpAny (model P w) A (pyIter (.ref it)) Q E s):KR P w K tg (TZ z) [it] it (fun i h=>h.IsStrIter it ty z t i) where
 mem:=by simp
 obj:=fun i h st b U=>by
  have e:b=it:=by simpa using U
  subst e;obtain⟨o,e,c,d⟩:=st;exact⟨o,e,fun v z=>by rw[d] at z;cases z⟩
 keep:=fun i h h' st k=>by
  obtain⟨o,e,r⟩:=st;exact⟨o,k it (by simp) o e,r⟩
 item:=by
  intro X m hw f O i aa s σ H E I hf st hg;subst m hw f;obtain⟨Z,f1,f2,f3,l,q⟩:=hf it (by simp);refine(W X.A (I.ok.hd O)).item i s _ _ (show i<z.cps.size from hg) st fun v h' tk hv j kk=>?_
  obtain⟨c,u,a,rfl⟩:=hv;have I1:C' X aa σ H { s with heap:=h',toks:=tk }:=I.turned (fun b o U e=>kk b o (by simpa using U) e) Z f1 f3 l q;obtain⟨o,e,cc,d⟩:=id j;exact⟨_,rfl,TN (s:={ s with heap:=h',toks:=tk }) e cc d g ⟨.str ⟨#[c]⟩,H,I1,⟨u,rfl⟩,⟨rfl,c,a,rfl⟩,j,fun b U=>(hf b U).1⟩⟩
 done:=by
  intro X m hw f O i aa s σ H E I hf st hg;subst m hw f;obtain⟨Z,f1,f2,f3,l,q⟩:=hf it (by simp);have e:i=z.cps.size:=hg;subst e;exact(W X.A (I.ok.hd O)).done s _ _ st fun h' tk kk=>⟨rfl,I.turned (fun b o U e=>kk b o (by simpa using U) e) Z f1 f3 l q⟩
 self:=fun A i s Q E st h=>S A i s Q E st h
def di(tl:TE):TI:=fun σ H R=>tl σ H fun x H1=>∃ z,x=.str z/\R (TZ z) H1
theorem hI{l:C4}(hl:PE X l tl):PI X tg l (di tl):=by
 intro aa s σ H R I h;refine Vk (hl aa s σ H _ I h) fun v s1 ⟨x,H1,I1,r1,z,e,q⟩=>?_
 subst e;obtain⟨t,rfl⟩:=r1;have I2:∀ o:Obj,C' X aa σ H1 { s1 with heap:=s1.heap.push o }:=fun o=>I1.kept (t':=s1.toks) fun b ob e=>AF _ e
 have fr:∀ b∈[s1.heap.objs.size],Hu X aa H1 b:=fun b U=>by
  have e:b=s1.heap.objs.size:=by simpa using U
  subst e;exact I1.fpOk (AY _) (I1.hok.fresh (AY _))
 cases ha:z.cps.all (· < 128)
 ·exact wpAny_pyIter_wide ha ⟨_,_,_,TZ z,H1,rfl,I2 _,YH _ z t "str_iterator" (by decide) (fun A' hA=>Walks.strWide hA _ z t) (fun A i s Q E st h=>wpAny_pyIter_striter_wide st h),⟨_,BA _ rfl,rfl,rfl⟩,fr,q⟩
 ·exact wpAny_pyIter_ascii ha ⟨_,_,_,TZ z,H1,rfl,I2 _,YH _ z t "str_ascii_iterator" (by decide) (fun A' hA=>Walks.strAscii hA _ z t) (fun A i s Q E st h=>wpAny_pyIter_striter_ascii st h),⟨_,BA _ rfl,rfl,rfl⟩,fr,q⟩
abbrev TJ:=St->Hp->Str->VK->Prop
def PJ(X:Cx)(vs:C3 C4)(t:TJ):Prop :=
 ∀ (aa:J1) (s:C0) (σ:St) (H:Hp) (l:Str) (Q:VK),C' X aa σ H s->l.length<=sizeLine->t σ H l Q->wpAny (model X.prog X.w) X.A (joinParts l (evalEach vs X.env)) (EP X aa σ Q) X.xe s
def XC:TJ:=fun _ H l Q=>Q (.str l) H
def bX(c:Str)(r:TJ):TJ:=fun σ H l Q=>(l++c).length<=sizeLine/\r σ H (l++c) Q
theorem Cc:PJ X [] XC:=fun aa s σ H l Q I hz h=>joinParts_nil ⟨.str l,H,I.tok _,⟨_,rfl⟩,h⟩ hz
theorem Ew{c:Str}{vs:C3 C4}{r:TJ}(Z:PJ X vs r):PJ X (.Constant (.str c) j pos::vs) (bX c r):=by
 intro aa s σ H l Q I hz h;refine joinParts_cons (Calls.Constant_str ?_);exact⟨h.1,Z aa _ σ H (l++c) Q (I.tok _) h.1 h.2⟩
def Ou(r:TJ):TE:=fun σ H Q=>r σ H Str.empty Q
theorem Gu{v1 v2:C4}{r:TJ}(h:PJ X (v1::v2::aj) r):PE X (.JoinedStr (v1::v2::aj) pos) (Ou r):=by
 intro aa s σ H Q I hq;exact JoinedStr_many (h aa s σ H Str.empty Q I (by decide) hq)
abbrev cl(z:Str):C3 Nat:=z.cps.toList
theorem Sr(z:Str):(cl z).length=z.length:=by simp[cl,Str.length]
theorem VN(x y:Str):cl (x++y)=cl x++cl y:=by
 show(x.cps++y.cps).toList=_;simp[cl]
theorem j0{x y:Str}(h:cl x=cl y):x=y:=by
 cases x;cases y;simp only[cl] at h;congr
 exact Array.ext' h
def S6(xs:C3 α)(lo hi:C2 Int):C3 α:=(xs.drop (HT.sIx xs.length 0 lo)).take (HT.sIx xs.length xs.length hi - HT.sIx xs.length 0 lo)
theorem na(xs:C3 Nat)(i k:Nat):((List.range k).map fun(m:Nat)=>((i:Int)+1*(m:Int)).toNat).filterMap (xs[·]?)=(xs.drop i).take k:=by
 rw[ID];induction k generalizing i with
 | zero=>simp
 | succ k ih =>
  rw[HD,EE,ID];have C:((fun x=>xs[x]?) ∘ fun m:Nat=>((i:Int)+1*(m:Int)).toNat) 0=xs[i]?:=by simp[Function.comp]
  rw[C];have e1:(((fun x=>xs[x]?) ∘ fun m:Nat=>((i:Int)+1*(m:Int)).toNat) ∘ Nat.succ)=((fun x=>xs[x]?) ∘ fun m:Nat=>(((i+1:Nat):Int)+1*(m:Int)).toNat):=by
   funext m
   simp only[Function.comp,Nat.succ_eq_add_one];congr 1
   lia
  rw[e1,ih];cases h:xs[i]? with
  | none =>
   have hl:xs.length<=i:=GE.mp h;simp[List.drop_eq_nil_of_le hl,List.drop_eq_nil_of_le (GY hl)]
  | some c =>
   obtain⟨hi,O⟩:=AB.mp h;rw[DH hi,FL,O]
theorem bZ(lo hi:C2 Int)(n:Nat):Builtin.Str.strSliceIndices lo hi 1 n=(List.range (HT.sIx n n hi - HT.sIx n 0 lo)).map fun(m:Nat)=>(((HT.sIx n 0 lo:Nat):Int)+1*(m:Int)).toNat:=by
 have c:∀ (v:C2 Int) (d:Nat),(match v with | none=>(d:Int) | some i=>(let i:=if i<0 then i+(n:Int) else i;if(1:Int) > 0 then max 0 (min i (n:Int)) else max (-1) (min i ((n:Int) - 1))))=((HT.sIx n d v:Nat):Int):=by
  intro v d;cases v with
  | none=>rfl
  | some i =>
   rw[← HT.clip_eq i n d];dsimp only;rw[AG (by decide)];by_cases hi:i<0
   ·rw[AG hi,AG hi];lia
   ·rw[AQ hi,AQ hi];lia
 have ag:∀ (x y:Int) (a b:Nat),x=a->y=b->sliceRange x y 1=(List.range (b - a)).map fun(m:Nat)=>((a:Int)+1*(m:Int)).toNat:=by
  rintro x y a b rfl rfl;unfold sliceRange;dsimp only;rw[AG (by decide)];congr 1
  congr 1
  by_cases h:(a:Int)<(b:Int)
  ·rw[AG h];lia
  ·rw[AQ h];lia
 unfold Builtin.Str.strSliceIndices;dsimp only;have e1:=c lo 0;have e2:=c hi n;dsimp only at e1 e2;simp only[show(1:Int) > 0 by decide,IS] at e1 e2 ⊢;exact ag _ _ _ _ e1 e2
theorem dH(z:Str)(lo hi:C2 Int):cl (Txt.slice z lo hi)=S6 (cl z) lo hi:=by
 have hn:(cl z).length=z.length:=Sr z;unfold Txt.slice S6;rw[hn];have B:=HT.sIx_le z.length z.length (AY _) hi;split
 ·rename_i h
  rw[bZ,AC,BV] at h;have h':HT.sIx z.length z.length hi - HT.sIx z.length 0 lo=z.length:=by simpa using h
  have h0:HT.sIx z.length 0 lo=0\/z.length=0:=by lia
  rcases h0 with h0 | h0
  ·rw[h',h0,JJ,CK (by lia)]
  ·have:cl z=[]:=EH.mp (by lia)
   rw[this];simp
 ·show(((Builtin.Str.strSliceIndices lo hi 1 z.length).filterMap (z.cps[·]?)).toArray).toList=_
  rw[bZ];have e:(fun x:Nat=>z.cps[x]?)=fun x=>(cl z)[x]?:=by funext x;simp[cl]
  rw[e];exact na _ _ _
section
variable(K:JT)
def RS(K:JT):C3 V->Hp->VK->Prop:=fun xs H Q=>∃ p ys,xs=[.ref p]/\(Hk K H p ys\/Hw K H p ys)/\∀ l,H l=none->Q (.ref l) (W7 H l (.lst ys))
theorem Rt(h:X.K=K:=by rfl):Uf X (.type "list") (RS K):=by subst h;exact Kv
variable{o:C4}{t:TA}{id:String}{r:V->C3 V->Hp->VK->Prop}
end
end L2
variable{xs:C3 (C3 L2.Ul×PySem.Addr×PySem.Value)}{kvs:C3 (C3 L2.Ul×L2.V)}{p aC:PySem.Pos}{y:L2.V}{T:PySem.Addr}{P:C3 α->Prop}{nm q:PySem.Str}{bs bm:C3 PySem.Value}{hdct ab:Bool}{sn:C3 PySem.Str}{col:C2 Bool}{dd:C2 PySem.Addr}{k0 k1 k2 k3 k5:C2 PySem.Value}{newId:String}{mN:KB}{CX:L2.F9}
namespace PySem

theorem Da{af}{x:A2}{Q:KD}(c:s.heap.IsTupleIter it l i)
  (hl:s.heap.IsTuple l af) (hx:af[i]?=some x)
  (j:∀ h',h'.IsTupleIter it l (i+1)->SameBut it s.heap h'->Q x { s with heap:=h' }) :
  wpAny (model prog w) A (Builtin.SmallTypes.nextOf (.ref it)) Q E s:=by
 obtain⟨o,J,O,hd⟩:=id c;obtain⟨b,aq,_,d,u⟩:=hl;unfold Builtin.SmallTypes.nextOf;refine AA (EC (name:=Str.ofString "__next__") c.typeIs EM
  (EZ EM c.typeIs F.entry_tuple_iterator_next ?_ (F.args_tuple_iterator_next_1 _)))
 show wpAny _ _ (field (.ref it) 0 >>= _) _ _ s;refine AA (CI J hd (x:=.ref l) rfl ?_);show wpAny _ _ (if(Value.ref l==Value.none)=true then _ else _) _ _ s;rw[AQ (show ¬ ((Value.ref l==Value.none)=true) from CG)];show wpAny _ _ (field (.ref it) 1 >>= _) _ _ s;refine AA (CI J hd (x:=.int i 0) rfl ?_);show wpAny _ _ (seqItems? (.ref l) >>= _) _ _ s;refine AA (JD aq u ?_);simp only[CA,hx];refine AA (ET J hd (by simp) (AK ⟨x,rfl,AK (j _ ?_ (SameBut.update ..))⟩));exact⟨_,CH _ J (FO (DO hd _)),(Obj.cls_mapFields ..).trans O,by
  rw[DO hd];simp[rawInt]⟩
theorem Ea{af}{Q:KD}(hh:A.handled=none)
   (c:s.heap.IsTupleIter it l i) (hl:s.heap.IsTuple l af) (hx:af[i]?=none)
   (p:∀ h' e,ExtBut it s.heap h'->(∃ o,h'.get? e=some o/\o.cls=.type "StopIteration")->E (.ref e) { s with heap:=h' }) :
   wpAny (model prog w) A (Builtin.SmallTypes.nextOf (.ref it)) Q E s:=by
 obtain⟨o,J,O,hd⟩:=id c;obtain⟨b,aq,_,d,u⟩:=hl;unfold Builtin.SmallTypes.nextOf;refine AA (EC (name:=Str.ofString "__next__") c.typeIs EM
   (EZ EM c.typeIs F.entry_tuple_iterator_next ?_ (F.args_tuple_iterator_next_1 _)))
 show wpAny _ _ (field (.ref it) 0 >>= _) _ _ s;refine AA (CI J hd (x:=.ref l) rfl ?_);show wpAny _ _ (if(Value.ref l==Value.none)=true then _ else _) _ _ s;rw[AQ (show ¬ ((Value.ref l==Value.none)=true) from CG)];show wpAny _ _ (field (.ref it) 1 >>= _) _ _ s;refine AA (CI J hd (x:=.int i 0) rfl ?_);show wpAny _ _ (seqItems? (.ref l) >>= _) _ _ s;refine AA (JD aq u ?_);simp only[CA,hx];refine AA (wpAny_rule (AA (ET J hd (by simp) ?_)));show wpAny _ _ (newExc (.type "StopIteration") [] >>= _) _ _ _;refine AA ?_;simp only[newExc,newTuple];refine AA (CL ?_ (by size_fits));refine AA (m:=firstArgMember _ _) (wpAny_of_eq (a:=Value.none) (by first | rfl | (simp only[firstArgMember];rfl)) ?_);refine CL ?_ (by size_fits);simp only[raiseNew];refine AA (wpAny_handled ?_);first | rw[show A.in1.handled=none from hh] | rw[hh]
 refine AA (AK (wpAny_throw ?_));exact p _ _ (((SameBut.update ..).extBut.push _).push _) ⟨_,BA _ rfl,rfl⟩
theorem Draws.tupleD(hh:A.handled=none)(it l:A4)(ac:l≠it)(af:Array A2) :
  Draws prog w A it [it,l] af.size (fun i v=>af[i]?=some v) (fun i h=>h.IsTupleIter it l i/\h.IsTuple l af) where
 live:=fun _ _ st=>let ⟨o,J,_⟩:=st.1;⟨o,J⟩
 frame:=fun _ _ _ st Y=>⟨st.1.at fun o e=>Y it (by simp) o e,let ⟨o,J,r⟩:=st.2;⟨o,Y l (by simp) o J,r⟩⟩
 item:=fun i s Q E hi st j=>by
  refine Da st.1 st.2 (x:=af[i]) (by simp[hi]) fun h' a F=>?_
  exact j _ h' s.toks (by simp[hi]) ⟨a,st.2.extBut F.extBut ac⟩ F
 done:=fun s Q E st p=>Ea hh st.1 st.2 (by simp) p
theorem Eu(l:A4)(af:Array A2)(n:Nat)(dct:C2 A4)(sl:Array (C2 A2)) :
  Meets (Builtin.«enumerate.__new__» ⟨[.type "enumerate",.ref l],[]⟩) (fun _ R s=>s.heap.get? l=some { cls:=.type "tuple",dict:=dct,data:=.seq af n,slots:=sl } /\
   R (.ok (.ret (.ref (s.heap.push { cls:=.type "tuple_iterator",data:=.fields #[.ref l,.int 0 0] }).objs.size)))
    { s with heap:=(s.heap.push { cls:=.type "tuple_iterator",data:=.fields #[.ref l,.int 0 0] }).push { cls:=.type "enumerate",data:=.fields #[.none,.bool false,.ref s.heap.objs.size,rawInt 0,.none,.none] } }) :=
 .of_wp fun prog w A R s h=>by
  obtain⟨hp,g,d,tk,os⟩:=s;obtain⟨hl,h⟩:=h;have r:=sub_enumerate;have f:Heap.IsTuple (Shared.heap ⟨hp,g,d,tk,os⟩) l af:=⟨_,hl,rfl,n,rfl⟩
  wp_walk using EL hl
  refine wpAny_stack_any fun st=>AK ?_
  split
  ·rename_i c _ _ _ _ _
   cases (c==Value.type "enumerate")
   ·wp_walk using EL hl,GI f
    exact⟨_,rfl,h⟩
   ·wp_walk using EL hl,GI f
    exact⟨_,rfl,h⟩
  ·wp_walk using EL hl,GI f
   exact⟨_,rfl,h⟩
theorem En{Q:KD}(f:s.heap.IsTuple l af)
  (h:∀ h',IsEnum h' (s.heap.objs.size+1) s.heap.objs.size 0 .none->h'.IsTupleIter s.heap.objs.size l 0->h'.objs.size=s.heap.objs.size+2 ->
   (∀ b o,s.heap.get? b=some o->h'.get? b=some o)->Q (.ref (s.heap.objs.size+1)) { s with heap:=h' }) :
  wpAny (model prog w) A (call (.type "enumerate") [.ref l]) Q E s:=by
 obtain⟨⟨c,dct,a,sl⟩,hl,O,n,hd⟩:=f;replace O:c=.type "tuple" := O;replace hd:a=.seq af n:=hd;subst O hd;refine callType_new F.called_enumerate (by decide) (F.typeCall_enumerate_1 _) (F.newCall_enumerate_1 _) (fun obj=>F.args_object_init_2 obj _) F.entry_enumerate_new
  (Eu l af n dct sl) ⟨hl,?_⟩
 have hz:(s.heap.push { cls:=.type "tuple_iterator",data:=.fields #[.ref l,.int 0 0] }).objs.size=s.heap.objs.size+1:=ER ..;show _/\_;rw[hz];have he:IsEnum ((s.heap.push { cls:=.type "tuple_iterator",data:=.fields #[.ref l,.int 0 0] }).push
   { cls:=.type "enumerate",data:=.fields #[.none,.bool false,.ref s.heap.objs.size,rawInt 0,.none,.none] }) (s.heap.objs.size+1) s.heap.objs.size 0 .none:=by
  have:=BA (s.heap.push { cls:=.type "tuple_iterator",data:=.fields #[.ref l,.int 0 0] })
   (o:={ cls:=.type "enumerate",data:=.fields #[.none,.bool false,.ref s.heap.objs.size,rawInt 0,.none,.none] }) rfl
  rw[hz] at this;exact this
 refine⟨⟨_,he,rfl⟩,h _ he ⟨_,AF _ (BA _ rfl),rfl,rfl⟩ (by rw[ER,hz]) fun b o x=>AF _ (AF _ x)⟩
end PySem
variable{l:C3 PySem.Env}{ap:PySem.Expr}{tv td ty:L2.TE}
namespace L2
open PySem PySem.Spec PyProof.Rows
inductive XD where
 | int (i:Int) | nums (is:List Int)
inductive Dat where
 | non | bl (b:Bool) | int (i:Int) | str (x:Str) | tup (xs:List Dat) | lst (xs:List Dat) | dct (kvs:List (List Ul×Int)) | exc (c:Str) (fs:List (Str×XD))
def Wg(K:JT)(c:Str)(C:A4):Prop:=PySem.W.nsIn K mainGlobals c=some (some (.ref C))
def NW(e C:A4)(dct:C2 A4)(h:Gf):Prop:=∃ o,h.get? e=some o/\o.cls=.ref C/\o.dict=dct/\∀ c,o.data≠.cls c
def UG(K:JT)(H:Hp):XD->V->Prop
 | .int i,v=>v=.int i
 | .nums is,v=>∃ a,v=.ref a/\SL K H a (is.map V.int)/\is.length<=sizeLine
def K'(K:JT)(H:Hp):C2 A4->C3 (Str×XD)->Prop
 | none,fs=>fs=[]
 | some dx,fs=>∃ j,H dx=some (.xd j)/\∀ f,(fs.lookup f=none/\j.lookup f=none)\/∃ d v,fs.lookup f=some d/\j.lookup f=some v/\UG K H d v
def PZ(K:JT)(H:Hp)(c:Str)(fs:C3 (Str×XD))(v:V):Prop:=∃ e C dct,v=.ref e/\H e=some (.ext (NW e C dct))/\Wg K c C/\K' K H dct fs
def PX(kvs:C3 (C3 Ul×Int)):C3 (C3 Ul×V):=kvs.map fun p=>(p.1,V.int p.2)
structure KW (x:Str):Prop where
 ok:PyData.strOk x=true
 le:x.length<=sizeLine
instance (x:Str):Decidable (KW x):=decidable_of_iff (PyData.strOk x=true/\x.length<=sizeLine) ⟨fun h=>⟨h.1,h.2⟩,fun h=>⟨h.ok,h.le⟩⟩
theorem KW.of{x:Str}(h:PyData.strOk x=true)(h':x.length<=sizeLine):KW x:=⟨h,h'⟩
mutual
def Rp(K:JT)(H:Hp):Dat->V->Prop
 | .non,v=>v=.non
 | .bl b,v=>v=.bl b
 | .int i,v=>v=.int i
 | .str x,v=>v=.str x/\KW x
 | .tup ds,v=>ds.length<=sizeLine/\∃ a vs,v=.ref a/\Hw K H a vs/\Wr K H ds vs
 | .lst ds,v=>ds.length<=sizeLine/\∃ a vs,v=.ref a/\SL K H a vs/\Wr K H ds vs
 | .dct kvs,v=>kvs.length<=sizeLine/\∃ a,v=.ref a/\H a=some (.dT (PX kvs))
 | .exc c fs,v=>PZ K H c fs v
def Wr(K:JT)(H:Hp):C3 Dat->C3 V->Prop
 | [],vs=>vs=[]
 | d::ds,vs=>∃ v r,vs=v::r/\Rp K H d v/\Wr K H ds r
end
abbrev AS:=A4->Bool
def av(H:Hp)(A:AS):Hp:=fun a=>if A a=true then none else H a
theorem V8{A:AS}{a:A4}{o:HO}(h:H a=some o)(hA:A a=false):av H A a=some o:=by unfold av;rw[hA];exact h
theorem Mu{A:AS}{a:A4}{o:HO}(h:av H A a=some o):A a=false/\H a=some o:=by
 unfold av at h;split at h
 ·cases h
 ·rename_i q;exact⟨by simpa using q,h⟩
theorem W5{A:AS}:Zu (av H A) H:=fun b o e=>(Mu e).2
theorem Vj{A:AS}(h:Zu H H'):Zu (av H A) (av H' A):=fun b o e=>V8 (h b o (Mu e).2) (Mu e).1
theorem M7{A B:AS}(h:∀ a,B a=true->A a=true):Zu (av H A) (av H B):=fun b o e=>by
 obtain⟨h1,h2⟩:=Mu e;refine V8 h2 ?_;cases q:B b with
 | false=>rfl
 | true=>rw[h b q] at h1;cases h1
def no:AS:=fun _=>false
theorem TF:av H no=H:=by funext a;simp[av,no]
theorem Zu.sl{a:A4}{xs:C3 V}(e:Zu H H')(h:SL K H a xs):SL K H' a xs:=by
 rcases h with(h | ⟨o,h⟩) | h
 ·exact .inl (.inl (e _ _ h))
 ·exact .inl (.inr ⟨o,e _ _ h⟩)
 ·exact .inr h
theorem SL.sq{a:A4}{xs:C3 V}(h:SL K H a xs):Hk K H a xs:=by
 rcases h with h | ⟨its,n,h1,h2,h3⟩
 ·exact .inl h
 ·refine .inr ⟨_,its.toArray,n,h1,rfl,rfl,rfl,?_,by simpa using h3⟩
  have:=h3.length;simp only[AT];lia
variable{xs ds:C3 Dat}{fs:C3 (Str×XD)}{A A':AS}{p:A4}{Q:VK}{G:Int->Int->Dat}
theorem SL.get{a:A4}{xs:C3 V}(h:SL X.K H a xs)(I:C' X aa σ H s) :
  ∃ (its:C3 A2) (n:Nat),Y5 xs its/\s.heap.get? a=some { cls:=.type "list",data:=.seq its.toArray n }/\xs.length<=sizeLine:=by
 rcases h with h | ⟨its,n,h1,h2,h3⟩
 ·obtain⟨z,its,n,r,e⟩:=h.ok I.hok
  exact⟨its,n,r,e,z⟩
 ·exact⟨its,n,h3,I.kIn _ _ h1,h2⟩
theorem UG.mono(e:Zu H H'){d:XD}(h:UG K H d v):UG K H' d v:=by
 cases d with
 | int i=>exact h
 | nums is=>obtain⟨a,e1,e2,e3⟩:=h;exact⟨a,e1,e.sl e2,e3⟩
theorem K'.mono(e:Zu H H')(h:K' K H dct fs):K' K H' dct fs:=by
 cases dct with
 | none=>exact h
 | some dx =>
  obtain⟨j,e1,e2⟩:=h;exact⟨j,e _ _ e1,fun f=>(e2 f).imp id fun⟨d,v,a,b,c⟩=>⟨d,v,a,b,c.mono e⟩⟩
theorem PZ.mono(e:Zu H H'){c:Str}(h:PZ K H c fs v):PZ K H' c fs v:=by
 obtain⟨x,C,dct,e1,e2,e3,e4⟩:=h;exact⟨x,C,dct,e1,e _ _ e2,e3,e4.mono e⟩
mutual
theorem Rp.mono(e:Zu H H'):∀ {d:Dat} {v:V},Rp K H d v->Rp K H' d v
 | .non,v,h=>by unfold Rp at h ⊢;exact h
 | .bl b,v,h=>by unfold Rp at h ⊢;exact h
 | .int i,v,h=>by unfold Rp at h ⊢;exact h
 | .str x,v,h=>by unfold Rp at h ⊢;exact h
 | .dct _,v,h=>by unfold Rp at h ⊢;obtain⟨hz,a,e1,e2⟩:=h;exact⟨hz,a,e1,e _ _ e2⟩
 | .exc _ _,v,h=>by unfold Rp at h ⊢;exact PZ.mono e h
 | .tup ds,v,h=>by
  unfold Rp at h ⊢;obtain⟨hz,a,vs,e1,e2,e3⟩:=h;exact⟨hz,a,vs,e1,e.seqT e2,Wr.mono e e3⟩
 | .lst ds,v,h=>by
  unfold Rp at h ⊢;obtain⟨hz,a,vs,e1,e2,e3⟩:=h;exact⟨hz,a,vs,e1,e.sl e2,Wr.mono e e3⟩
theorem Wr.mono(e:Zu H H'):∀ {ds:C3 Dat} {vs:C3 V},Wr K H ds vs->Wr K H' ds vs
 | [],vs,h=>by unfold Wr at h ⊢;exact h
 | d::ds,vs,h=>by
  unfold Wr at h ⊢;obtain⟨v,r,e1,e2,e3⟩:=h;exact⟨v,r,e1,Rp.mono e e2,Wr.mono e e3⟩
end
theorem Uk:Wr K H [] []:=by unfold Wr;rfl
theorem Vx{d:Dat}(h:Rp K H d v)(t:Wr K H ds vs):Wr K H (d::ds) (v::vs):=by unfold Wr;exact⟨v,vs,rfl,h,t⟩
theorem Yz(h:Wr K H [] vs):vs=[]:=by unfold Wr at h;exact h
theorem Zw{d:Dat}(h:Wr K H (d::ds) vs):∃ v r,vs=v::r/\Rp K H d v/\Wr K H ds r:=by unfold Wr at h;exact h
theorem Y0:∀ {ds:C3 Dat} {vs:C3 V},Wr K H ds vs->vs.length=ds.length
 | [],vs,h=>by rw[Yz h];rfl
 | d::ds,vs,h=>by
  obtain⟨v,r,e1,e2,e3⟩:=Zw h;rw[e1,BC,BC,Y0 e3]
theorem E2:∀ {ds:C3 Dat} {vs:C3 V} {i:Nat} {d:Dat},Wr K H ds vs->ds[i]?=some d->∃ v,vs[i]?=some v/\Rp K H d v
 | [],vs,i,d,h,e=>by simp at e
 | d'::ds,vs,0,d,h,e=>by
  obtain⟨v,r,e1,e2,e3⟩:=Zw h;simp at e;subst e;exact⟨v,by rw[e1];rfl,e2⟩
 | d'::ds,vs,i+1,d,h,e=>by
  obtain⟨v,r,e1,e2,e3⟩:=Zw h;obtain⟨t,h1,h2⟩:=E2 (i:=i) e3 (by simpa using e);exact⟨t,by rw[e1];simpa using h1,h2⟩
theorem Wq:∀ {ds es:C3 Dat} {vs us:C3 V},Wr K H ds vs->Wr K H es us->Wr K H (ds++es) (vs++us)
 | [],es,vs,us,h,k=>by rw[Yz h];exact k
 | d::ds,es,vs,us,h,k=>by
  obtain⟨v,r,e1,e2,e3⟩:=Zw h;subst e1;exact Vx e2 (Wq e3 k)
theorem K2:∀ (n:Nat) {ds:C3 Dat} {vs:C3 V},Wr K H ds vs->Wr K H (ds.take n) (vs.take n)
 | 0,_,_,_=>by simp only[JK];exact Uk
 | n+1,[],vs,h=>by rw[Yz h];simp only[List.take_nil];exact Uk
 | n+1,d::ds,vs,h=>by
  obtain⟨v,r,e1,e2,e3⟩:=Zw h;subst e1;exact Vx e2 (K2 n e3)
theorem Ke:∀ (n:Nat) {ds:C3 Dat} {vs:C3 V},Wr K H ds vs->Wr K H (ds.drop n) (vs.drop n)
 | 0,_,_,h=>h
 | n+1,[],vs,h=>by rw[Yz h];simp only[List.drop_nil];exact Uk
 | n+1,d::ds,vs,h=>by
  obtain⟨v,r,e1,e2,e3⟩:=Zw h;subst e1;exact Ke n e3
theorem Sj{d:Dat}(h:Rp K H d v):Wr K H [d] [v]:=Vx h Uk
theorem W':∀ {ds:C3 Dat} {vs:C3 V} {d:Dat} {v:V} (i:Nat),Wr K H ds vs->Rp K H d v->Wr K H (ds.set i d) (vs.set i v)
 | [],vs,d,v,i,h,_=>by rw[Yz h];simp only[List.set_nil];exact Uk
 | d'::ds,vs,d,v,0,h,k=>by
  obtain⟨t,r,e1,e2,e3⟩:=Zw h;subst e1;exact Vx k e3
 | d'::ds,vs,d,v,i+1,h,k=>by
  obtain⟨t,r,e1,e2,e3⟩:=Zw h;subst e1;exact Vx e2 (W' i e3 k)
theorem kY:∀ {vs:C3 V},Wr K H ds vs->Wr K H ds.reverse vs.reverse:=by
 induction ds with
 | nil=>intro vs h;rw[Yz h];exact Uk
 | cons d ds ih =>
  intro vs h;obtain⟨v,r,e1,e2,e3⟩:=Zw h;subst e1;rw[HJ,HJ];exact Wq (ih e3) (Sj e2)
theorem Kz:∀ (ns:C3 Int),Wr K H (ns.map Dat.int) (ns.map V.int)
 | []=>Uk
 | n::ns=>Vx (by unfold Rp;rfl) (Kz ns)
theorem Lx:Rp K H .non .non:=by unfold Rp;rfl
theorem Uq{b:Bool}:Rp K H (.bl b) (.bl b):=by unfold Rp;rfl
theorem Wf{i:Int}:Rp K H (.int i) (.int i):=by unfold Rp;rfl
theorem Dt{x:Str}(h:KW x):Rp K H (.str x) (.str x):=by unfold Rp;exact⟨rfl,h⟩
theorem Cp{a:A4}(hz:ds.length<=sizeLine)(h:Hw K H a vs)(r:Wr K H ds vs):Rp K H (.tup ds) (.ref a):=by unfold Rp;exact⟨hz,a,vs,rfl,h,r⟩
theorem Ln{a:A4}(hz:ds.length<=sizeLine)(h:SL K H a vs)(r:Wr K H ds vs):Rp K H (.lst ds) (.ref a):=by unfold Rp;exact⟨hz,a,vs,rfl,h,r⟩
theorem An(h:Rp K H .non v):v=.non:=by unfold Rp at h;exact h
theorem Xw{b:Bool}(h:Rp K H (.bl b) v):v=.bl b:=by unfold Rp at h;exact h
theorem So{i:Int}(h:Rp K H (.int i) v):v=.int i:=by unfold Rp at h;exact h
theorem Bo{x:Str}(h:Rp K H (.str x) v):v=.str x/\KW x:=by unfold Rp at h;exact h
theorem Ge(h:Rp K H (.tup ds) v):∃ a vs,v=.ref a/\Hw K H a vs/\Wr K H ds vs:=by unfold Rp at h;exact h.2
theorem XN(h:Rp K H (.tup ds) v):ds.length<=sizeLine:=by unfold Rp at h;exact h.1
theorem ig(h:Rp K H (.lst ds) v):ds.length<=sizeLine:=by unfold Rp at h;exact h.1
theorem Rl(h:Rp K H (.lst ds) v):∃ a vs,v=.ref a/\SL K H a vs/\Wr K H ds vs:=by unfold Rp at h;exact h.2
theorem i6{kvs:C3 (C3 Ul×Int)}(h:Rp K H (.dct kvs) v):kvs.length<=sizeLine/\∃ a,v=.ref a/\H a=some (.dT (PX kvs)):=by unfold Rp at h;exact h
theorem a'{c:Str}{ds:C3 (Str×XD)}(h:Rp K H (.exc c ds) v):PZ K H c ds v:=by unfold Rp at h;exact h
def XO(K:JT)(H:Hp)(c f:Str)(ns:C3 Int)(v:V):Prop:=∃ (e C dx:A4) (j:C3 (Str×V)) (a:A4),v=.ref e/\H e=some (.ext (NW e C (some dx)))/\Wg K c C/\H dx=some (.xd j)/\(∀ g,g≠f->j.lookup g=none)/\j.lookup f=some (.ref a)/\H a=some (.lst (ns.map V.int))/\ns.length<=sizeLine
theorem XO.mono{c f:Str}(h:XO K H c f ns v)(e:Zu H H'):XO K H' c f ns v:=by
 obtain⟨x,C,dx,j,a,h1,h2,h3,h4,h5,h6,h7,h8⟩:=h;exact⟨x,C,dx,j,a,h1,e _ _ h2,h3,e _ _ h4,h5,h6,e _ _ h7,h8⟩
theorem XO.rp{c f:Str}(h:XO K H c f ns v):Rp K H (.exc c [(f,.nums ns)]) v:=by
 obtain⟨x,C,dx,j,a,h1,h2,h3,h4,h5,h6,h7,h8⟩:=h;unfold Rp;refine⟨x,C,some dx,h1,h2,h3,j,h4,fun g=>?_⟩;by_cases hg:g=f
 ·subst hg;exact .inr ⟨.nums ns,.ref a,by simp[List.lookup],h6,a,rfl,.inl (.inl h7),h8⟩
 ·exact .inl ⟨by simp only[List.lookup];rw[show(g==f)=false from by simpa using hg],h5 g hg⟩
def Pk(K:JT)(A:AS)(H:Hp)(d:Dat)(v:V):Prop :=
 Rp K (av H A) d v\/(∃ a vs ds,d=.lst ds/\v=.ref a/\ds.length<=sizeLine/\H a=some (.lst vs)/\Wr K (av H A) ds vs)\/(∃ c f ns,d=.exc c [(f,.nums ns)]/\XO K H c f ns v)\/∃ kvs a,d=.dct kvs/\v=.ref a/\kvs.length<=sizeLine/\H a=some (.dT (PX kvs))
section
variable{d:Dat}
theorem Pk.mono(e:Zu H H')(h:Pk K A H d v):Pk K A H' d v:=by
 rcases h with h | ⟨a,vs,ds,e1,e2,hz,e3,e4⟩ | ⟨c,f,ns,e1,e2⟩ | ⟨kvs,a,e1,e2,e3,e4⟩
 ·exact .inl (h.mono (Vj e))
 ·exact .inr (.inl ⟨a,vs,ds,e1,e2,hz,e _ _ e3,e4.mono (Vj e)⟩)
 ·exact .inr (.inr (.inl ⟨c,f,ns,e1,e2.mono e⟩))
 ·exact .inr (.inr (.inr ⟨kvs,a,e1,e2,e3,e _ _ e4⟩))
theorem Pk.rp(h:Pk K A H d v):Rp K H d v:=by
 rcases h with h | ⟨a,vs,ds,e1,e2,hz,e3,e4⟩ | ⟨c,f,ns,e1,e2⟩ | ⟨kvs,a,e1,e2,e3,e4⟩
 ·exact h.mono W5
 ·subst e1 e2;exact Ln hz (.inl (.inl e3)) (e4.mono W5)
 ·subst e1;exact e2.rp
 ·subst e1;unfold Rp;exact⟨e3,a,e2,e4⟩
theorem Pk.lenL(h:Pk K A H (.lst ds) v):ds.length<=sizeLine:=ig h.rp
theorem Pk.lenT(h:Pk K A H (.tup ds) v):ds.length<=sizeLine:=XN h.rp
theorem Pk.non(h:Pk K A H .non v):v=.non:=An h.rp
theorem Pk.bl{b:Bool}(h:Pk K A H (.bl b) v):v=.bl b:=Xw h.rp
theorem Pk.int{i:Int}(h:Pk K A H (.int i) v):v=.int i:=So h.rp
theorem Pk.str{x:Str}(h:Pk K A H (.str x) v):v=.str x/\KW x:=Bo h.rp
theorem Pk.tup(h:Pk K A H (.tup ds) v):∃ a vs,v=.ref a/\Hw K H a vs/\Wr K (av H A) ds vs:=by
 rcases h with h | ⟨a,vs,ds,e1,e2,e3,e4⟩ | ⟨c,f,ns,e1,e2⟩ | ⟨kvs,a,e1,e2,e3,e4⟩
 ·obtain⟨a,vs,e1,e2,e3⟩:=Ge h
  exact⟨a,vs,e1,W5.seqT e2,e3⟩
 ·cases e1
 ·cases e1
 ·cases e1
theorem Pk.lst(h:Pk K A H (.lst ds) v):∃ a vs,v=.ref a/\SL K H a vs/\Wr K (av H A) ds vs:=by
 rcases h with h | ⟨a,vs,ds',e1,e2,hz,e3,e4⟩ | ⟨c,f,ns,e1,e2⟩ | ⟨kvs,a,e1,e2,e3,e4⟩
 ·obtain⟨a,vs,e1,e2,e3⟩:=Rl h
  exact⟨a,vs,e1,W5.sl e2,e3⟩
 ·cases e1;exact⟨a,vs,e2,.inl (.inl e3),e4⟩
 ·cases e1
 ·cases e1
end
mutual
def Ob:Dat->Dat->Bool
 | .non,.non=>true
 | .bl a,.bl b=>a==b
 | .bl a,.int j=>(if a then 1 else 0)==j
 | .int i,.bl b=>i==(if b then 1 else 0)
 | .int i,.int j=>i==j
 | .str x,.str y=>x==y
 | .lst xs,.lst ys=>SA xs ys
 | .tup xs,.tup ys=>SA xs ys
 | _,_=>false
def SA:C3 Dat->C3 Dat->Bool
 | [],[]=>true
 | x::xs,y::ys=>Ob x y&&SA xs ys
 | _,_=>false
end
def pd:Nat->Dat->Bool
 | 0,.lst _=>false
 | 0,.tup _=>false
 | n+1,.lst xs=>xs.all (pd n)
 | n+1,.tup xs=>xs.all (pd n)
 | _,.dct _=>false
 | _,.exc _ _=>false
 | _,.non=>true
 | _,.bl _=>true
 | _,.int _=>true
 | _,.str _=>true
mutual
def NA:Dat->PyData
 | .non=>.none
 | .bl b=>.bool b
 | .int i=>.int i
 | .str x=>.str x
 | .tup xs=>.tuple (Xq xs)
 | .lst xs=>.list (Xq xs)
 | .dct _=>.none
 | .exc _ _=>.none
def Xq:C3 Dat->C3 PyData
 | []=>[]
 | x::xs=>NA x::Xq xs
end
theorem Cn{n:Nat}(h:pd n (.lst xs)=true):∃ m,n=m+1/\∀ x∈xs,pd m x=true:=by
 cases n with
 | zero=>cases h
 | succ n=>exact⟨n,rfl,by simpa[pd] using h⟩
theorem Cy{n:Nat}(h:pd n (.tup xs)=true):∃ m,n=m+1/\∀ x∈xs,pd m x=true:=by
 cases n with
 | zero=>cases h
 | succ n=>exact⟨n,rfl,by simpa[pd] using h⟩
theorem Ca{n:Nat}{xs}(h:pd n (.dct xs)=true):False:=by cases n<;>cases h
theorem Cq{n:Nat}{c xs}(h:pd n (.exc c xs)=true):False:=by cases n<;>cases h
mutual
theorem Hn:∀ {n m:Nat} (x y:Dat),pd n x=true->pd m y=true->PyData.eqv (NA x) (NA y)=Ob x y
 | n,m,.dct _,y,h,_=>(Ca h).elim
 | n,m,.exc _ _,y,h,_=>(Cq h).elim
 | n,m,x,.dct _,_,h=>(Ca h).elim
 | n,m,x,.exc _ _,_,h=>(Cq h).elim
 | n,m,.non,.non,_,_=>rfl
 | n,m,.non,.bl _,_,_=>rfl
 | n,m,.non,.int _,_,_=>rfl
 | n,m,.non,.str _,_,_=>rfl
 | n,m,.non,.tup _,_,_=>rfl
 | n,m,.non,.lst _,_,_=>rfl
 | n,m,.bl _,.non,_,_=>rfl
 | n,m,.bl _,.bl _,_,_=>rfl
 | n,m,.bl _,.int _,_,_=>rfl
 | n,m,.bl _,.str _,_,_=>rfl
 | n,m,.bl _,.tup _,_,_=>rfl
 | n,m,.bl _,.lst _,_,_=>rfl
 | n,m,.int _,.non,_,_=>rfl
 | n,m,.int _,.bl _,_,_=>rfl
 | n,m,.int _,.int _,_,_=>rfl
 | n,m,.int _,.str _,_,_=>rfl
 | n,m,.int _,.tup _,_,_=>rfl
 | n,m,.int _,.lst _,_,_=>rfl
 | n,m,.str _,.non,_,_=>rfl
 | n,m,.str _,.bl _,_,_=>rfl
 | n,m,.str _,.int _,_,_=>rfl
 | n,m,.str _,.str _,_,_=>rfl
 | n,m,.str _,.tup _,_,_=>rfl
 | n,m,.str _,.lst _,_,_=>rfl
 | n,m,.lst _,.non,_,_=>rfl
 | n,m,.lst _,.bl _,_,_=>rfl
 | n,m,.lst _,.int _,_,_=>rfl
 | n,m,.lst _,.str _,_,_=>rfl
 | n,m,.lst _,.tup _,_,_=>rfl
 | n,m,.lst xs,.lst ys,h,k=>by
  obtain⟨g,_,hx⟩:=Cn h;obtain⟨m',_,hy⟩:=Cn k;simp only[NA,PyData.eqv,Ob];exact X1 xs ys hx hy
 | n,m,.tup _,.non,_,_=>rfl
 | n,m,.tup _,.bl _,_,_=>rfl
 | n,m,.tup _,.int _,_,_=>rfl
 | n,m,.tup _,.str _,_,_=>rfl
 | n,m,.tup _,.lst _,_,_=>rfl
 | n,m,.tup xs,.tup ys,h,k=>by
  obtain⟨g,_,hx⟩:=Cy h;obtain⟨m',_,hy⟩:=Cy k;simp only[NA,PyData.eqv,Ob];exact X1 xs ys hx hy
theorem X1:∀ {n m:Nat} (xs ys:C3 Dat),(∀ x∈xs,pd n x=true)->(∀ y∈ys,pd m y=true)->PyData.eqvAll (Xq xs) (Xq ys)=SA xs ys
 | n,m,[],[],_,_=>rfl
 | n,m,[],_::_,_,_=>rfl
 | n,m,_::_,[],_,_=>rfl
 | n,m,x::xs,y::ys,hx,hy=>by
  simp only[Xq,PyData.eqvAll,SA];rw[Hn (n:=n) (m:=m) x y (hx x AW) (hy y AW),X1 (n:=n) (m:=m) xs ys (fun z hz=>hx z (AX _ hz)) (fun z hz=>hy z (AX _ hz))]
end
mutual
theorem Gw:∀ (n:Nat) (x:Dat),pd n x=true->(NA x).depth<=n
 | n,.dct _,h=>(Ca h).elim
 | n,.exc _ _,h=>(Cq h).elim
 | n,.non,_=>DJ _
 | n,.bl _,_=>DJ _
 | n,.int _,_=>DJ _
 | n,.str _,_=>DJ _
 | n,.lst xs,h=>by
  obtain⟨m,e,hx⟩:=Cn h;subst e;simp only[NA,PyData.depth];exact HH (Iq m xs hx)
 | n,.tup xs,h=>by
  obtain⟨m,e,hx⟩:=Cy h;subst e;simp only[NA,PyData.depth];exact HH (Iq m xs hx)
theorem Iq:∀ (n:Nat) (xs:C3 Dat),(∀ x∈xs,pd n x=true)->PyData.depthAll (Xq xs)<=n
 | n,[],_=>DJ _
 | n,x::xs,h=>by
  simp only[Xq,PyData.depthAll];exact Nat.max_le.mpr ⟨Gw n x (h x AW),Iq n xs fun z hz=>h z (AX _ hz)⟩
end
mutual
theorem Rp.reads(I:C' X aa σ H s):∀ {n:Nat} (d:Dat) (v:V) (u:A2),pd n d=true->Rp X.K H d v->W2 v u->∃ as,Reads s.heap u (NA d) as/\(NA d).canLay0=true
 | n,.dct _,v,u,h,_,_=>(Ca h).elim
 | n,.exc _ _,v,u,h,_,_=>(Cq h).elim
 | n,.non,v,u,_,i,r=>by cases An i;cases r;exact⟨_,.none,rfl⟩
 | n,.bl b,v,u,_,i,r=>by cases Xw i;cases r;exact⟨_,.bool b,rfl⟩
 | n,.int k,v,u,_,i,r=>by cases So i;obtain⟨t,rfl⟩:=r;exact⟨_,.int k t,rfl⟩
 | n,.str x,v,u,_,i,r=>by
  obtain⟨e,hs⟩:=Bo i;subst e;obtain⟨t,rfl⟩:=r;exact⟨_,.str x t,hs.ok⟩
 | n,.tup ds,v,u,h,i,r=>by
  obtain⟨m,_,hx⟩:=Cy h;obtain⟨a,vs,e1,e2,e3⟩:=Ge i;subst e1;cases r;obtain⟨its,L,⟨o,J,O,k,hd⟩,_⟩:=I.tuple e2;obtain⟨as,ra,hl⟩:=Wr.reads I ds vs its hx e3 L;exact⟨_,.tuple J O hd (by simpa using ra),hl⟩
 | n,.lst ds,v,u,h,i,r=>by
  obtain⟨m,_,hx⟩:=Cn h;obtain⟨a,vs,e1,e2,e3⟩:=Rl i;subst e1;cases r;obtain⟨its,L,⟨o,k,J,O,_,hd⟩,_⟩:=I.list e2.sq;obtain⟨as,ra,hl⟩:=Wr.reads I ds vs its hx e3 L;exact⟨_,.list J O hd (by simpa using ra),hl⟩
theorem Wr.reads(I:C' X aa σ H s):∀ {n:Nat} (ds:C3 Dat) (vs:C3 V) (us:C3 A2),(∀ x∈ds,pd n x=true)->Wr X.K H ds vs->Y5 vs us->∃ as,ReadsAll s.heap us (Xq ds) as/\PyData.canLayAll0 (Xq ds)=true
 | n,[],vs,us,_,i,r=>by
  rw[Yz i] at r;cases r;exact⟨_,.nil,rfl⟩
 | n,d::ds,vs,us,h,i,r=>by
  obtain⟨v,l,e1,e2,e3⟩:=Zw i;subst e1;cases r with
  | cons r1 r2 =>
   obtain⟨as,h1,l1⟩:=Rp.reads I d v _ (h d AW) e2 r1;obtain⟨bs,h2,l2⟩:=Wr.reads I ds l _ (fun z hz=>h z (AX _ hz)) e3 r2;exact⟨_,.cons h1 h2,by simp only[Xq,PyData.canLayAll0,l1,l2];rfl⟩
end
theorem Rp.eqAt(I:C' X aa σ H s){A:C1}{n m:Nat}{d e:Dat}{w:V}{C:A2}(hd:pd n d=true)(he:pd m e=true)(hn:n<=60)(hu:A.units+60<cLine)(r1:Rp X.K H d v)(r2:Rp X.K H e w)(q1:W2 v u)(q2:W2 w C) :
  SeqAt.EqAt A s u C (Ob d e):=by
 obtain⟨as,a1,a2⟩:=Rp.reads I d v u hd r1 q1;obtain⟨bs,b1,b2⟩:=Rp.reads I e w C he r2 q2;rw[← Hn d e hd he];have:=Gw n d hd;exact SeqAt.eqAt_reads _ _ A s u C as bs a1 b1 a2 b2 (by lia)
variable{xs:C3 α}{z:Str}
def RA:C2 HO->Prop
 | some (.lst _)=>True
 | some (.dK _)=>True
 | some (.dT _)=>True
 | _=>False
def Q8(A:AS)(H:Hp):Prop:=∀ a,A a=true->RA (H a)
theorem Q8.new(m:Q8 A H)(h:H p=none):A p=false:=by
 cases q:A p with
 | false=>rfl
 | true=>have:=m p q;rw[h] at this;exact this.elim
theorem Q8.mono(m:Q8 A H)(e:Zu H H'):Q8 A H':=fun a h=>by
 have:=m a h;cases q:H a with
 | none=>rw[q] at this;exact this.elim
 | some o=>rw[q] at this;rw[e a o q];exact this
def ins(A:AS)(p:A4):AS:=fun a=>A a||a==p
theorem ba:ins A p p=true:=by simp[ins]
theorem Nd{a:A4}(h:A a=true):ins A p a=true:=by simp[ins,h]
theorem Xm{a:A4}(h:ins A p a=true):A a=true\/a=p:=by simpa[ins] using h
theorem ic{a:A4}(h:A a=false)(hn:a≠p):ins A p a=false:=by simp[ins,h,hn]
structure JN (A:AS) (H:Hp) (A':AS) (H':Hp):Prop where
 keep:∀ a o,H a=some o->A a=false->H' a=some o
 sub:∀ a,A' a=true->A a=true\/H a=none
theorem JN.refl(A:AS)(H:Hp):JN A H A H:=⟨fun _ _ h _=>h,fun _ h=>.inl h⟩
theorem JN.same(e:Zu H H'):JN A H A H':=⟨fun a o h _=>e a o h,fun _ h=>.inl h⟩
theorem JN.trans{A A1 f:AS}{H H1 H2:Hp}(a:JN A H A1 H1)(b:JN A1 H1 f H2):JN A H f H2 where
 keep:=fun c o h hA=>b.keep c o (a.keep c o h hA) (by
  cases q:A1 c with
  | false=>rfl
  | true =>
   rcases a.sub c q with z | z
   ·rw[z] at hA;cases hA
   ·rw[z] at h;cases h)
 sub:=fun c h=>by
  rcases b.sub c h with z | z
  ·exact a.sub c z
  ·cases d:A c with
   | true=>exact .inl rfl
   | false =>
    cases q:H c with
    | none=>exact .inr rfl
    | some o=>rw[a.keep c o q d] at z;cases z
theorem JN.av(s:JN A H A' H'):Zu (av H A) (av H' A'):=fun b o e=>by
 obtain⟨h1,h2⟩:=Mu e;refine V8 (s.keep b o h2 h1) ?_;cases q:A' b with
 | false=>rfl
 | true =>
  rcases s.sub b q with z | z
  ·rw[z] at h1;cases h1
  ·rw[z] at h2;cases h2
inductive GX where
 | nest (dss:List (List Dat)) | dict (kvs:List (List Ul×Dat)) | err (c f:Str) (ns:List Int) | dik (kvs:List (Int×Dat))
def NC(K:JT)(A:AS)(H:Hp)(o:A4->Prop):GX->V->Prop
 | .nest dss,v=>∃ (a:A4) (as:C3 A4),v=.ref a/\o a/\dss.length<=sizeLine/\H a=some (.lst (as.map V.ref))/\as.length=dss.length/\as.Nodup/\a∉as/\∀ (n:Nat) b ds,as[n]?=some b->dss[n]?=some ds->o b/\ds.length<=sizeLine/\∃ vs,H b=some (.lst vs)/\Wr K (av H A) ds vs
 | .dict kvs,v=>∃ (a:A4) (us:C3 (C3 Ul×V)),v=.ref a/\o a/\kvs.length<=sizeLine/\H a=some (.dT us)/\us.map (·.1)=kvs.map (·.1)/\Wr K (av H A) (kvs.map (·.2)) (us.map (·.2))
 | .err c f ns,v=>∃ (e C dx:A4) (j:C3 (Str×V)) (a:A4),v=.ref e/\av H A e=some (.ext (NW e C (some dx)))/\Wg K c C/\av H A dx=some (.xd j)/\(∀ g,g≠f->j.lookup g=none)/\j.lookup f=some (.ref a)/\o a/\H a=some (.lst (ns.map V.int))/\ns.length<=sizeLine
 | .dik kvs,v=>∃ (a:A4) (us:C3 (Ul×V)),v=.ref a/\o a/\kvs.length<=sizeLine/\H a=some (.dK us)/\us.map (·.1)=kvs.map (fun p=>(Sum.inl p.1:Ul))/\Wr K (av H A) (kvs.map (·.2)) (us.map (·.2))
theorem NC.frame{o o':A4->Prop}{g:GX}(h:NC K A H o g v)(J:∀ b,o b->o' b)(hf:∀ b x,o b->H b=some x->H' b=some x)(ha:Zu (av H A) (av H' A')):NC K A' H' o' g v:=by
 cases g with
 | nest dss =>
  obtain⟨a,as,e1,e2,e3,e4,e5,Y,e7,e8⟩:=h;refine⟨a,as,e1,J a e2,e3,hf _ _ e2 e4,e5,Y,e7,fun n b ds q1 q2=>?_⟩;obtain⟨f1,f2,vs,f3,l⟩:=e8 n b ds q1 q2;exact⟨J b f1,f2,vs,hf _ _ f1 f3,l.mono ha⟩
 | dict kvs =>
  obtain⟨a,us,e1,e2,e3,e4,e5,Y⟩:=h;exact⟨a,us,e1,J a e2,e3,hf _ _ e2 e4,e5,Y.mono ha⟩
 | err c f ns =>
  obtain⟨x,C,dx,j,a,h1,h2,h3,h4,h5,h6,h7,h8,h9⟩:=h;exact⟨x,C,dx,j,a,h1,ha _ _ h2,h3,ha _ _ h4,h5,h6,J a h7,hf _ _ h7 h8,h9⟩
 | dik kvs =>
  obtain⟨a,us,e1,e2,e3,e4,e5,Y⟩:=h;exact⟨a,us,e1,J a e2,e3,hf _ _ e2 e4,e5,Y.mono ha⟩
inductive KL where
 | un | fz (d:Dat) | pk (d:Dat) | ow (ds:List Dat) | gx (g:GX)
abbrev Ev:=C3 KL
abbrev Zzu:=Ev->C2 Dat
abbrev Zzv:=Ev->C2 (C3 Dat)
def Aq(K:JT)(A:AS)(H:Hp)(o:A4->Prop):KL->C2 V->Prop
 | .un,_=>True
 | .fz d,x=>∃ v,x=some v/\Rp K (av H A) d v
 | .pk d,x=>∃ v,x=some v/\Pk K A H d v
 | .ow ds,x=>∃ a vs,x=some (.ref a)/\o a/\ds.length<=sizeLine/\H a=some (.lst vs)/\Wr K (av H A) ds vs
 | .gx g,x=>∃ v,x=some v/\NC K A H o g v
structure Bs where
 H₀:Hp
 R:AS
 st:Bool
structure F' (K:JT) (B:Bs) (A:AS) (H:Hp) (σ:St) (env:Ev):Prop where
 h0:Zu B.H₀ H
 r0:∀ a,B.R a=true->∃ o,B.H₀ a=some o
 ra:∀ a,B.R a=true->A a=true
 ar:∀ a,A a=true->B.R a=true\/B.H₀ a=none
 mu:Q8 A H
 len:σ.length=env.length
 np:B.st=true->∀ (i:Nat) d,env[i]?≠some (.pk d)
 sl:∃ own:Nat->Addr->Prop,(∀ i j a,own i a->own j a->i=j)/\(∀ i a,own i a->A a=true/\B.R a=false) /\
  ∀ (i:Nat) s,env[i]?=some s->∃ x,σ[i]?=some x/\Aq K A H (own i) s x
theorem Aq.mono(e:Zu H H'){o:A4->Prop}{s:KL}{x:C2 V}(h:Aq K A H o s x):Aq K A H' o s x:=by
 cases s with
 | un=>trivial
 | fz d=>obtain⟨v,e1,e2⟩:=h;exact⟨v,e1,e2.mono (Vj e)⟩
 | pk d=>obtain⟨v,e1,e2⟩:=h;exact⟨v,e1,e2.mono e⟩
 | ow ds=>obtain⟨a,vs,e1,e2,hz,e3,e4⟩:=h;exact⟨a,vs,e1,e2,hz,e _ _ e3,e4.mono (Vj e)⟩
 | gx g=>obtain⟨v,e1,e2⟩:=h;exact⟨v,e1,e2.frame (fun _ z=>z) (fun b x _ q=>e b x q) (Vj e)⟩
theorem F'.mono{B:Bs}{env:Ev}(k:F' K B A H σ env)(e:Zu H H'):F' K B A H' σ env:=by
 obtain⟨own,h1,h2,h4⟩:=k.sl;exact⟨k.h0.trans e,k.r0,k.ra,k.ar,k.mu.mono e,k.len,k.np,own,h1,h2,fun i s q=>let ⟨x,q2,q3⟩:=h4 i s q;⟨x,q2,q3.mono e⟩⟩
def Rm(m:Bool)(K:JT)(A:AS)(H:Hp)(d:Dat)(v:V):Prop:=match m with
 | true=>Pk K A H d v
 | false=>Rp K (av H A) d v
theorem Rm.any{d:Dat}(h:Rp K (av H A) d v):Rm m K A H d v:=by
 cases m with
 | true=>exact .inl h
 | false=>exact h
theorem Rm.pk{d:Dat}(h:Rm m K A H d v):Pk K A H d v:=by
 cases m with
 | true=>exact h
 | false=>exact .inl h
theorem Rm.mono(e:Zu H H'){d:Dat}(h:Rm m K A H d v):Rm m K A H' d v:=by
 cases m with
 | true=>exact Pk.mono e h
 | false=>exact Rp.mono (Vj e) h
def LB(m:Bool)(K:JT)(A:AS)(H:Hp):C3 Dat->C3 V->Prop
 | [],vs=>vs=[]
 | d::ds,vs=>∃ v r,vs=v::r/\Rm m K A H d v/\LB m K A H ds r
theorem LB.rps:∀ {ds:C3 Dat} {vs:C3 V},LB false K A H ds vs->Wr K (av H A) ds vs
 | [],vs,h=>by rw[show vs=[] from h];exact Uk
 | _::_,_,⟨v,r,e1,e2,e3⟩=>by rw[e1];exact Vx e2 (LB.rps e3)
theorem LB.full:∀ {ds:C3 Dat} {vs:C3 V},LB m K A H ds vs->Wr K H ds vs
 | [],vs,h=>by rw[show vs=[] from h];exact Uk
 | _::_,_,⟨v,r,e1,e2,e3⟩=>by rw[e1];exact Vx e2.pk.rp (LB.full e3)
theorem LB.one{d:Dat}(h:LB m K A H [d] vs):∃ v,vs=[v]/\Pk K A H d v:=by
 obtain⟨v,r,e1,e2,e3⟩:=h;exact⟨v,by rw[e1,show r=[] from e3],e2.pk⟩
variable{R:Bs}{env:Ev}{p:Pos}
theorem LB.two{d d':Dat}(h:LB m K A H [d,d'] vs):∃ v t,vs=[v,t]/\Pk K A H d v/\Pk K A H d' t:=by
 obtain⟨v,r,e1,e2,t,r',e3,e4,e5⟩:=h;exact⟨v,t,by rw[e1,e3,show r'=[] from e5],e2.pk,e4.pk⟩
def Mh(m:Bool)(K:JT)(A:AS)(H:Hp)(d:Dat)(Q:VK):Prop:=∀ v H',Zu H H'->Rm m K A H' d v->Q v H'
def F8(K:JT)(A:AS)(H:Hp)(ds:C3 Dat)(Q:VK):Prop:=∀ p vs H',ds.length<=sizeLine->Zu H H'->H p=none->H' p=some (.lst vs)->Wr K (av H' (ins A p)) ds vs->Q (.ref p) H'
section
variable{d:Dat}
theorem Mh.mono(h:Mh m K A H d Q)(e:Zu H H'):Mh m K A H' d Q:=fun v H2 e2 r=>h v H2 (e.trans e2) r
theorem F8.mono(h:F8 K A H ds Q)(e:Zu H H'):F8 K A H' ds Q:=fun p vs H2 hz e2 hn hp r=>h p vs H2 hz (e.trans e2) (e.free hn) hp r
theorem Mh.any(h:Mh m K A H d Q):Mh false K A H d Q:=fun v H' e r=>h v H' e (Rm.any r)
theorem Mh.here(h:Mh m K A H d Q)(r:Rp K (av H A) d v):Q v H:=h v H (Zu.refl H) (Rm.any r)
theorem Mh.new(h:Mh m K A H (.lst ds) Q)(mu:Q8 A H):F8 K A H ds Q:=fun p vs H' hz e hn hp r=>by
 refine h _ H' e (Rm.any (Ln hz (.inl (.inl (V8 hp (mu.new hn)))) (r.mono (M7 fun a q=>Nd q))))
theorem F8.at(h:F8 K A H ds Q)(hz:ds.length<=sizeLine)(r:Wr K (av H A) ds vs):∀ p,H p=none->Q (.ref p) (W7 H p (.lst vs)):=fun p hp=>by
 refine h p vs _ hz (Zu.new hp) hp Zk (r.mono fun b o e=>?_);obtain⟨h1,h2⟩:=Mu e;have U:b≠p:=Yh h2 hp;exact V8 (by rw[Zd U];exact h2) (ic h1 U)
theorem Mh.tup(h:Mh m K A H (.tup ds) Q)(mu:Q8 A H)(hz:ds.length<=sizeLine)(r:Wr K (av H A) ds vs):∀ p,H p=none->Q (.ref p) (W7 H p (.tup vs)):=fun p hp=>by
 refine h _ _ (Zu.new hp) (Rm.any (Cp hz (.inl ((V8 Zk (mu.new hp)))) (r.mono (Vj (Zu.new hp)))))
end
def Wm(m:Bool)(X:Cx)(e:C4)(f:Zzu):Prop:=PE X e fun σ H Q=>∃ env R A d,F' X.K R A H σ env/\f env=some d/\Mh m X.K A H d Q
def ML(X:Cx)(e:C4)(f:Zzv):Prop:=PE X e fun σ H Q=>∃ env R A ds,F' X.K R A H σ env/\f env=some ds/\F8 X.K A H ds Q
def Om(m:Bool)(X:Cx)(es:C3 C4)(f:Zzv):Prop:=PA X es fun σ H Q=>∃ env R A ds,F' X.K R A H σ env/\f env=some ds/\∀ vs H',Zu H H'->LB m X.K A H' ds vs->Q vs H'
def MK(X:Cx)(e:C4)(f:Ev->C2 Bool):Prop:=PT X e fun σ H Q=>∃ env R A b,F' X.K R A H σ env/\f env=some b/\∀ H',Zu H H'->Q b H'
def Oy(X:Cx)(e:C4)(f:Ev->C2 Bool):Prop:=PW X e fun σ H Q=>∃ env R A b,F' X.K R A H σ env/\f env=some b/\∀ H',Zu H H'->Q b H'
theorem PE.weak{t t':TE}(h:PE X e t)(w:∀ σ H Q,t' σ H Q->t σ H Q):PE X e t':=fun aa s σ H Q I q=>h aa s σ H Q I (w σ H Q q)
theorem PT.weak{t:TT}(h:PT X e t)(w:∀ σ H Q,t' σ H Q->t σ H Q):PT X e t':=fun aa s σ H Q I q=>h aa s σ H Q I (w σ H Q q)
theorem PW.weak{t:TT}(h:PW X e t)(w:∀ σ H Q,t' σ H Q->t σ H Q):PW X e t':=fun d aa s σ H Q I q=>h d aa s σ H Q I (w σ H Q q)
theorem PA.weak{e:C3 C4}{t t':TA}(h:PA X e t)(w:∀ σ H Q,t' σ H Q->t σ H Q):PA X e t':=fun pos aa s σ H Q I q=>h pos aa s σ H Q I (w σ H Q q)
theorem PS.weak{e:C5}{t t':TS}(h:PS X e t)(w:∀ D σ H,t' D σ H->t D σ H):PS X e t':=fun aa s σ H D I q=>h aa s σ H D I (w D σ H q)
theorem Gr.weak{e:C3 C5}{t t':TS}(h:Gr X e t)(w:∀ D σ H,t' D σ H->t D σ H):Gr X e t':=fun aa s σ H D I q=>h aa s σ H D I (w D σ H q)
section
variable{m:Bool}{X:Cx}{e:C4}{f:Zzu}
theorem Wm.any(h:Wm false X e f):Wm m X e f:=h.weak fun _ _ _ ⟨env,R,A,d,k,q1,q2⟩=>⟨env,R,A,d,k,q1,q2.any⟩
def dL(g:Zzv):Ev->C2 Dat:=fun env=>(g env).map .lst
theorem ML.x{g:Zzv}(h:ML X e g):Wm m X e (dL g):=h.weak fun _ _ _ L=>by
 obtain⟨env,R,A,d,k,q1,q2⟩:=L;unfold dL at q1;cases q:g env with
 | none=>rw[q] at q1;cases q1
 | some ds =>
  rw[q] at q1;cases q1;exact⟨env,R,A,ds,k,q,q2.new k.mu⟩
theorem bind_some{β:Type}{a:C2 α}{g:α->C2 β}{b:β}(h:a.bind g=some b):∃ x,a=some x/\g x=some b:=by
 cases a with
 | none=>cases h
 | some x=>exact⟨x,rfl,h⟩
def dV(i:Nat):Ev->C2 Dat:=fun env=>match env[i]? with
 | some (.fz d)=>some d
 | _=>none
def Cv:C3 (C3 Ul×Dat)->C2 (C3 (C3 Ul×Int))
 | []=>some []
 | (k,.int n)::r=>(Cv r).map ((k,n)::·)
 | _=>none
theorem WU:∀ {kvs:C3 (C3 Ul×Dat)} {b:C3 (C3 Ul×Int)},Cv kvs=some b->b.length=kvs.length
 | [],b,h=>by cases h;rfl
 | (k,.int n)::r,b,h=>by
   rw[Cv] at h;cases e:Cv r with
   | none=>rw[e] at h;cases h
   | some r'=>rw[e] at h;cases h;rw[BC,BC,WU e]
 | (k,.non)::r,b,h=>by cases h
 | (k,.bl _)::r,b,h=>by cases h
 | (k,.str _)::r,b,h=>by cases h
 | (k,.tup _)::r,b,h=>by cases h
 | (k,.lst _)::r,b,h=>by cases h
 | (k,.dct _)::r,b,h=>by cases h
 | (k,.exc _ _)::r,b,h=>by cases h
theorem cH:∀ {kvs:C3 (C3 Ul×Dat)} {b:C3 (C3 Ul×Int)} {us:C3 (C3 Ul×V)},Cv kvs=some b->us.map (·.1)=kvs.map (·.1)->Wr K H (kvs.map (·.2)) (us.map (·.2))->us=PX b
 | [],b,us,h,e1,_=>by
   cases h;cases us with
   | nil=>rfl
   | cons u us=>cases e1
 | (k,.int n)::r,b,us,h,e1,e2=>by
   rw[Cv] at h;cases e:Cv r with
   | none=>rw[e] at h;cases h
   | some r' =>
     rw[e] at h;cases h;cases us with
     | nil=>cases e1
     | cons u us =>
       obtain⟨v,a,z1,z2,z3⟩:=Zw e2;rw[BY] at z1;injection z1 with z1 z4
       rw[BY,BY] at e1;injection e1 with e1 e3
       have ih:=cH e e3 (z4▸z3);have hv:u.2=.int n:=by rw[z1];exact So z2
       rw[ih];show u::PX r'=(k,V.int n)::PX r';rw[show u=(k,V.int n) from IB e1 hv]
 | (k,.non)::r,b,us,h,_,_=>by cases h
 | (k,.bl _)::r,b,us,h,_,_=>by cases h
 | (k,.str _)::r,b,us,h,_,_=>by cases h
 | (k,.tup _)::r,b,us,h,_,_=>by cases h
 | (k,.lst _)::r,b,us,h,_,_=>by cases h
 | (k,.dct _)::r,b,us,h,_,_=>by cases h
 | (k,.exc _ _)::r,b,us,h,_,_=>by cases h
def dP(i:Nat):Ev->C2 Dat:=fun env=>match env[i]? with
 | some (.fz d)=>some d
 | some (.pk d)=>some d
 | some (.ow ds)=>some (.lst ds)
 | some (.gx (.err c f ns))=>some (.exc c [(f,.nums ns)])
 | some (.gx (.dict kvs))=>(Cv kvs).map .dct
 | _=>none
theorem F'.fz{d:Dat}(k:F' X.K R A H σ env)(h:env[i]?=some (.fz d)):∃ v,σ[i]?=some (some v)/\Rp X.K (av H A) d v:=by
 obtain⟨own,h1,h2,h4⟩:=k.sl;obtain⟨x,q2,v,e1,e2⟩:=h4 i _ h;subst e1;exact⟨v,q2,e2⟩
theorem F'.look{d:Dat}(k:F' X.K R A H σ env)(h:dP i env=some d):∃ v,σ[i]?=some (some v)/\Pk X.K A H d v:=by
 obtain⟨own,h1,h2,h4⟩:=k.sl;unfold dP at h;split at h
 ·rename_i z e
  cases h;obtain⟨x,q2,v,e1,e2⟩:=h4 i _ e;subst e1;exact⟨v,q2,.inl e2⟩
 ·rename_i z e
  cases h;obtain⟨x,q2,v,e1,e2⟩:=h4 i _ e;subst e1;exact⟨v,q2,e2⟩
 ·rename_i z e
  cases h;obtain⟨x,q2,a,vs,e1,e2,hz,e3,e4⟩:=h4 i _ e;subst e1;exact⟨.ref a,q2,.inr (.inl ⟨a,vs,z,rfl,rfl,hz,e3,e4⟩)⟩
 ·rename_i c f ns e
  cases h;obtain⟨x,q2,v,e1,y,C,dx,j,a,h1,h2,h3,h4,h5,h6,h7,h8,h9⟩:=h4 i _ e;subst e1;exact⟨v,q2,.inr (.inr (.inl ⟨c,f,ns,rfl,y,C,dx,j,a,h1,(Mu h2).2,h3,(Mu h4).2,h5,h6,h8,h9⟩))⟩
 ·rename_i kvs e
  obtain⟨x,q2,v,e1,a,us,g1,g2,g3,g4,g5,g6⟩:=h4 i _ e;subst e1;cases el:Cv kvs with
  | none=>rw[el] at h;cases h
  | some b =>
   rw[el] at h;cases h;exact⟨v,q2,.inr (.inr (.inr ⟨b,a,rfl,g1,by rw[WU el];exact g3,by rw[g4,cH el g5 g6]⟩))⟩
 ·cases h
theorem xv(i:Nat){x:Str}{pos:Pos}(hN:X.N[i]?=some x:=by rfl)(hv:LU X.env.scope x:=by first | exact AD rfl | exact BJ (AD rfl) | exact BJ (BJ rfl))(hd:(x==("__debug__" : Str))=false:=by decide)
  (M:(x==("__classdict__" : Str))=false:=by decide):Wm m X (.Name x pos) (dV i):=Wm.any ((Rx hN hv hd M).weak fun σ H Q L=>by
 obtain⟨env,R,A,d,k,q1,q2⟩:=L;unfold dV at q1;split at q1
 ·rename_i z e
  cases q1;obtain⟨v,h1,h2⟩:=k.fz e;exact⟨v,h1,q2.here h2⟩
 ·cases q1)
theorem xo(i:Nat){x:Str}(hN:X.N[i]?=some x:=by rfl)(hv:LU X.env.scope x:=by first | exact AD rfl | exact BJ (AD rfl) | exact BJ (BJ rfl))(hd:(x==("__debug__" : Str))=false:=by decide)
  (M:(x==("__classdict__" : Str))=false:=by decide):Wm true X (.Name x pos) (dP i):=(Rx hN hv hd M).weak fun σ H Q L=>by
 obtain⟨env,R,A,d,k,q1,q2⟩:=L;obtain⟨v,h1,h2⟩:=k.look q1;exact⟨v,h1,q2 v H (Zu.refl H) h2⟩
def dC(d:Dat):Ev->C2 Dat:=fun _=>some d
theorem bH{i:Int}{j pos}:Wm m X (.Constant (.int i) j pos) (dC (.int i)):=Wm.any (gS.weak fun _ _ _ ⟨_,_,_,_,_,q1,q2⟩=>by cases q1;exact q2.here Wf)
theorem mU{b:Bool}{j pos}:Wm m X (.Constant (.bool b) j pos) (dC (.bl b)):=Wm.any (jF.weak fun _ _ _ ⟨_,_,_,_,_,q1,q2⟩=>by cases q1;exact q2.here Uq)
theorem RY{j pos}:Wm m X (.Constant .none j pos) (dC .non):=Wm.any (nu.weak fun _ _ _ ⟨_,_,_,_,_,q1,q2⟩=>by cases q1;exact q2.here Lx)
theorem RB{x:Str}{j pos}(h:KW x:=by decide +kernel):Wm m X (.Constant (.str x) j pos) (dC (.str x)):=Wm.any (WJ.weak fun _ _ _ ⟨_,_,_,_,_,q1,q2⟩=>by cases q1;exact q2.here (Dt h))
theorem fL{x:Str}{d:Dat}(hg:Gl X x)(hm:X.mg x=some u)(r:W2 v u)(Z:∀ H,Rp X.K H d v)(hd:(x==("__debug__" : Str))=false:=by decide):Wm m X (.Name x pos) (dC d) :=
 Wm.any ((jo hg hm r hd).weak fun _ _ _ ⟨_,_,_,_,_,q1,q2⟩=>by cases q1;exact q2.here (Z _))
end
variable{g:Dat->Ev->C2 Ev}{B:Bs}
def rD(K:JT)(F:Dat->Dat->C2 Dat):R2:=fun v u H Q=>∃ A x y d,Q8 A H/\F x y=some d/\Pk K A H x v/\Pk K A H y u/\Mh false K A H d Q
def rN(K:JT)(F:Dat->Dat->C2 (C3 Dat)):R2:=fun v u H Q=>∃ A x y ds,Q8 A H/\F x y=some ds/\Pk K A H x v/\Pk K A H y u/\F8 K A H ds Q
def Ek(X:Cx)(f:A2->A2->Sem A2)(F:Dat->Dat->C2 Dat):Prop:=Hx X f (rD X.K F)
def R'(X:Cx)(f:A2->A2->Sem A2)(F:Dat->Dat->C2 (C3 Dat)):Prop:=Hx X f (rN X.K F)
theorem Hx.weak{r r':R2}(h:Hx X f r)(w:∀ x y H Q,r' x y H Q->r x y H Q):Hx X f r':=fun aa s σ H x y v u Q I S m q=>h aa s σ H x y v u Q I S m (w _ _ _ _ q)
theorem R'.d{F:Dat->Dat->C2 (C3 Dat)}(h:R' X f F):Ek X f (fun x y=>(F x y).map .lst):=Hx.weak h fun v u H Q L=>by
 obtain⟨A,x,y,d,mu,e,M,p2,q⟩:=L;dsimp only at e;cases z:F x y with
 | none=>rw[z] at e;cases e
 | some ds=>rw[z] at e;cases e;exact⟨A,x,y,ds,mu,z,M,p2,q.new mu⟩
def dO(F:Dat->Dat->C2 α)(f g:Zzu):Ev->C2 α:=fun env=>(f env).bind fun x=>(g env).bind fun y=>F x y
section
variable{m m1 m2:Bool}{X:Cx}{a b:C4}{f g:Zzu}{F:Dat->Dat->C2 Dat}{G:Dat->Dat->C2 (C3 Dat)}{pos:Pos}
theorem two{r:R2}{x y:Dat}(k:F' X.K R A H σ env)(e1:f env=some x)(e2:g env=some y)
  (h:∀ v u H2,Zu H H2->Pk X.K A H2 x v->Pk X.K A H2 y u->Q8 A H2->r v u H2 Q) :
  QI r (fun σ H Q=>∃ env R A d,F' X.K R A H σ env/\f env=some d/\Mh m1 X.K A H d Q) (fun σ H Q=>∃ env R A d,F' X.K R A H σ env/\g env=some d/\Mh m2 X.K A H d Q) σ H Q :=
 ⟨env,R,A,x,k,e1,fun v H1 s1 M=>⟨env,R,A,y,k.mono s1,e2,fun u H2 s2 p2=>h v u H2 (s1.trans s2) (M.pk.mono s2) p2.pk (k.mu.mono (s1.trans s2))⟩⟩
theorem Iz{F:Dat->Dat->C2 α}{d:α}(h:dO F f g env=some d):∃ x y,f env=some x/\g env=some y/\F x y=some d:=by
 obtain⟨x,e1,h⟩:=bind_some h;obtain⟨y,e2,h⟩:=bind_some h;exact⟨x,y,e1,e2,h⟩
theorem b'{op:Operator}(J:Ek X (binaryOp op) F)(ha:Wm m1 X a f)(U:Wm m2 X b g):Wm m X (.BinOp a op b pos) (dO F f g):=Wm.any ((XY J ha U).weak fun σ H Q L=>by
 obtain⟨env,R,A,d,k,q1,q2⟩:=L;obtain⟨x,y,e1,e2,e3⟩:=Iz q1;exact two k e1 e2 fun v u H2 s M p2 mu=>⟨A,x,y,d,mu,e3,M,p2,q2.mono s⟩)
theorem QU{op:Operator}(J:R' X (binaryOp op) G)(ha:Wm m1 X a f)(U:Wm m2 X b g):ML X (.BinOp a op b pos) (dO G f g):=(XY J ha U).weak fun σ H Q L=>by
 obtain⟨env,R,A,d,k,q1,q2⟩:=L;obtain⟨x,y,e1,e2,e3⟩:=Iz q1;exact two k e1 e2 fun v u H2 s M p2 mu=>⟨A,x,y,d,mu,e3,M,p2,q2.mono s⟩
theorem RV{op:CmpOp}(J:Ek X (compareOp op) F)(ha:Wm m1 X a f)(U:Wm m2 X b g)(hm:behindInMarks op b=false):Wm m X (.Compare a [op] [b] pos) (dO F f g):=Wm.any ((lJ J ha U hm).weak fun σ H Q L=>by
 obtain⟨env,R,A,d,k,q1,q2⟩:=L;obtain⟨x,y,e1,e2,e3⟩:=Iz q1;exact two k e1 e2 fun v u H2 s M p2 mu=>⟨A,x,y,d,mu,e3,M,p2,q2.mono s⟩)
def dB(f:Zzu):Ev->C2 Bool:=fun env=>match f env with
 | some (.bl b)=>some b
 | _=>none
theorem Km{b:Bool}(h:dB f env=some b):f env=some (.bl b):=by
 unfold dB at h;split at h
 ·rename_i z e;cases h;exact e
 ·cases h
theorem Ws(J:Ek X (compareOp op) F)(ha:Wm m1 X a f)(U:Wm m2 X b g)(hm:behindInMarks op b=false):MK X (.Compare a [op] [b] pos) (dB (dO F f g)):=(f9 J ha U hm).weak fun σ H Q L=>by
 obtain⟨env,R,A,d,k,q1,q2⟩:=L;obtain⟨x,y,e1,e2,e3⟩:=Iz (Km q1);show QI (rD X.K F) _ _ σ H (fun x H'=>∃ k,x=.bl k/\Q k H');exact two k e1 e2 fun v u H2 s M p2 mu=>⟨A,x,y,.bl d,mu,e3,M,p2,fun v H' s' r=>⟨d,r.pk.bl,q2 H' (s.trans s')⟩⟩
theorem XS(J:LV X (rD X.K F))(ha:Wm m1 X a f)(U:Wm m2 X b g)(hs:Oq b):Wm m X (.Subscript a b pos) (dO F f g):=Wm.any ((V' J ha U hs).weak fun σ H Q L=>by
 obtain⟨env,R,A,d,k,q1,q2⟩:=L;obtain⟨x,y,e1,e2,e3⟩:=Iz q1;exact two k e1 e2 fun v u H2 s M p2 mu=>⟨A,x,y,d,mu,e3,M,p2,q2.mono s⟩)
end
section
variable{m1 m2:Bool}{a b c:C4}{f g h:Zzu}{t u:Ev->C2 Bool}
def Dl(t u:Ev->C2 Bool):Ev->C2 Bool:=fun env=>(t env).bind fun b=>if b=true then u env else some false
def Lg(t u:Ev->C2 Bool):Ev->C2 Bool:=fun env=>(t env).bind fun b=>if b=true then some true else u env
def Md(t:Ev->C2 Bool):Ev->C2 Bool:=fun env=>(t env).map (!·)
theorem E6(ha:MK X a t):Oy X (.BoolOp .And [a] pos) t:=dq ha
theorem Pa(ha:MK X a t):Oy X (.BoolOp .Or [a] pos) t:=gf ha
theorem I0(ha:MK X a t)(U:Oy X (.BoolOp .And (b::aj) pos) u):Oy X (.BoolOp .And (a::b::aj) pos) (Dl t u):=(lM ha U).weak fun σ H Q L=>by
 obtain⟨env,R,A,d,k,q1,q2⟩:=L;obtain⟨x,e1,e2⟩:=bind_some q1;refine⟨env,R,A,x,k,e1,fun H1 s1=>?_⟩;cases x with
 | true =>
  rw[AG rfl] at e2 ⊢;exact⟨env,R,A,d,k.mono s1,e2,fun H2 s2=>q2 H2 (s1.trans s2)⟩
 | false =>
  rw[AQ CG] at e2 ⊢;cases e2;exact q2 H1 s1
theorem Xr(ha:MK X a t)(U:Oy X (.BoolOp .Or (b::aj) pos) u):Oy X (.BoolOp .Or (a::b::aj) pos) (Lg t u):=(mD ha U).weak fun σ H Q L=>by
 obtain⟨env,R,A,d,k,q1,q2⟩:=L;obtain⟨x,e1,e2⟩:=bind_some q1;refine⟨env,R,A,x,k,e1,fun H1 s1=>?_⟩;cases x with
 | true =>
  rw[AG rfl] at e2 ⊢;cases e2;exact q2 H1 s1
 | false =>
  rw[AQ CG] at e2 ⊢;exact⟨env,R,A,d,k.mono s1,e2,fun H2 s2=>q2 H2 (s1.trans s2)⟩
theorem Oy.pt(h:Oy X e t):MK X e t:=PW.pt h
theorem Pq(ha:MK X a t):MK X (.UnaryOp .Not a pos) (Md t):=(ef ha).weak fun σ H Q L=>by
 obtain⟨env,R,A,d,k,q1,q2⟩:=L;unfold Md at q1;cases e:t env with
 | none=>rw[e] at q1;cases q1
 | some x =>
  rw[e] at q1;cases q1;exact⟨env,R,A,x,k,e,fun H1 s1=>q2 H1 s1⟩
def QG(f g:Zzu):Ev->C2 Dat:=fun env=>(dB f env).bind fun b=>if b=true then g env else some (.bl false)
def NR(f g:Zzu):Ev->C2 Dat:=fun env=>(dB f env).bind fun b=>if b=true then some (.bl true) else g env
def SF(f:Zzu):Ev->C2 Dat:=fun env=>(dB f env).map fun b=>.bl (!b)
theorem QC{op}(ha:Wm m X a f):Wm m X (.BoolOp op [a] pos) f:=nL ha
theorem UV(ha:Wm m1 X a f)(U:Wm false X (.BoolOp .And (b::aj) pos) g):Wm m X (.BoolOp .And (a::b::aj) pos) (QG f g):=Wm.any ((ma ha U).weak fun σ H Q L=>by
 obtain⟨env,R,A,d,k,q1,q2⟩:=L;obtain⟨x,e1,e2⟩:=bind_some q1;refine⟨env,R,A,.bl x,k,Km e1,fun v H1 s1 M=>⟨x,M.pk.bl,?_⟩⟩;cases x with
 | true =>
  rw[AG rfl] at e2 ⊢;exact⟨env,R,A,d,k.mono s1,e2,q2.mono s1⟩
 | false =>
  rw[AQ CG] at e2 ⊢;cases e2;exact(q2.mono s1).here Uq)
theorem TX(ha:Wm m1 X a f)(U:Wm false X (.BoolOp .Or (b::aj) pos) g):Wm m X (.BoolOp .Or (a::b::aj) pos) (NR f g):=Wm.any ((lj ha U).weak fun σ H Q L=>by
 obtain⟨env,R,A,d,k,q1,q2⟩:=L;obtain⟨x,e1,e2⟩:=bind_some q1;refine⟨env,R,A,.bl x,k,Km e1,fun v H1 s1 M=>⟨x,M.pk.bl,?_⟩⟩;cases x with
 | true =>
  rw[AG rfl] at e2 ⊢;cases e2;exact(q2.mono s1).here Uq
 | false =>
  rw[AQ CG] at e2 ⊢;exact⟨env,R,A,d,k.mono s1,e2,q2.mono s1⟩)
theorem jt(ha:Wm m1 X a f):Wm m X (.UnaryOp .Not a pos) (SF f):=Wm.any ((mK ha).weak fun σ H Q L=>by
 obtain⟨env,R,A,d,k,q1,q2⟩:=L;unfold SF at q1;cases e:dB f env with
 | none=>rw[e] at q1;cases q1
 | some x =>
  rw[e] at q1;cases q1;exact⟨env,R,A,.bl x,k,Km e,fun v H1 s1 M=>⟨x,M.pk.bl,(q2.mono s1).here Uq⟩⟩)
def jK:Dat->C2 Bool
 | .non=>some false
 | .bl b=>some b
 | .int i=>some (i != 0)
 | .str y=>some ((y.length:Int) != 0)
 | .lst xs=>some (!xs.isEmpty)
 | .tup xs=>some (!xs.isEmpty)
 | _=>none
def dT(f:Zzu):Ev->C2 Bool:=fun env=>(f env).bind jK
theorem Nh(r:Wr K H ds vs):vs.isEmpty=ds.isEmpty:=by
 cases ds with
 | nil=>rw[Yz r];rfl
 | cons d ds=>obtain⟨v,r',e,_⟩:=Zw r;rw[e];rfl
theorem Sw(ha:Wm true X a f)(he:∀ c,isTrue a X.env c=(do let v ← c;standAt a.pos;holding [v] (truthy v)):=by intro _;rfl):MK X a (dT f):=(hO ha he).weak fun σ H Q L=>by
 obtain⟨env,R,A,b,k,q1,q2⟩:=L;obtain⟨x,e1,e2⟩:=bind_some q1;refine⟨env,R,A,x,k,e1,fun v H1 s1 M=>⟨b,?_,q2 H1 s1⟩⟩;have p:Pk X.K A H1 x v:=M;cases x with
 | non=>cases e2;rw[p.non];rfl
 | bl T=>cases e2;rw[p.bl];rfl
 | int i=>cases e2;rw[p.int];rfl
 | str y=>cases e2;obtain⟨e,h⟩:=p.str;rw[e];exact⟨h.le,rfl⟩
 | lst xs=>cases e2;obtain⟨J,vs,e,h1,h2⟩:=p.lst;rw[e];exact .inl ⟨vs,h1.sq,by rw[Nh h2]⟩
 | tup xs=>cases e2;obtain⟨J,vs,e,h1,h2⟩:=p.tup;rw[e];exact .inr (.inl ⟨vs,h1,by rw[Nh h2]⟩)
 | dct _=>cases e2
 | exc _ _=>cases e2
end
section
variable{m:Bool}{X:Cx}{e:C4}{es:C3 C4}{f:Zzu}{fs:Zzv}{pos:Pos}
def Za:Ev->C2 (C3 Dat):=fun _=>some []
def Z1(f:Zzu)(fs:Zzv):Ev->C2 (C3 Dat):=fun env=>(f env).bind fun d=>(fs env).map fun ds=>d::ds
theorem Z8:Om m X [] Za:=U3.weak fun σ H Q ⟨env,R,A,ds,k,q1,q2⟩=>by cases q1;exact q2 [] H (Zu.refl H) rfl
theorem Z0(ha:Wm m X e f)(Z:Om m X es fs)(hs:starEach (e::es) X.env=(false,eval e X.env)::starEach es X.env:=by rfl):Om m X (e::es) (Z1 f fs):=(Yu ha Z hs).weak fun σ H Q L=>by
 obtain⟨env,R,A,ds,k,q1,q2⟩:=L;obtain⟨d,e1,e2⟩:=bind_some q1;cases e3:fs env with
 | none=>rw[e3] at e2;cases e2
 | some r =>
  rw[e3] at e2;cases e2;exact⟨env,R,A,d,k,e1,fun v H1 s1 M=>⟨env,R,A,r,k.mono s1,e3,fun vs H2 s2 p2=>q2 (v::vs) H2 (s1.trans s2) ⟨v,vs,rfl,M.mono s2,p2⟩⟩⟩
def Wz(fs:Zzv):Ev->C2 Dat:=fun env=>(fs env).bind fun ds=>if ds.length<=1000 then some (.tup ds) else none
def Ts(fs:Zzv):Ev->C2 (C3 Dat):=fun env=>(fs env).bind fun ds=>if ds.length<=1000 then some ds else none
theorem bv{x1}(h:Om false X es fs):Wm m X (.Tuple es x1 pos) (Wz fs):=Wm.any ((n7 h).weak fun σ H Q L=>by
 obtain⟨env,R,A,d,k,q1,q2⟩:=L;obtain⟨ds,e1,e2⟩:=bind_some q1;split at e2
 ·rename_i hz
  cases e2;have f:ds.length<=sizeLine:=DW (T9 hz);refine⟨env,R,A,ds,k,e1,fun vs H1 s1 M=>⟨?_,(q2.mono s1).tup (k.mu.mono s1) f M.rps⟩⟩;rw[Y0 M.rps];exact f
 ·cases e2)
theorem Mt(h:Om false X es fs):ML X (.List es pos) (Ts fs):=(cw h).weak fun σ H Q L=>by
 obtain⟨env,R,A,d,k,q1,q2⟩:=L;obtain⟨ds,e1,e2⟩:=bind_some q1;split at e2
 ·rename_i hz
  cases e2;have f:d.length<=sizeLine:=DW (T9 hz);refine⟨env,R,A,d,k,e1,fun vs H1 s1 M=>⟨?_,(q2.mono s1).at f M.rps⟩⟩;rw[Y0 M.rps];exact f
 ·cases e2
def O0(X:Cx)(f:A2)(F:C3 Dat->C2 Dat):Prop:=Uf X f (fun vs H Q=>∃ A ds d,Q8 A H/\F ds=some d/\LB true X.K A H ds vs/\Mh false X.K A H d Q)
def TV(X:Cx)(f:A2)(F:C3 Dat->C2 (C3 Dat)):Prop:=Uf X f (fun vs H Q=>∃ A ds d,Q8 A H/\F ds=some d/\LB true X.K A H ds vs/\F8 X.K A H d Q)
theorem Uf.weak{f:A2}{r r':C3 V->Hp->VK->Prop}(h:Uf X f r)(w:∀ xs H Q,r' xs H Q->r xs H Q):Uf X f r':=fun aa s σ H xs us Q I L q=>h aa s σ H xs us Q I L (w _ _ _ q)
def dF(F:C3 Dat->C2 α)(fs:Zzv):Ev->C2 α:=fun env=>(fs env).bind F
variable{x:Str}{p:Pos}{id T:String}{F:C3 Dat->C2 Dat}{G:C3 Dat->C2 (C3 Dat)}
theorem XT(O:O0 X (.builtin id) F)(hg:Gl X x)(hm:X.mg x=none)(hv:bootBuiltins x=some (.builtin id))(ha:Om true X (e::es) fs)(hn:x≠"__name__" := by decide)(P:(x==("__debug__" : Str))=false:=by decide)
  (he:starEach (e::es) X.env=(false,eval e X.env)::starEach es X.env:=by rfl) (af:(backTo pos (starEach es X.env)).any (·.1)=false:=by rfl):Wm m X (.Call (.Name x p) (e::es) [] pos) (dF F fs) :=
 Wm.any ((K1 O hg hm hv ha hn P he af).weak fun σ H Q L=>by
  obtain⟨env,R,A,d,k,q1,q2⟩:=L;obtain⟨ds,e1,e2⟩:=bind_some q1;exact⟨env,R,A,ds,k,e1,fun vs H1 s1 M=>⟨A,ds,d,k.mu.mono s1,e2,M,q2.mono s1⟩⟩)
theorem Su(O:O0 X (.type T) F)(hg:Gl X x)(hm:X.mg x=none)(hv:bootBuiltins x=some (.type T))(ha:Om true X (e::es) fs)(hn:x≠"__name__" := by decide)(P:(x==("__debug__" : Str))=false:=by decide)
  (he:starEach (e::es) X.env=(false,eval e X.env)::starEach es X.env:=by rfl) (af:(backTo pos (starEach es X.env)).any (·.1)=false:=by rfl):Wm m X (.Call (.Name x p) (e::es) [] pos) (dF F fs) :=
 Wm.any ((J9 O hg hm hv ha hn P he af).weak fun σ H Q L=>by
  obtain⟨env,R,A,d,k,q1,q2⟩:=L;obtain⟨ds,e1,e2⟩:=bind_some q1;exact⟨env,R,A,ds,k,e1,fun vs H1 s1 M=>⟨A,ds,d,k.mu.mono s1,e2,M,q2.mono s1⟩⟩)
theorem ZS(O:TV X (.builtin id) G)(hg:Gl X x)(hm:X.mg x=none)(hv:bootBuiltins x=some (.builtin id))(ha:Om true X (e::es) fs)(hn:x≠"__name__" := by decide)(P:(x==("__debug__" : Str))=false:=by decide)
  (he:starEach (e::es) X.env=(false,eval e X.env)::starEach es X.env:=by rfl) (af:(backTo pos (starEach es X.env)).any (·.1)=false:=by rfl):ML X (.Call (.Name x p) (e::es) [] pos) (dF G fs) :=
 (K1 O hg hm hv ha hn P he af).weak fun σ H Q L=>by
  obtain⟨env,R,A,d,k,q1,q2⟩:=L;obtain⟨ds,e1,e2⟩:=bind_some q1;exact⟨env,R,A,ds,k,e1,fun vs H1 s1 M=>⟨A,ds,d,k.mu.mono s1,e2,M,q2.mono s1⟩⟩
theorem dA(O:TV X (.type T) G)(hg:Gl X x)(hm:X.mg x=none)(hv:bootBuiltins x=some (.type T))(ha:Om true X (e::es) fs)(hn:x≠"__name__" := by decide)(P:(x==("__debug__" : Str))=false:=by decide)
  (he:starEach (e::es) X.env=(false,eval e X.env)::starEach es X.env:=by rfl) (af:(backTo pos (starEach es X.env)).any (·.1)=false:=by rfl):ML X (.Call (.Name x p) (e::es) [] pos) (dF G fs) :=
 (J9 O hg hm hv ha hn P he af).weak fun σ H Q L=>by
  obtain⟨env,R,A,d,k,q1,q2⟩:=L;obtain⟨ds,e1,e2⟩:=bind_some q1;exact⟨env,R,A,ds,k,e1,fun vs H1 s1 M=>⟨A,ds,d,k.mu.mono s1,e2,M,q2.mono s1⟩⟩
end
section
variable{m m1:Bool}{X:Cx}{o e:C4}{es:C3 C4}{f:Zzu}{fs:Zzv}{pos ax al:Pos}{name:Str}{T id:String}{α:Type}
def OZ(T:String):Dat->Bool
 | .str _=>T=="str"
 | .int _=>T=="int"
 | .lst _=>T=="list"
 | _=>false
theorem dz{d:Dat}(h:OZ T d=true)(p:Pk K A H d v):UR K T v H:=by
 cases d with
 | str x=>rw[p.str.1];show T="str";simpa[OZ] using h
 | int x=>rw[p.int];show T="int";simpa[OZ] using h
 | lst x=>obtain⟨a,vs,e,h1,h2⟩:=p.lst;rw[e];exact .inl ⟨by simpa[OZ] using h,vs,h1.sq⟩
 | _=>cases h
def bW(X:Cx)(id:String)(F:Dat->C3 Dat->C2 Dat):Prop:=MV X id (fun v vs H Q=>∃ A x ds d,Q8 A H/\F x ds=some d/\Pk X.K A H x v/\LB true X.K A H ds vs/\Mh false X.K A H d Q)
def dM(T:String)(F:Dat->C3 Dat->C2 α)(f:Zzu)(fs:Zzv):Ev->C2 α:=fun env=>(f env).bind fun x=>if OZ T x=true then(fs env).bind fun ds=>F x ds else none
theorem fX{F:Dat->C3 Dat->C2 α}{d:α}(h:dM T F f fs env=some d):∃ x ds,f env=some x/\OZ T x=true/\fs env=some ds/\F x ds=some d:=by
 obtain⟨x,e1,h⟩:=bind_some h;split at h
 ·rename_i ht
  obtain⟨ds,e2,h⟩:=bind_some h;exact⟨x,ds,e1,ht,e2,h⟩
 ·cases h
theorem MV.weak{r r':V->C3 V->Hp->VK->Prop}(h:MV X id r)(w:∀ x xs H Q,r' x xs H Q->r x xs H Q):MV X id r':=fun aa s σ H x xs v us Q I S L q=>h aa s σ H x xs v us Q I S L (w _ _ _ _ q)
variable{F:Dat->C3 Dat->C2 Dat}{G:Dat->C3 Dat->C2 (C3 Dat)}
theorem bC(pa:PlainAttrs T)(slot:Slot T name id)(g:typeOf (.builtin id)=pure (.type "method_descriptor"))(hm:bW X id F)(J:Wm m1 X o f)(ha:Om true X (e::es) fs)
  (u:attributeBase o name X.env (eval o X.env)=eval o X.env:=by rfl)
  (S:((backTo al (starEach (e::es) X.env)).all (fun x=>!x.1)&&(backToKw al (keywordEach [] X.env)).all (fun x=>x.1.isSome)
   && decide ((e::es).length+([]:C3 Keyword).length+(if([]:C3 Keyword).isEmpty then 0 else 1)<30))=true:=by rfl)
  (P:(ax.endLine==al.line)=true:=by rfl) (hs:starEach (e::es) X.env=(false,eval e X.env)::starEach es X.env:=by rfl) (E:(backTo al (starEach es X.env)).any (·.1)=false:=by rfl) :
  Wm m X (.Call (.Attribute o name ax) (e::es) [] al) (dM T F f fs):=Wm.any ((SY pa slot g hm J ha u S P hs E).weak fun σ H Q L=>by
 obtain⟨env,R,A,d,k,q1,q2⟩:=L;obtain⟨x,ds,e1,ht,e2,e3⟩:=fX q1;exact⟨env,R,A,x,k,e1,fun v H1 s1 M=>⟨dz ht M.pk,env,R,A,ds,k.mono s1,e2,fun vs H2 s2 p2=>⟨A,x,ds,d,k.mu.mono (s1.trans s2),e3,M.pk.mono s2,p2,q2.mono (s1.trans s2)⟩⟩⟩)
def TQ(X:Cx)(e:C2 C4)(f:Ev->C2 (C2 Int)):Prop:=PO X e fun σ H Q=>∃ env R A i,F' X.K R A H σ env/\f env=some i/\∀ H',Zu H H'->Q i H'
def Rv:Ev->C2 (C2 Int):=fun _=>some none
def Qr(f:Zzu):Ev->C2 (C2 Int):=fun env=>match f env with
 | some (.int i)=>some (some i)
 | _=>none
theorem PO.weak{e:C2 C4}{t t':TO}(h:PO X e t)(w:∀ σ H Q,t' σ H Q->t σ H Q):PO X e t':=fun aa s σ H Q I q=>h aa s σ H Q I (w σ H Q q)
theorem Mr:TQ X none Rv:=nK.weak fun σ H Q ⟨env,R,A,i,k,q1,q2⟩=>by cases q1;exact q2 H (Zu.refl H)
theorem Mq(h:Wm m X e f):TQ X (some e) (Qr f):=(nT h).weak fun σ H Q L=>by
 obtain⟨env,R,A,i,k,q1,q2⟩:=L;unfold Qr at q1;split at q1
 ·rename_i n e1
  cases q1;exact⟨env,R,A,_,k,e1,fun v H1 s1 M=>⟨n,M.pk.int,q2 H1 s1⟩⟩
 ·cases q1
def WB(X:Cx)(F:Dat->C2 Int->C2 Int->C2 Dat):Prop:=LX X (fun v lo hi H Q=>∃ A x d,Q8 A H/\F x lo hi=some d/\Pk X.K A H x v/\Mh false X.K A H d Q)
def dS(F:Dat->C2 Int->C2 Int->C2 α)(f:Zzu)(g h:Ev->C2 (C2 Int)):Ev->C2 α:=fun env=>(f env).bind fun x=>(g env).bind fun l=>(h env).bind fun u=>F x l u
variable{lo hi:C2 C4}{gl gh:Ev->C2 (C2 Int)}{p2:Pos}
theorem l9{F:Dat->C2 Int->C2 Int->C2 α}{d:α}(h:dS F f gl gh env=some d):∃ x l u,f env=some x/\gl env=some l/\gh env=some u/\F x l u=some d:=by
 obtain⟨x,e1,h⟩:=bind_some h;obtain⟨l,e2,h⟩:=bind_some h;obtain⟨u,e3,h⟩:=bind_some h;exact⟨x,l,u,e1,e2,e3,h⟩
theorem ZG{F:Dat->C2 Int->C2 Int->C2 Dat}(Z:WB X F)(he:Wm m1 X e f)(hl:TQ X lo gl)(hu:TQ X hi gh):Wm m X (.Subscript e (.Slice lo hi none p2) pos) (dS F f gl gh):=Wm.any ((dQ Z he hl hu).weak fun σ H Q L=>by
 obtain⟨env,R,A,d,k,q1,q2⟩:=L;obtain⟨x,l,u,e1,e2,e3,e4⟩:=l9 q1;exact⟨env,R,A,x,k,e1,fun v H1 s1 M=>⟨env,R,A,l,k.mono s1,e2,fun H2 s2=>⟨env,R,A,u,k.mono (s1.trans s2),e3,fun G C=>⟨A,x,d,k.mu.mono ((s1.trans s2).trans C),e4,M.pk.mono (s2.trans C),q2.mono ((s1.trans s2).trans C)⟩⟩⟩⟩)
def UT(X:Cx)(g:A2->Sem A2)(F:Dat->C2 Dat):Prop:=MZ X g (fun v H Q=>∃ A x d,Q8 A H/\F x=some d/\Pk X.K A H x v/\Mh false X.K A H d Q)
def dU(F:Dat->C2 Dat)(f:Zzu):Ev->C2 Dat:=fun env=>(f env).bind F
theorem UA{op:UnaryOp}{F:Dat->C2 Dat}(J:UT X (unaryOp op) F)(ha:Wm m1 X e f):Wm m X (.UnaryOp op e pos) (dU F f):=Wm.any ((eM J ha).weak fun σ H Q L=>by
 obtain⟨env,R,A,d,k,q1,q2⟩:=L;obtain⟨x,e1,e2⟩:=bind_some q1;exact⟨env,R,A,x,k,e1,fun v H1 s1 M=>⟨A,x,d,k.mu.mono s1,e2,M.pk,q2.mono s1⟩⟩)
end
def B1(C:Int->Int->Prop)[∀ i j,Decidable (C i j)](g:Int->Int->Dat):Dat->Dat->C2 Dat
 | .int i,.int j=>if C i j then some (g i j) else none
 | _,_=>none
theorem QT{C:Int->Int->Prop}[∀ i j,Decidable (C i j)]{g:Int->Int->V}(h:Hx X f (rI C g))(hg:∀ K H i j,Rp K H (G i j) (g i j)):Ek X f (B1 C G):=h.weak fun v u H Q L=>by
 obtain⟨A,x,y,d,mu,e,M,p2,q⟩:=L;unfold B1 at e;split at e
 ·rename_i i j
  split at e
  ·rename_i O
   cases e;exact⟨i,j,M.int,p2.int,O,q.here (hg _ _ _ _)⟩
  ·cases e
 ·cases e
theorem Nq{g:Int->Int->V}(h:Hx X f (MU g))(hg:∀ K H i j,Rp K H (G i j) (g i j)):Ek X f (B1 (fun _ _=>True) G):=h.weak fun v u H Q L=>by
 obtain⟨A,x,y,d,mu,e,M,p2,q⟩:=L;unfold B1 at e;split at e
 ·rename_i i j
  rw[AG trivial] at e;cases e;exact⟨i,j,M.int,p2.int,q.here (hg _ _ _ _)⟩
 ·cases e
instance:∀ i j,Decidable (PF i j):=fun i j=>by unfold PF;infer_instance
instance:∀ i j,Decidable (RL i j):=fun i j=>by unfold RL;infer_instance
instance:∀ i j,Decidable (TW i j):=fun i j=>by unfold TW;infer_instance
def G4:=B1 (fun _ _=>True) fun i j=>.int (i - j)
def V7:=B1 RL fun i j=>.int (i / j)
def Ua:=B1 (fun _ j=>0<j) fun i j=>.int (i % j)
def OB:=B1 TW fun i j=>.int (i*2^j.toNat)
def PU:=B1 (fun _ j=>0<=j) fun i j=>.int (i / 2^j.toNat)
def Pb:=B1 (fun _ _=>True) fun i j=>.int (Builtin.bitAnd i j)
def OP:=B1 (fun _ _=>True) fun i j=>.int (Builtin.bitOr i j)
def TB:=B1 (fun _ _=>True) fun i j=>.int (Builtin.bitXor i j)
def OE:=B1 (fun _ _=>True) fun i j=>.bl (decide (i<j))
def MN:=B1 (fun _ _=>True) fun i j=>.bl (decide (j<i))
def WC:=B1 (fun _ _=>True) fun i j=>.bl (decide (j<=i))
theorem Kb:Ek X (binaryOp .Sub) G4:=Nq fO fun _ _ _ _=>Wf
theorem V3:Ek X (binaryOp .FloorDiv) V7:=QT kZ fun _ _ _ _=>Wf
theorem V0:Ek X (binaryOp .Mod) Ua:=QT db fun _ _ _ _=>Wf
theorem RM:Ek X (binaryOp .LShift) OB:=QT mG fun _ _ _ _=>Wf
theorem VF:Ek X (binaryOp .RShift) PU:=QT gN fun _ _ _ _=>Wf
theorem Nx:Ek X (binaryOp .BitAnd) Pb:=Nq gH fun _ _ _ _=>Wf
theorem SI:Ek X (binaryOp .BitOr) OP:=Nq lu fun _ _ _ _=>Wf
theorem bj:Ek X (binaryOp .BitXor) TB:=Nq kE fun _ _ _ _=>Wf
theorem S':Ek X (compareOp .Lt) OE:=Nq eA fun _ _ _ _=>Uq
theorem OC:Ek X (compareOp .Gt) MN:=Nq d3 fun _ _ _ _=>Uq
theorem cN:Ek X (compareOp .GtE) WC:=Nq dI fun _ _ _ _=>Uq
theorem Ek.or{F G E:Dat->Dat->C2 Dat}(h:Ek X f F)(h':Ek X f G)(he:∀ x y d,E x y=some d->F x y=some d\/G x y=some d):Ek X f E:=fun aa s σ H x y v u Q I S m L=>by
 obtain⟨A,a,b,d,mu,e,M,p2,q⟩:=L;rcases he _ _ _ e with e | e
 ·exact h aa s σ H x y v u Q I S m ⟨A,a,b,d,mu,e,M,p2,q⟩
 ·exact h' aa s σ H x y v u Q I S m ⟨A,a,b,d,mu,e,M,p2,q⟩
def RD:Dat->C2 Dat
 | .int i=>some (.int (-i))
 | _=>none
def TM:Dat->C2 Dat
 | .int i=>some (.int (Builtin.bitNot i))
 | _=>none
theorem MZ.weak{f:A2->Sem A2}{r r':V->Hp->VK->Prop}(h:MZ X f r)(w:∀ x H Q,r' x H Q->r x H Q):MZ X f r':=fun aa s σ H x v Q I S q=>h aa s σ H x v Q I S (w _ _ _ q)
theorem YS:UT X (unaryOp .USub) RD:=MZ.weak md fun v H Q L=>by
 obtain⟨A,x,d,mu,e,p,q⟩:=L;unfold RD at e;split at e
 ·cases e;exact⟨_,p.int,q.here Wf⟩
 ·cases e
theorem ZU:UT X (unaryOp .Invert) TM:=MZ.weak jR fun v H Q L=>by
 obtain⟨A,x,d,mu,e,p,q⟩:=L;unfold TM at e;split at e
 ·cases e;exact⟨_,p.int,q.here Wf⟩
 ·cases e
theorem Xu{x:Str}(h:∀ c∈cl x,c<0x110000):PyData.strOk x=true:=by
 unfold PyData.strOk;rw[IE];intro c O;exact AJ (h c (by simpa[cl] using O))
theorem Iw{x:Str}(h:PyData.strOk x=true):∀ c∈cl x,c<0x110000:=by
 unfold PyData.strOk at h;rw[IE] at h;intro c O;exact BF (h c (by simpa[cl] using O))
theorem nZ{x y:Str}(h:PyData.strOk x=true)(k:PyData.strOk y=true):PyData.strOk (x++y)=true:=Xu fun c O=>by
 rw[VN] at O;rcases BQ.mp O with z | z
 ·exact Iw h c z
 ·exact Iw k c z
theorem XU(x y:Str):(x++y).length=x.length+y.length:=by rw[← Sr,VN,AN,Sr,Sr]
def WN:Dat->Dat->C2 Dat
 | .str x,.str y=>if x.length+y.length<=sizeLine then some (.str (x++y)) else none
 | _,_=>none
theorem kl:Ek X (binaryOp .Add) WN:=iT.weak fun v u H Q L=>by
 obtain⟨A,x,y,d,mu,e,M,p2,q⟩:=L;unfold WN at e;split at e
 ·rename_i i j
  split at e
  ·rename_i hz
   cases e;obtain⟨e1,k1⟩:=M.str;obtain⟨e2,k2⟩:=p2.str;exact⟨i,j,e1,e2,hz,q.here (Dt (KW.of (nZ k1.ok k2.ok) (by rw[XU];exact hz)))⟩
  ·cases e
 ·cases e
def Oh:Dat->Dat->C2 (C3 Dat)
 | .lst xs,.lst ys=>if xs.length+ys.length<=sizeLine then some (xs++ys) else none
 | _,_=>none
theorem QK:R' X (binaryOp .Add) Oh:=fun aa s σ H x y v u Q I S m L=>by
 obtain⟨A,a,b,d,mu,e,M,p2,q⟩:=L;unfold Oh at e;split at e
 ·rename_i xs ys
  split at e
  ·rename_i hz
   cases e;obtain⟨l1,vs,e1,h1,r1⟩:=M.lst;obtain⟨l2,us,e2,h2,r2⟩:=p2.lst;subst e1 e2;cases S;cases m;obtain⟨its,n,w1,g1,_⟩:=h1.get I;obtain⟨c,n2,w2,g2,_⟩:=h2.get I;have z1:=w1.length;have z2:=w2.length;have z3:=Y0 r1;have z4:=Y0 r2;refine PySem.P.add_list g1 g2 ?_ (by rw[AT,AT];lia);have ea:its.toArray++c.toArray=(its++c).toArray:=by simp
   rw[ea];exact⟨.ref _,_,I.lnew (t':=s.toks) (w1.append w2) (by rw[AN];lia),rfl,q.at (by rw[AN];exact hz) (Wq r1 r2) _ I.fresh⟩
  ·cases e
 ·cases e
theorem iG(r:Wr K H ds vs)(h:ds.length≠0):vs≠[]:=by
 intro e;subst e;have:=Y0 r;simp at this;lia
def We:Dat->Dat->C2 Dat
 | .int i,.int j=>some (.int (i+j))
 | .str x,.str y=>if x.length+y.length<=sizeLine then some (.str (x++y)) else none
 | .lst xs,.lst ys=>if xs.length+ys.length<=sizeLine then some (.lst (xs++ys)) else none
 | _,_=>none
theorem gB:Ek X (binaryOp .Add) (B1 (fun _ _=>True) fun i j=>.int (i+j)):=Nq lB fun _ _ _ _=>Wf
theorem W3:Ek X (binaryOp .Add) We:=by
 have h1:=Ek.or (E:=fun x y=>match x,y with | .int i,.int j=>some (.int (i+j)) | .str x,.str y=>if x.length+y.length<=sizeLine then some (.str (x++y)) else none | _,_=>none) (gB (X:=X)) kl (fun x y d e=>by
  split at e
  ·left;simp[B1];exact by simpa using e
  ·right;simp only[WN];exact e
  ·cases e)
 refine Ek.or h1 QK.d fun x y d e=>?_
 unfold We at e;split at e
 ·left;exact e
 ·left;exact e
 ·right
  rename_i xs ys;simp only[Oh];split at e
  ·rename_i hz;cases e;rw[AG hz];rfl
  ·cases e
 ·cases e
def b3:=B1 PF fun i j=>.int (i*j)
theorem jE:Ek X (binaryOp .Mult) b3:=QT jG fun _ _ _ _=>Wf
def Sz:Dat->Dat->C2 Dat:=fun x y=>if(pd 20 x&&pd 20 y)=true then some (.bl (Ob x y)) else none
def KZ:Dat->Dat->C2 Dat:=fun x y=>if(pd 20 x&&pd 20 y)=true then some (.bl (!Ob x y)) else none
theorem Ms(hu:X.A.units+64<cLine):Ek X (compareOp .Eq) Sz:=fun aa s σ H x y v u Q I S m L=>by
 obtain⟨A,a,b,d,mu,e,M,p2,q⟩:=L;unfold Sz at e;split at e
 ·rename_i hp
  rw[AV] at hp;cases e;obtain⟨as,a1,a2⟩:=Rp.reads I a x v hp.1 M.rp S;obtain⟨bs,b1,b2⟩:=Rp.reads I b y u hp.2 p2.rp m;have:=Gw 20 a hp.1;refine SeqAt.compareEq_reads a1 b1 a2 b2 (by lia) ⟨.bl _,H,I,rfl,?_⟩;rw[Hn a b hp.1 hp.2];exact q.here Uq
 ·cases e
theorem PK(hu:X.A.units+64<cLine):Ek X (compareOp .NotEq) KZ:=fun aa s σ H x y v u Q I S m L=>by
 obtain⟨A,a,b,d,mu,e,M,p2,q⟩:=L;unfold KZ at e;split at e
 ·rename_i hp
  rw[AV] at hp;cases e;obtain⟨as,a1,a2⟩:=Rp.reads I a x v hp.1 M.rp S;obtain⟨bs,b1,b2⟩:=Rp.reads I b y u hp.2 p2.rp m;have:=Gw 20 a hp.1;refine SeqAt.compareNe_reads a1 b1 a2 b2 (by lia) ⟨.bl _,H,I,rfl,?_⟩;rw[Hn a b hp.1 hp.2];exact q.here Uq
 ·cases e
def VB:Dat->Bool
 | .non=>true
 | _=>false
theorem ZN{d:Dat}(r:Rp K H d v):decide (v=V.non)=VB d:=by
 cases d with
 | non=>rw[An r];rfl
 | bl b=>rw[Xw r];rfl
 | int b=>rw[So r];rfl
 | str b=>rw[(Bo r).1];rfl
 | tup b=>obtain⟨a,_,e,_⟩:=Ge r;rw[e];rfl
 | lst b=>obtain⟨a,_,e,_⟩:=Rl r;rw[e];rfl
 | dct _=>obtain⟨_,a,e,_⟩:=i6 r;rw[e];rfl
 | exc _ _=>obtain⟨_,_,_,e,_⟩:=a' r;subst e;rfl
def UM:Dat->Dat->C2 Dat
 | x,.non=>some (.bl (VB x))
 | _,_=>none
def QL:Dat->Dat->C2 Dat
 | x,.non=>some (.bl (!VB x))
 | _,_=>none
theorem cS:Ek X (compareOp .Is) UM:=fK.weak fun v u H Q L=>by
 obtain⟨A,x,y,d,mu,e,M,p2,q⟩:=L;unfold UM at e;split at e
 ·cases e
  exact⟨p2.non,by rw[ZN M.rp];exact q.here Uq⟩
 ·cases e
theorem VG:Ek X (compareOp .IsNot) QL:=jS.weak fun v u H Q L=>by
 obtain⟨A,x,y,d,mu,e,M,p2,q⟩:=L;unfold QL at e;split at e
 ·cases e
  exact⟨p2.non,by rw[ZN M.rp];exact q.here Uq⟩
 ·cases e
def OL:Str->Str->Bool:=fun i j=>!(Builtin.Str.occurrences j i 0 j.length 1).isEmpty
def LP:Dat->Dat->C2 Bool
 | x,.lst ys=>if(pd 20 x&&ys.all (pd 20))=true then some (ys.any fun y=>Ob y x) else none
 | x,.tup ys=>if(pd 20 x&&ys.all (pd 20))=true then some (ys.any fun y=>Ob y x) else none
 | .str i,.str j=>some (OL i j)
 | _,_=>none
def F0:Dat->Dat->C2 Dat:=fun x y=>(LP x y).map .bl
def Ss:Dat->Dat->C2 Dat:=fun x y=>(LP x y).map fun b=>.bl (!b)
theorem E8(I:C' X aa σ H s)(hu:X.A.units+64<cLine){a:Dat}{x:V}{v:A2}(ha:pd 20 a=true)(S:Rp X.K H a x)(f:W2 x v) :
  ∃ e:A2->Bool,∀ {ys:C3 Dat} {vs:C3 V} {us:C3 A2},Wr X.K H ys vs->Y5 vs us->(∀ y∈ys,pd 20 y=true)->(∀ u∈us,SeqAt.EqAt X.A.in1 s u v (e u))/\us.any e=ys.any fun y=>Ob y a:=by
 classical
 have b:X.A.in1.units+60<cLine:=by show X.A.units+1+60<cLine;lia
 have ag:∀ {y:Dat} {w:V} {u:A2},Rp X.K H y w->W2 w u->pd 20 y=true->SeqAt.EqAt X.A.in1 s u v (Ob y a):=fun {y w u} r q h=>Rp.eqAt I h ha (by decide) b r S q f
 let e:A2->Bool:=fun u=>decide (∃ (y:Dat) (w:V),Rp X.K H y w/\W2 w u/\pd 20 y=true/\Ob y a=true)
 have he:∀ {y:Dat} {w:V} {u:A2},Rp X.K H y w->W2 w u->pd 20 y=true->e u=Ob y a:=fun {y w u} r q h=>by
  cases z:Ob y a with
  | true=>exact AJ ⟨y,w,r,q,h,z⟩
  | false =>
   refine AE ?_;rintro⟨j,l,r',W,h',G⟩;have:=q.inj W;subst this;obtain⟨as,a1,a2⟩:=Rp.reads I y w u h r q;obtain⟨bs,b1,b2⟩:=Rp.reads I j w u h' r' q;have d:=SeqAt.Reads.unique _ _ _ _ _ a2 a1 b1;rw[← Hn y a h ha,d,Hn j a h' ha,G] at z;cases z
 refine⟨e,fun {ys}=>?_⟩;induction ys with
 | nil=>intro vs us r q _;rw[Yz r] at q;cases q;exact⟨fun u hu=>(by cases hu),rfl⟩
 | cons y ys ih =>
  intro vs us r q hp;obtain⟨w,c,e1,r1,r2⟩:=Zw r;subst e1;cases q with
  | cons q1 q2 =>
   rename_i u us;obtain⟨h1,h2⟩:=ih r2 q2 fun z hz=>hp z (AX _ hz)
   have hy:=hp y AW;refine⟨fun C b=>?_,?_⟩
   ·rcases BI.mp b with z | z
    ·subst z;rw[he r1 q1 hy];exact ag r1 q1 hy
    ·exact h1 C z
   ·rw[GF,GF,h2,he r1 q1 hy]
theorem OK(hu:X.A.units+64<cLine):Ek X (compareOp .In) F0:=fun aa s σ H x y v u Q I S m L=>by
 obtain⟨A,a,b,d,mu,e,M,p2,q⟩:=L;unfold F0 at e;unfold LP at e;split at e
 ·rename_i ys
  split at e
  ·rename_i hp
   rw[AV,DF] at hp;cases e;obtain⟨l,vs,e1,h1,r1⟩:=p2.lst;subst e1;cases m;obtain⟨its,w1,pl,_⟩:=I.list h1.sq;obtain⟨f,hf⟩:=E8 I hu hp.1 M.rp S;obtain⟨k1,k2⟩:=hf (r1.mono W5) w1 hp.2;refine SeqAt.in_listAt f pl.isList (fun w hw=>k1 w (by simpa using hw)) ⟨.bl _,H,I,rfl,?_⟩;rw[show its.toArray.any f=its.any f by simp,k2];exact q.here Uq
  ·cases e
 ·rename_i ys
  split at e
  ·rename_i hp
   rw[AV,DF] at hp;cases e;obtain⟨l,vs,e1,h1,r1⟩:=p2.tup;subst e1;cases m;obtain⟨its,w1,pl,_⟩:=I.tuple h1;obtain⟨f,hf⟩:=E8 I hu hp.1 M.rp S;obtain⟨k1,k2⟩:=hf (r1.mono W5) w1 hp.2;refine SeqAt.in_tupleAt f pl (fun w hw=>k1 w (by simpa using hw)) ⟨.bl _,H,I,rfl,?_⟩;rw[show its.toArray.any f=its.any f by simp,k2];exact q.here Uq
  ·cases e
 ·rename_i i j
  cases e;obtain⟨e1,k1⟩:=M.str;obtain⟨e2,k2⟩:=p2.str;exact lT aa s σ H x y v u Q I S m ⟨i,j,e1,e2,q.here Uq⟩
 ·cases e
theorem Nk(hu:X.A.units+64<cLine):Ek X (compareOp .NotIn) Ss:=fun aa s σ H x y v u Q I S m L=>by
 obtain⟨A,a,b,d,mu,e,M,p2,q⟩:=L;unfold Ss at e;unfold LP at e;split at e
 ·rename_i ys
  split at e
  ·rename_i hp
   rw[AV,DF] at hp;cases e;obtain⟨l,vs,e1,h1,r1⟩:=p2.lst;subst e1;cases m;obtain⟨its,w1,pl,_⟩:=I.list h1.sq;obtain⟨f,hf⟩:=E8 I hu hp.1 M.rp S;obtain⟨k1,k2⟩:=hf (r1.mono W5) w1 hp.2;refine SeqAt.notIn_listAt f pl.isList (fun w hw=>k1 w (by simpa using hw)) ⟨.bl _,H,I,rfl,?_⟩;rw[show its.toArray.any f=its.any f by simp,k2];exact q.here Uq
  ·cases e
 ·rename_i ys
  split at e
  ·rename_i hp
   rw[AV,DF] at hp;cases e;obtain⟨l,vs,e1,h1,r1⟩:=p2.tup;subst e1;cases m;obtain⟨its,w1,pl,_⟩:=I.tuple h1;obtain⟨f,hf⟩:=E8 I hu hp.1 M.rp S;obtain⟨k1,k2⟩:=hf (r1.mono W5) w1 hp.2;refine SeqAt.notIn_tupleAt f pl (fun w hw=>k1 w (by simpa using hw)) ⟨.bl _,H,I,rfl,?_⟩;rw[show its.toArray.any f=its.any f by simp,k2];exact q.here Uq
  ·cases e
 ·rename_i i j
  cases e;obtain⟨e1,k1⟩:=M.str;obtain⟨e2,k2⟩:=p2.str;exact Bt aa s σ H x y v u Q I S m ⟨i,j,e1,e2,q.here Uq⟩
 ·cases e
def Yi:Dat->Dat->C2 Dat
 | .lst xs,.int i=>A3 xs i
 | .tup xs,.int i=>A3 xs i
 | .str z,.int i=>(A3 (cl z) i).map fun c=>.str ⟨#[c]⟩
 | _,_=>none
theorem ZZ{i:Int}{d:Dat}(r:Wr K H ds vs)(h:A3 ds i=some d):∃ v,A3 vs i=some v/\Rp K H d v:=by
 unfold A3 at h ⊢;rw[Y0 r];obtain⟨j,e1,e2⟩:=bind_some h;obtain⟨v,h1,h2⟩:=E2 r e2;exact⟨v,by rw[e1];exact h1,h2⟩
theorem jU{i:Int}{x:α}(h:A3 xs i=some x):x∈xs:=by
 unfold A3 at h;obtain⟨j,e1,e2⟩:=bind_some h;exact AI e2
theorem cE{c:Nat}(h:KW z)(O:c∈cl z):KW ⟨#[c]⟩:=KW.of (Xu fun c' f=>by
 have:c'=c:=by simpa[cl] using f
 rw[this];exact Iw h.ok c O) (by rw[← Sr];simp[cl];decide)
theorem LV.weak{r r':R2}(h:LV X r)(w:∀ x y H Q,r' x y H Q->r x y H Q):LV X r':=fun ap slice aa s σ H x y v u Q I S m q hs=>h ap slice aa s σ H x y v u Q I S m (w _ _ _ _ q) hs
theorem Zv:LV X (rD X.K Yi):=io.weak fun v u H Q L=>by
 obtain⟨A,x,y,d,mu,e,M,p2,q⟩:=L;unfold Yi at e;split at e
 ·rename_i xs i
  obtain⟨l,vs,e1,h1,r1⟩:=M.lst;obtain⟨w,h2,r2⟩:=ZZ r1 e;exact .inl ⟨l,vs,i,w,e1,p2.int,h1.sq,h2,q.here r2⟩
 ·rename_i xs i
  obtain⟨l,vs,e1,h1,r1⟩:=M.tup;obtain⟨w,h2,r2⟩:=ZZ r1 e;exact .inr (.inl ⟨l,vs,i,w,e1,p2.int,h1,h2,q.here r2⟩)
 ·rename_i z i
  obtain⟨e1,k1⟩:=M.str;cases O:A3 (cl z) i with
  | none=>rw[O] at e;cases e
  | some c =>
   rw[O] at e;cases e;exact .inr (.inr ⟨z,i,c,e1,p2.int,k1.le,O,q.here (Dt (cE k1 (jU O)))⟩)
 ·cases e
theorem cG(lo hi:C2 Int)(r:Wr K H ds vs):Wr K H (S6 ds lo hi) (OM vs lo hi):=by
 unfold S6 OM;rw[Y0 r];exact K2 _ (Ke _ r)
theorem nr{x:α}(h:x∈S6 xs lo hi):x∈xs:=FW (List.mem_of_mem_take h)
theorem bF{n:Nat}(h:xs.length<=n):(S6 xs lo hi).length<=n:=by unfold S6;rw[CJ,CC];lia
theorem LX.weak(h:LX X r)(w:∀ x lo hi H Q,r' x lo hi H Q->r x lo hi H Q):LX X r':=fun aa s σ H x v vl vu lo hi sl Q I S hs pl c q=>h aa s σ H x v vl vu lo hi sl Q I S hs pl c (w _ _ _ _ _ q)
def WT:Dat->C2 Int->C2 Int->C2 Dat
 | .lst xs,lo,hi=>some (.lst (S6 xs lo hi))
 | .str z,lo,hi=>some (.str (Txt.slice z lo hi))
 | .tup xs,lo,hi=>if HT.sIx xs.length 0 lo=0/\HT.sIx xs.length xs.length hi=xs.length then none else some (.tup (S6 xs lo hi))
 | _,_,_=>none
theorem iv(h:KW z):KW (Txt.slice z lo hi):=KW.of (Xu fun c O=>by
 rw[dH] at O;exact Iw h.ok c (nr O)) (AZ (GN z _ _) h.le)
theorem eE:WB X WT:=js.weak fun v lo hi H Q L=>by
 obtain⟨A,x,d,mu,e,M,q⟩:=L;unfold WT at e;split at e
 ·rename_i xs
  cases e;obtain⟨l,vs,e1,h1,r1⟩:=M.lst;exact .inl ⟨l,vs,e1,h1.sq,(q.new mu).at (bF M.lenL) (cG lo hi r1)⟩
 ·rename_i z
  cases e;obtain⟨e1,k1⟩:=M.str;exact .inr (.inr ⟨z,e1,k1.le,q.here (Dt (iv k1))⟩)
 ·rename_i xs
  split at e
  ·cases e
  ·rename_i hn
   cases e;obtain⟨l,vs,e1,h1,r1⟩:=M.tup;exact .inr (.inl ⟨l,vs,e1,h1,by rw[Y0 r1];exact hn,q.tup mu (bF M.lenT) (cG lo hi r1)⟩)
 ·cases e
section
variable{X:Cx}{m:Bool}
def Vb:C3 Dat->C2 Dat
 | [.lst xs]=>some (.int xs.length)
 | [.tup xs]=>some (.int xs.length)
 | [.str z]=>some (.int z.length)
 | _=>none
theorem Wu:O0 X (.builtin "len") Vb:=eV.weak fun vs H Q L=>by
 obtain⟨A,ds,d,mu,e,p,q⟩:=L;unfold Vb at e;split at e
 ·obtain⟨v,e1,M⟩:=p.one
  obtain⟨l,us,e2,h1,r1⟩:=M.lst;cases e;exact .inl ⟨l,us,by rw[e1,e2],.inl h1.sq,fun _=>by rw[Y0 r1];exact q.here Wf⟩
 ·obtain⟨v,e1,M⟩:=p.one
  obtain⟨l,us,e2,h1,r1⟩:=M.tup;cases e;exact .inl ⟨l,us,by rw[e1,e2],.inr h1,fun _=>by rw[Y0 r1];exact q.here Wf⟩
 ·obtain⟨v,e1,M⟩:=p.one
  obtain⟨e2,h1⟩:=M.str;cases e;exact .inr ⟨_,by rw[e1,e2],h1.le,q.here Wf⟩
 ·cases e
def UD:C3 Dat->C2 (C3 Dat)
 | [.lst xs]=>some xs
 | [.tup xs]=>some xs
 | _=>none
theorem cA:TV X (.type "list") UD:=Kv.weak fun vs H Q L=>by
 obtain⟨A,ds,d,mu,e,p,q⟩:=L;unfold UD at e;split at e
 ·obtain⟨v,e1,M⟩:=p.one
  obtain⟨l,us,e2,h1,r1⟩:=M.lst;cases e;exact⟨l,us,by rw[e1,e2],.inl h1.sq,q.at M.lenL r1⟩
 ·obtain⟨v,e1,M⟩:=p.one
  obtain⟨l,us,e2,h1,r1⟩:=M.tup;cases e;exact⟨l,us,by rw[e1,e2],.inr h1,q.at M.lenT r1⟩
 ·cases e
def tupleD:C3 Dat->C2 Dat
 | [.lst xs]=>some (.tup xs)
 | [.tup xs]=>some (.tup xs)
 | _=>none
theorem Jy:O0 X (.type "tuple") tupleD:=F3.weak fun vs H Q L=>by
 obtain⟨A,ds,d,mu,e,p,q⟩:=L;unfold tupleD at e;split at e
 ·obtain⟨v,e1,M⟩:=p.one
  obtain⟨l,us,e2,h1,r1⟩:=M.lst;cases e;exact⟨l,us,by rw[e1,e2],.inl ⟨h1.sq,q.tup mu M.lenL r1⟩⟩
 ·obtain⟨v,e1,M⟩:=p.one
  rcases M with M | ⟨_,_,_,z,_⟩ | ⟨_,_,_,z,_⟩ | ⟨_,_,z,_⟩
  ·obtain⟨l,us,e2,h1,r1⟩:=Ge M
   cases e;exact⟨l,us,by rw[e1,e2],.inr ⟨W5.seqT h1,by rw[← e2];exact q.here M⟩⟩
  ·cases z
  ·cases z
  ·cases z
 ·cases e
def Mp:C3 Dat->C2 (C3 Int)
 | []=>some []
 | .int i::r=>(Mp r).map (i::·)
 | _=>none
def OF:C3 Dat->C2 (C3 Bool)
 | []=>some []
 | .bl i::r=>(OF r).map (i::·)
 | _=>none
theorem Gi(ns:C3 Int):Mp (ns.map .int)=some ns:=by
 induction ns with
 | nil=>rfl
 | cons n ns ih=>rw[BY,Mp,ih];rfl
theorem Pu(ns:C3 Bool):OF (ns.map .bl)=some ns:=by
 induction ns with
 | nil=>rfl
 | cons n ns ih=>rw[BY,OF,ih];rfl
theorem Mi:∀ {ds:C3 Dat} {ns:C3 Int},Mp ds=some ns->ds=ns.map .int
 | [],_,h=>by cases h;rfl
 | d::ds,ns,h=>by
  cases d<;>try cases h
  rename_i i;rw[Mp] at h;cases e:Mp ds with
  | none=>rw[e] at h;cases h
  | some r=>rw[e] at h;cases h;rw[Mi e];rfl
theorem Bd:∀ {ds:C3 Dat} {ns:C3 Bool},OF ds=some ns->ds=ns.map .bl
 | [],_,h=>by cases h;rfl
 | d::ds,ns,h=>by
  cases d<;>try cases h
  rename_i i;rw[OF] at h;cases e:OF ds with
  | none=>rw[e] at h;cases h
  | some r=>rw[e] at h;cases h;rw[Bd e];rfl
theorem Vo:∀ {ns:C3 Int} {vs:C3 V},Wr K H (ns.map .int) vs->vs=ns.map .int
 | [],vs,h=>Yz h
 | n::ns,vs,h=>by obtain⟨v,r,e,h1,h2⟩:=Zw h;rw[e,So h1,Vo h2];rfl
theorem Il:∀ {ns:C3 Bool} {vs:C3 V},Wr K H (ns.map .bl) vs->vs=ns.map .bl
 | [],vs,h=>Yz h
 | n::ns,vs,h=>by obtain⟨v,r,e,h1,h2⟩:=Zw h;rw[e,Xw h1,Il h2];rfl
def Ky(ns:C3 Int):C3 Int:=ns.mergeSort (fun a b=>decide (a<=b))
theorem Jn(ns:C3 Int):(Ky ns).Perm ns:=List.mergeSort_perm ns _
theorem Kw(ns:C3 Int):(Ky ns).Pairwise (·<=·):=by
 have:=List.pairwise_mergeSort (le:=fun a b:Int=>decide (a<=b)) (by intro a b c h1 h2;simp only[CB] at *;lia) (by intro a b;simp only[FJ,CB];lia) ns;exact this.imp fun h=>BF h
theorem D0:∀ {xs ys:C3 Int},xs.Perm ys->xs.Pairwise (·<=·)->ys.Pairwise (·<=·)->xs=ys
 | [],ys,p,_,_=>by rw[List.nil_perm.mp p]
 | x::xs,[],p,_,_=>by have:=p.length_eq;simp at this
 | x::xs,y::ys,p,h1,h2=>by
  have hx:=HE.mp h1;have hy:=HE.mp h2;have e:x=y:=by
   have m1:x∈y::ys:=p.mem_iff.mp AW;have m2:y∈x::xs:=p.mem_iff.mpr AW;rcases BI.mp m1 with z | z
   ·exact z
   ·rcases BI.mp m2 with w | w
    ·exact w.symm
    ·have a1:=hx.1 y w
     have a2:=hy.1 x z;lia
  subst e;rw[D0 (List.Perm.cons_inv p) hx.2 hy.2]
def bi:C3 Dat->C2 (C3 Dat)
 | [.lst xs]=>(Mp xs).bind fun ns=>if ns.length<64 then some ((Ky ns).map .int) else none
 | _=>none
def QZ:C3 Dat->C2 Dat
 | [.lst xs]=>(OF xs).map fun bs=>.bl (bs.all id)
 | _=>none
def Ax:C3 Dat->C2 Dat
 | [.lst xs]=>(OF xs).map fun bs=>.bl (bs.any id)
 | _=>none
theorem map_some{α β:Type}{a:C2 α}{g:α->β}{b:β}(h:a.map g=some b):∃ x,a=some x/\g x=b:=by
 cases a with
 | none=>cases h
 | some x=>cases h;exact⟨x,rfl,rfl⟩
theorem eN(O:X.calm=true):O0 X (.builtin "all") QZ:=(iX O).weak fun vs H Q L=>by
 obtain⟨A,ds,d,mu,e,p,q⟩:=L;unfold QZ at e;split at e
 ·obtain⟨v,e1,M⟩:=p.one
  obtain⟨l,us,e2,h1,r1⟩:=M.lst;obtain⟨bs,U,e⟩:=map_some e;subst e;rw[Bd U] at r1;have R:=Il r1;subst R;exact⟨l,bs,by rw[e1,e2],h1.sq,q.here Uq⟩
 ·cases e
theorem VY(O:X.calm=true):O0 X (.builtin "any") Ax:=(gv O).weak fun vs H Q L=>by
 obtain⟨A,ds,d,mu,e,p,q⟩:=L;unfold Ax at e;split at e
 ·obtain⟨v,e1,M⟩:=p.one
  obtain⟨l,us,e2,h1,r1⟩:=M.lst;obtain⟨bs,U,e⟩:=map_some e;subst e;rw[Bd U] at r1;have R:=Il r1;subst R;exact⟨l,bs,by rw[e1,e2],h1.sq,q.here Uq⟩
 ·cases e
def QA:C3 Dat->C2 Dat
 | [.int i,.int j]=>some (.int (if j > i then j else i))
 | _=>none
def QF:C3 Dat->C2 Dat
 | [.int i,.int j]=>some (.int (if j<i then j else i))
 | _=>none
theorem cI(O:X.calm=true):O0 X (.builtin "max") QA:=(dJ O).weak fun vs H Q L=>by
 obtain⟨A,ds,d,mu,e,p,q⟩:=L;unfold QA at e;split at e
 ·obtain⟨v,w,e1,M,p2⟩:=p.two
  cases e;exact⟨_,_,by rw[e1,M.int,p2.int],q.here Wf⟩
 ·cases e
theorem ZO(O:X.calm=true):O0 X (.builtin "min") QF:=(mL O).weak fun vs H Q L=>by
 obtain⟨A,ds,d,mu,e,p,q⟩:=L;unfold QF at e;split at e
 ·obtain⟨v,w,e1,M,p2⟩:=p.two
  cases e;exact⟨_,_,by rw[e1,M.int,p2.int],q.here Wf⟩
 ·cases e
end
variable{f:Zzu}{lo:Int}{e:A4}{Q:Unit->C0->Prop}{src:Zzv}{R:AS}
def QB(st:Bool)(A:AS)(H:Hp)(A1:AS)(H1:Hp):Prop:=match st with
 | true=>JN A H A1 H1
 | false=>A1=A/\Zu H H1
theorem QB.step{st:Bool}{A1:AS}(h:QB st A H A1 H1):JN A H A1 H1:=by
 cases st with
 | true=>exact h
 | false=>obtain⟨rfl,h⟩:=h;exact JN.same h
def OR(st:Bool)(K:JT)(A:AS)(H:Hp)(ds:C3 Dat)(J:It):Prop:=∀ A1 H1,QB st A H A1 H1->Q8 A1 H1 ->
 (∀ (i:Nat) x,ds[i]?=some x->J.go i H1/\∀ v H2,J.yld i H1 v H2->Zu H1 H2/\Rp K (av H2 A1) x v)/\J.stop ds.length H1
def MS(st:Bool)(X:Cx)(tg iter:C4)(src:Zzv):Prop:=PI X tg iter fun σ H g=>∃ env R A ds,F' X.K R A H σ env/\src env=some ds /\
 ∀ J H',ds.length<=sizeLine->Zu H H'->OR st X.K A H' ds J->g J H'
theorem PI.weak{t t':TI}(h:PI X tg iter t)(w:∀ σ H Q,t' σ H Q->t σ H Q):PI X tg iter t':=fun aa s σ H Q I q=>h aa s σ H Q I (w σ H Q q)
section
variable{st:Bool}{l:C4}{fs:Zzv}
def Tp(f:Zzu):Ev->C2 (C3 Dat):=fun env=>match f env with
 | some (.lst xs)=>some xs
 | some (.tup xs)=>some xs
 | _=>none
theorem WY{a:A4}(h:∀ A1 H1,QB st A H A1 H1->Hk K H1 a vs)(r:Wr K (av H A) ds vs):OR st K A H ds (VQ K a):=fun A1 H1 b _=>by
 have h1:=h A1 H1 b;have r1:=r.mono b.step.av;refine⟨fun i x e=>?_,⟨vs,h1,JF (Y0 r)⟩⟩;obtain⟨v,e1,e2⟩:=E2 r1 e;refine⟨⟨vs,v,h1,e1⟩,fun t H2 ⟨e3,e4⟩=>?_⟩;subst e3;have:=e4 vs h1;rw[e1] at this;cases this;exact⟨Zu.refl _,e2⟩
theorem bU{a:A4}(h:∀ A1 H1,QB st A H A1 H1->Hw K H1 a vs)(r:Wr K (av H A) ds vs):OR st K A H ds (VJ K a):=fun A1 H1 b _=>by
 have h1:=h A1 H1 b;have r1:=r.mono b.step.av;refine⟨fun i x e=>?_,⟨vs,h1,JF (Y0 r)⟩⟩;obtain⟨v,e1,e2⟩:=E2 r1 e;refine⟨⟨vs,v,h1,e1⟩,fun t H2 ⟨e3,e4⟩=>?_⟩;subst e3;have:=e4 vs h1;rw[e1] at this;cases this;exact⟨Zu.refl _,e2⟩
theorem A7(h:Wm false X l f):MS st X tg l (Tp f):=(ZY h).weak fun σ H g L=>by
 obtain⟨env,R,A,ds,k,e,q⟩:=L;unfold Tp at e;split at e
 ·rename_i xs e1
  cases e;refine .inl ⟨env,R,A,.lst ds,k,e1,fun v H1 s1 M=>?_⟩;obtain⟨a,vs,e2,h1,r1⟩:=Rl (show Rp X.K (av H1 A) (.lst ds) v from M);subst e2;exact⟨a,rfl,⟨vs,(W5.sl h1).sq⟩,q _ H1 M.pk.lenL s1 (WY (vs:=vs) (fun A1 H2 b=>(W5.sl (b.step.av.sl h1)).sq) r1)⟩
 ·rename_i xs e1
  cases e;refine .inr ⟨env,R,A,.tup ds,k,e1,fun v H1 s1 M=>?_⟩;obtain⟨a,vs,e2,h1,r1⟩:=Ge (show Rp X.K (av H1 A) (.tup ds) v from M);subst e2;exact⟨a,rfl,⟨vs,W5.seqT h1⟩,q _ H1 M.pk.lenT s1 (bU (vs:=vs) (fun A1 H2 b=>W5.seqT (b.step.av.seqT h1)) r1)⟩
 ·cases e
theorem Jr(h:Wm true X l f):MS false X tg l (Tp f):=(ZY h).weak fun σ H g L=>by
 obtain⟨env,R,A,ds,k,e,q⟩:=L;unfold Tp at e;split at e
 ·rename_i xs e1
  cases e;refine .inl ⟨env,R,A,.lst ds,k,e1,fun v H1 s1 M=>?_⟩;obtain⟨a,vs,e2,h1,r1⟩:=M.pk.lst;subst e2;exact⟨a,rfl,⟨vs,h1.sq⟩,q _ H1 M.pk.lenL s1 (WY (vs:=vs) (fun A1 H2 b=>(b.2.sl h1).sq) r1)⟩
 ·rename_i xs e1
  cases e;refine .inr ⟨env,R,A,.tup ds,k,e1,fun v H1 s1 M=>?_⟩;obtain⟨a,vs,e2,h1,r1⟩:=M.pk.tup;subst e2;exact⟨a,rfl,⟨vs,h1⟩,q _ H1 M.pk.lenT s1 (bU (vs:=vs) (fun A1 H2 b=>b.2.seqT h1) r1)⟩
 ·cases e
def rng(lo:Int)(n:Nat):C3 Dat:=(List.range n).map fun(k:Nat)=>.int (lo+k)
theorem U7{n:Nat}:(rng lo n).length=n:=by simp[rng]
theorem XQ{n:Nat}:OR st K A H (rng lo n) (SO lo n):=fun A1 H1 b _=>by
 refine⟨fun i x e=>?_,by show n<=(rng lo n).length;simp[rng]⟩;unfold rng at e;rw[AM] at e;by_cases hi:i<n
 ·rw[ES hi] at e
  cases e;exact⟨hi,fun v H2 ⟨e1,e2⟩=>by subst e1 e2;exact⟨Zu.refl _,Wf⟩⟩
 ·rw[FP (by simpa using hi)] at e
  cases e
def Vz(fs:Zzv):Ev->C2 (C3 Dat):=fun env=>match fs env with
 | some [.int j]=>if -(2^62)<=j/\j<2^62/\j.toNat<=sizeLine then some (rng 0 j.toNat) else none
 | _=>none
def SQ(fs:Zzv):Ev->C2 (C3 Dat):=fun env=>match fs env with
 | some [.int i,.int j]=>if(-(2^62)<=i/\i<2^62/\-(2^62)<=j/\j<2^62)/\(j - i).toNat<=sizeLine then some (rng i (j - i).toNat) else none
 | _=>none
theorem Yy{a:C4}(hg:Gl X "range")(hm:X.mg "range" = none)(ha:Om true X [a] fs)(hs:starEach [a] X.env=[(false,eval a X.env)]:=by rfl):MS st X tg (.Call (.Name "range" p) [a] [] pos) (Vz fs):=(hb hg hm ha hs).weak fun σ H g L=>by
 obtain⟨env,R,A,ds,k,e,q⟩:=L;unfold Vz at e;split at e
 ·rename_i j e1
  split at e
  ·rename_i hj
   cases e;refine⟨env,R,A,_,k,e1,fun vs H1 s1 M=>?_⟩;obtain⟨v,e2,p2⟩:=M.one;exact⟨j,by rw[e2,p2.int],hj.1,hj.2.1,q _ H1 (by rw[U7];exact hj.2.2) s1 XQ⟩
  ·cases e
 ·cases e
theorem mP{a b:C4}(hg:Gl X "range")(hm:X.mg "range" = none)(ha:Om true X [a,b] fs)(hs:starEach [a,b] X.env=[(false,eval a X.env),(false,eval b X.env)]:=by rfl)(y:starEach [b] X.env=[(false,eval b X.env)]:=by rfl):MS st X tg (.Call (.Name "range" p) [a,b] [] pos) (SQ fs):=(n9 hg hm ha hs y).weak fun σ H g L=>by
 obtain⟨env,R,A,ds,k,e,q⟩:=L;unfold SQ at e;split at e
 ·rename_i i j e1
  split at e
  ·rename_i hj
   cases e;refine⟨env,R,A,_,k,e1,fun vs H1 s1 M=>?_⟩;obtain⟨v,w,e2,p2,c⟩:=M.two;exact⟨i,j,by rw[e2,p2.int,c.int],hj.1,q _ H1 (by rw[U7];exact hj.2) s1 XQ⟩
  ·cases e
 ·cases e
def VE(f:Zzu):Ev->C2 (C3 Dat):=fun env=>match f env with
 | some (.str z)=>some ((cl z).map fun c=>.str ⟨#[c]⟩)
 | _=>none
theorem i0(h:Wm m X l f):MS st X tg l (VE f):=(hI h).weak fun σ H g L=>by
 obtain⟨env,R,A,ds,k,e,q⟩:=L;unfold VE at e;split at e
 ·rename_i z e1
  cases e;refine⟨env,R,A,_,k,e1,fun v H1 s1 M=>?_⟩;obtain⟨e2,Y⟩:=M.pk.str;refine⟨z,e2,q _ H1 (by rw[AC,Sr];exact Y.le) s1 fun A1 H2 b _=>⟨fun i x ex=>?_,by show _=_;rw[AC,Sr]⟩⟩;rw[AM] at ex;cases O:(cl z)[i]? with
  | none=>rw[O] at ex;cases ex
  | some c =>
   rw[O] at ex;cases ex;have hi:i<z.length:=by rw[← Sr];exact(AB.mp O).1
   refine⟨hi,fun t G ⟨e3,c',e4,e5⟩=>?_⟩;subst e3 e5;have:c'=c:=by
    have h':(cl z)[i]?=some c':=by simpa[cl] using e4
    rw[O] at h';exact(BD h').symm
   subst this;exact⟨Zu.refl _,Dt (cE Y (AI O))⟩
 ·cases e
end
def O3(is:C3 Nat)(σ σ':St):Prop:=σ'.length=σ.length/\∀ j,j∉is->σ'[j]?=σ[j]?
def OJ(is:C3 Nat)(X:Cx)(tg:C4)(g:Dat->Ev->C2 Ev):Prop:=PG X tg fun v σ H Q=>∃ env R A d env',F' X.K R A H σ env/\Rp X.K (av H A) d v/\g d env=some env'/\∀ σ',F' X.K R A H σ' env'->O3 is σ σ'->Q σ' H
def UF(is:C3 Nat)(X:Cx)(a:C3 C4)(g:C3 Dat->Ev->C2 Ev):Prop:=NP X a fun vs σ H Q=>∃ env R A ds env',F' X.K R A H σ env/\Wr X.K (av H A) ds vs/\g ds env=some env'/\∀ σ',F' X.K R A H σ' env'->O3 is σ σ'->Q σ' H
theorem F'.put(k:F' K B A H σ env)(i:Nat){d:Dat}(r:Rp K (av H A) d v):F' K B A H (σ.set i (some v)) (env.set i (.fz d)):=by
 obtain⟨own,h1,h2,h4⟩:=k.sl;refine⟨k.h0,k.r0,k.ra,k.ar,k.mu,by rw[BH,BH];exact k.len,fun hs j d'=>?_,fun j a=>j≠i/\own j a,fun j n a q W=>h1 j n a q.2 W.2,fun j a q=>h2 j a q.2,fun j s e=>?_⟩
 ·rw[BB]
  split
  ·split
   ·intro z;cases z
   ·intro z;cases z
  ·exact k.np hs j d'
 by_cases hj:i=j
 ·subst hj
  rw[BB] at e;rw[AG rfl] at e;split at e
  ·rename_i hl
   cases e;refine⟨some v,?_,v,rfl,r⟩;rw[BB,AG rfl,AG (by rw[k.len];exact hl)]
  ·cases e
 ·rw[BB,AQ hj] at e
  obtain⟨x,q1,q2⟩:=h4 j s e;refine⟨x,by rw[BB,AQ hj];exact q1,?_⟩;cases s with
  | un=>trivial
  | fz d=>exact q2
  | pk d=>exact q2
  | ow ds=>obtain⟨a,vs,e1,e2,e3⟩:=q2;exact⟨a,vs,e1,⟨AO hj,e2⟩,e3⟩
  | gx g=>obtain⟨v,e1,e2⟩:=q2;exact⟨v,e1,e2.frame (fun _ z=>⟨AO hj,z⟩) (fun _ _ _ z=>z) (Zu.refl _)⟩
theorem PG.weak{e:C4}{t t':TG}(h:PG X e t)(w:∀ v σ H Q,t' v σ H Q->t v σ H Q):PG X e t':=fun aa s σ H v u Q I r q=>h aa s σ H v u Q I r (w _ _ _ _ q)
theorem NP.weak{e:C3 C4}{t t':MY}(h:NP X e t)(w:∀ v σ H Q,t' v σ H Q->t v σ H Q):NP X e t':=fun aa s σ H v u Q I r q=>h aa s σ H v u Q I r (w _ _ _ _ q)
def Y7(i:Nat):Dat->Ev->C2 Ev:=fun d env=>some (env.set i (.fz d))
theorem mS{v:C2 V}:O3 [i] σ (σ.set i v):=⟨by rw[BH],fun j hj=>by rw[BB,AQ (by intro e;exact hj (by simp[e]))]⟩
theorem Zq(i:Nat){x:Str}(hN:X.N.Nodup)(hi:X.N[i]?=some x)(hx:LC X.env.scope x)(hf:X.fn x=true\/X.env.scope.names.lookup x=some .local:=by first | exact .inl rfl | exact .inr rfl | assumption):OJ [i] X (.Name x pos) (Y7 i):=(du hN hi hx hf).weak fun v σ H Q L=>by
 obtain⟨env,R,A,d,env',k,r,e,q⟩:=L;cases e;exact q _ (k.put i r) mS
def Dg:C3 Dat->Ev->C2 Ev:=fun ds env=>match ds with
 | []=>some env
 | _=>none
def Wk(g:Dat->Ev->C2 Ev)(gs:C3 Dat->Ev->C2 Ev):C3 Dat->Ev->C2 Ev:=fun ds env=>match ds with
 | d::ds=>(g d env).bind fun env'=>gs ds env'
 | _=>none
theorem Eb:UF [] X [] Dg:=dm.weak fun vs σ H Q L=>by
 obtain⟨env,R,A,ds,env',k,r,e,q⟩:=L;unfold Dg at e;split at e
 ·cases e
  exact⟨Yz r,q σ k ⟨rfl,fun _ _=>rfl⟩⟩
 ·cases e
theorem Wo{e:C4}{a:C3 Nat}{gs:C3 Dat->Ev->C2 Ev}(h1:OJ is X e g)(h2:UF a X es gs)
  (hs:(assignEach (e::es) X.env).map (·.2)=assign e X.env::(assignEach es X.env).map (·.2):=by rfl):UF (is++a) X (e::es) (Wk g gs):=(fD h1 h2 hs).weak fun vs σ H Q L=>by
 obtain⟨env,R,A,ds,env',k,r,e,q⟩:=L;unfold Wk at e;split at e
 ·rename_i d ds'
  obtain⟨n,e1,e2⟩:=bind_some e;obtain⟨v,us,ev,r1,r2⟩:=Zw r;refine⟨v,us,ev,env,R,A,d,n,k,r1,e1,fun σ1 k1 a1=>⟨n,R,A,ds',env',k1,r2,e2,fun σ2 k2 a2=>q σ2 k2 ⟨by rw[a2.1,a1.1],fun j hj=>?_⟩⟩⟩;rw[BQ,not_or] at hj;rw[a2.2 j hj.2,a1.2 j hj.1]
 ·cases e
def Js(fs:C3 (C2 Nat))(env:Ev):Ev:=fs.map fun o=>match o with
 | none=>.un
 | some j=>match env[j]? with
  | some (.fz d)=>.fz d
  | some (.pk d)=>.pk d
  | some (.ow ds)=>.pk (.lst ds)
  | _=>.un
theorem F'.inn(k:F' K B A H σ env)(fs:C3 (C2 Nat)):F' K ⟨H,A,false⟩ A H (Up fs σ) (Js fs env):=by
 obtain⟨own,h1,h2,h4⟩:=k.sl;refine⟨Zu.refl H,fun a h=>?_,fun _ h=>h,fun _ h=>.inl h,k.mu,by simp[Up,Js],fun z=>(by cases z),fun _ _=>False,fun _ _ _ h=>h.elim,fun _ _ h=>h.elim,fun i s e=>?_⟩
 ·have:=k.mu a h
  cases q:H a with
  | none=>rw[q] at this;exact this.elim
  | some o=>exact⟨o,q⟩
 ·unfold Js at e
  rw[AM] at e;unfold Up;rw[AM];cases hf:fs[i]? with
  | none=>rw[hf] at e;cases e
  | some o =>
   rw[hf] at e;cases o with
   | none=>cases e;exact⟨_,rfl,trivial⟩
   | some j =>
    simp only[HN,IJ] at e ⊢;refine⟨_,rfl,?_⟩;split at e
    ·rename_i d hd
     obtain⟨x,q1,q2⟩:=h4 j _ hd;subst e;rw[q1];exact q2
    ·rename_i d hd
     obtain⟨x,q1,q2⟩:=h4 j _ hd;subst e;rw[q1];exact q2
    ·rename_i ds hd
     obtain⟨x,q1,a,vs,e1,_,hz,e3,e4⟩:=h4 j _ hd;subst e;rw[q1];exact⟨.ref a,e1,.inr (.inl ⟨a,vs,ds,rfl,rfl,hz,e3,e4⟩)⟩
    ·subst e;trivial
variable{ta:TA}
def W6(g:Dat->Ev->C2 Ev)(t:Ev->C2 Bool)(f:Zzu)(env:Ev):C3 Dat->C2 (C3 Dat)
 | []=>some []
 | x::xs=>(g x env).bind fun n=>(t n).bind fun b=>if b=true then(f n).bind fun y=>(W6 g t f env xs).map (y::·) else W6 g t f env xs
def V9(src:Zzv)(fs:C3 (C2 Nat))(g:Dat->Ev->C2 Ev)(t:Ev->C2 Bool)(f:Zzu):Ev->C2 (C3 Dat):=fun env=>(src env).bind fun ds=>W6 g t f (Js fs env) ds
theorem Ly{t:Ev->C2 Bool} :∀ {xs ys:C3 Dat},W6 g t f env xs=some ys->ys.length<=xs.length
 | [],ys,h=>by cases h;exact AY _
 | x::xs,ys,h=>by
  rw[W6] at h;obtain⟨n,e1,h⟩:=bind_some h;obtain⟨b,e2,h⟩:=bind_some h;split at h
  ·obtain⟨y,e3,h⟩:=bind_some h
   obtain⟨zs,e4,h⟩:=map_some h;subst h;exact HH (Ly e4)
  ·exact GY (Ly h)
def RX(X:Cx)(az:C3 C4)(t:Ev->C2 Bool):Prop:=NO X az fun σ H Q=>∃ env R A b,F' X.K R A H σ env/\t env=some b/\∀ H',Zu H H'->Q b H'
def V6:Ev->C2 Bool:=fun _=>some true
theorem NO.weak{e:C3 C4}{t:TT}(h:NO X e t)(w:∀ σ H Q,t' σ H Q->t σ H Q):NO X e t':=fun aa s σ H Q I q=>h aa s σ H Q I (w σ H Q q)
theorem Mv:RX X [] V6:=(iN (Y:=X)).weak fun σ H Q ⟨env,R,A,b,k,e,q⟩=>by cases e;exact q H (Zu.refl H)
theorem Ej{c:C4}{t:Ev->C2 Bool}(h:MK X c t):RX X [c] t:=iw h
section
theorem cf{J:It}{fs:C3 (C2 Nat)}{t:Ev->C2 Bool}{Q:VK}{ys:C3 Dat}
  (u:∀ i∈is,fs[i]?=some none) (k:F' K B A H1 σ env) (E:OR false K A H1 ds J) (hz:ds.length<=sizeLine) (O:W6 g t f (Js fs env) ds=some ys) (q:F8 K A H1 ys Q) :
  ∃ W:Nat->Nat->C3 V->Hp->Prop,(∃ m,W 0 m [] H1)/\∀ i m zs H,W i m zs H ->
   (J.stop i H/\zs.length<=sizeLine/\∀ p,H p=none->Q (.ref p) (W7 H p (.lst zs))) \/
   (J.go i H/\zs.length<=sizeLine/\∃ N:C3 V->Hp->Prop,(∀ P H',N P H'->∃ m',m'<m/\W (i+1) m' P H')/\∀ x H',J.yld i H x H'->(∃ env R A d env',F' K R A H' (Up fs σ) env/\Rp K (av H' A) d x/\g d env=some env'/\∀ σ',F' K R A H' σ' env'->O3 is (Up fs σ) σ' ->
    (UE (Up fs σ) σ'/\∃ env R A b,F' K R A H' σ' env/\t env=some b/\∀ G,Zu H' G->if b=true then ∃ env R A d,F' K R A G σ' env/\f env=some d/\Mh false K A G d (fun v H4=>N (zs++[v]) H4) else N zs G))):=by
 have hl:=Ly O;refine⟨fun i m zs H=>m=ds.length - i/\i<=ds.length/\Zu H1 H/\∃ us aj,W6 g t f (Js fs env) (ds.drop i)=some aj/\us++aj=ys/\Wr K (av H A) us zs,
  ⟨ds.length,by simp,DJ _,Zu.refl _,[],ys,by simpa using O,rfl,Uk⟩,?_⟩
 rintro i m zs H ⟨rfl,hi,s1,us,aj,e1,e2,r⟩;have l:zs.length<=sizeLine:=by
  rw[Y0 r];have:us.length<=ys.length:=by rw[← e2,AN];lia
  lia
 obtain⟨Z,c⟩:=E A H ⟨rfl,s1⟩ (k.mono s1).mu;by_cases ah:i<ds.length
 ·have hx:ds[i]?=some ds[i]:=by simp[ah]
  obtain⟨go,T⟩:=Z i _ hx;rw[DH ah,W6] at e1;obtain⟨n,b1,e1⟩:=bind_some e1;obtain⟨b,b2,e1⟩:=bind_some e1;refine .inr ⟨go,l,fun s H'=>i+1<=ds.length/\Zu H1 H'/\∃ us aj,W6 g t f (Js fs env) (ds.drop (i+1))=some aj/\us++aj=ys/\Wr K (av H' A) us s,
   fun s H' h=>⟨ds.length - (i+1),by lia,rfl,h⟩,fun x H' hy=>?_⟩
  obtain⟨s2,S⟩:=T x H' hy;refine⟨Js fs env,⟨H1,A,false⟩,A,ds[i],n,(k.inn fs).mono (s1.trans s2),S,b1,fun σ' k' w=>⟨⟨w.1.symm,fun j v ej=>?_⟩,n,⟨H1,A,false⟩,A,b,k',b2,fun G C=>?_⟩⟩
  ·have hj:j∉is:=fun hj=>by
    have:=u j hj;unfold Up at ej;rw[AM,this] at ej;cases ej
   rw[w.2 j hj];exact ej
  ·cases b with
   | true =>
    rw[AG rfl] at e1 ⊢;obtain⟨y,X,e1⟩:=bind_some e1;obtain⟨a,o,e1⟩:=map_some e1;subst e1;refine⟨n,⟨H1,A,false⟩,A,y,k'.mono C,X,fun v H4 M L=>⟨ah,((s1.trans s2).trans C).trans M,us++[y],a,o,by rw[List.append_assoc];exact e2,Wq (r.mono (Vj ((s2.trans C).trans M))) (Sj L)⟩⟩
   | false =>
    rw[AQ CG] at e1 ⊢;exact⟨ah,(s1.trans s2).trans C,us,aj,e1,e2,r.mono (Vj (s2.trans C))⟩
 ·have e:i=ds.length:=by lia
  subst e;rw[List.drop_length,W6] at e1;cases e1;rw[FF] at e2;subst e2;exact .inl ⟨c,l,(q.mono s1).at (by lia) r⟩
variable{t:Ev->C2 Bool}
theorem Vs(aq:H3)(fs:C3 (C2 Nat))(N:C3 Str)(hp:X.env.scope=aq)(S:CompOk aq sc X.N N fs)(O:X.calm=true)(hi:MS false X tg iter src)
  (U:∀ (C:A4) (s:C0) (H:Hp) (fp:C3 A4),OJ is (Vr X sc N C s H fp) tg g/\RX (Vr X sc N C s H fp) az t/\Wm false (Vr X sc N C s H fp) aA f)
  (u:∀ i∈is,fs[i]?=some none) (hs:∀ x,foldedSetIterable iter X.env x=pure x:=by intro _;rfl):ML X (.ListComp aA [⟨tg,iter,az,0⟩] sc pos) (V9 src fs g t f):=by
 refine PE.weak (gw (g:=fun v σ H Q=>∃ env R A d env',F' X.K R A H σ env/\Rp X.K (av H A) d v/\g d env=some env'/\∀ σ',F' X.K R A H σ' env'->O3 is σ σ'->Q σ' H) (tt:=fun σ H Q=>∃ env R A b,F' X.K R A H σ env/\t env=some b/\∀ H',Zu H H'->Q b H') (te:=fun σ H Q=>∃ env R A d,F' X.K R A H σ env/\f env=some d/\Mh false X.K A H d Q) aq fs N hp S O hi U hs) fun σ H Q ⟨env,R,A,ys,k,e,q⟩=>?_
 obtain⟨ds,e1,e2⟩:=bind_some e;exact⟨env,R,A,ds,k,e1,fun J H1 hz s1 E=>cf u (k.mono s1) E hz e2 (q.mono s1)⟩
end
def Kc(h base:Gf)(e T:A4)(cls:A2×C2 A2)(dct:C2 A4)(fl:A2):Prop :=
 ∃ oe vs oT ts,h.get? e=some oe/\(oe.cls,vs[2]?)=cls/\oe.dict=dct/\oe.data=.fields vs/\vs[1]?=some (.ref T)/\base.get? T=none/\T≠e/\h.get? T=some oT/\oT.data=.fields ts/\ts[3]?=some fl
def O5(l:C3 IA)(ch:C3 A4)(h h':Gf):Prop:=∀ b o,h.get? b=some o->b∉ch->(b∉He l->h'.get? b=some o)/\∃ sl,h'.get? b=some { o with slots:=sl }
theorem O5.of{h1:Gf}(a:∀ b o,h.get? b=some o->b∉ch->h1.get? b=some o):O5 l ch h h1:=fun c o q O=>⟨fun _=>a c o q O,o.slots,a c o q O⟩
theorem Pg(f:Array A2->Array A2)(o:Obj):(Obj.mapFields f o).dict=o.dict:=by
 unfold Obj.mapFields;split<;>rfl
section
variable{M:Model}{A:C1}
theorem cj{env:IA}{vs:Array A2}{head:A2}{f:Bool} 
   (ag:A.frames=some (env::outer)) (hl:s.heap.FunFrames base (env::outer)) (hf:env.frame=some L)
   (he:s.heap.get? e=some oe) (t:base.StaysIn s.heap) (ac:base.get? e=none) (hd:oe.data=.fields vs) (hsz:1<vs.size)
   (h:∀ h' T,s.heap.objs.size<=T->base.StaysIn h'->h'.FunFrames base (env::outer)->Kc h' base e T (oe.cls,vs[2]?) oe.dict (rawInt L)->O5 (env::outer) [e] s.heap h'->s.heap.objs.size<=h'.objs.size->Q () { s with heap:=h' }) :
   wpAny M A (do let a ← frameOf env;let pl ← entryPlaceOf L f;let b ← EntryCells.newEntry head a .none (rawInt L) .none pl;setField (.ref e) 1 b) Q E s:=by
 have m:e∉(env::outer).filterMap (·.frame):=fun hm=>by
   obtain⟨_,o,J,i⟩:=hl.mem hm;rw[he] at J;injection J with J;subst J;exact i vs hd
 refine AA (wpAny_frameOf_fun ag hl hf fun h₁ hs₁=>?_);refine AA (wpAny_entryPlaceOf fun pl af=>?_);unfold EntryCells.newEntry newFields;refine AA (CL ?_ (af.sizeOk5 _ _ _ _ _));have he₁:h₁.get? e=some oe:=(hs₁.2.1 e m).trans he;have kb₁:base.StaysIn h₁:=fun b o c=>(hs₁.2.1 b fun hm=>by rw[(hl.mem hm).1] at c;cases c).trans (t b o c)
 have he₂:=AF (h:=h₁) { cls:=.type "traceback",dict:=none,data:=.fields ([head,.ref L,.none,rawInt L,.none]++(if pl.isEmpty then List.replicate 6 Value.none else pl)).toArray } he₁;have k:s.heap.objs.size<=h₁.objs.size:=JF hs₁.1.symm;have j:h₁.objs.size≠e:=JL (AR he₁);have hd₃:=DO hd (·.setIfInBounds 1 (Value.ref h₁.objs.size));have he₃:=CH (Obj.mapFields (·.setIfInBounds 1 (Value.ref h₁.objs.size))) he₂ (FO hd₃);have hT₃:=(BE (h₁.push { cls:=.type "traceback",dict:=none,data:=.fields ([head,.ref L,.none,rawInt L,.none]++(if pl.isEmpty then List.replicate 6 Value.none else pl)).toArray })
   (Obj.mapFields (·.setIfInBounds 1 (Value.ref h₁.objs.size))) (AO j)).trans (BA h₁ rfl)
 have keep:∀ b o,b≠e->h₁.get? b=some o ->
     ((h₁.push { cls:=.type "traceback",dict:=none,data:=.fields ([head,.ref L,.none,rawInt L,.none]++(if pl.isEmpty then List.replicate 6 Value.none else pl)).toArray }).update e (Obj.mapFields (·.setIfInBounds 1 (Value.ref h₁.objs.size)))).get? b=some o :=
   fun b o d U=>by
     rw[BE _ _ (AO d)];exact AF _ U
 refine ET he₂ hd hsz (h _ h₁.objs.size k ?_ ?_ ?_ ?_ ?_)
 · exact fun b o c=>keep b o (fun q=>by rw[q,ac] at c;cases c) (kb₁ b o c)
 · refine hl.of_keeps fun b o U i=>?_
   obtain⟨sl,hs⟩:=hs₁.2.2 b o U;have d:b≠e:=fun q=>by rw[q,he] at U;injection U with U;subst U;exact i vs hd
   exact⟨_,keep b _ d hs,rfl⟩
 · exact⟨_,_,_,_,he₃,by rw[Obj.cls_mapFields];simp[Array.getElem?_setIfInBounds],Pg _ _,hd₃,by simp[hsz],kb₁.fresh,j,hT₃,rfl,by first | (simp;done) | (rcases af with rfl | ⟨_,_,_,_,_,_,_,rfl⟩<;>simp)⟩
 · intro b o U d
   have l:b≠e:=fun z=>d (by simp[z])
   obtain⟨sl,hs⟩:=hs₁.2.2 b o U;exact⟨fun g=>keep b o l ((hs₁.2.1 b g).trans U),sl,keep b _ l hs⟩
 · rw[HB,ER];exact GY k
theorem Ey{fl:A2} 
  (t:base.StaysIn s.heap) (hl:s.heap.FunFrames base l) (ht:Kc s.heap base e T cls dct fl)
  (h:∀ h',base.StaysIn h'->h'.FunFrames base l->Kc h' base e T cls dct .none->(∀ b o,s.heap.get? b=some o->b∉[T]->h'.get? b=some o)->h'.objs.size=s.heap.objs.size->Q () { s with heap:=h' }) :
  wpAny M A (setFlight (.ref e) none) Q E s:=by
 obtain⟨oe,vs,oT,ts,he,B,hdct,hd,h1,n,j,hT,g,h3⟩:=ht;have k:3<ts.size:=(DM.mp h3).1;have a:∀ b,b≠T->(s.heap.update T (Obj.mapFields (·.setIfInBounds 3 ((none:C2 A4).elim Value.none fun f=>rawInt f)))).get? b=s.heap.get? b :=
  fun b U=>BE _ _ (AO U)
 have d:∀ b o,s.heap.get? b=some o->(∀ vs,o.data≠.fields vs)->b≠T:=fun b o U i q=>by
  rw[q,hT] at U;injection U with U;subst U;exact i ts g
 unfold setFlight;refine AA (CI he hd h1 ?_);rw[AG (show(Value.ref T != Value.none)=true from by simp)];refine ET hT g k (h _ (fun b o c=>(a b fun q=>by rw[q,n] at c;cases c).trans (t b o c))
  (hl.of_keeps fun b o U i=>⟨o,(a b (d b o U i)).trans U,rfl⟩) ?_ (fun b o U i=>(a b (fun z=>i (by simp[z]))).trans U) (HB ..))
 exact⟨oe,vs,_,_,(a e (AO j)).trans he,B,hdct,hd,h1,n,j,CH _ hT (FO (DO g _)),DO g _,by simp[k]⟩
theorem RH{env:IA} 
  (ag:A.frames=some (env::outer)) (hl:s.heap.FunFrames base (env::outer)) (hf:env.frame=some L) (ht:Kc s.heap base e T cls dct .none) (t:base.StaysIn s.heap) (ac:base.get? e=none)
  (h:∀ h' F,s.heap.objs.size<=F->base.StaysIn h'->h'.FunFrames base (env::outer)->Kc h' base e F cls dct (rawInt L)->O5 (env::outer) [e,T] s.heap h'->s.heap.objs.size<=h'.objs.size->Q () { s with heap:=h' }):wpAny M A (noteFrame (.ref e) env) Q E s:=by
 obtain⟨oe,vs,oT,ts,he,B,hdct,hd,h1,n,j,hT,g,h3⟩:=ht;subst B hdct;unfold noteFrame;simp only[hf];refine AA (CI he hd h1 ?_);rw[AG (show(Value.ref T != Value.none)=true from by simp)];refine AA (CI hT g h3 ?_);rw[AQ (show ¬ ((Value.none==rawInt L)=true) from by simp[rawInt])];refine AA (ET hT g (DM.mp h3).1 ?_);have a:∀ b,b≠T->(s.heap.update T (Obj.mapFields (·.setIfInBounds 3 Value.none))).get? b=s.heap.get? b:=fun b U=>BE _ _ (AO U)
 have d:∀ b o,s.heap.get? b=some o->(∀ vs,o.data≠.fields vs)->b≠T:=fun b o U i q=>by
  rw[q,hT] at U;injection U with U;subst U;exact i ts g
 have hsz:(s.heap.update T (Obj.mapFields (·.setIfInBounds 3 Value.none))).objs.size=s.heap.objs.size:=HB ..;refine cj (s:={ s with heap:=s.heap.update T (Obj.mapFields (·.setIfInBounds 3 Value.none)) }) ag (hl.of_keeps fun b o U i=>⟨o,(a b (d b o U i)).trans U,rfl⟩) hf ((a e (AO j)).trans he)
  (fun b o c=>(a b fun q=>by rw[q,n] at c;cases c).trans (t b o c)) ac hd (DM.mp h1).1
  fun h' F x0 x1 x2 x3 x4 x5=>h h' F (by rw[← hsz];exact x0) x1 x2 x3 (fun b o U O=>?_) (by rw[← hsz];exact x5)
 have f:b≠T:=fun z=>O (by simp[z])
 exact x4 b o ((a b f).trans U) (fun z=>O (by simp at z;simp[z]))
theorem Ml{env:IA}{vs:Array A2} 
  (ag:A.frames=some (env::outer)) (hl:s.heap.FunFrames base (env::outer)) (hf:env.frame=some L)
  (he:s.heap.get? e=some oe) (t:base.StaysIn s.heap) (ac:base.get? e=none) (hd:oe.data=.fields vs) (h1:vs[1]?=some .none)
  (h:∀ h' F,s.heap.objs.size<=F->base.StaysIn h'->h'.FunFrames base (env::outer)->Kc h' base e F (oe.cls,vs[2]?) oe.dict (rawInt L)->O5 (env::outer) [e] s.heap h'->s.heap.objs.size<=h'.objs.size->Q () { s with heap:=h' }):wpAny M A (noteFrame (.ref e) env) Q E s:=by
 unfold noteFrame;simp only[hf];refine AA (CI he hd h1 ?_);rw[AQ (by decide)];exact cj ag hl hf he t ac hd (DM.mp h1).1 h
theorem Cj{env:IA}{vs:Array A2} 
  (ag:A.frames=some (env::outer)) (hl:s.heap.FunFrames base (env::outer)) (hf:env.frame=some L)
  (he:s.heap.get? e=some oe) (t:base.StaysIn s.heap) (ac:base.get? e=none) (hd:oe.data=.fields vs) (h1:vs[1]?=some .none)
  (h:∀ h' F,s.heap.objs.size<=F->base.StaysIn h'->h'.FunFrames base (env::outer)->Kc h' base e F (oe.cls,vs[2]?) oe.dict .none->O5 (env::outer) [e] s.heap h'->Q () { s with heap:=h' }):wpAny M A (leaving env (.ref e)) Q E s:=by
 unfold leaving;refine AA (Ml ag hl hf he t ac hd h1 fun h' F x0 x1 x2 x3 x4 x5=>?_);refine Ey (s:={ s with heap:=h' }) x1 x2 x3 fun h2 y1 y2 y3 y4 y5=>h h2 F x0 y1 y2 y3 (fun b o U O=>?_)
 obtain⟨k1,sl,k2⟩:=x4 b o U O;have f:b∉[F]:=fun z=>by
  have e1:b=F:=by simpa using z
  have e2:=AR U;rw[e1] at e2;exact absurd (AU e2 x0) (DA _)
 exact⟨fun g=>y4 b o (k1 g) f,sl,y4 b _ k2 f⟩
theorem gL{env:IA} 
  (ag:A.frames=some (env::outer)) (hl:s.heap.FunFrames base (env::outer)) (hf:env.frame=some L) (ht:Kc s.heap base e T cls dct .none) (t:base.StaysIn s.heap) (ac:base.get? e=none)
  (h:∀ h' F,s.heap.objs.size<=F->base.StaysIn h'->h'.FunFrames base (env::outer)->Kc h' base e F cls dct .none->O5 (env::outer) [e,T] s.heap h'->Q () { s with heap:=h' }):wpAny M A (leaving env (.ref e)) Q E s:=by
 unfold leaving;refine AA (RH ag hl hf ht t ac fun h' F x0 x1 x2 x3 x4 x5=>?_);refine Ey (s:={ s with heap:=h' }) x1 x2 x3 fun h2 y1 y2 y3 y4 y5=>h h2 F x0 y1 y2 y3 (fun b o U O=>?_)
 obtain⟨k1,sl,k2⟩:=x4 b o U O;have f:b∉[F]:=fun z=>by
  have e1:b=F:=by simpa using z
  have e2:=AR U;rw[e1] at e2;exact absurd (AU e2 x0) (DA _)
 exact⟨fun g=>y4 b o (k1 g) f,sl,y4 b _ k2 f⟩
end
variable{e:C4}
inductive Fl where
 | next (env:Ev) | ret (d:Dat) | brk (env:Ev) | cont (env:Ev) | exc (env:Ev) (c:Str) (fs:List (Str×XD)) | no
def UL(K:JT)(B:Bs)(H':Hp)(d:Dat)(v:V):Prop:=∀ ds,d=.lst ds->∃ p vs,v=.ref p/\B.H₀ p=none/\H' p=some (.lst vs)/\ds.length<=sizeLine/\Wr K (av H' (ins B.R p)) ds vs
structure SC (X:Cx) (aa:J1) (H:Hp) (h:Heap) (e C:Addr) (dct:Option Addr):Prop where
 lo:X.s₀.heap.objs.size<=e
 un:H e=none
 ob:(∃ o vs,h.get? e=some o/\o.cls=.ref C/\o.dict=dct/\o.data=.fields vs/\vs[1]?=some .none/\(X.pl=true->vs[2]?=some .none))\/∃ T c2,X.s₀.heap.objs.size<=T/\H T=none/\(∀ p∈X.pn++aa,p.1≠T)/\Kc h X.base e T (.ref C,c2) dct .none/\(X.pl=true->c2=some .none)
 pe:∀ p∈X.pn++aa,p.1≠e
def Ct(H0 H:Hp)(dct:C2 A4):Prop:=∀ dx,dct=some dx->H0 dx=none/\∀ j f a,H dx=some (.xd j)->j.lookup f=some (.ref a)->H0 a=none/\∃ xs,H a=some (.lst xs)
theorem Ct.mono(h:Ct H1 H dct)(m:∀ b,H1 b=none->H0 b=none):Ct H0 H dct:=fun dx e=>⟨m _ (h dx e).1,fun j f a q l=>((h dx e).2 j f a q l).imp (m _) id⟩
theorem Xo{j:C3 (Str×V)}(h1:H0 dx=none)(h2:H dx=some (.xd j))(h3:∀ f a,(f,V.ref a)∈j->H0 a=none/\∃ xs,H a=some (.lst xs)):Ct H0 H (some dx):=fun dx' e=>by
 cases e;refine⟨h1,fun fvs' f a q l=>?_⟩;rw[h2] at q;cases q;exact h3 f a (BO l)
theorem ja:Ct H0 H none:=fun dx e=>by cases e
theorem Zu.none(s:Zu H H'){b:A4}(h:H' b=none):H b=none:=by
 cases q:H b with
 | none=>rfl
 | some o=>rw[s b o q] at h;cases h
def XW(X:Cx)(H0:Hp)(A:AS)(H:Hp)(σ:St)(c:Str)(fs:C3 (Str×XD)):Prop :=
 ∀ (aa:J1) (s:C0) (e C:A4) (dct:C2 A4),C' X aa σ H s->Wg X.K c C->SC X aa H s.heap e C dct->K' X.K (av H A) dct fs->Ct H0 H dct->X.xe (.ref e) s
def Hq(fr:Bool)(X:Cx)(B:Bs)(A:AS)(H:Hp)(D:KG):Fl->Prop
 | .next env'=>∀ A' H' σ',JN A H A' H'->F' X.K B A' H' σ' env'->D.nx σ' H'
 | .brk env'=>∀ A' H' σ',JN A H A' H'->F' X.K B A' H' σ' env'->D.bk σ' H'
 | .cont env'=>∀ A' H' σ',JN A H A' H'->F' X.K B A' H' σ' env'->D.ct σ' H'
 | .ret d=>∀ v H',Zu B.H₀ H'->Rp X.K (av H' B.R) d v->(fr=true->UL X.K B H' d v)->D.rt v H'
 | .exc env' c fs=>∀ A' H' σ',JN A H A' H'->F' X.K B A' H' σ' env'->XW X B.H₀ A' H' σ' c fs
 | .no=>False
def tS(fr:Bool)(X:Cx)(g:Ev->Fl):TS:=fun D σ H=>∃ env B A,F' X.K B A H σ env/\B.st=true/\Hq fr X B A H D (g env)
def Ir(fr:Bool)(X:Cx)(st:C5)(g:Ev->Fl):Prop:=PS X st (tS fr X g)
def Oe(fr:Bool)(X:Cx)(st:C3 C5)(g:Ev->Fl):Prop:=Gr X st (tS fr X g)
theorem Hq.step{D:KG}{r:Fl}(h:Hq fr X B A H D r)(s:JN A H A' H'):Hq fr X B A' H' D r:=by
 cases r with
 | next e=>exact fun f H2 σ2 s2 k=>h f H2 σ2 (s.trans s2) k
 | brk e=>exact fun f H2 σ2 s2 k=>h f H2 σ2 (s.trans s2) k
 | cont e=>exact fun f H2 σ2 s2 k=>h f H2 σ2 (s.trans s2) k
 | ret d=>exact h
 | exc e c fs=>exact fun f H2 σ2 s2 k=>h f H2 σ2 (s.trans s2) k
 | no=>exact h
section
variable{st:C5}{aj a b:C3 C5}{c:C4}{g h:Ev->Fl}{fs:Zzv}{t:Ev->C2 Bool}
def U6:Ev->Fl:=fun env=>.next env
def Zf(g h:Ev->Fl):Ev->Fl:=fun env=>match g env with
 | .next env'=>h env'
 | r=>r
theorem Wh:Oe fr X [] U6:=d1.weak fun D σ H ⟨env,B,A,k,l,q⟩=>q A H σ (JN.refl A H) k
theorem Zb(h1:Ir fr X st g)(h2:Oe fr X aj h):Oe fr X (st::aj) (Zf g h):=(Qe h1 h2).weak fun D σ H L=>by
 obtain⟨env,B,A,k,l,q⟩:=L;refine⟨env,B,A,k,l,?_⟩;unfold Zf at q;split at q
 ·rename_i env' e
  rw[e];exact fun A' H' σ' s k'=>⟨env',B,A',k',l,q.step s⟩
 ·rename_i r hn
  cases e:g env with
  | next env'=>exact absurd e (hn env')
  | brk e'=>rw[e] at q;exact q
  | cont e'=>rw[e] at q;exact q
  | ret d=>rw[e] at q;exact q
  | exc e' c fs=>rw[e] at q;exact q
  | no=>rw[e] at q;exact q
theorem Zh(h1:Ir fr X st g):Oe fr X [st] g:=Dq h1
theorem YX:Ir fr X (.Continue pos) (fun env=>.cont env):=nl.weak fun D σ H ⟨env,B,A,k,l,q⟩=>q A H σ (JN.refl A H) k
def Qp(t:Ev->C2 Bool)(g h:Ev->Fl):Ev->Fl:=fun env=>match t env with
 | some true=>g env
 | some false=>h env
 | none=>.no
theorem Uc(O:MK X c t)(ha:Oe fr X a g)(U:Oe fr X b h):Ir fr X (.If c a b pos) (Qp t g h):=(ni O ha U).weak fun D σ H L=>by
 obtain⟨env,B,A,k,l,q⟩:=L;unfold Qp at q;split at q
 ·rename_i e
  refine⟨env,B,A,true,k,e,fun H' s=>?_⟩;exact bG ⟨env,B,A,k.mono s,l,q.step (JN.same s)⟩
 ·rename_i e
  refine⟨env,B,A,false,k,e,fun H' s=>?_⟩;exact bB ⟨env,B,A,k.mono s,l,q.step (JN.same s)⟩
 ·exact q.elim
def Yq(f:Zzu):Ev->Fl:=fun env=>match f env with
 | some d=>.ret d
 | none=>.no
theorem Ba{d:Dat}(k:F' X.K B A H σ env)(s:Zu H H')(r:Rp X.K (av H' A) d v):Zu B.H₀ H'/\Rp X.K (av H' B.R) d v:=⟨k.h0.trans s,r.mono (M7 k.ra)⟩
theorem Y9(he:Wm false X e f):Ir false X (.Return (some e) pos) (Yq f):=(B8 he).weak fun D σ H L=>by
 obtain⟨env,B,A,k,l,q⟩:=L;unfold Yq at q;split at q
 ·rename_i d e
  exact⟨env,B,A,d,k,e,fun v H' s r=>q v H' (Ba k s r).1 (Ba k s r).2 (fun z=>by cases z)⟩
 ·exact q.elim
theorem fU{p:A4}(k:F' X.K B A H σ env)(hz:ds.length<=sizeLine)(s:Zu H H')(hn:H p=none)(hp:H' p=some (.lst vs))(r:Wr X.K (av H' (ins A p)) ds vs):B.H₀ p=none/\B.R p=false/\Wr X.K (av H' (ins B.R p)) ds vs:=by
 have h0:B.H₀ p=none:=k.h0.free hn;refine⟨h0,?_,r.mono (M7 fun a ha=>?_)⟩
 ·cases q:B.R p with
  | false=>rfl
  | true=>obtain⟨o,J⟩:=k.r0 p q;rw[h0] at J;cases J
 ·rcases Xm ha with z | z
  ·exact Nd (k.ra a z)
  ·subst z;exact ba
theorem E9(he:ML X e fs):Ir fr X (.Return (some e) pos) (Yq (dL fs)):=(B8 he).weak fun D σ H L=>by
 obtain⟨env,B,A,k,l,q⟩:=L;unfold Yq at q;split at q
 ·rename_i d e
  obtain⟨ds,e1,e2⟩:=map_some e;subst e2;refine⟨env,B,A,ds,k,e1,fun p vs H' hz s hn hp r=>?_⟩;obtain⟨h1,h2,h3⟩:=fU k hz s hn hp r;refine q (.ref p) H' (k.h0.trans s) (Ln hz (.inl (.inl (V8 hp h2))) (h3.mono (M7 fun a ha=>Nd ha))) fun _ ds' t=>?_
  cases t;exact⟨p,vs,rfl,h1,hp,hz,h3⟩
 ·exact q.elim
theorem Pj{s:KL}(h:∀ (j:Nat) d,env[j]?≠some (.pk d))(hs:∀ d,s≠.pk d):∀ (j:Nat) d,(env.set i s)[j]?≠some (.pk d):=fun j d=>by
 rw[BB];split
 ·split
  ·intro z;exact hs d (BD z)
  ·intro z;cases z
 ·exact h j d
theorem F'.own(k:F' K B A H σ env)(l:B.st=true)(h:env[i]?=some (.ow ds)) :
  ∃ a vs,σ[i]?=some (some (.ref a))/\H a=some (.lst vs)/\Wr K (av H A) ds vs/\ds.length<=sizeLine/\A a=true/\B.R a=false/\B.H₀ a=none /\
   (∀ ds' c,ds'.length<=sizeLine->Wr K (av H A) ds' c->JN A H A (W7 H a (.lst c))/\F' K B A (W7 H a (.lst c)) σ (env.set i (.ow ds'))) /\
   JN A H (fun b=>A b&&b != a) H/\F' K B (fun b=>A b&&b != a) H σ (env.set i (.fz (.lst ds))):=by
 obtain⟨own,h1,h2,h4⟩:=k.sl;obtain⟨x,q1,a,vs,e1,e2,hz,e3,e4⟩:=h4 i _ h;subst e1;obtain⟨hA,E⟩:=h2 i a e2;have h0:B.H₀ a=none:=by
  rcases k.ar a hA with z | z
  ·rw[z] at E;cases E
  ·exact z
 have F:∀ c,Zu (av H A) (av (W7 H a (.lst c)) A):=fun c b o e=>by
  obtain⟨z1,z2⟩:=Mu e;have U:b≠a:=by intro z;rw[z,hA] at z1;cases z1
  exact V8 (by rw[Zd U];exact z2) z1
 refine⟨a,vs,q1,e3,e4,hz,hA,E,h0,fun ds' c f r'=>⟨⟨fun b o U m=>?_,fun b U=>.inl U⟩,?_⟩,⟨fun b o U _=>U,fun b U=>.inl ?_⟩,?_⟩
 ·have hn:b≠a:=by intro z;rw[z,hA] at m;cases m
  rw[Zd hn];exact U
 ·refine⟨fun b o U=>?_,k.r0,k.ra,k.ar,fun b U=>?_,by rw[BH];exact k.len,fun hs j d'=>Pj (k.np hs) (fun _ z=>by cases z) j d',own,h1,h2,fun j s e=>?_⟩
  ·have hn:b≠a:=Yh U h0
   rw[Zd hn];exact k.h0 b o U
  ·by_cases hn:b=a
   ·subst hn;rw[Zk];trivial
   ·rw[Zd hn];exact k.mu b U
  ·by_cases hj:i=j
   ·subst hj
    rw[BB,AG rfl] at e;split at e
    ·cases e
     exact⟨_,q1,a,c,rfl,e2,f,Zk,r'.mono (F c)⟩
    ·cases e
   ·rw[BB,AQ hj] at e
    obtain⟨x,M,p2⟩:=h4 j s e;refine⟨x,M,?_⟩;cases s with
    | un=>trivial
    | fz d=>obtain⟨v,z1,z2⟩:=p2;exact⟨v,z1,z2.mono (F c)⟩
    | pk d =>
     exact absurd e (k.np l j d)
    | ow es =>
     obtain⟨b,us,z1,z2,z3,z4,z5⟩:=p2;have hn:b≠a:=fun z=>hj (h1 i j a e2 (z▸z2))
     exact⟨b,us,z1,z2,z3,by rw[Zd hn];exact z4,z5.mono (F c)⟩
    | gx g =>
     obtain⟨v,z1,z2⟩:=p2;exact⟨v,z1,z2.frame (fun _ z=>z) (fun b x ob z=>by
      have hn:b≠a:=fun w=>hj (h1 i j a e2 (w▸ob))
      rw[Zd hn];exact z) (F c)⟩
 ·rw[AV] at U;exact U.1
 ·have less:Zu (av H A) (av H fun b=>A b&&b != a):=M7 fun b U=>by rw[AV] at U;exact U.1
  refine⟨k.h0,k.r0,fun b U=>?_,fun b U=>?_,fun b U=>?_,by rw[BH];exact k.len,fun hs j d'=>Pj (k.np hs) (fun _ z=>by cases z) j d',fun j b=>j≠i/\own j b,fun j n b z G=>h1 j n b z.2 G.2,fun j b z=>?_,fun j s e=>?_⟩
  ·have hn:b≠a:=by intro z;rw[z,E] at U;cases U
   simp[k.ra b U,hn]
  ·rw[AV] at U;exact k.ar b U.1
  ·rw[AV] at U;exact k.mu b U.1
  ·have hn:b≠a:=fun w=>z.1 (h1 j i a (w▸z.2) e2)
   simp[(h2 j b z.2).1,(h2 j b z.2).2,hn]
  ·by_cases hj:i=j
   ·subst hj
    rw[BB,AG rfl] at e;split at e
    ·cases e
     exact⟨_,q1,.ref a,rfl,Ln hz (.inl (.inl (V8 e3 (by simp)))) (e4.mono less)⟩
    ·cases e
   ·rw[BB,AQ hj] at e
    obtain⟨x,M,p2⟩:=h4 j s e;refine⟨x,M,?_⟩;cases s with
    | un=>trivial
    | fz d=>obtain⟨v,z1,z2⟩:=p2;exact⟨v,z1,z2.mono less⟩
    | pk d =>
     obtain⟨v,z1,z2⟩:=p2;refine⟨v,z1,?_⟩;rcases z2 with z2 | ⟨b,us,es,y1,y2,y3,y4,y5⟩ | z2
     ·exact .inl (z2.mono less)
     ·exact .inr (.inl ⟨b,us,es,y1,y2,y3,y4,y5.mono less⟩)
     ·exact .inr (.inr z2)
    | ow es =>
     obtain⟨b,us,z1,z2,z3,z4,z5⟩:=p2;exact⟨b,us,z1,⟨AO hj,z2⟩,z3,z4,z5.mono less⟩
    | gx g =>
     obtain⟨v,z1,z2⟩:=p2;exact⟨v,z1,z2.frame (fun _ z=>⟨AO hj,z⟩) (fun _ _ _ z=>z) less⟩
def Iy(i:Nat):Ev->Fl:=fun env=>match env[i]? with
 | some (.ow ds)=>.ret (.lst ds)
 | _=>.no
theorem P6(i:Nat){x:Str}(hN:X.N[i]?=some x:=by rfl)(hv:LU X.env.scope x:=by first | exact AD rfl | exact BJ (AD rfl) | exact BJ (BJ rfl))(hd:(x==("__debug__" : Str))=false:=by decide)
  (M:(x==("__classdict__" : Str))=false:=by decide):Ir fr X (.Return (some (.Name x p)) pos) (Iy i):=(B8 (Rx hN hv hd M)).weak fun D σ H L=>by
 obtain⟨env,B,A,k,l,q⟩:=L;unfold Iy at q;split at q
 ·rename_i ds e
  obtain⟨a,vs,h1,h2,h3,hz,hA,E,h0,_⟩:=k.own l e;have less:∀ b,ins B.R a b=true->A b=true:=fun b U=>by
   rcases Xm U with z | z
   ·exact k.ra b z
   ·rw[z];exact hA
  have r:=h3.mono (M7 (H:=H) less);refine⟨.ref a,h1,q (.ref a) H k.h0 (Ln hz (.inl (.inl (V8 h2 E))) (r.mono (M7 fun b U=>Nd U))) fun _ ds' t=>?_⟩;cases t;exact⟨a,vs,rfl,h0,h2,hz,r⟩
 ·exact q.elim
def Y6(i:Nat)(f:Zzu):Ev->Fl:=fun env=>match f env with
 | some d=>.next (env.set i (.fz d))
 | none=>.no
def Eo(i:Nat)(f:Zzv):Ev->Fl:=fun env=>match f env with
 | some ds=>.next (env.set i (.ow ds))
 | none=>.no
theorem F'.putO(k:F' K B A H σ env)(l:B.st=true)(i:Nat){p:A4}(hz:ds.length<=sizeLine)(s:Zu H H')(hn:H p=none)(hp:H' p=some (.lst vs))(r:Wr K (av H' (ins A p)) ds vs) :
  JN A H (ins A p) H'/\F' K B (ins A p) H' (σ.set i (some (.ref p))) (env.set i (.ow ds)):=by
 have st:JN A H (ins A p) H':=⟨fun a o h _=>s a o h,fun a h=>by
  rcases Xm h with z | z
  ·exact .inl z
  ·rw[z];exact .inr hn⟩
 have m:A p=false:=k.mu.new hn;have h0:B.H₀ p=none:=k.h0.free hn;obtain⟨own,h1,h2,h4⟩:=k.sl;refine⟨st,k.h0.trans s,k.r0,fun a h=>Nd (k.ra a h),fun a h=>?_,fun a h=>?_,by rw[BH,BH];exact k.len,fun hs j d'=>Pj (k.np hs) (fun _ z=>by cases z) j d',
  fun j a=>(j≠i/\own j a)\/(j=i/\a=p),fun j n a z G=>?_,fun j a z=>?_,fun j sl e=>?_⟩
 ·rcases Xm h with z | z
  ·exact k.ar a z
  ·rw[z];exact .inr h0
 ·rcases Xm h with z | z
  ·exact k.mu.mono s a z
  ·rw[z,hp];trivial
 ·rcases z with z | z<;>rcases G with G | G
  ·exact h1 j n a z.2 G.2
  ·have:=(h2 j a z.2).1;rw[G.2,m] at this;cases this
  ·have:=(h2 n a G.2).1;rw[z.2,m] at this;cases this
  ·rw[z.1,G.1]
 ·rcases z with z | z
  ·exact⟨Nd (h2 j a z.2).1,(h2 j a z.2).2⟩
  ·refine⟨by rw[z.2];exact ba,?_⟩
   cases q:B.R a with
   | false=>rfl
   | true=>obtain⟨o,J⟩:=k.r0 a q;rw[z.2,h0] at J;cases J
 ·by_cases hj:i=j
  ·subst hj
   rw[BB,AG rfl] at e;split at e
   ·rename_i hl
    cases e;exact⟨some (.ref p),by rw[BB,AG rfl,AG (by rw[k.len];exact hl)],p,vs,rfl,.inr ⟨rfl,rfl⟩,hz,hp,r⟩
   ·cases e
  ·rw[BB,AQ hj] at e
   obtain⟨x,M,p2⟩:=h4 j sl e;refine⟨x,by rw[BB,AQ hj];exact M,?_⟩;cases sl with
   | un=>trivial
   | fz d=>obtain⟨v,z1,z2⟩:=p2;exact⟨v,z1,z2.mono st.av⟩
   | pk d=>exact absurd e (k.np l j d)
   | ow es =>
    obtain⟨b,us,z1,z2,z3,z4,z5⟩:=p2;exact⟨b,us,z1,.inl ⟨AO hj,z2⟩,z3,s _ _ z4,z5.mono st.av⟩
   | gx g =>
    obtain⟨v,z1,z2⟩:=p2;exact⟨v,z1,z2.frame (fun _ z=>.inl ⟨AO hj,z⟩) (fun b x _ z=>s b x z) st.av⟩
theorem Zs(i:Nat){x:Str}(hN:X.N.Nodup)(hi:X.N[i]?=some x)(hx:LC X.env.scope x)(he:Wm false X e f)(hs:swapsWith e (some (.Name x am)) pos.line X.env=pure false:=by rfl)
  (hf:X.fn x=true\/X.env.scope.names.lookup x=some .local:=by first | exact .inl rfl | exact .inr rfl | assumption):Ir fr X (.Assign [.Name x am] e pos) (Y6 i f):=(Xf hN hi hx he hs hf).weak fun D σ H L=>by
 obtain⟨env,B,A,k,l,q⟩:=L;unfold Y6 at q;split at q
 ·rename_i d e
  exact⟨env,B,A,d,k,e,fun v H' s r=>q A H' _ (JN.same s) ((k.mono s).put i r)⟩
 ·exact q.elim
theorem Dm(i:Nat){x:Str}(hN:X.N.Nodup)(hi:X.N[i]?=some x)(hx:LC X.env.scope x)(he:ML X e fs)(hs:swapsWith e (some (.Name x am)) pos.line X.env=pure false:=by rfl)
  (hf:X.fn x=true\/X.env.scope.names.lookup x=some .local:=by first | exact .inl rfl | exact .inr rfl | assumption):Ir fr X (.Assign [.Name x am] e pos) (Eo i fs):=(Xf hN hi hx he hs hf).weak fun D σ H L=>by
 obtain⟨env,B,A,k,l,q⟩:=L;unfold Eo at q;split at q
 ·rename_i ds e
  refine⟨env,B,A,ds,k,e,fun p vs H' hz s hn hp r=>?_⟩;obtain⟨h1,h2⟩:=k.putO l i hz s hn hp r;exact q _ H' _ h1 h2
 ·exact q.elim
variable{gg:Dat->Ev->C2 Ev}{tt:Ev->C2 Bool}
theorem Lq(i:Nat){x:Str}(hN:X.N.Nodup)(y:X.N[i]?=some x)(hx:LC X.env.scope x)(aq:H3)(fs:C3 (C2 Nat))(N:C3 Str)(hp:X.env.scope=aq)(S:CompOk aq sc X.N N fs)(O:X.calm=true)(hi:MS false X tg iter src)
  (U:∀ (C:A4) (s:C0) (H:Hp) (fp:C3 A4),OJ is (Vr X sc N C s H fp) tg gg/\RX (Vr X sc N C s H fp) az tt/\Wm false (Vr X sc N C s H fp) aA f)
  (u:∀ i∈is,fs[i]?=some none) (hs:∀ x,foldedSetIterable iter X.env x=pure x:=by intro _;rfl) (ac:swapsWith (.ListComp aA [⟨tg,iter,az,0⟩] sc pos) (some (.Name x am)) aE.line X.env=pure true:=by rfl)
  (hf:X.fn x=true\/X.env.scope.names.lookup x=some .local:=by first | exact .inl rfl | exact .inr rfl | assumption) :
  Ir fr X (.Assign [.Name x am] (.ListComp aA [⟨tg,iter,az,0⟩] sc pos) aE) (Y6 i (dL (V9 src fs gg tt f))):=(X7 (g:=fun v σ H Q=>∃ env R A d env',F' X.K R A H σ env/\Rp X.K (av H A) d v/\gg d env=some env'/\∀ σ',F' X.K R A H σ' env'->O3 is σ σ'->Q σ' H) (tt:=fun σ H Q=>∃ env R A b,F' X.K R A H σ env/\tt env=some b/\∀ H',Zu H H'->Q b H') (te:=fun σ H Q=>∃ env R A d,F' X.K R A H σ env/\f env=some d/\Mh false X.K A H d Q) hN y hx aq fs N hp S O hi U hs ac hf).weak fun D σ H L=>by
 obtain⟨env,B,A,k,l,q⟩:=L;unfold Y6 at q;split at q
 ·rename_i d e
  obtain⟨ys,e',t⟩:=map_some e;subst t;obtain⟨ds,e1,e2⟩:=bind_some e';have W:Mh false X.K A H (.lst ys) (fun v H'=>D.nx (σ.set i (some v)) H'):=fun v H' s r=>q A H' _ (JN.same s) ((k.mono s).put i r)
  exact⟨env,B,A,ds,k,e1,fun J H1 hz s1 E=>cf (Q:=fun v H'=>D.nx (σ.set i (some v)) H') u (k.mono s1) E hz e2 ((W.new k.mu).mono s1)⟩
 ·exact q.elim
def SE(f:Zzu)(g:Dat->Ev->C2 Ev):Ev->Fl:=fun env=>match (f env).bind fun d=>g d env with
 | some env'=>.next env'
 | none=>.no
theorem nS{g:Dat->Ev->C2 Ev}(he:Wm false X e f)(hg:OJ is X tg g)(hs:swapsWithSole [tg] e pos.line X.env=pure false:=by rfl)(hw:swappedStores [tg] e X.env=pure none:=by rfl)(h1:(assignEach [tg] X.env).map (·.2)=[assign tg X.env]:=by rfl):Ir fr X (.Assign [tg] e pos) (SE f g):=(bA he hg hs hw h1).weak fun D σ H L=>by
 obtain⟨env,B,A,k,l,q⟩:=L;unfold SE at q;split at q
 ·rename_i env' e
  obtain⟨d,e1,e2⟩:=bind_some e;exact⟨env,B,A,d,k,e1,fun v H' s r=>⟨env,B,A,d,env',k.mono s,r,e2,fun σ' k' _=>q A H' σ' (JN.same s) k'⟩⟩
 ·exact q.elim
def Ii(g:Dat->Ev->C2 Ev)(body:Ev->Fl):C3 Dat->Ev->Fl
 | [],env=>.next env
 | x::xs,env=>match g x env with
  | none=>.no
  | some n=>match body n with
   | .next e=>Ii g body xs e
   | .cont e=>Ii g body xs e
   | .brk e=>.next e
   | .ret d=>.ret d
   | .exc e c fs=>.exc e c fs
   | .no=>.no
def Qo(src:Zzv)(g:Dat->Ev->C2 Ev)(body:Ev->Fl):Ev->Fl:=fun env=>match src env with
 | none=>.no
 | some ds=>Ii g body ds env
theorem Q6(hp:PassesOwn (model X.prog X.w) X.A X.env X.xe)(O:X.calm=true)(hi:MS true X tg iter src)(hg:OJ is X tg gg)(U:Oe fr X body g)
  (hs:∀ x,foldedSetIterable iter X.env x=pure x:=by intro _;rfl):Ir fr X (.For tg iter body [] pos) (Qo src gg g):=(kK hp O hi hg U hs).weak fun D σ H L=>by
 obtain⟨env,B,A,k,l,q⟩:=L;unfold Qo at q;split at q
 ·exact q.elim
 rename_i ds e;refine⟨env,B,A,ds,k,e,fun J H1 hz s1 E=>?_⟩;refine⟨fun i m σ' H'=>m=ds.length - i/\i<=ds.length/\∃ A' env',JN A H1 A' H'/\F' X.K B A' H' σ' env'/\Hq fr X B A' H' D (Ii gg g (ds.drop i) env'),
  ⟨ds.length,by simp,DJ _,A,env,JN.refl A H1,k.mono s1,by simpa using q.step (JN.same s1)⟩,?_⟩
 rintro i m σ' H' ⟨rfl,y,A',env',s',k',W⟩;obtain⟨Z,c⟩:=E A' H' s' k'.mu;by_cases ah:i<ds.length
 ·obtain⟨go,T⟩:=Z i _ (show ds[i]?=some ds[i] by simp[ah])
  refine .inr ⟨go,fun σ2 H2=>i+1<=ds.length/\∃ f a,JN A H1 f H2/\F' X.K B f H2 σ2 a/\Hq fr X B f H2 D (Ii gg g (ds.drop (i+1)) a),fun σ2 H2 z=>⟨ds.length - (i+1),by lia,rfl,z⟩,fun x H2 hy=>?_⟩;obtain⟨s2,S⟩:=T x H2 hy;rw[DH ah,Ii] at W;split at W
  ·exact W.elim
  rename_i n e1;refine⟨env',B,A',ds[i],n,k'.mono s2,S,e1,fun σ3 k3 _=>⟨n,B,A',k3,l,?_⟩⟩;have j:JN A' H' A' H2:=JN.same s2;split at W
  ·rename_i e2 F
   rw[F];exact fun b H4 σ4 M k4=>⟨ah,b,e2,s'.trans (j.trans M),k4,W.step (j.trans M)⟩
  ·rename_i e2 F
   rw[F];exact fun b H4 σ4 M k4=>⟨ah,b,e2,s'.trans (j.trans M),k4,W.step (j.trans M)⟩
  ·rename_i e2 F
   rw[F];exact fun b H4 σ4 M k4=>W b H4 σ4 (j.trans M) k4
  ·rename_i d F
   rw[F];exact W
  ·rename_i e2 c2 f2 F
   rw[F];exact fun b H4 σ4 M k4=>W b H4 σ4 (j.trans M) k4
  ·exact W.elim
 ·have e:i=ds.length:=by lia
  subst e;rw[List.drop_length,Ii] at W;exact .inl ⟨c,W A' H' σ' (JN.refl _ _) k'⟩
def Vv(t:Ev->C2 Bool)(body:Ev->Fl):Nat->Ev->Fl
 | 0,_=>.no
 | n+1,env=>match t env with
  | none=>.no
  | some false=>.next env
  | some true=>match body env with
   | .next e=>Vv t body n e
   | .cont e=>Vv t body n e
   | .brk e=>.next e
   | .ret d=>.ret d
   | .exc e c fs=>.exc e c fs
   | .no=>.no
theorem Tx{body:Ev->Fl}:∀ {n:Nat} {env:Ev} (k:Nat),Vv t body n env≠.no->Vv t body (n+k) env=Vv t body n env
 | 0,env,k,h=>absurd rfl h
 | n+1,env,k,h=>by
  rw[show n+1+k=(n+k)+1 by lia];simp only[Vv] at h ⊢;split
  ·rfl
  ·rfl
  ·rename_i e1
   simp only[e1] at h;split
   ·rename_i e2 F;simp only[F] at h;exact Tx k h
   ·rename_i e2 F;simp only[F] at h;exact Tx k h
   ·rfl
   ·rfl
   ·rfl
   ·rfl
open Classical in
def Gc(t:Ev->C2 Bool)(body:Ev->Fl):Ev->Fl:=fun env=>if h:∃ n,Vv t body n env≠.no then Vv t body (Classical.choose h) env else .no
theorem Ag{body:Ev->Fl}{n:Nat}(h:Vv t body n env≠.no):Gc t body env=Vv t body n env:=by
 unfold Gc;have hx:∃ n,Vv t body n env≠.no:=⟨n,h⟩;rw[dif_pos hx];have O:=Classical.choose_spec hx;have e1:=Tx n O;have e2:=Tx (Classical.choose hx) h;rw[← e1,← e2,Nat.add_comm]
theorem ZL(hp:PassesOwn (model X.prog X.w) X.A X.env X.xe)(O:MK X c t)(U:Oe fr X body g):Ir fr X (.While c body [] pos) (Gc t g):=(fx hp O U).weak fun D σ H L=>by
 obtain⟨env,B,A,k,l,q⟩:=L;unfold Gc at q;split at q
 ·rename_i hx
  refine⟨fun n σ' H'=>∃ A' env',F' X.K B A' H' σ' env'/\Hq fr X B A' H' D (Vv t g n env'),⟨_,A,env,k,q⟩,?_⟩;rintro n σ' H' ⟨A',env',k',W⟩;cases n with
  | zero=>exact W.elim
  | succ n =>
   rw[Vv] at W;split at W
   ·exact W.elim
   ·rename_i e1
    refine⟨env',B,A',false,k',e1,fun H1 s1=>?_⟩;refine bB ?_;exact W A' H1 σ' (JN.same s1) (k'.mono s1)
   ·rename_i e1
    refine⟨env',B,A',true,k',e1,fun H1 s1=>?_⟩;refine bG ?_;refine⟨fun σ2 H2=>∃ f a,F' X.K B f H2 σ2 a/\Hq fr X B f H2 D (Vv t g n a),fun σ2 H2 z=>⟨n,GG n,z⟩,env',B,A',k'.mono s1,l,?_⟩;have j:JN A' H' A' H1:=JN.same s1;split at W
    ·rename_i e2 F
     rw[F];exact fun b H4 σ4 M k4=>⟨b,e2,k4,W.step (j.trans M)⟩
    ·rename_i e2 F
     rw[F];exact fun b H4 σ4 M k4=>⟨b,e2,k4,W.step (j.trans M)⟩
    ·rename_i e2 F
     rw[F];exact fun b H4 σ4 M k4=>W b H4 σ4 (j.trans M) k4
    ·rename_i d F
     rw[F];exact W
    ·rename_i e2 c2 f2 F
     rw[F];exact fun b H4 σ4 M k4=>W b H4 σ4 (j.trans M) k4
    ·exact W.elim
 ·exact q.elim
def SW(X:Cx)(id:String)(F:C3 Dat->C3 Dat->C2 (C3 Dat)):Prop:=MV X id (fun v us H Q=>∃ A a vs ds as ds',Q8 A H/\v=.ref a/\H a=some (.lst vs)/\Wr X.K (av H A) ds vs/\LB false X.K A H as us/\F ds as=some ds'/\∀ w c,ds'.length<=sizeLine->Wr X.K (av H A) ds' c->Q w (W7 H a (.lst c)))
def D8(i:Nat)(F:C3 Dat->C3 Dat->C2 (C3 Dat))(fs:Zzv):Ev->Fl:=fun env=>match env[i]? with
 | some (.ow ds)=>match (fs env).bind fun as=>F ds as with
  | some ds'=>.next (env.set i (.ow ds'))
  | none=>.no
 | _=>.no
theorem E4(i:Nat){x:Str}{id:String}{F:C3 Dat->C3 Dat->C2 (C3 Dat)}(slot:Slot "list" name id)(g:typeOf (.builtin id)=pure (.type "method_descriptor"))(hm:SW X id F)(ha:Om false X (e::es) fs)
  (hN:X.N[i]?=some x:=by rfl) (hv:LU X.env.scope x:=by first | exact AD rfl | exact BJ (AD rfl) | exact BJ (BJ rfl)) (hd:(x==("__debug__" : Str))=false:=by decide) (M:(x==("__classdict__" : Str))=false:=by decide)
  (ac:swapsWith (.Call (.Attribute (.Name x p) name ax) (e::es) [] al) none pos.line X.env=pure false:=by rfl)
  (u:attributeBase (.Name x p) name X.env (eval (.Name x p) X.env)=eval (.Name x p) X.env:=by rfl)
  (S:((backTo al (starEach (e::es) X.env)).all (fun x=>!x.1)&&(backToKw al (keywordEach [] X.env)).all (fun x=>x.1.isSome)
   && decide ((e::es).length+([]:C3 Keyword).length+(if([]:C3 Keyword).isEmpty then 0 else 1)<30))=true:=by rfl)
  (P:(ax.endLine==al.line)=true:=by rfl) (hs:starEach (e::es) X.env=(false,eval e X.env)::starEach es X.env:=by rfl) (E:(backTo al (starEach es X.env)).any (·.1)=false:=by rfl) :
  Ir fr X (.Expr (.Call (.Attribute (.Name x p) name ax) (e::es) [] al) pos) (D8 i F fs):=(R4 (SY ED slot g hm (Rx hN hv hd M) ha u S P hs E) ac).weak fun D σ H L=>by
 obtain⟨env,B,A,k,l,q⟩:=L;unfold D8 at q;split at q
 ·rename_i ds e
  split at q
  ·rename_i ds' e2
   obtain⟨as,e3,e4⟩:=bind_some e2;obtain⟨a,vs,h1,h2,h3,_⟩:=k.own l e;refine⟨.ref a,h1,.inl ⟨rfl,vs,Hk.of h2⟩,env,B,A,as,k,e3,fun us H2 s2 rs=>?_⟩;have k2:=k.mono s2;obtain⟨J,c,g1,g2,g3,_,_,_,_,g4,_⟩:=k2.own l e;rw[h1] at g1;cases g1;refine⟨A,a,c,ds,as,ds',k2.mu,rfl,g2,g3,rs,e4,fun w f hz r2=>?_⟩;obtain⟨z1,z2⟩:=g4 ds' f hz r2;exact q A _ σ ((JN.same s2).trans z1) z2
  ·exact q.elim
 ·exact q.elim
def Uy:C3 Dat->C3 Dat->C2 (C3 Dat)
 | ds,[d]=>if ds.length<sizeLine then some (ds++[d]) else none
 | _,_=>none
theorem D9:SW X "list.append" Uy:=MV.weak (id:="list.append") Aa fun v us H Q L=>by
 obtain⟨A,a,vs,ds,as,ds',mu,e1,h1,r1,r2,e2,q⟩:=L;unfold Uy at e2;split at e2
 ·rename_i d
  split at e2
  ·rename_i hl
   cases e2;obtain⟨w,m,e3,r3,e4⟩:=r2;refine⟨a,vs,w,e1,by rw[e3,show m=[] from e4],h1,by rw[Y0 r1];exact hl,q _ _ (by simp;lia) (Wq r1 (Sj r3))⟩
  ·cases e2
 ·cases e2
end
variable{g:Ev->Fl}
inductive Rs where
 | ok (d:Dat) | exc (c:Str) (fs:List (Str×XD)) | no
def Tt(n:Nat)(ds:C3 Dat):Ev:=ds.map .fz++List.replicate (n - ds.length) .un
def Yg(n p:Nat)(g:Ev->Fl):C3 Dat->Rs:=fun ds=>if ds.length=p then(match g (Tt n ds) with
 | .ret d=>.ok d
 | .next _=>.ok .non
 | .exc _ c fs=>.exc c fs
 | _=>.no) else .no
def VZ(K:JT)(fr:Bool)(p:Nat)(F:C3 Dat->Rs):Sp:=fun vs H Q _=>vs.length=p/\∃ ds R d,Q8 R H/\Wr K (av H R) ds vs/\F ds=.ok d/\∀ v H',Zu H H'->Rp K (av H' R) d v->(fr=true->UL K ⟨H,R,true⟩ H' d v)->Q v H'
structure G' (P:Program) (w:World) (K:JT) (mg:KB) (base:Heap) (k:Nat) (x:Str) (ps:List Str) (fr:Bool) (F:List Dat->Rs):Prop where
 cal:UY P w K mg base k x ps (VZ K fr ps.length F)
 len:∀ ds d,F ds=.ok d->ds.length=ps.length
theorem RA.some{o:C2 HO}(h:RA o):∃ u,o=Option.some u:=by
 cases o with
 | none=>exact h.elim
 | some u=>exact⟨u,rfl⟩
theorem Kl(mu:Q8 R H)(r:Wr K (av H R) ds vs)(hl:ds.length<=N.length):F' K ⟨H,R,true⟩ R H (JU N vs) (Tt N.length ds):=by
 have hn:=Y0 r;refine⟨Zu.refl H,fun a h=>(mu a h).some,fun _ h=>h,fun _ h=>.inl h,mu,by simp[JU,Tt];lia,fun _ i d=>?_,fun _ _=>False,fun _ _ _ h=>h.elim,fun _ _ h=>h.elim,fun i s e=>?_⟩
 ·unfold Tt
  rw[List.getElem?_append];split
  ·rw[AM]
   cases ds[i]?<;>simp
  ·rw[FC]
   split<;>simp
 ·unfold Tt at e
  unfold JU;rw[List.getElem?_append] at e ⊢;simp only[AC] at e ⊢;rw[hn];split at e
  ·rename_i hi
   rw[AG hi];rw[AM] at e ⊢;cases hd:ds[i]? with
   | none=>rw[hd] at e;cases e
   | some d =>
    rw[hd] at e;cases e;obtain⟨v,h1,h2⟩:=E2 r hd;rw[h1];exact⟨some v,rfl,v,rfl,h2⟩
  ·rename_i hi
   rw[AQ hi];rw[FC] at e ⊢;split at e
   ·rename_i h2
    cases e;rw[AG h2];exact⟨none,rfl,trivial⟩
   ·cases e
theorem X5{p:Nat}{d:Dat}{Q:VK}(hp:p<=N.length)(mu:Q8 R H)(r:Wr X.K (av H R) ds vs)(hF:Yg N.length p g ds=.ok d)
  (q:∀ v H',Zu H H'->Rp X.K (av H' R) d v->(fr=true->UL X.K ⟨H,R,true⟩ H' d v)->Q v H') :
  tS fr X g (KG.mk (fun _ H'=>Q .non H') Q (fun _ _=>False) (fun _ _=>False)) (JU N vs) H:=by
 unfold Yg at hF;split at hF
 ·rename_i hl
  refine⟨Tt N.length ds,⟨H,R,true⟩,R,Kl mu r (by lia),rfl,?_⟩;split at hF
  ·rename_i d' e
   cases hF;rw[e];exact fun v H' s r n=>q v H' s r n
  ·rename_i env e
   cases hF;rw[e];exact fun A' H' σ' s k=>q .non H' k.h0 Lx (fun _ ds e=>by cases e)
  ·cases hF
  ·cases hF
 ·cases hF
section
variable{P:Ff}{w:Fn}{K:JT}{mg:KB}{base:Gf}
theorem ci{n p:Nat}{d:Dat}(h:Yg n p g ds=.ok d):ds.length=p:=by
 unfold Yg at h;split at h
 ·assumption
 ·cases h
theorem lq{P:C3 α->Prop}(us:C3 α)(hl:us.length=0)(h:P []):P us:=by cases us with | nil=>exact h | cons _ _=>cases hl
@[elab_as_elim] theorem MO{P:C3 α->Prop}(us:C3 α)(hl:us.length=1)(h:∀ a,P [a]):P us:=by
 cases us with
 | nil=>cases hl
 | cons a us=>exact lq (P:=fun us=>P (a::us)) us (GO hl) (h a)
@[elab_as_elim] theorem KM{P:C3 α->Prop}(us:C3 α)(hl:us.length=2)(h:∀ a b,P [a,b]):P us:=by
 cases us with
 | nil=>cases hl
 | cons a us=>exact MO (P:=fun us=>P (a::us)) us (GO hl) (h a)
@[elab_as_elim] theorem ME{P:C3 α->Prop}(us:C3 α)(hl:us.length=3)(h:∀ a b c,P [a,b,c]):P us:=by
 cases us with
 | nil=>cases hl
 | cons a us=>exact KM (P:=fun us=>P (a::us)) us (GO hl) (h a)
@[elab_as_elim] theorem MX{P:C3 α->Prop}(us:C3 α)(hl:us.length=4)(h:∀ a b c d,P [a,b,c,d]):P us:=by
 cases us with
 | nil=>cases hl
 | cons a us=>exact ME (P:=fun us=>P (a::us)) us (GO hl) (h a)
@[elab_as_elim] theorem UK{P:C3 α->Prop}(us:C3 α)(hl:us.length=5)(h:∀ a b c d e,P [a,b,c,d,e]):P us:=by
 cases us with
 | nil=>cases hl
 | cons a us=>exact MX (P:=fun us=>P (a::us)) us (GO hl) (h a)
@[elab_as_elim] theorem oF{P:C3 α->Prop}(us:C3 α)(hl:us.length=6)(h:∀ a b c d e f,P [a,b,c,d,e,f]):P us:=by
 cases us with
 | nil=>cases hl
 | cons a us=>exact UK (P:=fun us=>P (a::us)) us (GO hl) (h a)
theorem W4{x:Str}{st:C5}(D:JZ K mg x st)(S:FnScope N ps (Z6 st))
  (b:∀ (kV au pm:A2) (an:C2 A4) (ah ct:A2) (us:C3 A2),us.length=ps.length->bindArgs (PySem.W.fnOf x x (U9 st) (Yk st) (Z6 st) .none kV au pm an ah ct) ⟨us,[]⟩=pure (ps.zip us))
  (U:∀ (f:A4) (ah:A2) (A:C1) (outer:C3 IA) (s:C0) (H:Hp) (E:XK),JQ k (A.deeper (envOfC x (Z6 st) s.heap.objs.size f ah))->Oe fr (Qq Ht P w K mg base N x (Z6 st) f ah A outer s H E).nox (Yk st) g) :
  G' P w K mg base (k+1) x ps fr (Yg N.length ps.length g):=by
 have af:ps.length<=N.length:=by have:=CV List.length S.pre;rw[CJ] at this;lia
 refine⟨hV D S b (fun vs H Q E h=>h.1) fun f ah A outer s H vs Q E Z ⟨hl,ds,R,d,mu,r,hF,q⟩=>⟨_,U f ah A outer s H E Z,?_⟩,fun ds d h=>ci h⟩;exact X5 af mu r hF q
def QQ(K:JT):Sp:=fun vs H Q _=>∃ (a:A4) (ns:C3 Int),vs=[.ref a]/\SL K H a (ns.map V.int)/\ns.length<=63/\∀ H',Q (.bl true) H'
theorem eQ{x:Str}{st:C5}{f:A4}(F:KY K x x st f fd)(S:FnScope N ps (Z6 st))(b:ps.length=1)
  (U:∀ (ah:A2) (A:C1) (outer:C3 IA) (s:C0) (H:Hp) (E:XK),JQ k (A.deeper (envOfC x (Z6 st) s.heap.objs.size f ah))->Oe false (Qq Ht P w K mg base N x (Z6 st) f ah A outer s H E).nox (Yk st) g)
  (c:∀ ns:C3 Int,ns.length<=63->Yg N.length 1 g [.lst (ns.map .int)]=.ok (.bl true)):KC P w K mg base Ht (k+1) f fd ps (QQ K):=by
 have af:ps.length<=N.length:=by have:=CV List.length S.pre;rw[CJ] at this;lia
 refine ju F S (fun vs H Q E ⟨a,ns,e,_⟩=>by rw[e,b];rfl) fun ah A outer s H vs Q E Z ⟨a,ns,e,hS,hl,q⟩=>⟨_,U ah A outer s H E Z,?_⟩
 subst e;refine X5 (R:=no) (d:=.bl true) (by lia) (fun a h=>by cases h) (ds:=[.lst (ns.map .int)]) ?_ (c ns hl) fun v H' _ r _=>by rw[Xw r];exact q H'
 rw[TF];refine Sj (Ln ?_ hS (Kz ns));rw[AC];exact DW (T9 (by lia))
variable{X:Cx}{m:Bool}{fr:Bool}{F:C3 Dat->Rs}{k:Nat}{x:Str}{ps:C3 Str}{e:C4}{es:C3 C4}{fs:Zzv}{p pos:Pos}
def UU:Rs->C2 Dat
 | .ok d=>some d
 | _=>none
theorem X0{r:Rs}{d:Dat}(h:UU r=some d):r=.ok d:=by cases r<;>cases h;rfl
def Zr(F:C3 Dat->Rs)(fs:Zzv):Ev->C2 Dat:=fun env=>(fs env).bind fun ds=>UU (F ds)
theorem XB(C:G' X.prog X.w X.K X.mg X.base k x ps fr F)(Z:JQ k X.A)(ha:Om false X (e::es) fs)(hg:Gl X x:=by rfl)
  (P:(x==("__debug__" : Str))=false:=by decide) (he:starEach (e::es) X.env=(false,eval e X.env)::starEach es X.env:=by rfl) (af:(backTo pos (starEach es X.env)).any (·.1)=false:=by rfl) :
  Wm m X (.Call (.Name x p) (e::es) [] pos) (Zr F fs):=Wm.any ((bN C.cal Z ha hg P he af).weak fun σ H Q L=>by
 obtain⟨env,R,A,d,k,q1,q2⟩:=L;obtain⟨ds,e1,e2⟩:=bind_some q1;have e3:=X0 e2;refine⟨env,R,A,ds,k,e1,fun vs H1 s1 rs=>⟨by rw[Y0 rs.rps];exact C.len ds d e3,ds,A,d,k.mu.mono s1,rs.rps,e3,fun v H' s r _=>q2 v H' (s1.trans s) r⟩⟩)
mutual
def RU:Dat->Bool
 | .lst _=>false
 | .dct _=>false
 | .exc _ _=>false
 | .tup xs=>Co xs
 | .non=>true
 | .bl _=>true
 | .int _=>true
 | .str _=>true
def Co:C3 Dat->Bool
 | []=>true
 | x::xs=>RU x&&Co xs
end
theorem nW{a:A4}(mu:Q8 A H)(h:Hw K H a vs):Hw K (av H A) a vs:=by
 rcases h with h | h
 ·left
  have hA:A a=false:=by
   cases q:A a with
   | false=>rfl
   | true =>
    have:=mu a q;rw[h] at this;exact this.elim
  exact V8 h hA
 ·exact .inr h
mutual
theorem Rp.pure(mu:Q8 A H):∀ {d:Dat} {v:V},RU d=true->Rp K H d v->Rp K (av H A) d v
 | .non,v,_,r=>by rw[An r];exact Lx
 | .bl b,v,_,r=>by rw[Xw r];exact Uq
 | .int b,v,_,r=>by rw[So r];exact Wf
 | .str b,v,_,r=>by obtain⟨e,h⟩:=Bo r;rw[e];exact Dt h
 | .lst _,v,h,_=>by cases h
 | .dct _,v,h,_=>by cases h
 | .exc _ _,v,h,_=>by cases h
 | .tup xs,v,h,r=>by
  obtain⟨a,vs,e,h1,h2⟩:=Ge r;subst e;exact Cp (XN r) (nW mu h1) (Wr.pure mu (by simpa[RU] using h) h2)
theorem Wr.pure(mu:Q8 A H):∀ {ds:C3 Dat} {vs:C3 V},Co ds=true->Wr K H ds vs->Wr K (av H A) ds vs
 | [],vs,_,r=>by rw[Yz r];exact Uk
 | d::ds,vs,h,r=>by
  obtain⟨v,us,e,r1,r2⟩:=Zw r;subst e;rw[Co,AV] at h;exact Vx (Rp.pure mu h.1 r1) (Wr.pure mu h.2 r2)
end
end
section
variable{X:Cx}{m:Bool}
structure ND (K:JT) (mg:KB) (x:Str) (d:Dat):Prop where
 ex:∃ v u,mg x=some u/\W2 v u/\∀ H,Rp K H d v
theorem ND.x{x:Str}{d:Dat}{p:Pos}(G:ND X.K X.mg x d)(hg:Gl X x)(hd:(x==("__debug__" : Str))=false:=by decide):Wm m X (.Name x p) (dC d):=by
 obtain⟨v,u,h1,h2,h3⟩:=G.ex;exact fL hg h1 h2 h3 hd
end
def QH(sq:Hp->C3 V->Prop):It :=
 ⟨fun i H=>∃ xs x,sq H xs/\xs[i]?=some x,
  fun i H v H'=>∃ p x,v=.ref p/\H p=none/\(∀ xs,sq H xs->xs[i]?=some x)/\H'=W7 H p (.tup [.int i,x]),
  fun i H=>∃ xs,sq H xs/\xs.length=i⟩
theorem C'.turnedT{xs:C3 V}(I:C' X aa σ H s)(hf:∀ b∈ch,Hu X aa H b)
  (kk:∀ b o,b∉ch->s.heap.get? b=some o->h'.get? b=some o) (hT:s.heap.objs.size<=T) (L:Y5 xs its) (hz:xs.length<=sizeLine) (ht:IsTup h' T its.toArray) :
  C' X aa σ (W7 H T (.tup xs)) { s with heap:=h',toks:=tk }:=by
 have hn:H T=none:=I.hok.fresh hT;have a:∀ b u,H b=some u->b∉ch:=fun b u e z=>by rw[(hf b z).1] at e;cases e
 refine I.call' (ch:=ch) rfl ⟨fun b o q n _ hx=>kk b o hx q,fun b o q n _ hx=>⟨o.slots,kk b o hx q⟩,fun b o q n hx=>?_,fun b o q hx=>⟨o,kk b o hx q⟩,fun b ys q=>?_,fun b o u q=>?_,fun b ps q=>⟨#[],?_⟩⟩ (fun b u e=>?_) I.bare fun b U=>⟨(hf b U).2.2.2.1,(hf b U).2.1,(hf b U).2.2.2.2.1,(hf b U).2.2.2.2.2⟩
 ·rw[Zd (BU (AU (AR q) hT))];exact n
 ·rw[Zd (Yh q hn)];exact q
 ·rw[Zd (Yh q hn)];exact q
 ·rw[Zd (Yh q hn),q];simp
 ·by_cases U:b=T
  ·subst U
   rw[Zk] at e;cases e;exact⟨hz,its,L,ht⟩
  ·rw[Zd U] at e
   refine(I.hok b u e).stay (fun c v O q=>?_) (fun c q=>?_) fun c ys q=>?_
   ·rcases O with O | O
    ·subst O;exact kk c v (a c u e) q
    ·exact kk c v (a c _ O) q
   ·rw[Zd (Yh q hn)];exact q
   ·rw[Zd (Yh q hn)];exact q
theorem C'.turnedN(I:C' X aa σ H s)(hf:∀ b∈ch,Hu X aa H b)
  (kk:∀ b o,b∉ch->s.heap.get? b=some o->h'.get? b=some o):C' X aa σ H { s with heap:=h',toks:=tk }:=by
 have a:∀ b u,H b=some u->b∉ch:=fun b u e z=>by rw[(hf b z).1] at e;cases e
 refine I.call' (ch:=ch) rfl ⟨fun b o q n _ hx=>kk b o hx q,fun b o q n _ hx=>⟨o.slots,kk b o hx q⟩,fun b o q n hx=>n,fun b o q hx=>⟨o,kk b o hx q⟩,fun b ys q=>q,fun b o u q=>q,fun b ps q=>⟨#[],by rw[q];simp⟩⟩ (fun b u e=>?_) I.bare fun b U=>⟨(hf b U).2.2.2.1,(hf b U).2.1,(hf b U).2.2.2.2.1,(hf b U).2.2.2.2.2⟩
 refine(I.hok b u e).stay (fun c v O q=>?_) (fun c q=>q) fun c ys q=>q
 rcases O with O | O
 ·subst O;exact kk c v (a c u e) q
 ·exact kk c v (a c _ O) q
theorem Fh{P:Ff}(a e it:A4)(n:Nat->Gf->Prop)(ag:Gf->Array A2->Prop)(sq:Hp->C3 V->Prop)
  (hS:∀ h h' i,n i h->(∀ o,h.get? it=some o->h'.get? it=some o)->n i h')
  (S:∀ h i,n i h->∃ o,h.get? it=some o/\o.cls≠.type "enumerate" /\ ∀ v,o.data≠.cell v)
  (hA:∀ h af,ag h af->∃ o,h.get? a=some o/\o.cls≠.type "enumerate" /\ ∀ h' i,n i h'->∀ o',h'.get? it=some o'->o'.cls≠o.cls)
  (R:∀ A:C1,A.handled=none->a≠it->∀ af:Array A2,Draws P w A it [it,a] af.size (fun i v=>af[i]?=some v) (fun i h=>n i h/\ag h af))
  (hg:∀ (X:Cx) (aa:J1) (σ:St) (H:Hp) (s:C0) (xs:C3 V),X.K=K->C' X aa σ H s->sq H xs->∃ its,Y5 xs its/\ag s.heap its.toArray)
  (hj:∀ (X:Cx) (aa:J1) (σ:St) (H:Hp) (s:C0) (xs ys:C3 V),X.K=K->C' X aa σ H s->sq H xs->sq H ys->xs=ys) :
  KR P w K (.Tuple es k pos) (QH sq) [e,it] e (fun i h=>(∃ F,IsEnum h e it i F)/\n i h) where
 mem:=by simp
 obj:=fun i h st b U=>by
  rcases BI.mp U with rfl | U
  ·obtain⟨⟨F,z⟩,_⟩:=st;exact⟨_,z,fun v q=>by cases q⟩
  ·rw[AL.mp U];obtain⟨o,h1,_,h2⟩:=S h i st.2;exact⟨o,h1,h2⟩
 keep:=fun i h h' st kk=>by
  obtain⟨⟨F,z⟩,q⟩:=st;exact⟨⟨F,kk e (by simp) _ z⟩,hS h h' i q fun o r=>kk it (by simp) o r⟩
 item:=by
  intro X m hw f O i aa s σ H E I hf st Z;subst m hw;obtain⟨xs,x,M,hx⟩:=Z;obtain⟨its,L,y⟩:=hg X aa σ H s xs f I M;obtain⟨u,hu,N⟩:=L.get hx;obtain⟨⟨F,p⟩,j⟩:=st;obtain⟨oi,c,ai,_⟩:=S _ _ j;obtain⟨C,d,aj,D⟩:=hA _ _ y;have ac:a≠it:=by intro z;rw[z,c] at d;cases d;exact D _ _ j _ c rfl
  have G:e≠it:=by intro z;rw[← z,p] at c;cases c;exact ai rfl
  have ak:e≠a:=by intro z;rw[← z,p] at d;cases d;exact aj rfl
  have W:=WalksT.enumerateD (R X.A.in1 (I.ok.hd O) ac its.toArray) e G (by simp[G,ak]) (by simp);have hi:i<its.toArray.size:=by rw[AT];exact(AB.mp hu).1
  refine W.item i s _ _ hi ⟨⟨F,p⟩,j,y⟩ fun T B h' tk ap hT am hM Y=>⟨.ref T,rfl,W.go es k pos i T _ _ _ hM fun h2 l ao=>?_⟩
  obtain⟨t,g,ae,rfl⟩:=ap;have aq:g=u:=by
   have:its[i]?=some g:=by simpa using ae
   rw[hu] at this;exact(BD this).symm
  subst aq;have al:IsTup h2 T #[.int i t,g]:=by
   obtain⟨o,J,r⟩:=am;exact⟨o,ao T o (W.apart i T h' hM) J,r⟩
  have I2:=C'.turnedT (s:=s) (h':=h2) (tk:=tk) (ch:=[e,it]) (its:=[.int i t,g]) (xs:=[.int i,x]) I hf (fun b o U q=>ao b o U (Y b o U q)) hT (.cons ⟨t,rfl⟩ (.cons N .nil)) (by show 2<=sizeLine;decide) al;refine⟨.ref T,W7 H T (.tup [.int i,x]),I2,rfl,⟨T,x,rfl,I.hok.fresh hT,fun ys hy=>?_,rfl⟩,⟨l.1,l.2.1⟩,fun b U=>?_⟩
  ·rw[hj X aa σ H s ys xs f I hy M];exact hx
  ·rw[Zd ?_];exact(hf b U).1
   intro z;have ah:b<s.heap.objs.size:=by
    rcases BI.mp U with rfl | U
    ·exact AR p
    ·rw[AL.mp U];exact AR c
   exact absurd (AU ah (by rw[z];exact hT)) (DA _)
 done:=by
  intro X m hw f O i aa s σ H E I hf st hs;subst m hw;obtain⟨xs,M,hl⟩:=hs;obtain⟨its,L,y⟩:=hg X aa σ H s xs f I M;obtain⟨⟨F,p⟩,j⟩:=st;obtain⟨oi,c,ai,_⟩:=S _ _ j;obtain⟨C,d,aj,D⟩:=hA _ _ y;have ac:a≠it:=by intro z;rw[z,c] at d;cases d;exact D _ _ j _ c rfl
  have G:e≠it:=by intro z;rw[← z,p] at c;cases c;exact ai rfl
  have ak:e≠a:=by intro z;rw[← z,p] at d;cases d;exact aj rfl
  have W:=WalksT.enumerateD (R X.A.in1 (I.ok.hd O) ac its.toArray) e G (by simp[G,ak]) (by simp);have hn:its.toArray.size=i:=by rw[AT,← L.length];exact hl
  refine W.done s _ _ (by rw[hn];exact⟨⟨F,p⟩,j,y⟩) fun h' tk Y=>⟨rfl,I.turnedN (ch:=[e,it]) hf fun b o U q=>Y b o U q⟩
 self:=fun A i s Q E st h=>by
  obtain⟨⟨F,z⟩,_⟩:=st;exact IK z h
section
variable{st:Bool}{l:C4}
theorem nt(a e it:A4):KR X.prog X.w X.K (.Tuple es tk aC) (QH fun H xs=>Hw X.K H a xs) [e,it] e (fun i h=>(∃ F,IsEnum h e it i F)/\h.IsTupleIter it a i) :=
 Fh a e it (fun i h=>h.IsTupleIter it a i) (fun h af=>h.IsTuple a af) _ (fun h h' i q kk=>let ⟨o,h1,r⟩:=q;⟨o,kk o h1,r⟩)
  (fun h i q=>let ⟨o,h1,h2,h3⟩:=q;⟨o,h1,by rw[h2];decide,fun v z=>by rw[h3] at z;cases z⟩)
  (fun h af q=>let ⟨o,h1,h2,_⟩:=q;⟨o,h1,by rw[h2];decide,fun h' i r o' e'=>by obtain⟨o2,g1,g2,_⟩:=r;rw[g1] at e';cases e';rw[g2,h2];decide⟩)
  (fun A hh ac af=>Draws.tupleD hh it a ac af)
  (fun Y aa σ H s xs f I h=>by rw[← f] at h;obtain⟨its,r,p,_⟩:=I.tuple h;exact⟨its,r,p⟩)
  (fun Y aa σ H s xs ys f I h h'=>by rw[← f] at h h';exact I.tuple_inj h h')
theorem kC(a e it:A4):KR X.prog X.w X.K (.Tuple es tk aC) (QH fun H xs=>Hk X.K H a xs) [e,it] e (fun i h=>(∃ F,IsEnum h e it i F)/\h.IsListIter it a i) :=
 Fh a e it (fun i h=>h.IsListIter it a i) (fun h af=>h.IsList a af) _ (fun h h' i q kk=>let ⟨o,h1,r⟩:=q;⟨o,kk o h1,r⟩)
  (fun h i q=>let ⟨o,h1,h2,h3⟩:=q;⟨o,h1,by rw[h2];decide,fun v z=>by rw[h3] at z;cases z⟩)
  (fun h af q=>let ⟨o,h1,h2,_⟩:=q;⟨o,h1,by rw[h2];decide,fun h' i r o' e'=>by obtain⟨o2,g1,g2,_⟩:=r;rw[g1] at e';cases e';rw[g2,h2];decide⟩)
  (fun A hh ac af=>Draws.list hh it a ac af)
  (fun Y aa σ H s xs f I h=>by rw[← f] at h;obtain⟨its,r,p,_⟩:=I.list h;exact⟨its,r,p.isList⟩)
  (fun Y aa σ H s xs ys f I h h'=>by rw[← f] at h h';exact I.list_inj h h')
def Rn:Nat->C3 Dat->C3 Dat
 | _,[]=>[]
 | k,x::xs=>.tup [.int k,x]::Rn (k+1) xs
theorem L0:∀ (xs:C3 Dat) (k i:Nat),(Rn k xs)[i]?=(xs[i]?).map fun x=>.tup [.int ((k+i:Nat):Int),x]
 | [],k,i=>by simp[Rn]
 | x::xs,k,0=>by simp[Rn]
 | x::xs,k,i+1=>by
  rw[Rn,GT,GT,L0 xs (k+1) i,show k+1+i=k+(i+1) by lia]
theorem Mf:∀ (xs:C3 Dat) (k:Nat),(Rn k xs).length=xs.length
 | [],_=>rfl
 | x::xs,k=>by rw[Rn,BC,BC,Mf xs]
def Pz(f:Zzu):Ev->C2 (C3 Dat):=fun env=>(Tp f env).map (Rn 0)
theorem Ox{sq:Hp->C3 V->Prop}(h:∀ A1 H1,QB st A H A1 H1->sq H1 vs)(r:Wr K (av H A) ds vs):OR st K A H (Rn 0 ds) (QH sq):=fun A1 H1 b mu=>by
 have h1:=h A1 H1 b;have r1:=r.mono b.step.av;refine⟨fun i x e=>?_,⟨vs,h1,by rw[Mf];exact Y0 r⟩⟩;rw[L0] at e;obtain⟨d,e1,e2⟩:=map_some e;subst e2;obtain⟨v,e3,e4⟩:=E2 r1 e1;refine⟨⟨vs,v,h1,e3⟩,fun t H2 ⟨p,x,z1,z2,z3,z4⟩=>?_⟩;subst z1 z4;have:=z3 vs h1;rw[e3] at this;cases this;refine⟨Zu.new z2,Cp (by show 2<=sizeLine;decide) (.inl (V8 Zk (mu.new z2))) (Vx ?_ (Sj (e4.mono (Vj (Zu.new z2)))))⟩;rw[HY];exact Wf
def fE(K:JT)(ta:TA):TI:=fun σ H R=>ta σ H fun vs H1=>∃ a,vs=[.ref a]/\(∃ xs,Hk K H1 a xs)/\R (QH fun H xs=>Hk K H a xs) H1
def e0(K:JT)(ta:TA):TI:=fun σ H R=>ta σ H fun vs H1=>∃ a,vs=[.ref a]/\(∃ xs,Hw K H1 a xs)/\R (QH fun H xs=>Hw K H a xs) H1
theorem ZQ(I:C' X aa σ H s):∀ b∈[s.heap.objs.size+1,s.heap.objs.size],Hu X aa H b:=fun b U=>by
 rcases BI.mp U with rfl | U
 ·exact I.fpOk (DZ _) (I.hok.fresh (DZ _))
 ·rw[AL.mp U];exact I.fpOk (AY _) (I.hok.fresh (AY _))
theorem YQ(hg:Gl X "enumerate")(hm:X.mg "enumerate" = none)(hv:bootBuiltins "enumerate" = some (.type "enumerate"))(ha:PA X [l] ta)(hs:starEach [l] X.env=[(false,eval l X.env)]:=by rfl):PI X (.Tuple es tk aC) (.Call (.Name "enumerate" p) [l] [] pos) (fE X.K ta):=by
 intro aa s σ H R I h;refine Call_ (Dw I hg hm hv (DL (Vk (ha pos aa s σ H _ I h) fun us s1 ⟨vs,H1,I1,r1,q1⟩=>?_) hs rfl));obtain⟨a,e,⟨xs,hq⟩,q⟩:=q1;subst e;obtain⟨u,rfl,N⟩:=Ef r1;cases N;obtain⟨its,L,pl,hz⟩:=I1.list hq;refine call_enumerate_list pl.isList fun h' h1 h2 h3 h4=>?_
 have I2:C' X aa σ H1 { s1 with heap:=h' }:=I1.kept (t':=s1.toks) h4;refine IK (s:={ s1 with heap:=h' }) h1 ?_;exact⟨s1.heap.objs.size+1,[s1.heap.objs.size+1,s1.heap.objs.size],_,_,H1,rfl,I2,kC a _ _,⟨⟨_,h1⟩,h2⟩,ZQ I1,q⟩
theorem bV(hg:Gl X "enumerate")(hm:X.mg "enumerate" = none)(hv:bootBuiltins "enumerate" = some (.type "enumerate"))(ha:PA X [l] ta)(hs:starEach [l] X.env=[(false,eval l X.env)]:=by rfl):PI X (.Tuple es tk aC) (.Call (.Name "enumerate" p) [l] [] pos) (e0 X.K ta):=by
 intro aa s σ H R I h;refine Call_ (Dw I hg hm hv (DL (Vk (ha pos aa s σ H _ I h) fun us s1 ⟨vs,H1,I1,r1,q1⟩=>?_) hs rfl));obtain⟨a,e,⟨xs,hq⟩,q⟩:=q1;subst e;obtain⟨u,rfl,N⟩:=Ef r1;cases N;obtain⟨its,L,pl,hz⟩:=I1.tuple hq;refine En (show s1.heap.IsTuple a its.toArray from pl) fun h' h1 h2 h3 h4=>?_
 have I2:C' X aa σ H1 { s1 with heap:=h' }:=I1.kept (t':=s1.toks) h4;refine IK (s:={ s1 with heap:=h' }) h1 ?_;exact⟨s1.heap.objs.size+1,[s1.heap.objs.size+1,s1.heap.objs.size],_,_,H1,rfl,I2,nt a _ _,⟨⟨_,h1⟩,h2⟩,ZQ I1,q⟩
theorem cz(hg:Gl X "enumerate")(hm:X.mg "enumerate" = none)(h:Wm false X l f)(hv:bootBuiltins "enumerate" = some (.type "enumerate"):=by decide +kernel)(hs:starEach [l] X.env=[(false,eval l X.env)]:=by rfl):MS st X (.Tuple es tk aC) (.Call (.Name "enumerate" p) [l] [] pos) (Pz f) :=
 ((YQ hg hm hv (Yu h U3 hs) hs).or (bV hg hm hv (Yu h U3 hs) hs)).weak fun σ H g L=>by
 obtain⟨env,R,A,ds,k,e,q⟩:=L;obtain⟨xs,C,e1⟩:=map_some e;subst e1;unfold Tp at C;split at C
 ·rename_i ys e1
  cases C;refine .inl ⟨env,R,A,.lst xs,k,e1,fun v H1 s1 M=>?_⟩;obtain⟨a,vs,e2,h1,r1⟩:=Rl (show Rp X.K (av H1 A) (.lst xs) v from M);subst e2;exact⟨a,rfl,⟨vs,(W5.sl h1).sq⟩,q _ H1 (by rw[Mf];exact M.pk.lenL) s1 (Ox (vs:=vs) (fun A1 H2 b=>(W5.sl (b.step.av.sl h1)).sq) r1)⟩
 ·rename_i ys e1
  cases C;refine .inr ⟨env,R,A,.tup xs,k,e1,fun v H1 s1 M=>?_⟩;obtain⟨a,vs,e2,h1,r1⟩:=Ge (show Rp X.K (av H1 A) (.tup xs) v from M);subst e2;exact⟨a,rfl,⟨vs,W5.seqT h1⟩,q _ H1 (by rw[Mf];exact M.pk.lenT) s1 (Ox (vs:=vs) (fun A1 H2 b=>W5.seqT (b.step.av.seqT h1)) r1)⟩
 ·cases C
theorem Bu(hg:Gl X "enumerate")(hm:X.mg "enumerate" = none)(h:Wm true X l f)(hv:bootBuiltins "enumerate" = some (.type "enumerate"):=by decide +kernel)(hs:starEach [l] X.env=[(false,eval l X.env)]:=by rfl):MS false X (.Tuple es tk aC) (.Call (.Name "enumerate" p) [l] [] pos) (Pz f) :=
 ((YQ hg hm hv (Yu h U3 hs) hs).or (bV hg hm hv (Yu h U3 hs) hs)).weak fun σ H g L=>by
 obtain⟨env,R,A,ds,k,e,q⟩:=L;obtain⟨xs,C,e1⟩:=map_some e;subst e1;unfold Tp at C;split at C
 ·rename_i ys e1
  cases C;refine .inl ⟨env,R,A,.lst xs,k,e1,fun v H1 s1 M=>?_⟩;obtain⟨a,vs,e2,h1,r1⟩:=M.pk.lst;subst e2;exact⟨a,rfl,⟨vs,h1.sq⟩,q _ H1 (by rw[Mf];exact M.pk.lenL) s1 (Ox (vs:=vs) (fun A1 H2 b=>(b.2.sl h1).sq) r1)⟩
 ·rename_i ys e1
  cases C;refine .inr ⟨env,R,A,.tup xs,k,e1,fun v H1 s1 M=>?_⟩;obtain⟨a,vs,e2,h1,r1⟩:=M.pk.tup;subst e2;exact⟨a,rfl,⟨vs,h1⟩,q _ H1 (by rw[Mf];exact M.pk.lenT) s1 (Ox (vs:=vs) (fun A1 H2 b=>b.2.seqT h1) r1)⟩
 ·cases C
end
end L2
variable{g:L2.Ev->L2.Fl}{aI:C3 PySem.Value}{B:L2.Bs}{aP:String}{fI f I aB:PySem.Addr}{vh:Array PySem.Value}{P:PySem.Program}{fs:L2.Zzv}{mA:KB}{dvs:C3 L2.V}{ds:C3 L2.Dat}{ks:C3 L2.Ul}{tk:PySem.Tok}{r:L2.TJ}{tx f1 f2 f3:PySem.Str}{cd:PySem.Value}{wr:C3 PySem.Addr}{G:C3 L2.Dat->C2 (C3 (PySem.Str×L2.XD))}{p2 aL:PySem.Pos}{pl aK:Bool}{F:C3 L2.Dat->L2.Rs}{fl:C3 (PySem.Str×L2.XD)}{ay:J1}{aw:C3 PySem.Stmt}{sb:PySem.Str->C2 Bool}{ao:C3 PySem.Str}{β:Type}{A':PySem.Around}{E':KD}{fa:L2.Zzu}{ix:PySem.Expr}{dss:C3 (C3 L2.Dat)}
namespace L2
open PySem
section
variable{g:Array GenState}{d:Drawn}{t:Nat}{os:OsState}
variable{N:A4}{sub:C3 A2}{B Bn aH aS:String}{aU:C3 A2}
theorem Od(i:ExcBaseFacts Bn newId aS aU)(a:aI.contains (.type Bn)=true)(F:ExcBaseFacts B aP aH aI)(T:OwnTail h aI bm){aj:C3 A2}{m:Obj}{Q:Fin->C0->Prop}
   (hC:h.get? C=some (excClassObj nm q C N bs bm hdct sn sub ab col dd k0 k1 k2 k3 k5 newId)) (hn:h.Ns N mN) (hi:mN "__init__" = some (.ref fI))
   (f:h.get? fI=some m) (y:m.cls=.type "function")
   (hq:∀ h' e,h.objs.size<=e->Heap.MadeExcOf h h' e (.ref C) aj ->
     wpAny (model prog w) A (call (.ref fI) (.ref e::aj)) (fun r s'=>r=.none/\Q (.done (.ret (.ref e))) s') E ⟨h',g,d,t,os⟩) (hrest:aj.length<=sizeLine:=by size_fits) :
   wpAny (model prog w) A (Builtin.«type.__call__» ⟨.ref C::aj,[]⟩) Q E ⟨h,g,d,t,os⟩:=by
 repeat (first | with_reducible refine BN hC ?_ | with_reducible refine wpAny_madeBy_exc hC ?_ | wp_step)
 refine codeAny_call_builtin_code (GP _ i.quiet) (wpAny_check_new_subU i a T hC ?_);refine codeAny_exc_new_subU i a F T hC ?_ hrest;show wpAny _ _ _ _ _ _;have hC₁:=AF { cls:=.ref C,data:=.fields #[.ref h.objs.size,.none,.none,.none,.bool false,.none] }
   (AF { cls:=.type "tuple",data:=.seq aj.toArray } hC)
 have hfI₁:=AF { cls:=.ref C,data:=.fields #[.ref h.objs.size,.none,.none,.none,.bool false,.none] }
   (AF { cls:=.type "tuple",data:=.seq aj.toArray } f)
 have hn₁:((h.push { cls:=.type "tuple",data:=.seq aj.toArray }).push { cls:=.ref C,data:=.fields #[.ref h.objs.size,.none,.none,.none,.bool false,.none] }).Ns N mN :=
   let ⟨o,es,ep,e,r⟩:=hn;⟨o,es,ep,AF _ (AF _ e),r⟩
 have c:((h.push { cls:=.type "tuple",data:=.seq aj.toArray }).push
     { cls:=.ref C,data:=.fields #[.ref h.objs.size,.none,.none,.none,.bool false,.none] }).get? (h.objs.size+1)=some
     { cls:=.ref C,data:=.fields #[.ref h.objs.size,.none,.none,.none,.bool false,.none] }:=by heap_get
 have k:(Value.ref C::bm).contains (.ref C)=true:=by simp
 have T₁:=T.keeps (h':=(h.push { cls:=.type "tuple",data:=.seq aj.toArray }).push { cls:=.ref C,data:=.fields #[.ref h.objs.size,.none,.none,.none,.bool false,.none] })
   fun b o e=>AF _ (AF _ e)
 unfold isInstance;repeat (first | with_reducible refine BN c ?_ | (with_reducible refine HV hC₁ ?_;rw[k]) | wp_step)
 show wpAny _ _ (typeLookup (.ref C) _) _ _ _;refine wpAny_typeLookup_tail hC₁ hn₁ T₁ F.mroIs F.init.lookup ?_;rw[hi];refine BZ (AA ?_);unfold bindSpecial;refine AA (GL (T:="function") ⟨_,hfI₁,y⟩ ?_);rw[AG (by decide)];refine AK (AA (BM (hq _ (h.objs.size+1) (DZ _) ⟨fun b o U=>AF _ (AF _ U),HL (DZ _),h.objs.size,c,HL (AY _),?_⟩) (fun r s' Z=>?_) fun _ _ x=>x))
 · exact AF _ (Heap.get?_push_at rfl rfl)
 · obtain⟨rfl,j⟩:=Z
   wp_walk
   exact j
theorem Ph(i:ExcBaseFacts Bn newId aS aU)(a:aI.contains (.type Bn)=true)(F:ExcBaseFacts B aP aH aI)(T:OwnTail h aI bm){aj:C3 A2}{m:Obj}{Q:KD}
  (hC:h.get? C=some (excClassObj nm q C N bs bm hdct sn sub ab col dd k0 k1 k2 k3 k5 newId)) (hn:h.Ns N mN) (hi:mN "__init__" = some (.ref fI))
  (f:h.get? fI=some m) (y:m.cls=.type "function")
  (hq:∀ h' e,h.objs.size<=e->Heap.MadeExcOf h h' e (.ref C) aj ->
   wpAny (model prog w) (A.under (.builtin "type.__call__" ⟨.ref C::aj,[]⟩)) (call (.ref fI) (.ref e::aj)) (fun r s'=>r=.none/\Q (.ref e) s') E ⟨h',g,d,t,os⟩) (hrest:aj.length<=sizeLine:=by size_fits) :
  wpAny (model prog w) A (call (.ref C) aj) Q E ⟨h,g,d,t,os⟩:=by
 have f1:=tc_lookup;have f2:=tc_bind (.ref C);have hT:(⟨h,g,d,t,os⟩:C0).TypeIs (.ref C) "type" := ⟨_,hC,rfl⟩;refine FV (codeAny_of_tree ?_);show wpAny _ _ (callAny (.ref C) _) _ _ _;repeat (any_goals (first | assumption | with_reducible refine BN hC ?_ | wp_step))
 refine⟨rfl,?_⟩;refine codeAny_call_builtin_at (GP _ (by decide +kernel)) entry_typeCall (wpAny_check_type_call_sub hC (Od (hrest:=hrest) i a F T hC hn hi f y fun h' e j hm=>?_));exact hq h' e j hm
end
section
variable{M:Model}
variable{N:A4}{sub:C3 A2}
theorem Ng{x:Sem A2}{Q:Flow->C0->Prop}(u:bm.contains (.type "BaseException")=true)(hh:A.handled=none)
   (h:wpAny M A x (fun v s₁=>∃ e a dct,v=.ref e/\s₁.heap.get? C=some (excClassObj nm q C N bs bm hdct sn sub ab col dd k0 k1 k2 k3 k5 newId) /\
     s₁.heap.get? e=some { cls:=.ref C,dict:=dct,data:=.fields #[a,.none,.none,.none,.bool false,.none] }/\E (.ref e) s₁) E s) :
   wpAny M A (raiseStmt env (some x) none) Q E s:=by
 have L:(Value.ref C::bm).contains (.type "BaseException")=true:=by rw[List.contains_cons,u,JP]
 unfold raiseStmt;refine AA (BM h (fun v s₁ h₁=>?_) fun _ _ x=>x);obtain⟨e,a,dct,rfl,hC,he,p⟩:=h₁;obtain⟨hp,g,d,tk,os⟩:=s₁;repeat (first | with_reducible refine BN he ?_ | with_reducible refine BN hC ?_ | (with_reducible refine HV hC ?_;rw[L]) | wp_step)
 exact wpAny_raiseNew_none hh p
end
theorem Fc:entryFor table "proto.unchain" = some Builtin.«proto.unchain» := entryFor_of_fast (by kernel_rfl)
theorem Ch{e h:A4}{o:Obj}{vs:Array A2}{Q:KD}(J:s.heap.get? h=some o)(hd:o.data=.fields vs)(O:vs[2]?=some .none)(hq:Q .none s) :
  wpAny (model prog w) A (runValue (.builtin "proto.unchain" ⟨[.ref e,.ref h,.ref h,.bool false],[]⟩)) Q E s:=by
 refine wpAny_runValue (HQ Fc ?_);unfold Builtin.«proto.unchain»;refine AA (CI J hd O ?_);exact AK hq
theorem Ay{e h:A4}{f:Obj}{ve:Array A2}{Q:α->C0->Prop}(hh:A.handled=some (.ref h))(ne:h≠e)(he:s.heap.get? e=some oe)(n:oe.data=.fields ve)(h2:2<ve.size)
  (J:s.heap.get? h=some f) (i:f.data=.fields vh) (O:vh[2]?=some .none) (p:E (.ref e) { s with heap:=s.heap.update e (Obj.mapFields (·.setIfInBounds 2 (.ref h))) }):wpAny (model prog w) A (raiseNew (.ref e):Sem α) Q E s:=by
 unfold raiseNew;refine AA (wpAny_handled ?_);rw[hh];have ac:(Value.ref h != Value.ref e)=true:=by
  simp only[bne_iff_ne,ne_eq];intro z;cases z;exact ne rfl
 dsimp only;rw[AG ac];refine AA (BZ (Ch J i O ?_));show wpAny _ _ (setField (.ref e) 2 (.ref h) >>= _) _ _ _;refine AA (BM (ET (x:=.ref h) he n h2 (Q:=fun _ s'=>s'={ s with heap:=s.heap.update e (Obj.mapFields (·.setIfInBounds 2 (.ref h))) }) rfl) (fun _ s' z=>?_) fun _ _ x=>x);rw[z];exact wpAny_throw p
theorem fP{N h:A4}{sub:C3 A2}{x o:Sem A2}{Q:Flow->C0->Prop}(u:bm.contains (.type "BaseException")=true)(hh:A.handled=some (.ref h))
   (hx:wpAny (model prog w) A x (fun v s₁=>∃ e a dct,v=.ref e/\s₁.heap.get? C=some (excClassObj nm q C N bs bm hdct sn sub ab col dd k0 k1 k2 k3 k5 newId) /\
     s₁.heap.get? e=some { cls:=.ref C,dict:=dct,data:=.fields #[a,.none,.none,.none,.bool false,.none] }/\h≠e/\(∃ f vh,s₁.heap.get? h=some f/\f.data=.fields vh/\vh[2]?=some .none) /\
     wpAny (model prog w) A o (fun t s₂=>t=.none/\s₂.heap=s₁.heap/\∀ h',(∀ b,b≠e->h'.get? b=s₁.heap.get? b)->h'.get? e=some { cls:=.ref C,dict:=dct,data:=.fields #[a,.none,.ref h,.none,.bool true,.none] }->h'.objs.size=s₁.heap.objs.size->E (.ref e) { s₂ with heap:=h' }) E s₁) E s) :
   wpAny (model prog w) A (raiseStmt env (some x) (some o)) Q E s:=by
 have L:(Value.ref C::bm).contains (.type "BaseException")=true:=by rw[List.contains_cons,u,JP]
 unfold raiseStmt;refine AA (BM hx (fun v s₁ h₁=>?_) fun _ _ x=>x);obtain⟨e,a,dct,rfl,hC,he,ac,⟨f,vh,J,i,O⟩,hz⟩:=h₁;refine AA (BZ (BM hz (fun t s₂ h₂=>?_) fun _ _ x=>x));obtain⟨rfl,l,p⟩:=h₂;obtain⟨hp,g,d,tk,os⟩:=s₂;have j:hp=s₁.heap:=l;subst j;repeat (first | with_reducible refine BN he ?_ | with_reducible refine BN hC ?_ | (with_reducible refine HV hC ?_;rw[L]) | wp_step)
 have k:e≠C:=by
   intro z;subst z;rw[he] at hC;injection hC with hC
   have:=CV Obj.data hC;simp[excClassObj] at this
 have m:((s₁.heap.update e (Obj.mapFields fun x=>x.setIfInBounds 3 Value.none)).update e (Obj.mapFields fun x=>x.setIfInBounds 4 (Value.bool true))).get? C=some (excClassObj nm q C N bs bm hdct sn sub ab col dd k0 k1 k2 k3 k5 newId):=by
   rw[BE _ _ k,BE _ _ k];exact hC
 have c:((s₁.heap.update e (Obj.mapFields fun x=>x.setIfInBounds 3 Value.none)).update e (Obj.mapFields fun x=>x.setIfInBounds 4 (Value.bool true))).get? e=some { cls:=.ref C,dict:=dct,data:=.fields #[a,.none,.none,.none,.bool true,.none] } :=
   CH _ (CH _ he rfl) rfl
 have n:((s₁.heap.update e (Obj.mapFields fun x=>x.setIfInBounds 3 Value.none)).update e (Obj.mapFields fun x=>x.setIfInBounds 4 (Value.bool true))).get? h=some f:=by
   rw[BE _ _ (AO ac),BE _ _ (AO ac)];exact J
 repeat (first | with_reducible refine BN m ?_ | with_reducible refine BN c ?_ | wp_step)
 refine Ay hh ac c rfl (by show 2<6;decide) n i O ?_;refine p _ (fun b U=>?_) (CH _ c rfl) ?_
 · show(((s₁.heap.update e _).update e _).update e _).get? b=_
   rw[BE _ _ (AO U),BE _ _ (AO U),BE _ _ (AO U)]
 · show(((s₁.heap.update e _).update e _).update e _).objs.size=_
   simp[Heap.update]
end L2
namespace L2
open PySem PySem.Spec PyProof.Rows
section
variable(P:Ff)(w:Fn)
end
section
variable{a:A4}{o:HO}
end
section
variable{x e:A4}{o':HO}
end
section
variable{fs aM aW:C3 A4}{H2:Hp}{h1 h2:Gf}{a x e:A4}{o:HO}
end
section
variable{σ:C3 (C2 V)}
end
section
variable{a b:C4}
variable{tA aJ:TT}
end
section
variable{a:A4}{xs:C3 V}
end
section
variable{st:C5}{aj:C3 C5}{t u:TS}
end
section
variable{a b c:C4}{tc:TE}
end
section
variable{x:A4}{v:A2}
end
section
variable{a:A4}{fs aM:C3 (Str×V)}
end
section
variable{a:A4}{fs:C3 (Str×V)}{f:Str}
end
section
variable{o:C4}{f:Str}
end
section
variable{Q:KD}{c:A2}{b:Bool}
end
section
variable{t:TA}
end
section
variable{ds:C3 A2}{E:XK}{x m:Str}{o:C4}{t:TA}
end
section
variable{ks:C3 Str}{E:XK}{x m:Str}{aO:Pos}{o:C4}{aX:C3 Keyword}{t tk:TA}{nm:C2 Str}
variable{g:C3 A2->C3 A2->C3 A2}{gV:C3 V->C3 V->C3 V}
end
section
variable{x:Str}{t:TA}{id T:String}{r:C3 V->Hp->VK->Prop}
end
section
variable{κ:Type}[DecidableEq κ]
def Hs(kvs:C3 (κ×V))(k:κ):C2 V:=(kvs.find? fun kv=>decide (kv.1=k)).map (·.2)
def Kt(kvs:C3 (κ×V))(k:κ)(v:V):C3 (κ×V) :=
 if(kvs.any fun kv=>decide (kv.1=k))=true then kvs.map (fun kv=>if kv.1=k then(kv.1,v) else kv) else kvs++[(k,v)]
theorem Pm{p:κ×V}{r:C3 (κ×V)}{k:κ}(e:p.1=k):Hs (p::r) k=some p.2:=by simp[Hs,FG,e]
theorem Pc{p:κ×V}{r:C3 (κ×V)}{k:κ}(e:¬ p.1=k):Hs (p::r) k=Hs r k:=by simp[Hs,FG,e]
theorem Ld(k:κ):∀ kvs:C3 (κ×V),(kvs.any fun kv=>decide (kv.1=k))=(Hs kvs k).isSome
 | []=>rfl
 | p::r=>by
  rw[GF];by_cases e:p.1=k
  ·simp only[Pm e,AJ e,Bool.true_or,Option.isSome_some]
  ·rw[Pc e,AE e,Bool.false_or];exact Ld k r
theorem Np(kvs:C3 (κ×V))(k:κ)(v:V):(Kt kvs k v).length<=kvs.length+1:=by
 unfold Kt;split
 ·rw[AC];lia
 ·rw[AN,BC,IX];lia
theorem hc{kvs:C3 (κ×V)}{k:κ}(v:V)(h:Hs kvs k=none):Kt kvs k v=kvs++[(k,v)]:=by
 unfold Kt;rw[Ld,h];exact AQ (by decide)
theorem Po.isSome_eq{o:C2 V}{u:C2 A2}(r:Po o u):o.isSome=u.isSome:=by
 cases o with
 | none=>cases u with
  | none=>rfl
  | some _=>exact(show False from r).elim
 | some _=>cases u with
  | none=>exact(show False from r).elim
  | some _=>rfl
theorem KV.val{kvs:C3 (κ×V)}{vs:C3 (κ×A2)}(r:KV kvs vs)(k:κ):Po (Hs kvs k) (valueAt vs k):=by
 unfold KV at r;induction r with
 | nil=>exact IR
 | @cons p q ps qs h t ih =>
  obtain⟨h1,h2⟩:=h;by_cases e:p.1=k
  ·have e':q.1=k:=h1.symm.trans e
   have b:valueAt (q::qs) k=some q.2:=by simp[valueAt,FG,e']
   rw[Pm e,b];exact h2
  ·have e':¬ q.1=k:=fun z=>e (h1.trans z)
   have b:valueAt (q::qs) k=valueAt qs k:=by simp[valueAt,FG,e']
   rw[Pc e,b];exact ih
theorem KV.any{kvs:C3 (κ×V)}{vs:C3 (κ×A2)}(r:KV kvs vs)(k:κ):(kvs.any fun kv=>decide (kv.1=k))=vs.any fun kv=>decide (kv.1=k):=by
 unfold KV at r;induction r with
 | nil=>rfl
 | cons h t ih=>rw[GF,GF,ih,h.1]
theorem KV.repl{kvs:C3 (κ×V)}{vs:C3 (κ×A2)}(r:KV kvs vs)(k:κ)(m:W2 y u) :
  KV (kvs.map fun kv=>if kv.1=k then(kv.1,y) else kv) (vs.map fun kv=>if kv.1=k then(kv.1,u) else kv):=by
 unfold KV at r ⊢;induction r with
 | nil=>exact .nil
 | @cons p q ps qs h t ih =>
  rw[BY,BY];refine .cons ?_ ih;obtain⟨h1,h2⟩:=h;by_cases e:p.1=k
  ·rw[AG e,AG (h1.symm.trans e)];exact⟨h1,m⟩
  ·rw[AQ e,AQ (fun z=>e (h1.trans z))];exact⟨h1,h2⟩
theorem KV.put{kvs:C3 (κ×V)}{vs:C3 (κ×A2)}(r:KV kvs vs)(k:κ)(m:W2 y u):KV (Kt kvs k y) (stored vs k u):=by
 unfold Kt stored;rw[r.any k];by_cases e:(vs.any fun kv=>decide (kv.1=k))=true
 ·rw[AG e,AG e];exact r.repl k m
 ·rw[AQ e,AQ e];exact Paired.snoc r ⟨rfl,m⟩
theorem KV.length{kvs:C3 (κ×V)}{vs:C3 (κ×A2)}(r:KV kvs vs):kvs.length=vs.length:=IH r
end
variable{k:C3 Ul}{r:A2}
theorem VX{k:Ul}(r:W2 (kV k) u):(U8 P w).is k u=true:=by
 cases k with
 | inl i=>obtain⟨t,e⟩:=(show ∃ t,u=Value.int i t from r);subst e;exact k8 P w i t
 | inr x=>obtain⟨t,e⟩:=(show ∃ t,u=Value.str x t from r);subst e;exact lv P w x t
theorem Fs:∀ {ks:C3 Ul} {us:C3 A2},Y5 (ks.map kV) us->ItemsAre (U8 P w) ks us
 | [],_,r=>by rw[map_nil] at r;cases r;exact .nil
 | k::ks,_,r=>by
  rw[BY] at r;cases r with
  | cons h t=>exact .cons (VX h) (Fs t)
abbrev KT(H:Hp):C3 (C3 Ul×V)->C3 (C3 Ul×A4×A2)->Prop:=Paired fun p q=>p.1=q.1/\H q.2.1=some (.tup (p.1.map kV))/\W2 p.2 q.2.2
theorem KT.val(r:KT H kvs xs)(k:C3 Ul):Po (Hs kvs k) ((atKey xs k).map (·.2)):=by
 induction r with
 | nil=>exact IR
 | @cons p q ps qs h t ih =>
  obtain⟨h1,_,h2⟩:=h;by_cases e:p.1=k
  ·have e':q.1=k:=h1.symm.trans e
   have b:atKey (q::qs) k=some q.2:=by simp[atKey,FG,e']
   rw[Pm e,b];exact h2
  ·have e':¬ q.1=k:=fun z=>e (h1.trans z)
   have b:atKey (q::qs) k=atKey qs k:=by simp[atKey,FG,e']
   rw[Pc e,b];exact ih
theorem KT.repl(r:KT H kvs xs)(k:C3 Ul)(m:W2 y u) :
  KT H (kvs.map fun kv=>if kv.1=k then(kv.1,y) else kv) (xs.map (putAt k u)):=by
 induction r with
 | nil=>exact .nil
 | @cons p q ps qs h t ih =>
  rw[BY,BY];refine .cons ?_ ih;obtain⟨h1,h2,h3⟩:=h;unfold putAt;by_cases e:p.1=k
  ·rw[AG e,AG (h1.symm.trans e)];exact⟨h1,h2,m⟩
  ·rw[AQ e,AQ (fun z=>e (h1.trans z))];exact⟨h1,h2,h3⟩
theorem KT.put(r:KT H kvs xs)(k:C3 Ul){b:A4}(U:H b=some (.tup (k.map kV)))(m:W2 y u) :
  KT H (Kt kvs k y) (storedH xs k b u):=by
 have e:(kvs.any fun kv=>decide (kv.1=k))=(atKey xs k).isSome:=by
  rw[Ld,(r.val k).isSome_eq,Option.isSome_map]
 unfold Kt storedH;rw[e];by_cases q:(atKey xs k).isSome=true
 ·rw[AG q,AG q];exact r.repl k m
 ·rw[AQ q,AQ q];exact Paired.snoc r ⟨rfl,U,m⟩
theorem KT.keeps(r:KT H kvs xs)(ht:∀ b ys,H b=some (.tup ys)->H' b=some (.tup ys)):KT H' kvs xs :=
 Paired.mapP r fun _ _ z=>⟨z.1,ht _ _ z.2.1,z.2.2⟩
section
variable{a:A4}
theorem bD{u:HO}(ok:Ee P w H h)(e:Rd H a u):V2 P w H h a u:=e.ok ok
theorem bJ{kvs:C3 (Ul×V)}(ok:Ee P w H h)(e:Rd H a (.dK kvs)):kvs.length<=sizeLine/\(a==sysModules)=false/\∃ vs,KV kvs vs/\h.DictOf (U8 P w) a vs :=
 show V2 P w H h a (.dK kvs) from bD ok e
theorem ls{kvs:C3 (Ul×V)}(ok:Ee P w H h)(e:H a=some (.dK kvs)):kvs.length<=sizeLine/\(a==sysModules)=false/\∃ vs,KV kvs vs/\h.DictOf (U8 P w) a vs:=bJ ok (.inl e)
theorem Al(ok:Ee P w H h)(e:H a=some (.tup (ks.map kV))):(tupleKind (U8 P w)).is h ks a:=by
 obtain⟨_,its,r,o,h1,h2,n,h3⟩:=(show V2 P w H h a (.tup (ks.map kV)) from ok a _ e);exact⟨o,its.toArray,n,h1,h2,h3,by simpa using Fs r⟩
theorem cm(ok:Ee P w H h)(e:Rd H a (.dT kvs)):kvs.length<=sizeLine/\(a==sysModules)=false /\
  ∃ xs,KT H kvs xs/\h.DictOfH (tupleKind (U8 P w)) a xs:=by
 obtain⟨z,y,xs,r,o,es,ep,h1,h2,h3,h4,h5⟩:=(show V2 P w H h a (.dT kvs) from bD ok e);refine⟨z,y,xs,r,o,es,ep,h1,h2,h3,h4,fun x hx=>?_,h5⟩;have all:∀ {l:C3 (C3 Ul×V)} {m:C3 (C3 Ul×A4×A2)},KT H l m->∀ x∈m,(tupleKind (U8 P w)).is h x.1 x.2.1:=by
  intro l m q;induction q with
  | nil=>intro x hx;exact nomatch hx
  | @cons p q ps qs hq t ih =>
   intro x hx;rcases BI.mp hx with e | hx
   ·subst e
    exact Al ok (by rw[← hq.1];exact hq.2.1)
   ·exact ih x hx
 exact all r x hx
theorem bz(ok:Ee P w H h)(e:H a=some (.dT kvs)):kvs.length<=sizeLine/\(a==sysModules)=false /\
 ∃ xs,KT H kvs xs/\h.DictOfH (tupleKind (U8 P w)) a xs:=cm ok (.inl e)
end
def RJ(H:Hp)(a:A4)(y:V)(r:C2 V):Prop :=
 (∃ kvs k,Rd H a (.dK kvs)/\y=kV k/\r=Hs kvs k)\/∃ kvs k b,Rd H a (.dT kvs)/\y=.ref b/\H b=some (.tup (k.map kV))/\r=Hs kvs k
def SK(H:Hp)(a:A4)(y v:V)(H':Hp):Prop :=
 (∃ kvs k,H a=some (.dK kvs)/\y=kV k/\kvs.length<sizeLine/\H'=W7 H a (.dK (Kt kvs k v))) \/
 ∃ kvs k b,H a=some (.dT kvs)/\y=.ref b/\H b=some (.tup (k.map kV))/\kvs.length<sizeLine/\H'=W7 H a (.dT (Kt kvs k v))
theorem RJ.t{a b:A4}(e:H a=some (.dT kvs))(F:H b=some (.tup (k.map kV))):RJ H a (.ref b) (Hs kvs k):=.inr ⟨kvs,k,b,.inl e,rfl,F,rfl⟩
theorem SK.t{a b:A4}(e:H a=some (.dT kvs))(F:H b=some (.tup (k.map kV)))(hl:kvs.length<sizeLine) :
 SK H a (.ref b) v (W7 H a (.dT (Kt kvs k v))):=.inr ⟨kvs,k,b,e,rfl,F,hl,rfl⟩
section
variable{a:A4}{o:C2 V}
theorem C'.big(I:C' X aa σ H s):sysModules<s.heap.objs.size:=by
 have h:mainGlobals<s.heap.objs.size:=(I.mod.glob.keeps I.bk).lt;exact Nat.lt_trans (by decide) h
theorem iy{Q:KD}(hu:A.units+1<cLine)(I:C' X aa σ H s)(g:RJ H a y o)(m:W2 y u)(h:∀ s',C' X aa σ H s'->Q (.bool o.isSome) s') :
  wpAny (model X.prog X.w) A (compareOp .In u (.ref a)) Q E s:=by
 rcases g with⟨kvs,k,e,B,l⟩ | ⟨kvs,k,b,e,B,F,l⟩
 ·subst B
  obtain⟨z,hd,vs,d,dd⟩:=bJ I.hok e;refine wpAny_in_of (VX m) hd dd.mapOf ?_;rw[← (d.val k).isSome_eq,← l];exact h _ (I.tok _)
 ·subst B
  cases (show u=Value.ref b from m);obtain⟨z,hd,xs,d,dd⟩:=cm I.hok e;refine wpAny_in_heap (tupleKind_room_in1 hu) (Al I.hok F) hd dd ?_;have q:=(d.val k).isSome_eq;rw[Option.isSome_map] at q;rw[← q,← l];exact h _ (I.tok _)
theorem As{t':Nat}{ob:HO}(I:C' X aa σ H s)(mu:SR (H a))(hs:SameBut a s.heap h')(he:∃ q,h'.get? a=some q)(new:V2 X.prog X.w (W7 H a ob) h' a ob) :
  C' X aa σ (W7 H a ob) { s with heap:=h',toks:=t' } :=
 I.write (x:=a) (e:=a) mu (.inl rfl) (fun b q U z=>(hs.2 b U).trans z) he new
theorem lS{kvs:C3 (Ul×V)}{vs:C3 (Ul×A2)}(z:kvs.length<=sizeLine)(hd:(a==sysModules)=false)(d:KV kvs vs)(dd:h'.DictOf (U8 P w) a vs) :
 V2 P w H' h' a (.dK kvs):=⟨z,hd,vs,d,dd⟩
theorem kc(hu:A.units+1<cLine)(I:C' X aa σ H s)(g:SK H a y v H')(m:W2 y u)(L:W2 v r)(h:∀ s',C' X aa σ H' s'->Q () s') :
  wpAny (model X.prog X.w) A (setItem (.ref a) u r) Q E s:=by
 rcases g with⟨kvs,k,e,B,l,f⟩ | ⟨kvs,k,b,e,B,F,l,f⟩
 ·subst B f
  obtain⟨z,hd,vs,d,dd⟩:=ls I.hok e;have hz:vs.length<=sizeLine:=by rw[← d.length];exact z
  have hl:(Kt kvs k v).length<=sizeLine:=by have:=Np kvs k v;lia
  refine wpAny_setItem_pairs (hsz:=hz) (VX m) dd fun h' ac hs=>h _ ?_
  have he:∃ q,h'.get? a=some q:=let ⟨q,_,_,hq,_⟩:=ac;⟨q,hq⟩
  exact As I (by rw[e];exact IR) hs he (lS hl hd (d.put k L) ac)
 ·subst B f
  cases (show u=Value.ref b from m);obtain⟨z,hd,xs,d,dd⟩:=bz I.hok e;have hz:xs.length<=sizeLine:=by rw[← IH d];exact z
  have hl:(Kt kvs k v).length<=sizeLine:=by have:=Np kvs k v;lia
  refine wpAny_setItem_heap (hsz:=hz) (tupleKind_room_in1 hu) (Al I.hok F) dd fun h' ac hs=>h _ ?_
  obtain⟨q,es,ep,hq,h2,h3,h4,_,h5⟩:=ac;refine As I (by rw[e];exact IR) hs ⟨q,hq⟩ ⟨hl,hd,_,(d.put k F L).keeps fun c ys ec=>?_,q,es,ep,hq,h2,h3,h4,h5⟩;rw[Zd (YJ ec e (fun z=>nomatch z))];exact ec
end
section
variable{a:A4}{kvs:C3 (Ul×V)}{k:Ul}
end
def lN(ty td:TE):TE:=fun σ H Q=>ty σ H fun y H1=>td σ H1 fun x H2=>∃ a o,x=.ref a/\RJ H2 a y o/\Q (.bl o.isSome) H2
def nw(td ty tv:TE):TS:=fun D σ H=>tv σ H fun v H1=>td σ H1 fun x H2=>ty σ H2 fun y G=>∃ a H4,x=.ref a/\SK G a y v H4/\D.nx σ H4
section
variable{o i:C4}
theorem dt(hu:X.A.units+1<cLine)(hi:PE X i ty)(J:PE X o td):PC X .In i o (lN ty td):=by
 intro aa s σ H Q I h;refine Vk (hi aa s σ H _ I h) fun b s1 ⟨y,H1,I1,m,q1⟩=>Vk (J aa s1 σ H1 _ I1 q1) fun u s2 ⟨x,H2,I2,S,a,E,ex,g,q2⟩=>?_
 subst ex;obtain rfl:u=Value.ref a:=S;exact iy hu I2 g m fun C I3=>⟨.bl E.isSome,H2,I3,rfl,q2⟩
theorem ki(hu:X.A.units+1<cLine)(J:PE X o td)(hi:PE X i ty)(hv:PE X ap tv)(hs:swapsWith ap (some (.Subscript o i am)) pos.line X.env=pure false) :
  PS X (.Assign [.Subscript o i am] ap pos) (nw td ty tv):=by
 intro aa s σ H D I h;refine wpAny_Assign_Subscript (Vk (hv aa s σ H _ I h) fun r s1 ⟨v,H1,I1,L,q1⟩=>Vk (J aa s1 σ H1 _ I1 q1) fun u s2 ⟨x,H2,I2,S,q2⟩=>Vk (hi aa s2 σ H2 _ I2 q2) fun b C ⟨y,G,I3,m,a,H4,ex,g,q3⟩=>?_) hs;subst ex;obtain rfl:u=Value.ref a:=S;exact kc hu I3 g m L fun M I4=>⟨σ,H4,I4,q3⟩
end
theorem jZ(h:Gf)(U:sysModules<h.objs.size):V2 P w H (h.push { cls:=.type "dict",data:=.dict #[] }) h.objs.size (.dT []) :=
 ⟨DJ _,BX.mpr (AO (BU U)),[],.nil,_,#[],0,BA _ rfl,⟨rfl,rfl,rfl⟩,rfl,rfl,EQ⟩
section
variable{a:A4}{d:V}{o:C2 V}
end
section
variable{o f:C4}{tx:TE}
end
section
variable{a:A4}{kvs:C3 (Ul×V)}
end
section
variable{a:A4}
end
end L2
variable{t:PySem.Addr}{pn:J1}
namespace Att
open PySem PySem.W PySem.Calls PyProof.Rows
section
variable{K:Frag}
end
end Att
namespace L2
open PySem PySem.Spec PyProof.Rows
section
variable [DecidableEq κ]
end
structure JS (k:Nat) (A:Around):Prop where
 dp:A.depth+3*k+5<recursionLimit
 un:A.units+16*k+200<cLine
 gd:A.guards=some []
theorem JS.mono(r:JS k A)(h:j<=k:=by lia):JS j A:=⟨by have:=r.dp;lia,by have:=r.un;lia,r.gd⟩
theorem JS.deeper(r:JS (k+1) A)(env:IA):JS k (A.deeper env) :=
 ⟨by have:=r.dp;show A.depth+1+3*k+5<_;lia,by have:=r.un;show A.units+3+16*k+200<_;lia,r.gd⟩
theorem JS.depth(r:JS k A):A.depth<recursionLimit:=by have:=r.dp;lia
def j5(A:C1)(h:Gf):Prop:=A.handled=none\/∃ e oe ve,A.handled=some (.ref e)/\h.get? e=some oe/\oe.data=.fields ve/\ve[2]?=some .none
def TD(A:C1)(fs:C3 A4)(H:Hp)(h:Gf):Prop:=A.handled=none\/∃ e oe ve,A.handled=some (.ref e)/\h.get? e=some oe/\oe.data=.fields ve/\ve[2]?=some .none/\H e=none/\e∉fs
def PQ(X:Cx):Prop:=∀ aa σ H s,C' X aa σ H s->j5 X.A s.heap
def NQ(X:Cx):Prop:=∀ aa σ H s,C' X aa σ H s->TD X.A (He X.stack) H s.heap
theorem PQ.of(k:TD X.A X.fs X.H₀ X.s₀.heap)(hx:X.ex=[]):PQ X:=fun _ _ _ _ I=>k.imp id fun⟨e,oe,ve,h1,h2,h3,h4,h5,h6⟩=>⟨e,oe,ve,h1,I.base.keep e oe h2 h5 h6 (by rw[hx];simp),h3,h4⟩
theorem JQ.n(r:JQ k A):JS k A:=⟨r.dp,r.un,r.gd⟩
structure KH (P:Program) (w:World) (K:JT) (mg:KB) (base:Heap) (CX:F9) (k:Nat) (f:Addr) (fd:FuncData) (ps:List Str) (sp:Sp):Prop where
 len:∀ vs H Q E,sp vs H Q E->vs.length=ps.length
 run:∀ (A:Around) (outer:List Env) (s:Shared) (H:Hp) (args:Args) (us:List Value) (vs:List V) (Q:VK) (E:XK),JS k A->TD A (He outer) H s.heap->KQ P w K mg base A outer s H->BindsTo s fd args (ps.zip us)->Y5 vs us->sp vs H Q E ->
  codeAny (model P w) A (.call (.ref f) args) (CR CX outer P w H s Q E) s
section
variable{ds:C3 A2}{E:XK}{x m:Str}{o:C4}{t:TA}
theorem mE{Q:VK}(F:KH X.prog X.w X.K X.mg X.base CX k f fd ps sp)(Z:JS k X.A)(Y:NQ X)(U:Si X.K fd ps ds)(hd:Y5 dvs ds)(hx:X3 CX X E)
  (I:C' X aa σ H s) (r:Y5 vs us) (h:sp (vs++dvs) H Q E):wpAny (model X.prog X.w) X.A (call (.ref f) us) (EP X aa σ Q) X.xe s:=by
 have r2:Y5 (vs++dvs) (us++ds):=r.append hd;have hl:(us++ds).length=ps.length:=by rw[← r2.length];exact F.len _ _ _ _ h
 refine FV (EW (F.run X.A X.stack s H ⟨us,[]⟩ (us++ds) (vs++dvs) Q E Z (Y _ _ _ _ I) I.env0 (U s us I.kIn hl) r2 h) fun r s' hq=>?_);cases r with
 | error e=>exact hx aa σ H s e s' I hq
 | ok fl =>
  cases fl with
  | ret u=>exact I.after hq
  | next=>exact False.elim hq
  | brk=>exact False.elim hq
  | cont=>exact False.elim hq
theorem eP(F:KH X.prog X.w X.K X.mg X.base CX k f fd ps sp)(Z:JS k X.A)(hh:NQ X)(hg:Gl X x)(hm:X.mg x=some (.ref f))(Y:PySem.W.keepIn X.K (.ref f)=true)(U:Si X.K fd ps ds)(hd:Y5 dvs ds)(hx:X3 CX X E)
  (ha:PA X (e::es) t) (P:(x==("__debug__" : Str))=false:=by decide) (he:starEach (e::es) X.env=(false,eval e X.env)::starEach es X.env:=by rfl) (af:(backTo pos (starEach es X.env)).any (·.1)=false:=by rfl) :
  PE X (.Call (.Name x p) (e::es) [] pos) (SV sp dvs E t):=by
 intro aa s σ H Q I h;refine CQ (Uj I hg hm ?_ P);refine GJ (h₀:=X.base) I.ok.mod.kin Y (Vk (ha pos aa s σ H _ I h) fun us s1 ⟨vs,H1,I1,r,q⟩=>⟨I1.kIn,?_⟩) he af;exact mE F Z hh U hd hx I1 r q
end
def G9(CX:F9)(P:Ff)(w:Fn)(K:JT)(mg:KB)(base:Gf)(N:C3 Str)(ai:Str)(scope:H3)(f:A4)(cd:A2)(A:C1)(outer:C3 IA)(s:C0)(H:Hp)(E:XK):Cx where
 prog:=P
 w:=w
 K:=K
 mg:=mg
 base:=base
 A:=A.deeper (envOfC ai scope s.heap.objs.size f cd)
 N:=N
 s₀:=s
 H₀:=H
 env:=envOfC ai scope s.heap.objs.size f cd
 outer:=outer
 stack:=envOfC ai scope s.heap.objs.size f cd::outer
 ex:=[]
 calm:=false
 fn:=fun _=>true
 pn:=[]
 xe:=fun e s'=>wpAny (model P w) (A.deeper (envOfC ai scope s.heap.objs.size f cd)) (leaving (envOfC ai scope s.heap.objs.size f cd) e) (fun _ b=>CX outer H s E e b) (fun e' b=>CX outer H s E e' b) s'
theorem kO{s1:C0}{E:XK} 
  (S:FnScope N ps scope) (C:KQ P w K mg base A outer s H) (hl:vs.length=ps.length) (r:Y5 vs us)
  (x:InCallC s s.heap.objs.size (bindL (envOfC ai scope s.heap.objs.size f cd).kindOf (ps.zip us) fun _=>none) (cellsFrom (s.heap.objs.size+1) scope.names []) (bindC (envOfC ai scope s.heap.objs.size f cd).kindOf (ps.zip us) fun _=>none) s1) :
  C' (G9 CX P w K mg base N ai scope f cd A outer s H E) [] (JU N vs) H s1:=by
 have af:ps.length<=N.length:=by have:=CV List.length S.pre;rw[CJ] at this;lia
 obtain⟨h1,tk,rfl,Y⟩:=x.done;have j:∀ b:A4,b∉(G9 CX P w K mg base N ai scope f cd A outer s H E).ex:=fun b z=>absurd (show b∈([]:C3 A4) from z) (by simp)
 refine⟨⟨C.mod,S.kind,rfl,rfl,AY _,fun y z c h1 h2=>?_,fun y hy=>?_,fun y c _ h=>?_,(fun z=>nomatch z),Around.frames_deeper C.frames,.inr ⟨rfl,rfl⟩,fun b z=>absurd z (j b),C.bs,C.bsz,fun b _ _=>j b,fun b z=>absurd z (j b),C.funs,C.frf⟩,
  rfl,C.bare,Un.kept Y,⟨_,x.toInCall.ns,fun i y v h1 h2 h3=>?_⟩,fun y c h=>⟨_,x.cell y c h⟩,C.hok.fresh (AY _),fun y c h=>?_,fun p hp=>absurd (show p∈([]:J1) from hp) (by simp),C.hok.kept Y,?_⟩
 ·exact name_of_addr x.apart (BO h1) (BO h2)
 ·have hy:scope.names.lookup y=some .cell\/scope.names.lookup y=some .free:=hy
  rcases hy with hy | hy
  ·exact L3 hy
  ·exact absurd rfl (S.nofree _ (BO hy))
 ·exact DW (x.above y c (BO h))
 ·have hi:i<vs.length:=by
   unfold JU at h2;by_cases hi:i<vs.length
   ·exact hi
   ·rw[CM (by simpa using hi)] at h2
    rw[FC] at h2;split at h2<;>cases h2
  have ha:vs[i]?=some v:=by
   unfold JU at h2;rw[BG (by simpa using hi),AM] at h2;cases e:vs[i]? with
   | none=>rw[e] at h2;cases h2
   | some a=>rw[e] at h2;cases h2;rfl
  obtain⟨u,hu,L⟩:=r.get ha;have hp:ps[i]?=some y:=by
   rw[← S.pre,List.getElem?_take_of_lt (by lia)];exact h1
  have d:ps.Nodup:=by rw[← S.pre];exact S.nd.sublist (List.take_sublist _ _)
  refine⟨u,L,?_⟩;rcases S.par y (AI hp) with k | k
  ·exact .inl ⟨k,Lk d hp hu k⟩
  ·obtain⟨c,e⟩:=L3 (n:=s.heap.objs.size+1) k
   refine .inr ⟨.inl k,c,e,?_⟩;have q:=x.cell y c e;rw[Lw d hp hu (by show scope.names.lookup y≠_;rw[k];decide)] at q;exact q
 ·exact C.hok.fresh (DW (x.above y c (BO h)))
 ·unfold JU
  show _=N.length;rw[AN,AC,EF];lia
theorem mH{params:Arguments}{dV kV:A2} 
  {j:Array (C2 A2)} {N ps:C3 Str} {sp:Sp} (lk:K.lookup f=some ⟨oc,od,.func (PySem.W.fnOf name ai params body scope dV kV au pm an ah ct),j⟩) (M:PySem.W.codeIn K ah ai=true) (S:FnScope N ps scope)
  (len:∀ vs H Q E,sp vs H Q E->vs.length=ps.length)
  (a:∀ (A:C1) (outer:C3 IA) (s:C0) (H:Hp) (vs:C3 V) (Q:VK) (E:XK),JS k (A.deeper (envOfC ai scope s.heap.objs.size f ah))->TD A (He outer) H s.heap->sp vs H Q E ->
   ∃ t,Gr (G9 CX P w K mg base N ai scope f ah A outer s H E) body t/\t { nx:=fun _ H'=>Q .non H',rt:=Q } (JU N vs) H) :
  KH P w K mg base CX (k+1) f (PySem.W.fnOf name ai params body scope dV kV au pm an ah ct) ps sp:=by
 refine⟨len,fun A outer s H args us vs Q E Z Y C U r i=>?_⟩;have hl:=len _ _ _ _ i;have p:K.In s.heap:=C.mod.kin.keeps fun b o e=>(C.bs b o e).1
 have d:s.heap.NoLimit:=C.mod.nolimit.keeps fun b o e=>(C.bs b o e).1
 have c:∀ y∈ps.zip us,scope.names.lookup y.1=some .local\/(scope.names.lookup y.1=some .cell/\((cellsFrom (s.heap.objs.size+1) scope.names []).lookup y.1).isSome=true):=fun⟨n,v⟩ hy=>by
  rcases S.par n (IP hy).1 with q | q
  ·exact .inl q
  ·exact .inr ⟨q,HX _ _ _ (.inl q)⟩
 refine codeAny_call_function Z.depth (p _ _ lk) rfl S.co S.gen rfl (codeRec_of p M) (U _ _ _ _ ?_);refine wpAny_newFunctionEnv_cells S.kind c fun env he s1 x=>?_
 subst he;refine⟨d.keeps x.toInCall.keep,codeAny_func ?_⟩;obtain⟨t,ht,hq⟩:=a A outer s H vs Q E (Z.deeper _) Y i;have I:C' (G9 CX P w K mg base N ai scope f ah A outer s H E) [] (JU N vs) H s1:=kO S C hl r x;refine BM (ht [] s1 (JU N vs) H _ I hq) (fun fl s' hs=>?_) fun e s' hs=>hs
 have B:∀ {σ':St} {H':Hp} {v:V} {u:A2},C' (G9 CX P w K mg base N ai scope f ah A outer s H E) [] σ' H' s'->W2 v u->Q v H'->CE outer P w H s Q u s' :=
  fun {σ' H' v u} J L q=>⟨v,H',J.os,J.bare,J.base,J.hok,L,q⟩
 cases fl with
 | ret u =>
  obtain⟨v,σ',H',J,L,q⟩:=hs;exact B J L q
 | next =>
  obtain⟨σ',H',J,q⟩:=hs;exact B (v:=V.non) (u:=Value.none) J rfl q
 | brk =>
  obtain⟨_,_,_,q⟩:=hs;exact False.elim q
 | cont =>
  obtain⟨_,_,_,q⟩:=hs;exact False.elim q
theorem KH.x{P:Ff}{w:Fn}{K:JT}{mg:KB}{base:Gf}{CX:F9}{k:Nat}{f:A4}{fd:Df}{ps:C3 Str}{sp:Sp}(F:KH P w K mg base CX k f fd ps sp):KC P w K mg base CX k f fd ps sp :=
 ⟨F.len,fun A outer s H args us vs Q E Z C U r i=>F.run A outer s H args us vs Q E Z.n (.inl Z.hd) C U r i⟩
end L2
variable{cv dc:PySem.Value}{aG aQ:C3 PySem.Stmt}{aR aZ aF aN:PySem.Pos}{known:C3 PySem.Str}
namespace PySem


namespace F
theorem nolen_lr:typeLookup (.type "list_reverseiterator") "__len__" = pure none:=by rw[typeLookup_type,builtinLookup_eq_fast];kernel_rfl
theorem hint_lr:typeLookup (.type "list_reverseiterator") "__length_hint__" = pure (some (.builtin "list_reverseiterator.__length_hint__")):=by rw[typeLookup_type,builtinLookup_eq_fast];kernel_rfl
end F
section
variable{R:Result->C0->Prop}
variable{G:Array GenState->Array GenState->Prop}{n:Nat}{P:Nat->A2->Prop}{St:Nat->C0->Prop}
def B3(prog:Ff)(w:Fn)(A:C1)(I:A4)(St:Nat->C0->Prop):Prop:=∀ (s:C0) (Q:Bool->C0->Prop) (E:KD),St 0 s->(∀ tk,s.toks<=tk->Q false { s with toks:=tk })->wpAny (model prog w) A (Builtin.List.listLengthHint (.ref I)) Q E s
theorem Og{T:String}(W:WalksS prog w A.in1 I fp wr G n P St)(hT:∀ i s,St i s->s.TypeIs (.ref I) T)(d:T="range_iterator" \/ T="list_reverseiterator")(hh:B3 prog w A.in1 I St)(S:A4)(res:A2)(c₀:Nat)(l:St 0 s)(g:S∉fp)(y:I∈fp)
  (hS:s.heap.get? S=some { cls:=.type "list",data:=.seq #[] c₀ })
  (E:∀ s' c c',Moved (S::wr) G s s'->s'.heap.get? S=some { cls:=.type "list",dict:=none,data:=.seq c c',slots:=#[] }->ItemsOf P c n->R (.ok (.ret res)) s') (hn:n<=sizeLine) :
  wpAny (model prog w) A.in1 (Builtin.List.listExtendWith (.ref S) (.ref I) res)
   (fun B s'=>match B with | .done f=>R (.ok f) s' | .again c'=>c'.quiet=true/\codeAny (model prog w) A c' R s') (fun e s'=>R (.error e) s') s:=by
 have a:S≠I:=fun e=>g (e▸y)
 unfold Builtin.List.listExtendWith;refine AA (GL (hT 0 _ l) ?_);have h1:Builtin.List.listSameRef (.ref S) (.ref I)=false:=by simp[Builtin.List.listSameRef,a]
 have h2:(Value.type T==Value.type "list")=false:=by rcases d with rfl | rfl<;>decide
 have h3:(Value.type T==Value.type "tuple")=false:=by rcases d with rfl | rfl<;>decide
 simp only[h1,h2,h3,JI,GM,HZ];refine AA (W.self 0 _ _ _ l ?_);refine AA (BZ (hh s _ _ l fun tk Q=>?_));rw[AQ (by rcases d with rfl | rfl<;>decide)];have hst₂:=W.frame 0 _ _ tk l Q fun b _ o e=>e
 refine AK ⟨plainId_quiet F.plain_extend_loop _,codeAny_extend_loopS W hn _ g _ n 0 _ _ _ rfl (DJ _) hst₂ hS (ItemsOf.nil P) fun s' c c' hm t ac=>?_⟩;exact E s' c c' (Moved.trans W.gtrans ((Moved.refl W.grefl).then_heap Q fun b o U e=>e) hm) t ac
theorem Ig{T:String}(W:WalksS prog w A.in1 I fp wr G n P St)(hT:∀ i s,St i s->s.TypeIs (.ref I) T)(d:T="range_iterator" \/ T="list_reverseiterator")(hh:B3 prog w A.in1 I St)(S:A4)(l:St 0 s)(g:S∉fp)(y:I∈fp)
  (hS:s.heap.get? S=some { cls:=.type "list",data:=.seq #[] })
  (E:∀ s' c c',Moved (S::wr) G s s'->s'.heap.get? S=some { cls:=.type "list",dict:=none,data:=.seq c c',slots:=#[] }->ItemsOf P c n->R (.ok (.ret .none)) s') (hn:n<=sizeLine) :
  wpAny (model prog w) A.in1 (Builtin.«list.__init__» ⟨[.ref S,.ref I],[]⟩)
   (fun B s'=>match B with | .done f=>R (.ok f) s' | .again c'=>c'.quiet=true/\codeAny (model prog w) A c' R s') (fun e s'=>R (.error e) s') s:=by
 show wpAny _ A.in1 (do let F ← Builtin.List.listItems (.ref S);Builtin.List.listUpdate (.ref S) (fun _=>#[]);letGo F.toList.reverse;Builtin.List.listExtendWith (.ref S) (.ref I) .none) _ _ s;refine AA ?_;unfold Builtin.List.listItems;refine AA (JD hS rfl (AK ?_));show wpAny _ A.in1 (updateSeq S (fun _=>#[]) >>= fun _=>letGo (#[]:Array A2).toList.reverse >>= fun _=>Builtin.List.listExtendWith (.ref S) (.ref I) .none) _ _ s;refine AA (wpAny_updateSeq hS rfl ?_);have hS₂:=CH (Obj.mapSeq (fun _=>(#[]:Array A2))) hS rfl;have a:∀ b o,b≠S->s.heap.get? b=some o->(s.heap.update S (Obj.mapSeq (fun _=>(#[]:Array A2)))).get? b=some o :=
  fun b o U e=>(BE _ _ (AO U)).trans e
 refine AA (wpAny_letGo ?_);refine Og (hn:=hn) W hT d hh S .none _ (W.frame 0 s _ s.toks l (AY _) fun b U o e=>a b o (fun h=>g (h▸U)) e) g y hS₂ fun s' c c' hm t ac=>?_
 exact E s' c c' (Moved.trans W.gtrans ((Moved.refl W.grefl).then_heap (AY _) fun b o U e=>a b o (fun h=>U (h▸AW)) e) hm) t ac
end
section
variable{n:Nat}{P:Nat->A2->Prop}{St:Nat->C0->Prop}
theorem B6{T:String}{Q:KD}(W:WalksS prog w A.in1.in1 I fp wr (fun a b=>b=a) n P St)(hT:∀ i s,St i s->s.TypeIs (.ref I) T)(d:T="range_iterator" \/ T="list_reverseiterator")(hh:B3 prog w A.in1.in1 I St)(l:St 0 s)(f:∀ b∈fp,b<s.heap.objs.size)(y:I∈fp)
  (j:∀ h' tk c c',(∀ b o,b∉wr->s.heap.get? b=some o->h'.get? b=some o)->h'.get? s.heap.objs.size=some { cls:=.type "list",dict:=none,data:=.seq c c',slots:=#[] }->ItemsOf P c n->Q (.ref s.heap.objs.size) { s with heap:=h',toks:=tk }) (hn:n<=sizeLine) :
  wpAny (model prog w) A (call (.type "list") [.ref I]) Q E s:=by
 have g:s.heap.objs.size∉fp:=fun hm=>DA _ (f _ hm)
 refine callType_codes (Q₁:=fun obj s₁=>obj=.ref s.heap.objs.size/\s₁={ s with heap:=s.heap.push { cls:=.type "list",data:=.seq #[] } }) F.called_list (F.typeCall_list_1 _) F.entry_list_init
  (code_list_new _ ⟨rfl,rfl⟩) fun obj s₁ h₁=>?_
 obtain⟨rfl,rfl⟩:=h₁;have hS:(s.heap.push { cls:=.type "list",data:=.seq #[] }).get? s.heap.objs.size=some { cls:=.type "list",data:=.seq #[] }:=BA _ rfl;refine⟨⟨_,hS,rfl⟩,F.args_list_init_2 _ _,Ig (hn:=hn) W hT d hh _ (W.frame 0 s _ s.toks l (AY _) fun b _ o e=>AF _ e) g y hS fun s' c c' hm t ac=>?_⟩;refine⟨rfl,?_⟩;rw[Moved.eq_with hm];refine j s'.heap s'.toks c c' (fun b o U e=>hm.heap b o (fun B=>?_) (AF _ e)) t ac;rcases BI.mp B with e' | B
 ·exact absurd (AR e) (by rw[e'];exact DA _)
 ·exact U B
end
theorem jW(it:A4)(St:Nat->C0->Prop)(hT:∀ s,St 0 s->s.TypeIs (.ref it) "list_reverseiterator"):B3 prog w A it St:=fun s Q E l j=>by
 unfold Builtin.List.listLengthHint;refine AA (IY (hT s l) F.nolen_lr ?_);show wpAny _ _ (specialOf (Value.ref it) (Str.ofString "__length_hint__") >>= _) _ _ _;refine AA (IY (hT s l) F.hint_lr ?_)
 (generalize a:("list_reverseiterator.__length_hint__" : String)=c;(fail_if_success (clear a c));wp_delta;rw[show splitId c=some ("list_reverseiterator","__length_hint__") from by subst a;decide +kernel];subst a)
 refine AA (wpAny_isInstance (b:=true) (hT s l) (by rw[isSubtype_type];kernel_rfl) ?_);exact AK (j s.toks (AY _))
theorem El{l h:A4}{f:Obj}{Q:C2 A2->C0->Prop}(hh:A.handled=some (.ref h))(d:s.heap.get? h=some f)(i:f.data=.fields vh)(D:vh[2]?=some .none)(c:s.heap.IsRevIter it l (-1))
   (j:∀ h',ExtBut it s.heap h'->Q none { s with heap:=h' }):wpAny (model prog w) A (pyNext (.ref it)) Q E s:=by
 obtain⟨o,J,O,hd⟩:=id c;unfold pyNext;refine AA (wpAny_attempt (EC (name:=Str.ofString "__next__") c.typeIs F.slot_lri_next
   (EZ F.slot_lri_next c.typeIs F.entry_lri_next ?_ (F.args_lri_next_1 _))))
 unfold Builtin.«list_reverseiterator.__next__»;refine AA (wpAny_of_eq (a:=(Value.ref it,[])) rfl ?_);try dsimp only
 refine AA (CI J hd (x:=rawInt (-1)) rfl ?_);show wpAny _ _ (if(-1:Int)<0 then _ else _) _ _ s;rw[AG (by decide)];refine AA (wpAny_rule ?_);first
 | show wpAny _ _ (newExc (.type "StopIteration") [] >>= _) _ _ _
 | (refine AA ?_;show wpAny _ _ (newExc (.type "StopIteration") [] >>= _) _ _ _)
 refine AA ?_;simp only[newExc,newTuple];refine AA (CL ?_ (by size_fits));refine AA (m:=firstArgMember _ _) (wpAny_of_eq (a:=Value.none) (by first | rfl | (simp only[firstArgMember];rfl)) ?_);refine CL ?_ (by size_fits);have ah:=AR d;refine L2.Ay (A:=A.in1) (h:=h) hh ?_ (BA _ rfl) rfl (by simp;lia) (AF _ (AF _ d)) i D ?_
 · intro z
   rw[z] at ah;exact absurd ah (EN.mpr (by first | (rw[ER];exact DZ _) | (show _<=(Heap.push _ _).objs.size;rw[ER];exact DZ _)))
 refine AA (wpAny_isInstance (T:="StopIteration") (b:=true) ⟨_,CH _ (BA _ rfl) rfl,rfl⟩ isSubtype_stop ?_);refine AK (j _ fun b ob U eo=>?_);have H:=AR eo;refine(BE _ _ ?_).trans (AF _ (AF _ eo));intro z;rw[← z] at H;exact absurd H (EN.mpr (by first | (rw[ER];exact DZ _) | (show _<=(Heap.push _ _).objs.size;rw[ER];exact DZ _)))
theorem Walks.listRevH(hs:J1)(hh:A.handled=none\/∃ p∈hs,A.handled=some (.ref p.1)/\∃ ve,p.2.data=.fields ve/\ve[2]?=some .none)(I l:A4)(ac:l≠I)(hn:∀ p∈hs,p.1≠I)(af:Array A2) :
  Walks prog w A I (I::l::hs.map (·.1)) [I] af.size (fun i v=>af[af.size - 1 - i]?=some v) (fun i h=>i<=af.size/\h.IsRevIter I l ((af.size:Int) - 1 - (i:Int))/\h.IsList l af/\∀ p∈hs,h.get? p.1=some p.2) where
 sub:=fun b U=>by simp at U;simp[U]
 frame:=fun _ _ _ x Y=>⟨x.1,x.2.1.at fun o e=>Y I (by simp) o e,x.2.2.1.at fun o e=>Y l (by simp) o e,fun p hp=>Y p.1 (AX _ (AX _ (GQ hp))) p.2 (x.2.2.2 p hp)⟩
 item:=fun i s Q E hi x j=>by
  have e:(af.size:Int) - 1 - (i:Int)=((af.size - 1 - i:Nat):Int):=by lia
  have c:=x.2.1;rw[e] at c;have hx:af[af.size - 1 - i]?=some (af[af.size - 1 - i]'(by lia)):=Array.getElem?_eq_getElem (by lia);refine wpAny_pyNext_rev_item c x.2.2.1 hx fun h' a F=>?_
  have e2:((af.size - 1 - i:Nat):Int) - 1=(af.size:Int) - 1 - ((i+1:Nat):Int):=by lia
  rw[e2] at a;exact j _ h' s.toks hx ⟨hi,a,x.2.2.1.at fun o eo=>(F.2 l ac).trans eo,fun p hp=>(F.2 p.1 (hn p hp)).trans (x.2.2.2 p hp)⟩ fun b o U eo=>F.extBut b o (fun h=>U (by simp[h])) eo
 done:=fun s Q E x j=>by
  have e:(af.size:Int) - 1 - (af.size:Int) = -1:=by lia
  have c:=x.2.1;rw[e] at c;rcases hh with hh | ⟨p,hp,hh,ve,h1,h2⟩
  ·exact wpAny_pyNext_rev_end hh c fun h' k=>j h' s.toks fun b o U eo=>k b o (fun h=>U (by simp[h])) eo
  ·exact El hh (x.2.2.2 p hp) h1 h2 c fun h' k=>j h' s.toks fun b o U eo=>k b o (fun h=>U (by simp[h])) eo
 self:=fun _ _ _ _ x j=>wpAny_pyIter_revIter x.2.1 j
end PySem
variable{b₀:PySem.Stmt}{np:PySem.Pos}
namespace L2
open PySem PySem.Spec PyProof.Rows
section
variable{f:Zzu}
theorem Hg(h:Gf)(o:Obj):(h.push o).objs.size=h.objs.size+1:=by cases h;exact Array.size_push ..
def RE(fs:Zzv):Ev->C2 (C3 Dat):=fun env=>match fs env with
 | some [.lst xs]=>some xs.reverse
 | _=>none
theorem Y5.rev:∀ {xs:C3 V} {us:C3 A2},Y5 xs us->Y5 xs.reverse us.reverse
 | [],[],_=>.nil
 | x::xs,u::us,.cons h r=>by rw[HJ,HJ];exact(Y5.rev r).append (.cons h .nil)
theorem gD{M q1 q2:Pos}(B:Gl X "list")(D:X.mg "list" = none)(E:Gl X "reversed")(G:X.mg "reversed" = none)(ha:Om true X [e] fs)(O:PQ X:=by first | exact PQ.calm rfl | assumption)
  (J:bootBuiltins "list" = some (.type "list"):=by decide +kernel) (L:bootBuiltins "reversed" = some (.type "reversed"):=by decide +kernel)
  (m:starEach [.Call (.Name "reversed" p2) [e] [] q2] X.env=[(false,eval (.Call (.Name "reversed" p2) [e] [] q2) X.env)]:=by rfl)
  (P:starEach [e] X.env=[(false,eval e X.env)]:=by rfl) :
  ML X (.Call (.Name "list" M) [.Call (.Name "reversed" p2) [e] [] q2] [] q1) (RE fs):=by
 intro aa s σ H Q I ⟨env,R,A,ds,k,e1,q⟩;unfold RE at e1;split at e1
 case h_2=>cases e1
 rename_i xs j;cases e1;refine Call_ (Dw I B D J (callWith_type1 ?_ m rfl));rw[m];refine Calls.spliced_cons ?_;refine Call_ (Dw I E G L (callWith_type1 (Vk (ha q2 aa s σ H (fun vs H1=>∃ v,Zu H H1/\vs=[v]/\Pk X.K A H1 (.lst xs) v) I ⟨env,R,A,[.lst xs],k,j,fun vs H1 s1 r1=>?_⟩) fun us s1 ⟨vs,H1,I1,r1,v,sm,ev,pv⟩=>?_) P rfl))
 ·obtain⟨v,e3,M⟩:=r1.one
  exact⟨v,s1,e3,M⟩
 subst ev;obtain⟨a,ys,ea,h1,r2⟩:=pv.lst;subst ea;obtain⟨u,rfl,N⟩:=Ef r1;cases N;obtain⟨its,n,pl,hz⟩:=I1.list h1.sq;refine call_reversed_list pl.isList ?_;refine Calls.spliced_nil ?_;have ah:=I1.hok;obtain⟨C,d,_⟩:=id pl.isList;have ac:a≠s1.heap.objs.size:=BU (AR d);obtain⟨hs,g,h⟩:∃ hs:C3 (A4×Obj),(X.A.in1.in1.handled=none\/∃ p∈hs,X.A.in1.in1.handled=some (.ref p.1)/\∃ ve,p.2.data=.fields ve/\ve[2]?=some .none)/\∀ p∈hs,s1.heap.get? p.1=some p.2:=by
  rcases O _ _ _ _ I1 with z | ⟨eh,f,vh,z1,z2,z3,z4⟩
  ·exact⟨[],.inl z,fun p hp=>by cases hp⟩
  ·exact⟨[(eh,f)],.inr ⟨_,AL.mpr rfl,z1,vh,z3,z4⟩,fun p hp=>by rw[AL.mp hp];exact z2⟩
 have ar:∀ p∈hs,p.1≠s1.heap.objs.size:=fun p hp=>BU (AR (h p hp))
 have W:=(Walks.listRevH (prog:=X.prog) (w:=X.w) (A:=X.A.in1.in1) hs g s1.heap.objs.size a ac ar its.toArray).toS;have ae:=n.length;refine B6 W (T:="list_reverseiterator") (fun i s st=>st.2.1.typeIs) (.inr rfl) (jW _ _ fun s st=>st.2.1.typeIs) ⟨DJ _,?_,pl.isList.at fun o eo=>AF _ eo,fun p hp=>AF _ (h p hp)⟩ ?_ (by simp) ?_ ?_
 ·refine⟨_,BA _ rfl,rfl,?_⟩
  simp[revObj]
 ·intro b U
  rcases BI.mp U with rfl | U
  ·rw[Hg];exact GG _
  ·rcases BI.mp U with rfl | U
   ·exact AU (AR d) (by rw[Hg];lia)
   ·obtain⟨p,hp,rfl⟩:=CZ.mp U
    exact AU (AR (h p hp)) (by rw[Hg];lia)
 ·intro h' tk c c' Y hl hi
  have kp:∀ b o,s1.heap.get? b=some o->h'.get? b=some o:=fun b o F=>Y b o (fun hm=>by
   have ah:=AR F;rw[AL.mp hm] at ah;exact DA _ ah) (AF _ F)
  have r:c.toList=its.reverse:=by
   apply IL;intro i;by_cases y:i<its.length
   ·have t:i<c.size:=by rw[hi.1];simpa using y
    have:=hi.2 i c[i] (by simp[t]);rw[Array.getElem?_toList,Array.getElem?_eq_getElem t,List.getElem?_reverse y];simpa using this.symm
   ·rw[FP (l:=c.toList) (by rw[FB,hi.1];simpa using y),FP (l:=its.reverse) (by rw[HW];exact Nat.le_of_not_lt y)]
  generalize hS:({ heap:=s1.heap.push (revObj a ((its.toArray.size:Int) - 1)),gens:=s1.gens,drawn:=s1.drawn,toks:=s1.toks,os:=s1.os }:C0).heap.objs.size=S at hl ⊢;have x:s1.heap.objs.size<=S:=by
   rw[← hS];show _<=(Heap.push _ _).objs.size;rw[Hg];exact DZ _
  have I2:C' X aa σ (W7 H1 S (.lst ys.reverse)) { s1 with heap:=h',toks:=tk }:=I1.laid kp x (show V2 X.prog X.w _ h' _ (.lst ys.reverse) from⟨by rw[HW];exact hz,c.toList,c',by rw[r];exact n.rev,by rw[Array.toArray_toList];exact hl⟩);exact⟨.ref S,_,I2,rfl,(q.mono sm).at (vs:=ys.reverse) (by rw[HW,← Y0 r2];exact hz) (kY r2) _ (I1.hok.fresh x)⟩
 ·rw[AT,← ae];exact hz
def UQ:Dat->Dat->C2 Dat
 | .str x,.int k=>if 1<=k/\k<=1000/\x.length<=1000 then some (.str (Txt.mul x k)) else none
 | _,_=>none
theorem cU(x:Array α)(c:α):∀ (n:Nat) (l:Array α),c∈(List.replicate n x).foldl (·++·) l->c∈l\/c∈x
 | 0,l,h=>.inl h
 | n+1,l,h=>by
  rw[List.replicate_succ,List.foldl_cons] at h;rcases cU x c n _ h with h | h
  ·rcases Array.mem_append.mp h with h | h
   ·exact .inl h
   ·exact .inr h
  ·exact .inr h
theorem lH{x:Str}{k:Int}(h:PyData.strOk x=true):PyData.strOk (Txt.mul x k)=true:=by
 unfold Txt.mul;split
 ·unfold PyData.strOk Str.empty;simp
 ·split
  ·exact h
  ·unfold PyData.strOk at h ⊢
   rw[IE] at h ⊢;intro c O;rcases cU x.cps c _ _ O with z | z
   ·simp at z
   ·exact h c z
theorem eG:Ek X (binaryOp .Mult) UQ:=fun aa s σ H x y v u Q I S m L=>by
 obtain⟨A,a,b,d,mu,e,M,p2,q⟩:=L;unfold UQ at e;split at e
 ·rename_i z k
  split at e
  ·rename_i hz
   cases e;obtain⟨e1,k1⟩:=M.str;have e2:=p2.int;subst e1 e2;obtain⟨t,rfl⟩:=S;obtain⟨t',rfl⟩:=m;have hl:(Txt.mul z k).length<=1000*1000:=len_mul_leN hz.2.2 hz.2.1;refine SB.mul (mulOk_of 1000 1000 hz.2.2 hz.2.1 (by lia) (by decide) (by decide)) fun t' k'=>⟨.str (Txt.mul z k),H,I.tok _,⟨_,rfl⟩,q.here (Dt (KW.of (lH k1.ok) (AZ hl (by decide))))⟩
  ·cases e
 ·cases e
def Es:Dat->Dat->C2 Dat
 | .int i,.int j=>b3 (.int i) (.int j)
 | .str x,.int k=>UQ (.str x) (.int k)
 | _,_=>none
theorem Em:Ek X (binaryOp .Mult) Es:=Ek.or jE eG fun x y d e=>by
 unfold Es at e;split at e
 ·exact .inl e
 ·exact .inr e
 ·cases e
end
end L2
namespace L2
open PySem
section
variable{g:Array GenState}{d:Drawn}{t:Nat}{os:OsState}
variable{N:A4}{sub:C3 A2}
theorem Fb(T:OwnTail h [.type "ValueError",.type "Exception",.type "BaseException",.type "object"] bm){e t0:A4}{x:A2}{Q:KD}
  (hC:h.get? C=some (excClassObj nm q C N bs bm hdct sn sub ab col dd k0 k1 k2 k3 k5 newId)) (he:h.get? e=some { cls:=.ref C,dict:=dct,data:=.fields #[.ref t0,.none,.none,.none,.bool false,.none] })
  (hq:∀ h',h'.get? e=some { cls:=.ref C,dict:=dct,data:=.fields #[.ref h.objs.size,.none,.none,.none,.bool false,.none] }->(∀ b o,b≠e->h.get? b=some o->h'.get? b=some o)->h.objs.size<=h'.objs.size->Q .none ⟨h',g,d,t,os⟩) :
  wpAny (model prog w) A (call (.builtin "ValueError.__init__") [.ref e,x]) Q E ⟨h,g,d,t,os⟩:=by
 have F:=DN;refine FV (FX F.init.plain F.initEntry (wpAny_check_init_subU F T hC he rfl ?_));have a:=AF { cls:=.type "tuple",data:=.seq #[x] } he
 wp_walk
 refine hq _ ?_ ?_ ?_
 ·rw[CH _ a rfl]
  rfl
 ·intro b o U c
  rw[BE _ _ (AO U)];exact AF _ c
 ·rw[Heap.size_after_update,ER];exact DZ _
end
end L2
variable{k1 k2:L2.Ev->L2.Fl}
namespace L2
open PySem PySem.Spec PyProof.Rows PySem.W
open PySem.Builtin PySem.Builtin.ObjectAttr
def Mw:C3 A2:=[.type "ValueError",.type "Exception",.type "BaseException",.type "object"]
section
variable{K:Frag}{x a b:A4}{cd:ClassData}{R:Result->C0->Prop}{v:A2}
theorem XH{g:Obj}{od:C2 Obj}(X:K.In s.heap)(I:InstAt s.heap x g C od)(O:clsIn K C=some cd)(hm:cd.mro=.ref a::.ref b::Mw)(ha:findIn K (.ref C) name=some none)
  (h:wpAny (model prog w) A.in1 (storeInOwnDict (.ref x) (.ref C) (.str name tk) name v false)
   (fun B s'=>match B with | .done f=>R (.ok f) s' | .again c'=>c'.quiet=true/\codeAny (model prog w) A c' R s') (fun e s'=>R (.error e) s') s) :
  codeAny (model prog w) A (.call (.builtin "object.__setattr__") ⟨[.ref x,.str name tk,v],[]⟩) R s:=by
 have c:=PySem.F.store_object;have sub:Looks (model prog w) s.heap (isInstance (.ref x) (.type "object")) true:=I.type.andThen (looks_mroIn X (by unfold mroIn;rw[O,Option.bind_some,hm];rfl));refine FX c.slot.plain c.entry (@check_slot (model prog w) _ _ s "object.__setattr__" "object" "__setattr__" (.ref x) [.str name tk,v] [] _ c.kind c.split sub (c.args (.ref x) (.str name tk) v) ?_);have d:Looks (model prog w) s.heap (mroOf (.ref C)) cd.mro:=(looks_clsIn X O).andThen .now;rw[osa_eq,refuse_eq];refine AA (AA (I.type.here (AA (d.here ?_))));rw[hm,refuseLoop_ref,refuseLoop_ref,show Mw=[.type "ValueError",.type "Exception",.type "BaseException",.type "object"] from rfl,PySem.F.store_ValueError.passes];refine AK (AA (I.type.here (AA ((looks_findIn X ha).here (AA ?_)))));exact AK h
end
section
variable{g:Array GenState}{d:Drawn}{t:Nat}{os:OsState}{x:A4}{v:A2}{oC:Obj}{cd:ClassData}
theorem jm{o:Obj}{Q:Fin->C0->Prop}(hx:h.get? x=some o)(O:o.cls=.ref C)(n:∀ c,o.data≠.cls c)(I:o.dict=none)(hC:h.get? C=some oC)(M:oC.data=.cls cd)(W:cd.hasDict=true)
   (hq:∀ h' r,h'.get? x=some { cls:=o.cls,dict:=some h.objs.size,data:=o.data,slots:=o.slots }->h'.Ns1 h.objs.size (fun y=>if y=name then some v else none)->(∀ b ob,b≠x->h.get? b=some ob->h'.get? b=some ob)->h.objs.size<h'.objs.size->Q (.done (.ret .none)) ⟨h',g,d,r,os⟩) :
   wpAny (model prog w) A (storeInOwnDict (.ref x) (.ref C) (.str name tk) name v false) Q E ⟨h,g,d,t,os⟩:=by
 unfold storeInOwnDict;repeat (first | (with_reducible refine BN hx ?_;rw[O]) | with_reducible refine BN hC ?_ | wp_step)
 rw[M];refine AK ?_;rw[W,AQ (by decide),I];show wpAny _ _ (if(!true||!typeHasDict (Value.ref C))=true then pure none else _) _ _ _;rw[AQ (by simp[typeHasDict])];have hx₁:(h.push { cls:=.type "dict",data:=.dict #[] }).get? x=some o:=AF _ hx;have m:x≠h.objs.size:=BU (AR hx);split
 · rename_i c k
   exact absurd k (n c)
 · refine AA (wpAny_alloc' ?_)
   refine AA (wpAny_update' hx₁ ?_);refine AK ?_;have p:((h.push { cls:=.type "dict",data:=.dict #[] }).update x fun o=>{ cls:=o.cls,dict:=some h.objs.size,data:=o.data,slots:=o.slots }).get? h.objs.size
       = some { cls:=.type "dict",data:=.dict #[] } :=
     (Heap.get?_update_ne _ _ _ _ m.symm).trans (Heap.get?_push_at rfl rfl)
   have aa:((h.push { cls:=.type "dict",data:=.dict #[] }).update x fun o=>{ cls:=o.cls,dict:=some h.objs.size,data:=o.data,slots:=o.slots }).Ns h.objs.size (fun _=>none) :=
     ⟨_,#[],_,p,rfl,fun e he=>absurd he (by simp),fun _=>rfl⟩
   show wpAny _ _ (storeInDict h.objs.size (.str name tk) name v) _ _ _;unfold storeInDict newKeyGuard;refine AA (AK (AA (wpAny_nsSet1 (Heap.Ns1.of_empty aa) fun h' F hs=>?_)));obtain⟨B,q,s,a,f,i⟩:=F.count (Within.cons name v Within.nil);refine AA (wpAny_lookBehind a (by rw[f];exact pastItsLine_dict (AZ i (by rw[BC,IX,DV];lia))) ?_)
   wp_walk
   have ae:h'.get? x=some { cls:=o.cls,dict:=some h.objs.size,data:=o.data,slots:=o.slots }:=by
     refine(hs.2 x m).trans (CH _ hx₁ ?_);have ag:=(Heap.get?_some_iff.mp hx).2;obtain⟨oc,od,u,j⟩:=o;cases u<;>first | rfl | exact ag
   refine hq h' _ ae F (fun b ob l U=>?_) ?_
   · exact(hs.2 b (BU (AR U))).trans ((Heap.get?_update_ne _ _ _ _ l).trans (AF _ U))
   · have h1:=hs.1
     rw[Heap.size_after_update,ER] at h1;lia
theorem n6{o:Obj}{ns:C3 Str}{Q:Fin->C0->Prop}(hx:h.get? x=some o)(O:o.cls=.ref C)(p:o.dict=some dx)(N:h.Ns1 dx mA)(hw:Within mA ns)(hsz:ns.length<=1000)(hC:h.get? C=some oC)(M:oC.data=.cls cd)(W:cd.hasDict=true)
   (hq:∀ h' r,h'.Ns1 dx (fun y=>if y=name then some v else mA y)->(∀ b ob,b≠dx->h.get? b=some ob->h'.get? b=some ob)->h.objs.size<=h'.objs.size->Q (.done (.ret .none)) ⟨h',g,d,r,os⟩) :
   wpAny (model prog w) A (storeInOwnDict (.ref x) (.ref C) (.str name tk) name v false) Q E ⟨h,g,d,t,os⟩:=by
 unfold storeInOwnDict;repeat (first | (with_reducible refine BN hx ?_;rw[O]) | with_reducible refine BN hC ?_ | wp_step)
 rw[M];refine AK ?_;rw[W,AQ (by decide),p];refine AK ?_;show wpAny _ _ (storeInDict dx (.str name tk) name v) _ _ _;unfold storeInDict newKeyGuard;refine AA (AK (AA (wpAny_nsSet1 N fun h' F hs=>?_)));obtain⟨B,q,s,a,f,i⟩:=F.count (Within.cons name v hw);refine AA (wpAny_lookBehind a (by rw[f];exact pastItsLine_dict (AZ i (by rw[BC,DV];lia))) ?_)
 wp_walk
 exact hq h' _ F (fun b ob l U=>(hs.2 b l).trans U) (by have h1:h'.objs.size=h.objs.size:=hs.1;lia)
end
open PySem.Builtin PySem.Builtin.ObjectAttr
section
variable{g:Array GenState}{d:Drawn}{t:Nat}{os:OsState}{x:A4}{v:A2}{oC o:Obj}{cd:ClassData}{K:Frag}
end
open PySem.Builtin PySem.Builtin.ObjectAttr
section
variable{g:Array GenState}{d:Drawn}{t:Nat}{os:OsState}{x:A4}{o:Obj}{K:Frag}
theorem fh{R:Result->C0->Prop}(hx:h.get? x=some o)(O:o.cls=.ref C)(hs:Looks (model prog w) h (isSubtype (.ref C) (.type "object")) true)(hq:R (.ok (.ret (.ref C))) ⟨h,g,d,t,os⟩) :
   codeAny (model prog w) A (.call (.builtin "getset_descriptor.__get__") ⟨[.builtin "object.__class__",.ref x,.ref C],[]⟩) R ⟨h,g,d,t,os⟩:=by
 have a:(⟨h,g,d,t,os⟩:C0).TypeIs (.builtin "object.__class__") "getset_descriptor" := FS;have b:Looks (model prog w) h (isSubtype (.ref C) (.type (".".intercalate ("object.__class__".cutAt '.').dropLast))) true:=by rw[PySem.F.owner_object_class];exact hs
 refine FX PySem.F.slot_gs_get.plain PySem.F.entry_gs_get (PySem.F.slot_gs_get.check _ _ _ _ _ _ _ _ a (PySem.F.args_gs_get _ _ _) ?_);repeat (any_goals (first | assumption | (with_reducible refine BN hx ?_;rw[O]) | with_reducible refine b.at ?_ | wp_step))
 refine⟨GP _ (by decide +kernel),HQ PySem.F.entry_object_class ?_⟩;repeat (any_goals (first | assumption | (with_reducible refine BN hx ?_;rw[O]) | wp_step))
theorem gq{Q:Fin->C0->Prop}(X:K.In h)(hx:h.get? x=some o)(O:o.cls=.ref C)(ha:findIn K (.ref C) "__class__" = some (some (.builtin "object.__class__")))(hs:Looks (model prog w) h (isSubtype (.ref C) (.type "object")) true)(hq:Q (.done (.ret (.ref C))) ⟨h,g,d,t,os⟩) :
   wpAny (model prog w) A (Builtin.«object.__getattribute__» ⟨[.ref x,.str "__class__" tk],[]⟩) Q E ⟨h,g,d,t,os⟩:=by
 have a:(⟨h,g,d,t,os⟩:C0).TypeIs (.builtin "object.__class__") "getset_descriptor" := FS;have b:=looks_findIn (M:=model prog w) X ha;have q:=FS;have f6:=PySem.F.slot_gs_get.lookup;have f7:=PySem.F.slot_gs_set.lookup;repeat (any_goals (first | assumption | (with_reducible refine BN hx ?_;rw[O]) | with_reducible refine b.at ?_ | wp_step))
 refine fh hx O hs ?_;repeat (any_goals (first | assumption | wp_step))
theorem km{Q:C2 A2->C0->Prop}(X:K.In h)(hx:h.get? x=some o)(O:o.cls=.ref C)(ha:findIn K (.ref C) "__class__" = some (some (.builtin "object.__class__")))(hs:Looks (model prog w) h (isSubtype (.ref C) (.type "object")) true)
   (r:Looks (model prog w) h (isInstance (.ref x) (.type "BaseException")) true) (c:findIn K (.ref C) "__getattribute__" = some (some (.builtin "BaseException.__getattribute__"))) (e:findIn K (.ref C) "__getattr__" = some none) (hq:Q (some (.ref C)) ⟨h,g,d,t+1,os⟩) :
   wpAny (model prog w) A (getAttr? (.ref x) "__class__") Q E ⟨h,g,d,t,os⟩:=by
 have b:=looks_findIn (M:=model prog w) X c;have L2:=looks_findIn (M:=model prog w) X e;have f3:=PySem.F.excAttr_ValueError.ga.bind (.ref x);have f:(Value.builtin "BaseException.__getattribute__" == Value.builtin "object.__getattribute__")=false:=by decide +kernel
 have hx1:(onTheHeap (Value.ref C)&&Value.builtin "BaseException.__getattribute__" == Value.builtin "object.__getattribute__")=false:=by rw[f];rfl
 have Y:builtinKind "BaseException.__getattribute__" = some .slot:=by decide +kernel
 have a:splitId "BaseException.__getattribute__" = some ("BaseException","__getattribute__"):=by decide +kernel
 unfold getAttr? getAttrBy?;repeat (any_goals (first | assumption | (with_reducible refine BN hx ?_;rw[O]) | with_reducible refine b.at ?_ | with_reducible refine L2.at ?_ | wp_step))
 refine FX PySem.F.excAttr_ValueError.ga.plain PySem.F.entry_bexc_ga (@check_slot (model prog w) _ _ ⟨h,g,d,t+1,os⟩ "BaseException.__getattribute__" "BaseException" "__getattribute__" (.ref x) [.str "__class__" t] [] _ Y a r (PySem.F.args_bexc_ga (.ref x) (.str "__class__" t)) ?_);refine gq X hx O ha hs ?_;repeat (any_goals (first | assumption | wp_step))
structure J3 (K:Frag) (C:Addr):Prop where
 cd:∃ cd,clsIn K C=some cd/\cd.hasDict=true/\∃ a b,cd.mro=.ref a::.ref b::Mw
 cl:findIn K (.ref C) "__class__" = some (some (.builtin "object.__class__"))
 ga:findIn K (.ref C) "__getattribute__" = some (some (.builtin "BaseException.__getattribute__"))
 gh:findIn K (.ref C) "__getattr__" = some none
 sa:findIn K (.ref C) "__setattr__" = some (some (.builtin "object.__setattr__"))
theorem J3.sub(c:J3 K C)(X:K.In h)(T:String)(hT:Mw.contains (.type T)=true){M:Model}:Looks M h (isSubtype (.ref C) (.type T)) true:=by
 obtain⟨cd,O,_,a,b,hm⟩:=c.cd;have f:Value.type T∈Mw:=by simpa using hT
 exact looks_mroIn X (by unfold mroIn;rw[O,Option.bind_some,hm];simp[f])
theorem J3.ld(c:J3 K C)(X:K.In h):∃ oC cd,h.get? C=some oC/\oC.data=.cls cd/\cd.hasDict=true:=by
 obtain⟨cd,O,hd,_⟩:=c.cd;unfold clsIn at O;split at O
 ·rename_i c' d' G g J
  cases O;exact⟨_,_,X _ _ J,rfl,hd⟩
 ·cases O
def lV(x C:A4)(h:Gf):Prop:=∃ o,h.get? x=some o/\o.cls=.ref C
theorem df(c:J3 K C):KitX K (.ref x) (.ref C) (lV x C) where
 ty:=fun M h _ ⟨o,h1,h2⟩=>h2▸(Looks.ld h1).andThen .now
 it:=fun M h X _=>by
  obtain⟨oC,cd,h1,h2,_⟩:=c.ld X;intro A' Y E' s' k q;unfold isType loadHead;refine AA (wpAny_loadPart (k _ _ h1) ?_);rw[h2];exact AK q
 ne:=fun h b dd its n sl X a=>by
  obtain⟨oC,cd,h1,h2,_⟩:=c.ld X;refine IM.mpr fun q=>?_
  have e:C=b:=Value.ref.inj (DC.mp q);subst e;rw[h1] at a;cases a;cases h2
 ca:=fun {prog w A E Q s} X p k=>by
  obtain⟨o,h1,h2⟩:=p;obtain⟨h,g,d,t,os⟩:=s;exact km X h1 h2 c.cl (c.sub X "object" (by decide)) ((h2▸(Looks.ld h1).andThen .now:Looks _ _ (typeOf (.ref x)) (.ref C)).andThen (c.sub X "BaseException" (by decide))) c.ga c.gh k
end
end L2
namespace L2
open PySem PySem.Spec PyProof.Rows
theorem Jv(ok:Ee P w H h)(k:O5 l ch h h')(O:∀ b∈ch,H b=none)(hf:∀ b∈He l,H b=none):Ee P w H h':=fun a o e=>by
 have ag:∀ b u,H b≠none->h.get? b=some u->h'.get? b=some u:=fun b u n q=>(k b u q fun z=>n (O b z)).1 fun z=>n (hf b z)
 exact(ok a o e).stay (fun b u z q=>ag b u (by rcases z with z | z<;>simp_all) q) (fun _ q=>q) fun _ _ q=>q
theorem Et(k:O5 l ch h h')(O:∀ b∈ch,H b=none):Un (He l) ch H H h h' where
 keep:=fun b o q n hf hx=>(k b o q hx).1 hf
 slot:=fun b o q n hf hx=>(k b o q hx).2
 free:=fun b o q n hx=>n
 there:=fun b o q hx=>by obtain⟨sl,z⟩:=(k b o q hx).2;exact⟨_,z⟩
 tups:=fun b xs q=>q
 frzs:=fun b o u q=>q
 tbls:=fun b ps q=>⟨#[],by simpa using q⟩
def LF(P:Ff)(w:Fn)(base:Gf)(pl:Bool:=false):F9:=fun outer H s E ev s'=>∃ e C dct T H' c2,ev=.ref e/\s'.os=s.os/\AllBare s'.gens/\Un (He outer) [] H H' s.heap s'.heap/\Ee P w H' s'.heap /\
 s.heap.objs.size<=e/\s.heap.objs.size<=T/\H' e=none/\H' T=none/\Kc s'.heap base e T (.ref C,c2) dct .none/\(pl=true->c2=some .none)/\Ct H H' dct/\E (.ref C) dct H'
theorem C'.noBase(I:C' X aa σ H s){e:A4}(h:X.s₀.heap.objs.size<=e):X.base.get? e=none:=by
 cases q:X.base.get? e with
 | none=>rfl
 | some o=>exact absurd (AR (I.ok.bs e o q).1) (EN.mpr h)
theorem L7{Y:Cx}{E:XK}{e:A4} 
  (I:C' (Qq (LF P w base pl) P w K mg base N ai scope f cd A outer s H E) aa σ H' s') (x:SC Y aa H' s'.heap e C dct) (R:Y={ Qq (LF P w base pl) P w K mg base N ai scope f cd A outer s H E with pl:=pl }) (ak:Ct H H' dct) (q:E (.ref C) dct H') :
  (Qq (LF P w base pl) P w K mg base N ai scope f cd A outer s H E).xe (.ref e) s':=by
 subst R;have ag:(A.deeper (envOfC ai scope s.heap.objs.size f cd)).frames=some (envOfC ai scope s.heap.objs.size f cd::outer):=I.ok.frames;have hl:s'.heap.FunFrames base (envOfC ai scope s.heap.objs.size f cd::outer):=I.stack;have t:base.StaysIn s'.heap:=I.bk;have lo:s.heap.objs.size<=e:=x.lo;have ac:base.get? e=none:=I.noBase x.lo;have bs:Un (He outer) [] H H' s.heap s'.heap:=I.base;have L:∀ b∈He (envOfC ai scope s.heap.objs.size f cd::outer),H' b=none:=I.stkFree;have B:∀ (h':Gf) (F:A4) (c2:C2 A2) (ch:C3 A4),(pl=true->c2=some .none)->(∀ b∈ch,H' b=none/\s.heap.objs.size<=b)->s.heap.objs.size<=F->H' F=none->Kc h' base e F (.ref C,c2) dct .none->O5 (envOfC ai scope s.heap.objs.size f cd::outer) ch s'.heap h' ->
   LF P w base pl outer H s E (.ref e) { s' with heap:=h' }:=fun h' F c2 ch D Q hT al ht kp=>by
  have a:∀ {b:A4} {o:Obj},s.heap.get? b=some o->b∉ch:=fun {b o} q z=>absurd (AR q) (EN.mpr (Q b z).2)
  have c:∀ {b:A4} {o:Obj},s.heap.get? b=some o->b∉He outer->b∉He (envOfC ai scope s.heap.objs.size f cd::outer):=fun {b o} q n z=>by
   rcases BI.mp (I.stkSub b z) with e1 | e1
   ·have:b=s.heap.objs.size:=e1
    exact absurd (AR q) (by rw[this];exact DA _)
   ·exact n e1
  refine⟨e,C,dct,F,H',c2,rfl,I.os,I.bare,⟨?_,?_,?_,?_,bs.tups,bs.frzs,bs.tbls⟩,Jv I.hok kp (fun b z=>(Q b z).1) L,lo,hT,x.un,al,ht,D,ak,q⟩
  ·exact fun b o q n hf hx=>(kp b o (bs.keep b o q n hf hx) (a q)).1 (c q hf)
  ·intro b o q n hf hx
   obtain⟨sl,z⟩:=bs.slot b o q n hf hx;obtain⟨g,G⟩:=(kp b _ z (a q)).2;exact⟨g,G⟩
  ·exact fun b o q n hx=>bs.free b o q n hx
  ·intro b o q hx
   obtain⟨o',z⟩:=bs.there b o q hx;obtain⟨sl,G⟩:=(kp b o' z (a q)).2;exact⟨_,G⟩
 have sz:s.heap.objs.size<=s'.heap.objs.size:=I.sz;rcases x.ob with⟨o,vs,he,O,hd,aq,h1,hp⟩ | ⟨T,c2,hT,al,_,ht,hp⟩
 ·refine Cj ag hl rfl he t ac aq h1 fun h' F d z1 z2 z3 z4=>?_
  rw[O,hd] at z3;exact B h' F _ [e] hp (fun b U=>by rw[AL.mp U];exact⟨x.un,lo⟩) (AZ sz d) (I.hok.fresh d) z3 z4
 ·refine gL ag hl rfl ht t ac fun h' F d z1 z2 z3 z4=>?_
  refine B h' F _ [e,T] hp (fun b U=>?_) (AZ sz d) (I.hok.fresh d) z3 z4;rcases BI.mp U with e1 | e1
  ·rw[e1];exact⟨x.un,lo⟩
  ·rw[AL.mp e1];exact⟨al,hT⟩
def RN(K:JT)(fr:Bool)(R:AS)(H:Hp)(Q:VK)(E:XK):Rs->Prop
 | .ok d=>∀ v H',Zu H H'->Rp K (av H' R) d v->(fr=true->UL K ⟨H,R,true⟩ H' d v)->Q v H'
 | .exc c fs=>∀ C dct H',Zu H H'->Wg K c C->K' K (av H' R) dct fs->E (.ref C) dct H'
 | .no=>False
def j'(K:JT)(fr:Bool)(p:Nat)(F:C3 Dat->Rs):Sp:=fun vs H Q E=>vs.length=p/\∃ ds R,Q8 R H/\Wr K (av H R) ds vs/\RN K fr R H Q E (F ds)
structure JY (P:Program) (w:World) (K:JT) (mg:KB) (base:Heap) (k:Nat) (x:Str) (ps:List Str) (fr:Bool) (F:List Dat->Rs) (pl:Bool:=false):Prop where
 ex:∃ f fd,KC P w K mg base (LF P w base pl) k f fd ps (j' K fr ps.length F)/\mg x=some (.ref f)/\PySem.W.keepIn K (.ref f)=true/\Si K fd ps []
 len:∀ ds,F ds≠.no->ds.length=ps.length
theorem KY.okX{x:Str}{st:C5}(F:KY K x ai st f fd)(S:FnScope N ps (Z6 st))(len:∀ vs H Q E,sp vs H Q E->vs.length=ps.length)
  (a:∀ (ah:A2) (A:C1) (outer:C3 IA) (s:C0) (H:Hp) (vs:C3 V) (Q:VK) (E:XK),JQ k (A.deeper (envOfC ai (Z6 st) s.heap.objs.size f ah))->sp vs H Q E ->
   ∃ t,Gr (Qq CX P w K mg base N ai (Z6 st) f ah A outer s H E) (Yk st) t/\t { nx:=fun _ H'=>Q .non H',rt:=Q } (JU N vs) H):KC P w K mg base CX (k+1) f fd ps sp:=by
 obtain⟨oc,od,kV,au,pm,an,ah,ct,j,rfl,lk,M⟩:=F.ex;exact YT lk M S len fun A outer s H vs Q E Z i=>a ah A outer s H vs Q E Z i
theorem Na{n p:Nat}(h:Yg n p g ds≠.no):ds.length=p:=by
 unfold Yg at h;split at h
 ·assumption
 ·exact absurd rfl h
theorem j2{E:XK}{p:Nat}{R:AS}{Q:VK}(hp:p<=N.length)(mu:Q8 R H)(r:Wr K (av H R) ds vs)
  (q:RN K fr R H Q E (Yg N.length p g ds)) :
  tS fr (Qq (LF P w base) P w K mg base N ai scope f cd A outer s H E) g (KG.mk (fun _ H'=>Q .non H') Q (fun _ _=>False) (fun _ _=>False)) (JU N vs) H:=by
 unfold Yg at q;split at q
 ·rename_i hl
  refine⟨Tt N.length ds,⟨H,R,true⟩,R,Kl mu r (by lia),rfl,?_⟩;split at q
  ·rename_i d' e
   rw[e];exact fun v H' s r n=>q v H' s r n
  ·rename_i env e
   rw[e];exact fun A' H' σ' s k=>q .non H' k.h0 Lx (fun _ ds e=>by cases e)
  ·rename_i env c fs e
   rw[e];exact fun A' H' σ' st k aa s' e C dct I O x hf ak=>L7 I x rfl ak (q C dct H' k.h0 O (hf.mono (M7 k.ra)))
  ·exact q.elim
 ·exact q.elim
theorem P8{x:Str}{st:C5}(D:JZ K mg x st)(S:FnScope N ps (Z6 st))
  (b:∀ (kV au pm:A2) (an:C2 A4) (ah ct:A2) (us:C3 A2),us.length=ps.length->bindArgs (PySem.W.fnOf x x (U9 st) (Yk st) (Z6 st) .none kV au pm an ah ct) ⟨us,[]⟩=pure (ps.zip us))
  (U:∀ (f:A4) (ah:A2) (A:C1) (outer:C3 IA) (s:C0) (H:Hp) (E:XK),JQ k (A.deeper (envOfC x (Z6 st) s.heap.objs.size f ah))->Oe fr (Qq (LF P w base) P w K mg base N x (Z6 st) f ah A outer s H E) (Yk st) g) :
  JY P w K mg base (k+1) x ps fr (Yg N.length ps.length g):=by
 have af:ps.length<=N.length:=by have:=CV List.length S.pre;rw[CJ] at this;lia
 obtain⟨f,fd,F,hm⟩:=D.ex;refine⟨⟨f,fd,F.okX S (fun vs H Q E h=>h.1) fun ah A outer s H vs Q E Z ⟨hl,ds,R,mu,r,q⟩=>⟨_,U f ah A outer s H E Z,?_⟩,hm,F.kp,F.binds b⟩,fun ds h=>Na h⟩;exact j2 af mu r q
section
variable{x:Str}
def PR(X:Cx)(fr:Bool)(F:C3 Dat->Rs)(fs:Zzv):TE:=fun σ H Q=>∃ env B A ds,F' X.K B A H σ env/\fs env=some ds/\match F ds with
 | .ok d=>∀ v H',Zu H H'->Rp X.K (av H' A) d v->Q v H'
 | .exc c fl=>∀ A' H' σ',JN A H A' H'->F' X.K B A' H' σ' env->σ'=σ->XW X B.H₀ A' H' σ' c fl
 | .no=>False
theorem Db(C:JY X.prog X.w X.K X.mg X.base k x ps fr F pl)(Z:JQ k X.A)(ha:Om false X (e::es) fs)(hg:Gl X x:=by rfl)
  (P:(x==("__debug__" : Str))=false:=by decide) (he:starEach (e::es) X.env=(false,eval e X.env)::starEach es X.env:=by rfl) (af:(backTo pos (starEach es X.env)).any (·.1)=false:=by rfl) (hp:X.pl=true->pl=true:=by first | exact fun _=>rfl | exact fun z=>nomatch z) :
  PE X (.Call (.Name x p) (e::es) [] pos) (PR X fr F fs):=by
 obtain⟨f,fd,i,hm,Y,U⟩:=C.ex;intro aa s σ H Q I ⟨env,B,A,ds,kk,e1,q⟩;refine CQ (Uj I hg hm ?_ P);refine GJ (h₀:=X.base) I.ok.mod.kin Y (Vk (ha pos aa s σ H (fun vs H1=>Zu H H1/\Wr X.K (av H1 A) ds vs) I ⟨env,B,A,ds,kk,e1,fun vs H1 s1 rs=>⟨s1,rs.rps⟩⟩) fun us s1 ⟨vs,H1,I1,r,sm,rs⟩=>⟨I1.kIn,?_⟩) he af;have ac:F ds≠.no:=fun z=>by rw[z] at q;exact q
 have hl:us.length=ps.length:=by rw[← r.length,Y0 rs];exact C.len ds ac
 let E:XK:=fun cls dct H'=>∃ c fl C,F ds=.exc c fl/\cls=.ref C/\Wg X.K c C/\Zu H1 H'/\K' X.K (av H' A) dct fl
 refine FV (EW (i.run X.A X.stack s1 H1 ⟨us,[]⟩ us vs Q E Z I1.env0 (by simpa using U s1 us I1.kIn (by simpa using hl)) r ⟨by rw[Y0 rs];exact C.len ds ac,ds,A,kk.mu.mono sm,rs,?_⟩) fun l s' hq=>?_)
 ·unfold RN
  split
  ·rename_i d hd
   rw[hd] at q;exact fun v H' s2 r2 _=>q v H' (sm.trans s2) r2
  ·rename_i c fl hd
   exact fun C dct H' s2 O hf=>⟨c,fl,C,hd,rfl,O,s2,hf⟩
  ·rename_i hd
   exact ac hd
 ·cases l with
  | error ev =>
   obtain⟨ex,C,dct,T,H',c2,rfl,J,m,un,hok,h1,h2,h3,h4,ht,D,ak,c,fl,g,hF,n,O,j,hf⟩:=hq;cases n;rw[hF] at q;have I2:C' X aa σ H' s':=I1.call' (ch:=[]) J un hok m (fun b z=>absurd z (by simp));have sz:X.s₀.heap.objs.size<=s1.heap.objs.size:=I1.sz;have np:∀ {a:A4},s1.heap.objs.size<=a->∀ p∈X.pn++aa,p.1≠a:=fun {a} ha p hp z=>by
    have:=(I1.pin p hp).1;rw[z] at this;exact absurd (AR this) (EN.mpr ha)
   exact q A H' σ (JN.same (sm.trans j)) (kk.mono (sm.trans j)) rfl aa s' ex C dct I2 O ⟨AZ sz h1,h3,.inr ⟨T,c2,AZ sz h2,h4,np h2,ht,fun z=>D (hp z)⟩,np h1⟩ hf (ak.mono fun b z=>kk.h0.none (sm.none z))
  | ok fl =>
   cases fl with
   | ret u=>exact I1.after hq
   | next=>exact False.elim hq
   | brk=>exact False.elim hq
   | cont=>exact False.elim hq
def Kx(i:Nat)(F:C3 Dat->Rs)(fs:Zzv):Ev->Fl:=fun env=>match fs env with
 | none=>.no
 | some ds=>match F ds with
  | .ok d=>.next (env.set i (.fz d))
  | .exc c fl=>.exc env c fl
  | .no=>.no
theorem WO(i:Nat)(hN:X.N.Nodup)(hi:X.N[i]?=some x)(hx:LC X.env.scope x)(he:PE X e (PR X aK F fs))(hs:swapsWith e (some (.Name x am)) pos.line X.env=pure false:=by rfl)
  (hf:X.fn x=true\/X.env.scope.names.lookup x=some .local:=by first | exact .inl rfl | exact .inr rfl | assumption):Ir fr X (.Assign [.Name x am] e pos) (Kx i F fs):=(Xf hN hi hx he hs hf).weak fun D σ H L=>by
 obtain⟨env,B,A,k,l,q⟩:=L;unfold Kx at q;split at q
 ·exact q.elim
 rename_i ds e1;refine⟨env,B,A,ds,k,e1,?_⟩;split at q
 ·rename_i d hd
  exact fun v H' s r=>q A H' _ (JN.same s) ((k.mono s).put i r)
 ·rename_i c fl hd
  exact fun A' H' σ' s k' _=>q A' H' σ' s k'
 ·exact q.elim
def Nt(F:C3 Dat->Rs)(fs:Zzv):Ev->Fl:=fun env=>match fs env with
 | none=>.no
 | some ds=>match F ds with
  | .ok d=>.ret d
  | .exc c fl=>.exc env c fl
  | .no=>.no
theorem YR(he:PE X e (PR X aK F fs)):Ir false X (.Return (some e) pos) (Nt F fs):=(B8 he).weak fun D σ H L=>by
 obtain⟨env,B,A,k,l,q⟩:=L;unfold Nt at q;split at q
 ·exact q.elim
 rename_i ds e1;refine⟨env,B,A,ds,k,e1,?_⟩;split at q
 ·rename_i d hd
  exact fun v H' s r=>q v H' (Ba k s r).1 (Ba k s r).2 (fun z=>by cases z)
 ·rename_i c fl hd
  exact fun A' H' σ' s k' _=>q A' H' σ' s k'
 ·exact q.elim
end
variable{vs:C3 C4}
theorem nv:∀ i:Fin 1000,(Str.ofString (toString (i.val:Int))).length<=3:=by decide +kernel
theorem Nv{i:Int}(h0:0<=i)(h1:i<1000):(Str.ofString (toString i)).length<=3:=by
 have:=nv ⟨i.toNat,by lia⟩;have e:((i.toNat:Nat):Int)=i:=by lia
 rw[e] at this;exact this
theorem Nu:∀ (ts:C3 Str) (k:Nat) (l:Str),(textFrom k l ts).length<=l.length+piled ts
 | [],k,l=>by rw[piled_nil];exact AY _
 | t::ts,k,l=>by
  have h:=Nu ts (k+1) (l++(if k > 0 then ", " else "" : String)++t);rw[piled_cons];have e:(l++(if k > 0 then ", " else "" : String)++t).length<=l.length+2+t.length:=by
   rw[FZ,FZ];have:(Str.ofString (if k > 0 then ", " else "")).length<=2:=by split<;>decide
   lia
  show(textFrom (k+1) (l++(if k > 0 then ", " else "" : String)++t) ts).length<=_;lia
def Ex(ns:C3 Int):Prop:=ns.length<=500/\∀ n∈ns,0<=n/\n<1000
theorem nX(h:Ex ns):(PyData.shown (.list (ns.map PyData.int))).length<=3000:=by
 have ag:∀ ns:C3 Int,(∀ n∈ns,0<=n/\n<1000)->piled (PyData.shownAll (ns.map PyData.int))<=5*ns.length:=by
  intro ns;induction ns with
  | nil=>intro _;simp[PyData.shownAll,piled_nil]
  | cons n ns ih =>
   intro hn;have h1:=ih fun m hm=>hn m (AX _ hm)
   have h2:=hn n AW;rw[BY,PyData.shownAll,piled_cons,BC];have:(PyData.shown (.int n)).length<=3:=by rw[PyData.shown];exact Nv h2.1 h2.2
   lia
 have Y:=ag ns h.2;have h5:=h.1;rw[PyData.shown];show(textFrom 0 "[" _++"]").length<=_;rw[FZ];have:=Nu (PyData.shownAll (ns.map PyData.int)) 0 "[";have e1:(Str.ofString "[").length=1:=by decide
 have e2:(Str.ofString "]").length=1:=by decide
 lia
theorem Gh:∀ {ns:C3 Int},(∀ n∈ns,0<=n/\n<1000)->PyData.showableAll (ns.map PyData.int)=true
 | [],_=>by simp[PyData.showableAll]
 | n::ns,h=>by
  have h2:=h n AW;rw[BY,PyData.showableAll,Gh fun m hm=>h m (AX _ hm),Bool.and_true,PyData.showable];have h3:n.natAbs<2^1920:=AU (show n.natAbs<2^10 by lia) (CT (by decide) (by decide));by_cases h0:n.natAbs=0
  ·rw[h0];decide
  ·exact AJ ((Nat.log2_lt h0).mpr h3)
theorem No:∀ (ns:C3 Int),PyData.hasDictAll (ns.map PyData.int)=false
 | []=>by simp[PyData.hasDictAll]
 | n::ns=>by rw[BY,PyData.hasDictAll,No ns,PyData.hasDict];rfl
theorem Py:∀ (ns:C3 Int),PyData.depthAll (ns.map PyData.int)=0
 | []=>by simp[PyData.depthAll]
 | n::ns=>by rw[BY,PyData.depthAll,Py ns,PyData.depth];rfl
theorem X9:∀ {ns:C3 Int} {its:C3 A2},Y5 (ns.map V.int) its->ReadsAll h its (ns.map PyData.int) []
 | [],[],_=>.nil
 | [],_::_,r=>by have:=r.length;simp at this
 | _::_,[],r=>by have:=r.length;simp at this
 | n::ns,v::its,r=>by
  cases r with
  | cons h1 r' =>
   obtain⟨t,rfl⟩:=h1;exact .cons (as:=[]) (bs:=[]) (.int n t) (X9 r')
def VR(K:JT)(te:TE)(r:TJ):TJ:=fun σ H l Q=>te σ H fun x H1=>((∃ i:Int,x=.int i/\0<=i/\i<1000)\/∃ a ns,x=.ref a/\SL K H1 a (ns.map V.int)/\Ex ns)/\l.length<=100000/\∀ y:Str,y.length<=3000->r σ H1 (l++y) Q
theorem Bl(Z:JS k X.A)(he:PE X e te)(b:PJ X vs r):PJ X (.FormattedValue e (-1) none pos::vs) (VR X.K te r):=by
 intro aa s σ H l Q I hz h;refine joinParts_cons (FormattedValue_plain (Vk (he aa s σ H _ I h) fun v s1 ⟨x,H1,I1,r1,hx,ac,q⟩=>?_));have B:∀ y:Str,y.length<=3000->(l++y).length<=sizeLine:=fun y hy=>by rw[FZ,DV];lia
 rcases hx with⟨i,rfl,h0,h1⟩ | ⟨a,ns,rfl,hS,c⟩
 ·obtain⟨t,rfl⟩:=r1
  have hy:(Str.ofString (toString i)).length<=3000:=AZ (Nv h0 h1) (by decide);refine formatField_int_small ?_ ⟨B _ hy,b aa _ σ H1 _ Q (I1.tok _) (B _ hy) (q _ hy)⟩;by_cases d:i.natAbs=0
  ·rw[d];decide
  ·exact(Nat.log2_lt d).mpr (AU (show i.natAbs<2^10 by lia) (CT (by decide) (by decide)))
 ·cases r1
  obtain⟨its,n,w1,g1,_⟩:=hS.get I1;have hy:=nX c;have rd:Reads s1.heap (.ref a) (.list (ns.map PyData.int)) [a]:=.list g1 rfl rfl (by simpa using X9 w1);refine formatField_of_reads (h₀:=s1.heap) rd (by rw[PyData.showable];exact Gh c.2) (PyData.noDict_hsm (by rw[PyData.hasDict];exact No ns)) Z.gd (by rw[PyData.depth,Py];have:=Z.un;lia) (fun _ _ q=>q) (fun h' u tk Y=>?_) (AZ hy (by decide));exact⟨B _ hy,b aa _ σ H1 _ Q (I1.kept Y) (B _ hy) (q _ hy)⟩
theorem N8(Z:JQ k X.A)(he:PE X e te)(b:PJ X vs r):PJ X (.FormattedValue e (-1) none pos::vs) (VR X.K te r):=Bl Z.n he b
end L2
namespace L2
open PySem PySem.Spec PyProof.Rows PySem.W
theorem mX{K:Frag}{N:A4}{n:Str}{v:A2}(X:K.In h)(G:h.Ns N mg)(e:nsIn K N n=some (some v)):mg n=some v:=by
 obtain⟨o,es,ep,J,hd,_,hf⟩:=G;unfold nsIn at e;split at e
 ·rename_i c d a g sl q
  have:=X _ _ q;rw[J] at this;cases this;cases hd;split at e
  ·rename_i j he
   cases e;rw[← hf];unfold nsFind findBy;rw[← Array.find?_toList,he];rfl
  ·split at e<;>cases e
 ·cases e
def Dd(K:Frag)(C fI D:A4):Bool:=match K.lookup C with
 | some ⟨.type "type",_,.cls cd,sl⟩=>(match cd.mro,sl.toList with
  | .ref g::bm,[_,_,_,_,some (.builtin n),_]=>g==C&&n=="ValueError.__new__" && !cd.hasDel&&cd.hasDict&&bm==.ref D::Mw&&tailIn K Mw bm&&nsOkIn K cd.ns&&nsIn K cd.ns "__init__" == some (some (.ref fI))
  | _,_=>false)
 | _=>false
theorem Xa{K:Frag}(X:K.In h)(q:Dd K C fI D=true):∃ nm qn N bs sn sub ab col dd k0 k1 k2 k3 k5 mN,
  h.get? C=some (excClassObj nm qn C N bs (.ref D::Mw) true sn sub ab col dd k0 k1 k2 k3 k5 "ValueError.__new__")/\h.Ns N mN/\mN "__init__" = some (.ref fI)/\OwnTail h Mw (.ref D::Mw):=by
 unfold Dd at q;split at q
 ·rename_i dd cd sl J
  split at q
  ·rename_i g bm k0 k1 k2 k3 n k5 hm hs
   simp only[AV,DC,FK] at q;obtain⟨⟨⟨⟨⟨⟨⟨rfl,rfl⟩,b⟩,a⟩,rfl⟩,ht⟩,hok⟩,c⟩:=q;obtain⟨nm,bs,mro,ns,qn,hd,sn,sub,ab,col,del⟩:=cd;dsimp only at hm b hok c a;subst hm b a;have ai:sl=#[k0,k1,k2,k3,some (.builtin "ValueError.__new__"),k5]:=by
    obtain⟨l⟩:=sl;simp only at hs;rw[hs]
   subst ai;have G:h.Ns ns (h.nsMap ns):=.of_isNs (isNs_of_in X hok);exact⟨nm,qn,ns,bs,sn,sub,ab,col,dd,k0,k1,k2,k3,k5,_,X _ _ J,G,mX X G c,tail_of_in X ht⟩
  ·cases q
 ·cases q
def Hv(e C:A4)(dct:C2 A4)(h:Gf):Prop:=∃ t:A4,h.get? e=some { cls:=.ref C,dict:=dct,data:=.fields #[.ref t,.none,.none,.none,.bool false,.none] }
theorem iO{a:A4}{o:HO}(h:H a=some o):W7 H a o=H:=by
 funext b;unfold W7;split
 ·rename_i e;rw[e,h]
 ·rfl
theorem Bc{e:A4}(x:Hv e C dct h):V2 P w H h e (.ext (Hv e C dct)):=by
 obtain⟨t,ht⟩:=x;exact⟨⟨t,ht⟩,⟨_,ht⟩,fun h1 h2 ⟨t,q⟩ k=>⟨t,k _ q⟩⟩
structure KJ (K:Frag) (mg:KB) (D:Addr):Prop where
 mg:mg "CalmError" = some (.ref D)
 ga:specialIn K (.ref D) "__getattribute__" = some (some (.builtin "type.__getattribute__"))
 rd:readsIn K D (.type "type")=true
 fi:findCls K (.ref D) (.type "type") "__init__" = some (.val (.builtin "ValueError.__init__"))
section
variable{t:TA}
def QR(K:Frag)(t:TA):TE:=fun σ H Q=>t σ H fun vs H1=>∃ e C dct v fI D,vs=[.ref e,v]/\H1 e=some (.ext (Hv e C dct))/\Dd K C fI D=true/\Q .non H1
theorem Hj{pl:Sem Bool}(B:KJ X.K X.mg D)(ha:PA X (e::es) t)(hg:Gl X "CalmError" := by rfl)(he:starEach (e::es) X.env=(false,eval e X.env)::starEach es X.env:=by rfl)(af:(backTo pos (starEach es X.env)).any (·.1)=false:=by rfl)
  (ht:eval (.Call (.Attribute (.Name "CalmError" p) "__init__" ax) (e::es) [] pos) X.env=(do
   let E ← eval (.Name "CalmError" p) X.env
   standAt ax.atName
   let (f,first) ← holding [E] (getMethod E "__init__" pl)
   callWith pos f first (backTo pos (starEach (e::es) X.env)) (backToKw pos (keywordEach [] X.env))):=by rfl) :
  PE X (.Call (.Attribute (.Name "CalmError" p) "__init__" ax) (e::es) [] pos) (QR X.K t):=by
 intro aa s σ H Q I h;refine methodCall_KW (pl:=pl) (Uj I hg B.mg ?_ (by decide)) ht;refine method_cls I.kIn B.ga (cls_value I.kIn B.rd B.fi rfl ?_);refine PyProof.Rows.callWith_builtin1 (Vk (ha pos aa _ σ H _ (I.tok _) h) fun us s1 ⟨vs,H1,I1,r,ex,C,dct,v,fI,D',ev,hx,O,q⟩=>?_) he af;subst ev;obtain⟨u,l,rfl,r1,r2⟩:=RF r;cases r1;obtain⟨nm,qn,N,bs,sn,sub,ab,col,dd,k0,k1,k2,k3,k5,mN,hC,hN,hi,T⟩:=Xa I1.kIn O;obtain⟨⟨t0,P⟩,_,_⟩:=(show V2 X.prog X.w H1 s1.heap ex (.ext (Hv ex C dct)) from I1.hok ex _ hx);obtain⟨hh,g,d,tk,os⟩:=s1;refine Fb T hC P fun h' k Y hsz=>⟨.non,H1,?_,rfl,q⟩
 have:=I1.write (h':=h') (x:=ex) (e:=ex) (o:=.ext (Hv ex C dct)) (t':=tk) (by rw[hx];trivial) (.inl rfl) (fun b u U q=>Y b u U q) ⟨_,k⟩ (Bc ⟨_,k⟩);rw[iO hx] at this;exact this
def UH(K:Frag)(ta tv:TE)(f:Str):TS:=fun D σ H=>tv σ H fun y H1=>ta σ H1 fun x H2=>∃ a C dct fI D',x=.ref a/\H2 a=some (.ext (Hv a C dct))/\Dd K C fI D'=true/\J3 K C/\findIn K (.ref C) f=some none /\
 match dct with
 | none=>∀ dx,H2 dx=none->dx≠a->D.nx σ (W7 (W7 H2 a (.ext (Hv a C (some dx)))) dx (.xd [(f,y)]))
 | some dx=>False
theorem Ow{o:C4}{f:Str}(ha:PE X o ta)(hv:PE X ap tv)(hs:swapsWith ap (some (.Attribute o f am)) pos.line X.env=pure false:=by rfl):PS X (.Assign [.Attribute o f am] ap pos) (UH X.K ta tv f):=by
 intro aa s σ H D I h;refine plainObj_wpAny_Assign_Attribute (Vk (hv aa s σ H _ I h) fun u s1 ⟨y,H1,I1,m,q⟩=>Vk (ha aa s1 σ H1 _ I1 q) fun E s2 ⟨x,H2,I2,S,a,C,dct,fI,D',ex,ea,O,xc,hf,q2⟩=>?_) hs;subst ex;obtain rfl:E=Value.ref a:=S;cases dct with
 | some dx=>exact q2.elim
 | none =>
  obtain⟨⟨t0,P⟩,_,_⟩:=(show V2 X.prog X.w H2 s2.heap a (.ext (Hv a C none)) from I2.hok a _ ea);obtain⟨cd,M,W,J,T,hm⟩:=xc.cd;obtain⟨oC,G,hC,k,p⟩:=xc.ld I2.kIn;have Q:InstAt s2.heap a { cls:=.ref C,dict:=none,data:=.fields #[.ref t0,.none,.none,.none,.bool false,.none] } C none:=⟨P,rfl,rfl,trivial⟩;refine set_plain I2.kIn Q xc.sa ?_;refine XH (s:={ s2 with toks:=s2.toks+1 }) I2.kIn Q M hm hf ?_;obtain⟨hh,g,d,tk,os⟩:=s2;refine jm P rfl (fun c z=>by cases z) rfl hC k p fun h' r ae N Y hsz=>?_
  have ah:a<hh.objs.size:=AR P;have ag:H2 hh.objs.size=none:=I2.hok.fresh (AY _);have aq:hh.objs.size≠a:=JL ah;have i:∀ b,b≠a->b≠hh.objs.size->W7 (W7 H2 a (.ext (Hv a C (some hh.objs.size)))) hh.objs.size (.xd [(f,y)]) b=H2 b:=fun b h1 h2=>by rw[Zd h2,Zd h1]
  have j:∀ {b:A4} {o:HO},H2 b=some o->b≠hh.objs.size:=fun {b o} q z=>by rw[z,ag] at q;cases q
  have un:Un X.fs [] H2 (W7 (W7 H2 a (.ext (Hv a C (some hh.objs.size)))) hh.objs.size (.xd [(f,y)])) hh h':=by
   refine⟨fun b o q n _ _=>Y b o (fun z=>by rw[z,ea] at n;cases n) q,fun b o q n _ _=>⟨o.slots,Y b o (fun z=>by rw[z,ea] at n;cases n) q⟩,fun b o q n _=>?_,fun b o q _=>?_,fun b xs q=>?_,fun b o u q=>?_,fun b ps q=>?_⟩
   ·rw[i b (fun z=>by rw[z,ea] at n;cases n) (fun z=>by rw[z] at q;exact absurd (AR q) (DA _))];exact n
   ·by_cases z:b=a
    ·subst z;exact⟨_,ae⟩
    ·exact⟨_,Y b o z q⟩
   ·rw[i b (fun z=>by rw[z,ea] at q;cases q) (j q)];exact q
   ·rw[i b (fun z=>by rw[z,ea] at q;cases q) (j q)];exact q
   ·exact⟨#[],by rw[i b (fun z=>by rw[z,ea] at q;cases q) (j q)];simpa using q⟩
  have hok:Ee X.prog X.w (W7 (W7 H2 a (.ext (Hv a C (some hh.objs.size)))) hh.objs.size (.xd [(f,y)])) h':=by
   intro b o q;by_cases z2:b=hh.objs.size
   ·subst z2
    rw[Zk] at q;cases q;refine⟨_,N,fun g=>?_⟩;show Po (List.lookup g [(f,y)]) (if g=f then some u else none);by_cases e:g=f
    ·subst e;simp[List.lookup,Po];exact m
    ·have e':(g==f)=false:=by simpa using e
     simp[List.lookup,e',e,Po]
   ·by_cases z1:b=a
    ·subst z1
     rw[Zd z2,Zk] at q;cases q;exact Bc ⟨t0,ae⟩
    ·rw[i b z1 z2] at q
     refine(I2.hok b o q).stay (fun c v z w=>Y c v (fun L=>?_) w) (fun c w=>?_) fun c xs w=>?_
     ·rcases z with z | z
      ·exact z1 (z.symm.trans L)
      ·rw[L,ea] at z;cases z
     ·rw[i c (fun L=>by rw[L,ea] at w;cases w) (j w)];exact w
     ·rw[i c (fun L=>by rw[L,ea] at w;cases w) (j w)];exact w
  exact⟨σ,_,I2.un (h':=h') (t':=r) un hok,q2 _ ag aq⟩
end
variable{env:Ev}
def NB(K:Frag)(C:A4)(p:Nat)(G:C3 Dat->C2 (C3 (Str×XD))):Sp:=fun vs H Q _=>∃ e ws ds R fl,vs=.ref e::ws/\ws.length=p/\H e=some (.ext (Hv e C none))/\Q8 R H/\R e=false/\Wr K (av H R) ds ws/\G ds=some fl /\
 ∀ H' dct,(∀ c o,c≠e->H c=some o->H' c=some o)->H' e=some (.ext (Hv e C dct))->K' K (av H' R) dct fl->Ct H H' dct->Q .non H'
structure J' (P:Program) (w:World) (K:Frag) (mg:KB) (base:Heap) (k:Nat) (c:Str) (p:Nat) (G:List Dat->Option (List (Str×XD))):Prop where
 ex:∃ C fI D fd ps,Wg K c C/\mg c=some (.ref C)/\keepIn K (.ref C)=true/\Dd K C fI D=true/\J3 K C/\isFn K (.ref fI)=true/\KC P w K mg base Ht k fI fd ps (NB K C p G)/\Si K fd ps []
 len:∀ ds fl,G ds=some fl->ds.length=p
 few:p<=10
theorem K'.of_ne{K:Frag}{e:A4}{fs:C3 (Str×XD)}{g:Gf->Prop}(he:H e=some (.ext g))(k:∀ c o,c≠e->H c=some o->H' c=some o)(h:K' K H dct fs):K' K H' dct fs:=by
 have ne:∀ {c:A4} {o:HO},H c=some o->(∀ g,o≠.ext g)->H' c=some o:=fun {c o} q n=>k c o (fun z=>by rw[z,he] at q;exact n _ (BD q).symm) q
 cases dct with
 | none=>exact h
 | some dx =>
  obtain⟨j,e1,e2⟩:=h;refine⟨j,ne e1 (fun _ z=>by cases z),fun f=>(e2 f).imp id fun⟨d,v,a,b,c⟩=>⟨d,v,a,b,?_⟩⟩;cases d with
  | int i=>exact c
  | nums is =>
   obtain⟨a,z1,z2,z3⟩:=c;refine⟨a,z1,?_,z3⟩;rcases z2 with(z | ⟨o,z⟩) | z
   ·exact .inl (.inl (ne z (fun _ w=>by cases w)))
   ·exact .inl (.inr ⟨o,ne z (fun _ w=>by cases w)⟩)
   ·exact .inr z
def L1(H:Hp)(a:A4):Hp:=fun b=>if b=a then none else H b
theorem G5{a b:A4}(h:b≠a):L1 H a b=H b:=by unfold L1;rw[AQ h]
theorem Kj{a:A4}:L1 H a a=none:=by unfold L1;rw[AG rfl]
theorem L9{a b:A4}(h:H b=none):L1 H a b=none:=by unfold L1;split<;>first | rfl | exact h
theorem C'.drop{a:A4}{g:Gf->Prop}(I:C' X aa σ H s)(ha:H a=some (.ext g)):C' X aa σ (L1 H a) s:=by
 have ne:∀ {b:A4} {o:HO},H b=some o->(∀ g,o≠.ext g)->L1 H a b=some o:=fun {b o} q n=>by rw[G5 (fun z=>by rw[z,ha] at q;exact n _ (BD q).symm)];exact q
 refine⟨I.ok,I.os,I.bare,⟨I.base.keep,I.base.slot,fun b o q n hx=>L9 (I.base.free b o q n hx),I.base.there,fun b xs q=>ne (I.base.tups b xs q) (fun _ z=>by cases z),fun b o u q=>ne (I.base.frzs b o u q) (fun _ z=>by cases z),fun b ps q=>?_⟩,I.loc,I.cell,L9 I.free,fun x c e=>L9 (I.freeC x c e),fun p hp=>?_,fun b o q=>?_,I.len⟩
 ·obtain⟨ak,z⟩:=I.base.tbls b ps q
  exact⟨ak,ne z (fun _ z=>by cases z)⟩
 ·obtain⟨h1,h2,h3⟩:=I.pin p hp
  exact⟨h1,L9 h2,h3⟩
 ·have U:b≠a:=fun z=>by rw[z,Kj] at q;cases q
  rw[G5 U] at q;exact(I.hok b o q).stay (fun _ _ _ w=>w) (fun c w=>ne w (fun _ z=>by cases z)) fun c xs w=>ne w (fun _ z=>by cases z)
theorem cx{ex:A4}{o:HO}(h:Ct (W7 H ex o) H' dct)(hx:∃ g,H' ex=some (.ext g))(s:Zu H0 H):Ct H0 (L1 H' ex) dct:=fun dx e=>by
 have m:∀ b,W7 H ex o b=none->H0 b=none:=fun b z=>by
  have U:b≠ex:=fun w=>by rw[w,Zk] at z;cases z
  rw[Zd U] at z;exact s.none z
 refine⟨m _ (h dx e).1,fun j f a q l=>?_⟩;have W:H' dx=some (.xd j):=by
  have U:dx≠ex:=fun w=>by rw[w,Kj] at q;cases q
  rw[G5 U] at q;exact q
 obtain⟨y1,xs,y2⟩:=(h dx e).2 j f a W l;refine⟨m _ y1,xs,?_⟩;have ha:a≠ex:=fun w=>by
  obtain⟨g,hg⟩:=hx;rw[w,hg] at y2;cases y2
 rw[G5 ha];exact y2
theorem K3{a:A4}{o:HO}(h:H a=none):Zu H (W7 H a o):=fun b u e=>by rw[Zd (fun z=>by rw[z,h] at e;cases e)];exact e
section
variable{n:Nat}{c:Str}
def U1(c:Str)(G:C3 Dat->C2 (C3 (Str×XD)))(fs:Zzv):Ev->Fl:=fun env=>match (fs env).bind G with
 | none=>.no
 | some fl=>.exc env c fl
theorem A0{A:AS}(M:J' X.prog X.w X.K X.mg X.base k c n G)(Z:JQ (k+1) X.A)
  (I:C' X aa σ H s) (kk:F' X.K B A H σ env) (r:Y5 vs us) (rs:Wr X.K (av H A) ds vs) (hG:G ds=some fl) {C fI D:A4} (ai:Wg X.K c C) (hx:Dd X.K C fI D=true) {fd:Df} {ps:C3 Str} (am:isFn X.K (.ref fI)=true) (F:KC X.prog X.w X.K X.mg X.base Ht k fI fd ps (NB X.K C n G)) (U:Si X.K fd ps [])
  (q:∀ H' σ',σ'=σ->Zu H H'->F' X.K B A H' σ env->XW X B.H₀ A H' σ c fl) :
  wpAny (model X.prog X.w) X.A (call (.ref C) us) (fun v s'=>∃ ex t dct,v=.ref ex/\(∃ o,s'.heap.get? C=some o)/\s'.heap.get? ex=some { cls:=.ref C,dict:=dct,data:=.fields #[.ref t,.none,.none,.none,.bool false,.none] }/\X.K.In s'.heap/\X.xe (.ref ex) s') X.xe s:=by
 obtain⟨nm,qn,N,bs,sn,sub,ab,col,dd,k0,k1,k2,k3,k5,mN,hC,hN,hi,T⟩:=Xa I.kIn hx;have f:∃ m,s.heap.get? fI=some m/\m.cls=.type "function" := by
  have:=DC.mp am;obtain⟨m,h1,h2⟩:=Option.map_eq_some_iff.mp this;exact⟨m,I.kIn _ _ h1,h2⟩
 obtain⟨m,f,y⟩:=f;have ae:us.length<=sizeLine:=by
  have h1:=r.length;have h2:=Y0 rs;have h3:=M.len ds fl hG;have h4:=M.few;exact DW (T9 (by lia))
 obtain⟨hh,g,d,tk,os⟩:=s;refine Ph (hrest:=ae) DN (by decide) DN T hC hN hi f y fun h' ex j hm=>?_
 obtain⟨t0,P,_,_⟩:=hm.there;have ag:H ex=none:=I.hok.fresh j;have I2:C' X aa σ (W7 H ex (.ext (Hv ex C none))) ⟨h',g,d,tk,os⟩:=I.laid (h':=h') (t':=tk) (a:=ex) (o:=.ext (Hv ex C none)) hm.keeps j (Bc ⟨t0,P⟩);have x:A ex=false:=by
  cases z:A ex with
  | false=>rfl
  | true=>obtain⟨o,J⟩:=(kk.mu ex z).some;rw[ag] at J;cases J
 have h:Zu H (W7 H ex (.ext (Hv ex C none))):=K3 ag;let Y:VK:=fun v H'=>v=.non/\∃ dct,(∀ c o,c≠ex->W7 H ex (.ext (Hv ex C none)) c=some o->H' c=some o)/\H' ex=some (.ext (Hv ex C dct))/\K' X.K (av H' A) dct fl/\Ct (W7 H ex (.ext (Hv ex C none))) H' dct
 have i:NB X.K C n G (.ref ex::vs) (W7 H ex (.ext (Hv ex C none))) Y E0:=⟨ex,vs,ds,A,fl,rfl,by rw[Y0 rs];exact M.len ds fl hG,Zk,kk.mu.mono h,x,rs.mono (Vj h),hG,fun H' dct h1 h2 h3 h4=>⟨rfl,dct,h1,h2,h3,h4⟩⟩;have W:(Value.ref ex::us).length=ps.length:=by
  have e1:=F.len _ _ _ _ i;have e2:=r.length;rw[BC] at e1 ⊢;lia
 refine FV (EW (F.run _ X.stack ⟨h',g,d,tk,os⟩ _ ⟨Value.ref ex::us,[]⟩ (Value.ref ex::us) (V.ref ex::vs) Y E0 (Z.make C us []) (I2.env0.make C us []) (by simpa using U _ (Value.ref ex::us) I2.kIn (by simpa using W)) (.cons rfl r) i) fun l s' hq=>?_);cases l with
 | error e=>exact False.elim hq
 | ok au =>
  cases au with
  | ret u =>
   obtain⟨v,H',I3,L,ev,dct,h1,h2,h3,h4⟩:=I2.after hq;subst ev;have R:u=.none:=L;subst R;refine⟨rfl,?_⟩;obtain⟨⟨S,ak⟩,_,_⟩:=(show V2 X.prog X.w H' s'.heap ex (.ext (Hv ex C dct)) from I3.hok ex _ h2);have I4:=I3.drop h2;have sm:Zu H (L1 H' ex):=fun b o q=>by
    have U:b≠ex:=fun z=>by rw[z,ag] at q;cases q
    rw[G5 U];exact h1 b o U (by rw[Zd U];exact q)
   have E:X.s₀.heap.objs.size<=ex:=AZ I.sz j;obtain⟨nm',qn',N',bs',sn',sub',ab',col',ac,k0',k1',k2',k3',k5',mN',Q,_,_,_⟩:=Xa I3.kIn hx;refine⟨ex,S,dct,rfl,⟨_,Q⟩,ak,I3.kIn,?_⟩;refine q (L1 H' ex) σ rfl sm (kk.mono sm) aa s' ex C dct I4 ai ⟨E,Kj,.inl ⟨_,_,ak,rfl,rfl,rfl,rfl,fun _=>rfl⟩,fun p hp z=>?_⟩ ?_ (cx h4 ⟨_,h2⟩ kk.h0)
   ·have:=(I.pin p hp).1
    rw[z] at this;exact absurd (AR this) (EN.mpr j)
   ·exact h3.of_ne (e:=ex) (V8 h2 x) fun c o O q=>V8 (by rw[G5 O];exact(Mu q).2) (Mu q).1
  | next=>exact False.elim hq
  | brk=>exact False.elim hq
  | cont=>exact False.elim hq
theorem Oj(M:J' X.prog X.w X.K X.mg X.base k c n G)(Z:JQ (k+1) X.A)(O:X.calm=true)(ha:Om false X (e::es) fs)(hg:Gl X c:=by rfl)(P:(c==("__debug__" : Str))=false:=by decide)
  (he:starEach (e::es) X.env=(false,eval e X.env)::starEach es X.env:=by rfl) (af:(backTo al (starEach es X.env)).any (·.1)=false:=by rfl):Ir fr X (.Raise (some (.Call (.Name c p) (e::es) [] al)) none pos) (U1 c G fs):=by
 intro aa s σ H D I ⟨env,B,A,kk,l,q⟩;obtain⟨C,fI,D',fd,ps,ai,hm,a,hx,xc,am,F,U⟩:=M.ex;unfold U1 at q;split at q
 ·exact q.elim
 rename_i fl aj;obtain⟨ds,e1,hG⟩:=bind_some aj;obtain⟨nm,qn,N,bs,sn,sub,ab,col,dd,k0,k1,k2,k3,k5,mN,hC,hN,hi,T⟩:=Xa I.kIn hx;have ag:wpAny (model X.prog X.w) X.A (eval (.Call (.Name c p) (e::es) [] al) X.env) (fun v s'=>∃ ex t dct,v=.ref ex/\(∃ o,s'.heap.get? C=some o)/\s'.heap.get? ex=some { cls:=.ref C,dict:=dct,data:=.fields #[.ref t,.none,.none,.none,.bool false,.none] }/\X.K.In s'.heap/\X.xe (.ref ex) s') X.xe s:=by
  refine CQ (Uj I hg hm ?_ P);refine callWith_K (h₀:=X.base) I.ok.mod.kin a (Vk (ha al aa s σ H (fun vs H1=>Zu H H1/\Wr X.K (av H1 A) ds vs) I ⟨env,B,A,ds,kk,e1,fun vs H1 s1 rs=>⟨s1,rs.rps⟩⟩) fun us s1 ⟨vs,H1,I1,r,sm,rs⟩=>⟨I1.kIn,?_⟩) he af;exact A0 M Z I1 (kk.mono sm) r rs hG ai hx am F U fun H' σ' _ j k2=>q A H' σ (JN.same (sm.trans j)) k2
 rw[JE];refine AA (CW (Ng (C:=C) (nm:=nm) (q:=qn) (N:=N) (bs:=bs) (bm:=.ref D'::Mw) (hdct:=true) (sn:=sn) (sub:=sub) (ab:=ab) (col:=col) (dd:=dd) (k0:=k0) (k1:=k1) (k2:=k2) (k3:=k3) (k5:=k5) (newId:="ValueError.__new__") (by simp[Mw]) (I.ok.hd O) (AA (BM ag (fun v s₃ h₃=>AA (CW (AK ?_))) fun _ _ x=>x))));obtain⟨ex,t,dct,rfl,_,hex,f,b⟩:=h₃;obtain⟨o,lk⟩:∃ o,X.K.lookup C=some o:=by
  unfold Dd at hx;split at hx
  ·rename_i J;exact⟨_,J⟩
  ·cases hx
 have e2:=(I.kIn _ _ lk).symm.trans hC;cases e2;exact⟨ex,.ref t,dct,rfl,f _ _ lk,hex,b⟩
end
def Qd(ns:C3 Int):Bool:=decide (ns.length<=500)&&ns.all fun n=>decide (0<=n)&&decide (n<1000)
theorem Gx(h:Qd ns=true):Ex ns:=by
 unfold Qd at h;rw[AV,DF] at h;refine⟨BF h.1,fun n hn=>?_⟩;have:=h.2 n hn;rw[AV] at this;exact⟨BF this.1,BF this.2⟩
def gW(f:Str):C3 Dat->C2 (C3 (Str×XD))
 | [.lst xs]=>(Mp xs).bind fun ns=>if Qd ns=true then some [(f,.nums ns)] else none
 | _=>none
def OD(n:Nat)(σ:St)(H:Hp)(r:TJ):Prop:=∀ (l:Str) (Q:VK),l.length<=n->(∀ z,Q (.str z) H)->r σ H l Q
theorem P0{n:Nat} :OD n σ H XC:=fun l Q _ q=>q l
theorem Se{n:Nat}{c:Str}(Z:OD (n+c.length) σ H r)(h:n+c.length<=100000):OD n σ H (bX c r):=fun l Q ha q=>by
 have e:(l++c).length=l.length+c.length:=FZ _ _;exact⟨by rw[e,DV];lia,Z _ Q (by rw[e];lia) q⟩
theorem Sb{n:Nat}{K:Frag}(Z:OD (n+3000) σ H r)(h:n<=90000)(hv:σ[i]?=some (some v))(hs:(∃ i:Int,v=.int i/\0<=i/\i<1000)\/∃ a ns,v=.ref a/\SL K H a (ns.map V.int)/\Ex ns):OD n σ H (VR K (Sx i) r):=fun l Q ha q =>
 ⟨v,hv,hs,by lia,fun y hy=>Z _ Q (by rw[FZ];lia) q⟩
section
variable{K:Frag}
end
theorem P4{M:Model}{x:Str}(I:C' X aa σ H s)(hN:X.N.Nodup)(hi:X.N[i]?=some x)(Y:X.env.kindOf x=some .local)
   (h:∀ s',C' X aa (σ.set i none) H s'->Q () s'):wpAny M A (do bindName X.env x .none;unbindBehindTheSuite X.env x pos) Q E s:=by
 obtain⟨m,hn,hl⟩:=id I.loc;have B:(X.env.scope.kind==.class||(X.env.scope.kind==.module&&X.env.locals != X.env.globals))=false:=by rw[I.ok.kind];rfl
 have cne:=I.cne;refine wpAny_nameGoes_keeps Y hn B fun h' v F hs=>?_
 obtain⟨S,_,_,J,_⟩:=id hn;refine h _ ⟨I.ok,I.os,I.bare,⟨fun b o e n U hx=>?_,fun b o e n U hx=>?_,I.base.free,fun b o e hx=>?_,I.base.tups,I.base.frzs,I.base.tbls⟩,⟨_,F,fun j y t e1 e2 e3=>?_⟩,fun y c e=>?_,I.free,I.freeC,fun p hp=>?_,fun b ob e=>?_,by simpa using I.len⟩
 · exact(hs.2 b (BU (AU (AR e) I.ok.above))).trans (I.base.keep b o e n U hx)
 · obtain⟨sl,e1⟩:=I.base.slot b o e n U hx
   exact⟨sl,(hs.2 b (BU (AU (AR e) I.ok.above))).trans e1⟩
 · obtain⟨o',e1⟩:=I.base.there b o e hx
   exact⟨o',(hs.2 b (BU (AU (AR e) I.ok.above))).trans e1⟩
 · by_cases hj:j=i
   · subst hj
     rw[BB] at e2;simp at e2
   · rw[FU (AO hj)] at e2
     obtain⟨C,r',q⟩:=hl j y t e1 e2 e3;refine⟨C,r',?_⟩;rcases q with⟨k,e⟩ | ⟨k,c,e,z⟩
     · refine .inl ⟨k,?_⟩
       have:y≠x:=fun e=>hj (Xe hN e1 (e▸hi))
       simp[this,e]
     · exact .inr ⟨k,c,e,z.sameBut hs (cne y c e)⟩
 · obtain⟨l,z⟩:=I.cell y c e
   exact⟨l,z.sameBut hs (cne y c e)⟩
 · obtain⟨e,n,ne,P,d⟩:=I.pin p hp
   exact⟨(hs.2 p.1 ne).trans e,n,ne,P,d⟩
 · refine(I.hok b ob e).stay (fun c l O q=>(hs.2 c ?_).trans q) (fun _ q=>q) fun _ _ q=>q
   rintro rfl;rcases O with rfl | O
   · rw[I.free] at e;cases e
   · rw[I.free] at O;cases O
theorem C'.track{a:A4}{o:HO}(I:C' X aa σ H s)(ha:H a=none)(lo:X.s₀.heap.objs.size<=a)(hl:a≠X.env.locals)(O:∀ x c,X.env.cells.lookup x=some c->c≠a)(hp:∀ p∈X.pn++aa,p.1≠a)(ok:V2 X.prog X.w (W7 H a o) s.heap a o):C' X aa σ (W7 H a o) s:=by
 have sm:Zu H (W7 H a o):=K3 ha;refine⟨I.ok,I.os,I.bare,⟨I.base.keep,I.base.slot,fun b ob q n hx=>?_,I.base.there,fun b xs q=>sm _ _ (I.base.tups b xs q),fun b o u q=>sm _ _ (I.base.frzs b o u q),fun b ps q=>?_⟩,I.loc,I.cell,?_,fun x c e=>?_,fun p h=>?_,fun b u q=>?_,I.len⟩
 ·rw[Zd (fun z=>by rw[z] at q;exact absurd (AR q) (EN.mpr lo))]
  exact I.base.free b ob q n hx
 ·obtain⟨ak,z⟩:=I.base.tbls b ps q
  exact⟨ak,sm _ _ z⟩
 ·rw[Zd (AO hl)];exact I.free
 ·rw[Zd (O x c e)];exact I.freeC x c e
 ·obtain⟨h1,h2,h3⟩:=I.pin p h
  exact⟨h1,by rw[Zd (hp p h)];exact h2,h3⟩
 ·by_cases z:b=a
  ·subst z;rw[Zk] at q;cases q;exact ok
  ·rw[Zd z] at q
   exact(I.hok b u q).stay (fun _ _ _ w=>w) (fun c w=>sm _ _ w) fun c xs w=>sm _ _ w
abbrev Cx.inTry(X:Cx)(pn:J1)(E:KD):Cx:={ X with pn:=pn,xe:=E }
abbrev Cx.inH(X:Cx)(pn:J1)(e:A4):Cx:={ X with A:=X.A.mark (some (.ref e)),calm:=false,pn:=pn,xe:=fun _ _=>False }
theorem C'.toTry(I:C' X aa σ H s):C' (X.inTry (X.pn++aa) E) [] σ H s :=
 ⟨⟨I.ok.mod,I.ok.kind,I.ok.glob,I.ok.blt,I.ok.above,I.ok.inj,I.ok.has,I.ok.cab,I.ok.hd,I.ok.frames,I.ok.stk,I.ok.exf,I.ok.bs,I.ok.bsz,I.ok.noex,I.ok.exfs,I.ok.funs,I.ok.frf⟩,I.os,I.bare,I.base,I.loc,I.cell,I.free,I.freeC,fun p hp=>I.pin p (by simpa using hp),I.hok,I.len⟩
theorem C'.ofTry(ok:X.Ok)(I:C' (X.inTry (X.pn++aa) E) ay σ H s):C' X aa σ H s :=
 ⟨ok,I.os,I.bare,I.base,I.loc,I.cell,I.free,I.freeC,fun p hp=>I.pin p (BS _ hp),I.hok,I.len⟩
theorem C'.toH{e:A4}(I:C' X aa σ H s):C' (X.inH (X.pn++aa) e) [] σ H s :=
 ⟨⟨I.ok.mod,I.ok.kind,I.ok.glob,I.ok.blt,I.ok.above,I.ok.inj,I.ok.has,I.ok.cab,(fun z=>nomatch z),I.ok.frames,I.ok.stk,I.ok.exf,I.ok.bs,I.ok.bsz,I.ok.noex,I.ok.exfs,I.ok.funs,I.ok.frf⟩,I.os,I.bare,I.base,I.loc,I.cell,I.free,I.freeC,fun p hp=>I.pin p (by simpa using hp),I.hok,I.len⟩
theorem C'.ofH{e:A4}(ok:X.Ok)(I:C' (X.inH (X.pn++aa) e) ay σ H s):C' X aa σ H s :=
 ⟨ok,I.os,I.bare,I.base,I.loc,I.cell,I.free,I.freeC,fun p hp=>I.pin p (BS _ hp),I.hok,I.len⟩
theorem F'.clr{K:Frag}{A:AS}(k:F' K B A H σ env)(i:Nat):F' K B A H (σ.set i none) (env.set i .un):=by
 obtain⟨own,h1,h2,h4⟩:=k.sl;refine⟨k.h0,k.r0,k.ra,k.ar,k.mu,by rw[BH,BH];exact k.len,fun l j d=>?_,own,h1,h2,fun j s e=>?_⟩
 ·rw[BB]
  split
  ·split<;>simp
  ·exact k.np l j d
 ·rw[BB] at e
  split at e
  ·rename_i m
   split at e
   ·rename_i hl
    cases e;exact⟨none,by rw[BB,AG m,AG (by rw[k.len];exact hl)],trivial⟩
   ·cases e
  ·rename_i m
   obtain⟨x,e1,e2⟩:=h4 j s e;exact⟨x,by rw[BB,AQ m];exact e1,e2⟩
def bc(i:Nat):Fl->Fl
 | .next e=>.next (e.set i .un)
 | .brk e=>.brk (e.set i .un)
 | .cont e=>.cont (e.set i .un)
 | .ret d=>.ret d
 | .exc _ _ _=>.no
 | .no=>.no
def ON(sub:Str->Bool)(i:Nat)(g h:Ev->Fl):Ev->Fl:=fun env=>match g env with
 | .exc env' c fl=>if sub c=true then bc i (h (env'.set i (.fz (.exc c fl)))) else .no
 | r=>r
theorem Mo{F:A4}{h2:Gf}(k:O5 l ch h h')(hT:h.objs.size<=F)(y:∀ b o,h'.get? b=some o->b∉[F]->h2.get? b=some o):O5 l ch h h2:=fun b o U O=>by
 obtain⟨k1,sl,k2⟩:=k b o U O;have f:b∉[F]:=fun z=>by
  have e1:b=F:=by simpa using z
  rw[e1] at U;exact absurd (AR U) (EN.mpr hT)
 exact⟨fun hl=>y b o (k1 hl) f,sl,y b _ k2 f⟩
section
variable{h:Ev->Fl}{T n:Str}{sub:Str->Bool}{DT:A4}
theorem hD(U:∀ pn E,Oe fr (X.inTry pn E) body g)(hh:∀ pn e,Oe fr (X.inH pn e) (b₀::aw) h)(hN:X.N.Nodup)(hi:X.N[i]?=some n)(hx:LC X.env.scope n)(hT:X.mg T=some (.ref DT))
  (r:∀ c C,Wg X.K c C->sub c=true->exmOne X.K (.ref C) (.ref DT)=some true) (Y:X.env.kindOf n=some .local:=by rfl) (hg:Gl X T:=by rfl) (P:(T==("__debug__" : Str))=false:=by decide)
  (j:X.stack=X.env::X.outer/\X.env.frame=some X.env.locals:=by exact⟨rfl,rfl⟩)
  (hf:X.fn n=true\/X.env.scope.names.lookup n=some .local:=by first | exact .inl rfl | exact .inr rfl | assumption) :
  Ir fr X (.Try body [.ExceptHandler (some (.Name T np)) (some n) (b₀::aw) aL] [] [] pos) (ON sub i g h):=by
 intro aa s σ H D I ⟨env,B,A,kk,l,q⟩;let EX:A2->C0->Prop:=fun ev s₁=>wpAny (model X.prog X.w) X.A (noteFrame ev X.env) (fun _ s₂=>wpAny (model X.prog X.w) X.A (setFlight ev none) (fun _ s₃=>wpAny (model X.prog X.w) X.A (handleBy ev X.env [.ExceptHandler (some (.Name T np)) (some n) (b₀::aw) aL]) (SP X aa D) X.xe s₃) X.xe s₂) X.xe s₁
 have aD:Hq fr (X.inTry (X.pn++aa) EX) B A H D (g env):=by
  unfold ON at q;cases eg:g env with
  | next e'=>rw[eg] at q;exact q
  | brk e'=>rw[eg] at q;exact q
  | cont e'=>rw[eg] at q;exact q
  | ret d=>rw[eg] at q;exact q
  | no=>rw[eg] at q;exact q
  | exc env' c fl =>
   rw[eg] at q;dsimp only at q;split at q
   ·rename_i aF
    intro A1 H1 σ1 aC k1 ay s1 e C dct I1 ai x az ak;have G:C' X aa σ1 H1 s1:=I1.ofTry I.ok;have ag:X.A.frames=some (X.env::X.outer):=by rw[← j.1];exact G.ok.frames
    have hl:s1.heap.FunFrames X.base (X.env::X.outer):=by rw[← j.1];exact G.stack
    have t:X.base.StaysIn s1.heap:=G.bk;have ac:X.base.get? e=none:=G.noBase x.lo;have L:∀ b∈He (X.env::X.outer),H1 b=none:=by rw[← j.1];exact G.stkFree
    have ar:∀ {a:A4},(∀ p∈(X.inTry (X.pn++aa) EX).pn++ay,p.1≠a)->∀ p∈X.pn++aa,p.1≠a:=fun {a} z p hp=>z p (BS _ hp)
    have R:∀ {s1:C0} (G:C' X aa σ1 H1 s1) {a:A4} {o:Obj} {vs:Array A2},s1.heap.get? a=some o->o.data=.fields vs->a≠X.env.locals/\∀ y c,X.env.cells.lookup y=some c->c≠a:=fun {s1} G {a o vs} J hd=>by
     refine⟨fun z=>?_,fun y c O z=>?_⟩
     ·obtain⟨m,⟨o',es,ep,S,ah,_⟩,_⟩:=G.loc
      rw[z,S] at J;cases J;rw[hd] at ah;cases ah
     ·obtain⟨v,o',S,ah⟩:=G.cell y c O
      rw[z,J] at S;cases S;rw[hd] at ah;cases ah
    have ae:∀ {a:A4},H1 a=none->A1 a=false:=fun {a} z=>by
     cases y:A1 a with
     | false=>rfl
     | true=>obtain⟨o,J⟩:=(k1.mu a y).some;rw[z] at J;cases J
    -- aM aK aE
    have after:∀ (h2:Gf) (F:A4) (c2:C2 A2) (ch:C3 A4),s1.heap.objs.size<=F->X.base.StaysIn h2->h2.FunFrames X.base (X.env::X.outer)->Kc h2 X.base e F (.ref C,c2) dct .none->O5 (X.env::X.outer) ch s1.heap h2->(∀ b∈ch,H1 b=none/\X.s₀.heap.objs.size<=b/\b≠X.env.locals/\(∀ y c,X.env.cells.lookup y=some c->c≠b)/\∀ p∈X.pn++aa,p.1≠b) ->
      wpAny (model X.prog X.w) X.A (handleBy (.ref e) X.env [.ExceptHandler (some (.Name T np)) (some n) (b₀::aw) aL]) (SP X aa D) X.xe { s1 with heap:=h2 }:=by
     intro h2 F c2 ch am aA aB ap kp Q;have J2:C' X aa σ1 H1 { s1 with heap:=h2 }:=G.call' (s':={ s1 with heap:=h2 }) (ch:=ch) rfl (by rw[j.1];exact Et kp fun b U=>(Q b U).1) (Jv G.hok kp (fun b U=>(Q b U).1) L) G.bare fun b U=>⟨.inr (Q b U).2.1,(Q b U).2.2.1,(Q b U).2.2.2.1,(Q b U).2.2.2.2⟩
     obtain⟨oe,ve,oT,ts,g1,g2,g3,g4,g5,g6,g7,g8,g9,aH⟩:=id ap;have g2:=(IC g2).1;have LT:Looks (model X.prog X.w) h2 (typeOf (.ref e)) (.ref C):=g2▸(Looks.ld g1).andThen .now;refine GC (FQ (Uj (J2.toH (e:=e)) hg hT ?_ P)) (by intro z;cases z);refine(exm_one (M:=model X.prog X.w) J2.kIn LT (r c C ai aF)).here ?_;show codeAny _ _ _ _ _;refine codeAny_handlers_suite_as ?_;refine Ey (s:={ s1 with heap:=h2 }) aA aB ap fun h3 y1 y2 aO y4 y5=>?_
     have aI:O5 (X.env::X.outer) [F] h2 h3:=.of fun b o U O=>y4 b o U O
     have al:H1 F=none:=G.hok.fresh am;have aJ:=R J2 g8 g9;have ax:∀ p∈X.pn++aa,p.1≠F:=fun p hp z=>by
      have:=(G.pin p hp).1;rw[z] at this;exact absurd (AR this) (EN.mpr am)
     have ao:∀ b∈[F],b=F:=fun b U=>AL.mp U
     have Z:C' X aa σ1 H1 { s1 with heap:=h3 }:=J2.call' (s':={ s1 with heap:=h3 }) (ch:=[F]) rfl (by rw[j.1];exact Et aI fun b U=>by rw[ao b U];exact al) (Jv J2.hok aI (fun b U=>by rw[ao b U];exact al) L) J2.bare fun b U=>by rw[ao b U];exact⟨.inr (AZ G.sz am),aJ.1,aJ.2,ax⟩
     obtain⟨au,aP,_,_,e1,e2,e3,e4,_⟩:=id aO;have e2:=(IC e2).1;have el:=R Z e1 e4;have aG:NW e C dct h3:=⟨au,e1,e2,e3,fun cc z=>by rw[e4] at z;cases z⟩;have J4:C' X aa σ1 (W7 H1 e (.ext (NW e C dct))) { s1 with heap:=h3 }:=Z.track x.un x.lo el.1 el.2 (ar x.pe) ⟨aG,⟨_,e1⟩,fun ha U ⟨o,z1,z2⟩ k=>⟨o,k _ z1,z2⟩⟩;have sm:Zu H1 (W7 H1 e (.ext (NW e C dct))):=K3 x.un;refine Kr J4 hN hi hx (v:=.ref e) rfl (fun s5 J5=>?_) hf;have rp:Rp X.K (av (W7 H1 e (.ext (NW e C dct))) A1) (.exc c fl) (.ref e):=by
      unfold Rp;exact⟨e,C,dct,rfl,V8 Zk (ae x.un),ai,az.mono (Vj sm)⟩
     have k5:=(k1.mono sm).put i rp;have aj:Hq fr (X.inH (X.pn++aa) e) B A1 (W7 H1 e (.ext (NW e C dct))) (KG.mk (fun σ' H'=>D.nx (σ'.set i none) H') D.rt (fun σ' H'=>D.bk (σ'.set i none) H') (fun σ' H'=>D.ct (σ'.set i none) H')) (h (env'.set i (.fz (.exc c fl)))):=by
      have q2:=q.step (aC.trans (JN.same sm));unfold bc at q2;cases eh:h (env'.set i (.fz (.exc c fl))) with
      | next e'=>rw[eh] at q2;exact fun A' H' σ' s' k'=>q2 A' H' _ s' (k'.clr i)
      | brk e'=>rw[eh] at q2;exact fun A' H' σ' s' k'=>q2 A' H' _ s' (k'.clr i)
      | cont e'=>rw[eh] at q2;exact fun A' H' σ' s' k'=>q2 A' H' _ s' (k'.clr i)
      | ret d=>rw[eh] at q2;exact q2
      | exc e' c' f'=>rw[eh] at q2;exact q2.elim
      | no=>rw[eh] at q2;exact q2
     refine BM (hh (X.pn++aa) e [] s5 _ _ _ J5.toH ⟨_,B,A1,k5,l,aj⟩) (fun f s6 hs=>?_) (fun _ _ z=>z.elim);show wpAny _ _ _ _ _ _;cases f with
     | next=>obtain⟨σ',H',I',W⟩:=hs;exact P4 (I'.ofH I.ok) hN hi Y fun s7 I7=>⟨_,H',I7,W⟩
     | brk=>obtain⟨σ',H',I',W⟩:=hs;exact P4 (I'.ofH I.ok) hN hi Y fun s7 I7=>⟨_,H',I7,W⟩
     | cont=>obtain⟨σ',H',I',W⟩:=hs;exact P4 (I'.ofH I.ok) hN hi Y fun s7 I7=>⟨_,H',I7,W⟩
     | ret u=>obtain⟨v,σ',H',I',r',W⟩:=hs;exact P4 (I'.ofH I.ok) hN hi Y fun s7 I7=>⟨v,_,H',I7,r',W⟩
    show wpAny _ _ _ _ _ _;rcases x.ob with⟨o,vs,he,O,hd,aq,h1,af⟩ | ⟨T0,c2,hT,al,ax,ht,af⟩
    ·refine Ml ag hl j.2 he t ac aq h1 fun h' F x0 x1 x2 x3 x4 x5=>?_
     refine Ey (s:={ s1 with heap:=h' }) x1 x2 x3 fun h2 y1 y2 y3 y4 y5=>?_
     rw[O,hd] at y3;refine after h2 F _ [e] x0 y1 y2 y3 (Mo x4 x0 y4) fun b U=>?_
     rw[AL.mp U];have z:=R G he aq;exact⟨x.un,x.lo,z.1,z.2,ar x.pe⟩
    ·refine RH ag hl j.2 ht t ac fun h' F x0 x1 x2 x3 x4 x5=>?_
     refine Ey (s:={ s1 with heap:=h' }) x1 x2 x3 fun h2 y1 y2 y3 y4 y5=>?_
     refine after h2 F _ [e,T0] x0 y1 y2 y3 (Mo x4 x0 y4) fun b U=>?_
     obtain⟨oe,ve,oT,ts,g1,g2,g3,g4,g5,g6,g7,g8,g9,aH⟩:=id ht;rcases BI.mp U with z | z
     ·rw[z];have w:=R G g1 g4;exact⟨x.un,x.lo,w.1,w.2,ar x.pe⟩
     ·rw[AL.mp z];have w:=R G g8 g9;exact⟨al,hT,w.1,w.2,ar ax⟩
   ·exact q.elim
 refine IV (BM (U (X.pn++aa) EX [] s σ H D I.toTry ⟨env,B,A,kk,l,aD⟩) (fun f s₁ hs=>?_) (fun e s₁ hx=>hx));cases f with
 | next=>obtain⟨σ',H',I',W⟩:=hs;exact AK ⟨σ',H',I'.ofTry I.ok,W⟩
 | brk=>obtain⟨σ',H',I',W⟩:=hs;exact⟨σ',H',I'.ofTry I.ok,W⟩
 | cont=>obtain⟨σ',H',I',W⟩:=hs;exact⟨σ',H',I'.ofTry I.ok,W⟩
 | ret u=>obtain⟨v,σ',H',I',r',W⟩:=hs;exact⟨v,σ',H',I'.ofTry I.ok,r',W⟩
end
section
variable{f:Zzu}
def LK(sb:Str->C2 Bool)(f:Zzu):Ev->C2 Dat:=fun env=>(f env).bind fun d=>match d with
 | .exc c _=>(sb c).map .bl
 | _=>none
theorem YZ{c:Str}{b:Bool}{Q:KD}(I:C' X aa σ H s)(r:Rp X.K H (.exc c fl) v)(N:W2 v u)(Y:∀ C,Wg X.K c C->kitOne X.K (.ref C) cv=some b/\J3 X.K C)(h:∀ tk,Q (.bool b) { s with toks:=tk }) :
  wpAny (model X.prog X.w) A (call (.builtin "isinstance") [u,cv]) Q E s:=by
 obtain⟨ex,C,dct,e1,e2,e3,e4⟩:=a' r;subst e1;cases N;obtain⟨⟨o,h1,h2,_⟩,_,_⟩:=(show V2 X.prog X.w H s.heap ex (.ext (NW ex C dct)) from I.hok ex _ e2);obtain⟨f,xc⟩:=Y C e3;exact kia_one (df xc) I.kIn ⟨o,h1,h2⟩ f (fun z=>nomatch z) h
theorem ln{x:Str}(hg:Gl X x)(hm:X.mg x=some (.ref D))(hd:(x==("__debug__" : Str))=false:=by decide):PE X (.Name x p) (fun σ H Q=>Q (.ref D) H):=fun aa s σ H Q I h=>Uj I hg hm ⟨.ref D,H,I,rfl,h⟩ hd
theorem ji(he:Wm true X e f)(j:X.mg tx=some (.ref D))(Y:∀ c C b,Wg X.K c C->sb c=some b->kitOne X.K (.ref C) (.ref D)=some b/\J3 X.K C)(hm:X.mg "isinstance" = none)(hg:Gl X "isinstance" := by rfl)(i:Gl X tx:=by rfl)(hv:bootBuiltins "isinstance" = some (.builtin "isinstance"):=by decide +kernel)(g:(tx==("__debug__" : Str))=false:=by decide)
  (hs:starEach [e,.Name tx p2] X.env=(false,eval e X.env)::starEach [.Name tx p2] X.env:=by rfl):Wm m X (.Call (.Name "isinstance" p) [e,.Name tx p2] [] pos) (LK sb f):=by
 have O:Uf X (.builtin "isinstance") (fun vs H Q=>∃ v A d b c fl,vs=[v,.ref D]/\Q8 A H/\d=.exc c fl/\sb c=some b/\Pk X.K A H d v/\Mh false X.K A H (.bl b) Q):=by
  intro aa s σ H xs us Q I r ⟨v,A,d,b,c,fl,e1,mu,e2,e3,M,q⟩;subst e1 e2;obtain⟨u,l,rfl,N,a⟩:=RF r;cases a;exact YZ I M.rp N (fun C hC=>Y c C b hC e3) fun tk=>⟨.bl b,H,I.tok _,rfl,q.here Uq⟩
 refine Wm.any ((K1 O hg hm hv (Yu he (Yu (ln i j g) U3) hs) (he:=hs)).weak fun σ H Q ⟨env,R,A,d,k,q1,q2⟩=>?_);obtain⟨x,e1,h⟩:=bind_some q1;cases x with
 | exc c fl =>
  obtain⟨b,e2,h⟩:=map_some h;subst h;exact⟨env,R,A,_,k,e1,fun v H1 s1 M=>⟨v,A,_,b,c,fl,rfl,k.mu.mono s1,rfl,e2,M,q2.mono s1⟩⟩
 | _=>cases h
theorem hH{T:String}(he:Wm true X e f)(j:X.mg tx=none)(o:bootBuiltins tx=some (.type T))(n:tx≠"__name__")(Y:∀ c C b,Wg X.K c C->sb c=some b->kitOne X.K (.ref C) (.type T)=some b/\J3 X.K C)(hm:X.mg "isinstance" = none)(hg:Gl X "isinstance" := by rfl)(i:Gl X tx:=by rfl)(hv:bootBuiltins "isinstance" = some (.builtin "isinstance"):=by decide +kernel)(g:(tx==("__debug__" : Str))=false:=by decide)
  (hs:starEach [e,.Name tx p2] X.env=(false,eval e X.env)::starEach [.Name tx p2] X.env:=by rfl):Wm m X (.Call (.Name "isinstance" p) [e,.Name tx p2] [] pos) (LK sb f):=by
 have O:Uf X (.builtin "isinstance") (fun vs H Q=>∃ v A d b c fl,vs=[v,.ty T]/\Q8 A H/\d=.exc c fl/\sb c=some b/\Pk X.K A H d v/\Mh false X.K A H (.bl b) Q):=by
  intro aa s σ H xs us Q I r ⟨v,A,d,b,c,fl,e1,mu,e2,e3,M,q⟩;subst e1 e2;obtain⟨u,l,rfl,N,a⟩:=RF r;cases a;exact YZ I M.rp N (fun C hC=>Y c C b hC e3) fun tk=>⟨.bl b,H,I.tok _,rfl,q.here Uq⟩
 refine Wm.any ((K1 O hg hm hv (Yu he (Yu (hk i j o n g) U3) hs) (he:=hs)).weak fun σ H Q ⟨env,R,A,d,k,q1,q2⟩=>?_);obtain⟨x,e1,h⟩:=bind_some q1;cases x with
 | exc c fl =>
  obtain⟨b,e2,h⟩:=map_some h;subst h;exact⟨env,R,A,_,k,e1,fun v H1 s1 M=>⟨v,A,_,b,c,fl,rfl,k.mu.mono s1,rfl,e2,M,q2.mono s1⟩⟩
 | _=>cases h
end
end L2
namespace L2
open PySem
end L2
namespace L2
open PySem PySem.Spec PyProof.Rows
section
variable{R:Result->C0->Prop}{G:Array GenState->Array GenState->Prop}{n:Nat}{Pv:Nat->A2->Prop}{St:Nat->C0->Prop}
end
end L2
namespace PySem
namespace F
end F
end PySem
namespace L2
open PySem PySem.Spec PyProof.Rows
end L2
namespace PySem.F
end PySem.F
namespace L2
open PySem PySem.Spec PyProof.Rows
end L2
namespace Sq
open PySem PyProof PyProof.Rows
section
variable{a₀:Array Keyed}{p:Array (Nat×Nat×Nat)}
end
section
variable{r:Int->Int->Prop}{a b aD:C3 Keyed}{ia ib:Nat}
end
section
variable{a b:Array Keyed}{n0:Nat}
end
section
variable{a₀:Array Keyed}
end
end Sq
namespace L2
open PySem PySem.Spec PyProof.Rows
end L2
set_option maxHeartbeats 4000000
namespace L2
open PySem PySem.Spec PyProof.Rows
theorem gI{b:A4}{vs ws:C3 A2}{Q:KD}(ht:IsTup s.heap t vs.toArray)(U:IsTup s.heap b ws.toArray)(hv:vs=[])(h0:Q (.ref b) s):wpAny (model P w) A (binaryOp .Add (.ref t) (.ref b)) Q E s:=by
 obtain⟨⟨cls,dd,data,sl⟩,J,O,n,hd⟩:=id ht;obtain⟨⟨g,d,data2,f⟩,c,D,n2,a⟩:=id U;simp only at O hd D a;subst O hd D a;exact JM ⟨_,J,rfl⟩ ⟨_,c,rfl⟩ IT JH HC GS (GK _ _)
  (tuple_addW0 t b vs.toArray ws.toArray n n2 dd d sl f (by simp[hv])) ⟨J,c,h0⟩
theorem Pk.tupR{A:AS}(h:Pk K A H (.tup ds) v):Rp K (av H A) (.tup ds) v:=by
 rcases h with h | ⟨a,vs,ds,e1,e2,e3,e4⟩ | ⟨_,_,_,e1,_⟩ | ⟨_,_,e1,_⟩
 ·exact h
 ·cases e1
 ·cases e1
 ·cases e1
def Au:Dat->Dat->C2 Dat
 | .tup xs,.tup ys=>if xs.length+ys.length<=sizeLine then some (.tup (xs++ys)) else none
 | _,_=>none
theorem N3:Ek X (binaryOp .Add) Au:=fun aa s σ H x y v u Q I S m L=>by
 obtain⟨A,a,b,d,mu,e,M,p2,q⟩:=L;unfold Au at e;split at e
 ·rename_i xs ys
  split at e
  ·rename_i hz
   cases e;obtain⟨l1,vs,e1,h1,r1⟩:=M.tup;obtain⟨l2,us,e2,h2,r2⟩:=p2.tup;have z1:=Y0 r1;have z2:=Y0 r2;have w1:=M.tupR;have w2:=p2.tupR;by_cases hx:xs=[]
   ·subst hx e1 e2
    cases S;cases m;obtain⟨its,y1,g1,_⟩:=I.tuple h1;obtain⟨c,y2,g2,_⟩:=I.tuple h2;have hn:its=[]:=by
     have:=y1.length;rw[z1] at this;exact EH.mp this.symm
    refine gI g1 g2 hn ⟨.ref l2,H,I,rfl,?_⟩;exact q.here w2
   ·refine lp aa s σ H x y v u Q I S m ⟨l1,l2,vs,us,e1,e2,h1,h2,iG r1 (by simpa using hx),by lia,fun hy=>?_,fun hy=>?_⟩
    ·have:ys=[]:=by subst hy;exact EH.mp z2.symm
     subst this;rw[FF] at q;rw[e1] at w1;exact q.here w1
    ·exact q.tup mu (by rw[AN];exact hz) (Wq r1 r2)
  ·cases e
 ·cases e
end L2
namespace L2
open PySem PySem.Spec PyProof.Rows PySem.W
def Qm(ao:C3 Str)(t:Str):Str->C2 Bool:=fun c=>if c∈ao then some (decide (c=t)) else none
def A6(ao:C3 Str):Str->C2 Bool:=fun c=>if c∈ao then some true else none
def Ps(ao:C3 Str):Str->Bool:=fun c=>decide (c∈ao)
def MW(K:Frag)(mg:KB)(tx:Str)(sb:Str->C2 Bool):Prop:=∃ D,mg tx=some (.ref D)/\∀ c C b,Wg K c C->sb c=some b->kitOne K (.ref C) (.ref D)=some b/\J3 K C
def WF(K:Frag)(mg:KB)(tx:Str)(T:String)(sb:Str->C2 Bool):Prop:=∀ c C b,Wg K c C->sb c=some b->kitOne K (.ref C) (.type T)=some b/\J3 K C
def TR(K:Frag)(mg:KB)(T:Str)(sub:Str->Bool):Prop:=∃ D,mg T=some (.ref D)/\∀ c C,Wg K c C->sub c=true->exmOne K (.ref C) (.ref D)=some true
section
variable{f:Zzu}{h:Ev->Fl}{T n:Str}{sub:Str->Bool}
theorem OH(he:Wm true X e f)(hC:MW X.K X.mg tx sb)(hm:X.mg "isinstance" = none)(hg:Gl X "isinstance" := by rfl)(i:Gl X tx:=by rfl)(hv:bootBuiltins "isinstance" = some (.builtin "isinstance"):=by decide +kernel)(g:(tx==("__debug__" : Str))=false:=by decide)
  (hs:starEach [e,.Name tx p2] X.env=(false,eval e X.env)::starEach [.Name tx p2] X.env:=by rfl):Wm m X (.Call (.Name "isinstance" p) [e,.Name tx p2] [] pos) (LK sb f):=by
 obtain⟨D,h1,h2⟩:=hC;exact ji he h1 h2 hm hg i hv g hs
theorem j6(U:∀ pn E,Oe fr (X.inTry pn E) body g)(hh:∀ pn e,Oe fr (X.inH pn e) (b₀::aw) h)(hC:TR X.K X.mg T sub)(hN:X.N.Nodup)(hi:X.N[i]?=some n)(hx:LC X.env.scope n)(Y:X.env.kindOf n=some .local:=by rfl)(hg:Gl X T:=by rfl)(P:(T==("__debug__" : Str))=false:=by decide)
  (j:X.stack=X.env::X.outer/\X.env.frame=some X.env.locals:=by exact⟨rfl,rfl⟩)
  (hf:X.fn n=true\/X.env.scope.names.lookup n=some .local:=by first | exact .inl rfl | exact .inr rfl | assumption) :
  Ir fr X (.Try body [.ExceptHandler (some (.Name T np)) (some n) (b₀::aw) aL] [] [] pos) (ON sub i g h):=by
 obtain⟨D,h1,h2⟩:=hC;exact hD U hh hN hi hx h1 h2 Y hg P j hf
end
section
variable{K:Frag}
theorem hR(hm:mg tx=some (.ref D))(h:∀ c∈ao,∃ C,Wg K c C/\kitOne K (.ref C) (.ref D)=some (decide (c=tx))/\J3 K C):MW K mg tx (Qm ao tx):=by
 refine⟨D,hm,fun c C b O U=>?_⟩;unfold Qm at U;split at U
 ·rename_i Z
  cases U;obtain⟨g,h1,h2,h3⟩:=h c Z;unfold Wg at O h1;rw[O] at h1;cases h1;exact⟨h2,h3⟩
 ·cases U
theorem gc{T:String}(h:∀ c∈ao,∃ C,Wg K c C/\kitOne K (.ref C) (.type T)=some true/\J3 K C):WF K mg tx T (A6 ao):=by
 refine fun c C b O U=>?_
 unfold A6 at U;split at U
 ·rename_i Z
  cases U;obtain⟨g,h1,h2,h3⟩:=h c Z;unfold Wg at O h1;rw[O] at h1;cases h1;exact⟨h2,h3⟩
 ·cases U
theorem lK{T:Str}(hm:mg T=some (.ref D))(h:∀ c∈ao,∃ C,Wg K c C/\exmOne K (.ref C) (.ref D)=some true):TR K mg T (Ps ao):=by
 refine⟨D,hm,fun c C O U=>?_⟩;obtain⟨g,h1,h2⟩:=h c (BF U);unfold Wg at O h1;rw[O] at h1;cases h1;exact h2
end
theorem mw:MV X "list.extend" (fun x vs H Q=>∃ l b xs zs,x=.ref l/\vs=[.ref b]/\H l=some (.lst xs)/\SL X.K H b zs/\xs.length+zs.length<=sizeLine/\Q .non (W7 H l (.lst (xs++zs)))):=by
 intro aa s σ H x vs v us Q I S L h;obtain⟨l,b,xs,zs,rfl,rfl,d,f,hz,q⟩:=h;cases S;obtain⟨u,rfl,N⟩:=L.one;cases N;obtain⟨z,its,n,r,hl,e⟩:=I.lstM d;obtain⟨c,n2,r2,e2,ae⟩:=f.get I;have W:=r2.length;have hsz:its.toArray.size+c.toArray.size<=sizeLine:=by rw[AT,AT];lia
 have a:¬ (!its.toArray.isEmpty&&Builtin.List.listTooLong (its.toArray.size+c.toArray.size))=true:=by
  rw[mr hsz,Bool.and_false];exact CG
 refine GR PySem.F.slot_list_extend ⟨_,e,rfl⟩ PySem.F.entry_list_extend (PySem.F.args_list_extend_2 _ _)
  (AutoSeq1.list_extend_list_list_0 l its.toArray n b c.toArray n2 a (by rw[AT];lia) (by lia)) ⟨e,e2,?_⟩
 refine⟨.non,_,I.lset (its':=its++c) d e (by simp) (r.append r2) ?_,rfl,q⟩;rw[AN];lia
def Oo:C3 Dat->C3 Dat->C2 (C3 Dat)
 | ds,[.lst es]=>if ds.length+es.length<=sizeLine then some (ds++es) else none
 | _,_=>none
theorem kW:SW X "list.extend" Oo:=MV.weak (id:="list.extend") mw fun v us H Q L=>by
 obtain⟨A,a,vs,ds,as,ds',mu,e1,h1,r1,r2,e2,q⟩:=L;unfold Oo at e2;split at e2
 ·rename_i es
  split at e2
  ·rename_i hl
   cases e2;obtain⟨w,m,e3,r3,e4⟩:=r2;obtain⟨b,zs,e5,hS,r5⟩:=Rl r3;subst e5;have l1:=Y0 r1;have l2:=Y0 r5;refine⟨a,b,vs,zs,e1,by rw[e3,show m=[] from e4],h1,W5.sl hS,by lia,q _ _ (by rw[AN];exact hl) (Wq r1 r5)⟩
  ·cases e2
 ·cases e2
section
variable{f:Zzu}{vs:C3 C4}{r:Ev->Str->C2 Str}
end
end L2
namespace L2
open PySem PySem.Spec PyProof.Rows PySem.W PySem.Builtin PySem.Builtin.Str
end L2
namespace L2
open PySem PySem.Spec PyProof.Rows PySem.W
section
variable{n:Nat}{c:Str}
theorem Pp(M:J' X.prog X.w X.K X.mg X.base k c n G)(Z:JQ (k+1) X.A)(O:X.calm=true)(hg:Gl X c:=by rfl)(P:(c==("__debug__" : Str))=false:=by decide)
  : Ir fr X (.Raise (some (.Call (.Name c p) [] [] al)) none pos) (U1 c G Za):=by
 intro aa s σ H D I ⟨env,B,A,kk,l,q⟩;obtain⟨C,fI,D',fd,ps,ai,hm,a,hx,xc,am,F,U⟩:=M.ex;unfold U1 at q;split at q
 ·exact q.elim
 rename_i fl aj;obtain⟨ds,e1,hG⟩:=bind_some aj;obtain⟨nm,qn,N,bs,sn,sub,ab,col,dd,k0,k1,k2,k3,k5,mN,hC,hN,hi,T⟩:=Xa I.kIn hx;have ag:wpAny (model X.prog X.w) X.A (eval (.Call (.Name c p) [] [] al) X.env) (fun v s'=>∃ ex t dct,v=.ref ex/\(∃ o,s'.heap.get? C=some o)/\s'.heap.get? ex=some { cls:=.ref C,dict:=dct,data:=.fields #[.ref t,.none,.none,.none,.bool false,.none] }/\X.K.In s'.heap/\X.xe (.ref ex) s') X.xe s:=by
  refine CQ (Uj I hg hm ?_ P);refine callWith_K0 I.kIn a ?_;cases e1;exact A0 M Z I kk .nil Uk hG ai hx am F U fun H' σ' _ j k2=>q A H' σ (JN.same j) k2
 rw[JE];refine AA (CW (Ng (C:=C) (nm:=nm) (q:=qn) (N:=N) (bs:=bs) (bm:=.ref D'::Mw) (hdct:=true) (sn:=sn) (sub:=sub) (ab:=ab) (col:=col) (dd:=dd) (k0:=k0) (k1:=k1) (k2:=k2) (k3:=k3) (k5:=k5) (newId:="ValueError.__new__") (by simp[Mw]) (I.ok.hd O) (AA (BM ag (fun v s₃ h₃=>AA (CW (AK ?_))) fun _ _ x=>x))));obtain⟨ex,t,dct,rfl,_,hex,f,b⟩:=h₃;obtain⟨o,lk⟩:∃ o,X.K.lookup C=some o:=by
  unfold Dd at hx;split at hx
  ·rename_i J;exact⟨_,J⟩
  ·cases hx
 have e2:=(I.kIn _ _ lk).symm.trans hC;cases e2;exact⟨ex,.ref t,dct,rfl,f _ _ lk,hex,b⟩
end
def gZ:C3 Dat->C2 (C3 (Str×XD))
 | []=>some []
 | _=>none
theorem WM:∀ ds fl,gZ ds=some fl->ds.length=0:=fun ds fl h=>by
 unfold gZ at h;split at h
 ·rfl
 ·cases h
section
variable{K:Frag}
theorem bg{st:C5}{z:Str}(F:KY K "__init__" ai st fI fd)(S:FnScope ["self"] ["self"] (Z6 st))(hx:Dd K C aB D=true)
  (U:∀ (ah:A2) (A:C1) (outer:C3 IA) (s:C0) (H:Hp) (E:XK),JQ k (A.deeper (envOfC ai (Z6 st) s.heap.objs.size fI ah)) ->
   Gr (Qq Ht P w K mg base ["self"] ai (Z6 st) fI ah A outer s H E).nox (Yk st) (QV (QR K (D6 (Sx 0) (D6 (tC (.str z)) Bi))))) :
  KC P w K mg base Ht (k+1) fI fd ["self"] (NB K C 0 gZ):=by
 refine F.ok S (fun vs H Q E ⟨e,ws,ds,R,fl,ev,hl,_⟩=>by rw[ev,BC,hl];rfl) fun ah A outer s H vs Q E Z ⟨e,ws,ds,R,fl,ev,hl,he,mu,re,rs,hG,q⟩=>⟨_,U ah A outer s H E Z,?_⟩
 subst ev;have ew:ws=[]:=EH.mp hl;subst ew;have t:ds=[]:=EH.mp (WM ds fl hG);subst t;cases hG;exact⟨.ref e,rfl,e,C,none,.str z,aB,D,rfl,he,hx,q H none (fun _ _ _ h=>h) he rfl ja⟩
end
def QP(K:Frag)(ta tv:TE)(f:Str):TS:=fun D σ H=>tv σ H fun y H1=>ta σ H1 fun x H2=>∃ a C dx j fI D',x=.ref a/\H2 a=some (.ext (Hv a C (some dx)))/\H2 dx=some (.xd j)/\j.length<=100/\j.lookup f=none/\Dd K C fI D'=true/\J3 K C/\findIn K (.ref C) f=some none /\
 D.nx σ (W7 H2 dx (.xd (j++[(f,y)])))
theorem Nr(f g:Str)(y:β):∀ (l:C3 (Str×β)),(l++[(f,y)]).lookup g=match l.lookup g with | some v=>some v | none=>if g=f then some y else none
 | []=>by
   by_cases e:g=f
   · subst e;simp[List.lookup]
   · have e':(g==f)=false:=by simpa using e
     simp[List.lookup,e',e]
 | (h,z)::l=>by
   rw[List.cons_append,DR,DR];cases hh:(g==h) with
   | true=>rfl
   | false=>exact Nr f g y l
theorem Pi{z:Str}{v:β}:∀ {l:C3 (Str×β)},l.lookup z=some v->z∈l.map (·.1)
 | [],h=>by simp at h
 | (k,w)::l,h=>by
   rw[DR] at h;cases hh:(z==k) with
   | true=>rw[DC.mp hh];simp
   | false=>rw[hh] at h;exact AX _ (Pi h)
theorem Ov{o:C4}{f:Str}(ha:PE X o ta)(hv:PE X ap tv)(hs:swapsWith ap (some (.Attribute o f am)) pos.line X.env=pure false:=by rfl):PS X (.Assign [.Attribute o f am] ap pos) (QP X.K ta tv f):=by
 intro aa s σ H D I h;refine plainObj_wpAny_Assign_Attribute (Vk (hv aa s σ H _ I h) fun u s1 ⟨y,H1,I1,m,q⟩=>Vk (ha aa s1 σ H1 _ I1 q) fun E s2 ⟨x,H2,I2,S,a,C,dx,j,fI,D',ex,ea,t,B,i,O,xc,hf,q2⟩=>?_) hs;subst ex;obtain rfl:E=Value.ref a:=S;obtain⟨⟨t0,P⟩,_,_⟩:=(show V2 X.prog X.w H2 s2.heap a (.ext (Hv a C (some dx))) from I2.hok a _ ea);obtain⟨mA,N,A⟩:=(show V2 X.prog X.w H2 s2.heap dx (.xd j) from I2.hok dx _ t);obtain⟨cd,M,W,J,T,hm⟩:=xc.cd;obtain⟨oC,G,hC,k,p⟩:=xc.ld I2.kIn;have R:=N;obtain⟨od,es,ep,U,hcod⟩:=N;have Q:InstAt s2.heap a { cls:=.ref C,dict:=some dx,data:=.fields #[.ref t0,.none,.none,.none,.bool false,.none] } C (some od):=⟨P,rfl,rfl,U⟩;refine set_plain I2.kIn Q xc.sa ?_;refine XH (s:={ s2 with toks:=s2.toks+1 }) I2.kIn Q M hm hf ?_;obtain⟨hh,g,d,tk,os⟩:=s2;have hw:Within mA (j.map (·.1)):=fun z hz=>by
  have:=A z;cases e:j.lookup z with
  | none =>
   rw[e] at this;cases e2:mA z with
   | none=>exact absurd e2 hz
   | some v=>rw[e2] at this;exact this.elim
  | some v=>exact Pi e
 refine n6 P rfl rfl R hw (by rw[AC];lia) hC k p fun h' r F Y hsz=>?_
 have nd:∀ {b:A4} {o:HO},H2 b=some o->(∀ l,o≠.xd l)->b≠dx:=fun {b o} q n z=>by rw[z,t] at q;cases q;exact n _ rfl
 have n0:∀ {b:A4},H2 b=none->b≠dx:=fun {b} q z=>by rw[z,t] at q;cases q
 have un:Un X.fs [] H2 (W7 H2 dx (.xd (j++[(f,y)]))) hh h':=by
  refine⟨fun b o q n _ _=>Y b o (n0 n) q,fun b o q n _ _=>⟨o.slots,Y b o (n0 n) q⟩,fun b o q n _=>by rw[Zd (n0 n)];exact n,fun b o q _=>?_,fun b xs q=>by rw[Zd (nd q (fun _ z=>by cases z))];exact q,fun b o u q=>by rw[Zd (nd q (fun _ z=>by cases z))];exact q,fun b ps q=>⟨#[],by rw[Zd (nd q (fun _ z=>by cases z))];simpa using q⟩⟩;by_cases z:b=dx
  ·subst z
   obtain⟨od2,_,_,h2,_⟩:=F;exact⟨_,h2⟩
  ·exact⟨_,Y b o z q⟩
 have hok:Ee X.prog X.w (W7 H2 dx (.xd (j++[(f,y)]))) h':=by
  intro b o q;by_cases z2:b=dx
  ·subst z2
   rw[Zk] at q;cases q;refine⟨_,F,fun g=>?_⟩;show Po (List.lookup g (j++[(f,y)])) (if g=f then some u else mA g);rw[Nr];by_cases e:g=f
   ·subst e
    rw[i];simp[Po];exact m
   ·have:=A g
    cases e3:j.lookup g with
    | none=>rw[e3] at this;simpa[e] using this
    | some v=>rw[e3] at this;simpa[e] using this
  ·rw[Zd z2] at q
   refine(I2.hok b o q).stay (fun c v z w=>Y c v (fun L=>?_) w) (fun c w=>?_) fun c xs w=>?_
   ·rcases z with z | z
    ·exact z2 (z.symm.trans L)
    ·rw[L,t] at z;cases z
   ·rw[Zd (fun L=>by rw[L,t] at w;cases w)];exact w
   ·rw[Zd (fun L=>by rw[L,t] at w;cases w)];exact w
 exact⟨σ,_,I2.un (h':=h') (t':=r) un hok,q2⟩
variable{x1 x2 x3:Str}{E:XK}{e:A4}
def Dy(i:Int):Bool:=decide (0<=i)&&decide (i<1000)
theorem N7{i:Int}(h:Dy i=true):0<=i/\i<1000:=by
 unfold Dy at h;rw[AV] at h;exact⟨BF h.1,BF h.2⟩
def gC(f1 f2 f3:Str):C3 Dat->C2 (C3 (Str×XD))
 | [.lst xs,.int i,.int j]=>(Mp xs).bind fun ns=>if(Qd ns&&Dy i&&Dy j)=true then some [(f1,.nums ns),(f2,.int i),(f3,.int j)] else none
 | _=>none
def gK(f1 f2 f3:Str):C3 Dat->C2 (C3 (Str×XD))
 | [.lst xs,.lst ys,.int i]=>(Mp xs).bind fun ns=>(Mp ys).bind fun ms=>if(Qd ns&&Qd ms&&Dy i)=true then some [(f1,.nums ns),(f2,.nums ms),(f3,.int i)] else none
 | _=>none
section
variable{K:Frag}
theorem nO{st:C5}(F:KY K "__init__" ai st fI fd)(S:FnScope ["self",x1,x2,x3] ["self",x1,x2,x3] (Z6 st))(hx:Dd K C aB D=true)(xc:J3 K C)(h1:findIn K (.ref C) f1=some none)(h2:findIn K (.ref C) f2=some none)(h3:findIn K (.ref C) f3=some none)
  (x:f1≠f2) (aa:f1≠f3) (ac:f2≠f3)
  (U:∀ (ah:A2) (A:C1) (outer:C3 IA) (s:C0) (H:Hp) (E:XK),JQ k (A.deeper (envOfC ai (Z6 st) s.heap.objs.size fI ah)) ->
   Gr (Qq Ht P w K mg base ["self",x1,x2,x3] ai (Z6 st) fI ah A outer s H E).nox (Yk st) (Pt (QV (QR K (D6 (Sx 0) (D6 (Ou r) Bi)))) (Pt (UH K (Sx 0) (QJ (RS K) (D6 (Sx 1) Bi)) f1) (Pt (QP K (Sx 0) (Sx 2) f2) (QP K (Sx 0) (Sx 3) f3)))))
  (hj:∀ (H:Hp) (e a:A4) (ns:C3 Int) (i j:Int),SL K H a (ns.map V.int)->Ex ns->0<=i->i<1000->0<=j->j<1000->OD 0 [some (.ref e),some (.ref a),some (.int i),some (.int j)] H r) :
  KC P w K mg base Ht (k+1) fI fd ["self",x1,x2,x3] (NB K C 3 (gC f1 f2 f3)):=by
 refine F.ok S (fun vs H Q E ⟨e,ws,ds,R,fl,ev,hl,_⟩=>by rw[ev,BC,hl];rfl) fun ah A outer s H vs Q E Z ⟨e,ws,ds,R,fl,ev,hl,he,mu,re,rs,hG,q⟩=>⟨_,U ah A outer s H E Z,?_⟩
 subst ev;unfold gC at hG;split at hG
 ·rename_i xs i j
  obtain⟨ns,hn,hG⟩:=bind_some hG;split at hG
  ·rename_i hs
   cases hG;rw[AV,AV] at hs;obtain⟨⟨hs,hi⟩,ak⟩:=hs;have hs:=Gx hs;obtain⟨f,T⟩:=N7 hi;obtain⟨ae,M⟩:=N7 ak;obtain⟨v,r',e1,r1,r2⟩:=Zw rs;obtain⟨v2,r'',e2,r3,r4⟩:=Zw r2;obtain⟨v3,r''',e3,r5,r6⟩:=Zw r4;have e4:=Yz r6;have e5:=So r3;have Y:=So r5;subst e1 e2 e3 e4 e5 Y;obtain⟨a,us,e3,hS,N⟩:=Rl r1;rw[Mi hn] at N;have e4:=Vo N;subst e3 e4;have t:SL K H a (ns.map V.int):=W5.sl hS;show Pt _ _ _ [some (.ref e),some (.ref a),some (.int i),some (.int j)] H;refine⟨.ref e,rfl,?_⟩;refine hj H e a ns i j t hs f T ae M Str.empty _ (by decide) fun z=>?_
   refine⟨e,C,none,.str z,aB,D,rfl,he,hx,?_⟩;refine⟨.ref a,rfl,a,ns.map V.int,rfl,.inl t.sq,fun l d=>?_⟩;have B:l≠e:=fun z=>by rw[z,he] at d;cases d
   refine⟨.ref e,rfl,e,C,none,aB,D,rfl,by rw[Zd (AO B)];exact he,hx,xc,h1,fun dx p n=>?_⟩;have u:dx≠l:=fun z=>by rw[z,Zk] at p;cases p
   have I:H dx=none:=by rw[Zd u] at p;exact p
   have L:∀ {b:A4},H b=none->R b=false:=fun {b} z=>by
    cases y:R b with
    | false=>rfl
    | true=>obtain⟨o,J⟩:=(mu b y).some;rw[z] at J;cases J
   have W:∀ (G:Hp) (o o':HO),W7 (W7 G dx o) dx o'=W7 G dx o':=fun G o o'=>by funext b;unfold W7;split<;>rfl
   have a1:(f2==f1)=false:=by simpa using AO x
   have a2:(f3==f1)=false:=by simpa using AO aa
   have a3:(f3==f2)=false:=by simpa using AO ac
   have af:List.lookup f2 [(f1,V.ref l)]=none:=by simp[List.lookup,a1]
   have ag:List.lookup f3 [(f1,V.ref l),(f2,V.int i)]=none:=by simp[List.lookup,a2,a3]
   refine⟨.int i,rfl,.ref e,rfl,e,C,dx,[(f1,.ref l)],aB,D,rfl,by rw[Zd (AO n),Zk],Zk,by simp,af,hx,xc,h2,?_⟩;refine⟨.int j,rfl,.ref e,rfl,e,C,dx,[(f1,.ref l),(f2,.int i)],aB,D,rfl,by rw[Zd (AO n),Zd (AO n),Zk],Zk,by simp,ag,hx,xc,h3,?_⟩;rw[W,W];refine q _ (some dx) (fun c o O h=>?_) ?_ ?_ (Xo I Zk fun g a hm=>by simp at hm;obtain⟨_,rfl⟩:=hm;exact⟨d,_,by rw[Zd (AO u),Zd B,Zk]⟩)
   ·have c1:c≠dx:=fun z=>by rw[z,I] at h;cases h
    have c2:c≠l:=fun z=>by rw[z,d] at h;cases h
    rw[Zd c1,Zd O,Zd c2];exact h
   ·rw[Zd (AO n),Zk]
   ·refine⟨[(f1,.ref l),(f2,.int i),(f3,.int j)],V8 Zk (L I),fun g=>?_⟩
    by_cases g1:g=f1
    ·subst g1
     refine .inr ⟨.nums ns,.ref l,by simp[List.lookup],by simp[List.lookup],l,rfl,.inl (.inl (V8 ?_ (L d))),?_⟩
     ·rw[Zd (AO u),Zd B,Zk]
     ·exact DW (T9 (by have:=hs.1;lia))
    have b1:(g==f1)=false:=by simpa using g1
    by_cases g2:g=f2
    ·subst g2
     exact .inr ⟨.int i,.int i,by simp[List.lookup,b1],by simp[List.lookup,b1],rfl⟩
    have b2:(g==f2)=false:=by simpa using g2
    by_cases g3:g=f3
    ·subst g3
     exact .inr ⟨.int j,.int j,by simp[List.lookup,b1,b2],by simp[List.lookup,b1,b2],rfl⟩
    have X:(g==f3)=false:=by simpa using g3
    exact .inl ⟨by simp[List.lookup,b1,b2,X],by simp[List.lookup,b1,b2,X]⟩
  ·cases hG
 ·cases hG
theorem jQ{st:C5}(F:KY K "__init__" ai st fI fd)(S:FnScope ["self",x1,x2,x3] ["self",x1,x2,x3] (Z6 st))(hx:Dd K C aB D=true)(xc:J3 K C)(h1:findIn K (.ref C) f1=some none)(h2:findIn K (.ref C) f2=some none)(h3:findIn K (.ref C) f3=some none)
  (x:f1≠f2) (aa:f1≠f3) (ac:f2≠f3)
  (U:∀ (ah:A2) (A:C1) (outer:C3 IA) (s:C0) (H:Hp) (E:XK),JQ k (A.deeper (envOfC ai (Z6 st) s.heap.objs.size fI ah)) ->
   Gr (Qq Ht P w K mg base ["self",x1,x2,x3] ai (Z6 st) fI ah A outer s H E).nox (Yk st) (Pt (QV (QR K (D6 (Sx 0) (D6 (Ou r) Bi)))) (Pt (UH K (Sx 0) (QJ (RS K) (D6 (Sx 1) Bi)) f1) (Pt (QP K (Sx 0) (QJ (RS K) (D6 (Sx 2) Bi)) f2) (QP K (Sx 0) (Sx 3) f3)))))
  (hj:∀ (H:Hp) (e a b:A4) (ns ms:C3 Int) (j:Int),SL K H a (ns.map V.int)->Ex ns->SL K H b (ms.map V.int)->Ex ms->0<=j->j<1000->OD 0 [some (.ref e),some (.ref a),some (.ref b),some (.int j)] H r) :
  KC P w K mg base Ht (k+1) fI fd ["self",x1,x2,x3] (NB K C 3 (gK f1 f2 f3)):=by
 refine F.ok S (fun vs H Q E ⟨e,ws,ds,R,fl,ev,hl,_⟩=>by rw[ev,BC,hl];rfl) fun ah A outer s H vs Q E Z ⟨e,ws,ds,R,fl,ev,hl,he,mu,re,rs,hG,q⟩=>⟨_,U ah A outer s H E Z,?_⟩
 subst ev;unfold gK at hG;split at hG
 ·rename_i xs ys j
  obtain⟨ns,hn,hG⟩:=bind_some hG;obtain⟨ms,hm,hG⟩:=bind_some hG;split at hG
  ·rename_i hs
   cases hG;rw[AV,AV] at hs;obtain⟨⟨hs,hi⟩,ak⟩:=hs;have hs:=Gx hs;have ht:=Gx hi;obtain⟨ae,M⟩:=N7 ak;obtain⟨v,rA,e1,r1,r2⟩:=Zw rs;obtain⟨v2,rB,e2,r3,r4⟩:=Zw r2;obtain⟨v3,rC,e3,r5,r6⟩:=Zw r4;have e4:=Yz r6;have Y:=So r5;subst e1 e2 e3 e4 Y;obtain⟨a,us,e3,hS,N⟩:=Rl r1;rw[Mi hn] at N;have e4:=Vo N;subst e3 e4;obtain⟨b,m,e7,hT,G⟩:=Rl r3;rw[Mi hm] at G;have e8:=Vo G;subst e7 e8;have t:SL K H a (ns.map V.int):=W5.sl hS;have am:SL K H b (ms.map V.int):=W5.sl hT;show Pt _ _ _ [some (.ref e),some (.ref a),some (.ref b),some (.int j)] H;refine⟨.ref e,rfl,?_⟩;refine hj H e a b ns ms j t hs am ht ae M Str.empty _ (by decide) fun z=>?_
   refine⟨e,C,none,.str z,aB,D,rfl,he,hx,?_⟩;refine⟨.ref a,rfl,a,ns.map V.int,rfl,.inl t.sq,fun l d=>?_⟩;have B:l≠e:=fun z=>by rw[z,he] at d;cases d
   refine⟨.ref e,rfl,e,C,none,aB,D,rfl,by rw[Zd (AO B)];exact he,hx,xc,h1,fun dx p n=>?_⟩;have u:dx≠l:=fun z=>by rw[z,Zk] at p;cases p
   have I:H dx=none:=by rw[Zd u] at p;exact p
   have L:∀ {b:A4},H b=none->R b=false:=fun {b} z=>by
    cases y:R b with
    | false=>rfl
    | true=>obtain⟨o,J⟩:=(mu b y).some;rw[z] at J;cases J
   have keep:∀ c o,c≠e->H c=some o->W7 (W7 (W7 H l (.lst (ns.map V.int))) e (.ext (Hv e C (some dx)))) dx (.xd [(f1,.ref l)]) c=some o:=fun c o O h=>by
    have c1:c≠dx:=fun z=>by rw[z,I] at h;cases h
    have c2:c≠l:=fun z=>by rw[z,d] at h;cases h
    rw[Zd c1,Zd O,Zd c2];exact h
   have f:SL K (W7 (W7 (W7 H l (.lst (ns.map V.int))) e (.ext (Hv e C (some dx)))) dx (.xd [(f1,.ref l)])) b (ms.map V.int):=by
    rcases am with(z | ⟨o,z⟩) | z
    ·exact .inl (.inl (keep b _ (fun w=>by rw[w,he] at z;cases z) z))
    ·exact .inl (.inr ⟨o,keep b _ (fun w=>by rw[w,he] at z;cases z) z⟩)
    ·exact .inr z
   refine⟨.ref b,rfl,b,ms.map V.int,rfl,.inl f.sq,fun l2 W=>?_⟩;have g1:l2≠dx:=fun z=>by rw[z,Zk] at W;cases W
   have g2:l2≠e:=fun z=>by rw[z,Zd (AO n),Zk] at W;cases W
   have g3:l2≠l:=fun z=>by rw[z,Zd (AO u),Zd B,Zk] at W;cases W
   have i:H l2=none:=by rw[Zd g1,Zd g2,Zd g3] at W;exact W
   have a1:(f2==f1)=false:=by simpa using AO x
   have a2:(f3==f1)=false:=by simpa using AO aa
   have a3:(f3==f2)=false:=by simpa using AO ac
   have af:List.lookup f2 [(f1,V.ref l)]=none:=by simp[List.lookup,a1]
   have ag:List.lookup f3 [(f1,V.ref l),(f2,V.ref l2)]=none:=by simp[List.lookup,a2,a3]
   refine⟨.ref e,rfl,e,C,dx,[(f1,.ref l)],aB,D,rfl,by rw[Zd (AO g2),Zd (AO n),Zk],by rw[Zd (AO g1),Zk],by simp,af,hx,xc,h2,?_⟩;refine⟨.int j,rfl,.ref e,rfl,e,C,dx,[(f1,.ref l),(f2,.ref l2)],aB,D,rfl,by rw[Zd (AO n),Zd (AO g2),Zd (AO n),Zk],Zk,by simp,ag,hx,xc,h3,?_⟩;refine q _ (some dx) (fun c o O h=>?_) ?_ ?_ (Xo I Zk fun g a hm=>by simp at hm;rcases hm with⟨_,rfl⟩ | ⟨_,rfl⟩<;>first | exact⟨d,_,by rw[Zd (AO u),Zd (AO u),Zd (AO g3),Zd (AO u),Zd B,Zk]⟩ | exact⟨i,_,by rw[Zd g1,Zd g1,Zk]⟩)
   ·have c1:c≠dx:=fun z=>by rw[z,I] at h;cases h
    have c3:c≠l2:=fun z=>by rw[z,i] at h;cases h
    rw[Zd c1,Zd c1,Zd c3];exact keep c o O h
   ·rw[Zd (AO n),Zd (AO n),Zd (AO g2),Zd (AO n),Zk]
   ·refine⟨[(f1,.ref l),(f2,.ref l2),(f3,.int j)],V8 Zk (L I),fun g=>?_⟩
    by_cases T:g=f1
    ·subst T
     refine .inr ⟨.nums ns,.ref l,by simp[List.lookup],by simp[List.lookup],l,rfl,.inl (.inl (V8 ?_ (L d))),?_⟩
     ·rw[Zd (AO u),Zd (AO u),Zd (AO g3),Zd (AO u),Zd B,Zk]
     ·exact DW (T9 (by have:=hs.1;lia))
    have b1:(g==f1)=false:=by simpa using T
    by_cases aj:g=f2
    ·subst aj
     refine .inr ⟨.nums ms,.ref l2,by simp[List.lookup,b1],by simp[List.lookup,b1],l2,rfl,.inl (.inl (V8 ?_ (L i))),?_⟩
     ·rw[Zd g1,Zd g1,Zk]
     ·exact DW (T9 (by have:=ht.1;lia))
    have b2:(g==f2)=false:=by simpa using aj
    by_cases al:g=f3
    ·subst al
     exact .inr ⟨.int j,.int j,by simp[List.lookup,b1,b2],by simp[List.lookup,b1,b2],rfl⟩
    have X:(g==f3)=false:=by simpa using al
    exact .inl ⟨by simp[List.lookup,b1,b2,X],by simp[List.lookup,b1,b2,X]⟩
  ·cases hG
 ·cases hG
end
theorem b5{f:Str}:∀ ds fl,gW f ds=some fl->ds.length=1:=fun ds fl h=>by
 unfold gW at h;split at h
 ·rfl
 ·cases h
theorem n8:∀ ds fl,gC f1 f2 f3 ds=some fl->ds.length=3:=fun ds fl h=>by
 unfold gC at h;split at h
 ·rfl
 ·cases h
theorem mM:∀ ds fl,gK f1 f2 f3 ds=some fl->ds.length=3:=fun ds fl h=>by
 unfold gK at h;split at h
 ·rfl
 ·cases h
theorem fC(q:Dd K C fI D=true)(cl:PySem.W.findIn K (.ref C) "__class__" = some (some (.builtin "object.__class__")))(ga:PySem.W.findIn K (.ref C) "__getattribute__" = some (some (.builtin "BaseException.__getattribute__")))(gh:PySem.W.findIn K (.ref C) "__getattr__" = some none)(sa:PySem.W.findIn K (.ref C) "__setattr__" = some (some (.builtin "object.__setattr__"))):J3 K C:=by
 refine⟨?_,cl,ga,gh,sa⟩;unfold Dd at q;split at q
 ·rename_i dd cd sl J
  split at q
  ·rename_i g bm k0 k1 k2 k3 n k5 hm hs
   simp only[AV,DC,FK] at q;obtain⟨⟨⟨⟨⟨⟨⟨e1,_⟩,_⟩,a⟩,e2⟩,_⟩,_⟩,_⟩:=q;exact⟨cd,by unfold PySem.W.clsIn;rw[J],a,g,D,by rw[hm,e2]⟩
  ·cases q
 ·cases q
section
variable{M:Model}{E:KD}
theorem A8(hf:env.frame=some L)(ht:Kc s.heap base e T cls dct (rawInt L))(h:Q () s):wpAny M A (noteFrame (.ref e) env) Q E s:=by
 obtain⟨oe,vs,oT,ts,he,B,hdct,hd,h1,n,j,hT,g,h3⟩:=ht;unfold noteFrame;simp only[hf];refine AA (CI he hd h1 ?_);rw[AG (show(Value.ref T != Value.none)=true from by simp)];refine AA (CI hT g h3 ?_);rw[AG (show((rawInt L==rawInt L)=true) from by simp)];exact AK h
theorem WG{fl:A2}{fr:C2 A4} 
  (t:base.StaysIn s.heap) (hl:s.heap.FunFrames base l) (ht:Kc s.heap base e T cls dct fl)
  (h:∀ h',base.StaysIn h'->h'.FunFrames base l->Kc h' base e T cls dct (fr.elim Value.none fun f=>rawInt f)->(∀ b o,s.heap.get? b=some o->b∉[T]->h'.get? b=some o)->h'.objs.size=s.heap.objs.size->Q () { s with heap:=h' }) :
  wpAny M A (setFlight (.ref e) fr) Q E s:=by
 obtain⟨oe,vs,oT,ts,he,B,hdct,hd,h1,n,j,hT,g,h3⟩:=ht;have k:3<ts.size:=(DM.mp h3).1;have a:∀ b,b≠T->(s.heap.update T (Obj.mapFields (·.setIfInBounds 3 (fr.elim Value.none fun f=>rawInt f)))).get? b=s.heap.get? b :=
  fun b U=>BE _ _ (AO U)
 have d:∀ b o,s.heap.get? b=some o->(∀ vs,o.data≠.fields vs)->b≠T:=fun b o U i q=>by
  rw[q,hT] at U;injection U with U;subst U;exact i ts g
 unfold setFlight;refine AA (CI he hd h1 ?_);rw[AG (show(Value.ref T != Value.none)=true from by simp)];refine ET hT g k (h _ (fun b o c=>(a b fun q=>by rw[q,n] at c;cases c).trans (t b o c))
  (hl.of_keeps fun b o U i=>⟨o,(a b (d b o U i)).trans U,rfl⟩) ?_ (fun b o U i=>(a b (fun z=>i (by simp[z]))).trans U) (HB ..))
 exact⟨oe,vs,_,_,(a e (AO j)).trans he,B,hdct,hd,h1,n,j,CH _ hT (FO (DO g _)),DO g _,by simp[k]⟩
theorem nf(hf:env.frame=some L)
  (t:base.StaysIn s.heap) (hl:s.heap.FunFrames base l) (ht:Kc s.heap base e T cls dct (rawInt L))
  (h:∀ h',base.StaysIn h'->h'.FunFrames base l->Kc h' base e T cls dct .none->O5 l [T] s.heap h'->Q () { s with heap:=h' }):wpAny M A (leaving env (.ref e)) Q E s:=by
 unfold leaving;refine AA (A8 hf ht ?_);exact WG (fr:=none) t hl ht fun h' y1 y2 y3 y4 y5=>h h' y1 y2 y3 (O5.of fun b o U O=>y4 b o U O)
theorem iJ(hf:env.frame=some L)
  (t:base.StaysIn s.heap) (hl:s.heap.FunFrames base l) (ht:Kc s.heap base e T cls dct (rawInt L))
  (h:∀ h',base.StaysIn h'->h'.FunFrames base l->Kc h' base e T cls dct (rawInt L)->O5 l [T] s.heap h'->E' (.ref e) { s with heap:=h' }):notedBy M A' env (cameBackBy M A env E') (.ref e) s:=by
 refine A8 (A:=A') (E:=cameBackBy M A env E') hf ht ?_;obtain⟨oe,vs,oT,ts,he,B,hdct,hd,h1,n,j,hT,g,h3⟩:=id ht;refine AA (CI he hd h1 ?_);rw[AQ (show ¬ (Value.ref T==Value.none)=true from by simp)];rw[hf];exact WG (fr:=some L) t hl ht fun h' y1 y2 y3 y4 y5=>h h' y1 y2 y3 (O5.of fun b o U O=>y4 b o U O)
theorem cM(hf:env.frame=some L)
  (t:base.StaysIn s.heap) (hl:s.heap.FunFrames base l) (ht:Kc s.heap base e T cls dct (rawInt L))
  (h:∀ h',base.StaysIn h'->h'.FunFrames base l->Kc h' base e T cls dct (rawInt L)->(∀ b o,s.heap.get? b=some o->b∉[T]->h'.get? b=some o)->E' (.ref e) { s with heap:=h' }):cameBackBy M A env E' (.ref e) s:=by
 obtain⟨oe,vs,oT,ts,he,B,hdct,hd,h1,n,j,hT,g,h3⟩:=id ht;refine AA (CI he hd h1 ?_);rw[AQ (show ¬ (Value.ref T==Value.none)=true from by simp)];rw[hf];exact WG (fr:=some L) t hl ht fun h' y1 y2 y3 y4 y5=>h h' y1 y2 y3 y4
end
def OG(X:Cx)(E:XK):A2->C0->Prop:=fun v s=>∃ (e C:A4) (dct:C2 A4) (aa:J1) (σ:St) (H:Hp),v=.ref e/\C' X aa σ H s/\X.s₀.heap.objs.size<=e/\H e=none/\(∀ p∈X.pn++aa,p.1≠e) /\
 ((∃ o vs,s.heap.get? e=some o/\o.cls=.ref C/\o.dict=dct/\o.data=.fields vs/\vs[1]?=some .none)\/∃ T fl c2,X.s₀.heap.objs.size<=T/\H T=none/\(∀ p∈X.pn++aa,p.1≠T)/\Kc s.heap X.base e T (.ref C,c2) dct fl/\(fl=.none\/fl=rawInt X.env.locals))/\Ct X.H₀ H dct/\E (.ref C) dct H
theorem SC.lie(I:C' X aa σ H s)(x:SC X aa H s.heap e C dct)(ak:Ct X.H₀ H dct)(q:E (.ref C) dct H):OG X E (.ref e) s :=
 ⟨e,C,dct,aa,σ,H,rfl,I,x.lo,x.un,x.pe,x.ob.imp (fun⟨o,vs,a,b,c,d,g,_⟩=>⟨o,vs,a,b,c,d,g⟩) fun⟨T,c2,h1,h2,h3,h4,_⟩=>⟨T,.none,c2,h1,h2,h3,h4,.inl rfl⟩,ak,q⟩
theorem cb(hA:A'.frames=X.A.frames)(j:X.stack=X.env::X.outer/\X.env.frame=some X.env.locals):PassesOwnAt (model X.prog X.w) A' X.A X.env (OG X E):=by
 rintro ev s1 ⟨e,C,dct,aa,σ,H,rfl,G,lo,un,pe,ob,ak,q⟩;have ag:A'.frames=some (X.env::X.outer):=by rw[hA,← j.1];exact G.ok.frames
 have hl:s1.heap.FunFrames X.base (X.env::X.outer):=by rw[← j.1];exact G.stack
 have t:X.base.StaysIn s1.heap:=G.bk;have ac:X.base.get? e=none:=G.noBase lo;have L:∀ b∈He (X.env::X.outer),H b=none:=by rw[← j.1];exact G.stkFree
 have R:∀ {a:A4} {o:Obj} {vs:Array A2},s1.heap.get? a=some o->o.data=.fields vs->a≠X.env.locals/\∀ y c,X.env.cells.lookup y=some c->c≠a:=fun {a o vs} J hd=>by
  refine⟨fun z=>?_,fun y c O z=>?_⟩
  ·obtain⟨m,⟨o',es,ep,S,ah,_⟩,_⟩:=G.loc
   rw[z,S] at J;cases J;rw[hd] at ah;cases ah
  ·obtain⟨v,o',S,ah⟩:=G.cell y c O
   rw[z,J] at S;cases S;rw[hd] at ah;cases ah
 have after:∀ (h2:Gf) (F:A4) (c2:C2 A2) (ch:C3 A4),(X.s₀.heap.objs.size<=F/\H F=none/\∀ p∈X.pn++aa,p.1≠F)->Kc h2 X.base e F (.ref C,c2) dct (rawInt X.env.locals)->O5 (X.env::X.outer) ch s1.heap h2->(∀ b∈ch,H b=none/\X.s₀.heap.objs.size<=b/\b≠X.env.locals/\(∀ y c,X.env.cells.lookup y=some c->c≠b)/\∀ p∈X.pn++aa,p.1≠b)->OG X E (.ref e) { s1 with heap:=h2 }:=fun h2 F c2 ch hT M kp Q=>by
  have J2:C' X aa σ H { s1 with heap:=h2 }:=G.call' (s':={ s1 with heap:=h2 }) (ch:=ch) rfl (by rw[j.1];exact Et kp fun b U=>(Q b U).1) (Jv G.hok kp (fun b U=>(Q b U).1) L) G.bare fun b U=>⟨.inr (Q b U).2.1,(Q b U).2.2.1,(Q b U).2.2.2.1,(Q b U).2.2.2.2⟩
  exact⟨e,C,dct,aa,σ,H,rfl,J2,lo,un,pe,.inr ⟨F,_,c2,hT.1,hT.2.1,hT.2.2,M,.inr rfl⟩,ak,q⟩
 have fresh:∀ {F:A4},s1.heap.objs.size<=F->X.s₀.heap.objs.size<=F/\H F=none/\∀ p∈X.pn++aa,p.1≠F:=fun {F} h=>⟨AZ G.sz h,G.hok.fresh h,fun p hp z=>by
  have:=(G.pin p hp).1;rw[z] at this;exact absurd (AR this) (EN.mpr h)⟩
 rcases ob with⟨o,vs,he,O,hd,aq,h1⟩ | ⟨T,fl,c2,g,f,i,ht,aj⟩
 ·have el:=R he aq
  refine Ml (E:=cameBackBy (model X.prog X.w) X.A X.env (OG X E)) ag hl j.2 he t ac aq h1 fun h' F d z1 z2 z3 z4 z5=>?_
  rw[O,hd] at z3;exact cM (s:={ s1 with heap:=h' }) j.2 z1 z2 z3 fun h2 y1 y2 y3 y4=>after h2 F _ [e] (fresh d) y3 (Mo z4 d y4) fun b U=>by rw[AL.mp U];exact⟨un,lo,el.1,el.2,pe⟩
 ·obtain⟨oe,ve,oT,ts,g1,g2,g3,g4,g5,g6,g7,g8,g9,aH⟩:=id ht
  have el:=R g1 g4;have k:=R g8 g9;rcases aj with aj | aj
  ·subst aj
   refine RH (E:=cameBackBy (model X.prog X.w) X.A X.env (OG X E)) ag hl j.2 ht t ac fun h' F d z1 z2 z3 z4 z5=>?_
   refine cM (s:={ s1 with heap:=h' }) j.2 z1 z2 z3 fun h2 y1 y2 y3 y4=>after h2 F _ [e,T] (fresh d) y3 (Mo z4 d y4) fun b U=>?_
   rcases BI.mp U with e1 | e1
   ·rw[e1];exact⟨un,lo,el.1,el.2,pe⟩
   ·rw[AL.mp e1];exact⟨f,g,k.1,k.2,i⟩
  ·subst aj
   exact iJ j.2 t hl ht fun h2 y1 y2 y3 kp=>after h2 T _ [T] ⟨g,f,i⟩ y3 kp fun b U=>by rw[AL.mp U];exact⟨f,g,k.1,k.2,i⟩
theorem hY(j:X.stack=X.env::X.outer/\X.env.frame=some X.env.locals):PassesOwn (model X.prog X.w) X.A X.env (OG X E):=fun e s h=>cb rfl j e s h
end L2
variable{f fb:L2.Zzu}{T:PySem.Str}{t u:L2.Ev->C2 Bool}{R:L2.Dat->Prop}{env env':L2.Ev}{src:L2.Zzv}{gg:L2.Dat->L2.Ev->C2 L2.Ev}{z:L2.Dat}{tk:C3 (C3 Nat)}{xs:C3 L2.Dat}{j:Int}{L:Nat}
namespace L2
open PySem PySem.Spec PyProof.Rows
theorem kA{f:A4}{E:XK}{e T:A4}{c2:C2 A2}
  (I:C' (Qq (LF P w base) P w K mg base N ai scope f cd A outer s H E) aa σ H' s') (lo:s.heap.objs.size<=e) (un:H' e=none) (hT:s.heap.objs.size<=T) (al:H' T=none) (ht:Kc s'.heap base e T (.ref C,c2) dct (rawInt s.heap.objs.size)) (ak:Ct H H' dct) (q:E (.ref C) dct H') :
  (Qq (LF P w base) P w K mg base N ai scope f cd A outer s H E).xe (.ref e) s':=by
 have hl:s'.heap.FunFrames base (envOfC ai scope s.heap.objs.size f cd::outer):=I.stack;have t:base.StaysIn s'.heap:=I.bk;have bs:Un (He outer) [] H H' s.heap s'.heap:=I.base;have L:∀ b∈He (envOfC ai scope s.heap.objs.size f cd::outer),H' b=none:=I.stkFree;refine nf (env:=envOfC ai scope s.heap.objs.size f cd) rfl t hl ht fun h' z1 z2 z3 kp=>?_
 have Q:∀ b∈[T],H' b=none/\s.heap.objs.size<=b:=fun b U=>by rw[AL.mp U];exact⟨al,hT⟩
 have a:∀ {b:A4} {o:Obj},s.heap.get? b=some o->b∉[T]:=fun {b o} q z=>absurd (AR q) (EN.mpr (Q b z).2)
 have c:∀ {b:A4} {o:Obj},s.heap.get? b=some o->b∉He outer->b∉He (envOfC ai scope s.heap.objs.size f cd::outer):=fun {b o} q n z=>by
  rcases BI.mp (I.stkSub b z) with e1 | e1
  ·have:b=s.heap.objs.size:=e1
   exact absurd (AR q) (by rw[this];exact DA _)
  ·exact n e1
 refine⟨e,C,dct,T,H',c2,rfl,I.os,I.bare,⟨?_,?_,?_,?_,bs.tups,bs.frzs,bs.tbls⟩,Jv I.hok kp (fun b z=>(Q b z).1) L,lo,hT,un,al,z3,(fun z=>nomatch z),ak,q⟩
 ·exact fun b o q n hf hx=>(kp b o (bs.keep b o q n hf hx) (a q)).1 (c q hf)
 ·intro b o q n hf hx
  obtain⟨sl,z⟩:=bs.slot b o q n hf hx;obtain⟨g,G⟩:=(kp b _ z (a q)).2;exact⟨g,G⟩
 ·exact fun b o q n hx=>bs.free b o q n hx
 ·intro b o q hx
  obtain⟨o',z⟩:=bs.there b o q hx;obtain⟨sl,G⟩:=(kp b o' z (a q)).2;exact⟨_,G⟩
theorem nN{f:A4}{E:XK}{v:A2} 
  (h:OG (Qq (LF P w base) P w K mg base N ai scope f cd A outer s H E) E v s'):(Qq (LF P w base) P w K mg base N ai scope f cd A outer s H E).xe v s':=by
 obtain⟨e,C,dct,aa,σ,H',rfl,J,lo,un,pe,ob,ak,q⟩:=h;rcases ob with⟨o,vs,a1,a2,a3,a4,a5⟩ | ⟨T,fl,c2,h1,h2,h3,h4,h5 | h5⟩
 ·exact L7 J ⟨lo,un,.inl ⟨o,vs,a1,a2,a3,a4,a5,fun z=>nomatch z⟩,pe⟩ rfl ak q
 ·subst h5
  exact L7 J ⟨lo,un,.inr ⟨T,c2,h1,h2,h3,h4,fun z=>nomatch z⟩,pe⟩ rfl ak q
 ·subst h5
  exact kA J lo un h1 h2 h4 ak q
theorem Gr.wishE{st:C3 C5}{t:TS}(h:Gr (X.wish E) st t)(he:∀ v s,E v s->X.xe v s):Gr X st t:=fun aa s σ H D I hw =>
 BM (h aa s σ H D (I.wish _) hw) (fun _ _ q=>q.unwish) he
abbrev NX(P:Ff)(w:Fn)(K:JT)(mg:KB)(base:Gf)(N:C3 Str)(ai:Str)(scope:H3)(f:A4)(cd:A2)(A:C1)(outer:C3 IA)(s:C0)(H:Hp)(E:XK):Cx :=
 (Qq (LF P w base) P w K mg base N ai scope f cd A outer s H E).wish (OG (Qq (LF P w base) P w K mg base N ai scope f cd A outer s H E) E)
theorem dn{f:A4}{E:XK}{p:Nat}{R:AS}{Q:VK}(hp:p<=N.length)(mu:Q8 R H)(r:Wr K (av H R) ds vs)
  (q:RN K fr R H Q E (Yg N.length p g ds)) :
  tS fr (NX P w K mg base N ai scope f cd A outer s H E) g (KG.mk (fun _ H'=>Q .non H') Q (fun _ _=>False) (fun _ _=>False)) (JU N vs) H:=by
 unfold Yg at q;split at q
 ·rename_i hl
  refine⟨Tt N.length ds,⟨H,R,true⟩,R,Kl mu r (by lia),rfl,?_⟩;split at q
  ·rename_i d' e
   rw[e];exact fun v H' s r n=>q v H' s r n
  ·rename_i env e
   rw[e];exact fun A' H' σ' s k=>q .non H' k.h0 Lx (fun _ ds e=>by cases e)
  ·rename_i env c fs e
   rw[e];exact fun A' H' σ' st k aa s' e C dct I O x hf ak=>SC.lie (I.unwish) ⟨x.lo,x.un,x.ob,x.pe⟩ ak (q C dct H' k.h0 O (hf.mono (M7 k.ra)))
  ·exact q.elim
 ·exact q.elim
theorem Bf{x:Str}{st:C5}(D:JZ K mg x st)(S:FnScope N ps (Z6 st))
  (b:∀ (kV au pm:A2) (an:C2 A4) (ah ct:A2) (us:C3 A2),us.length=ps.length->bindArgs (PySem.W.fnOf x x (U9 st) (Yk st) (Z6 st) .none kV au pm an ah ct) ⟨us,[]⟩=pure (ps.zip us))
  (U:∀ (f:A4) (ah:A2) (A:C1) (outer:C3 IA) (s:C0) (H:Hp) (E:XK),JQ k (A.deeper (envOfC x (Z6 st) s.heap.objs.size f ah))->Oe fr (NX P w K mg base N x (Z6 st) f ah A outer s H E) (Yk st) g) :
  JY P w K mg base (k+1) x ps fr (Yg N.length ps.length g):=by
 have af:ps.length<=N.length:=by have:=CV List.length S.pre;rw[CJ] at this;lia
 obtain⟨f,fd,F,hm⟩:=D.ex;refine⟨⟨f,fd,F.okX S (fun vs H Q E h=>h.1) fun ah A outer s H vs Q E Z ⟨hl,ds,R,mu,r,q⟩=>⟨_,Gr.wishE (U f ah A outer s H E Z) fun v s' z=>nN z,?_⟩,hm,F.kp,F.binds b⟩,fun ds h=>Na h⟩;exact dn af mu r q
theorem Lu{f:A4}{E:XK} :
  PassesOwn (model P w) (NX P w K mg base N ai scope f cd A outer s H E).A (NX P w K mg base N ai scope f cd A outer s H E).env (NX P w K mg base N ai scope f cd A outer s H E).xe :=
 hY (X:=Qq (LF P w base) P w K mg base N ai scope f cd A outer s H E) ⟨rfl,rfl⟩
def nC:V->C3 V->Hp->VK->Prop:=fun x vs H Q=>∃ l xs i y,x=.ref l/\vs=[.int i,y]/\H l=some (.lst xs)/\0<=i/\i<=xs.length/\xs.length<sizeLine/\Q .non (W7 H l (.lst (xs.take i.toNat++y::xs.drop i.toNat)))
theorem Fm:∀ {vs:C3 V} {us:C3 A2} (n:Nat),Y5 vs us->Y5 (vs.take n) (us.take n)
 | _,_,0,_=>by simp;exact .nil
 | [],us,n+1,h=>by cases h;exact .nil
 | v::vs,us,n+1,h=>by cases h with | cons a b=>exact .cons a (Fm n b)
theorem Af:∀ {vs:C3 V} {us:C3 A2} (n:Nat),Y5 vs us->Y5 (vs.drop n) (us.drop n)
 | _,_,0,h=>h
 | [],us,n+1,h=>by cases h;exact .nil
 | v::vs,us,n+1,h=>by cases h with | cons a b=>exact Af n b
theorem j3:VH X "list.insert" nC:=by
 intro aa s σ H x vs v us Q I S L h;obtain⟨l,xs,i,y,rfl,rfl,d,h0,h1,hz,q⟩:=h;cases S;cases L with
 | cons r1 r2 =>
  cases r2 with
  | cons N r3 =>
   cases r3;obtain⟨t,rfl⟩:=r1;rename_i u;obtain⟨z,its,n,r,hl,e⟩:=I.lstM d;have a:¬ (!Builtin.List.listFitsIndex i)=true:=by
    have:(sizeLine:Nat)<2^62:=by decide
    rw[fitsIndex_both (by lia) (by lia)]
    decide
   refine GR F.slot_list_insert ⟨_,e,rfl⟩ F.entry_list_insert (F.args_list_insert_3 _ _ _) (AutoSeq1.list_insert_list_int_val_1 l its.toArray n i t u a (by rw[AT];lia)) ⟨e,?_⟩;refine⟨.non,_,I.lset (its':=its.take i.toNat++u::its.drop i.toNat) d e ?_ ((Fm _ r).append (.cons N (Af _ r))) ?_,rfl,q⟩
   ·apply Array.toList_inj.mp
    have hm:(if i<0 then(i+(its.toArray.size:Int)).toNat else min i.toNat its.toArray.size)=i.toNat:=by
     rw[AQ (by lia),AT,IZ (by lia)]
    show((its.toArray.extract 0 (if i<0 then(i+(its.toArray.size:Int)).toNat else min i.toNat its.toArray.size)).push u++its.toArray.extract (if i<0 then(i+(its.toArray.size:Int)).toNat else min i.toNat its.toArray.size)).toList=_;rw[hm];simp[List.extract];exact CK (by rw[CC];lia)
   ·rw[AN,BC,CJ,CC]
    lia
def Kh:C3 Dat->C3 Dat->C2 (C3 Dat)
 | ds,[.int i,d]=>if 0<=i/\i<=ds.length/\ds.length<sizeLine then some (ds.take i.toNat++d::ds.drop i.toNat) else none
 | _,_=>none
theorem cW:SW X "list.insert" Kh:=MV.weak (id:="list.insert") j3 fun v us H Q L=>by
 obtain⟨A,a,vs,ds,as,ds',mu,e1,h1,r1,r2,e2,q⟩:=L;unfold Kh at e2;split at e2
 ·rename_i i d
  split at e2
  ·rename_i hl
   cases e2;obtain⟨w,m,e3,r3,e4⟩:=r2;obtain⟨w2,R,e5,r5,Y⟩:=e4;have hw:w=.int i:=(Rm.pk r3).int;have ae:=Y0 r1;refine⟨a,vs,i,w2,e1,by rw[e3,e5,show R=[] from Y,hw],h1,hl.1,by rw[ae];exact hl.2.1,by rw[ae];exact hl.2.2,q _ _ (by rw[AN,BC,CJ,CC];lia) (Wq (K2 _ r1) (Vx r5 (Ke _ r1)))⟩
  ·cases e2
 ·cases e2
def WK(c:Int):A2->Bool
 | .int z _=>z==c
 | _=>false
theorem Ci:∀ {ns:C3 Int} {us:C3 A2},Y5 (ns.map V.int) us->∀ (j:Nat) (h:j<us.length) (h':j<ns.length),∃ t,us[j]=.int ns[j] t
 | [],us,r,j,h,h'=>by simp at h'
 | n::ns,us,r,j,h,h'=>by
  rw[BY] at r;cases r with
  | cons r1 r2 =>
   obtain⟨t,e⟩:=r1;subst e;cases j with
   | zero=>exact⟨t,rfl⟩
   | succ j=>exact Ci r2 j (by simpa using h) (by simpa using h')
theorem eX(r:Y5 (ns.map V.int) us){y:A2}(h:y∈us):∃ z t,y=.int z t:=by
 obtain⟨j,hj,rfl⟩:=FM h;have hl:=r.length;rw[AC] at hl;obtain⟨t,e⟩:=Ci r j hj (by lia);exact⟨_,t,e⟩
theorem fG:MV X "list.index" (fun x vs H Q=>∃ (p:A4) (zs:C3 Int) (c:Int),x=.ref p/\vs=[.int c]/\Hk X.K H p (zs.map V.int)/\c∈zs/\Q (.int ((zs.idxOf c:Nat):Int)) H):=by
 intro aa s σ H x vs v us Q I S rs h;obtain⟨p,zs,c,rfl,rfl,hq,hm,q⟩:=h;cases S;obtain⟨C,rfl,N⟩:=Ef rs;obtain⟨u,rfl⟩:=N;obtain⟨its,r',pl,hz⟩:=I.list hq;obtain⟨⟨cls,dd,data,sl⟩,J,O,n,hd⟩:=pl.isList;simp only at O hd;subst O hd;have a:=r'.length;rw[AC] at a hz;have hj:zs.idxOf c<zs.length:=List.idxOf_lt_length_iff.mpr hm;have ai:sizeLine<2^63 - 1:=by decide
 refine GR GU ⟨_,J,rfl⟩ PySem.F.entry_list_index (PySem.F.args_list_index_2 _ _) (SeqAt.list_indexAt p _ n dd sl (.int c u) (WK c) (zs.idxOf c) (by simpa[← a] using hj) (by lia) ?_ ?_) ⟨J,fun y hy=>?_,⟨.int _,H,I.tok _,⟨_,rfl⟩,q⟩⟩
 ·obtain⟨t,e⟩:=Ci r' (zs.idxOf c) (by lia) hj
  show WK c (its[zs.idxOf c]'(by lia))=true;rw[e];show(zs[zs.idxOf c]==c)=true;simpa using List.getElem_idxOf hj
 ·intro j hjs ah
  have b:j<zs.length:=by lia
  obtain⟨t,e⟩:=Ci r' j (by lia) b;show WK c (its[j]'(by lia))=false;rw[e];show(zs[j]==c)=false;have:=List.not_of_lt_findIdx (xs:=zs) (p:=(·==c)) (i:=j) (by simpa[List.idxOf] using ah);simpa using this
 ·obtain⟨z,t,rfl⟩:=eX r' (by simpa using hy)
  exact SeqAt.EqAt.int_int z t c u
def Xi:Dat->C3 Dat->C2 Dat
 | .lst xs,[.int c]=>(Mp xs).bind fun zs=>if c∈zs then some (.int ((zs.idxOf c:Nat):Int)) else none
 | _,_=>none
theorem bn:bW X "list.index" Xi:=fG.weak fun v vs H Q L=>by
 obtain⟨A,x,ds,d,mu,e,p,ps,q⟩:=L;unfold Xi at e;split at e
 ·rename_i xs c
  obtain⟨l,us,e2,h1,r1⟩:=p.lst;obtain⟨v1,e3,M⟩:=ps.one;obtain⟨zs,hy,e⟩:=bind_some e;split at e
  ·rename_i O
   cases e;rw[Mi hy] at r1;have R:=Vo r1;subst R;exact⟨l,zs,c,e2,by rw[e3,M.int],h1.sq,O,q.here Wf⟩
  ·cases e
 ·cases e
def Ru(i:Nat)(fa fb:Zzu):Ev->Fl:=fun env=>match env[i]?,fb env,fa env with
 | some (.ow ds),some d,some (.int k)=>if 0<=k/\k<ds.length then .next (env.set i (.ow (ds.set k.toNat d))) else .no
 | _,_,_=>.no
theorem N0(i:Nat){x:Str}(ha:Wm true X ix fa)(U:Wm false X e fb)
  (hN:X.N[i]?=some x:=by rfl) (hv:LU X.env.scope x:=by first | exact AD rfl | exact BJ (AD rfl) | exact BJ (BJ rfl)) (hd:(x==("__debug__" : Str))=false:=by decide) (M:(x==("__classdict__" : Str))=false:=by decide)
  (hs:swapsWithSole [.Subscript (.Name x p) ix am] e pos.line X.env=pure false:=by rfl) (hw:swappedStores [.Subscript (.Name x p) ix am] e X.env=pure none:=by rfl) (h1:(assignEach [.Subscript (.Name x p) ix am] X.env).map (·.2)=[assign (.Subscript (.Name x p) ix am) X.env]:=by rfl)
  (hq:∀ v,assign (.Subscript (.Name x p) ix am) X.env v=(do
   let E ← holding [v] (eval (.Name x p) X.env)
   let b ← holding [v,E] (eval ix X.env)
   standAt am
   holding [v,E,b] (setItem E b v)
   release [v,E,b] []):=by intro _;rfl) :
  Ir fr X (.Assign [.Subscript (.Name x p) ix am] e pos) (Ru i fa fb):=(bA U (lG (Rx hN hv hd M) ha kD hq) hs hw h1).weak fun D σ H L=>by
 obtain⟨env,B,A,k,l,q⟩:=L;unfold Ru at q;split at q
 ·rename_i ds d j e1 e2 e3
  split at q
  ·rename_i hj
   refine⟨env,B,A,d,k,e2,fun v H1 s1 r1=>?_⟩;have k1:=k.mono s1;obtain⟨a,vs,g1,g2,g3,_⟩:=k1.own l e1;refine⟨.ref a,g1,env,B,A,.int j,k1,e3,fun w H2 s2 r2=>?_⟩;have k2:=k1.mono s2;obtain⟨J,c,m1,m2,m3,g,_,_,_,Q,_⟩:=k2.own l e1;rw[g1] at m1;cases m1;have C:w=.int j:=(Rm.pk r2).int;have ae:=Y0 m3;have f:Rp X.K (av H2 A) d v:=Rp.mono (Vj s2) r1;refine⟨a,c,j,j.toNat,rfl,C,m2,?_,?_⟩
   ·unfold OI;rw[AG hj.1,AG (by lia)]
   ·obtain⟨z1,z2⟩:=Q (ds.set j.toNat d) (c.set j.toNat v) (by rw[BH];exact g) (W' _ m3 f)
    exact q A _ σ (((JN.same s1).trans (JN.same s2)).trans z1) z2
  ·exact q.elim
 ·exact q.elim
def X6(j i:Nat)(fa:Zzv):Ev->Fl:=fun env=>match env[i]?,fa env with
 | some (.ow ds),some [.int k]=>if 0<=k/\k<ds.length then(match ds[k.toNat]? with
  | some d=>.next ((env.set i (.ow (ds.eraseIdx k.toNat))).set j (.fz d))
  | none=>.no) else .no
 | _,_=>.no
theorem eU(n:Nat)(r:Wr K H ds vs):Wr K H (ds.eraseIdx n) (vs.eraseIdx n):=by
 rw[CY,CY];exact Wq (K2 _ r) (Ke _ r)
theorem jr(j i:Nat){x y:Str}(aa:X.N.Nodup)(hj:X.N[j]?=some y)(hy:LC X.env.scope y){C:C4}{g:Zzv}(ha:Om true X [C] g)
  (hN:X.N[i]?=some x:=by rfl) (hv:LU X.env.scope x:=by first | exact AD rfl | exact BJ (AD rfl) | exact BJ (BJ rfl)) (hd:(x==("__debug__" : Str))=false:=by decide) (M:(x==("__classdict__" : Str))=false:=by decide)
  (hs:swapsWith (.Call (.Attribute (.Name x p) "pop" ax) [C] [] al) (some (.Name y am)) pos.line X.env=pure false:=by rfl)
  (hf:X.fn y=true\/X.env.scope.names.lookup y=some .local:=by first | exact .inl rfl | exact .inr rfl | assumption)
  (u:attributeBase (.Name x p) "pop" X.env (eval (.Name x p) X.env)=eval (.Name x p) X.env:=by rfl)
  (S:((backTo al (starEach [C] X.env)).all (fun x=>!x.1)&&(backToKw al (keywordEach [] X.env)).all (fun x=>x.1.isSome)
   && decide (([C]).length+([]:C3 Keyword).length+(if([]:C3 Keyword).isEmpty then 0 else 1)<30))=true:=by rfl)
  (P:(ax.endLine==al.line)=true:=by rfl) (b:starEach [C] X.env=(false,eval C X.env)::starEach [] X.env:=by rfl) (E:(backTo al (starEach [] X.env)).any (·.1)=false:=by rfl) :
  Ir fr X (.Assign [.Name y am] (.Call (.Attribute (.Name x p) "pop" ax) [C] [] al) pos) (X6 j i g):=(Xf aa hj hy (SY ED PySem.F.slot_list_pop PySem.F.type_list_pop (id:="list.pop") fT (Rx hN hv hd M) ha u S P b E) hs hf).weak fun D σ H L=>by
 obtain⟨env,B,A,k,l,q⟩:=L;unfold X6 at q;split at q
 ·rename_i ds n e1 e2
  split at q
  ·rename_i hn
   split at q
   ·rename_i d e3
    obtain⟨a,vs,h1,h2,h3,_⟩:=k.own l e1;refine⟨.ref a,h1,.inl ⟨rfl,vs,Hk.of h2⟩,env,B,A,[.int n],k,e2,fun us H2 s2 rs=>?_⟩;have k2:=k.mono s2;obtain⟨J,c,g1,g2,g3,f,_,_,_,g4,_⟩:=k2.own l e1;rw[h1] at g1;cases g1;obtain⟨w,R,e⟩:=rs.one;have hw:w=.int n:=e.int;have ae:=Y0 g3;obtain⟨v,Y,h⟩:=E2 g3 e3;have hsz:(sizeLine:Nat)<2^62:=by decide
    refine⟨a,c,n,n.toNat,v,rfl,by rw[R,hw],g2,by lia,by lia,?_,Y,?_⟩
    ·exact JA hn.1 (by lia)
    ·obtain⟨z1,z2⟩:=g4 (ds.eraseIdx n.toNat) (c.eraseIdx n.toNat) (AZ (List.length_eraseIdx_le _ _) f) (eU _ g3)
     exact q A _ _ ((JN.same s2).trans z1) (z2.put j (Rp.mono z1.av h))
   ·exact q.elim
  ·exact q.elim
 ·exact q.elim
variable{l t:A4}{vs:C3 A2}
theorem F'.gx{A:AS}{g:GX}(k:F' K B A H σ env)(l:B.st=true)(h:env[i]?=some (.gx g)) :
  ∃ (v:V) (o:A4->Prop),σ[i]?=some (some v)/\NC K A H o g v/\(∀ b,o b->A b=true/\B.H₀ b=none) /\
   ∀ (b:A4) (O:HO) (g':GX),o b->RA (some O)->NC K A (W7 H b O) o g' v->JN A H A (W7 H b O)/\F' K B A (W7 H b O) σ (env.set i (.gx g')):=by
 obtain⟨own,h1,h2,h4⟩:=k.sl;obtain⟨x,q1,v,e1,e2⟩:=h4 i _ h;subst e1;have c:∀ b,own i b->A b=true/\B.H₀ b=none:=fun b ob=>by
  obtain⟨hA,E⟩:=h2 i b ob;refine⟨hA,?_⟩;rcases k.ar b hA with z | z
  ·rw[z] at E;cases E
  ·exact z
 refine⟨v,own i,q1,e2,c,fun a O g' C S hg=>?_⟩;obtain⟨hA,h0⟩:=c a C;have F:Zu (av H A) (av (W7 H a O) A):=fun b o e=>by
  obtain⟨z1,z2⟩:=Mu e;have U:b≠a:=by intro z;rw[z,hA] at z1;cases z1
  exact V8 (by rw[Zd U];exact z2) z1
 refine⟨⟨fun b o U m=>?_,fun b U=>.inl U⟩,?_⟩
 ·have hn:b≠a:=by intro z;rw[z,hA] at m;cases m
  rw[Zd hn];exact U
 ·refine⟨fun b o U=>?_,k.r0,k.ra,k.ar,fun b U=>?_,by rw[BH];exact k.len,fun hs j d'=>Pj (k.np hs) (fun _ z=>by cases z) j d',own,h1,h2,fun j s e=>?_⟩
  ·have hn:b≠a:=Yh U h0
   rw[Zd hn];exact k.h0 b o U
  ·by_cases hn:b=a
   ·subst hn;rw[Zk];exact S
   ·rw[Zd hn];exact k.mu b U
  ·by_cases hj:i=j
   ·subst hj
    rw[BB,AG rfl] at e;split at e
    ·cases e
     exact⟨_,q1,v,rfl,hg⟩
    ·cases e
   ·rw[BB,AQ hj] at e
    obtain⟨x,M,p2⟩:=h4 j s e;refine⟨x,M,?_⟩;cases s with
    | un=>trivial
    | fz d=>obtain⟨v,z1,z2⟩:=p2;exact⟨v,z1,z2.mono F⟩
    | pk d=>exact absurd e (k.np l j d)
    | ow es =>
     obtain⟨b,us,z1,z2,z3,z4,z5⟩:=p2;have hn:b≠a:=fun z=>hj (h1 i j a C (z▸z2))
     exact⟨b,us,z1,z2,z3,by rw[Zd hn];exact z4,z5.mono F⟩
    | gx g2 =>
     obtain⟨w,z1,z2⟩:=p2;exact⟨w,z1,z2.frame (fun _ z=>z) (fun b x ob z=>by
      have hn:b≠a:=fun y=>hj (h1 i j a C (y▸ob))
      rw[Zd hn];exact z) F⟩
def F4(A:AS)(S:A4->Bool):AS:=fun b=>A b||S b
theorem F'.putG{A:AS}(k:F' K B A H σ env)(l:B.st=true)(i:Nat){g:GX}{S:A4->Bool}(s:Zu H H')(hn:∀ p,S p=true->H p=none)(hm:∀ p,S p=true->RA (H' p))(r:NC K (F4 A S) H' (fun b=>S b=true) g v) :
  JN A H (F4 A S) H'/\F' K B (F4 A S) H' (σ.set i (some v)) (env.set i (.gx g)):=by
 have c:∀ {b},F4 A S b=true->A b=true\/S b=true:=fun {b} h=>by unfold F4 at h;rw[FJ] at h;exact h
 have f:∀ {b},A b=true->F4 A S b=true:=fun {b} h=>by unfold F4;rw[h];rfl
 have t:∀ {b},S b=true->F4 A S b=true:=fun {b} h=>by unfold F4;rw[h,JP]
 have st:JN A H (F4 A S) H':=⟨fun a o h _=>s a o h,fun a h=>(c h).imp id fun z=>hn a z⟩;have m:∀ p,S p=true->A p=false:=fun p hp=>k.mu.new (hn p hp)
 have h0:∀ p,S p=true->B.H₀ p=none:=fun p hp=>k.h0.free (hn p hp)
 obtain⟨own,h1,h2,h4⟩:=k.sl;refine⟨st,k.h0.trans s,k.r0,fun a h=>f (k.ra a h),fun a h=>?_,fun a h=>?_,by rw[BH,BH];exact k.len,fun hs j d'=>Pj (k.np hs) (fun _ z=>by cases z) j d',
  fun j a=>(j≠i/\own j a)\/(j=i/\S a=true),fun j n a z G=>?_,fun j a z=>?_,fun j sl e=>?_⟩
 ·rcases c h with z | z
  ·exact k.ar a z
  ·exact .inr (h0 a z)
 ·rcases c h with z | z
  ·exact k.mu.mono s a z
  ·exact hm a z
 ·rcases z with z | z<;>rcases G with G | G
  ·exact h1 j n a z.2 G.2
  ·have:=(h2 j a z.2).1;rw[m a G.2] at this;cases this
  ·have:=(h2 n a G.2).1;rw[m a z.2] at this;cases this
  ·rw[z.1,G.1]
 ·rcases z with z | z
  ·exact⟨f (h2 j a z.2).1,(h2 j a z.2).2⟩
  ·refine⟨t z.2,?_⟩
   cases q:B.R a with
   | false=>rfl
   | true=>obtain⟨o,J⟩:=k.r0 a q;rw[h0 a z.2] at J;cases J
 ·by_cases hj:i=j
  ·subst hj
   rw[BB,AG rfl] at e;split at e
   ·rename_i hl
    cases e;exact⟨some v,by rw[BB,AG rfl,AG (by rw[k.len];exact hl)],v,rfl,r.frame (fun _ z=>.inr ⟨rfl,z⟩) (fun _ _ _ z=>z) (Zu.refl _)⟩
   ·cases e
  ·rw[BB,AQ hj] at e
   obtain⟨x,M,p2⟩:=h4 j sl e;refine⟨x,by rw[BB,AQ hj];exact M,?_⟩;cases sl with
   | un=>trivial
   | fz d=>obtain⟨v,z1,z2⟩:=p2;exact⟨v,z1,z2.mono st.av⟩
   | pk d=>exact absurd e (k.np l j d)
   | ow es =>
    obtain⟨b,us,z1,z2,z3,z4,z5⟩:=p2;exact⟨b,us,z1,.inl ⟨AO hj,z2⟩,z3,s _ _ z4,z5.mono st.av⟩
   | gx g2 =>
    obtain⟨w,z1,z2⟩:=p2;exact⟨w,z1,z2.frame (fun _ z=>.inl ⟨AO hj,z⟩) (fun b x _ z=>s b x z) st.av⟩
def Ih(dss:C3 (C3 Dat))(k:Int):C2 (C3 Dat):=if 0<=k then dss[k.toNat]? else none
def PY(i:Nat)(fa:Zzu):Ev->C2 Dat:=fun env=>match env[i]?,fa env with
 | some (.gx (.nest dss)),some (.int k)=>(Ih dss k).map .lst
 | _,_=>none
theorem F'.nest{A:AS}(k:F' K B A H σ env)(h:env[i]?=some (.gx (.nest dss))) :
  ∃ (a:A4) (as:C3 A4),σ[i]?=some (some (.ref a))/\H a=some (.lst (as.map V.ref))/\as.length=dss.length/\∀ (n:Nat) b ds,as[n]?=some b->dss[n]?=some ds->ds.length<=sizeLine/\∃ vs,H b=some (.lst vs)/\Wr K (av H A) ds vs:=by
 obtain⟨own,h1,h2,h4⟩:=k.sl;obtain⟨x,q1,v,e1,a,as,e2,e3,e4,e5,Y,e7,e8,e9⟩:=h4 i _ h;subst e1 e2;exact⟨a,as,q1,e5,Y,fun n b ds z1 z2=>⟨(e9 n b ds z1 z2).2.1,(e9 n b ds z1 z2).2.2⟩⟩
theorem Nw{k:Int}(h:Ih dss k=some ds):0<=k/\dss[k.toNat]?=some ds/\k=((k.toNat:Nat):Int):=by
 unfold Ih at h;split at h
 ·rename_i h0;exact⟨h0,h,(Int.toNat_of_nonneg h0).symm⟩
 ·cases h
theorem bw(i:Nat){x:Str}(ha:Wm true X ix fa)(af:Oq ix)
  (hN:X.N[i]?=some x:=by rfl) (hv:LU X.env.scope x:=by first | exact AD rfl | exact BJ (AD rfl) | exact BJ (BJ rfl)) (hd:(x==("__debug__" : Str))=false:=by decide) (M:(x==("__classdict__" : Str))=false:=by decide) :
  Wm true X (.Subscript (.Name x p) ix pos) (PY i fa):=PE.weak (V' Cz (Rx hN hv hd M) ha af) fun σ H Q L=>by
 obtain⟨env,B,A,d,k,e,q⟩:=L;unfold PY at e;split at e
 ·rename_i dss n e1 e2
  obtain⟨ds,e3,e4⟩:=map_some e;subst e4;obtain⟨h0,e5,Y⟩:=Nw e3;obtain⟨a,as,h1,h2,h3,h4⟩:=k.nest e1;refine⟨.ref a,h1,env,B,A,.int n,k,e2,fun w H2 s2 r2=>?_⟩;have hw:w=.int n:=(Rm.pk r2).int;have ah:n.toNat<as.length:=by rw[h3];exact(AB.mp e5).1
  obtain⟨hz,vs,g1,g2⟩:=h4 n.toNat _ ds (AH ah) e5;refine⟨a,as.map V.ref,n,.ref as[n.toNat],rfl,hw,Hk.of (s2 _ _ h2),?_,q _ _ s2 (.inr (.inl ⟨_,vs,ds,rfl,rfl,hz,s2 _ _ g1,g2.mono (Vj s2)⟩))⟩;have g:A3 (as.map V.ref) ((n.toNat:Nat):Int)=some (.ref as[n.toNat]):=K8 (by rw[AM,AH ah];rfl)
  rwa [← Y] at g
 ·cases e
def O2(i:Nat)(fa:Zzu)(fs:Zzv):Ev->Fl:=fun env=>match env[i]?,fa env with
 | some (.gx (.nest dss)),some (.int k)=>match Ih dss k with
  | some ds=>match (fs env).bind fun as=>Uy ds as with
   | some ds'=>.next (env.set i (.gx (.nest (dss.set k.toNat ds'))))
   | none=>.no
  | none=>.no
 | _,_=>.no
theorem Bq (i:Nat) {x:Str} (ha:Wm true X ix fa) (af:Oq ix) (U:Om false X (e::es) fs)
  (hN:X.N[i]?=some x:=by rfl) (hv:LU X.env.scope x:=by first | exact AD rfl | exact BJ (AD rfl) | exact BJ (BJ rfl)) (hd:(x==("__debug__" : Str))=false:=by decide) (M:(x==("__classdict__" : Str))=false:=by decide)
  (ac:swapsWith (.Call (.Attribute (.Subscript (.Name x p) ix p2) "append" ax) (e::es) [] al) none pos.line X.env=pure false:=by rfl)
  (u:attributeBase (.Subscript (.Name x p) ix p2) "append" X.env (eval (.Subscript (.Name x p) ix p2) X.env)=eval (.Subscript (.Name x p) ix p2) X.env:=by rfl)
  (S:((backTo al (starEach (e::es) X.env)).all (fun x=>!x.1)&&(backToKw al (keywordEach [] X.env)).all (fun x=>x.1.isSome)
   && decide ((e::es).length+([]:C3 Keyword).length+(if([]:C3 Keyword).isEmpty then 0 else 1)<30))=true:=by rfl)
  (P:(ax.endLine==al.line)=true:=by rfl) (hs:starEach (e::es) X.env=(false,eval e X.env)::starEach es X.env:=by rfl) (E:(backTo al (starEach es X.env)).any (·.1)=false:=by rfl) :
  Ir fr X (.Expr (.Call (.Attribute (.Subscript (.Name x p) ix p2) "append" ax) (e::es) [] al) pos) (O2 i fa fs):=(R4 (SY ED CN CO (id:="list.append") Aa (V' Cz (Rx hN hv hd M) ha af) U u S P hs E) ac).weak fun D σ H L=>by
 obtain⟨env,B,A,k,l,q⟩:=L;unfold O2 at q;split at q
 ·rename_i dss n e1 e2
  split at q
  ·rename_i ds e3
   split at q
   ·rename_i ds' e4
    obtain⟨ag,e5,Y⟩:=bind_some e4;obtain⟨h0,e7,e8⟩:=Nw e3;obtain⟨a,as,h1,h2,h3,h4⟩:=k.nest e1;refine⟨.ref a,h1,env,B,A,.int n,k,e2,fun w H2 s2 r2=>?_⟩;have hw:w=.int n:=(Rm.pk r2).int;have ah:n.toNat<as.length:=by rw[h3];exact(AB.mp e7).1
    obtain⟨hz,vs,g1,g2⟩:=h4 n.toNat _ ds (AH ah) e7;refine⟨a,as.map V.ref,n,.ref as[n.toNat],rfl,hw,Hk.of (s2 _ _ h2),?_,.inl ⟨rfl,vs,Hk.of (s2 _ _ g1)⟩,env,B,A,ag,k.mono s2,e5,fun us G C rs=>?_⟩
    ·have g:A3 (as.map V.ref) ((n.toNat:Nat):Int)=some (.ref as[n.toNat]):=K8 (by rw[AM,AH ah];rfl)
     rwa [← e8] at g
    have k3:=k.mono (s2.trans C);obtain⟨v,o,m1,m2,m3,Q⟩:=k3.gx l e1;rw[h1] at m1;cases m1;obtain⟨J,h,z1,z2,z3,z4,z5,z6,z7,z8⟩:=m2;cases z1;have ai:h.map V.ref=as.map V.ref:=by
     have:=(s2.trans C) _ _ h2;rw[z4] at this;exact HO.lst.inj (BD this)
    have T:h=as:=by
     have Z:∀ (l1 l2:C3 A4),l1.map V.ref=l2.map V.ref->l1=l2:=fun l1=>by
      induction l1 with
      | nil=>intro l2 hl;cases l2 with | nil=>rfl | cons=>cases hl
      | cons y l1 ih =>
       intro l2 hl;cases l2 with
       | nil=>cases hl
       | cons y2 l2=>simp at hl;rw[hl.1,ih l2 (by simpa using hl.2)]
     exact Z _ _ ai
    subst T;obtain⟨ob,ae,f,g3,g4⟩:=z8 n.toNat _ ds (AH ah) e7;generalize s:h[n.toNat]=b at *;have W:b∈h:=by rw[← s];exact GZ ah
    unfold Uy at Y;split at Y
    ·rename_i d
     split at Y
     ·rename_i hl
      cases Y;obtain⟨y,m,e9,r3,aj⟩:=rs;have ak:us=[y]:=by rw[e9,show m=[] from aj]
      refine⟨b,f,y,rfl,ak,g3,by rw[Y0 g4];exact hl,?_⟩;have hA:A b=true:=(m3 b ob).1;have F:Zu (av G A) (av (W7 G b (.lst (f++[y]))) A):=fun c o2 ec=>by
       obtain⟨y1,y2⟩:=Mu ec;have O:c≠b:=by intro z;rw[z,hA] at y1;cases y1
       exact V8 (by rw[Zd O];exact y2) y1
      have r:a≠b:=fun z=>z7 (z▸W)
      have hg:NC X.K A (W7 G b (.lst (f++[y]))) o (.nest (dss.set n.toNat (ds++[d]))) (.ref a):=by
       refine⟨a,h,rfl,z2,by rw[BH];exact z3,by rw[Zd r];exact z4,by rw[BH];exact z5,z6,z7,fun j c es q1 q2=>?_⟩;by_cases hj:n.toNat=j
       ·subst hj
        rw[AH ah,s] at q1;cases q1;rw[BB,AG rfl,AG (by rw[← h3];exact ah)] at q2;cases q2;exact⟨ob,by rw[AN,CS];lia,f++[y],Zk,Wq (g4.mono F) (Sj (Rp.mono F r3))⟩
       ·rw[BB,AQ hj] at q2
        obtain⟨y1,y2,R,y3,y4⟩:=z8 j c es q1 q2;have am:c≠b:=fun z=>by
         obtain⟨t,I⟩:=AB.mp q1;have:=List.nodup_iff_pairwise_ne.mp z6;rw[List.pairwise_iff_getElem] at this;rcases DE n.toNat j with aa | hge2
         ·exact this n.toNat j ah t aa (by rw[s,I,z])
         ·exact this j n.toNat t ah (by lia) (by rw[s,I,z])
        exact⟨y1,y2,R,by rw[Zd am];exact y3,y4.mono F⟩
      obtain⟨w1,w2⟩:=Q b (.lst (f++[y])) _ ob trivial hg;exact q A _ σ (((JN.same s2).trans (JN.same C)).trans w1) w2
     ·cases Y
    ·cases Y
   ·exact q.elim
  ·exact q.elim
 ·exact q.elim
def A5(i:Nat)(src:Zzv)(fs:C3 (C2 Nat))(gg:Dat->Ev->C2 Ev):Ev->Fl:=fun env=>match src env with
 | some ds=>if ds.all (fun d=>(gg d (Js fs env)).isSome)=true then .next (env.set i (.gx (.nest (List.replicate ds.length [])))) else .no
 | none=>.no
theorem ky{J:It}{fs:C3 (C2 Nat)}{g:Dat->Ev->C2 Ev}{Q:VK}{A:AS} 
  (u:∀ i∈is,fs[i]?=some none) (k:F' K B A H1 σ env) (E:OR false K A H1 ds J) (hz:ds.length<=sizeLine) (O:∀ d∈ds,∃ e',g d (Js fs env)=some e')
  (q:∀ (p:A4) (as:C3 A4) (H':Hp),Zu H1 H'->H1 p=none->H' p=some (.lst (as.map V.ref))->as.length=ds.length->as.Nodup->p∉as->(∀ b∈as,H1 b=none/\H' b=some (.lst []))->Q (.ref p) H') :
  ∃ W:Nat->Nat->C3 V->Hp->Prop,(∃ m,W 0 m [] H1)/\∀ i m zs H,W i m zs H ->
   (J.stop i H/\zs.length<=sizeLine/\∀ p,H p=none->Q (.ref p) (W7 H p (.lst zs))) \/
   (J.go i H/\zs.length<=sizeLine/\∃ N:C3 V->Hp->Prop,(∀ P H',N P H'->∃ m',m'<m/\W (i+1) m' P H')/\∀ x H',J.yld i H x H'->(∃ env R A d env',F' K R A H' (Up fs σ) env/\Rp K (av H' A) d x/\g d env=some env'/\∀ σ',F' K R A H' σ' env'->O3 is (Up fs σ) σ' ->
    (UE (Up fs σ) σ'/\∃ env R A b,F' K R A H' σ' env/\V6 env=some b/\∀ G,Zu H' G->if b=true then(∀ p,G p=none->N (zs++[.ref p]) (W7 G p (.lst []))) else N zs G))):=by
 refine⟨fun i m zs H=>m=ds.length - i/\i<=ds.length/\Zu H1 H/\∃ as:C3 A4,zs=as.map V.ref/\as.length=i/\as.Nodup/\∀ b∈as,H1 b=none/\H b=some (.lst []),
  ⟨ds.length,by simp,DJ _,Zu.refl _,[],rfl,rfl,EQ,fun b U=>nomatch U⟩,?_⟩
 rintro i m zs H ⟨rfl,hi,s1,as,rfl,I,aa,has⟩;have l:(as.map V.ref).length<=sizeLine:=by rw[AC];lia
 obtain⟨Z,c⟩:=E A H ⟨rfl,s1⟩ (k.mono s1).mu;by_cases ah:i<ds.length
 ·have hx:ds[i]?=some ds[i]:=by simp[ah]
  obtain⟨go,T⟩:=Z i _ hx;obtain⟨n,b1⟩:=O _ (GZ ah);refine .inr ⟨go,l,fun s H'=>i+1<=ds.length/\Zu H1 H'/\∃ as:C3 A4,s=as.map V.ref/\as.length=i+1/\as.Nodup/\∀ b∈as,H1 b=none/\H' b=some (.lst []),
   fun s H' h=>⟨ds.length - (i+1),by lia,rfl,h⟩,fun x H' hy=>?_⟩
  obtain⟨s2,S⟩:=T x H' hy;refine⟨Js fs env,⟨H1,A,false⟩,A,ds[i],n,(k.inn fs).mono (s1.trans s2),S,b1,fun σ' k' w=>⟨⟨w.1.symm,fun j v ej=>?_⟩,n,⟨H1,A,false⟩,A,true,k',rfl,fun G C=>?_⟩⟩
  ·have hj:j∉is:=fun hj=>by
    have:=u j hj;unfold Up at ej;rw[AM,this] at ej;cases ej
   rw[w.2 j hj];exact ej
  ·rw[AG rfl]
   intro p hp;have M:Zu H1 G:=(s1.trans s2).trans C;have r:p∉as:=fun z=>by
    have:=(s2.trans C) _ _ (has p z).2;rw[hp] at this;cases this
   refine⟨ah,fun b o U=>?_,as++[p],by rw[BK];rfl,by rw[AN,CS,I],HK.mpr ⟨aa,DB.mpr ⟨by simp,EQ⟩,fun a ha b U=>by rw[AL.mp U];intro z;exact r (z▸ha)⟩,fun b U=>?_⟩
   ·have hn:b≠p:=fun z=>by have:=M b o U;rw[z,hp] at this;cases this
    rw[Zd hn];exact M b o U
   ·rcases BQ.mp U with U | U
    ·have hn:b≠p:=fun z=>r (z▸U)
     exact⟨(has b U).1,by rw[Zd hn];exact(s2.trans C) _ _ (has b U).2⟩
    ·rw[AL.mp U]
     exact⟨M.free hp,Zk⟩
 ·have e:i=ds.length:=by lia
  subst e;refine .inl ⟨c,l,fun p hp=>q p as _ (fun b o U=>?_) (s1.free hp) Zk I aa (fun z=>by have:=(has p z).2;rw[hp] at this;cases this) fun b U=>⟨(has b U).1,?_⟩⟩
  ·have hn:b≠p:=fun z=>by have:=s1 b o U;rw[z,hp] at this;cases this
   rw[Zd hn];exact s1 b o U
  ·have hn:b≠p:=fun z=>by have:=(has b U).2;rw[z,hp] at this;cases this
   rw[Zd hn];exact(has b U).2
theorem bY(i:Nat){x:Str}{a:Pos}(hN:X.N.Nodup)(y:X.N[i]?=some x)(hx:LC X.env.scope x)(aq:H3)(fs:C3 (C2 Nat))(N:C3 Str)(hp:X.env.scope=aq)(S:CompOk aq sc X.N N fs)(O:X.calm=true)(hi:MS false X tg iter src)
  (U:∀ (C:A4) (s:C0) (H:Hp) (fp:C3 A4),OJ is (Vr X sc N C s H fp) tg gg/\RX (Vr X sc N C s H fp) [] V6)
  (u:∀ i∈is,fs[i]?=some none) (hs:∀ x,foldedSetIterable iter X.env x=pure x:=by intro _;rfl) (ac:swapsWith (.ListComp (.List [] a) [⟨tg,iter,[],0⟩] sc pos) (some (.Name x am)) aE.line X.env=pure true:=by rfl)
  (hf:X.fn x=true\/X.env.scope.names.lookup x=some .local:=by first | exact .inl rfl | exact .inr rfl | assumption) :
  Ir fr X (.Assign [.Name x am] (.ListComp (.List [] a) [⟨tg,iter,[],0⟩] sc pos) aE) (A5 i src fs gg):=(X7 (g:=fun v σ H Q=>∃ env R A d env',F' X.K R A H σ env/\Rp X.K (av H A) d v/\gg d env=some env'/\∀ σ',F' X.K R A H σ' env'->O3 is σ σ'->Q σ' H) (tt:=fun σ H Q=>∃ env R A b,F' X.K R A H σ env/\V6 env=some b/\∀ H',Zu H H'->Q b H') (te:=fun σ H Q=>∀ p,H p=none->Q (.ref p) (W7 H p (.lst []))) hN y hx aq fs N hp S O hi (fun C s H fp=>⟨(U C s H fp).1,(U C s H fp).2,(cw U3).weak fun σ H Q h=>⟨DJ _,h⟩⟩) hs ac hf).weak fun D σ H L=>by
 obtain⟨env,B,A,k,l,q⟩:=L;unfold A5 at q;split at q
 ·rename_i ds e
  split at q
  ·rename_i f
   refine⟨env,B,A,ds,k,e,fun J H1 hz s1 E=>ky (Q:=fun v H'=>D.nx (σ.set i (some v)) H') u (k.mono s1) E hz (fun d hd=>EY.mp (DF.mp f d hd)) fun p as H' s2 hn aF I aa r has=>?_⟩;have h1:=k.putG l i (g:=.nest (List.replicate ds.length [])) (v:=.ref p) (S:=fun b=>decide (b=p)||decide (b∈as)) (s1.trans s2) (fun b U=>?_) (fun b U=>?_) ⟨p,as,rfl,by simp,by rw[EF];exact hz,aF,by rw[EF];exact I,aa,r,fun n b es q1 q2=>?_⟩
   ·exact q _ H' _ h1.1 h1.2
   ·rw[FJ,CB,CB] at U
    rcases U with z | z
    ·rw[z];exact s1.free hn
    ·exact s1.free (has b z).1
   ·rw[FJ,CB,CB] at U
    rcases U with z | z
    ·rw[z,aF];trivial
    ·rw[(has b z).2];trivial
   ·have W:b∈as:=AI q1
    have c:es=[]:=by
     have:=AI q2;exact(FE.mp this).2
    subst c;exact⟨by simp[W],DJ _,[],(has b W).2,Uk⟩
  ·exact q.elim
 ·exact q.elim
section
variable{z TI TO i1 i2:A4}{f1 f2:C3 A4}{n:Nat}{P1 P2:Nat->A2->Prop}{S1 S2:Nat->Gf->Prop}{a b:A2}
end
section
variable{st:Bool}{l1 l2:C4}{tk:Nat}
end
theorem ny{Q:C3 A2->C0->Prop}(hl:s.heap.IsTuple l vs.toArray)
  (h:Q vs { s with heap:=(s.heap.push (seqObj "list" #[] 0)).update s.heap.objs.size (Obj.mapSeq (·++vs.toArray)) }) (hsz:vs.length<=sizeLine) :
  wpAny (model prog w) A (collect (.ref l)) Q E s:=by
 obtain⟨o,J,O,n,hd⟩:=id hl;unfold collect;refine AA (wpAny_runValue (HQ entry_proto_collect' ?_));show wpAny _ _ (do again (.builtin "list.__iadd__" ⟨[← newList [],.ref l],[]⟩)) _ _ s;refine AA (wpAny_newList (AK ⟨GP _ (by decide +kernel),HQ entry_list_iadd' ?_⟩));show wpAny _ _ (Builtin.List.listExtendWith (.ref s.heap.objs.size) (.ref l) (.ref s.heap.objs.size)) _ _ { s with heap:=s.heap.push (seqObj "list" #[] 0) };unfold Builtin.List.listExtendWith;have S:(s.heap.push (seqObj "list" #[] 0)).get? l=some o:=AF _ J;refine AA (GL (T:="tuple") ⟨o,S,O⟩ ?_);have ht:(Value.type "tuple" == Value.type "tuple")=true:=by rfl
 rw[AG (by rw[ht];simp)];refine AA (listItems_at S hd ?_);refine AA (listItems_at (xs:=#[]) (n:=0) (BA _ rfl) rfl ?_);rw[AQ (by simp)];refine AA (listUpdate_at (xs:=#[]) (n:=0) (BA _ rfl) rfl ?_ (DJ _) (by show(#[]++vs.toArray).size<=sizeLine+1;simp only[Array.size_append,AT,IX];lia));refine AK ?_;show wpAny (model prog w) A (do
   let o ← load s.heap.objs.size
   match o.data with
   | .seq xs _=>pure xs.toList
   | _=>unsupported "internal:collect") Q E { s with heap:=(s.heap.push (seqObj "list" #[] 0)).update s.heap.objs.size (Obj.mapSeq (·++vs.toArray)) }
 refine AA (wpAny_load (get?_update_seq (BA _ rfl) _) ?_);show wpAny _ _ (pure ((#[]:Array A2)++vs.toArray).toList) Q E _;rw[show((#[]:Array A2)++vs.toArray).toList=vs by simp];exact AK h
theorem eu{Q:KD}(hl:s.heap.IsTuple l vs.toArray)(y:IntsAre vs ns)(a:vs.length<64)
  (h:∀ (aD:Array A2) (b:C3 Int),IntsAre aD.toList b->b.Perm ns->b.Pairwise (·<=·)->Q (.ref (s.heap.objs.size+1)) { s with heap:=sortedAll s.heap vs aD }) :
  wpAny (model prog w) A (call (.builtin "sorted") [.ref l]) Q E s:=by
 refine Calls.call_function_entry kind_sorted plain_sorted entry_sorted (args_sorted1 _) ?_;unfold Builtin.«sorted»;refine AA (m:=checkCount "sorted" 1 1 _) (AK ?_);refine AA (ny hl ?_ (by rw[DV];lia));refine AA (wpAny_newList ?_);have hsz:((s.heap.push (seqObj "list" #[] 0)).update s.heap.objs.size (Obj.mapSeq (·++vs.toArray))).objs.size=s.heap.objs.size+1:=by
  rw[HB,size_push']
 have J:(((s.heap.push (seqObj "list" #[] 0)).update s.heap.objs.size (Obj.mapSeq (·++vs.toArray))).push (seqObj "list" vs.toArray 0)).get? (s.heap.objs.size+1)=some (seqObj "list" vs.toArray 0):=by
  rw[← hsz];exact BA _ rfl
 show wpAny _ _ _ _ _ { s with heap:=((s.heap.push (seqObj "list" #[] 0)).update s.heap.objs.size (Obj.mapSeq (·++vs.toArray))).push (seqObj "list" vs.toArray 0) };rw[hsz];refine AA (BZ (EZ slot_list_sort ⟨_,J,rfl⟩ entry_list_sort (list_sort_tree J y a fun aD b a1 a2 a3=>⟨_,rfl,?_⟩) (args_list_sort _)));exact AK ⟨_,rfl,h aD b a1 a2 a3⟩
def mY(K:JT):C3 V->Hp->VK->Prop:=fun xs H Q=>∃ p ns,xs=[.ref p]/\Hw K H p (ns.map V.int)/\ns.length<64 /\
 ∀ (ms:C3 Int) (l:A4),ms.Perm ns->ms.Pairwise (·<=·)->H l=none->Q (.ref l) (W7 H l (.lst (ms.map V.int)))
theorem At:Uf X (.builtin "sorted") (mY X.K):=by
 intro aa s σ H xs us Q I r h;obtain⟨p,ns,rfl,hq,a,q⟩:=h;obtain⟨u,rfl,S⟩:=Ef r;cases S;obtain⟨its,r',pl,hz⟩:=I.tuple hq;have ae:=r'.length;rw[AC] at ae;refine eu (show s.heap.IsTuple p its.toArray from pl) (Xp r') (by lia) fun aD ms h1 h2 h3=>?_
 obtain⟨e,he⟩:=sortedAll_at s.heap its aD;have hl:ms.length=ns.length:=h2.length_eq;refine⟨.ref (s.heap.objs.size+1),W7 H (s.heap.objs.size+1) (.lst (ms.map V.int)),I.laid (t':=s.toks) (fun b o q=>sortedAll_old q) (DZ _) ?_,rfl,q ms _ h2 h3 (I.hok.fresh (DZ _))⟩;refine⟨by rw[AC] at hz ⊢;lia,aD.toList,e,L8 h1,?_⟩;rw[he]
def Kk:C3 Dat->C2 (C3 Dat)
 | [.lst xs]=>(Mp xs).bind fun ns=>if ns.length<64 then some ((Ky ns).map .int) else none
 | [.tup xs]=>(Mp xs).bind fun ns=>if ns.length<64 then some ((Ky ns).map .int) else none
 | _=>none
theorem Ae:TV X (.builtin "sorted") Kk:=(Cb.or At).weak fun vs H Q L=>by
 obtain⟨A,ds,d,mu,e,p,q⟩:=L;unfold Kk at e;split at e
 ·rename_i xs
  obtain⟨v,e1,M⟩:=p.one;obtain⟨l,us,e2,h1,r1⟩:=M.lst;obtain⟨ns,hn,e⟩:=bind_some e;split at e
  ·rename_i a
   cases e;rw[Mi hn] at r1;have R:=Vo r1;subst R;refine .inl ⟨l,ns,by rw[e1,e2],h1.sq,a,fun ms c hp hs hl=>?_⟩;rw[D0 (hp.trans (Jn ns).symm) hs (Kw ns)];have h0:(64:Nat)<=sizeLine:=by decide
   exact q.at (by rw[AC,(Jn ns).length_eq];lia) (Kz _) c hl
  ·cases e
 ·rename_i xs
  obtain⟨v,e1,M⟩:=p.one;obtain⟨l,us,e2,h1,r1⟩:=M.tup;obtain⟨ns,hn,e⟩:=bind_some e;split at e
  ·rename_i a
   cases e;rw[Mi hn] at r1;have R:=Vo r1;subst R;refine .inr ⟨l,ns,by rw[e1,e2],h1,a,fun ms c hp hs hl=>?_⟩;rw[D0 (hp.trans (Jn ns).symm) hs (Kw ns)];have h0:(64:Nat)<=sizeLine:=by decide
   exact q.at (by rw[AC,(Jn ns).length_eq];lia) (Kz _) c hl
  ·cases e
 ·cases e
open HT in
theorem Hr{sl:A4}{Q:KD}(ht:IsTup s.heap t af)(hs:s.heap.IsSliceOf sl vl vu .none)(pl:IsPart vl lo)(c:IsPart vu hi)
  (hw:(sIx af.size 0 lo=0/\sIx af.size af.size hi=af.size))
  (h:Q (.ref t) s)
  (hsz:af.size<=sizeLine):wpAny (model prog w) A (getItem (.ref t) (.ref sl)) Q E s:=by
 obtain⟨os,b,v,D⟩:=id hs;have ao:s.TypeIs (.ref sl) "slice" := ⟨os,b,v⟩;unfold getItem;try with_reducible refine BZ ?_
 first | refine AA (AK ?_) | skip
 refine AA (wpAny_sequenceKey ht.typeIs (by decide) ?_);refine AA (EC (name:=Str.ofString "__getitem__") ht.typeIs DQ
  (EZ DQ ht.typeIs entry_tuple_getitem ?_ (args_tuple_getitem _ _)))
 show wpAny _ _ (Builtin.Tuple.tupleItemsOf (.ref t) >>= _) _ _ s;refine AA (tupleItemsOf_ ht ?_);refine AA (GL ao ?_);rw[AG (by decide)];refine AA (Dc hs pl c ?_);have a:(((sIx af.size 0 lo:Nat):Int)==0&&(1:Int)==1&&(sIx af.size af.size hi - sIx af.size 0 lo)==af.size)=true:=by
  rw[hw.1,hw.2];simp
 show wpAny _ _ (if(((sIx af.size 0 lo:Nat):Int)==0&&(1:Int)==1&&(sIx af.size af.size hi - sIx af.size 0 lo)==af.size)=true then _ else _) _ _ s;rw[AG a];unfold Builtin.Tuple.tupleIsExact;refine AA (AA (GL ht.typeIs (AK ?_)));rw[AG (by decide)];exact AA (wpAny_rule (AK ⟨_,rfl,AK h⟩))
def eI(K:JT):V->C2 Int->C2 Int->Hp->VK->Prop:=fun x lo hi H Q=>∃ a xs,x=.ref a/\Hw K H a xs /\
 (HT.sIx xs.length 0 lo=0/\HT.sIx xs.length xs.length hi=xs.length)/\Q (.ref a) H
theorem ik:LX X (eI X.K):=by
 intro aa s σ H x v vl vu lo hi sl Q I S hs pl c h;obtain⟨a,xs,rfl,hx,hw,q⟩:=h;cases S;obtain⟨its,r,ht,hz⟩:=I.tuple hx;have ae:its.toArray.size=xs.length:=by rw[AT];exact r.length.symm
 refine⟨"tuple",_,PyProof.Rows.slot_tuple_getitem.lookup,ht.typeIs,?_⟩;exact Hr ht hs pl c (by rw[ae];exact hw) ⟨.ref a,H,I,rfl,q⟩ (by rw[ae];exact hz)
def Ce:Dat->C2 Int->C2 Int->C2 Dat
 | .lst xs,lo,hi=>some (.lst (S6 xs lo hi))
 | .str z,lo,hi=>some (.str (Txt.slice z lo hi))
 | .tup xs,lo,hi=>some (.tup (S6 xs lo hi))
 | _,_,_=>none
theorem Ed:WB X Ce:=(eE.or ik).weak fun v lo hi H Q L=>by
 obtain⟨A,x,d,mu,e,M,q⟩:=L;unfold Ce at e;split at e
 ·exact .inl ⟨A,.lst _,d,mu,e,M,q⟩
 ·exact .inl ⟨A,.str _,d,mu,e,M,q⟩
 ·rename_i xs
  by_cases hw:HT.sIx xs.length 0 lo=0/\HT.sIx xs.length xs.length hi=xs.length
  ·obtain⟨l,vs,e1,h1,r1⟩:=M.tup
   cases e;have ec:S6 xs lo hi=xs:=by unfold S6;rw[hw.1,hw.2];simp
   rw[ec] at q;exact .inr ⟨l,vs,e1,h1,by rw[Y0 r1];exact hw,by rw[← e1];exact q.here (by rcases M with h | ⟨_,_,_,e9,_⟩ | ⟨_,_,_,e9,_⟩ | ⟨_,_,e9,_⟩;exact h;cases e9;cases e9;cases e9)⟩
  ·exact .inl ⟨A,.tup xs,d,mu,by show(if _ then none else _)=_;rw[AQ hw];exact e,M,q⟩
 ·cases e
theorem Dn{xs:Array A2}(q:h.IsList t xs)(e:∀ o,h.get? t=some o->h'.get? t=some o):h'.IsList t xs:=by
 obtain⟨o,J,r⟩:=q;exact⟨o,e o J,r⟩
theorem Fo(ac:t≠it):∀ (n i:Nat) (s:C0) (Q:C3 A2->C0->Prop),s.heap.IsListIter it t i->s.heap.IsList t af->i+n<=af.size ->
  (∀ h',h'.IsListIter it t (i+n)->SameBut it s.heap h'->Q ((af.toList.drop i).take n) { s with heap:=h' })->wpAny (model prog w) A (draw (.ref it) n) Q E s
 | 0,i,s,Q,c,_,_,j=>by
  show wpAny _ _ (pure []) Q E s;exact AK (by simpa using j s.heap c (SameBut.refl ..))
 | n+1,i,s,Q,c,ht,B,j=>by
  have ah:i<af.size:=by lia
  show wpAny _ _ (pyNext (.ref it) >>= _) Q E s;refine AA (wpAny_pyNext_list_item c ht (x:=af[i]) (by simp[ah]) fun h₁ hit₁ hs₁=>?_);refine AA (BZ (Fo ac n (i+1) _ _ hit₁ (Dn ht fun o e=>hs₁.extBut _ _ ac e) (by lia) fun h₂ hit₂ hs₂=>AK ?_));have hd:af.toList.drop i=af[i]::af.toList.drop (i+1):=by simp[DH,ah]
  have:=j h₂ (by rw[show i+(n+1)=i+1+n by lia];exact hit₂) (hs₁.trans hs₂);rw[hd,FL] at this;exact this
theorem N6{Q:C3 A2->C0->Prop}(hh:A.handled=none)(ht:s.heap.IsList t af)
  (j:∀ h',ExtBut s.heap.objs.size s.heap h'->Q af.toList { s with heap:=h' }):wpAny (model prog w) A (unpackItems (.ref t) af.size none) Q E s:=by
 have ah:t≠s.heap.objs.size:=by obtain⟨o,J,_⟩:=ht;exact BU (AR J)
 unfold unpackItems;refine AA ?_
 ·unfold notIterableAtAll
  refine AA (IY ht.typeIs slot_list_iter.lookup ?_);refine AK ?_;simp only[GM,HZ];refine AA (BZ (GW ht ?_));refine AA (BZ (Fo ah af.size 0 _ _ ⟨_,BA _ rfl,rfl,rfl⟩ (Dn ht fun o e=>AF _ e) (by lia) fun h₁ hit₁ hs₁=>?_));have f:List.take af.size (List.drop 0 af.toList)=af.toList:=by
   rw[JJ];exact CK (by simp)
  rw[f];rw[AQ (by simp)];have ht₁:Heap.IsList h₁ t af:=Dn (Dn ht fun o e=>AF _ e) fun o e=>hs₁.extBut _ _ ah e
  refine AA (BZ (wpAny_pyNext_list_end hh hit₁ ht₁ (by simp) fun h₂ he₂=>?_));simp only[Option.isSome_none,GM,HZ];refine AK (j h₂ fun b o U e=>he₂ b o U (hs₁.extBut b o U (AF _ e)))
theorem La{env:IA}{a:C3 C4}{x1}(hh:A.handled=none)(ht:s.heap.IsList t af)
  (hn:(assignEach a env).length=af.size) (b:(assignEach a env).findIdx? (·.1)=none)
  (h:∀ h',ExtBut s.heap.objs.size s.heap h'->wpAny (model prog w) A (assignInOrder ((assignEach a env).map (·.2)) af.toList) Q E { s with heap:=h' }) :
  wpAny (model prog w) A (assign (.Tuple a x1 pos) env (.ref t)) Q E s:=by
 rw[assign_Tuple];refine AA (CW ?_);unfold unpack;rw[hn,b];exact AA (BZ (N6 hh ht h))
def kL(K:JT)(n:Nat)(t:MY):TG:=fun v σ H Q=>∃ a xs,v=.ref a/\Hk K H a xs/\xs.length=n/\t xs σ H Q
theorem l5{t:MY}{n:Nat}(O:X.calm=true)(h:NP X es t)
  (hn:(assignEach es X.env).length=n:=by rfl) (l:(assignEach es X.env).findIdx? (·.1)=none:=by rfl):PG X (.Tuple es k pos) (fun v σ H Q=>b9 X.K n t v σ H Q\/kL X.K n t v σ H Q):=by
 intro aa s σ H v u Q I r hw;rcases hw with hw | hw
 ·exact je O h hn l aa s σ H v u Q I r hw
 obtain⟨a,xs,e1,hq,hl,hw⟩:=hw;subst e1;cases r;obtain⟨its,L,pl,hz⟩:=I.list hq;refine La (I.ok.hd O) pl.isList (by simp[hn,← hl,L.length]) l fun h' hx=>?_
 have I1:C' X aa σ H { s with heap:=h' }:=I.kept (t':=s.toks) fun b o e=>hx b o (BU (AR e)) e
 exact h aa _ σ H xs _ Q I1 (by simpa using L) hw
def Nb(n:Nat)(gs:C3 Dat->Ev->C2 Ev):Dat->Ev->C2 Ev:=fun d env=>match d with
 | .tup ds=>if ds.length=n then gs ds env else none
 | .lst ds=>if ds.length=n then gs ds env else none
 | _=>none
theorem Lh{gs:C3 Dat->Ev->C2 Ev}{n:Nat}(O:X.calm=true)(h:UF is X es gs)
  (hn:(assignEach es X.env).length=n:=by rfl) (l:(assignEach es X.env).findIdx? (·.1)=none:=by rfl):OJ is X (.Tuple es k pos) (Nb n gs):=(l5 O h hn l).weak fun v σ H Q L=>by
 obtain⟨env,R,A,d,env',k,r,e,q⟩:=L;unfold Nb at e;split at e
 ·rename_i ds
  split at e
  ·rename_i hl
   obtain⟨a,vs,ev,h1,r1⟩:=Ge r;exact .inl ⟨a,vs,ev,W5.seqT h1,by rw[Y0 r1];exact hl,env,R,A,ds,env',k,r1,e,q⟩
  ·cases e
 ·rename_i ds
  split at e
  ·rename_i hl
   obtain⟨a,vs,ev,h1,r1⟩:=Rl r;exact .inr ⟨a,vs,ev,(W5.sl h1).sq,by rw[Y0 r1];exact hl,env,R,A,ds,env',k,r1,e,q⟩
  ·cases e
 ·cases e
variable{k:C4}
def QD:Dat->C2 (C3 Ul)
 | .tup [.int a,.int b]=>some [.inl a,.inl b]
 | _=>none
theorem Cf{A:AS}{d:Dat}(e:QD d=some ks)(r:Pk K A H d v):∃ p,v=.ref p/\H p=some (.tup (ks.map kV)):=by
 unfold QD at e;split at e
 ·rename_i a b
  cases e;obtain⟨p,vs,e1,h1,r1⟩:=r.tup;have ev:vs=[.int a,.int b]:=Vo (ns:=[a,b]) r1;subst ev;rcases h1 with h1 | ⟨_,_,_,_,_,_,_,_,h2⟩
  ·exact⟨p,e1,h1⟩
  ·exact absurd AW (h2 a)
 ·cases e
def Ny(kvs:C3 (C3 Ul×Dat))(ks:C3 Ul):Bool:=(kvs.map (·.1)).any fun x=>decide (x=ks)
theorem cO{us:C3 (C3 Ul×V)}{k:C3 Ul}:(Hs us k).isSome=(us.map (·.1)).any fun x=>decide (x=k):=by
 rw[JB,← Ld];congr 1
section
variable{g:Zzu}
def RQ(neg:Bool)(i:Nat)(f:Zzu):Ev->C2 Dat:=fun env=>match env[i]?,f env with
 | some (.gx (.dict kvs)),some d=>(QD d).map fun ks=>.bl (if neg then !Ny kvs ks else Ny kvs ks)
 | _,_=>none
theorem F'.dictA{A:AS}{kvs:C3 (C3 Ul×Dat)}(k:F' K B A H σ env)(h:env[i]?=some (.gx (.dict kvs))) :
  ∃ (a:A4) (us:C3 (C3 Ul×V)),σ[i]?=some (some (.ref a))/\H a=some (.dT us)/\us.map (·.1)=kvs.map (·.1):=by
 obtain⟨own,h1,h2,h4⟩:=k.sl;obtain⟨x,q1,v,e1,a,us,e2,e3,e4,e5,Y,e7⟩:=h4 i _ h;subst e1 e2;exact⟨a,us,q1,e5,Y⟩
def Px(i:Nat)(fk fv:Zzu):Ev->Fl:=fun env=>match env[i]?,fv env,fk env with
 | some (.gx (.dict kvs)),some d,some y=>match QD y with
  | some ks=>if Ny kvs ks=false/\kvs.length<sizeLine then .next (env.set i (.gx (.dict (kvs++[(ks,d)])))) else .no
  | none=>.no
 | _,_,_=>.no
theorem dX(i:Nat){x:Str}(hu:X.A.units+1<cLine)(ha:Wm true X ix f)(U:Wm false X e g)
  (hN:X.N[i]?=some x:=by rfl) (hv:LU X.env.scope x:=by first | exact AD rfl | exact BJ (AD rfl) | exact BJ (BJ rfl)) (hd:(x==("__debug__" : Str))=false:=by decide) (M:(x==("__classdict__" : Str))=false:=by decide)
  (hs:swapsWith e (some (.Subscript (.Name x p) ix am)) pos.line X.env=pure false:=by rfl) :
  Ir fr X (.Assign [.Subscript (.Name x p) ix am] e pos) (Px i f g):=(ki hu (Rx hN hv hd M) ha U hs).weak fun D σ H L=>by
 obtain⟨env,B,A,k,l,q⟩:=L;unfold Px at q;split at q
 ·rename_i kvs d y h1 h2 h3
  split at q
  ·rename_i ks Y
   split at q
   ·rename_i O
    obtain⟨a,us,s1,s2,C⟩:=k.dictA h1;refine⟨env,B,A,d,k,h2,fun v H1 h r1=>⟨.ref a,s1,env,B,A,y,k.mono h,h3,fun u H2 j r2=>?_⟩⟩;obtain⟨b,e4,e5⟩:=Cf Y r2.pk;subst e4;have sm:=h.trans j;have k3:=k.mono sm;obtain⟨v0,o,m1,m2,m3,Q⟩:=k3.gx l h1;rw[s1] at m1;cases m1;obtain⟨J,m,z1,z2,z3,z4,z5,z6⟩:=m2;cases z1;have n:m=us:=by
     have:=sm _ _ s2;rw[z4] at this;exact HO.dT.inj (BD this)
    subst n;have I:Hs m ks=none:=by
     have:=cO (us:=m) (k:=ks);rw[C] at this;have h9:Ny kvs ks=false:=O.1;unfold Ny at h9;rw[h9] at this;cases h8:Hs m ks with
     | none=>rfl
     | some _=>rw[h8] at this;cases this
    have r:m.length=kvs.length:=by have:=CV List.length C;rwa [AC,AC] at this
    have ep:Kt m ks v=m++[(ks,v)]:=hc v I;refine⟨a,W7 H2 a (.dT (m++[(ks,v)])),rfl,by rw[← ep];exact SK.t (sm _ _ s2) e5 (by rw[r];exact O.2),?_⟩;have hA:A a=true:=(m3 a z2).1;have F:Zu (av H2 A) (av (W7 H2 a (.dT (m++[(ks,v)]))) A):=fun c o2 ec=>by
     obtain⟨y1,y2⟩:=Mu ec;have O:c≠a:=by intro z;rw[z,hA] at y1;cases y1
     exact V8 (by rw[Zd O];exact y2) y1
    have hg:NC X.K A (W7 H2 a (.dT (m++[(ks,v)]))) o (.dict (kvs++[(ks,d)])) (.ref a):=by
     refine⟨a,m++[(ks,v)],rfl,z2,by rw[AN];exact O.2,Zk,by rw[BK,BK,C];rfl,?_⟩;rw[BK,BK];exact Wq (z6.mono F) (Sj ((Rp.mono (Vj j) (show Rp X.K (av H1 A) d v from r1)).mono F))
    obtain⟨w1,w2⟩:=Q a (.dT (m++[(ks,v)])) _ z2 trivial hg;exact q A _ σ ((JN.same sm).trans w1) w2
   ·exact q.elim
  ·exact q.elim
 ·exact q.elim
def jA(tk tv:TE):TE:=fun σ H Q=>∀ p,H p=none->tk σ (W7 H p (.dT [])) fun y H1=>tv σ H1 fun x H2=>H2 p=some (.dT [])/\∃ ks b,y=.ref b/\H2 b=some (.tup (ks.map kV))/\Q (.ref p) (W7 H2 p (.dT [(ks,x)]))
theorem dY{env:IA}{K:Type}[DecidableEq K]{knd:HeapKind prog w K}{v:C4}{Q:KD}
  (h:wpAny (model prog w) A (evalPairs (pairTrees [some k] [v] env pos)) (fun vs s₁=>∃ b x ks,vs=[(.ref b,x)]/\knd.room A/\knd.is s₁.heap ks b/\s₁.heap.DictOfH knd s.heap.objs.size [] /\
   ∀ h',h'.DictOfH knd s.heap.objs.size (storedH [] ks b x)->SameBut s.heap.objs.size s₁.heap h'->Q (.ref s.heap.objs.size) { s₁ with heap:=h',toks:=s₁.toks+knd.draws ks }) E
   { s with heap:=s.heap.push { cls:=.type "dict",data:=.dict #[] } }) :
  wpAny (model prog w) A (eval (.Dict [some k] [v] pos) env) Q E s:=by
 rw[arm_eval_Dict,zip_pairTrees [some k] [v] env pos rfl rfl,dictDisplay_pairs (pairTrees [some k] [v] env pos) (by simp[pairTrees]) (by simp[pairTrees])];refine AA (CW (AA ?_));unfold subDict;refine AA (wpAny_alloc ?_);refine AA (BZ ?_);rw[AG (by simp[pairTrees])];refine AA (BM h (fun vs s₁ h₁=>?_) fun _ _ e=>e);obtain⟨b,x,ks,rfl,Z,Y,hm,hq⟩:=h₁;refine BZ ?_;rw[List.forIn_cons];refine AA (AA (AA (wpAny_dictSet_heap Z Y hm (fun h' a c=>AK ?_) (DJ _))));show wpAny _ _ (forIn ([]:C3 (A2×A2)) PUnit.unit _) _ _ _;rw[List.forIn_nil];exact AK (AK (AK (AK (hq h' a c))))
theorem m6{v:C4}{tk:TE}(hu:X.A.units+1<cLine)(Y:PE X k tk)(hv:PE X v tv):PE X (.Dict [some k] [v] pos) (jA tk tv):=by
 intro aa s σ H Q I q;have hn:=I.hok.fresh (AY s.heap.objs.size);have I1:=I.laid (a:=s.heap.objs.size) (o:=.dT []) (h':=s.heap.push { cls:=.type "dict",data:=.dict #[] }) (t':=s.toks) (fun _ _ q=>AF _ q) (AY _) (jZ s.heap I.big);refine dY (knd:=tupleKind (U8 X.prog X.w)) (pairTrees_cons_walk (Vk (Y aa _ σ _ _ I1 (q _ hn)) fun u s1 ⟨y,H1,I2,m,q1⟩=>Vk (hv aa s1 σ H1 _ I2 q1) fun W s2 ⟨x,H2,I3,S,q2⟩=>pairTrees_nil_walk ?_));obtain⟨hp,ks,b,B,F,q3⟩:=q2;subst B;cases (show u=Value.ref b from m);obtain⟨z,hd,xs,d,dd⟩:=bz I3.hok hp;cases d;refine⟨b,W,ks,rfl,(show X.A.units<cLine by lia),Al I3.hok F,dd,fun h' ac hs=>⟨.ref s.heap.objs.size,_,?_,rfl,q3⟩⟩;obtain⟨q,es,ep,hq,h2,h3,h4,_,h5⟩:=ac;have r1:=(KT.put (H:=H2) (kvs:=[]) (xs:=[]) .nil ks F S);refine As I3 (by rw[hp];exact IR) hs ⟨q,hq⟩ ⟨by show 1<=sizeLine;decide,hd,_,r1.keeps fun c ys ec=>?_,q,es,ep,hq,h2,h3,h4,h5⟩;rw[Zd (YJ ec hp (fun z=>nomatch z))];exact ec
def SJ(i:Nat)(fk fv:Zzu):Ev->Fl:=fun env=>match fk env,fv env with
 | some y,some (.bl d)=>match QD y with
  | some ks=>.next (env.set i (.gx (.dict [(ks,.bl d)])))
  | none=>.no
 | _,_=>.no
theorem fV(i:Nat){x:Str}{n:C4}{a:Pos}(hN:X.N.Nodup)(hi:X.N[i]?=some x)(hx:LC X.env.scope x)(hu:X.A.units+1<cLine)(ha:Wm true X n f)(U:Wm false X e g)
  (hs:swapsWith (.Dict [some n] [e] a) (some (.Name x am)) pos.line X.env=pure false:=by rfl)
  (hf:X.fn x=true\/X.env.scope.names.lookup x=some .local:=by first | exact .inl rfl | exact .inr rfl | assumption) :
  Ir fr X (.Assign [.Name x am] (.Dict [some n] [e] a) pos) (SJ i f g):=(Xf hN hi hx (m6 hu ha U) hs hf).weak fun D σ H L=>by
 obtain⟨env,B,A,k,l,q⟩:=L;unfold SJ at q;split at q
 ·rename_i y d h1 h2
  split at q
  ·rename_i ks Y
   intro p hp;have m:Zu H (W7 H p (.dT [])):=Zu.new hp;refine⟨env,B,A,y,k.mono m,h1,fun u H1 h r1=>⟨env,B,A,.bl d,(k.mono m).mono h,h2,fun v H2 j r2=>⟨j _ _ (h _ _ Zk),?_⟩⟩⟩;obtain⟨b,e4,e5⟩:=Cf Y r1.pk;refine⟨ks,b,e4,j _ _ e5,?_⟩;have r:Zu H (W7 H2 p (.dT [(ks,v)])):=fun c o ec=>by
    rw[Zd (fun z=>by rw[z,hp] at ec;cases ec)];exact j _ _ (h _ _ (m _ _ ec))
   have h9:=k.putG l i (g:=.dict [(ks,.bl d)]) (v:=.ref p) (S:=fun b=>decide (b=p)) r (fun b U=>by rw[BF U];exact hp) (fun b U=>by rw[BF U,Zk];trivial) ⟨p,[(ks,v)],rfl,by simp,by show 1<=sizeLine;decide,Zk,rfl,Sj ?_⟩
   ·exact q _ _ _ h9.1 h9.2
   ·rw[(show Rp X.K (av H2 A) (.bl d) v from r2) |> Xw];exact Uq
  ·exact q.elim
 ·exact q.elim
end
end L2
variable{r:L2.Fl}{B v s0 m':Nat}{h:L2.Ev->L2.Fl}{q:Nat×Nat}{qs rs:C3 (Nat×Nat)}{l:C3 Nat}{as ys:C3 L2.Dat}{lo:Int}{I:Nat×Nat->Prop}
namespace L2
open PySem PySem.Spec PyProof.Rows PySem.W
section
variable{h₀:ExceptHandler}{hs:C3 ExceptHandler}
variable{a b c:C4}{f1 f2 f3:Zzu}{F1 F2:Dat->Dat->C2 Dat}{m1 m2 m3:Bool}
def QM(i:Nat)(f:Zzu):Ev->Fl:=fun env=>match env[i]?,f env with
 | some (.fz (.int x)),some (.int y)=>.next (env.set i (.fz (.int (x+y))))
 | _,_=>.no
theorem mm(i:Nat){x:Str}(hN:X.N.Nodup)(hi:X.N[i]?=some x)(hx:LC X.env.scope x)(he:Wm m1 X e f1)
  (hf:X.fn x=true\/X.env.scope.names.lookup x=some .local:=by first | exact .inl rfl | exact .inr rfl | assumption):Ir fr X (.AugAssign (.Name x am) .Add e pos) (QM i f1):=(iC hN hi hx he oA hf).weak fun D σ H L=>by
 obtain⟨env,B,A,k,l,q⟩:=L;unfold QM at q;split at q
 ·rename_i n m h1 h2
  obtain⟨own,z1,z2,z4⟩:=k.sl;obtain⟨w,q1,v,e1,e2⟩:=z4 i _ h1;subst e1;have ev:v=.int n:=So e2;subst ev;refine⟨.int n,q1,env,B,A,.int m,k,h2,fun y H1 s1 r1=>?_⟩;refine⟨n,m,rfl,r1.pk.int,?_⟩;exact q A H1 _ (JN.same s1) ((k.mono s1).put i Wf)
 ·exact q.elim
theorem nn(i:Nat){x:Str}(hu:X.A.units+1<cLine)(he:Wm true X e f1)(hN:X.N[i]?=some x:=by rfl)(hv:LU X.env.scope x:=by first | exact AD rfl | exact BJ (AD rfl) | exact BJ (BJ rfl))(hd:(x==("__debug__" : Str))=false:=by decide)(M:(x==("__classdict__" : Str))=false:=by decide)
  (hm:behindInMarks .In (.Name x p)=false:=by rfl):MK X (.Compare e [.In] [.Name x p] pos) (dB (RQ false i f1)):=(eT (dt hu he (Rx hN hv hd M)) hm).weak fun σ H Q L=>by
 obtain⟨env,R,A,d,k,e1,q⟩:=L;have e1:=Km e1;unfold RQ at e1;split at e1
 ·rename_i kvs d0 h1 h2
  obtain⟨ks,Y,e3⟩:=map_some e1;have e4:=Dat.bl.inj e3;subst e4;obtain⟨a,us,s1,s2,C⟩:=k.dictA h1;refine⟨env,R,A,d0,k,h2,fun y H1 sm r1=>⟨.ref a,s1,a,Hs us ks,rfl,?_,_,rfl,?_⟩⟩
  ·obtain⟨b,e4,e5⟩:=Cf Y r1.pk
   subst e4;exact RJ.t (sm _ _ s2) e5
  ·rw[cO,C]
   exact q H1 sm
 ·cases e1
end
end L2
namespace L2
open PySem PySem.Spec PyProof.Rows
section
variable[DecidableEq κ]{kd:HeapKind prog w κ}
end
theorem ck{x:Str}(C:JY X.prog X.w X.K X.mg X.base k x ps fr F)(Z:JQ k X.A)(ha:Om false X (e::es) fs)(hg:Gl X x:=by rfl)
  (P:(x==("__debug__" : Str))=false:=by decide) (he:starEach (e::es) X.env=(false,eval e X.env)::starEach es X.env:=by rfl) (af:(backTo pos (starEach es X.env)).any (·.1)=false:=by rfl) (hp:X.pl=false:=by rfl) :
  Wm m X (.Call (.Name x p) (e::es) [] pos) (Zr F fs):=Wm.any ((Db C Z ha hg P he af (fun z=>by rw[hp] at z;cases z)).weak fun σ H Q L=>by
 obtain⟨env,B,A,d,kk,q1,q2⟩:=L;obtain⟨ds,e1,e2⟩:=bind_some q1;have e3:=X0 e2;refine⟨env,B,A,ds,kk,e1,?_⟩;rw[e3];exact fun v H' s r=>q2 v H' s r)
def U5(F:C3 Dat->Rs)(fs:Zzv):Ev->Fl:=fun env=>match fs env with
 | none=>.no
 | some ds=>match F ds with
  | .ok _=>.next env
  | .exc c fl=>.exc env c fl
  | .no=>.no
theorem S9(he:PE X e (PR X aK F fs))(hs:swapsWith e none pos.line X.env=pure false:=by rfl):Ir fr X (.Expr e pos) (U5 F fs):=(R4 he hs).weak fun D σ H L=>by
 obtain⟨env,B,A,k,l,q⟩:=L;unfold U5 at q;split at q
 ·exact q.elim
 rename_i ds e1;refine⟨env,B,A,ds,k,e1,?_⟩;split at q
 ·rename_i d hd
  try rw[hd]
  exact fun v H' s r=>q A H' σ (JN.same s) (k.mono s)
 ·rename_i c fl hd
  try rw[hd]
  exact fun A' H' σ' s k' _=>q A' H' σ' s k'
 ·exact q.elim
end L2
namespace L2
open PySem PySem.Spec PyProof.Rows PySem.W
abbrev Cx.pls(X:Cx)(b:Bool):Cx:={ X with pl:=b }
section
variable{b:Bool}
theorem C'.pls(I:C' X aa σ H s):C' (X.pls b) aa σ H s :=
 ⟨⟨I.ok.mod,I.ok.kind,I.ok.glob,I.ok.blt,I.ok.above,I.ok.inj,I.ok.has,I.ok.cab,I.ok.hd,I.ok.frames,I.ok.stk,I.ok.exf,I.ok.bs,I.ok.bsz,I.ok.noex,I.ok.exfs,I.ok.funs,I.ok.frf⟩,I.os,I.bare,I.base,I.loc,I.cell,I.free,I.freeC,I.pin,I.hok,I.len⟩
theorem C'.unpls(I:C' (X.pls b) aa σ H s):C' X aa σ H s :=
 ⟨⟨I.ok.mod,I.ok.kind,I.ok.glob,I.ok.blt,I.ok.above,I.ok.inj,I.ok.has,I.ok.cab,I.ok.hd,I.ok.frames,I.ok.stk,I.ok.exf,I.ok.bs,I.ok.bsz,I.ok.noex,I.ok.exfs,I.ok.funs,I.ok.frf⟩,I.os,I.bare,I.base,I.loc,I.cell,I.free,I.freeC,I.pin,I.hok,I.len⟩
theorem SP.unpls{D:KG}{f:Flow}(h:SP (X.pls b) aa D f s):SP X aa D f s:=by
 cases f with
 | next=>obtain⟨σ',H',I,q⟩:=h;exact⟨σ',H',I.unpls,q⟩
 | brk=>obtain⟨σ',H',I,q⟩:=h;exact⟨σ',H',I.unpls,q⟩
 | cont=>obtain⟨σ',H',I,q⟩:=h;exact⟨σ',H',I.unpls,q⟩
 | ret u=>obtain⟨v,σ',H',I,r,q⟩:=h;exact⟨v,σ',H',I.unpls,r,q⟩
theorem Gr.unpls{st:C3 C5}{t:TS}(h:Gr (X.pls b) st t):Gr X st t:=fun aa s σ H D I hw =>
 BM (h aa s σ H D I.pls hw) (fun _ _ q=>q.unpls) fun _ _ z=>z
end
section
variable{K:Frag}
abbrev hL(P:Ff)(w:Fn)(K:JT)(mg:KB)(base:Gf)(N:C3 Str)(ai:Str)(scope:H3)(f:A4)(cd:A2)(A:C1)(outer:C3 IA)(s:C0)(H:Hp)(E:XK):Cx :=
 (Qq (LF P w base true) P w K mg base N ai scope f cd A outer s H E).pls true
theorem nI{x:Str}{st:C5}(D:JZ K mg x st)(S:FnScope N ps (Z6 st))
  (b:∀ (kV au pm:A2) (an:C2 A4) (ah ct:A2) (us:C3 A2),us.length=ps.length->bindArgs (PySem.W.fnOf x x (U9 st) (Yk st) (Z6 st) .none kV au pm an ah ct) ⟨us,[]⟩=pure (ps.zip us))
  (U:∀ (f:A4) (ah:A2) (A:C1) (outer:C3 IA) (s:C0) (H:Hp) (E:XK),JQ k (A.deeper (envOfC x (Z6 st) s.heap.objs.size f ah))->Oe fr (hL P w K mg base N x (Z6 st) f ah A outer s H E) (Yk st) g) :
  JY P w K mg base (k+1) x ps fr (Yg N.length ps.length g) true:=by
 have af:ps.length<=N.length:=by have:=CV List.length S.pre;rw[CJ] at this;lia
 obtain⟨f,fd,F,hm⟩:=D.ex;refine⟨⟨f,fd,F.okX S (fun vs H Q E h=>h.1) fun ah A outer s H vs Q E Z ⟨hl,ds,R,mu,r,q⟩=>⟨_,Gr.unpls (U f ah A outer s H E Z),?_⟩,hm,F.kp,F.binds b⟩,fun ds h=>Na h⟩;unfold Yg at q;split at q
 ·rename_i hl
  refine⟨Tt N.length ds,⟨H,R,true⟩,R,Kl mu r (by lia),rfl,?_⟩;split at q
  ·rename_i d' e
   rw[e];exact fun v H' s r n=>q v H' s r n
  ·rename_i env e
   rw[e];exact fun A' H' σ' s k=>q .non H' k.h0 Lx (fun _ ds e=>by cases e)
  ·rename_i env c fs e
   rw[e];exact fun A' H' σ' st k aa s' e C dct I O x hf ak=>L7 I.unpls x rfl ak (q C dct H' k.h0 O (hf.mono (M7 k.ra)))
  ·exact q.elim
 ·exact q.elim
structure MA (P:Program) (w:World) (K:JT) (mg:KB) (base:Heap) (k:Nat) (x:Str) (ps:List Str) (fr:Bool) (F:List Dat->Rs):Prop where
 ex:∃ f fd,KH P w K mg base Ht k f fd ps (VZ K fr ps.length F)/\mg x=some (.ref f)/\PySem.W.keepIn K (.ref f)=true/\Si K fd ps []
 len:∀ ds d,F ds=.ok d->ds.length=ps.length
theorem MA.d{x:Str}(C:MA P w K mg base k x ps fr F):G' P w K mg base k x ps fr F:=by
 obtain⟨f,fd,i,r⟩:=C.ex;exact⟨⟨f,fd,i.x,r⟩,C.len⟩
theorem KY.okN{x:Str}{st:C5}{f:A4}(F:KY K x ai st f fd)(S:FnScope N ps (Z6 st))(len:∀ vs H Q E,sp vs H Q E->vs.length=ps.length)
  (a:∀ (ah:A2) (A:C1) (outer:C3 IA) (s:C0) (H:Hp) (vs:C3 V) (Q:VK) (E:XK),JS k (A.deeper (envOfC ai (Z6 st) s.heap.objs.size f ah))->PQ (G9 Ht P w K mg base N ai (Z6 st) f ah A outer s H E).nox->sp vs H Q E ->
   ∃ t,Gr (G9 Ht P w K mg base N ai (Z6 st) f ah A outer s H E).nox (Yk st) t/\t { nx:=fun _ H'=>Q .non H',rt:=Q } (JU N vs) H):KH P w K mg base Ht (k+1) f fd ps sp:=by
 obtain⟨oc,od,kV,au,pm,an,ah,ct,j,rfl,lk,M⟩:=F.ex;refine mH lk M S len fun A outer s H vs Q E Z Y i=>?_
 obtain⟨t,h,q⟩:=a ah A outer s H vs Q E Z (PQ.of (X:=(G9 Ht P w K mg base N ai (Z6 st) f ah A outer s H E).nox) Y rfl) i;exact⟨t,h.nox,q⟩
theorem nJ{x:Str}{st:C5}(D:JZ K mg x st)(S:FnScope N ps (Z6 st))
  (b:∀ (kV au pm:A2) (an:C2 A4) (ah ct:A2) (us:C3 A2),us.length=ps.length->bindArgs (PySem.W.fnOf x x (U9 st) (Yk st) (Z6 st) .none kV au pm an ah ct) ⟨us,[]⟩=pure (ps.zip us))
  (U:∀ (f:A4) (ah:A2) (A:C1) (outer:C3 IA) (s:C0) (H:Hp) (E:XK),JS k (A.deeper (envOfC x (Z6 st) s.heap.objs.size f ah))->PQ (G9 Ht P w K mg base N x (Z6 st) f ah A outer s H E).nox->Oe fr (G9 Ht P w K mg base N x (Z6 st) f ah A outer s H E).nox (Yk st) g) :
  MA P w K mg base (k+1) x ps fr (Yg N.length ps.length g):=by
 have af:ps.length<=N.length:=by have:=CV List.length S.pre;rw[CJ] at this;lia
 obtain⟨f,fd,F,hm⟩:=D.ex;refine⟨⟨f,fd,F.okN S (fun vs H Q E h=>h.1) fun ah A outer s H vs Q E Z hh ⟨hl,ds,R,d,mu,r,hF,q⟩=>⟨_,U f ah A outer s H E Z hh,?_⟩,hm,F.kp,F.binds b⟩,fun ds d h=>ci h⟩;exact X5 af mu r hF q
end
section
variable{x:Str}
theorem bx(C:MA X.prog X.w X.K X.mg X.base k x ps fr F)(Z:JS k X.A)(hh:NQ X)(ha:Om false X (e::es) fs)(hg:Gl X x:=by rfl)
  (P:(x==("__debug__" : Str))=false:=by decide) (he:starEach (e::es) X.env=(false,eval e X.env)::starEach es X.env:=by rfl) (af:(backTo pos (starEach es X.env)).any (·.1)=false:=by rfl) :
  Wm m X (.Call (.Name x p) (e::es) [] pos) (Zr F fs):=by
 obtain⟨f,fd,i,hm,Y,U⟩:=C.ex;have ag:=eP (dvs:=[]) (ds:=[]) (E:=E0) i Z hh hg hm Y U .nil bO ha P he af (p:=p);have a:PE X (.Call (.Name x p) (e::es) [] pos) (ZH (VZ X.K fr ps.length F) (fun σ H Q=>∃ env R A ds,F' X.K R A H σ env/\fs env=some ds/\∀ vs H',Zu H H'->LB false X.K A H' ds vs->Q vs H')):=fun aa s σ H Q I h=>ag aa s σ H Q I (by
  unfold SV;simp only[FF];exact h)
 refine Wm.any (a.weak fun σ H Q ⟨env,R,A,d,k,q1,q2⟩=>?_);obtain⟨ds,e1,e2⟩:=bind_some q1;have e3:=X0 e2;refine⟨env,R,A,ds,k,e1,fun vs H1 s1 rs=>⟨by rw[Y0 rs.rps];exact C.len ds d e3,ds,A,d,k.mu.mono s1,rs.rps,e3,fun v H' s r _=>q2 v H' (s1.trans s) r⟩⟩
end
variable{P:Str->A4->Prop}{b1 b2:C5}{T1 T2 q:Str}{l:C3 (Str×A4)}
structure XMakeN (P:Program) (w:World) (K:Frag) (mg:KB) (base:Heap) (k:Nat) (c:Str) (p:Nat) (G:List Dat->Option (List (Str×XD))):Prop where
 ex:∃ C fI D fd ps,Wg K c C/\mg c=some (.ref C)/\keepIn K (.ref C)=true/\Dd K C fI D=true/\J3 K C/\isFn K (.ref fI)=true/\KH P w K mg base Ht k fI fd ps (NB K C p G)/\Si K fd ps []
 len:∀ ds fl,G ds=some fl->ds.length=p
 few:p<=10
theorem XMakeN.x{P:Ff}{w:Fn}{K:Frag}{mg:KB}{base:Gf}{k:Nat}{c:Str}{p:Nat}{G:C3 Dat->C2 (C3 (Str×XD))}(M:XMakeN P w K mg base k c p G):J' P w K mg base k c p G:=by
 obtain⟨C,fI,D,fd,ps,h1,h2,h3,h4,h5,h6,h7,h8⟩:=M.ex;exact⟨⟨C,fI,D,fd,ps,h1,h2,h3,h4,h5,h6,h7.x,h8⟩,M.len,M.few⟩
section
variable{P:Ff}{K:Frag}
theorem dD{x:Str}{st:C5}{f:Str}{r:TJ}(F:KY K "__init__" ai st fI fd)(S:FnScope ["self",x] ["self",x] (Z6 st))(hx:Dd K C aB D=true)(xc:J3 K C)(hf:findIn K (.ref C) f=some none)
  (U:∀ (ah:A2) (A:C1) (outer:C3 IA) (s:C0) (H:Hp) (E:XK),JS k (A.deeper (envOfC ai (Z6 st) s.heap.objs.size fI ah)) ->
   Gr (G9 Ht P w K mg base ["self",x] ai (Z6 st) fI ah A outer s H E).nox (Yk st) (Pt (QV (QR K (D6 (Sx 0) (D6 (Ou r) Bi)))) (UH K (Sx 0) (QJ (RS K) (D6 (Sx 1) Bi)) f)))
  (hj:∀ (H:Hp) (e a:A4) (ns:C3 Int),SL K H a (ns.map V.int)->Ex ns->OD 0 [some (.ref e),some (.ref a)] H r) :
  KH P w K mg base Ht (k+1) fI fd ["self",x] (NB K C 1 (gW f)):=by
 refine F.okN S (fun vs H Q E ⟨e,ws,ds,R,fl,ev,hl,_⟩=>by rw[ev,BC,hl];rfl) fun ah A outer s H vs Q E Z hh ⟨e,ws,ds,R,fl,ev,hl,he,mu,re,rs,hG,q⟩=>⟨_,U ah A outer s H E Z,?_⟩
 subst ev;unfold gW at hG;split at hG
 ·rename_i xs
  obtain⟨ns,hn,hG⟩:=bind_some hG;split at hG
  ·rename_i hs
   cases hG;have hs:=Gx hs;obtain⟨v,r',e1,r1,r2⟩:=Zw rs;have e2:=Yz r2;subst e1 e2;obtain⟨a,us,e3,hS,N⟩:=Rl r1;rw[Mi hn] at N;have e4:=Vo N;subst e3 e4;have t:SL K H a (ns.map V.int):=W5.sl hS;show Pt _ _ _ [some (.ref e),some (.ref a)] H;refine⟨.ref e,rfl,?_⟩;refine hj H e a ns t hs Str.empty _ (by decide) fun z=>?_
   refine⟨e,C,none,.str z,aB,D,rfl,he,hx,?_⟩;refine⟨.ref a,rfl,a,ns.map V.int,rfl,.inl t.sq,fun l d=>?_⟩;have B:l≠e:=fun z=>by rw[z,he] at d;cases d
   refine⟨.ref e,rfl,e,C,none,aB,D,rfl,by rw[Zd (AO B)];exact he,hx,xc,hf,fun dx p n=>?_⟩;have u:dx≠l:=fun z=>by rw[z,Zk] at p;cases p
   have I:H dx=none:=by rw[Zd u] at p;exact p
   have L:∀ {b:A4},H b=none->R b=false:=fun {b} z=>by
    cases y:R b with
    | false=>rfl
    | true=>obtain⟨o,J⟩:=(mu b y).some;rw[z] at J;cases J
   refine q _ (some dx) (fun c o O h=>?_) ?_ ?_ (Xo I Zk fun g a hm=>by simp at hm;obtain⟨_,rfl⟩:=hm;exact⟨d,_,by rw[Zd (AO u),Zd B,Zk]⟩)
   ·have c1:c≠dx:=fun z=>by rw[z,I] at h;cases h
    have c2:c≠l:=fun z=>by rw[z,d] at h;cases h
    rw[Zd c1,Zd O,Zd c2];exact h
   ·rw[Zd (AO n),Zk]
   ·refine⟨[(f,.ref l)],V8 Zk (L I),fun g=>?_⟩
    by_cases eg:g=f
    ·subst eg
     refine .inr ⟨.nums ns,.ref l,by simp[List.lookup],by simp[List.lookup],l,rfl,.inl (.inl (V8 ?_ (L d))),?_⟩
     ·rw[Zd (AO u),Zd B,Zk]
     ·exact DW (T9 (by have:=hs.1;lia))
    ·have e':(g==f)=false:=by simpa using eg
     exact .inl ⟨by simp[List.lookup,e'],by simp[List.lookup,e']⟩
  ·cases hG
 ·cases hG
end
theorem ek{K:Frag}{A:AS}(h:K' K H dct fl)(n:Ct H0 H dct)(t:∀ b,H0 b=none->A b=false):K' K (av H A) dct fl:=by
 cases dct with
 | none=>exact h
 | some dx =>
  obtain⟨j,e1,e2⟩:=h;refine⟨j,V8 e1 (t _ (n dx rfl).1),fun f=>(e2 f).imp id fun⟨d,v,a,b,c⟩=>⟨d,v,a,b,?_⟩⟩;cases d with
  | int i=>exact c
  | nums is =>
   obtain⟨J,z1,z2,z3⟩:=c;subst z1;have hn:=t _ (((n dx rfl).2 j f J e1 b).1);refine⟨J,rfl,?_,z3⟩;rcases z2 with(z | ⟨o,z⟩) | z
   ·exact .inl (.inl (V8 z hn))
   ·exact .inl (.inr ⟨o,V8 z hn⟩)
   ·exact .inr z
def Lf(F:C3 Dat->Rs):C3 Dat->Rs:=fun ds=>match F ds with
 | .ok d=>if RU d=true then .ok d else .no
 | r=>r
section
variable{x:Str}
theorem iB(C:JY X.prog X.w X.K X.mg X.base k x ps fr F pl)(Z:JQ k X.A)(ha:Om true X (e::es) fs)(hg:Gl X x:=by rfl)
  (P:(x==("__debug__" : Str))=false:=by decide) (he:starEach (e::es) X.env=(false,eval e X.env)::starEach es X.env:=by rfl) (af:(backTo pos (starEach es X.env)).any (·.1)=false:=by rfl) (hp:X.pl=true->pl=true:=by first | exact fun _=>rfl | exact fun z=>nomatch z) :
  PE X (.Call (.Name x p) (e::es) [] pos) (PR X fr (Lf F) fs):=by
 obtain⟨f,fd,i,hm,Y,U⟩:=C.ex;intro aa s σ H Q I ⟨env,B,A,ds,kk,e1,q⟩;refine CQ (Uj I hg hm ?_ P);refine GJ (h₀:=X.base) I.ok.mod.kin Y (Vk (ha pos aa s σ H (fun vs H1=>Zu H H1/\Wr X.K H1 ds vs) I ⟨env,B,A,ds,kk,e1,fun vs H1 s1 rs=>⟨s1,rs.full⟩⟩) fun us s1 ⟨vs,H1,I1,r,sm,rs⟩=>⟨I1.kIn,?_⟩) he af;have ac:F ds≠.no:=fun z=>by unfold Lf at q;rw[z] at q;exact q
 have hl:us.length=ps.length:=by rw[← r.length,Y0 rs];exact C.len ds ac
 let E:XK:=fun cls dct H'=>∃ c fl C,F ds=.exc c fl/\cls=.ref C/\Wg X.K c C/\Zu H1 H'/\K' X.K H' dct fl
 refine FV (EW (i.run X.A X.stack s1 H1 ⟨us,[]⟩ us vs Q E Z I1.env0 (by simpa using U s1 us I1.kIn (by simpa using hl)) r ⟨by rw[Y0 rs];exact C.len ds ac,ds,no,(fun a h=>by cases h),by rw[TF];exact rs,?_⟩) fun l s' hq=>?_)
 ·unfold RN
  split
  ·rename_i d hd
   unfold Lf at q;rw[hd] at q;dsimp only at q;split at q
   ·rename_i d' hq
    split at hq
    ·rename_i G
     cases hq;exact fun v H' s2 r2 _=>q v H' (sm.trans s2) (by rw[TF] at r2;exact Rp.pure (kk.mu.mono (sm.trans s2)) G r2)
    ·cases hq
   ·rename_i hq
    split at hq<;>cases hq
   ·exact q.elim
  ·rename_i c fl hd
   exact fun C dct H' s2 O hf=>⟨c,fl,C,hd,rfl,O,s2,by rw[TF] at hf;exact hf⟩
  ·rename_i hd
   exact ac hd
 ·cases l with
  | error ev =>
   obtain⟨ex,C,dct,T,H',c2,rfl,J,m,un,hok,h1,h2,h3,h4,ht,D,ak,c,fl,g,hF,n,O,j,hf⟩:=hq;cases n;unfold Lf at q;rw[hF] at q;have I2:C' X aa σ H' s':=I1.call' (ch:=[]) J un hok m (fun b z=>absurd z (by simp));have sz:X.s₀.heap.objs.size<=s1.heap.objs.size:=I1.sz;have np:∀ {a:A4},s1.heap.objs.size<=a->∀ p∈X.pn++aa,p.1≠a:=fun {a} ha p hp z=>by
    have:=(I1.pin p hp).1;rw[z] at this;exact absurd (AR this) (EN.mpr ha)
   have t:∀ b,H1 b=none->A b=false:=fun b z=>by
    cases y:A b with
    | false=>rfl
    | true=>obtain⟨o,J⟩:=(kk.mu.mono sm b y).some;rw[z] at J;cases J
   exact q A H' σ (JN.same (sm.trans j)) (kk.mono (sm.trans j)) rfl aa s' ex C dct I2 O ⟨AZ sz h1,h3,.inr ⟨T,c2,AZ sz h2,h4,np h2,ht,fun z=>D (hp z)⟩,np h1⟩ (ek hf ak t) (ak.mono fun b z=>kk.h0.none (sm.none z))
  | ok fl =>
   cases fl with
   | ret u=>exact I1.after hq
   | next=>exact False.elim hq
   | brk=>exact False.elim hq
   | cont=>exact False.elim hq
end
theorem JS.make(r:JS (k+1) A)(C:A4)(us:C3 A2)(kw:C3 (Str×A2)):JS k (A.under (.builtin "type.__call__" ⟨.ref C::us,kw⟩)) :=
 ⟨by have:=r.dp;rw[Xy];lia,by have:=r.un;rw[Xc];lia,r.gd⟩
abbrev Cx.inR(X:Cx)(pn:J1)(e:A4):Cx:={ X with A:=X.A.mark (some (.ref e)),calm:=false,pn:=pn }
theorem gX{e:A4}{ve:Array A2}(j:X.stack=X.env::X.outer/\X.env.frame=some X.env.locals)(hm:(e,oe)∈pn)(hd:oe.data=.fields ve)(h2:ve[2]?=some .none):NQ (X.inR pn e):=fun aa σ H s I=>by
 obtain⟨a,b,c,d,_⟩:=I.pin (e,oe) (BS _ hm);refine .inr ⟨e,oe,ve,rfl,a,hd,h2,b,fun z=>?_⟩;have z:e∈He X.stack:=z;rw[j.1] at z;unfold He at z;rw[EE,j.2] at z;rcases BI.mp z with z | z
 ·exact c z
 ·exact d z
section
variable{aV:Pos}{n:Nat}{c:Str}
theorem j4{B:Bs}{A:AS}(M:XMakeN X.prog X.w X.K X.mg X.base k c n G)(Z:JS (k+1) X.A)(hh:NQ X)
  (I:C' X aa σ H s) (kk:F' X.K B A H σ env) (r:Y5 vs us) (rs:Wr X.K (av H A) ds vs) (hG:G ds=some fl) {C fI D:A4} (ai:Wg X.K c C) (hx:Dd X.K C fI D=true) {fd:Df} {ps:C3 Str} (am:isFn X.K (.ref fI)=true) (F:KH X.prog X.w X.K X.mg X.base Ht k fI fd ps (NB X.K C n G)) (U:Si X.K fd ps []) :
  wpAny (model X.prog X.w) X.A (call (.ref C) us) (fun v s'=>∃ ex t dct H',v=.ref ex/\s'.heap.get? ex=some { cls:=.ref C,dict:=dct,data:=.fields #[.ref t,.none,.none,.none,.bool false,.none] }/\C' X aa σ H' s'/\Zu H H'/\X.s₀.heap.objs.size<=ex/\H' ex=none/\(∀ p∈X.pn++aa,p.1≠ex)/\K' X.K (av H' A) dct fl/\s.heap.objs.size<=ex/\Ct B.H₀ H' dct) E s:=by
 obtain⟨nm,qn,N,bs,sn,sub,ab,col,dd,k0,k1,k2,k3,k5,mN,hC,hN,hi,T⟩:=Xa I.kIn hx;have f:∃ m,s.heap.get? fI=some m/\m.cls=.type "function" := by
  have:=DC.mp am;obtain⟨m,h1,h2⟩:=Option.map_eq_some_iff.mp this;exact⟨m,I.kIn _ _ h1,h2⟩
 obtain⟨m,f,y⟩:=f;have ae:us.length<=sizeLine:=by
  have h1:=r.length;have h2:=Y0 rs;have h3:=M.len ds fl hG;have h4:=M.few;exact DW (T9 (by lia))
 obtain⟨hp,g,d,tk,os⟩:=s;refine Ph (hrest:=ae) DN (by decide) DN T hC hN hi f y fun h' ex j hm=>?_
 obtain⟨t0,P,_,_⟩:=hm.there;have ag:H ex=none:=I.hok.fresh j;have I2:C' X aa σ (W7 H ex (.ext (Hv ex C none))) ⟨h',g,d,tk,os⟩:=I.laid (h':=h') (t':=tk) (a:=ex) (o:=.ext (Hv ex C none)) hm.keeps j (Bc ⟨t0,P⟩);have x:A ex=false:=by
  cases z:A ex with
  | false=>rfl
  | true=>obtain⟨o,J⟩:=(kk.mu ex z).some;rw[ag] at J;cases J
 have h:Zu H (W7 H ex (.ext (Hv ex C none))):=K3 ag;let Y:VK:=fun v H'=>v=.non/\∃ dct,(∀ c o,c≠ex->W7 H ex (.ext (Hv ex C none)) c=some o->H' c=some o)/\H' ex=some (.ext (Hv ex C dct))/\K' X.K (av H' A) dct fl/\Ct (W7 H ex (.ext (Hv ex C none))) H' dct
 have i:NB X.K C n G (.ref ex::vs) (W7 H ex (.ext (Hv ex C none))) Y E0:=⟨ex,vs,ds,A,fl,rfl,by rw[Y0 rs];exact M.len ds fl hG,Zk,kk.mu.mono h,x,rs.mono (Vj h),hG,fun H' dct h1 h2 h3 h4=>⟨rfl,dct,h1,h2,h3,h4⟩⟩;have W:(Value.ref ex::us).length=ps.length:=by
  have e1:=F.len _ _ _ _ i;have e2:=r.length;rw[BC] at e1 ⊢;lia
 refine FV (EW (F.run _ X.stack ⟨h',g,d,tk,os⟩ _ ⟨Value.ref ex::us,[]⟩ (Value.ref ex::us) (V.ref ex::vs) Y E0 (Z.make C us []) (hh _ _ _ _ I2) (I2.env0.make C us []) (by simpa using U _ (Value.ref ex::us) I2.kIn (by simpa using W)) (.cons rfl r) i) fun l s' hq=>?_);cases l with
 | error e=>exact False.elim hq
 | ok au =>
  cases au with
  | ret u =>
   obtain⟨v,H',I3,L,ev,dct,h1,h2,h3,h4⟩:=I2.after hq;subst ev;have R:u=.none:=L;subst R;refine⟨rfl,?_⟩;obtain⟨⟨S,ak⟩,_,_⟩:=(show V2 X.prog X.w H' s'.heap ex (.ext (Hv ex C dct)) from I3.hok ex _ h2);have I4:=I3.drop h2;have sm:Zu H (L1 H' ex):=fun b o q=>by
    have U:b≠ex:=fun z=>by rw[z,ag] at q;cases q
    rw[G5 U];exact h1 b o U (by rw[Zd U];exact q)
   refine⟨ex,S,dct,L1 H' ex,rfl,ak,I4,sm,AZ I.sz j,Kj,fun p hp z=>?_,?_,j,cx h4 ⟨_,h2⟩ kk.h0⟩
   ·have:=(I.pin p hp).1
    rw[z] at this;exact absurd (AR this) (EN.mpr j)
   ·exact h3.of_ne (e:=ex) (V8 h2 x) fun c o O q=>V8 (by rw[G5 O];exact(Mu q).2) (Mu q).1
  | next=>exact False.elim hq
  | brk=>exact False.elim hq
  | cont=>exact False.elim hq
theorem ZJ(M:XMakeN X.prog X.w X.K X.mg X.base k c n G)(Z:JS (k+1) X.A)(hh:NQ X)(ha:Om false X (e::es) fs)(hn:X.A.handled≠none)(d:X.pl=false:=by rfl)(j:X.stack=X.env::X.outer:=by rfl)(hg:Gl X c:=by rfl)(P:(c==("__debug__" : Str))=false:=by decide)
  (he:starEach (e::es) X.env=(false,eval e X.env)::starEach es X.env:=by rfl) (af:(backTo al (starEach es X.env)).any (·.1)=false:=by rfl) {u:Nat}:Ir fr X (.Raise (some (.Call (.Name c p) (e::es) [] al)) (some (.Constant .none u aV)) pos) (U1 c G fs):=by
 intro aa s σ H D I ⟨env,B,A,kk,l,q⟩;obtain⟨C,fI,D',fd,ps,ai,hm,a,hx,xc,am,F,U⟩:=M.ex;unfold U1 at q;split at q
 ·exact q.elim
 rename_i fl aj;obtain⟨ds,e1,hG⟩:=bind_some aj;obtain⟨nm,qn,N,bs,sn,sub,ab,col,dd,k0,k1,k2,k3,k5,mN,hC,hN,hi,T⟩:=Xa I.kIn hx;obtain⟨h,W⟩:∃ h,X.A.handled=some (.ref h):=by
  rcases hh _ _ _ _ I with z | ⟨h,_,_,z,_⟩
  ·exact absurd z hn
  ·exact⟨h,z⟩
 have ag:wpAny (model X.prog X.w) X.A (eval (.Call (.Name c p) (e::es) [] al) X.env) (fun v s'=>∃ ex t dct H',v=.ref ex/\s'.heap.get? ex=some { cls:=.ref C,dict:=dct,data:=.fields #[.ref t,.none,.none,.none,.bool false,.none] }/\C' X aa σ H' s'/\Zu H H'/\X.s₀.heap.objs.size<=ex/\H' ex=none/\(∀ p∈X.pn++aa,p.1≠ex)/\K' X.K (av H' A) dct fl/\h≠ex/\Ct B.H₀ H' dct) X.xe s:=by
  refine CQ (Uj I hg hm ?_ P);refine callWith_K (h₀:=X.base) I.ok.mod.kin a (Vk (ha al aa s σ H (fun vs H1=>Zu H H1/\Wr X.K (av H1 A) ds vs) I ⟨env,B,A,ds,kk,e1,fun vs H1 s1 rs=>⟨s1,rs.rps⟩⟩) fun us s1 ⟨vs,H1,I1,r,sm,rs⟩=>⟨I1.kIn,?_⟩) he af;refine BM (j4 (E:=X.xe) M Z hh I1 (kk.mono sm) r rs hG ai hx am F U) (fun v s' ⟨ex,t,dct,H',z1,z2,z3,z4,z5,z6,z7,z8,z9,g⟩=>⟨ex,t,dct,H',z1,z2,z3,sm.trans z4,z5,z6,z7,z8,fun z=>?_,g⟩) fun _ _ z=>z
  rcases hh _ _ _ _ I1 with y | ⟨h',_,_,y,y1,_⟩
  ·exact hn y
  ·rw[W] at y
   cases y;have:=AR y1;rw[z] at this;exact absurd this (EN.mpr z9)
 obtain⟨o,lk⟩:∃ o,X.K.lookup C=some o:=by
  unfold Dd at hx;split at hx
  ·rename_i J;exact⟨_,J⟩
  ·cases hx
 have e2:=(I.kIn _ _ lk).symm.trans hC;cases e2;rw[JE];refine AA (CW (fP (C:=C) (nm:=nm) (q:=qn) (N:=N) (bs:=bs) (bm:=.ref D'::Mw) (hdct:=true) (sn:=sn) (sub:=sub) (ab:=ab) (col:=col) (dd:=dd) (k0:=k0) (k1:=k1) (k2:=k2) (k3:=k3) (k5:=k5) (newId:="ValueError.__new__") (by simp[Mw]) W (AA (BM ag (fun v s₃ h₃=>AA (CW (AK ?_))) fun _ _ x=>x))));obtain⟨ex,t,dct,H',rfl,hex,I3,sm,lo,un,pe,hf,ac,ak⟩:=h₃;obtain⟨f,vh,aL,aS,i⟩:∃ f vh,s₃.heap.get? h=some f/\f.data=.fields vh/\vh[2]?=some .none:=by
  rcases hh _ _ _ _ I3 with y | ⟨h',f,vh,y,y1,y2,y3,_⟩
  ·exact absurd y hn
  ·rw[W] at y
   cases y;exact⟨f,vh,y1,y2,y3⟩
 have R:ex≠X.env.locals/\∀ y c,X.env.cells.lookup y=some c->c≠ex:=by
  refine⟨fun z=>?_,fun y c O z=>?_⟩
  ·obtain⟨m,⟨o',es,ep,S,ah,_⟩,_⟩:=I3.loc
   rw[z,S] at hex;cases hex;cases ah
  ·obtain⟨v,o',S,ah⟩:=I3.cell y c O
   rw[z,hex] at S;cases S;cases ah
 refine⟨ex,.ref t,dct,rfl,I3.kIn _ _ lk,hex,ac,⟨f,vh,aL,aS,i⟩,AA (wpAny_Constant_none (AA (CW (AK ⟨rfl,rfl,fun h' Y ae hz=>?_⟩))))⟩;have L:∀ b∈He (X.env::X.outer),H' b=none:=by rw[← j];exact I3.stkFree
 have kp:O5 (X.env::X.outer) [ex] s₃.heap h':=O5.of fun b o U O=>(Y b (by simpa using O)).trans U
 have Q:∀ b∈[ex],b=ex:=fun b U=>AL.mp U
 have I4:C' X aa σ H' { s₃ with heap:=h' }:=I3.call' (s':={ s₃ with heap:=h' }) (ch:=[ex]) rfl (by rw[j];exact Et kp fun b U=>by rw[Q b U];exact un) (Jv I3.hok kp (fun b U=>by rw[Q b U];exact un) L) I3.bare fun b U=>by rw[Q b U];exact⟨.inr lo,R.1,R.2,pe⟩
 exact q A H' σ (JN.same sm) (kk.mono sm) aa { s₃ with heap:=h' } ex C dct I4 ai ⟨lo,un,.inl ⟨_,_,ae,rfl,rfl,rfl,rfl,fun z=>by rw[d] at z;cases z⟩,pe⟩ hf ak
end
def P'(K:Frag)(mg:KB)(T:Str)(known:C3 Str):Prop:=∃ D,mg T=some (.ref D)/\∀ c C,c∈known->Wg K c C->exmOne K (.ref C) (.ref D)=some (decide (c=T))
def VD:Fl->Fl
 | .exc e c f=>.exc e c f
 | _=>.no
def SG(known:C3 Str)(T1 T2:Str)(g k1 k2:Ev->Fl):Ev->Fl:=fun env=>match g env with
 | .exc env' c fl=>if c∈known then(if c=T1 then VD (k1 env') else if c=T2 then VD (k2 env') else .no) else .no
 | r=>r
theorem C'.ofR{e:A4}(ok:X.Ok)(hs:∀ p∈X.pn++aa,p∈pn)(I:C' (X.inR pn e) ay σ H s):C' X aa σ H s :=
 ⟨ok,I.os,I.bare,I.base,I.loc,I.cell,I.free,I.freeC,fun p hp=>I.pin p (BS _ (hs p hp)),I.hok,I.len⟩
theorem SP.ofR{D:KG}{f:Flow}{e:A4}(ok:X.Ok)(hs:∀ p∈X.pn++aa,p∈pn)(h:SP (X.inR pn e) [] D f s):SP X aa D f s:=by
 cases f with
 | next=>obtain⟨σ',H',I,q⟩:=h;exact⟨σ',H',I.ofR ok hs,q⟩
 | brk=>obtain⟨σ',H',I,q⟩:=h;exact⟨σ',H',I.ofR ok hs,q⟩
 | cont=>obtain⟨σ',H',I,q⟩:=h;exact⟨σ',H',I.ofR ok hs,q⟩
 | ret u=>obtain⟨v,σ',H',I,r,q⟩:=h;exact⟨v,σ',H',I.ofR ok hs,r,q⟩
theorem nF(hp:∀ e,PassesOwnAt (model X.prog X.w) (X.A.mark (some (.ref e))) X.A X.env X.xe)(U:∀ pn E,Oe fr ((X.inTry pn E).pls true) body g)
  (h1:∀ pn e,NQ (X.inR pn e)->Oe fr (X.inR pn e) (b1::aG) k1) (a6:∀ pn e,NQ (X.inR pn e)->Oe fr (X.inR pn e) (b2::aQ) k2) (c1:P' X.K X.mg T1 known) (c2:P' X.K X.mg T2 known)
  (aL:Gl X T1:=by rfl) (n:(T1==("__debug__" : Str))=false:=by decide) (aS:Gl X T2:=by rfl) (a0:(T2==("__debug__" : Str))=false:=by decide)
  (j:X.stack=X.env::X.outer/\X.env.frame=some X.env.locals:=by exact⟨rfl,rfl⟩) :
  Ir fr X (.Try body [.ExceptHandler (some (.Name T1 aR)) none (b1::aG) aF,.ExceptHandler (some (.Name T2 aZ)) none (b2::aQ) aN] [] [] pos) (SG known T1 T2 g k1 k2):=by
 obtain⟨D1,m1,x1⟩:=c1;obtain⟨D2,m2,x2⟩:=c2;intro aa s σ H D I ⟨env,B,A,kk,l,q⟩;let HS:C3 ExceptHandler:=[.ExceptHandler (some (.Name T1 aR)) none (b1::aG) aF,.ExceptHandler (some (.Name T2 aZ)) none (b2::aQ) aN]
 let EX:A2->C0->Prop:=fun ev s₁=>wpAny (model X.prog X.w) X.A (noteFrame ev X.env) (fun _ s₂=>wpAny (model X.prog X.w) X.A (setFlight ev none) (fun _ s₃=>wpAny (model X.prog X.w) X.A (handleBy ev X.env HS) (SP X aa D) X.xe s₃) X.xe s₂) X.xe s₁
 have aD:Hq fr ((X.inTry (X.pn++aa) EX).pls true) B A H D (g env):=by
  unfold SG at q;cases eg:g env with
  | next e'=>rw[eg] at q;exact q
  | brk e'=>rw[eg] at q;exact q
  | cont e'=>rw[eg] at q;exact q
  | ret d=>rw[eg] at q;exact q
  | no=>rw[eg] at q;exact q
  | exc env' c fl =>
   rw[eg] at q;dsimp only at q;split at q
   case isFalse=>exact q.elim
   rename_i ae;intro A1 H1 σ1 aC aj ay s1 e C dct I1 ai x az a5;have G:C' X aa σ1 H1 s1:=I1.unpls.ofTry I.ok;have ag:X.A.frames=some (X.env::X.outer):=by rw[← j.1];exact G.ok.frames
   have hl:s1.heap.FunFrames X.base (X.env::X.outer):=by rw[← j.1];exact G.stack
   have t:X.base.StaysIn s1.heap:=G.bk;have ac:X.base.get? e=none:=G.noBase x.lo;have L:∀ b∈He (X.env::X.outer),H1 b=none:=by rw[← j.1];exact G.stkFree
   have ar:∀ {a:A4},(∀ p∈(X.inTry (X.pn++aa) EX).pn++ay,p.1≠a)->∀ p∈X.pn++aa,p.1≠a:=fun {a} z p hp=>z p (BS _ hp)
   have R:∀ {s1:C0} (G:C' X aa σ1 H1 s1) {a:A4} {o:Obj} {vs:Array A2},s1.heap.get? a=some o->o.data=.fields vs->a≠X.env.locals/\∀ y c,X.env.cells.lookup y=some c->c≠a:=fun {s1} G {a o vs} J hd=>by
    refine⟨fun z=>?_,fun y c O z=>?_⟩
    ·obtain⟨m,⟨o',es,ep,S,ah,_⟩,_⟩:=G.loc
     rw[z,S] at J;cases J;rw[hd] at ah;cases ah
    ·obtain⟨v,o',S,ah⟩:=G.cell y c O
     rw[z,J] at S;cases S;rw[hd] at ah;cases ah
   -- a aw
   have aw:∀ (b₀:C5) (su:C3 C5) (P:Pos) (kf:Ev->Fl) (hh:∀ pn e,NQ (X.inR pn e)->Oe fr (X.inR pn e) (b₀::su) kf) (qf:Hq fr X B A H D (VD (kf env'))) (h2:Gf) (F:A4),s1.heap.objs.size<=F->X.base.StaysIn h2->h2.FunFrames X.base (X.env::X.outer)->Kc h2 X.base e F (.ref C,some .none) dct .none->C' X aa σ1 H1 { s1 with heap:=h2 } ->
     codeAny (model X.prog X.w) (X.A.mark (some (.ref e))) (.handlers (.ref e) [.ExceptHandler none none (b₀::su) P] X.env) (fun r s₂=>match r with
      | .ok f=>SP X aa D f s₂
      | .error x=>cameBackBy (model X.prog X.w) X.A X.env X.xe x s₂) { s1 with heap:=h2 }:=by
    intro b₀ su P kf hh qf h2 F am aA aB ap J2;obtain⟨oe,ve,oT,ts,g1,g2,g3,g4,g5,g6,g7,g8,g9,aH⟩:=id ap;refine codeAny_handlers_suite ?_;refine Ey (s:={ s1 with heap:=h2 }) aA aB ap fun h3 y1 y2 aO y4 y5=>?_
    have aI:O5 (X.env::X.outer) [F] h2 h3:=.of fun b o U O=>y4 b o U O
    have al:H1 F=none:=G.hok.fresh am;have aJ:=R J2 g8 g9;have ax:∀ p∈X.pn++aa,p.1≠F:=fun p hp z=>by
     have:=(G.pin p hp).1;rw[z] at this;exact absurd (AR this) (EN.mpr am)
    have ao:∀ b∈[F],b=F:=fun b U=>AL.mp U
    have Z:C' X aa σ1 H1 { s1 with heap:=h3 }:=J2.call' (s':={ s1 with heap:=h3 }) (ch:=[F]) rfl (by rw[j.1];exact Et aI fun b U=>by rw[ao b U];exact al) (Jv J2.hok aI (fun b U=>by rw[ao b U];exact al) L) J2.bare fun b U=>by rw[ao b U];exact⟨.inr (AZ G.sz am),aJ.1,aJ.2,ax⟩
    obtain⟨au,aP,_,_,e1,e2,e3,e4,_⟩:=id aO;have el:=R Z e1 e4;have h:aP[2]?=some .none:=(IC e2).2;have ak:e∉X.fs:=fun z=>by
     obtain⟨_,o,J,i⟩:=y2.mem (show e∈(X.env::X.outer).filterMap (·.frame) from by
      rw[EE,j.2];exact AX _ z)
     have J:h3.get? e=some o:=J;rw[e1] at J;cases J;exact i aP e4
    have hs:∀ p∈X.pn++aa,p∈X.pn++aa++[(e,au)]:=fun p hp=>BS _ hp
    have hm:(e,au)∈X.pn++aa++[(e,au)]:=BR _ (AL.mpr rfl);have J4:C' (X.inR (X.pn++aa++[(e,au)]) e) [] σ1 H1 { s1 with heap:=h3 } :=
     ⟨⟨Z.ok.mod,Z.ok.kind,Z.ok.glob,Z.ok.blt,Z.ok.above,Z.ok.inj,Z.ok.has,Z.ok.cab,(fun z=>nomatch z),Z.ok.frames,Z.ok.stk,Z.ok.exf,Z.ok.bs,Z.ok.bsz,Z.ok.noex,Z.ok.exfs,Z.ok.funs,Z.ok.frf⟩,Z.os,Z.bare,Z.base,Z.loc,Z.cell,Z.free,Z.freeC,fun p hp=>by
      rw[FF] at hp;rcases BQ.mp hp with hp | hp
      ·exact Z.pin p hp
      ·rw[AL.mp hp]
       exact⟨e1,x.un,el.1,ak,fun v z=>by rw[e4] at z;cases z⟩,Z.hok,Z.len⟩
    have aT:Hq fr (X.inR (X.pn++aa++[(e,au)]) e) B A1 H1 D (kf env'):=by
     have q2:=qf.step aC;cases N:kf env' with
     | exc e' c' f' =>
      rw[N] at q2;exact fun A' H' σ' s' k' aU s5 e5 k d5 I5 aV x5 aW aX=>q2 A' H' σ' s' k' aa s5 e5 k d5 (I5.ofR I.ok hs) aV ⟨x5.lo,x5.un,x5.ob.imp id fun⟨T,c2,a1,a2,a3,a4⟩=>⟨T,c2,a1,a2,fun p hp=>a3 p (BS _ (hs p hp)),a4⟩,fun p hp=>x5.pe p (BS _ (hs p hp))⟩ aW aX
     | next e'=>rw[N] at q2;exact q2.elim
     | brk e'=>rw[N] at q2;exact q2.elim
     | cont e'=>rw[N] at q2;exact q2.elim
     | ret d=>rw[N] at q2;exact q2.elim
     | no=>rw[N] at q2;exact q2.elim
    exact BM (hh (X.pn++aa++[(e,au)]) e (gX j hm e4 h) [] _ _ _ _ J4 ⟨_,B,A1,aj,l,aT⟩) (fun f s6 aY=>aY.ofR I.ok hs) (fun ev s6 z=>hp e ev s6 z)
   -- aM aK aE
   have after:∀ (h2:Gf) (F:A4) (ch:C3 A4),s1.heap.objs.size<=F->X.base.StaysIn h2->h2.FunFrames X.base (X.env::X.outer)->Kc h2 X.base e F (.ref C,some .none) dct .none->O5 (X.env::X.outer) ch s1.heap h2->(∀ b∈ch,H1 b=none/\X.s₀.heap.objs.size<=b/\b≠X.env.locals/\(∀ y c,X.env.cells.lookup y=some c->c≠b)/\∀ p∈X.pn++aa,p.1≠b) ->
     wpAny (model X.prog X.w) X.A (handleBy (.ref e) X.env HS) (SP X aa D) X.xe { s1 with heap:=h2 }:=by
    intro h2 F ch am aA aB ap kp Q;have J2:C' X aa σ1 H1 { s1 with heap:=h2 }:=G.call' (s':={ s1 with heap:=h2 }) (ch:=ch) rfl (by rw[j.1];exact Et kp fun b U=>(Q b U).1) (Jv G.hok kp (fun b U=>(Q b U).1) L) G.bare fun b U=>⟨.inr (Q b U).2.1,(Q b U).2.2.1,(Q b U).2.2.2.1,(Q b U).2.2.2.2⟩
    obtain⟨oe,ve,oT,ts,g1,g2,g3,g4,g5,g6,g7,g8,g9,aH⟩:=id ap;have g2:=(IC g2).1;have LT:Looks (model X.prog X.w) h2 (typeOf (.ref e)) (.ref C):=g2▸(Looks.ld g1).andThen .now;have e1:=x1 c C ae ai;have e2:=x2 c C ae ai;refine GC (FQ (Uj (J2.toH (e:=e)) aL m1 ?_ n)) (by intro z;cases z);by_cases z1:c=T1
    ·rw[AJ z1] at e1
     rw[AG z1] at q;exact(exm_one (M:=model X.prog X.w) J2.kIn LT e1).here (aw b1 aG aF k1 h1 q h2 F am aA aB ap J2)
    ·rw[AE z1] at e1
     rw[AQ z1] at q;refine(exm_one (M:=model X.prog X.w) J2.kIn LT e1).here ?_;show wpAny _ _ _ _ _ _;refine GC (FQ (Uj (J2.toH (e:=e)) aS m2 ?_ a0)) (by intro z;cases z);by_cases z2:c=T2
     ·rw[AJ z2] at e2
      rw[AG z2] at q;exact(exm_one (M:=model X.prog X.w) J2.kIn LT e2).here (aw b2 aQ aN k2 a6 q h2 F am aA aB ap J2)
     ·rw[AQ z2] at q
      exact q.elim
   show wpAny _ _ _ _ _ _;rcases x.ob with⟨o,vs,he,O,hd,aq,Y,af⟩ | ⟨T0,c2,hT,al,ax,ht,af⟩
   ·have h:=af rfl
    refine Ml ag hl j.2 he t ac aq Y fun h' F x0 x1 x2 x3 x4 x5=>?_
    refine Ey (s:={ s1 with heap:=h' }) x1 x2 x3 fun h2 y1 y2 y3 y4 y5=>?_
    rw[O,hd,h] at y3;refine after h2 F [e] x0 y1 y2 y3 (Mo x4 x0 y4) fun b U=>?_
    rw[AL.mp U];have z:=R G he aq;exact⟨x.un,x.lo,z.1,z.2,ar x.pe⟩
   ·have h:=af rfl
    subst h;refine RH ag hl j.2 ht t ac fun h' F x0 x1 x2 x3 x4 x5=>?_
    refine Ey (s:={ s1 with heap:=h' }) x1 x2 x3 fun h2 y1 y2 y3 y4 y5=>?_
    refine after h2 F [e,T0] x0 y1 y2 y3 (Mo x4 x0 y4) fun b U=>?_
    obtain⟨oe,ve,oT,ts,g1,g2,g3,g4,g5,g6,g7,g8,g9,aH⟩:=id ht;rcases BI.mp U with z | z
    ·rw[z];have w:=R G g1 g4;exact⟨x.un,x.lo,w.1,w.2,ar x.pe⟩
    ·rw[AL.mp z];have w:=R G g8 g9;exact⟨al,hT,w.1,w.2,ar ax⟩
 refine IV (BM (U (X.pn++aa) EX [] s σ H D I.toTry.pls ⟨env,B,A,kk,l,aD⟩) (fun f s₁ hs=>?_) (fun e s₁ hx=>hx));cases f with
 | next=>obtain⟨σ',H',I',W⟩:=hs;exact AK ⟨σ',H',I'.unpls.ofTry I.ok,W⟩
 | brk=>obtain⟨σ',H',I',W⟩:=hs;exact⟨σ',H',I'.unpls.ofTry I.ok,W⟩
 | cont=>obtain⟨σ',H',I',W⟩:=hs;exact⟨σ',H',I'.unpls.ofTry I.ok,W⟩
 | ret u=>obtain⟨v,σ',H',I',r',W⟩:=hs;exact⟨v,σ',H',I'.unpls.ofTry I.ok,r',W⟩
theorem i'{P:Ff}{K:Frag}{f:A4}{E:XK}(e:A4) :
  PassesOwnAt (model P w) ((NX P w K mg base N ai scope f cd A outer s H E).A.mark (some (.ref e))) (NX P w K mg base N ai scope f cd A outer s H E).A (NX P w K mg base N ai scope f cd A outer s H E).env (NX P w K mg base N ai scope f cd A outer s H E).xe :=
 cb (X:=Qq (LF P w base) P w K mg base N ai scope f cd A outer s H E) rfl ⟨rfl,rfl⟩
theorem gQ{K:Frag}(hm:mg T=some (.ref D))(h:∀ c∈ao,∃ C,Wg K c C/\exmOne K (.ref C) (.ref D)=some (decide (c=T))):P' K mg T ao:=by
 refine⟨D,hm,fun c C O U=>?_⟩;obtain⟨g,h1,h2⟩:=h c O;unfold Wg at U h1;rw[U] at h1;cases h1;exact h2
theorem JS.mark{v:C2 A2}(r:JS k A):JS k (A.mark v):=⟨r.dp,r.un,r.gd⟩
def UN(K:Frag)(mg:KB)(T:Str)(known:C3 Str)(b:Str->Bool):Prop:=∃ D,mg T=some (.ref D)/\∀ c C,c∈known->Wg K c C->exmOne K (.ref C) (.ref D)=some (b c)
def QS(known:C3 Str)(b1:Str->Bool)(g k1:Ev->Fl):Ev->Fl:=fun env=>match g env with
 | .exc env' c fl=>if c∈known then(if b1 c=true then k1 env' else .no) else .no
 | r=>r
section
variable{b1' b2':Str->Bool}
theorem gG(hp:∀ e,PassesOwnAt (model X.prog X.w) (X.A.mark (some (.ref e))) X.A X.env X.xe)(U:∀ pn E,Oe fr (X.inTry pn E) body g)
  (h1:∀ pn e,Oe fr (X.inR pn e) (b1::aG) k1) (c1:UN X.K X.mg T1 known b1')
  (aL:Gl X T1:=by rfl) (n:(T1==("__debug__" : Str))=false:=by decide)
  (j:X.stack=X.env::X.outer/\X.env.frame=some X.env.locals:=by exact⟨rfl,rfl⟩) :
  Ir fr X (.Try body [.ExceptHandler (some (.Name T1 aR)) none (b1::aG) aF] [] [] pos) (QS known b1' g k1):=by
 obtain⟨D1,m1,x1⟩:=c1;intro aa s σ H D I ⟨env,B,A,kk,l,q⟩;let HS:C3 ExceptHandler:=[.ExceptHandler (some (.Name T1 aR)) none (b1::aG) aF]
 let EX:A2->C0->Prop:=fun ev s₁=>wpAny (model X.prog X.w) X.A (noteFrame ev X.env) (fun _ s₂=>wpAny (model X.prog X.w) X.A (setFlight ev none) (fun _ s₃=>wpAny (model X.prog X.w) X.A (handleBy ev X.env HS) (SP X aa D) X.xe s₃) X.xe s₂) X.xe s₁
 have aD:Hq fr (X.inTry (X.pn++aa) EX) B A H D (g env):=by
  unfold QS at q;cases eg:g env with
  | next e'=>rw[eg] at q;exact q
  | brk e'=>rw[eg] at q;exact q
  | cont e'=>rw[eg] at q;exact q
  | ret d=>rw[eg] at q;exact q
  | no=>rw[eg] at q;exact q
  | exc env' c fl =>
   rw[eg] at q;dsimp only at q;split at q
   case isFalse=>exact q.elim
   rename_i ae;intro A1 H1 σ1 aC aj ay s1 e C dct I1 ai x az a5;have G:C' X aa σ1 H1 s1:=I1.ofTry I.ok;have ag:X.A.frames=some (X.env::X.outer):=by rw[← j.1];exact G.ok.frames
   have hl:s1.heap.FunFrames X.base (X.env::X.outer):=by rw[← j.1];exact G.stack
   have t:X.base.StaysIn s1.heap:=G.bk;have ac:X.base.get? e=none:=G.noBase x.lo;have L:∀ b∈He (X.env::X.outer),H1 b=none:=by rw[← j.1];exact G.stkFree
   have ar:∀ {a:A4},(∀ p∈(X.inTry (X.pn++aa) EX).pn++ay,p.1≠a)->∀ p∈X.pn++aa,p.1≠a:=fun {a} z p hp=>z p (BS _ hp)
   have R:∀ {s1:C0} (G:C' X aa σ1 H1 s1) {a:A4} {o:Obj} {vs:Array A2},s1.heap.get? a=some o->o.data=.fields vs->a≠X.env.locals/\∀ y c,X.env.cells.lookup y=some c->c≠a:=fun {s1} G {a o vs} J hd=>by
    refine⟨fun z=>?_,fun y c O z=>?_⟩
    ·obtain⟨m,⟨o',es,ep,S,ah,_⟩,_⟩:=G.loc
     rw[z,S] at J;cases J;rw[hd] at ah;cases ah
    ·obtain⟨v,o',S,ah⟩:=G.cell y c O
     rw[z,J] at S;cases S;rw[hd] at ah;cases ah
   -- a aw
   have aw:∀ (b₀:C5) (su:C3 C5) (P:Pos) (kf:Ev->Fl) (hh:∀ pn e,Oe fr (X.inR pn e) (b₀::su) kf) (qf:Hq fr X B A H D (kf env')) (h2:Gf) (F:A4) (c2:C2 A2),s1.heap.objs.size<=F->X.base.StaysIn h2->h2.FunFrames X.base (X.env::X.outer)->Kc h2 X.base e F (.ref C,c2) dct .none->C' X aa σ1 H1 { s1 with heap:=h2 } ->
     codeAny (model X.prog X.w) (X.A.mark (some (.ref e))) (.handlers (.ref e) [.ExceptHandler none none (b₀::su) P] X.env) (fun r s₂=>match r with
      | .ok f=>SP X aa D f s₂
      | .error x=>cameBackBy (model X.prog X.w) X.A X.env X.xe x s₂) { s1 with heap:=h2 }:=by
    intro b₀ su P kf hh qf h2 F c2 am aA aB ap J2;obtain⟨oe,ve,oT,ts,g1,g2,g3,g4,g5,g6,g7,g8,g9,aH⟩:=id ap;refine codeAny_handlers_suite ?_;refine Ey (s:={ s1 with heap:=h2 }) aA aB ap fun h3 y1 y2 aO y4 y5=>?_
    have aI:O5 (X.env::X.outer) [F] h2 h3:=.of fun b o U O=>y4 b o U O
    have al:H1 F=none:=G.hok.fresh am;have aJ:=R J2 g8 g9;have ax:∀ p∈X.pn++aa,p.1≠F:=fun p hp z=>by
     have:=(G.pin p hp).1;rw[z] at this;exact absurd (AR this) (EN.mpr am)
    have ao:∀ b∈[F],b=F:=fun b U=>AL.mp U
    have Z:C' X aa σ1 H1 { s1 with heap:=h3 }:=J2.call' (s':={ s1 with heap:=h3 }) (ch:=[F]) rfl (by rw[j.1];exact Et aI fun b U=>by rw[ao b U];exact al) (Jv J2.hok aI (fun b U=>by rw[ao b U];exact al) L) J2.bare fun b U=>by rw[ao b U];exact⟨.inr (AZ G.sz am),aJ.1,aJ.2,ax⟩
    obtain⟨au,aP,_,_,e1,e2,e3,e4,_⟩:=id aO;have el:=R Z e1 e4;have ak:e∉X.fs:=fun z=>by
     obtain⟨_,o,J,i⟩:=y2.mem (show e∈(X.env::X.outer).filterMap (·.frame) from by
      rw[EE,j.2];exact AX _ z)
     have J:h3.get? e=some o:=J;rw[e1] at J;cases J;exact i aP e4
    have hs:∀ p∈X.pn++aa,p∈X.pn++aa++[(e,au)]:=fun p hp=>BS _ hp
    have J4:C' (X.inR (X.pn++aa++[(e,au)]) e) [] σ1 H1 { s1 with heap:=h3 } :=
     ⟨⟨Z.ok.mod,Z.ok.kind,Z.ok.glob,Z.ok.blt,Z.ok.above,Z.ok.inj,Z.ok.has,Z.ok.cab,(fun z=>nomatch z),Z.ok.frames,Z.ok.stk,Z.ok.exf,Z.ok.bs,Z.ok.bsz,Z.ok.noex,Z.ok.exfs,Z.ok.funs,Z.ok.frf⟩,Z.os,Z.bare,Z.base,Z.loc,Z.cell,Z.free,Z.freeC,fun p hp=>by
      rw[FF] at hp;rcases BQ.mp hp with hp | hp
      ·exact Z.pin p hp
      ·rw[AL.mp hp]
       exact⟨e1,x.un,el.1,ak,fun v z=>by rw[e4] at z;cases z⟩,Z.hok,Z.len⟩
    have aT:Hq fr (X.inR (X.pn++aa++[(e,au)]) e) B A1 H1 D (kf env'):=by
     have q2:=qf.step aC;cases N:kf env' with
     | exc e' c' f' =>
      rw[N] at q2;exact fun A' H' σ' s' k' aU s5 e5 k d5 I5 aV x5 aW aX=>q2 A' H' σ' s' k' aa s5 e5 k d5 (I5.ofR I.ok hs) aV ⟨x5.lo,x5.un,x5.ob.imp id fun⟨T,c2,a1,a2,a3,a4⟩=>⟨T,c2,a1,a2,fun p hp=>a3 p (BS _ (hs p hp)),a4⟩,fun p hp=>x5.pe p (BS _ (hs p hp))⟩ aW aX
     | next e'=>rw[N] at q2;exact q2
     | brk e'=>rw[N] at q2;exact q2
     | cont e'=>rw[N] at q2;exact q2
     | ret d=>rw[N] at q2;exact q2
     | no=>rw[N] at q2;exact q2
    exact BM (hh (X.pn++aa++[(e,au)]) e [] _ _ _ _ J4 ⟨_,B,A1,aj,l,aT⟩) (fun f s6 aY=>aY.ofR I.ok hs) (fun ev s6 z=>hp e ev s6 z)
   -- aM aK aE
   have after:∀ (h2:Gf) (F:A4) (c2:C2 A2) (ch:C3 A4),s1.heap.objs.size<=F->X.base.StaysIn h2->h2.FunFrames X.base (X.env::X.outer)->Kc h2 X.base e F (.ref C,c2) dct .none->O5 (X.env::X.outer) ch s1.heap h2->(∀ b∈ch,H1 b=none/\X.s₀.heap.objs.size<=b/\b≠X.env.locals/\(∀ y c,X.env.cells.lookup y=some c->c≠b)/\∀ p∈X.pn++aa,p.1≠b) ->
     wpAny (model X.prog X.w) X.A (handleBy (.ref e) X.env HS) (SP X aa D) X.xe { s1 with heap:=h2 }:=by
    intro h2 F c2 ch am aA aB ap kp Q;have J2:C' X aa σ1 H1 { s1 with heap:=h2 }:=G.call' (s':={ s1 with heap:=h2 }) (ch:=ch) rfl (by rw[j.1];exact Et kp fun b U=>(Q b U).1) (Jv G.hok kp (fun b U=>(Q b U).1) L) G.bare fun b U=>⟨.inr (Q b U).2.1,(Q b U).2.2.1,(Q b U).2.2.2.1,(Q b U).2.2.2.2⟩
    obtain⟨oe,ve,oT,ts,g1,g2,g3,g4,g5,g6,g7,g8,g9,aH⟩:=id ap;have g2:=(IC g2).1;have LT:Looks (model X.prog X.w) h2 (typeOf (.ref e)) (.ref C):=g2▸(Looks.ld g1).andThen .now;have e1:=x1 c C ae ai;refine GC (FQ (Uj (J2.toH (e:=e)) aL m1 ?_ n)) (by intro z;cases z);cases z1:b1' c with
    | true =>
     rw[z1] at e1;rw[AG z1] at q;exact(exm_one (M:=model X.prog X.w) J2.kIn LT e1).here (aw b1 aG aF k1 h1 q h2 F c2 am aA aB ap J2)
    | false =>
     rw[AQ (by rw[z1];exact CG)] at q;exact q.elim
   show wpAny _ _ _ _ _ _;rcases x.ob with⟨o,vs,he,O,hd,aq,Y,af⟩ | ⟨T0,c2,hT,al,ax,ht,af⟩
   ·refine Ml ag hl j.2 he t ac aq Y fun h' F x0 x1 x2 x3 x4 x5=>?_
    refine Ey (s:={ s1 with heap:=h' }) x1 x2 x3 fun h2 y1 y2 y3 y4 y5=>?_
    rw[O,hd] at y3;refine after h2 F _ [e] x0 y1 y2 y3 (Mo x4 x0 y4) fun b U=>?_
    rw[AL.mp U];have z:=R G he aq;exact⟨x.un,x.lo,z.1,z.2,ar x.pe⟩
   ·refine RH ag hl j.2 ht t ac fun h' F x0 x1 x2 x3 x4 x5=>?_
    refine Ey (s:={ s1 with heap:=h' }) x1 x2 x3 fun h2 y1 y2 y3 y4 y5=>?_
    refine after h2 F _ [e,T0] x0 y1 y2 y3 (Mo x4 x0 y4) fun b U=>?_
    obtain⟨oe,ve,oT,ts,g1,g2,g3,g4,g5,g6,g7,g8,g9,aH⟩:=id ht;rcases BI.mp U with z | z
    ·rw[z];have w:=R G g1 g4;exact⟨x.un,x.lo,w.1,w.2,ar x.pe⟩
    ·rw[AL.mp z];have w:=R G g8 g9;exact⟨al,hT,w.1,w.2,ar ax⟩
 refine IV (BM (U (X.pn++aa) EX [] s σ H D I.toTry ⟨env,B,A,kk,l,aD⟩) (fun f s₁ hs=>?_) (fun e s₁ hx=>hx));cases f with
 | next=>obtain⟨σ',H',I',W⟩:=hs;exact AK ⟨σ',H',I'.ofTry I.ok,W⟩
 | brk=>obtain⟨σ',H',I',W⟩:=hs;exact⟨σ',H',I'.ofTry I.ok,W⟩
 | cont=>obtain⟨σ',H',I',W⟩:=hs;exact⟨σ',H',I'.ofTry I.ok,W⟩
 | ret u=>obtain⟨v,σ',H',I',r',W⟩:=hs;exact⟨v,σ',H',I'.ofTry I.ok,r',W⟩
end
theorem lX{K:Frag}{b:Str->Bool}(hm:mg T=some (.ref D))(h:∀ c∈ao,∃ C,Wg K c C/\exmOne K (.ref C) (.ref D)=some (b c)):UN K mg T ao b:=by
 refine⟨D,hm,fun c C O U=>?_⟩;obtain⟨g,h1,h2⟩:=h c O;unfold Wg at U h1;rw[U] at h1;cases h1;exact h2
def DD(K:Frag)(n:Str)(st:C5):Prop:=∃ f oc od kV dc pm an cd ct sl,nsIn K mainGlobals n=some (some (.ref f))/\K.lookup f=some ⟨oc,od,.func (fnOf n n (U9 st) (Yk st) (Z6 st) .none kV dc pm an cd ct),sl⟩/\codeIn K cd n=true/\keepIn K (.ref f)=true
theorem lQ{K:Frag}{n:Str}{st:C5}{f:A4}{kV:A2}{sl:Array (C2 A2)}(h1:nsIn K mainGlobals n=some (some (.ref f)))(h2:K.lookup f=some ⟨oc,od,.func (fnOf n n (U9 st) (Yk st) (Z6 st) .none kV dc pm an cd ct),sl⟩)(h3:codeIn K cd n=true)(h4:keepIn K (.ref f)=true):DD K n st:=⟨f,oc,od,kV,dc,pm,an,cd,ct,sl,h1,h2,h3,h4⟩
theorem dv{K:Frag}{h:Gf}(X:K.In h)(G:h.Ns mainGlobals mg){n:Str}{st:C5}(d:DD K n st):JZ K mg n st:=by
 obtain⟨f,oc,od,kV,dc,pm,an,cd,ct,sl,h1,h2,h3,h4⟩:=d;exact⟨_,_,WE (st:=st) h2 h3 h4,mg_of X G h1⟩
def CD(K:Frag)(D C:A4)(q:Str)(i:C5):Prop:=∃ J fd,KY K "__init__" q i J fd/\keepIn K (.ref C)=true/\Dd K C J D=true/\J3 K C/\isFn K (.ref J)=true
theorem iK{K:Frag}{J:A4}{i:C5}{a b c:C2 A4}{qs d:Array (C2 A2)}{e f kV:A2}{cd:ClassData}(h1:K.lookup C=some ⟨e,a,.cls cd,qs⟩)(h2:nsIn K cd.ns "__init__" = some (some (.ref J)))(h3:K.lookup J=some ⟨f,c,.func (fnOf "__init__" q (U9 i) (Yk i) (Z6 i) .none kV dc pm b cv ct),d⟩)(h4:codeIn K cv q=true)(h5:keepIn K (.ref J)=true)(h6:isFn K (.ref J)=true)(h7:keepIn K (.ref C)=true)
  (r1:findIn K (.ref C) "__class__" = some (some (.builtin "object.__class__"))) (r2:findIn K (.ref C) "__getattribute__" = some (some (.builtin "BaseException.__getattribute__"))) (r3:findIn K (.ref C) "__getattr__" = some none) (r4:findIn K (.ref C) "__setattr__" = some (some (.builtin "object.__setattr__"))) (x:Dd K C J D=true):CD K D C q i :=
 ⟨_,_,WE h3 h4 h5,h7,x,fC x r1 r2 r3 r4,h6⟩
theorem CD.xc{K:Frag}{i:C5}(h:CD K D C q i):J3 K C:=let ⟨_,_,_,_,_,x,_⟩:=h;x
def R0(P:Str->A4->Prop):C3 (Str×A4)->Prop
 | []=>True
 | (n,C)::l=>P n C/\R0 P l
theorem R0.n:R0 P []:=trivial
theorem R0.c{n:Str}(h:P n C)(t:R0 P l):R0 P ((n,C)::l):=⟨h,t⟩
theorem R0.get{Q R:Str->A4->Prop}:∀ {l:C3 (Str×A4)},R0 P l->R0 Q l->R0 R l->∀ c∈l.map (·.1),∃ C,P c C/\Q c C/\R c C
 | (n,C)::l,p,q,r,c,O=>by
   rcases BI.mp O with e | e
   · subst e
     exact⟨C,p.1,q.1,r.1⟩
   · exact R0.get p.2 q.2 r.2 c e
abbrev YA(K:Frag)(l:C3 (Str×A4)):Prop:=R0 (fun c C=>nsIn K mainGlobals c=some (some (.ref C))) l
abbrev XA(K:Frag)(l:C3 (Str×A4)):Prop:=R0 (fun _ C=>J3 K C) l
abbrev KA(K:Frag)(l:C3 (Str×A4))(D:A2)(b:Str->Bool):Prop:=R0 (fun c C=>kitOne K (.ref C) D=some (b c)) l
abbrev EA(K:Frag)(l:C3 (Str×A4))(D:A4)(b:Str->Bool):Prop:=R0 (fun c C=>exmOne K (.ref C) (.ref D)=some (b c)) l
section
variable{K:Frag}{b:Str->Bool}
theorem Nf(y:YA K l)(x:XA K l)(t:KA K l (.ref D) fun c=>decide (c=T))(hm:mg T=some (.ref D)):MW K mg T (Qm (l.map (·.1)) T):=hR hm fun c O=>let ⟨C,h1,h2,h3⟩:=R0.get y t x c O;⟨C,h1,h2,h3⟩
theorem k9{F:String}(y:YA K l)(x:XA K l)(t:KA K l (.type F) fun _=>true):WF K mg T F (A6 (l.map (·.1))):=gc fun c O=>let ⟨C,h1,h2,h3⟩:=R0.get y t x c O;⟨C,h1,h2,h3⟩
theorem kn(y:YA K l)(t:EA K l D fun _=>true)(hm:mg T=some (.ref D)):TR K mg T (Ps (l.map (·.1))):=lK hm fun c O=>let ⟨C,h1,h2,_⟩:=R0.get y t y c O;⟨C,h1,h2⟩
theorem XX(y:YA K l)(t:EA K l D fun c=>decide (c=T))(hm:mg T=some (.ref D)):P' K mg T (l.map (·.1)):=gQ hm fun c O=>let ⟨C,h1,h2,_⟩:=R0.get y t y c O;⟨C,h1,h2⟩
theorem il(y:YA K l)(t:EA K l D b)(hm:mg T=some (.ref D)):UN K mg T (l.map (·.1)) b:=lX hm fun c O=>let ⟨C,h1,h2,_⟩:=R0.get y t y c O;⟨C,h1,h2⟩
end
section
variable{n:Str}{sub:Str->Bool}{DT:A4}
end
end L2
variable{x:L2.Dat}{ps ks:C3 Nat}{N:L2.Ev->Prop}{w n most:Nat}{g:L2.Dat->L2.Ev->C2 L2.Ev}{c:PySem.Str}
namespace L2
open PySem PySem.Spec PyProof.Rows
def RP(n:Nat)(G F:C3 Dat->Rs):C3 Dat->Rs:=fun xs=>match G (xs.take n) with
 | .ok d=>(match F (d::xs.drop n) with | .ok r=>.ok r | _=>.no)
 | .exc c fl=>.exc c fl
 | .no=>.no
def RO(n:Nat)(gs fs:Zzv):Ev->C2 (C3 Dat):=fun env=>(gs env).bind fun ds=>(fs env).bind fun es=>if ds.length=n then some (ds++es) else none
section
variable{G:C3 Dat->Rs}{x:Str}{ps:C3 Str}{gs:Zzv}
theorem lf(n:Nat)(C:G' X.prog X.w X.K X.mg X.base k x ps fr F)(Z:JQ k X.A)(h1:PE X e (PR X aK G gs))(h2:Om false X es fs)(hg:Gl X x:=by rfl)
  (P:(x==("__debug__" : Str))=false:=by decide) (he:starEach (e::es) X.env=(false,eval e X.env)::starEach es X.env:=by rfl) (af:(backTo pos (starEach es X.env)).any (·.1)=false:=by rfl) :
  PE X (.Call (.Name x p) (e::es) [] pos) (PR X false (RP n G F) (RO n gs fs)):=(bN C.cal Z (Yu h1 h2 he) hg P he af).weak fun σ H Q L=>by
 obtain⟨env,B,A,xs,kk,e1,q⟩:=L;unfold RO at e1;obtain⟨ds,eg,e1⟩:=bind_some e1;obtain⟨ys,a,e1⟩:=bind_some e1;split at e1
 ·rename_i hn
  cases e1;have S:(ds++ys).take n=ds:=by rw[← hn,List.take_left]
  have t2:(ds++ys).drop n=ys:=by rw[← hn,List.drop_left]
  unfold RP at q;rw[S,t2] at q;refine⟨env,B,A,ds,kk,eg,?_⟩;cases hG:G ds with
  | ok f =>
   rw[hG] at q;dsimp only at q;intro v H1 s1 r1;refine⟨env,B,A,ys,kk.mono s1,a,fun vs H2 s2 rs=>?_⟩;cases hF:F (f::ys) with
   | ok d =>
    rw[hF] at q;dsimp only at q;have l:Wr X.K (av H2 A) (f::ys) (v::vs):=Vx (r1.mono (Vj s2)) rs.rps;exact⟨by rw[Y0 l];exact C.len _ d hF,f::ys,A,d,kk.mu.mono (s1.trans s2),l,hF,fun t H' s r _=>q t H' ((s1.trans s2).trans s) r⟩
   | exc c fl=>rw[hF] at q;exact q.elim
   | no=>rw[hF] at q;exact q.elim
  | exc c fl=>rw[hG] at q;exact q
  | no=>rw[hG] at q;exact q.elim
 ·cases e1
end
def QW:Dat->Dat->C2 (C3 Dat)
 | .lst xs,.int i=>if i=2/\xs.length+xs.length<=1000 then some (xs++xs) else none
 | _,_=>none
theorem eb:R' X (binaryOp .Mult) QW:=fun aa s σ H x y v u Q I S m L=>by
 obtain⟨A,a,b,d,mu,e,M,p2,q⟩:=L;unfold QW at e;split at e
 ·rename_i xs i
  split at e
  ·rename_i hz
   cases e;obtain⟨hi,hz⟩:=hz;subst hi;obtain⟨l1,vs,e1,h1,r1⟩:=M.lst;have e2:=p2.int;subst e1 e2;cases S;obtain⟨t,rfl⟩:=m;obtain⟨its,n,w1,g1,_⟩:=h1.get I;have z1:=w1.length;have z3:=Y0 r1;have zs:its.toArray.size=xs.length:=by rw[AT];lia
   refine wpAny_binaryOp_repeat_ref (T:="list") (U:="int") (by decide) ⟨_,g1,rfl⟩ (fun s'=>typeIs_int s' 2 t) noFill_list_mul PySem.F.fills_int_mul PySem.F.slot_int_rmul repeat_list PySem.F.slot_int_index.lookup
    (GR PySem.F.slot_int_rmul (typeIs_int s 2 t) PySem.F.entry_int_rmul (PySem.F.args_int_rmul_2 _ _) (int___rmul___int_list 2 t l1 its.toArray n)
     ⟨g1,rfl,⟨_,g1,rfl⟩,GR PySem.F.slot_list_mul ⟨_,g1,rfl⟩ PySem.F.entry_list_mul (PySem.F.args_list_mul_2 _ _)
      (AutoListH.list___mul___list_int_3 l1 its.toArray n 2 t (by simp[Builtin.List.listFitsIndex]) (by rw[zs];show ¬ xs.length*2 > _;lia) (by rw[zs];show ¬ Builtin.List.listTooLong (xs.length*2)=true;simp[Builtin.List.listTooLong,sizeLine];lia))
      ⟨g1,?_⟩⟩)
   have ea:(List.foldl (fun x1 x2=>x1++x2) #[] (List.replicate (if its.toArray.isEmpty=true then 0 else(2:Int).toNat) its.toArray))=(its++its).toArray:=by
    cases its with
    | nil=>rfl
    | cons c l=>simp[List.replicate]
   rw[ea];have f:xs.length+xs.length<=sizeLine:=AZ hz (by decide);exact⟨.ref _,_,I.lnew (t':=s.toks) (w1.append w1) (by rw[AN];lia),rfl,q.at (by rw[AN];exact f) (Wq r1 r1) _ I.fresh⟩
  ·cases e
 ·cases e
def Zo:=@XT true
def Z3:=@xv true
def Z4:=@bH true
def Vp:=@mU false
def U4:=@XT false
def Yj:=@ML.x true
def Ud:=@RV false
def Zl:=@XS true
def Z5:=@xv false
def Zx{X:Cx}:=@XB X true
def Zp:=@XS false
def Zy:=@bH false
def Zn:=@b' false
def Zg:=@b' true
def Zj{X:Cx}:=@XB X false
def Mj:=@ML.x false
def Yb:=@bv false
def G1:=@RY true
def S7:=@ZG false
def Mk:=@bv true
def Y2:=@RB false
def Tr:=@ZG true
end L2
namespace K72
open PySem PySem.Spec PyProof.Rows L2
abbrev OT:C3 Str:=["_law_script","_law_first","_law_n","_law_many","_law_order_here","_law_size","_law_cell","_law_pairs","_law_w","_law_one","_law_two","_law_takes","_law_fills","_law_marks","_law_spots","_law_i","_law_j","_law_code","_law_seen","_law_steps","_law_d","_law_turn","_law_word_here","_law_wires"]
abbrev OW:C3 Str:=["_law_graph_here","_law_mode","_law_cell","_law_left","_law_wires","_law_steps","_law_marks","_law_code","_law_more","_law_free","_law_wide","_law_one"]
abbrev UC:C3 Str:=["_law_script","_law_n","_law_cell","_law_graph_here","_law_some","_law_others","_law_first","_law_second","_law_name","_law_mode","_law_other"]
abbrev c7:C3 Str:=["_law_graph_here","_law_name","_law_first","_law_second","_law_mode","_law_wrong","_law_k","_law_caught_here"]
abbrev YF:C3 Str:=["_law_script","_law_first","_law_many","_law_size","_law_pairs","_law_k","_law_cell","_law_i","_law_j"]
abbrev cy:C3 Str:=["_law_cell","_law_k","_law_letters","_law_size","_law_at","_law_word_here","_law_j","_law_shift"]
abbrev YW:C3 Str:=["_law_script","_law_first","_law_n","_law_order_here","_law_w","_law_cell","_law_at","_law_far"]
abbrev cn:C3 Str:=["_law_mode","_law_graph_here","_law_name","_law_first","_law_second","_law_caught_here","e"]
abbrev WQ:C3 Str:=["_law_cell","_law_wires","_law_letters","_law_there","_law_k","_law_word_here","_law_j"]
abbrev YB:C3 Str:=["graph","name","first","second","wire","spots","rise","fall","steps"]
abbrev MC:C3 Str:=["_law_mode","_law_graph_here","_law_name","_law_first","_law_second"]
abbrev OA:C3 Str:=["_law_graph_here","_law_name","_law_first","_law_second","_law_mode"]
abbrev PH:C3 Str:=["_law_graph_here","_law_name","_law_cell","_law_wires","_law_plain"]
abbrev SN:C3 Str:=["graph","most","found","pairs","n","stand","here","by","lost"]
abbrev JR:C3 Str:=["Broken","Crowded","TooMany","CalledOff","Clash","NoPlace"]
abbrev RW:C3 Str:=["graph","most","found","seen","at","here","step","stand"]
abbrev MH:C3 Str:=["_law_graph_here","_law_name","_law_first","_law_second"]
abbrev MT:C3 Str:=["_law_graph_here","_law_mode","_law_cell","_law_left"]
abbrev OU:C3 Str:=["_law_w","_law_word_here","_law_script","_law_first"]
abbrev NT:C3 Str:=["_law_script","_law_first","_law_many","_law_size"]
abbrev NG:C3 Str:=["graph","found","wires","wanted","told","n","m"]
abbrev NJ:C3 Str:=["_law_script","_law_first","_law_n","_law_many"]
abbrev QY:C3 Str:=["graph","name","most","steps","first","second"]
abbrev SM:C3 Str:=["graph","stand","step","wire","left","fills"]
abbrev SS:C3 Str:=["_law_graph_here","_law_wire","_law_wires"]
abbrev PN:C3 Str:=["_law_cell","_law_graph_here","_law_some"]
abbrev NE:C3 Str:=["_law_graph_here","_law_name","_law_cell"]
abbrev LO:C3 Str:=["graph","name","first","second","most"]
abbrev NZ:C3 Str:=["_law_k","_law_step","_law_graph_here"]
abbrev NL:C3 Str:=["_law_script","_law_first","_law_n"]
abbrev NK:C3 Str:=["given","made","up","down","start"]
abbrev OX:C3 Str:=["_law_pair","_law_one","_law_two"]
abbrev MG:C3 Str:=["graph","name","first","second"]
abbrev NF:C3 Str:=["_law_graph_here","_law_wire"]
abbrev LI:C3 Str:=["_law_graph_here","_law_spot"]
abbrev MR:C3 Str:=["_law_cell","_law_graph_here"]
abbrev NU:C3 Str:=["place","wire","one","other"]
abbrev MI:C3 Str:=["graph","found","at","step"]
abbrev LL:C3 Str:=["graph","stand","wire","up"]
abbrev OO:C3 Str:=["self","one","other","wire"]
abbrev NN:C3 Str:=["number","step","wire","up"]
abbrev PM:C3 Str:=["_law_k","_law_graph_here"]
abbrev MB:C3 Str:=["steps","first","second"]
abbrev NY:C3 Str:=["_law_cell","_law_wires"]
abbrev OQ:C3 Str:=["self","way","lost","by"]
abbrev LQ:C3 Str:=["graph","stand","wires"]
abbrev O':C3 Str:=["stand","graph","wires"]
abbrev OV:C3 Str:=["_law_step","_law_spot"]
abbrev KS:C3 Str:=["graph","stand","step"]
abbrev LY:C3 Str:=["graph","stand","wire"]
abbrev LR:C3 Str:=["_law_script","_law_k"]
abbrev LZ:C3 Str:=["step","graph","stand"]
abbrev OS:C3 Str:=["wire","graph","stand"]
abbrev LN:C3 Str:=["wires","one","other"]
abbrev PB:C3 Str:=["graph","used","step"]
abbrev NV:C3 Str:=["graph","name","most"]
abbrev PV:C3 Str:=["_law_k","_law_pairs"]
abbrev PL:C3 Str:=["_law_k","_law_steps"]
abbrev NM:C3 Str:=["_law_cell","_law_k"]
abbrev LG:C3 Str:=["graph","wire","up"]
abbrev KO:C3 Str:=["graph","by","lost"]
abbrev MP:C3 Str:=["_law_caught_here"]
abbrev LH:C3 Str:=["number","place"]
abbrev LD:C3 Str:=["graph","stand"]
abbrev NI:C3 Str:=["graph","found"]
abbrev LA:C3 Str:=["graph","wire"]
abbrev JX:C3 Str:=["graph","step"]
abbrev KF:C3 Str:=["graph","most"]
abbrev LM:C3 Str:=["graph","name"]
abbrev MF:C3 Str:=["step","spot"]
abbrev MQ:C3 Str:=["_law_script"]
abbrev MJ:C3 Str:=["self","way"]
abbrev MD:C3 Str:=["found","n"]
abbrev KX:C3 Str:=["_law_wire"]
abbrev JW:C3 Str:=["graph"]
def c_LETTERS:Dat:=.str "abcdefghijklmnopqrstuvwxyz"
def c_LONGEST_NAME:Dat:=.int 8
def c_MANY_SPOTS:Dat:=.int 64
def c_MOST_STEPS_AHEAD:Dat:=.int 22
def c_MOST_WIRES_AHEAD:Dat:=.int 9
def c_WORDS:Dat:=.tup [.str "given",.str "made",.str "up",.str "down",.str "start"]
def T3:Ev->Fl:=(Zf (Qp (Lg (dB (dO OE (dF Vb (Z1 (dV 0) Za)) (dC (.int 1)))) (Lg (dB (dO MN (dF Vb (Z1 (dV 0) Za)) (dC c_LONGEST_NAME))) (dB (dO F0 (dV 0) (dC c_WORDS))))) (Yq (dC (.bl false))) U6)
 (Yq (dF QZ (Z1 (dL (V9 (VE (dV 0)) [none] (Y7 0) V6 (dO F0 (dV 0) (dC c_LETTERS)))) Za))))
def Q0:C3 Dat->Rs:=Yg 1 1 T3
def Hi:Ev->Fl:=(Yq (dL (V9 (Tp (dO Yi (dV 0) (dC (.int 0)))) [none,none] (Nb 2 (Wk (Y7 0) (Wk (Y7 1) Dg))) V6 (dV 0))))
def On:C3 Dat->Rs:=Yg 1 1 Hi
def Re:Ev->Fl:=(Yq (dO Sz (dO Yi (dO Yi (dO Yi (dV 0) (dC (.int 0))) (dV 1)) (dC (.int 1))) (dC (.str "made"))))
def Vw:C3 Dat->Rs:=Yg 2 2 Re
def Lp:Ev->Fl:=(Yq (dL (V9 (Vz (Z1 (dF Vb (Z1 (dO Yi (dV 0) (dC (.int 0))) Za)) Za)) [none,some 0] (Y7 0) (dT (Zr Vw (Z1 (dV 1) (Z1 (dV 0) Za)))) (dV 0))))
def B5:C3 Dat->Rs:=Yg 1 1 Lp
def Ja:Ev->Fl:=(Yq (dL (V9 (Pz (dO Yi (dV 0) (dC (.int 1)))) [none,none,some 1,some 2] (Nb 2 (Wk (Y7 0) (Wk (Y7 1) Dg))) (Dl (dB (dO Sz (dO Yi (dV 1) (dC (.int 0))) (dV 2))) (dB (dO Sz (dO Yi (dV 1) (dC (.int 1))) (dV 3)))) (dV 0))))
def E5:C3 Dat->Rs:=Yg 3 3 Ja
def Rf:Ev->Fl:=(Yq (dO Yi (dO Yi (dO Yi (dV 0) (dC (.int 1))) (dV 1)) (dC (.int 0))))
def Ui:C3 Dat->Rs:=Yg 2 2 Rf
def Ra:Ev->Fl:=(Yq (dO Yi (dO Yi (dO Yi (dV 0) (dC (.int 1))) (dV 1)) (dC (.int 1))))
def Hd:C3 Dat->Rs:=Yg 2 2 Ra
def Jo:Ev->Fl:=(Yq (dO Yi (dO Yi (dO Yi (dV 0) (dC (.int 1))) (dV 1)) (dC (.int 2))))
def Wa:C3 Dat->Rs:=Yg 2 2 Jo
def Jl:Ev->Fl:=(Yq (dO Yi (dO Yi (dO Yi (dV 0) (dC (.int 1))) (dV 1)) (dC (.int 3))))
def Ur:C3 Dat->Rs:=Yg 2 2 Jl
def Lo:Ev->Fl:=(Zf (Y6 1 (dC (.int 0)))
 (Zf (Qo (Tp (dV 0)) (Y7 2) (Y6 1 (dO OP (dV 1) (dO OB (dC (.int 1)) (dV 2)))))
 (Yq (dV 1))))
def Qk:C3 Dat->Rs:=Yg 3 1 Lo
def Rc:Ev->Fl:=(Yq (dO Sz (dO Pb (dO PU (dV 0) (dV 1)) (dC (.int 1))) (dC (.int 1))))
def Jf:C3 Dat->Rs:=Yg 2 2 Rc
def Fu:Ev->Fl:=(Zf (Y6 3 (Zr Qk (Z1 (Zr Wa (Z1 (dV 0) (Z1 (dV 2) Za))) Za)))
 (Yq (dO Sz (dO Pb (dO Yi (dV 1) (dC (.int 0))) (dV 3)) (dV 3))))
def Nz:C3 Dat->Rs:=Yg 4 3 Fu
def Qj:Ev->Fl:=(Zf (Y6 3 (Zr Ui (Z1 (dV 0) (Z1 (dV 2) Za))))
 (Zf (Qp (dB (dO Sz (Zr Jf (Z1 (dO Yi (dV 1) (dC (.int 1))) (Z1 (dV 3) Za))) (Zr Hd (Z1 (dV 0) (Z1 (dV 2) Za))))) (U1 "Broken" (gW "way") (Z1 (dL (Ts (Z1 (dV 2) Za))) Za)) U6)
 (Zf (Y6 4 (dO Pb (dO Yi (dV 1) (dC (.int 0))) (dU TM (Zr Qk (Z1 (Zr Wa (Z1 (dV 0) (Z1 (dV 2) Za))) Za)))))
 (Zf (Y6 5 (Zr Qk (Z1 (Zr Ur (Z1 (dV 0) (Z1 (dV 2) Za))) Za)))
 (Zf (Qp (dB (dO KZ (dO Pb (dV 4) (dV 5)) (dC (.int 0)))) (U1 "Crowded" (gW "way") (Z1 (dL (Ts (Z1 (dV 2) Za))) Za)) U6)
 (Yq (Wz (Z1 (dO OP (dV 4) (dV 5)) (Z1 (dO TB (dO Yi (dV 1) (dC (.int 1))) (dO OB (dC (.int 1)) (dV 3))) Za)))))))))
def Er:C3 Dat->Rs:=Yg 6 3 Qj
def Jj:Ev->Fl:=(Yq (dL (V9 (Vz (Z1 (dF Vb (Z1 (dO Yi (dV 0) (dC (.int 1))) Za)) Za)) [none,some 0,some 1] (Y7 0) (dT (Zr Nz (Z1 (dV 1) (Z1 (dV 2) (Z1 (dV 0) Za))))) (dV 0))))
def Ju:C3 Dat->Rs:=Yg 2 2 Jj
def Fw:Ev->Fl:=(Zf (Eo 2 (Ts Za))
 (Zf (Y6 3 (dV 1))
 (Zf (Gc (dB (dO QL (dO Yi (dO Yi (dV 0) (dV 3)) (dC (.int 2))) (dC .non))) (Zf (D8 2 Uy (Z1 (dO Yi (dO Yi (dV 0) (dV 3)) (dC (.int 3))) Za))
 (Y6 3 (dO Yi (dO Yi (dV 0) (dV 3)) (dC (.int 2))))))
 (Yq (dL (RE (Z1 (dP 2) Za)))))))
def Eg:C3 Dat->Rs:=Yg 4 2 Fw
def Jb:Ev->Fl:=(SG JR "Broken" "Crowded" (Nt Er (Z1 (dV 0) (Z1 (dS Ce (dO Yi (dV 1) (dV 2)) Rv (Qr (dC (.int 2)))) (Z1 (dV 3) Za)))) (U1 "Broken" (gW "way") (Z1 (dL (dO Oh (Zr Eg (Z1 (dV 1) (Z1 (dV 2) Za))) (dL (Ts (Z1 (dV 3) Za))))) Za)) (U1 "Crowded" (gW "way") (Z1 (dL (dO Oh (Zr Eg (Z1 (dV 1) (Z1 (dV 2) Za))) (dL (Ts (Z1 (dV 3) Za))))) Za)))
def Dh:C3 Dat->Rs:=Yg 4 4 Jb
def D7:Ev->Fl:=(Zf (Eo 2 (Ts (Z1 (Wz (Z1 (dO Yi (dV 0) (dC (.int 2))) (Z1 (dO Yi (dV 0) (dC (.int 3))) (Z1 (dC .non) (Z1 (dC .non) Za))))) Za)))
 (Zf (SJ 3 (Wz (Z1 (dO Yi (dV 0) (dC (.int 2))) (Z1 (dO Yi (dV 0) (dC (.int 3))) Za))) (dC (.bl true)))
 (Zf (Y6 4 (dC (.int 0)))
 (Zf (Gc (dB (dO OE (dV 4) (dF Vb (Z1 (dP 2) Za)))) (Zf (Y6 5 (Zr Ju (Z1 (dV 0) (Z1 (dS Ce (dO Yi (dP 2) (dV 4)) Rv (Qr (dC (.int 2)))) Za))))
 (Zf (Qo (Tp (dV 5)) (Y7 6) (Zf (Kx 7 (Lf Dh) (Z1 (dV 0) (Z1 (dP 2) (Z1 (dV 4) (Z1 (dV 6) Za)))))
 (Zf (Qp (dB (RQ false 3 (dV 7))) (fun env=>.cont env) U6)
 (Zf (Qp (dB (dO WC (dF Vb (Z1 (dP 2) Za)) (dV 1))) (U1 "TooMany" gZ Za) U6)
 (Zf (Px 3 (dV 7) (dC (.bl true)))
 (D8 2 Uy (Z1 (Wz (Z1 (dO Yi (dV 7) (dC (.int 0))) (Z1 (dO Yi (dV 7) (dC (.int 1))) (Z1 (dV 4) (Z1 (dV 6) Za))))) Za)))))))
 (QM 4 (dC (.int 1))))))
 (Iy 2)))))
def Rq:C3 Dat->Rs:=Yg 8 2 D7
def Tz:Ev->Fl:=(Yq (dF Ax (Z1 (dL (V9 (Tp (Zr E5 (Z1 (dV 0) (Z1 (dV 2) (Z1 (dV 3) Za))))) [none,some 0,some 1] (Y7 0) V6 (Zr Nz (Z1 (dV 1) (Z1 (dV 2) (Z1 (dV 0) Za)))))) Za)))
def Mb:C3 Dat->Rs:=Yg 4 4 Tz
def Gz:Ev->Fl:=(Zf (Qp (dT (Zr Mb (Z1 (dV 0) (Z1 (dV 1) (Z1 (dV 2) (Z1 (dC (.bl true)) Za)))))) (Yq (dC (.int 1))) U6)
 (Zf (Qp (dT (Zr Mb (Z1 (dV 0) (Z1 (dV 1) (Z1 (dV 2) (Z1 (dC (.bl false)) Za)))))) (Yq (dU RD (dC (.int 1)))) U6)
 (Yq (dC (.int 0)))))
def Kq:C3 Dat->Rs:=Yg 3 3 Gz
def N4:Ev->Fl:=(Zf (Y6 3 (dO Pb (Zr Qk (Z1 (Zr Wa (Z1 (dV 0) (Z1 (dV 1) Za))) Za)) (dU TM (Zr Qk (Z1 (Zr Ur (Z1 (dV 0) (Z1 (dV 1) Za))) Za)))))
 (Yq (dO KZ (dO Pb (dV 3) (Zr Qk (Z1 (Zr Wa (Z1 (dV 0) (Z1 (dV 2) Za))) Za))) (dC (.int 0)))))
def Cw:C3 Dat->Rs:=Yg 4 3 N4
def Vt:Ev->Fl:=(Yq (NR (Zr Vw (Z1 (dV 0) (Z1 (Zr Ui (Z1 (dV 0) (Z1 (dV 1) Za))) Za))) (Zr Vw (Z1 (dV 0) (Z1 (Zr Ui (Z1 (dV 0) (Z1 (dV 2) Za))) Za)))))
def Qb:C3 Dat->Rs:=Yg 3 3 Vt
def D3:Ev->Fl:=(Zf (Eo 1 (Ts Za))
 (Zf (Qo (Vz (Z1 (dF Vb (Z1 (dO Yi (dV 0) (dC (.int 1))) Za)) Za)) (Y7 2) (Qo (Vz (Z1 (dF Vb (Z1 (dO Yi (dV 0) (dC (.int 1))) Za)) Za)) (Y7 3) (Qp (Dl (dB (dO KZ (dV 2) (dV 3))) (Dl (dT (Zr Qb (Z1 (dV 0) (Z1 (dV 2) (Z1 (dV 3) Za))))) (dT (Zr Cw (Z1 (dV 0) (Z1 (dV 2) (Z1 (dV 3) Za))))))) (D8 1 Uy (Z1 (Wz (Z1 (dV 2) (Z1 (dV 3) Za))) Za)) U6)))
 (Iy 1)))
def Iv:C3 Dat->Rs:=Yg 4 1 D3
def Sm:Ev->Fl:=(Zf (Kx 2 Rq (Z1 (dV 0) (Z1 (dV 1) Za)))
 (Zf (Y6 3 (Zr Iv (Z1 (dV 0) Za)))
 (Zf (Qo (Pz (dV 2)) (Nb 2 (Wk (Y7 4) (Wk (Y7 5) Dg))) (Zf (Y6 6 (Zr Ju (Z1 (dV 0) (Z1 (dS Ce (dV 5) Rv (Qr (dC (.int 2)))) Za))))
 (Qo (Tp (dV 3)) (Nb 2 (Wk (Y7 7) (Wk (Y7 8) Dg))) (Qp (Dl (dB (dO F0 (dV 7) (dV 6))) (dB (dO F0 (dV 8) (dV 6)))) (U1 "CalledOff" (gC "way" "lost" "by") (Z1 (Zr Eg (Z1 (dV 2) (Z1 (dV 4) Za))) (Z1 (dV 8) (Z1 (dV 7) Za)))) U6))))
 (Yq (dV 2)))))
def V5:C3 Dat->Rs:=Yg 9 2 Sm
def Jd:Ev->Fl:=(Yq (dL (V9 (Tp (dV 2)) [none,some 0,some 1] (Y7 0) V6 (Zr Kq (Z1 (dV 1) (Z1 (dV 2) (Z1 (dV 0) Za)))))))
def Rj:C3 Dat->Rs:=Yg 3 3 Jd
def Dj:Ev->Fl:=(Yq (dL (V9 (Pz (dV 0)) [none,none,some 1,some 2] (Nb 2 (Wk (Y7 0) (Wk (Y7 1) Dg))) (dB (dO KZ (dO Yi (dV 2) (dV 0)) (dO Yi (dV 3) (dV 0)))) (dV 1))))
def Kf:C3 Dat->Rs:=Yg 3 3 Dj
def Vi:Ev->Fl:=(Zf (Y6 2 (Zr B5 (Z1 (dV 0) Za)))
 (Zf (Y6 3 (dL (V9 (Tp (dV 1)) [none,some 0,some 2] (Y7 0) V6 (Zr Rj (Z1 (dV 1) (Z1 (dS Ce (dV 0) Rv (Qr (dC (.int 2)))) (Z1 (dV 2) Za)))))))
 (Zf (Eo 4 (Ts Za))
 (Zf (Qo (Vz (Z1 (dF Vb (Z1 (dV 1) Za)) Za)) (Y7 5) (Qo (SQ (Z1 (dO We (dV 5) (dC (.int 1))) (Z1 (dF Vb (Z1 (dV 1) Za)) Za))) (Y7 6) (Qp (dB (dO Sz (dO Yi (dO Yi (dV 1) (dV 5)) (dC (.int 1))) (dO Yi (dO Yi (dV 1) (dV 6)) (dC (.int 1))))) (D8 4 Oo (Z1 (dL (V9 (Tp (Zr Kf (Z1 (dV 2) (Z1 (dO Yi (dV 3) (dV 5)) (Z1 (dO Yi (dV 3) (dV 6)) Za))))) [none,some 5,some 6] (Y7 0) V6 (Wz (Z1 (dV 1) (Z1 (dV 2) (Z1 (dV 0) Za)))))) Za)) U6)))
 (Iy 4)))))
def Ti:C3 Dat->Rs:=Yg 7 2 Vi
def Vm:Ev->Fl:=(Zf (Kx 2 V5 (Z1 (dV 0) (Z1 (dV 1) Za)))
 (Zf (Y6 3 (Zr Ti (Z1 (dV 0) (Z1 (dV 2) Za))))
 (Zf (Qp (dB (dO MN (dF Vb (Z1 (dV 3) Za)) (dC (.int 0)))) (Zf (Y6 4 (dO Yi (dV 3) (dC (.int 0))))
 (U1 "Clash" (gK "one" "other" "wire") (Z1 (Zr Eg (Z1 (dV 2) (Z1 (dO Yi (dV 4) (dC (.int 0))) Za))) (Z1 (Zr Eg (Z1 (dV 2) (Z1 (dO Yi (dV 4) (dC (.int 1))) Za))) (Z1 (dO Yi (dV 4) (dC (.int 2))) Za))))) U6)
 (Yq (dV 2)))))
def U0:C3 Dat->Rs:=Yg 5 2 Vm
def Uw:Ev->Fl:=(Zf (Y6 1 (dO Yi (dV 0) (dC (.int 2))))
 (Zf (Qo (Vz (Z1 (dF Vb (Z1 (dO Yi (dV 0) (dC (.int 1))) Za)) Za)) (Y7 2) (Y6 1 (dO OP (dO OP (dV 1) (Zr Qk (Z1 (Zr Wa (Z1 (dV 0) (Z1 (dV 2) Za))) Za))) (Zr Qk (Z1 (Zr Ur (Z1 (dV 0) (Z1 (dV 2) Za))) Za)))))
 (Yq (dL (V9 (Vz (Z1 (dC c_MANY_SPOTS) Za)) [none,some 1] (Y7 0) (Md (dT (Zr Jf (Z1 (dV 1) (Z1 (dV 0) Za))))) (dV 0))))))
def Uu:C3 Dat->Rs:=Yg 3 1 Uw
def Ji:Ev->Fl:=(Zf (Qp (Lg (dB (dO MN (dF Vb (Z1 (dO Yi (dV 0) (dC (.int 0))) Za)) (dC c_MOST_WIRES_AHEAD))) (dB (dO MN (dF Vb (Z1 (dO Yi (dV 0) (dC (.int 1))) Za)) (dC c_MOST_STEPS_AHEAD)))) (Yq (dC (.bl false))) U6)
 (Yq (dO WC (dF Vb (Z1 (Zr Uu (Z1 (dV 0) Za)) Za)) (dC (.int 2)))))
def E1:C3 Dat->Rs:=Yg 1 1 Ji
def Q5:Ev->Fl:=(Qp (Lg (Md (dT (Zr Q0 (Z1 (dV 1) Za)))) (Lg (dB (dO F0 (dV 1) (Zr On (Z1 (dV 0) Za)))) (Md (dT (Zr E1 (Z1 (dV 0) Za)))))) (U1 "NoPlace" gZ Za) U6)
def Uo:C3 Dat->Rs:=Yg 2 2 Q5
def J7:Ev->Fl:=(Qp (Lg (dB (dO Sz (dV 1) (dV 2))) (Lg (dB (dO Ss (dV 1) (dV 0))) (dB (dO Ss (dV 2) (dV 0))))) (U1 "NoPlace" gZ Za) U6)
def S5:C3 Dat->Rs:=Yg 3 3 J7
def Rh:Ev->Fl:=(Yq (Wz (Z1 (dO Yi (dV 0) (dC (.int 0))) (Z1 (dO Yi (dV 0) (dC (.int 1))) (Z1 (Wz (Z1 (dV 1) Za)) (Z1 (dO Yi (dV 0) (dC (.int 3))) Za))))))
def Di:C3 Dat->Rs:=Yg 2 2 Rh
def Uz:Ev->Fl:=(Yq (dL (V9 (Vz (Z1 (dF Vb (Z1 (dO Yi (dV 0) (dC (.int 1))) Za)) Za)) [none,some 0] (Y7 0) (dT (Zr Vw (Z1 (dV 1) (Z1 (Zr Ui (Z1 (dV 1) (Z1 (dV 0) Za))) Za)))) (dV 0))))
def T5:C3 Dat->Rs:=Yg 1 1 Uz
def Qf:Ev->Fl:=(Zf (U5 Uo (Z1 (dV 0) (Z1 (dV 1) Za)))
 (Zf (U5 S5 (Z1 (Zr T5 (Z1 (dV 0) Za)) (Z1 (dV 2) (Z1 (dV 3) Za))))
 (Zf (Y6 4 (dF Vb (Z1 (dO Yi (dV 0) (dC (.int 0))) Za)))
 (Zf (Y6 5 (Zr Uu (Z1 (dV 0) Za)))
 (Zf (Y6 6 (Wz (Z1 (dV 4) (Z1 (dC (.bl true)) (Z1 (Zr Wa (Z1 (dV 0) (Z1 (dV 2) Za))) (Z1 (Wz (Z1 (dO Yi (dV 5) (dC (.int 0))) Za)) Za))))))
 (Zf (Y6 7 (Wz (Z1 (dV 4) (Z1 (dC (.bl false)) (Z1 (Zr Wa (Z1 (dV 0) (Z1 (dV 3) Za))) (Z1 (Wz (Z1 (dO Yi (dV 5) (dC (.int 1))) Za)) Za))))))
 (Zf (Eo 8 (dF UD (Z1 (dO Yi (dV 0) (dC (.int 1))) Za)))
 (Zf (Ru 8 (dV 2) (Zr Di (Z1 (dO Yi (dP 8) (dV 2)) (Z1 (dO Yi (dV 5) (dC (.int 0))) Za))))
 (Zf (Ru 8 (dV 3) (Zr Di (Z1 (dO Yi (dP 8) (dV 3)) (Z1 (dO Yi (dV 5) (dC (.int 1))) Za))))
 (Yq (Wz (Z1 (dO Au (dO Yi (dV 0) (dC (.int 0))) (Wz (Z1 (Wz (Z1 (dV 1) (Z1 (dC (.str "made")) Za))) Za))) (Z1 (dF tupleD (Z1 (dO We (dP 8) (dL (Ts (Z1 (dV 6) (Z1 (dV 7) Za))))) Za)) (Z1 (dO Yi (dV 0) (dC (.int 2))) (Z1 (dO Yi (dV 0) (dC (.int 3))) Za)))))))))))))))
def Vl:C3 Dat->Rs:=Yg 9 4 Qf
def Qy:Ev->Fl:=(Zf (QS JR (fun _=>true) (U5 U0 (Z1 (dV 0) (Z1 (dV 1) Za))) (Yq (dC (.bl false))))
 (Yq (dC (.bl true))))
def Q4:C3 Dat->Rs:=Yg 2 2 Qy
def My:Ev->Fl:=(Nt (RP 4 Vl Q4) (RO 4 (Z1 (dV 0) (Z1 (dV 1) (Z1 (dV 2) (Z1 (dV 3) Za)))) (Z1 (dV 4) Za)))
def Jz:C3 Dat->Rs:=Yg 5 5 My
def Qc:Ev->Fl:=(Zf (U5 V5 (Z1 (dV 0) (Z1 (dV 2) Za)))
 (Zf (U5 Uo (Z1 (dV 0) (Z1 (dV 1) Za)))
 (Zf (Y6 3 (Zr T5 (Z1 (dV 0) Za)))
 (Zf (Qo (Tp (dV 3)) (Y7 4) (Qo (Tp (dV 3)) (Y7 5) (Qp (Dl (dB (dO KZ (dV 4) (dV 5))) (dT (Zr Jz (Z1 (dV 0) (Z1 (dV 1) (Z1 (dV 4) (Z1 (dV 5) (Z1 (dV 2) Za)))))))) (Yq (Wz (Z1 (dV 4) (Z1 (dV 5) (Z1 (Zr Vl (Z1 (dV 0) (Z1 (dV 1) (Z1 (dV 4) (Z1 (dV 5) Za))))) Za))))) U6)))
 (Yq (dC .non))))))
def Rk:C3 Dat->Rs:=Yg 6 3 Qc
def Qv:Ev->Fl:=(Zf (Y6 2 (dO We (dO Es (dC (.int 7919)) (dV 1)) (dC (.int 12345))))
 (Zf (Qp (dB (dO OE (dV 1) (dF Vb (Z1 (dV 0) Za)))) (Y6 2 (dO We (dV 2) (dO Es (dO Yi (dV 0) (dV 1)) (dC (.int 6364136223846793005))))) U6)
 (Yq (dO Ua (dO Es (dV 2) (dC (.int 48271))) (dC (.int 1000000000039))))))
def Yo:C3 Dat->Rs:=Yg 3 2 Qv
def Tw:Ev->Fl:=(Zf (Y6 2 (dC (.str "abcdefghijklmnopqrstuvwxyz")))
 (Zf (Y6 3 (dO We (dC (.int 2)) (dO Ua (dV 0) (dC (.int 7)))))
 (Zf (Y6 4 (dO Ua (dO V7 (dV 0) (dC (.int 7))) (dV 3)))
 (Zf (Y6 5 (dC (.str "")))
 (Zf (Qo (Vz (Z1 (dV 3) Za)) (Y7 6) (Zf (Y6 7 (dC (.int 0)))
 (Zf (Qp (dB (dO Sz (dV 6) (dV 4))) (Y6 7 (dV 1)) U6)
 (Y6 5 (dO We (dV 5) (dO Yi (dV 2) (dO Ua (dO We (dO We (dO V7 (dV 0) (dC (.int 49))) (dO Es (dC (.int 5)) (dV 6))) (dO Es (dC (.int 7)) (dV 7))) (dC (.int 26)))))))))
 (Zf (Qp (dB (dO F0 (dV 5) (dL (Ts (Z1 (dC (.str "given")) (Z1 (dC (.str "made")) (Z1 (dC (.str "up")) (Z1 (dC (.str "down")) (Z1 (dC (.str "start")) Za))))))))) (Y6 5 (dO We (dS Ce (dV 5) (Qr (dC (.int 1))) Rv) (dC (.str "q")))) U6)
 (Yq (dV 5))))))))
def Mm:C3 Dat->Rs:=Yg 8 2 Tw
def Td:Ev->Fl:=(Zf (Eo 3 (Ts Za))
 (Zf (Qo (Vz (Z1 (dV 2) Za)) (Y7 4) (Zf (Y6 5 (Zr Yo (Z1 (dV 0) (Z1 (dO We (dV 1) (dV 4)) Za))))
 (Zf (Y6 6 (dO Ua (dV 5) (dO We (dF Vb (Z1 (dP 3) Za)) (dC (.int 1)))))
 (Zf (D8 3 Kh (Z1 (dV 6) (Z1 (dV 4) Za)))
 (Zf (Y6 7 (dO Ua (dO V7 (dV 5) (dC (.int 64))) (dO G4 (dF Vb (Z1 (dP 3) Za)) (dV 6))))
 (D8 3 Kh (Z1 (dO We (dO We (dV 6) (dC (.int 1))) (dV 7)) (Z1 (dV 4) Za))))))))
 (Iy 3)))
def R9:C3 Dat->Rs:=Yg 8 3 Td
def Ug:Ev->Fl:=(Zf (Eo 4 (Ts Za))
 (Zf (Qo (Vz (Z1 (dV 2) Za)) (Y7 5) (Zf (Y6 6 (Zr Yo (Z1 (dV 0) (Z1 (dO We (dV 1) (dV 5)) Za))))
 (Zf (Y6 7 (dO Ua (dV 6) (dV 3)))
 (Zf (Y6 8 (dO Ua (dO V7 (dV 6) (dC (.int 64))) (dV 3)))
 (Qp (Dl (dB (dO KZ (dV 7) (dV 8))) (dB (dO Ss (Wz (Z1 (dF QF (Z1 (dV 7) (Z1 (dV 8) Za))) (Z1 (dF QA (Z1 (dV 7) (Z1 (dV 8) Za))) Za))) (dP 4)))) (D8 4 Uy (Z1 (Wz (Z1 (dF QF (Z1 (dV 7) (Z1 (dV 8) Za))) (Z1 (dF QA (Z1 (dV 7) (Z1 (dV 8) Za))) Za))) Za)) U6)))))
 (Iy 4)))
def Jx:C3 Dat->Rs:=Yg 9 4 Ug
def Ut:Ev->Fl:=(Zf (Y6 4 (Zr R9 (Z1 (dV 0) (Z1 (dV 1) (Z1 (dV 2) Za)))))
 (Zf (Y6 5 (dO Es (dC (.int 2)) (dV 2)))
 (Zf (Y6 6 (Zr Yo (Z1 (dV 0) (Z1 (dO We (dV 1) (dV 2)) Za))))
 (Zf (Y6 7 (Zr Jx (Z1 (dV 0) (Z1 (dO We (dO We (dV 1) (dV 2)) (dC (.int 1))) (Z1 (dV 3) (Z1 (dV 5) Za))))))
 (Zf (Qp (dB (dO Sz (dO Ua (dV 6) (dC (.int 3))) (dC (.int 0)))) (Y6 7 (dO We (dV 7) (dL (V9 (Vz (Z1 (dO G4 (dV 5) (dC (.int 1))) Za)) [none,some 7] (Y7 0) (dB (dO Ss (Wz (Z1 (dV 0) (Z1 (dO We (dV 0) (dC (.int 1))) Za))) (dV 1))) (Wz (Z1 (dV 0) (Z1 (dO We (dV 0) (dC (.int 1))) Za))))))) U6)
 (Zf (Qo (Vz (Z1 (dV 2) Za)) (Y7 8) (Zf (Y6 9 (dM "list" Xi (dV 4) (Z1 (dV 8) Za)))
 (Zf (Y6 10 (dO We (dO We (dV 9) (dC (.int 1))) (dM "list" Xi (dS Ce (dV 4) (Qr (dO We (dV 9) (dC (.int 1)))) Rv) (Z1 (dV 8) Za))))
 (Y6 7 (dO We (dL (V9 (Tp (dV 7)) [none,some 9,some 10] (Y7 0) (dB (dO KZ (dV 0) (Wz (Z1 (dV 1) (Z1 (dV 2) Za))))) (dV 0))) (dL (Ts (Z1 (Wz (Z1 (dV 9) (Z1 (dV 10) Za))) Za))))))))
 (Zf (A5 11 (Tp (dV 4)) [none] (Y7 0))
 (Zf (A5 12 (Tp (dV 4)) [none] (Y7 0))
 (Zf (Y6 13 (dC (.int 0)))
 (Zf (Y6 14 (dO Ua (dO V7 (dV 6) (dC (.int 3))) (dC (.int 20))))
 (Zf (Qo (Tp (dV 7)) (Nb 2 (Wk (Y7 15) (Wk (Y7 16) Dg))) (Zf (O2 12 (dV 15) (Z1 (dV 14) Za))
 (Zf (O2 11 (dV 16) (Z1 (dV 14) Za))
 (Zf (O2 12 (dV 16) (Z1 (dO We (dV 14) (dC (.int 1))) Za))
 (Zf (O2 11 (dV 15) (Z1 (dO We (dV 14) (dC (.int 1))) Za))
 (Zf (Y6 13 (dO OP (dV 13) (dO OB (dC (.int 1)) (dO We (dV 14) (dC (.int 1))))))
 (Y6 14 (dO We (dV 14) (dC (.int 2))))))))))
 (Zf (Y6 17 (dO Ua (dO V7 (dV 6) (dC (.int 60))) (dO OB (dC (.int 1)) (dV 2))))
 (Zf (Y6 18 (dV 17))
 (Zf (Eo 19 (Ts Za))
 (Zf (Qo (Pz (dV 4)) (Nb 2 (Wk (Y7 20) (Wk (Y7 8) Dg))) (Zf (D8 19 Uy (Z1 (Wz (Z1 (dV 8) (Z1 (dO Sz (dO Pb (dO PU (dV 18) (dV 8)) (dC (.int 1))) (dC (.int 0))) (Z1 (dF tupleD (Z1 (dL (dF Kk (Z1 (PY 11 (dV 20)) Za))) Za)) (Z1 (dF tupleD (Z1 (dL (dF Kk (Z1 (PY 12 (dV 20)) Za))) Za)) Za))))) Za))
 (Y6 18 (dO TB (dV 18) (dO OB (dC (.int 1)) (dV 8))))))
 (Zf (Y6 21 (dO Ua (dO V7 (dV 6) (dC (.int 2000))) (dV 5)))
 (Zf (Eo 19 (dO Oh (dS Ce (dP 19) (Qr (dV 21)) Rv) (dS Ce (dP 19) Rv (Qr (dV 21)))))
 (Zf (Y6 22 (dO V7 (dV 6) (dC (.int 40000))))
 (Zf (Y6 23 (dL (V9 (Vz (Z1 (dV 2) Za)) [none,some 22,some 0,some 1] (Y7 0) V6 (Wz (Z1 (Zr Mm (Z1 (dV 1) (Z1 (dV 0) Za))) (Z1 (dO Yi (dL (Ts (Z1 (dC (.str "given")) (Z1 (dC (.str "made")) Za)))) (dO Ua (dO V7 (Zr Yo (Z1 (dV 2) (Z1 (dO We (dV 3) (dV 0)) Za))) (dC (.int 4096))) (dC (.int 2)))) Za))))))
 (Yq (Wz (Z1 (dF tupleD (Z1 (dV 23) Za)) (Z1 (dF tupleD (Z1 (dP 19) Za)) (Z1 (dV 13) (Z1 (dV 17) Za)))))))))))))))))))))))))
def Mx:C3 Dat->Rs:=Yg 24 4 Ut
def Wy:Ev->Fl:=(Zf (Eo 2 (dF UD (Z1 (dO Yi (dV 0) (dC (.int 0))) Za)))
 (Zf (Ru 2 (dV 1) (Wz (Z1 (dO Yi (dO Yi (dP 2) (dV 1)) (dC (.int 0))) (Z1 (dC (.str "made")) Za))))
 (Yq (dO Au (Wz (Z1 (dF tupleD (Z1 (dP 2) Za)) Za)) (dS Ce (dV 0) (Qr (dC (.int 1))) Rv)))))
def T7:C3 Dat->Rs:=Yg 3 2 Wy
def Vf:Ev->Fl:=(Zf (Y6 2 (dC (.str "abcdefghijklmnopqrstuvwxyz")))
 (Zf (Y6 3 (dL (V9 (Tp (dV 1)) [none] (Y7 0) V6 (dO Yi (dV 0) (dC (.int 0))))))
 (Zf (Qo (Vz (Z1 (dC (.int 26)) Za)) (Y7 4) (Zf (Y6 5 (dC (.str "")))
 (Zf (Qo (Vz (Z1 (dO We (dC (.int 1)) (dO Ua (dV 0) (dC (.int 8)))) Za)) (Y7 6) (Y6 5 (dO We (dV 5) (dO Yi (dV 2) (dO Ua (dO We (dO We (dO V7 (dV 0) (dC (.int 8))) (dO Es (dC (.int 11)) (dV 6))) (dV 4)) (dC (.int 26)))))))
 (Qp (Dl (dB (dO Ss (dV 5) (dV 3))) (dB (dO Ss (dV 5) (dL (Ts (Z1 (dC (.str "given")) (Z1 (dC (.str "made")) (Z1 (dC (.str "up")) (Z1 (dC (.str "down")) (Z1 (dC (.str "start")) Za)))))))))) (Yq (dV 5)) U6))))
 (Yq (dC (.str "zzzzzzzz"))))))
def Tn:C3 Dat->Rs:=Yg 7 2 Vf
def Wj:Ev->Fl:=(Zf (Y6 5 (dC .non))
 (Zf (ON (Ps JR) 6 (Qp (dB (dO Sz (dV 0) (dC (.int 0)))) (U5 Vl (Z1 (dV 1) (Z1 (dV 2) (Z1 (dV 3) (Z1 (dV 4) Za))))) (Qp (dB (dO Sz (dV 0) (dC (.int 1)))) (U5 Jz (Z1 (dV 1) (Z1 (dV 2) (Z1 (dV 3) (Z1 (dV 4) (Z1 (dC (.int 60)) Za)))))) (U5 Rk (Z1 (dV 1) (Z1 (dV 2) (Z1 (dC (.int 60)) Za)))))) (Y6 5 (dV 6)))
 (Yq (dV 5))))
def Yr:C3 Dat->Rs:=Yg 7 5 Wj
def Vh:Ev->Fl:=(Zf (Eo 1 (Ts (Z1 (LK (Qm JR "Broken") (dV 0)) (Z1 (LK (Qm JR "Crowded") (dV 0)) (Z1 (LK (Qm JR "CalledOff") (dV 0)) Za)))))
 (Zf (Eo 1 (dO Oh (dP 1) (dL (Ts (Z1 (LK (Qm JR "TooMany") (dV 0)) (Z1 (LK (Qm JR "NoText") (dV 0)) (Z1 (LK (Qm JR "NoMove") (dV 0)) Za)))))))
 (Zf (D8 1 Uy (Z1 (LK (Qm JR "Clash") (dV 0)) Za))
 (Yq (QG (LK (Qm JR "NoPlace") (dV 0)) (QG (LK (A6 JR) (dV 0)) (SF (dF Ax (Z1 (dP 1) Za)))))))))
def Wt:C3 Dat->Rs:=Yg 2 1 Vh
def Jt:Ev->Fl:=(Yq (NR (dO Sz (dO Pb (dO PU (dO Yi (dV 0) (dC (.int 2))) (dV 1)) (dC (.int 1))) (dC (.int 1))) (dF Ax (Z1 (dL (V9 (Tp (dO Yi (dV 0) (dC (.int 1)))) [none,some 1] (Y7 0) V6 (NR (dO F0 (dV 1) (dO Yi (dV 0) (dC (.int 2)))) (dO F0 (dV 1) (dO Yi (dV 0) (dC (.int 3))))))) Za))))
def S3:C3 Dat->Rs:=Yg 2 2 Jt
def Wb:Ev->Fl:=(Zf (SE (dV 0) (Nb 4 (Wk (Y7 4) (Wk (Y7 5) (Wk (Y7 6) (Wk (Y7 7) Dg))))))
 (Zf (Qp (dB (dO Sz (dV 1) (dC (.int 6)))) (Zf (Y6 8 (dL (V9 (Vz (Z1 (dO G4 (dO G4 (dC (.int 10)) (dV 3)) (dF Vb (Z1 (dV 4) Za))) Za)) [none] (Y7 0) V6 (dO Es (dO Yi (dC (.str "abcdefghij")) (dV 0)) (dC (.int 8))))))
 (Yq (Wz (Z1 (dO Au (dV 4) (dF tupleD (Z1 (dL (V9 (Tp (dV 8)) [none] (Y7 0) V6 (Wz (Z1 (dV 0) (Z1 (dC (.str "made")) Za))))) Za))) (Z1 (dV 5) (Z1 (dV 6) (Z1 (dV 7) Za))))))) U6)
 (Zf (Qp (dB (dO Sz (dV 1) (dC (.int 7)))) (Zf (Y6 9 (dL (V9 (Vz (Z1 (dC (.int 64)) Za)) [none,some 0] (Y7 0) (Md (dT (Zr S3 (Z1 (dV 1) (Z1 (dV 0) Za))))) (dV 0))))
 (Zf (Y6 9 (dS Ce (dL (Ts (Z1 (dO Yi (dV 9) (dO Ua (dV 2) (dF Vb (Z1 (dV 9) Za)))) (Z1 (dO Yi (dV 9) (dO Ua (dO We (dO We (dV 2) (dC (.int 1))) (dO Ua (dO V7 (dV 2) (dC (.int 64))) (dO G4 (dF Vb (Z1 (dV 9) Za)) (dC (.int 1))))) (dF Vb (Z1 (dV 9) Za)))) Za)))) Rv (Qr (dO We (dC (.int 1)) (dV 3)))))
 (Zf (Y6 10 (dF tupleD (Z1 (dL (V9 (Vz (Z1 (dC (.int 64)) Za)) [none,some 9] (Y7 0) (dB (dO Ss (dV 0) (dV 1))) (dV 0))) Za)))
 (Zf (Y6 11 (dO Yi (dV 5) (dC (.int 0))))
 (Yq (Wz (Z1 (dV 4) (Z1 (dO Au (Wz (Z1 (Wz (Z1 (dO Yi (dV 11) (dC (.int 0))) (Z1 (dO Yi (dV 11) (dC (.int 1))) (Z1 (dO Yi (dV 11) (dC (.int 2))) (Z1 (dV 10) Za))))) Za)) (dS Ce (dV 5) (Qr (dC (.int 1))) Rv)) (Z1 (dV 6) (Z1 (dV 7) Za)))))))))) U6)
 (Zf (Y6 8 (dL (V9 (Vz (Z1 (dO G4 (dO G4 (dC (.int 23)) (dV 3)) (dF Vb (Z1 (dV 5) Za))) Za)) [none,some 5] (Y7 0) V6 (dO Yi (dV 1) (dO Ua (dV 0) (dF Vb (Z1 (dV 1) Za)))))))
 (Yq (Wz (Z1 (dV 4) (Z1 (dO Au (dV 5) (dF tupleD (Z1 (dV 8) Za))) (Z1 (dV 6) (Z1 (dV 7) Za))))))))))
def Wl:C3 Dat->Rs:=Yg 12 4 Wb
def Tu:Ev->Fl:=(Yq (QG (dO UM (Zr Yr (Z1 (dC (.int 0)) (Z1 (dV 0) (Z1 (dV 1) (Z1 (dV 2) (Z1 (dV 3) Za)))))) (dC .non)) (dO UM (Zr Yr (Z1 (dC (.int 1)) (Z1 (dV 0) (Z1 (dV 1) (Z1 (dV 2) (Z1 (dV 3) Za)))))) (dC .non))))
def Me:C3 Dat->Rs:=Yg 4 4 Tu
def Vd:Ev->Fl:=(Zf (Y6 2 (dL (Ts (Z1 (dC (.str "")) (Z1 (dC (.str "abcdefghi")) (Z1 (dC (.str "Ab")) (Z1 (dC (.str "a1")) (Z1 (dC (.str "a b")) (Z1 (dC (.str "given")) (Z1 (dC (.str "made")) (Z1 (dC (.str "up")) (Z1 (dC (.str "down")) (Z1 (dC (.str "start")) (Z1 (dC (.str " a")) (Z1 (dC (.str "a-")) Za)))))))))))))))
 (Zf (Y6 2 (dO We (dV 2) (dL (dO QW (dL (V9 (Tp (dO Yi (dV 1) (dC (.int 0)))) [none] (Y7 0) V6 (dO Yi (dV 0) (dC (.int 0))))) (dC (.int 2))))))
 (Yq (dO Yi (dV 2) (dO Ua (dV 0) (dF Vb (Z1 (dV 2) Za)))))))
def Vg:C3 Dat->Rs:=Yg 3 2 Vd
def Ta:Ev->Fl:=(Zf (Y6 5 (dL (Ts (Z1 (dO MN (dV 4) (dC (.int 0))) (Z1 (dO MN (dV 4) (dC (.int 0))) (Z1 (NR (dO Sz (dV 4) (dC (.int 1))) (dO MN (dV 4) (dC (.int 5)))) Za))))))
 (Zf (Qo (Vz (Z1 (dC (.int 3)) Za)) (Y7 6) (Qp (Lg (dB (dO OE (dV 6) (dC (.int 2)))) (Lg (dT (dO Yi (dV 5) (dC (.int 2)))) (dB (dO Sz (dV 4) (dC (.int 0)))))) (Zf (Qp (Dl (dB (dO Sz (dV 6) (dC (.int 2)))) (dB (dO MN (dV 4) (dC (.int 6))))) (fun env=>.cont env) U6)
 (Zf (Y6 7 (Zr Yr (Z1 (dV 6) (Z1 (dV 0) (Z1 (dV 1) (Z1 (dV 2) (Z1 (dV 3) Za)))))))
 (Qp (Lg (Dl (dT (dO Yi (dV 5) (dV 6))) (Md (dT (Zr Wt (Z1 (dV 7) Za))))) (Dl (Md (dT (dO Yi (dV 5) (dV 6)))) (dB (dO QL (dV 7) (dC .non))))) (Yq (dC (.bl false))) U6))) U6))
 (Yq (dC (.bl true)))))
def Yf:C3 Dat->Rs:=Yg 8 5 Ta
def Wv:Ev->Fl:=(Zf (Y6 3 (dF tupleD (Z1 (dL (V9 (Tp (dO Yi (dV 0) (dC (.int 0)))) [none] (Y7 0) V6 (Wz (Z1 (dO Yi (dV 0) (dC (.int 0))) (Z1 (dC (.str "given")) Za))))) Za)))
 (Zf (Y6 4 (dO Au (Wz (Z1 (dV 3) Za)) (dS Ce (dV 0) (Qr (dC (.int 1))) Rv)))
 (Zf (Qp (dB (dO QL (Zr Yr (Z1 (dC (.int 2)) (Z1 (dV 4) (Z1 (dV 1) (Z1 (dC (.int 0)) (Z1 (dC (.int 1)) Za)))))) (dC .non))) (Yq (dC (.bl false))) U6)
 (Zf (Qp (Md (dT (Zr Wt (Z1 (Zr Yr (Z1 (dC (.int 2)) (Z1 (dV 4) (Z1 (Zr Vg (Z1 (dV 2) (Z1 (dV 4) Za))) (Z1 (dC (.int 0)) (Z1 (dC (.int 1)) Za)))))) Za)))) (Yq (dC (.bl false))) U6)
 (Yq (Zr Wt (Z1 (Zr Yr (Z1 (dC (.int 2)) (Z1 (Zr Wl (Z1 (dV 4) (Z1 (dC (.int 6)) (Z1 (dV 2) (Z1 (dC (.int 0)) Za))))) (Z1 (dV 1) (Z1 (dC (.int 0)) (Z1 (dC (.int 1)) Za)))))) Za)))))))
def Uv:C3 Dat->Rs:=Yg 5 3 Wv
def A9:Ev->Fl:=(Zf (Y6 1 (dO We (dC (.int 1)) (dO Ua (Zr Yo (Z1 (dV 0) (Z1 (dC (.int 0)) Za))) (dC (.int 3)))))
 (Zf (Y6 2 (Zr Yo (Z1 (dV 0) (Z1 (dC (.int 2)) Za))))
 (Zf (Y6 3 (Zr T7 (Z1 (Zr Mx (Z1 (dV 0) (Z1 (dC (.int 3)) (Z1 (dV 1) (Z1 (dO Ua (Zr Yo (Z1 (dV 0) (Z1 (dC (.int 1)) Za))) (dC (.int 3))) Za))))) (Z1 (dO Ua (dO V7 (dV 2) (dC (.int 6))) (dV 1)) Za))))
 (Zf (Eo 4 (V9 (Pz (dO Yi (dV 3) (dC (.int 1)))) [none,none,some 3] (Nb 2 (Wk (Y7 0) (Wk (Y7 1) Dg))) (dB (dO Sz (dO Yi (dO Yi (dO Yi (dV 2) (dC (.int 0))) (dO Yi (dV 1) (dC (.int 0)))) (dC (.int 1))) (dC (.str "made")))) (dV 0)))
 (Zf (Y6 5 (dL (V9 (Vz (Z1 (dF Vb (Z1 (dO Yi (dV 3) (dC (.int 1))) Za)) Za)) [none,some 4] (Y7 0) (dB (dO Ss (dV 0) (dP 1))) (dV 0))))
 (Zf (X6 6 4 (Z1 (dO Ua (dO V7 (dV 2) (dC (.int 7))) (dF Vb (Z1 (dP 4) Za))) Za))
 (Zf (Y6 7 (dO Yi (dP 4) (dO Ua (dO V7 (dV 2) (dC (.int 77))) (dF Vb (Z1 (dP 4) Za)))))
 (Zf (Y6 8 (Zr Tn (Z1 (dO V7 (dV 2) (dC (.int 600))) (Z1 (dO Yi (dV 3) (dC (.int 0))) Za))))
 (Zf (Qp (Lg (Md (dT (Zr Yf (Z1 (dV 3) (Z1 (dV 8) (Z1 (dV 6) (Z1 (dV 7) (Z1 (dC (.int 0)) Za)))))))) (Md (dT (Zr Uv (Z1 (dV 3) (Z1 (dV 8) (Z1 (dO V7 (dV 2) (dC (.int 160000))) Za))))))) (Yq (dC (.bl false))) U6)
 (Zf (Y6 9 (dO We (dC (.int 1)) (dO Ua (dO V7 (dV 2) (dC (.int 20000))) (dC (.int 8)))))
 (Zf (Qp (dB (dO Sz (dV 9) (dC (.int 1)))) (Yq (Zr Yf (Z1 (dV 3) (Z1 (Zr Vg (Z1 (dO V7 (dV 2) (dC (.int 160000))) (Z1 (dV 3) Za))) (Z1 (dV 6) (Z1 (dV 7) (Z1 (dC (.int 1)) Za))))))) U6)
 (Zf (Qp (dB (dO Sz (dV 9) (dC (.int 2)))) (Yq (Zr Yf (Z1 (dV 3) (Z1 (dV 8) (Z1 (dO Yi (dL (Ts (Z1 (dO G4 (dU RD (dC (.int 1))) (dO Ua (dO V7 (dV 2) (dC (.int 160000))) (dC (.int 50)))) (Z1 (dO We (dC (.int 6)) (dO V7 (dV 2) (dC (.int 160000)))) Za)))) (dO Ua (dV 2) (dC (.int 2)))) (Z1 (dV 7) (Z1 (dC (.int 2)) Za))))))) U6)
 (Zf (Qp (dB (dO Sz (dV 9) (dC (.int 3)))) (Yq (Zr Yf (Z1 (dV 3) (Z1 (dV 8) (Z1 (dV 6) (Z1 (dO Yi (dL (Ts (Z1 (dO G4 (dC (.int 0)) (dC (.int 1))) (Z1 (dF Vb (Z1 (dO Yi (dV 3) (dC (.int 1))) Za)) Za)))) (dO Ua (dV 2) (dC (.int 2)))) (Z1 (dC (.int 3)) Za))))))) U6)
 (Zf (Qp (dB (dO Sz (dV 9) (dC (.int 4)))) (Yq (Zr Yf (Z1 (dV 3) (Z1 (dV 8) (Z1 (dV 6) (Z1 (dV 6) (Z1 (dC (.int 4)) Za))))))) U6)
 (Zf (Qp (dB (dO Sz (dV 9) (dC (.int 5)))) (Zf (Y6 10 (dO Yi (dO We (dV 5) (dL (Ts (Z1 (dC (.int 24)) Za)))) (dO Ua (dV 2) (dO We (dF Vb (Z1 (dV 5) Za)) (dC (.int 1))))))
 (Yq (Zr Yf (Z1 (dV 3) (Z1 (dV 8) (Z1 (dO Yi (dL (Ts (Z1 (dV 6) (Z1 (dV 10) Za)))) (dO Ua (dO V7 (dV 2) (dC (.int 7))) (dC (.int 2)))) (Z1 (dV 10) (Z1 (dC (.int 5)) Za)))))))) U6)
 (Zf (Qp (Md (dT (Zr Yf (Z1 (Zr Wl (Z1 (dV 3) (Z1 (dV 9) (Z1 (dO V7 (dV 2) (dC (.int 160000))) (Z1 (dC (.int 0)) Za))))) (Z1 (dV 8) (Z1 (dV 6) (Z1 (dV 7) (Z1 (dV 9) Za)))))))) (Yq (dC (.bl false))) U6)
 (Zf (Qp (Md (dT (Zr Me (Z1 (Zr Wl (Z1 (dV 3) (Z1 (dV 9) (Z1 (dO V7 (dV 2) (dC (.int 160000))) (Z1 (dC (.int 1)) Za))))) (Z1 (dV 8) (Z1 (dV 6) (Z1 (dV 7) Za))))))) (Yq (dC (.bl false))) U6)
 (Yq (Zr Yf (Z1 (dV 3) (Z1 (dV 8) (Z1 (dV 6) (Z1 (dV 7) (Z1 (dC (.int 0)) Za))))))))))))))))))))))))
def XF:C3 Dat->Rs:=Yg 11 1 A9
theorem Qn{N P:C3 Str}(h1:sc.kind=.function:=by rfl)(h2:sc.isCoroutine=false:=by rfl)(h3:sc.isGenerator=false:=by rfl)(h4:N.Nodup:=by decide +kernel)(h5:N.take P.length=P:=by rfl)(h6:∀ x∈P,sc.names.lookup x=some .local\/sc.names.lookup x=some .cell:=by decide +kernel)(h7:∀ y∈sc.names,y.2≠.free:=by decide +kernel):FnScope N P sc:=⟨h1,h2,h3,h4,h5,h6,h7⟩
def Qi(i:Nat):C5:=PySem.Challenge.pw_calmwires_k72_no_place.main.body.getD i (.Pass ⟨0,0,0,0⟩)
abbrev Rb:C5:=Qi 14
theorem mT:FnScope ["text"] ["text"] (Z6 Rb):=Qn
abbrev Gy:C5:=Qi 15
theorem ir:FnScope JW JW (Z6 Gy):=Qn
abbrev Hc:C5:=Qi 17
theorem mo:FnScope LA LA (Z6 Hc):=Qn
abbrev N9:C5:=Qi 16
theorem dR:FnScope JW JW (Z6 N9):=Qn
abbrev Jh:C5:=Qi 18
theorem jb:FnScope LG LG (Z6 Jh):=Qn
abbrev Gq:C5:=Qi 19
theorem iR:FnScope JX JX (Z6 Gq):=Qn
abbrev Gj:C5:=Qi 20
theorem lY:FnScope JX JX (Z6 Gj):=Qn
abbrev Dz:C5:=Qi 21
theorem fS:FnScope JX JX (Z6 Dz):=Qn
abbrev Dv:C5:=Qi 22
theorem l6:FnScope JX JX (Z6 Dv):=Qn
abbrev Bh:C5:=Qi 23
theorem P3:FnScope ["some","number","place"] ["some"] (Z6 Bh):=Qn
abbrev Hb:C5:=Qi 24
theorem i9:FnScope LH LH (Z6 Hb):=Qn
abbrev UI:C5:=Qi 26
theorem cR:FnScope ["graph","stand","step","takes"] KS (Z6 UI):=Qn
abbrev K6:C5:=Qi 27
theorem Gm:FnScope SM KS (Z6 K6):=Qn
abbrev Jq:C5:=Qi 29
theorem my:FnScope LD LD (Z6 Jq):=Qn
abbrev TU:C5:=Qi 31
theorem Bb:FnScope ["found","n","steps","at"] MD (Z6 TU):=Qn
abbrev Gs:C5:=Qi 30
theorem fY:FnScope MI MI (Z6 Gs):=Qn
abbrev K0:C5:=Qi 28
theorem Q2:FnScope RW KF (Z6 K0):=Qn
abbrev Tv:C5:=Qi 34
theorem B9:FnScope LL LL (Z6 Tv):=Qn
abbrev Oz:C5:=Qi 33
theorem iH:FnScope LY LY (Z6 Oz):=Qn
abbrev B2:C5:=Qi 35
theorem ZK:FnScope ["graph","by","lost","kept"] KO (Z6 B2):=Qn
abbrev Qa:C5:=Qi 38
theorem Oa:FnScope KO KO (Z6 Qa):=Qn
abbrev Ku:C5:=Qi 37
theorem Gp:FnScope ["graph","pairs","by","lost"] JW (Z6 Ku):=Qn
abbrev Ot:C5:=Qi 36
theorem Mg:FnScope SN KF (Z6 Ot):=Qn
abbrev J6:C5:=Qi 42
theorem kN:FnScope LQ LQ (Z6 J6):=Qn
abbrev Dk:C5:=Qi 43
theorem iI:FnScope LN LN (Z6 Dk):=Qn
abbrev Wc:C5:=Qi 41
theorem Ww:FnScope NG NI (Z6 Wc):=Qn
abbrev Sl:C5:=Qi 40
theorem Mz:FnScope ["graph","most","found","told","first"] KF (Z6 Sl):=Qn
abbrev T8:C5:=Qi 53
theorem Ma:FnScope PB JW (Z6 T8):=Qn
abbrev Ec:C5:=Qi 52
theorem j7:FnScope JW JW (Z6 Ec):=Qn
abbrev Sf:C5:=Qi 51
theorem Ai:FnScope LM LM (Z6 Sf):=Qn
abbrev E7:C5:=Qi 50
theorem n':FnScope MB MB (Z6 E7):=Qn
abbrev Hm:C5:=Qi 49
theorem lb:FnScope MF MF (Z6 Hm):=Qn
abbrev Tb:C5:=Qi 54
theorem F6:FnScope JW JW (Z6 Tb):=Qn
abbrev K5:C5:=Qi 48
theorem Ri:FnScope YB MG (Z6 K5):=Qn
abbrev Hf:C5:=Qi 56
theorem jC:FnScope KF KF (Z6 Hf):=Qn
abbrev P5:C5:=Qi 55
theorem d6:FnScope LO LO (Z6 P5):=Qn
abbrev Lj:C5:=Qi 57
theorem Gv:FnScope QY NV (Z6 Lj):=Qn
abbrev Du:C5:=Qi 59
theorem Gg:FnScope ["_law_script","_law_k","_law_number"] LR (Z6 Du):=Qn
abbrev Sa:C5:=Qi 60
theorem Wi:FnScope cy NM (Z6 Sa):=Qn
abbrev R3:C5:=Qi 61
theorem Uh:FnScope YW NL (Z6 R3):=Qn
abbrev M9:C5:=Qi 62
theorem Vu:FnScope YF NT (Z6 M9):=Qn
abbrev Yn:C5:=Qi 63
theorem Zm:FnScope OT NJ (Z6 Yn):=Qn
abbrev T6:C5:=Qi 64
theorem Sd:FnScope SS NF (Z6 T6):=Qn
abbrev Vc:C5:=Qi 65
theorem Wd:FnScope WQ NY (Z6 Vc):=Qn
abbrev Jw:C5:=Qi 66
theorem Q9:FnScope cn MC (Z6 Jw):=Qn
abbrev Tk:C5:=Qi 67
theorem Jp:FnScope ["_law_caught_here","_law_some"] MP (Z6 Tk):=Qn
abbrev Jk:C5:=Qi 69
theorem fZ:FnScope LI LI (Z6 Jk):=Qn
abbrev W1:C5:=Qi 68
theorem W8:FnScope OW MT (Z6 W1):=Qn
abbrev Sn:C5:=Qi 70
theorem Cu:FnScope MH MH (Z6 Sn):=Qn
abbrev Ve:C5:=Qi 71
theorem Jm:FnScope PN MR (Z6 Ve):=Qn
abbrev R6:C5:=Qi 72
theorem M8:FnScope c7 OA (Z6 R6):=Qn
abbrev Wx:C5:=Qi 73
theorem Qh:FnScope PH NE (Z6 Wx):=Qn
abbrev Sg:C5:=Qi 74
theorem Rz:FnScope UC MQ (Z6 Sg):=Qn
structure Txt (K:JT) (mg:KB):Prop where
 b_ValueError:mg "ValueError" = none
 b_all:mg "all" = none
 b_any:mg "any" = none
 b_enumerate:mg "enumerate" = none
 b_isinstance:mg "isinstance" = none
 b_len:mg "len" = none
 b_list:mg "list" = none
 b_max:mg "max" = none
 b_min:mg "min" = none
 b_range:mg "range" = none
 b_reversed:mg "reversed" = none
 b_sorted:mg "sorted" = none
 b_tuple:mg "tuple" = none
 i_0:MW K mg "Broken" (Qm JR "Broken")
 i_3:MW K mg "CalledOff" (Qm JR "CalledOff")
 i_4:MW K mg "Clash" (Qm JR "Clash")
 i_1:MW K mg "Crowded" (Qm JR "Crowded")
 i_5:MW K mg "NoMove" (Qm JR "NoMove")
 i_6:MW K mg "NoPlace" (Qm JR "NoPlace")
 i_7:MW K mg "NoText" (Qm JR "NoText")
 i_2:MW K mg "TooMany" (Qm JR "TooMany")
 j_ValueError:WF K mg "ValueError" "ValueError" (A6 JR)
 k_8:TR K mg "CalmError" (Ps JR)
 q_0:P' K mg "Broken" JR
 q_1:P' K mg "Crowded" JR
 u_8:UN K mg "CalmError" JR (fun _=>true)
 c_LETTERS:ND K mg "LETTERS" c_LETTERS
 c_LONGEST_NAME:ND K mg "LONGEST_NAME" c_LONGEST_NAME
 c_MANY_SPOTS:ND K mg "MANY_SPOTS" c_MANY_SPOTS
 c_MOST_STEPS_AHEAD:ND K mg "MOST_STEPS_AHEAD" c_MOST_STEPS_AHEAD
 c_MOST_WIRES_AHEAD:ND K mg "MOST_WIRES_AHEAD" c_MOST_WIRES_AHEAD
 c_WORDS:ND K mg "WORDS" c_WORDS
section
variable{w:Fn}
theorem dZ(T:Txt X.K X.mg)(hg:Gl X "LETTERS" := by rfl):Wm m X (.Name "LETTERS" p) (dC c_LETTERS):=T.c_LETTERS.x hg
theorem Pe(T:Txt X.K X.mg)(hg:Gl X "LONGEST_NAME" := by rfl):Wm m X (.Name "LONGEST_NAME" p) (dC c_LONGEST_NAME):=T.c_LONGEST_NAME.x hg
theorem C9(T:Txt X.K X.mg)(hg:Gl X "MANY_SPOTS" := by rfl):Wm m X (.Name "MANY_SPOTS" p) (dC c_MANY_SPOTS):=T.c_MANY_SPOTS.x hg
theorem Ik(T:Txt X.K X.mg)(hg:Gl X "MOST_STEPS_AHEAD" := by rfl):Wm m X (.Name "MOST_STEPS_AHEAD" p) (dC c_MOST_STEPS_AHEAD):=T.c_MOST_STEPS_AHEAD.x hg
theorem Io(T:Txt X.K X.mg)(hg:Gl X "MOST_WIRES_AHEAD" := by rfl):Wm m X (.Name "MOST_WIRES_AHEAD" p) (dC c_MOST_WIRES_AHEAD):=T.c_MOST_WIRES_AHEAD.x hg
theorem kR(T:Txt X.K X.mg)(hg:Gl X "WORDS" := by rfl):Wm m X (.Name "WORDS" p) (dC c_WORDS):=T.c_WORDS.x hg
end
abbrev i_0:C5:=Hl (Qi 3) 0
theorem jN:FnScope MJ MJ (Z6 i_0):=Qn
abbrev i_1:C5:=Hl (Qi 4) 0
theorem d2:FnScope MJ MJ (Z6 i_1):=Qn
abbrev i_2:C5:=Hl (Qi 5) 0
theorem f0:FnScope ["self"] ["self"] (Z6 i_2):=Qn
abbrev i_3:C5:=Hl (Qi 6) 0
theorem mn:FnScope OQ OQ (Z6 i_3):=Qn
abbrev i_4:C5:=Hl (Qi 7) 0
theorem gM:FnScope OO OO (Z6 i_4):=Qn
abbrev i_6:C5:=Hl (Qi 9) 0
theorem hK:FnScope ["self"] ["self"] (Z6 i_6):=Qn
section
variable{P:Ff}{w:Fn}{K:JT}{mg:KB}{base:Gf}
theorem ko{C D:A4}(B:KJ K mg D)(z:CD K D C "Broken.__init__" i_0)(O:Wg K "Broken" C)(hm:mg "Broken" = some (.ref C))(bl:mg "list" = none)(b:PySem.W.findIn K (.ref C) "way" = some none):XMakeN P w K mg base 1 "Broken" 1 (gW "way"):=let ⟨fI,fd,F,Y,hx,xc,a⟩:=z
 ⟨⟨C,fI,D,fd,MJ,O,hm,Y,hx,xc,a,dD (k:=0) F jN hx xc b (fun ah A outer s H E Z=>(Qe (R4 (Hj B (Yu (pv 0) (Yu (Gu (Ew (Bl Z (pv 1) Cc))) U3)))) (Dq (Ow (pv 0) (J9 (Rt K) rfl bl (by decide +kernel) (Yu (pv 1) U3)))))) (fun H e a0 n0 l0 m0=>(Se (Sb P0 (by decide +kernel) rfl (.inr ⟨a0,n0,rfl,l0,m0⟩)) (by decide +kernel))),
  F.binds fun _ _ _ _ _ _ us hl=>KM us hl fun _ _=>rfl⟩,b5,by lia⟩
theorem i8{C D:A4}(B:KJ K mg D)(z:CD K D C "Crowded.__init__" i_1)(O:Wg K "Crowded" C)(hm:mg "Crowded" = some (.ref C))(bl:mg "list" = none)(b:PySem.W.findIn K (.ref C) "way" = some none):XMakeN P w K mg base 1 "Crowded" 1 (gW "way"):=let ⟨fI,fd,F,Y,hx,xc,a⟩:=z
 ⟨⟨C,fI,D,fd,MJ,O,hm,Y,hx,xc,a,dD (k:=0) F d2 hx xc b (fun ah A outer s H E Z=>(Qe (R4 (Hj B (Yu (pv 0) (Yu (Gu (Ew (Bl Z (pv 1) Cc))) U3)))) (Dq (Ow (pv 0) (J9 (Rt K) rfl bl (by decide +kernel) (Yu (pv 1) U3)))))) (fun H e a0 n0 l0 m0=>(Se (Sb P0 (by decide +kernel) rfl (.inr ⟨a0,n0,rfl,l0,m0⟩)) (by decide +kernel))),
  F.binds fun _ _ _ _ _ _ us hl=>KM us hl fun _ _=>rfl⟩,b5,by lia⟩
theorem oD{C D:A4}(B:KJ K mg D)(z:CD K D C "TooMany.__init__" i_2)(O:Wg K "TooMany" C)(hm:mg "TooMany" = some (.ref C))(bl:mg "list" = none)  : J' P w K mg base 1 "TooMany" 0 gZ:=let ⟨fI,fd,F,Y,hx,xc,a⟩:=z
 ⟨⟨C,fI,D,fd,["self"],O,hm,Y,hx,xc,a,bg (k:=0) F f0 hx (fun ah A outer s H E Z=>(Dq (R4 (Hj B (Yu (pv 0) (Yu WJ U3)))))),
  F.binds fun _ _ _ _ _ _ us hl=>MO us hl fun _=>rfl⟩,WM,by lia⟩
theorem jz{C D:A4}(B:KJ K mg D)(z:CD K D C "CalledOff.__init__" i_3)(O:Wg K "CalledOff" C)(hm:mg "CalledOff" = some (.ref C))(bl:mg "list" = none)(b:PySem.W.findIn K (.ref C) "way" = some none)(az:PySem.W.findIn K (.ref C) "lost" = some none)(aq:PySem.W.findIn K (.ref C) "by" = some none):J' P w K mg base 1 "CalledOff" 3 (gC "way" "lost" "by"):=let ⟨fI,fd,F,Y,hx,xc,a⟩:=z
 ⟨⟨C,fI,D,fd,OQ,O,hm,Y,hx,xc,a,nO (k:=0) F mn hx xc b az aq (by decide +kernel) (by decide +kernel) (by decide +kernel) (fun ah A outer s H E Z=>(Qe (R4 (Hj B (Yu (pv 0) (Yu (Gu (Ew (N8 Z (pv 2) (Ew (N8 Z (pv 3) (Ew (N8 Z (pv 1) Cc))))))) U3)))) (Qe (Ow (pv 0) (J9 (Rt K) rfl bl (by decide +kernel) (Yu (pv 1) U3))) (Qe (Ov (pv 0) (pv 2)) (Dq (Ov (pv 0) (pv 3))))))) (fun H e a0 n0 l i1 l0 m0 c v0 d v1=>(Se (Sb (Se (Sb (Se (Sb P0 (by decide +kernel) rfl (.inr ⟨a0,n0,rfl,l0,m0⟩)) (by decide +kernel)) (by decide +kernel) rfl (.inl ⟨i1,rfl,d,v1⟩)) (by decide +kernel)) (by decide +kernel) rfl (.inl ⟨l,rfl,c,v0⟩)) (by decide +kernel))),
  F.binds fun _ _ _ _ _ _ us hl=>MX us hl fun _ _ _ _=>rfl⟩,n8,by lia⟩
theorem hr{C D:A4}(B:KJ K mg D)(z:CD K D C "Clash.__init__" i_4)(O:Wg K "Clash" C)(hm:mg "Clash" = some (.ref C))(bl:mg "list" = none)(b:PySem.W.findIn K (.ref C) "one" = some none)(az:PySem.W.findIn K (.ref C) "other" = some none)(aq:PySem.W.findIn K (.ref C) "wire" = some none):J' P w K mg base 1 "Clash" 3 (gK "one" "other" "wire"):=let ⟨fI,fd,F,Y,hx,xc,a⟩:=z
 ⟨⟨C,fI,D,fd,OO,O,hm,Y,hx,xc,a,jQ (k:=0) F gM hx xc b az aq (by decide +kernel) (by decide +kernel) (by decide +kernel) (fun ah A outer s H E Z=>(Qe (R4 (Hj B (Yu (pv 0) (Yu (Gu (Ew (N8 Z (pv 3) (Ew (N8 Z (pv 1) (Ew (N8 Z (pv 2) Cc))))))) U3)))) (Qe (Ow (pv 0) (J9 (Rt K) rfl bl (by decide +kernel) (Yu (pv 1) U3))) (Qe (Ov (pv 0) (J9 (Rt K) rfl bl (by decide +kernel) (Yu (pv 2) U3))) (Dq (Ov (pv 0) (pv 3))))))) (fun H e a0 a1 n0 n1 l l0 m0 l1 m1 c v0=>(Se (Sb (Se (Sb (Se (Sb P0 (by decide +kernel) rfl (.inr ⟨a1,n1,rfl,l1,m1⟩)) (by decide +kernel)) (by decide +kernel) rfl (.inr ⟨a0,n0,rfl,l0,m0⟩)) (by decide +kernel)) (by decide +kernel) rfl (.inl ⟨l,rfl,c,v0⟩)) (by decide +kernel))),
  F.binds fun _ _ _ _ _ _ us hl=>MX us hl fun _ _ _ _=>rfl⟩,mM,by lia⟩
theorem l4{C D:A4}(B:KJ K mg D)(z:CD K D C "NoPlace.__init__" i_6)(O:Wg K "NoPlace" C)(hm:mg "NoPlace" = some (.ref C))(bl:mg "list" = none)  : J' P w K mg base 1 "NoPlace" 0 gZ:=let ⟨fI,fd,F,Y,hx,xc,a⟩:=z
 ⟨⟨C,fI,D,fd,["self"],O,hm,Y,hx,xc,a,bg (k:=0) F hK hx (fun ah A outer s H E Z=>(Dq (R4 (Hj B (Yu (pv 0) (Yu WJ U3)))))),
  F.binds fun _ _ _ _ _ _ us hl=>MO us hl fun _=>rfl⟩,WM,by lia⟩
theorem et(b:JZ K mg "is_name" Rb)(T:Txt K mg)   : G' P w K mg base 1 "is_name" ["text"] false Q0 :=
 W4 (N:=["text"]) (ps:=["text"]) (st:=Rb) (k:=0) (g:=T3) b mT (fun _ _ _ _ _ _ us hl=>MO us hl fun _=>rfl) (fun f ah A outer s H E Z=>(by
  unfold T3;refine(Zb (Uc (Oy.pt (Xr (Ws S' (Zo Wu (by rfl) T.b_len (by decide +kernel) (Z0 (Z3 0) Z8)) (Z4) (Y1 _)) (Xr (Ws OC (Zo Wu (by rfl) T.b_len (by decide +kernel) (Z0 (Z3 0) Z8)) (Pe (m:=true) T) (Y1 _)) (Pa (Ws (OK Z.units) (Z3 0) (kR (m:=true) T) (by rfl)))))) (Zh (Y9 (Vp))) Wh)
  (Zh (Y9 (U4 (eN rfl) (by rfl) T.b_all (by decide +kernel) (Z0 (Yj ?c0) Z8)))))
  case c0=>exact Vs (Z6 Rb) [none] ["sign"] rfl (show CompOk (Z6 Rb) _ ["text"] ["sign"] [none] from CompOk.of (by decide +kernel)) rfl (i0 (Z3 0)) (fun _ _ _ _=>⟨(Zq 0 (show(["sign"]:C3 Str).Nodup from by decide +kernel) rfl (AD rfl)),Mv,(Ud (OK Z.units) (Z3 0) (dZ (m:=true) T) (by rfl))⟩) (by decide)))
theorem d8(b:JZ K mg "names" Gy)(T:Txt K mg)   : G' P w K mg base 1 "names" JW true On :=
 W4 (N:=JW) (ps:=JW) (st:=Gy) (k:=0) (g:=Hi) b ir (fun _ _ _ _ _ _ us hl=>MO us hl fun _=>rfl) (fun f ah A outer s H E Z=>(by
  unfold Hi;refine(Zh (E9 ?c0))
  case c0=>exact Vs (Z6 Gy) [none,none] ["name","kind"] rfl (show CompOk (Z6 Gy) _ JW ["name","kind"] [none,none] from CompOk.of (by decide +kernel)) rfl (Jr (Zl Zv (Z3 0) (Z4) (fun _ _=>rfl))) (fun _ _ _ _=>⟨(Lh (n:=2) rfl (Wo (Zq 0 (show(["name","kind"]:C3 Str).Nodup from by decide +kernel) rfl (AD rfl)) (Wo (Zq 1 (show(["name","kind"]:C3 Str).Nodup from by decide +kernel) rfl (AD rfl)) Eb))),Mv,(Z5 0)⟩) (by decide)))
theorem hP(b:JZ K mg "is_made" Hc)(T:Txt K mg)   : G' P w K mg base 1 "is_made" LA false Vw :=
 W4 (N:=LA) (ps:=LA) (st:=Hc) (k:=0) (g:=Re) b mo (fun _ _ _ _ _ _ us hl=>KM us hl fun _ _=>rfl) (fun f ah A outer s H E Z=>(by
  unfold Re;exact(Zh (Y9 (Ud (Ms Z.units) (Zl Zv (Zl Zv (Zl Zv (Z3 0) (Z4) (fun _ _=>rfl)) (Z3 1) (fun _ _=>rfl)) (Z4) (fun _ _=>rfl)) (RB (m:=true)) (Y1 _))))))
theorem nq(b:JZ K mg "made" N9)(T:Txt K mg) (a:G' P w K mg base 1 "is_made" LA false Vw):G' P w K mg base 2 "made" JW true B5 :=
 W4 (N:=JW) (ps:=JW) (st:=N9) (k:=1) (g:=Lp) b dR (fun _ _ _ _ _ _ us hl=>MO us hl fun _=>rfl) (fun f ah A outer s H E Z=>(by
  unfold Lp;refine(Zh (E9 ?c0))
  case c0=>exact Vs (Z6 N9) [none,some 0] ["wire","graph"] rfl (show CompOk (Z6 N9) _ JW ["wire","graph"] [none,some 0] from CompOk.of (by decide +kernel)) rfl (Yy (by rfl) T.b_range (Z0 (Zo Wu (by rfl) T.b_len (by decide +kernel) (Z0 (Zl Zv (Z3 0) (Z4) (fun _ _=>rfl)) Z8)) Z8)) (fun _ _ _ _=>⟨(Zq 0 (show(["wire","graph"]:C3 Str).Nodup from by decide +kernel) rfl (AD rfl)),(Ej (Sw (Zx a Z.mono (Z0 (Z5 1) (Z0 (Z5 0) Z8))))),(Z5 0)⟩) (by decide)))
theorem iU(b:JZ K mg "steps_of" Jh)(T:Txt K mg)   : G' P w K mg base 1 "steps_of" LG true E5 :=
 W4 (N:=LG) (ps:=LG) (st:=Jh) (k:=0) (g:=Ja) b jb (fun _ _ _ _ _ _ us hl=>ME us hl fun _ _ _=>rfl) (fun f ah A outer s H E Z=>(by
  unfold Ja;refine(Zh (E9 ?c0))
  case c0=>exact Vs (Z6 Jh) [none,none,some 1,some 2] NN rfl (show CompOk (Z6 Jh) _ LG NN [none,none,some 1,some 2] from CompOk.of (by decide +kernel)) rfl (Bu (by rfl) T.b_enumerate (Zl Zv (Z3 0) (Z4) (fun _ _=>rfl))) (fun _ _ _ _=>⟨(Lh (n:=2) rfl (Wo (Zq 0 (show(NN:C3 Str).Nodup from by decide +kernel) rfl (AD rfl)) (Wo (Zq 1 (show(NN:C3 Str).Nodup from by decide +kernel) rfl (AD rfl)) Eb))),(Ej (Oy.pt (I0 (Ws (Ms Z.units) (Zl Zv (Z3 1) (Z4) (fun _ _=>rfl)) (Z3 2) (Y1 _)) (E6 (Ws (Ms Z.units) (Zl Zv (Z3 1) (Z4) (fun _ _=>rfl)) (Z3 3) (Y1 _)))))),(Z5 0)⟩) (by decide)))
theorem eO(b:JZ K mg "wire_of" Gq)(T:Txt K mg)   : G' P w K mg base 1 "wire_of" JX false Ui :=
 W4 (N:=JX) (ps:=JX) (st:=Gq) (k:=0) (g:=Rf) b iR (fun _ _ _ _ _ _ us hl=>KM us hl fun _ _=>rfl) (fun f ah A outer s H E Z=>(by
  unfold Rf;exact(Zh (Y9 (Zp Zv (Zl Zv (Zl Zv (Z3 0) (Z4) (fun _ _=>rfl)) (Z3 1) (fun _ _=>rfl)) (Z4) (fun _ _=>rfl))))))
theorem f4(b:JZ K mg "is_rise" Gj)(T:Txt K mg)   : G' P w K mg base 1 "is_rise" JX false Hd :=
 W4 (N:=JX) (ps:=JX) (st:=Gj) (k:=0) (g:=Ra) b lY (fun _ _ _ _ _ _ us hl=>KM us hl fun _ _=>rfl) (fun f ah A outer s H E Z=>(by
  unfold Ra;exact(Zh (Y9 (Zp Zv (Zl Zv (Zl Zv (Z3 0) (Z4) (fun _ _=>rfl)) (Z3 1) (fun _ _=>rfl)) (Z4) (fun _ _=>rfl))))))
theorem fW(b:JZ K mg "takes_of" Dz)(T:Txt K mg)   : G' P w K mg base 1 "takes_of" JX false Wa :=
 W4 (N:=JX) (ps:=JX) (st:=Dz) (k:=0) (g:=Jo) b fS (fun _ _ _ _ _ _ us hl=>KM us hl fun _ _=>rfl) (fun f ah A outer s H E Z=>(by
  unfold Jo;exact(Zh (Y9 (Zp Zv (Zl Zv (Zl Zv (Z3 0) (Z4) (fun _ _=>rfl)) (Z3 1) (fun _ _=>rfl)) (Z4) (fun _ _=>rfl))))))
theorem jh(b:JZ K mg "fills_of" Dv)(T:Txt K mg)   : G' P w K mg base 1 "fills_of" JX false Ur :=
 W4 (N:=JX) (ps:=JX) (st:=Dv) (k:=0) (g:=Jl) b l6 (fun _ _ _ _ _ _ us hl=>KM us hl fun _ _=>rfl) (fun f ah A outer s H E Z=>(by
  unfold Jl;exact(Zh (Y9 (Zp Zv (Zl Zv (Zl Zv (Z3 0) (Z4) (fun _ _=>rfl)) (Z3 1) (fun _ _=>rfl)) (Z4) (fun _ _=>rfl))))))
theorem gU(b:JZ K mg "bits" Bh)(T:Txt K mg)   : G' P w K mg base 1 "bits" ["some"] false Qk :=
 W4 (N:=["some","number","place"]) (ps:=["some"]) (st:=Bh) (k:=0) (g:=Lo) b P3 (fun _ _ _ _ _ _ us hl=>MO us hl fun _=>rfl) (fun f ah A outer s H E Z=>(by
  unfold Lo;exact(Zb (Zs 1 P3.nd rfl (AD rfl) (Zy))
  (Zb (Q6 BW rfl (A7 (Z5 0)) (Zq 2 P3.nd rfl (AD rfl)) (Zh (Zs 1 P3.nd rfl (AD rfl) (Zn SI (Z3 1) (Zg RM (Z4) (Z3 2))))))
  (Zh (Y9 (Z5 1)))))))
theorem nz(b:JZ K mg "has_one" Hb)(T:Txt K mg)   : G' P w K mg base 1 "has_one" LH false Jf :=
 W4 (N:=LH) (ps:=LH) (st:=Hb) (k:=0) (g:=Rc) b i9 (fun _ _ _ _ _ _ us hl=>KM us hl fun _ _=>rfl) (fun f ah A outer s H E Z=>(by
  unfold Rc;exact(Zh (Y9 (Ud (Ms Z.units) (Zg Nx (Zg VF (Z3 0) (Z3 1)) (Z4)) (Z4) (Y1 _))))))
theorem kJ(b:JZ K mg "can" UI)(T:Txt K mg) (c:G' P w K mg base 1 "bits" ["some"] false Qk)(a:G' P w K mg base 1 "takes_of" JX false Wa):G' P w K mg base 2 "can" KS false Nz :=
 W4 (N:=["graph","stand","step","takes"]) (ps:=KS) (st:=UI) (k:=1) (g:=Fu) b cR (fun _ _ _ _ _ _ us hl=>ME us hl fun _ _ _=>rfl) (fun f ah A outer s H E Z=>(by
  unfold Fu;exact(Zb (Zs 3 cR.nd rfl (AD rfl) (Zj c Z.mono (Z0 (Zj a Z.mono (Z0 (Z5 0) (Z0 (Z5 2) Z8))) Z8)))
  (Zh (Y9 (Ud (Ms Z.units) (Zg Nx (Zl Zv (Z3 1) (Z4) (fun _ _=>rfl)) (Z3 3)) (Z3 3) (Y1 _)))))))
theorem dg(b:JZ K mg "behind" K6)(T:Txt K mg)(j:J' P w K mg base 1 "Broken" 1 (gW "way"))(l:J' P w K mg base 1 "Crowded" 1 (gW "way"))(d:G' P w K mg base 1 "wire_of" JX false Ui)(c:G' P w K mg base 1 "bits" ["some"] false Qk)(h:G' P w K mg base 1 "has_one" LH false Jf)(i:G' P w K mg base 1 "is_rise" JX false Hd)(e:G' P w K mg base 1 "fills_of" JX false Ur)(a:G' P w K mg base 1 "takes_of" JX false Wa):JY P w K mg base 3 "behind" KS false Er true :=
 nI (N:=SM) (ps:=KS) (st:=K6) (k:=2) (g:=Qj) b Gm (fun _ _ _ _ _ _ us hl=>ME us hl fun _ _ _=>rfl) (fun f ah A outer s H E Z=>(by
  unfold Qj;exact(Zb (Zs 3 Gm.nd rfl (AD rfl) (Zj d Z.mono (Z0 (Z5 0) (Z0 (Z5 2) Z8))))
  (Zb (Uc (Ws (Ms Z.units) (Zx h Z.mono (Z0 (Zp Zv (Z3 1) (Z4) (fun _ _=>rfl)) (Z0 (Z5 3) Z8))) (Zx i Z.mono (Z0 (Z5 0) (Z0 (Z5 2) Z8))) (Y1 _)) (Zh (Oj j Z.mono rfl (Z0 (Mj (Mt (Z0 (Z5 2) Z8))) Z8))) Wh)
  (Zb (Zs 4 Gm.nd rfl (AD rfl) (Zn Nx (Zl Zv (Z3 1) (Z4) (fun _ _=>rfl)) (UA (m:=true) ZU (Zx c Z.mono (Z0 (Zj a Z.mono (Z0 (Z5 0) (Z0 (Z5 2) Z8))) Z8)))))
  (Zb (Zs 5 Gm.nd rfl (AD rfl) (Zj c Z.mono (Z0 (Zj e Z.mono (Z0 (Z5 0) (Z0 (Z5 2) Z8))) Z8)))
  (Zb (Uc (Ws (PK Z.units) (Zg Nx (Z3 4) (Z3 5)) (Z4) (Y1 _)) (Zh (Oj l Z.mono rfl (Z0 (Mj (Mt (Z0 (Z5 2) Z8))) Z8))) Wh)
  (Zh (Y9 (Yb (Z0 (Zn SI (Z3 4) (Z3 5)) (Z0 (Zn bj (Zl Zv (Z3 1) (Z4) (fun _ _=>rfl)) (Zg RM (Z4) (Z3 3))) Z8))))))))))))
theorem kB(b:JZ K mg "steps_at" Jq)(T:Txt K mg) (c:G' P w K mg base 2 "can" KS false Nz):G' P w K mg base 3 "steps_at" LD true Ju :=
 W4 (N:=LD) (ps:=LD) (st:=Jq) (k:=2) (g:=Jj) b my (fun _ _ _ _ _ _ us hl=>KM us hl fun _ _=>rfl) (fun f ah A outer s H E Z=>(by
  unfold Jj;refine(Zh (E9 ?c0))
  case c0=>exact Vs (Z6 Jq) [none,some 0,some 1] LZ rfl (show CompOk (Z6 Jq) _ LD LZ [none,some 0,some 1] from CompOk.of (by decide +kernel)) rfl (Yy (by rfl) T.b_range (Z0 (Zo Wu (by rfl) T.b_len (by decide +kernel) (Z0 (Zl Zv (Z3 0) (Z4) (fun _ _=>rfl)) Z8)) Z8)) (fun _ _ _ _=>⟨(Zq 0 (show(LZ:C3 Str).Nodup from by decide +kernel) rfl (AD rfl)),(Ej (Sw (Zx c Z.mono (Z0 (Z5 1) (Z0 (Z5 2) (Z0 (Z5 0) Z8)))))),(Z5 0)⟩) (by decide)))
theorem jO(b:JZ K mg "way" TU)(T:Txt K mg)   : MA P w K mg base 1 "way" MD true Eg :=
 nJ (N:=["found","n","steps","at"]) (ps:=MD) (st:=TU) (k:=0) (g:=Fw) b Bb (fun _ _ _ _ _ _ us hl=>KM us hl fun _ _=>rfl) (fun f ah A outer s H E Z hd=>(by
  unfold Fw;exact(Zb (Dm 2 Bb.nd rfl (AD rfl) (Mt Z8))
  (Zb (Zs 3 Bb.nd rfl (AD rfl) (Z5 1))
  (Zb (ZL BW (Ws VG (Zl Zv (Zl Zv (Z3 0) (Z3 3) (fun _ _=>rfl)) (Z4) (fun _ _=>rfl)) (G1) (Y1 _)) (Zb (E4 2 CN CO D9 (Z0 (Zp Zv (Zl Zv (Z3 0) (Z3 3) (fun _ _=>rfl)) (Z4) (fun _ _=>rfl)) Z8))
  (Zh (Zs 3 Bb.nd rfl (AD rfl) (Zp Zv (Zl Zv (Z3 0) (Z3 3) (fun _ _=>rfl)) (Z4) (fun _ _=>rfl))))))
  (Zh (E9 (gD (by rfl) T.b_list (by rfl) T.b_reversed (Z0 (xo 2) Z8)))))))))
theorem mj(b:JZ K mg "come_to" Gs)(T:Txt K mg)(j:XMakeN P w K mg base 1 "Broken" 1 (gW "way"))(l:XMakeN P w K mg base 1 "Crowded" 1 (gW "way"))(a:JY P w K mg base 3 "behind" KS false Er true)(c:MA P w K mg base 1 "way" MD true Eg):JY P w K mg base 4 "come_to" MI false Dh :=
 Bf (N:=MI) (ps:=MI) (st:=Gs) (k:=3) (g:=Jb) b fY (fun _ _ _ _ _ _ us hl=>MX us hl fun _ _ _ _=>rfl) (fun f ah A outer s H E Z=>(by
  unfold Jb;exact(Zh (nF (known:=JR) i' (fun _ _=>(Zh (YR (Db a Z.mono (Z0 (Z5 0) (Z0 (S7 Ed (Zl Zv (Z3 1) (Z3 2) (fun _ _=>rfl)) Mr (Mq (Z4))) (Z0 (Z5 3) Z8))))))) (fun _ _ hd=>(Zh (ZJ j (Z.n.mono (by lia)).mark hd (Z0 (Mj (QU QK (bx (m:=true) c (Z.n.mono (by lia)).mark hd (Z0 (Z5 1) (Z0 (Z5 2) Z8))) (Yj (Mt (Z0 (Z5 3) Z8))))) Z8) (by intro z;cases z)))) (fun _ _ hd=>(Zh (ZJ l (Z.n.mono (by lia)).mark hd (Z0 (Mj (QU QK (bx (m:=true) c (Z.n.mono (by lia)).mark hd (Z0 (Z5 1) (Z0 (Z5 2) Z8))) (Yj (Mt (Z0 (Z5 3) Z8))))) Z8) (by intro z;cases z)))) T.q_0 T.q_1))))
theorem fy(b:JZ K mg "stands" K0)(T:Txt K mg)(d:J' P w K mg base 1 "TooMany" 0 gZ)(a:G' P w K mg base 3 "steps_at" LD true Ju)(c:JY P w K mg base 4 "come_to" MI false Dh):JY P w K mg base 5 "stands" KF true Rq :=
 Bf (N:=RW) (ps:=KF) (st:=K0) (k:=4) (g:=D7) b Q2 (fun _ _ _ _ _ _ us hl=>KM us hl fun _ _=>rfl) (fun f ah A outer s H E Z=>(by
  unfold D7;exact(Zb (Dm 2 Q2.nd rfl (AD rfl) (Mt (Z0 (Yb (Z0 (Zp Zv (Z3 0) (Z4) (fun _ _=>rfl)) (Z0 (Zp Zv (Z3 0) (Z4) (fun _ _=>rfl)) (Z0 (RY (m:=false)) (Z0 (RY (m:=false)) Z8))))) Z8)))
  (Zb (fV 3 Q2.nd rfl (AD rfl) (WD Z) (Mk (Z0 (Zp Zv (Z3 0) (Z4) (fun _ _=>rfl)) (Z0 (Zp Zv (Z3 0) (Z4) (fun _ _=>rfl)) Z8))) (Vp))
  (Zb (Zs 4 Q2.nd rfl (AD rfl) (Zy))
  (Zb (ZL Lu (Ws S' (Z3 4) (Zo Wu (by rfl) T.b_len (by decide +kernel) (Z0 (xo 2) Z8)) (Y1 _)) (Zb (Zs 5 Q2.nd rfl (AD rfl) (Zj a Z.mono (Z0 (Z5 0) (Z0 (S7 Ed (Zl Zv (xo 2) (Z3 4) (fun _ _=>rfl)) Mr (Mq (Z4))) Z8))))
  (Zb (Q6 Lu rfl (A7 (Z5 5)) (Zq 6 Q2.nd rfl (AD rfl)) (Zb (WO 7 Q2.nd rfl (AD rfl) (iB c Z.mono (Z0 (Z3 0) (Z0 (xo 2) (Z0 (Z3 4) (Z0 (Z3 6) Z8))))))
  (Zb (Uc (nn 3 (WD Z) (Z3 7)) (Zh YX) Wh)
  (Zb (Uc (Ws cN (Zo Wu (by rfl) T.b_len (by decide +kernel) (Z0 (xo 2) Z8)) (Z3 1) (Y1 _)) (Zh (Pp d Z.mono rfl)) Wh)
  (Zb (dX 3 (WD Z) (Z3 7) (Vp))
  (Zh (E4 2 CN CO D9 (Z0 (Yb (Z0 (Zp Zv (Z3 7) (Z4) (fun _ _=>rfl)) (Z0 (Zp Zv (Z3 7) (Z4) (fun _ _=>rfl)) (Z0 (Z5 4) (Z0 (Z5 6) Z8))))) Z8))))))))
  (Zh (mm 4 Q2.nd rfl (AD rfl) (Zy))))))
  (Zh (P6 2))))))))
theorem kQ(b:JZ K mg "is_called" Tv)(T:Txt K mg) (c:G' P w K mg base 2 "can" KS false Nz)(a:G' P w K mg base 1 "steps_of" LG true E5):G' P w K mg base 3 "is_called" LL false Mb :=
 W4 (N:=LL) (ps:=LL) (st:=Tv) (k:=2) (g:=Tz) b B9 (fun _ _ _ _ _ _ us hl=>MX us hl fun _ _ _ _=>rfl) (fun f ah A outer s H E Z=>(by
  unfold Tz;refine(Zh (Y9 (U4 (VY rfl) (by rfl) T.b_any (by decide +kernel) (Z0 (Yj ?c0) Z8))))
  case c0=>exact Vs (Z6 Tv) [none,some 0,some 1] LZ rfl (show CompOk (Z6 Tv) _ LL LZ [none,some 0,some 1] from CompOk.of (by decide +kernel)) rfl (Jr (Zx a Z.mono (Z0 (Z5 0) (Z0 (Z5 2) (Z0 (Z5 3) Z8))))) (fun _ _ _ _=>⟨(Zq 0 (show(LZ:C3 Str).Nodup from by decide +kernel) rfl (AD rfl)),Mv,(Zj c Z.mono (Z0 (Z5 1) (Z0 (Z5 2) (Z0 (Z5 0) Z8))))⟩) (by decide)))
theorem mx(b:JZ K mg "wants" Oz)(T:Txt K mg) (a:G' P w K mg base 3 "is_called" LL false Mb):G' P w K mg base 4 "wants" LY false Kq :=
 W4 (N:=LY) (ps:=LY) (st:=Oz) (k:=3) (g:=Gz) b iH (fun _ _ _ _ _ _ us hl=>ME us hl fun _ _ _=>rfl) (fun f ah A outer s H E Z=>(by
  unfold Gz;exact(Zb (Uc (Sw (Zx a Z.mono (Z0 (Z5 0) (Z0 (Z5 1) (Z0 (Z5 2) (Z0 (Vp) Z8)))))) (Zh (Y9 (Zy))) Wh)
  (Zb (Uc (Sw (Zx a Z.mono (Z0 (Z5 0) (Z0 (Z5 1) (Z0 (Z5 2) (Z0 (Vp) Z8)))))) (Zh (Y9 (UA (m:=false) YS (Z4)))) Wh)
  (Zh (Y9 (Zy)))))))
theorem nc(b:JZ K mg "robs" B2)(T:Txt K mg) (c:G' P w K mg base 1 "bits" ["some"] false Qk)(a:G' P w K mg base 1 "takes_of" JX false Wa)(e:G' P w K mg base 1 "fills_of" JX false Ur):G' P w K mg base 2 "robs" KO false Cw :=
 W4 (N:=["graph","by","lost","kept"]) (ps:=KO) (st:=B2) (k:=1) (g:=N4) b ZK (fun _ _ _ _ _ _ us hl=>ME us hl fun _ _ _=>rfl) (fun f ah A outer s H E Z=>(by
  unfold N4;exact(Zb (Zs 3 ZK.nd rfl (AD rfl) (Zn Nx (Zx c Z.mono (Z0 (Zj a Z.mono (Z0 (Z5 0) (Z0 (Z5 1) Z8))) Z8)) (UA (m:=true) ZU (Zx c Z.mono (Z0 (Zj e Z.mono (Z0 (Z5 0) (Z0 (Z5 1) Z8))) Z8)))))
  (Zh (Y9 (Ud (PK Z.units) (Zg Nx (Z3 3) (Zx c Z.mono (Z0 (Zj a Z.mono (Z0 (Z5 0) (Z0 (Z5 2) Z8))) Z8))) (Z4) (Y1 _)))))))
theorem Pw(b:JZ K mg "touches_made" Qa)(T:Txt K mg) (a:G' P w K mg base 1 "is_made" LA false Vw)(d:G' P w K mg base 1 "wire_of" JX false Ui):G' P w K mg base 2 "touches_made" KO false Qb :=
 W4 (N:=KO) (ps:=KO) (st:=Qa) (k:=1) (g:=Vt) b Oa (fun _ _ _ _ _ _ us hl=>ME us hl fun _ _ _=>rfl) (fun f ah A outer s H E Z=>(by
  unfold Vt;exact(Zh (Y9 (TX (m:=false) (Zx a Z.mono (Z0 (Z5 0) (Z0 (Zj d Z.mono (Z0 (Z5 0) (Z0 (Z5 1) Z8))) Z8))) (QC (Zj a Z.mono (Z0 (Z5 0) (Z0 (Zj d Z.mono (Z0 (Z5 0) (Z0 (Z5 2) Z8))) Z8)))))))))
theorem gF(b:JZ K mg "rivals" Ku)(T:Txt K mg) (a:G' P w K mg base 2 "touches_made" KO false Qb)(c:G' P w K mg base 2 "robs" KO false Cw):G' P w K mg base 3 "rivals" JW true Iv :=
 W4 (N:=["graph","pairs","by","lost"]) (ps:=JW) (st:=Ku) (k:=2) (g:=D3) b Gp (fun _ _ _ _ _ _ us hl=>MO us hl fun _=>rfl) (fun f ah A outer s H E Z=>(by
  unfold D3;exact(Zb (Dm 1 Gp.nd rfl (AD rfl) (Mt Z8))
  (Zb (Q6 BW rfl (Yy (by rfl) T.b_range (Z0 (Zo Wu (by rfl) T.b_len (by decide +kernel) (Z0 (Zl Zv (Z3 0) (Z4) (fun _ _=>rfl)) Z8)) Z8)) (Zq 2 Gp.nd rfl (AD rfl)) (Zh (Q6 BW rfl (Yy (by rfl) T.b_range (Z0 (Zo Wu (by rfl) T.b_len (by decide +kernel) (Z0 (Zl Zv (Z3 0) (Z4) (fun _ _=>rfl)) Z8)) Z8)) (Zq 3 Gp.nd rfl (AD rfl)) (Zh (Uc (Oy.pt (I0 (Ws (PK Z.units) (Z3 2) (Z3 3) (Y1 _)) (I0 (Sw (Zx a Z.mono (Z0 (Z5 0) (Z0 (Z5 2) (Z0 (Z5 3) Z8))))) (E6 (Sw (Zx c Z.mono (Z0 (Z5 0) (Z0 (Z5 2) (Z0 (Z5 3) Z8))))))))) (Zh (E4 1 CN CO D9 (Z0 (Yb (Z0 (Z5 2) (Z0 (Z5 3) Z8))) Z8))) Wh)))))
  (Zh (P6 1))))))
theorem gy(b:JZ K mg "sound" Ot)(T:Txt K mg)(h:J' P w K mg base 1 "CalledOff" 3 (gC "way" "lost" "by"))(d:JY P w K mg base 5 "stands" KF true Rq)(e:G' P w K mg base 3 "rivals" JW true Iv)(a:G' P w K mg base 3 "steps_at" LD true Ju)(c:G' P w K mg base 1 "way" MD true Eg):JY P w K mg base 6 "sound" KF false V5 :=
 Bf (N:=SN) (ps:=KF) (st:=Ot) (k:=5) (g:=Sm) b Mg (fun _ _ _ _ _ _ us hl=>KM us hl fun _ _=>rfl) (fun f ah A outer s H E Z=>(by
  unfold Sm;exact(Zb (WO 2 Mg.nd rfl (AD rfl) (Db d Z.mono (Z0 (Z5 0) (Z0 (Z5 1) Z8))))
  (Zb (Zs 3 Mg.nd rfl (AD rfl) (Zj e Z.mono (Z0 (Z5 0) Z8)))
  (Zb (Q6 Lu rfl (cz (by rfl) T.b_enumerate (Z5 2)) (Lh (n:=2) rfl (Wo (Zq 4 Mg.nd rfl (AD rfl)) (Wo (Zq 5 Mg.nd rfl (AD rfl)) Eb))) (Zb (Zs 6 Mg.nd rfl (AD rfl) (Zj a Z.mono (Z0 (Z5 0) (Z0 (S7 Ed (Z3 5) Mr (Mq (Z4))) Z8))))
  (Zh (Q6 Lu rfl (A7 (Z5 3)) (Lh (n:=2) rfl (Wo (Zq 7 Mg.nd rfl (AD rfl)) (Wo (Zq 8 Mg.nd rfl (AD rfl)) Eb))) (Zh (Uc (Oy.pt (I0 (Ws (OK Z.units) (Z3 7) (Z3 6) (by rfl)) (E6 (Ws (OK Z.units) (Z3 8) (Z3 6) (by rfl))))) (Zh (Oj h Z.mono rfl (Z0 (Zj c Z.mono (Z0 (Z5 2) (Z0 (Z5 4) Z8))) (Z0 (Z5 8) (Z0 (Z5 7) Z8))))) Wh))))))
  (Zh (Y9 (Z5 2))))))))
theorem en(b:JZ K mg "wants_of" J6)(T:Txt K mg) (a:G' P w K mg base 4 "wants" LY false Kq):G' P w K mg base 5 "wants_of" LQ true Rj :=
 W4 (N:=LQ) (ps:=LQ) (st:=J6) (k:=4) (g:=Jd) b kN (fun _ _ _ _ _ _ us hl=>ME us hl fun _ _ _=>rfl) (fun f ah A outer s H E Z=>(by
  unfold Jd;refine(Zh (E9 ?c0))
  case c0=>exact Vs (Z6 J6) [none,some 0,some 1] OS rfl (show CompOk (Z6 J6) _ LQ OS [none,some 0,some 1] from CompOk.of (by decide +kernel)) rfl (Jr (Z3 2)) (fun _ _ _ _=>⟨(Zq 0 (show(OS:C3 Str).Nodup from by decide +kernel) rfl (AD rfl)),Mv,(Zj a Z.mono (Z0 (Z5 1) (Z0 (Z5 2) (Z0 (Z5 0) Z8))))⟩) (by decide)))
theorem lL(b:JZ K mg "unlike" Dk)(T:Txt K mg)   : G' P w K mg base 1 "unlike" LN true Kf :=
 W4 (N:=LN) (ps:=LN) (st:=Dk) (k:=0) (g:=Dj) b iI (fun _ _ _ _ _ _ us hl=>ME us hl fun _ _ _=>rfl) (fun f ah A outer s H E Z=>(by
  unfold Dj;refine(Zh (E9 ?c0))
  case c0=>exact Vs (Z6 Dk) [none,none,some 1,some 2] NU rfl (show CompOk (Z6 Dk) _ LN NU [none,none,some 1,some 2] from CompOk.of (by decide +kernel)) rfl (Bu (by rfl) T.b_enumerate (Z3 0)) (fun _ _ _ _=>⟨(Lh (n:=2) rfl (Wo (Zq 0 (show(NU:C3 Str).Nodup from by decide +kernel) rfl (AD rfl)) (Wo (Zq 1 (show(NU:C3 Str).Nodup from by decide +kernel) rfl (AD rfl)) Eb))),(Ej (Ws (PK Z.units) (Zl Zv (Z3 2) (Z3 0) (fun _ _=>rfl)) (Zl Zv (Z3 3) (Z3 0) (fun _ _=>rfl)) (Y1 _))),(Z5 1)⟩) (by decide)))
theorem O9(b:JZ K mg "clashes_among" Wc)(T:Txt K mg) (d:G' P w K mg base 2 "made" JW true B5)(a:G' P w K mg base 5 "wants_of" LQ true Rj)(c:G' P w K mg base 1 "unlike" LN true Kf):G' P w K mg base 6 "clashes_among" NI true Ti :=
 W4 (N:=NG) (ps:=NI) (st:=Wc) (k:=5) (g:=Vi) b Ww (fun _ _ _ _ _ _ us hl=>KM us hl fun _ _=>rfl) (fun f ah A outer s H E Z=>(by
  unfold Vi;refine(Zb (Zs 2 Ww.nd rfl (BJ rfl) (Zj d Z.mono (Z0 (Z5 0) Z8)))
  (Zb (Lq 3 Ww.nd rfl (AD rfl) (Z6 Wc) [none,some 0,some 2] O' rfl (show CompOk (Z6 Wc) _ NG O' [none,some 0,some 2] from CompOk.of (by decide +kernel)) rfl (Jr (Z3 1)) (fun _ _ _ _=>⟨(Zq 0 (show(O':C3 Str).Nodup from by decide +kernel) rfl (AD rfl)),Mv,(Zj a Z.mono (Z0 (Z5 1) (Z0 (S7 Ed (Z3 0) Mr (Mq (Z4))) (Z0 (Z5 2) Z8))))⟩) (by decide))
  (Zb (Dm 4 Ww.nd rfl (AD rfl) (Mt Z8))
  (Zb (Q6 BW rfl (Yy (by rfl) T.b_range (Z0 (Zo Wu (by rfl) T.b_len (by decide +kernel) (Z0 (Z3 1) Z8)) Z8)) (Zq 5 Ww.nd rfl (BJ rfl)) (Zh (Q6 BW rfl (mP (by rfl) T.b_range (Z0 (Zg W3 (Z3 5) (Z4)) (Z0 (Zo Wu (by rfl) T.b_len (by decide +kernel) (Z0 (Z3 1) Z8)) Z8))) (Zq 6 Ww.nd rfl (BJ rfl)) (Zh (Uc (Ws (Ms Z.units) (Zl Zv (Zl Zv (Z3 1) (Z3 5) (fun _ _=>rfl)) (Z4) (fun _ _=>rfl)) (Zl Zv (Zl Zv (Z3 1) (Z3 6) (fun _ _=>rfl)) (Z4) (fun _ _=>rfl)) (Y1 _)) (Zh (E4 4 PySem.F.slot_list_extend PySem.F.type_list_extend kW (Z0 (Mj ?c0) Z8))) Wh)))))
  (Zh (P6 4))))))
  case c0=>exact Vs (Z6 Wc) [none,some 5,some 6] ["wire","n","m"] rfl (show CompOk (Z6 Wc) _ NG ["wire","n","m"] [none,some 5,some 6] from CompOk.of (by decide +kernel)) rfl (Jr (Zx c Z.mono (Z0 (Z5 2) (Z0 (Zp Zv (Z3 3) (Z3 5) (fun _ _=>rfl)) (Z0 (Zp Zv (Z3 3) (Z3 6) (fun _ _=>rfl)) Z8))))) (fun _ _ _ _=>⟨(Zq 0 (show(["wire","n","m"]:C3 Str).Nodup from by decide +kernel) rfl (AD rfl)),Mv,(Yb (Z0 (Z5 1) (Z0 (Z5 2) (Z0 (Z5 0) Z8))))⟩) (by decide)))
theorem lF(b:JZ K mg "need_none" Sl)(T:Txt K mg)(d:J' P w K mg base 1 "Clash" 3 (gK "one" "other" "wire"))(h:JY P w K mg base 6 "sound" KF false V5)(a:G' P w K mg base 6 "clashes_among" NI true Ti)(c:G' P w K mg base 1 "way" MD true Eg):JY P w K mg base 7 "need_none" KF false U0 :=
 P8 (N:=["graph","most","found","told","first"]) (ps:=KF) (st:=Sl) (k:=6) (g:=Vm) b Mz (fun _ _ _ _ _ _ us hl=>KM us hl fun _ _=>rfl) (fun f ah A outer s H E Z=>(by
  unfold Vm;exact(Zb (WO 2 Mz.nd rfl (AD rfl) (Db h Z.mono (Z0 (Z5 0) (Z0 (Z5 1) Z8))))
  (Zb (Zs 3 Mz.nd rfl (AD rfl) (Zj a Z.mono (Z0 (Z5 0) (Z0 (Z5 2) Z8))))
  (Zb (Uc (Ws OC (Zo Wu (by rfl) T.b_len (by decide +kernel) (Z0 (Z3 3) Z8)) (Z4) (Y1 _)) (Zb (Zs 4 Mz.nd rfl (AD rfl) (Zp Zv (Z3 3) (Z4) (fun _ _=>rfl)))
  (Zh (Oj d Z.mono rfl (Z0 (Zj c Z.mono (Z0 (Z5 2) (Z0 (Zp Zv (Z3 4) (Z4) (fun _ _=>rfl)) Z8))) (Z0 (Zj c Z.mono (Z0 (Z5 2) (Z0 (Zp Zv (Z3 4) (Z4) (fun _ _=>rfl)) Z8))) (Z0 (Zp Zv (Z3 4) (Z4) (fun _ _=>rfl)) Z8)))))) Wh)
  (Zh (Y9 (Z5 2))))))))
theorem B0(b:JZ K mg "free_spots" T8)(T:Txt K mg) (c:G' P w K mg base 1 "bits" ["some"] false Qk)(e:G' P w K mg base 1 "fills_of" JX false Ur)(h:G' P w K mg base 1 "has_one" LH false Jf)(a:G' P w K mg base 1 "takes_of" JX false Wa):G' P w K mg base 2 "free_spots" JW true Uu :=
 W4 (N:=PB) (ps:=JW) (st:=T8) (k:=1) (g:=Uw) b Ma (fun _ _ _ _ _ _ us hl=>MO us hl fun _=>rfl) (fun f ah A outer s H E Z=>(by
  unfold Uw;refine(Zb (Zs 1 Ma.nd rfl (BJ rfl) (Zp Zv (Z3 0) (Z4) (fun _ _=>rfl)))
  (Zb (Q6 BW rfl (Yy (by rfl) T.b_range (Z0 (Zo Wu (by rfl) T.b_len (by decide +kernel) (Z0 (Zl Zv (Z3 0) (Z4) (fun _ _=>rfl)) Z8)) Z8)) (Zq 2 Ma.nd rfl (AD rfl)) (Zh (Zs 1 Ma.nd rfl (BJ rfl) (Zn SI (Zg SI (Z3 1) (Zx c Z.mono (Z0 (Zj a Z.mono (Z0 (Z5 0) (Z0 (Z5 2) Z8))) Z8))) (Zx c Z.mono (Z0 (Zj e Z.mono (Z0 (Z5 0) (Z0 (Z5 2) Z8))) Z8))))))
  (Zh (E9 ?c0))))
  case c0=>exact Vs (Z6 T8) [none,some 1] ["spot","used"] rfl (show CompOk (Z6 T8) _ PB ["spot","used"] [none,some 1] from CompOk.of (by decide +kernel)) rfl (Yy (by rfl) T.b_range (Z0 (C9 (m:=true) T) Z8)) (fun _ _ _ _=>⟨(Zq 0 (show(["spot","used"]:C3 Str).Nodup from by decide +kernel) rfl (AD rfl)),(Ej (Pq (Sw (Zx h Z.mono (Z0 (Z5 1) (Z0 (Z5 0) Z8)))))),(Z5 0)⟩) (by decide)))
theorem lx(b:JZ K mg "has_room" Ec)(T:Txt K mg) (c:G' P w K mg base 2 "free_spots" JW true Uu):G' P w K mg base 3 "has_room" JW false E1 :=
 W4 (N:=JW) (ps:=JW) (st:=Ec) (k:=2) (g:=Ji) b j7 (fun _ _ _ _ _ _ us hl=>MO us hl fun _=>rfl) (fun f ah A outer s H E Z=>(by
  unfold Ji;exact(Zb (Uc (Oy.pt (Xr (Ws OC (Zo Wu (by rfl) T.b_len (by decide +kernel) (Z0 (Zl Zv (Z3 0) (Z4) (fun _ _=>rfl)) Z8)) (Io (m:=true) T) (Y1 _)) (Pa (Ws OC (Zo Wu (by rfl) T.b_len (by decide +kernel) (Z0 (Zl Zv (Z3 0) (Z4) (fun _ _=>rfl)) Z8)) (Ik (m:=true) T) (Y1 _))))) (Zh (Y9 (Vp))) Wh)
  (Zh (Y9 (Ud cN (Zo Wu (by rfl) T.b_len (by decide +kernel) (Z0 (Zx c Z.mono (Z0 (Z5 0) Z8)) Z8)) (Z4) (Y1 _)))))))
theorem jp(b:JZ K mg "need_room" Sf)(T:Txt K mg)(e:J' P w K mg base 1 "NoPlace" 0 gZ)(c:G' P w K mg base 1 "is_name" ["text"] false Q0)(d:G' P w K mg base 1 "names" JW true On)(a:G' P w K mg base 3 "has_room" JW false E1):JY P w K mg base 4 "need_room" LM false Uo :=
 P8 (N:=LM) (ps:=LM) (st:=Sf) (k:=3) (g:=Q5) b Ai (fun _ _ _ _ _ _ us hl=>KM us hl fun _ _=>rfl) (fun f ah A outer s H E Z=>(by
  unfold Q5;exact(Zh (Uc (Oy.pt (Xr (Pq (Sw (Zx c Z.mono (Z0 (Z5 1) Z8)))) (Xr (Ws (OK Z.units) (Z3 1) (Zx d Z.mono (Z0 (Z5 0) Z8)) (by rfl)) (Pa (Pq (Sw (Zx a Z.mono (Z0 (Z5 0) Z8)))))))) (Zh (Pp e Z.mono rfl)) Wh))))
theorem lU(b:JZ K mg "need_two" E7)(T:Txt K mg)(e:J' P w K mg base 1 "NoPlace" 0 gZ)  : JY P w K mg base 3 "need_two" MB false S5 :=
 P8 (N:=MB) (ps:=MB) (st:=E7) (k:=2) (g:=J7) b n' (fun _ _ _ _ _ _ us hl=>ME us hl fun _ _ _=>rfl) (fun f ah A outer s H E Z=>(by
  unfold J7;exact(Zh (Uc (Oy.pt (Xr (Ws (Ms Z.units) (Z3 1) (Z3 2) (Y1 _)) (Xr (Ws (Nk Z.units) (Z3 1) (Z3 0) (by rfl)) (Pa (Ws (Nk Z.units) (Z3 2) (Z3 0) (by rfl)))))) (Zh (Pp e Z.mono rfl)) Wh))))
theorem fm(b:JZ K mg "waiting" Hm)(T:Txt K mg)   : G' P w K mg base 1 "waiting" MF false Di :=
 W4 (N:=MF) (ps:=MF) (st:=Hm) (k:=0) (g:=Rh) b lb (fun _ _ _ _ _ _ us hl=>KM us hl fun _ _=>rfl) (fun f ah A outer s H E Z=>(by
  unfold Rh;exact(Zh (Y9 (Yb (Z0 (Zp Zv (Z3 0) (Z4) (fun _ _=>rfl)) (Z0 (Zp Zv (Z3 0) (Z4) (fun _ _=>rfl)) (Z0 (Yb (Z0 (Z5 1) Z8)) (Z0 (Zp Zv (Z3 0) (Z4) (fun _ _=>rfl)) Z8)))))))))
theorem Bx(b:JZ K mg "made_steps" Tb)(T:Txt K mg) (a:G' P w K mg base 1 "is_made" LA false Vw)(d:G' P w K mg base 1 "wire_of" JX false Ui):G' P w K mg base 2 "made_steps" JW true T5 :=
 W4 (N:=JW) (ps:=JW) (st:=Tb) (k:=1) (g:=Uz) b F6 (fun _ _ _ _ _ _ us hl=>MO us hl fun _=>rfl) (fun f ah A outer s H E Z=>(by
  unfold Uz;refine(Zh (E9 ?c0))
  case c0=>exact Vs (Z6 Tb) [none,some 0] ["step","graph"] rfl (show CompOk (Z6 Tb) _ JW ["step","graph"] [none,some 0] from CompOk.of (by decide +kernel)) rfl (Yy (by rfl) T.b_range (Z0 (Zo Wu (by rfl) T.b_len (by decide +kernel) (Z0 (Zl Zv (Z3 0) (Z4) (fun _ _=>rfl)) Z8)) Z8)) (fun _ _ _ _=>⟨(Zq 0 (show(["step","graph"]:C3 Str).Nodup from by decide +kernel) rfl (AD rfl)),(Ej (Sw (Zx a Z.mono (Z0 (Z5 1) (Z0 (Zj d Z.mono (Z0 (Z5 1) (Z0 (Z5 0) Z8))) Z8))))),(Z5 0)⟩) (by decide)))
theorem fQ(b:JZ K mg "put_in" K5)(T:Txt K mg) (e:JY P w K mg base 4 "need_room" LM false Uo)(i:JY P w K mg base 3 "need_two" MB false S5)(c:G' P w K mg base 2 "free_spots" JW true Uu)(h:G' P w K mg base 1 "waiting" MF false Di)(d:G' P w K mg base 2 "made_steps" JW true T5)(a:G' P w K mg base 1 "takes_of" JX false Wa):JY P w K mg base 5 "put_in" MG false Vl :=
 P8 (N:=YB) (ps:=MG) (st:=K5) (k:=4) (g:=Qf) b Ri (fun _ _ _ _ _ _ us hl=>MX us hl fun _ _ _ _=>rfl) (fun f ah A outer s H E Z=>(by
  unfold Qf;exact(Zb (S9 (Db e Z.mono (Z0 (Z5 0) (Z0 (Z5 1) Z8))))
  (Zb (S9 (Db i Z.mono (Z0 (Zj d Z.mono (Z0 (Z5 0) Z8)) (Z0 (Z5 2) (Z0 (Z5 3) Z8)))))
  (Zb (Zs 4 Ri.nd rfl (AD rfl) (U4 Wu (by rfl) T.b_len (by decide +kernel) (Z0 (Zl Zv (Z3 0) (Z4) (fun _ _=>rfl)) Z8)))
  (Zb (Zs 5 Ri.nd rfl (AD rfl) (Zj c Z.mono (Z0 (Z5 0) Z8)))
  (Zb (Zs 6 Ri.nd rfl (AD rfl) (Yb (Z0 (Z5 4) (Z0 (Vp) (Z0 (Zj a Z.mono (Z0 (Z5 0) (Z0 (Z5 2) Z8))) (Z0 (Yb (Z0 (Zp Zv (Z3 5) (Z4) (fun _ _=>rfl)) Z8)) Z8))))))
  (Zb (Zs 7 Ri.nd rfl (AD rfl) (Yb (Z0 (Z5 4) (Z0 (Vp) (Z0 (Zj a Z.mono (Z0 (Z5 0) (Z0 (Z5 3) Z8))) (Z0 (Yb (Z0 (Zp Zv (Z3 5) (Z4) (fun _ _=>rfl)) Z8)) Z8))))))
  (Zb (Dm 8 Ri.nd rfl (AD rfl) (dA cA (by rfl) T.b_list (by decide +kernel) (Z0 (Zl Zv (Z3 0) (Z4) (fun _ _=>rfl)) Z8)))
  (Zb (N0 8 (Z3 2) (Zj h Z.mono (Z0 (Zp Zv (xo 8) (Z3 2) (fun _ _=>rfl)) (Z0 (Zp Zv (Z3 5) (Z4) (fun _ _=>rfl)) Z8))))
  (Zb (N0 8 (Z3 3) (Zj h Z.mono (Z0 (Zp Zv (xo 8) (Z3 3) (fun _ _=>rfl)) (Z0 (Zp Zv (Z3 5) (Z4) (fun _ _=>rfl)) Z8))))
  (Zh (Y9 (Yb (Z0 (Zn N3 (Zl Zv (Z3 0) (Z4) (fun _ _=>rfl)) (Mk (Z0 (Yb (Z0 (Z5 1) (Z0 (Y2) Z8))) Z8))) (Z0 (Su (m:=false) Jy (by rfl) T.b_tuple (by decide +kernel) (Z0 (Zg W3 (xo 8) (Yj (Mt (Z0 (Z5 6) (Z0 (Z5 7) Z8))))) Z8)) (Z0 (Zp Zv (Z3 0) (Z4) (fun _ _=>rfl)) (Z0 (Zp Zv (Z3 0) (Z4) (fun _ _=>rfl)) Z8))))))))))))))))))
theorem fJ(b:JZ K mg "is_calm" Hf)(T:Txt K mg) (a:JY P w K mg base 7 "need_none" KF false U0):G' P w K mg base 8 "is_calm" KF false Q4 :=
 W4 (N:=KF) (ps:=KF) (st:=Hf) (k:=7) (g:=Qy) b jC (fun _ _ _ _ _ _ us hl=>KM us hl fun _ _=>rfl) (fun f ah A outer s H E Z=>(by
  unfold Qy;exact(Zb (gG (known:=JR) (b1':=(fun _=>true)) (fun _=>PassesOwnAt.never) (fun _ _=>(Zh (S9 (Db a Z.mono (Z0 (Z5 0) (Z0 (Z5 1) Z8)))))) (fun _ _=>(Zh (Y9 (Vp)))) T.u_8)
  (Zh (Y9 (Vp))))))
theorem mQ(b:JZ K mg "parts" P5)(T:Txt K mg) (c:G' P w K mg base 8 "is_calm" KF false Q4)(a:JY P w K mg base 5 "put_in" MG false Vl):JY P w K mg base 9 "parts" LO false Jz :=
 P8 (N:=LO) (ps:=LO) (st:=P5) (k:=8) (g:=My) b d6 (fun _ _ _ _ _ _ us hl=>UK us hl fun _ _ _ _ _=>rfl) (fun f ah A outer s H E Z=>(by
  unfold My;exact(Zh (YR (lf 4 c Z.mono (Db a Z.mono (Z0 (Z5 0) (Z0 (Z5 1) (Z0 (Z5 2) (Z0 (Z5 3) Z8))))) (Z0 (Z5 4) Z8))))))
theorem jV(b:JZ K mg "parted" Lj)(T:Txt K mg) (h:JY P w K mg base 6 "sound" KF false V5)(e:JY P w K mg base 4 "need_room" LM false Uo)(d:G' P w K mg base 2 "made_steps" JW true T5)(c:JY P w K mg base 9 "parts" LO false Jz)(a:JY P w K mg base 5 "put_in" MG false Vl):JY P w K mg base 10 "parted" NV false Rk :=
 Bf (N:=QY) (ps:=NV) (st:=Lj) (k:=9) (g:=Qc) b Gv (fun _ _ _ _ _ _ us hl=>ME us hl fun _ _ _=>rfl) (fun f ah A outer s H E Z=>(by
  unfold Qc;exact(Zb (S9 (Db h Z.mono (Z0 (Z5 0) (Z0 (Z5 2) Z8))))
  (Zb (S9 (Db e Z.mono (Z0 (Z5 0) (Z0 (Z5 1) Z8))))
  (Zb (Zs 3 Gv.nd rfl (AD rfl) (Zj d Z.mono (Z0 (Z5 0) Z8)))
  (Zb (Q6 Lu rfl (A7 (Z5 3)) (Zq 4 Gv.nd rfl (AD rfl)) (Zh (Q6 Lu rfl (A7 (Z5 3)) (Zq 5 Gv.nd rfl (AD rfl)) (Zh (Uc (Oy.pt (I0 (Ws (PK Z.units) (Z3 4) (Z3 5) (Y1 _)) (E6 (Sw (ck (m:=true) c Z.mono (Z0 (Z5 0) (Z0 (Z5 1) (Z0 (Z5 4) (Z0 (Z5 5) (Z0 (Z5 2) Z8)))))))))) (Zh (Y9 (Yb (Z0 (Z5 4) (Z0 (Z5 5) (Z0 (ck (m:=false) a Z.mono (Z0 (Z5 0) (Z0 (Z5 1) (Z0 (Z5 4) (Z0 (Z5 5) Z8))))) Z8)))))) Wh)))))
  (Zh (Y9 (RY (m:=false))))))))))
theorem fc(b:JZ K mg "_law_mix" Du)(T:Txt K mg)   : G' P w K mg base 1 "_law_mix" LR false Yo :=
 W4 (N:=["_law_script","_law_k","_law_number"]) (ps:=LR) (st:=Du) (k:=0) (g:=Qv) b Gg (fun _ _ _ _ _ _ us hl=>KM us hl fun _ _=>rfl) (fun f ah A outer s H E Z=>(by
  unfold Qv;exact(Zb (Zs 2 Gg.nd rfl (AD rfl) (Zn W3 (Zg Em (Z4) (Z3 1)) (Z4)))
  (Zb (Uc (Ws S' (Z3 1) (Zo Wu (by rfl) T.b_len (by decide +kernel) (Z0 (Z3 0) Z8)) (Y1 _)) (Zh (Zs 2 Gg.nd rfl (AD rfl) (Zn W3 (Z3 2) (Zg Em (Zl Zv (Z3 0) (Z3 1) (fun _ _=>rfl)) (Z4))))) Wh)
  (Zh (Y9 (Zn V0 (Zg Em (Z3 2) (Z4)) (Z4))))))))
theorem iL(b:JZ K mg "_law_word" Sa)(T:Txt K mg)   : G' P w K mg base 1 "_law_word" NM false Mm :=
 W4 (N:=cy) (ps:=NM) (st:=Sa) (k:=0) (g:=Tw) b Wi (fun _ _ _ _ _ _ us hl=>KM us hl fun _ _=>rfl) (fun f ah A outer s H E Z=>(by
  unfold Tw;exact(Zb (Zs 2 Wi.nd rfl (AD rfl) (Y2))
  (Zb (Zs 3 Wi.nd rfl (AD rfl) (Zn W3 (Z4) (Zg V0 (Z3 0) (Z4))))
  (Zb (Zs 4 Wi.nd rfl (AD rfl) (Zn V0 (Zg V3 (Z3 0) (Z4)) (Z3 3)))
  (Zb (Zs 5 Wi.nd rfl (AD rfl) (Y2))
  (Zb (Q6 BW rfl (Yy (by rfl) T.b_range (Z0 (Z3 3) Z8)) (Zq 6 Wi.nd rfl (AD rfl)) (Zb (Zs 7 Wi.nd rfl (AD rfl) (Zy))
  (Zb (Uc (Ws (Ms Z.units) (Z3 6) (Z3 4) (Y1 _)) (Zh (Zs 7 Wi.nd rfl (AD rfl) (Z5 1))) Wh)
  (Zh (Zs 5 Wi.nd rfl (AD rfl) (Zn W3 (Z3 5) (Zl Zv (Z3 2) (Zg V0 (Zg W3 (Zg W3 (Zg V3 (Z3 0) (Z4)) (Zg Em (Z4) (Z3 6))) (Zg Em (Z4) (Z3 7))) (Z4)) (fun _ _=>rfl))))))))
  (Zb (Uc (Ws (OK Z.units) (Z3 5) (Yj (Mt (Z0 (Y2) (Z0 (Y2) (Z0 (Y2) (Z0 (Y2) (Z0 (Y2) Z8))))))) (by rfl)) (Zh (Zs 5 Wi.nd rfl (AD rfl) (Zn W3 (Tr Ed (Z3 5) (Mq (Z4)) Mr) (RB (m:=true))))) Wh)
  (Zh (Y9 (Z5 5)))))))))))
theorem Cg(b:JZ K mg "_law_order" R3)(T:Txt K mg) (a:G' P w K mg base 1 "_law_mix" LR false Yo):G' P w K mg base 2 "_law_order" NL true R9 :=
 W4 (N:=YW) (ps:=NL) (st:=R3) (k:=1) (g:=Td) b Uh (fun _ _ _ _ _ _ us hl=>ME us hl fun _ _ _=>rfl) (fun f ah A outer s H E Z=>(by
  unfold Td;exact(Zb (Dm 3 Uh.nd rfl (AD rfl) (Mt Z8))
  (Zb (Q6 BW rfl (Yy (by rfl) T.b_range (Z0 (Z3 2) Z8)) (Zq 4 Uh.nd rfl (AD rfl)) (Zb (Zs 5 Uh.nd rfl (AD rfl) (Zj a Z.mono (Z0 (Z5 0) (Z0 (Zn W3 (Z3 1) (Z3 4)) Z8))))
  (Zb (Zs 6 Uh.nd rfl (AD rfl) (Zn V0 (Z3 5) (Zg W3 (Zo Wu (by rfl) T.b_len (by decide +kernel) (Z0 (xo 3) Z8)) (Z4))))
  (Zb (E4 3 PySem.F.slot_list_insert PySem.F.type_list_insert cW (Z0 (Z5 6) (Z0 (Z5 4) Z8)))
  (Zb (Zs 7 Uh.nd rfl (AD rfl) (Zn V0 (Zg V3 (Z3 5) (Z4)) (Zg Kb (Zo Wu (by rfl) T.b_len (by decide +kernel) (Z0 (xo 3) Z8)) (Z3 6))))
  (Zh (E4 3 PySem.F.slot_list_insert PySem.F.type_list_insert cW (Z0 (Zn W3 (Zg W3 (Z3 6) (Z4)) (Z3 7)) (Z0 (Z5 4) Z8)))))))))
  (Zh (P6 3))))))
theorem Fd(b:JZ K mg "_law_arrows" M9)(T:Txt K mg) (a:G' P w K mg base 1 "_law_mix" LR false Yo):G' P w K mg base 2 "_law_arrows" NT true Jx :=
 W4 (N:=YF) (ps:=NT) (st:=M9) (k:=1) (g:=Ug) b Vu (fun _ _ _ _ _ _ us hl=>MX us hl fun _ _ _ _=>rfl) (fun f ah A outer s H E Z=>(by
  unfold Ug;exact(Zb (Dm 4 Vu.nd rfl (AD rfl) (Mt Z8))
  (Zb (Q6 BW rfl (Yy (by rfl) T.b_range (Z0 (Z3 2) Z8)) (Zq 5 Vu.nd rfl (AD rfl)) (Zb (Zs 6 Vu.nd rfl (AD rfl) (Zj a Z.mono (Z0 (Z5 0) (Z0 (Zn W3 (Z3 1) (Z3 5)) Z8))))
  (Zb (Zs 7 Vu.nd rfl (AD rfl) (Zn V0 (Z3 6) (Z3 3)))
  (Zb (Zs 8 Vu.nd rfl (AD rfl) (Zn V0 (Zg V3 (Z3 6) (Z4)) (Z3 3)))
  (Zh (Uc (Oy.pt (I0 (Ws (PK Z.units) (Z3 7) (Z3 8) (Y1 _)) (E6 (Ws (Nk Z.units) (Mk (Z0 (U4 (ZO rfl) (by rfl) T.b_min (by decide +kernel) (Z0 (Z3 7) (Z0 (Z3 8) Z8))) (Z0 (U4 (cI rfl) (by rfl) T.b_max (by decide +kernel) (Z0 (Z3 7) (Z0 (Z3 8) Z8))) Z8))) (xo 4) (by rfl))))) (Zh (E4 4 CN CO D9 (Z0 (Yb (Z0 (U4 (ZO rfl) (by rfl) T.b_min (by decide +kernel) (Z0 (Z3 7) (Z0 (Z3 8) Z8))) (Z0 (U4 (cI rfl) (by rfl) T.b_max (by decide +kernel) (Z0 (Z3 7) (Z0 (Z3 8) Z8))) Z8))) Z8))) Wh))))))
  (Zh (P6 4))))))
theorem Ck(b:JZ K mg "_law_graph" Yn)(T:Txt K mg) (d:G' P w K mg base 2 "_law_order" NL true R9)(a:G' P w K mg base 1 "_law_mix" LR false Yo)(c:G' P w K mg base 2 "_law_arrows" NT true Jx)(e:G' P w K mg base 1 "_law_word" NM false Mm):G' P w K mg base 3 "_law_graph" NJ false Mx :=
 W4 (N:=OT) (ps:=NJ) (st:=Yn) (k:=2) (g:=Ut) b Zm (fun _ _ _ _ _ _ us hl=>MX us hl fun _ _ _ _=>rfl) (fun f ah A outer s H E Z=>(by
  unfold Ut;refine(Zb (Zs 4 Zm.nd rfl (AD rfl) (Zj d Z.mono (Z0 (Z5 0) (Z0 (Z5 1) (Z0 (Z5 2) Z8)))))
  (Zb (Zs 5 Zm.nd rfl (AD rfl) (Zn Em (Z4) (Z3 2)))
  (Zb (Zs 6 Zm.nd rfl (AD rfl) (Zj a Z.mono (Z0 (Z5 0) (Z0 (Zn W3 (Z3 1) (Z3 2)) Z8))))
  (Zb (Zs 7 Zm.nd rfl (BJ rfl) (Zj c Z.mono (Z0 (Z5 0) (Z0 (Zn W3 (Zg W3 (Z3 1) (Z3 2)) (Z4)) (Z0 (Z5 3) (Z0 (Z5 5) Z8))))))
  (Zb (Uc (Ws (Ms Z.units) (Zg V0 (Z3 6) (Z4)) (Z4) (Y1 _)) (Zh (Zs 7 Zm.nd rfl (BJ rfl) (Zn W3 (Z3 7) (Yj ?c0)))) Wh)
  (Zb (Q6 BW rfl (Yy (by rfl) T.b_range (Z0 (Z3 2) Z8)) (Zq 8 Zm.nd rfl (AD rfl)) (Zb (Zs 9 Zm.nd rfl (BJ rfl) (bC (m:=false) ED GU PySem.F.type_list_index bn (Z3 4) (Z0 (Z3 8) Z8)))
  (Zb (Zs 10 Zm.nd rfl (BJ rfl) (Zn W3 (Zg W3 (Z3 9) (Z4)) (bC (m:=true) ED GU PySem.F.type_list_index bn (Tr Ed (Z3 4) (Mq (Zg W3 (Z3 9) (Z4))) Mr) (Z0 (Z3 8) Z8))))
  (Zh (Zs 7 Zm.nd rfl (BJ rfl) (Zn W3 (Yj ?c1) (Yj (Mt (Z0 (Yb (Z0 (Z5 9) (Z0 (Z5 10) Z8))) Z8)))))))))
  (Zb (bY 11 Zm.nd rfl (AD rfl) (Z6 Yn) [none] ["_law_d"] rfl (show CompOk (Z6 Yn) _ OT ["_law_d"] [none] from CompOk.of (by decide +kernel)) rfl (Jr (Z3 4)) (fun _ _ _ _=>⟨(Zq 0 (show(["_law_d"]:C3 Str).Nodup from by decide +kernel) rfl (AD rfl)),Mv⟩) (by decide))
  (Zb (bY 12 Zm.nd rfl (AD rfl) (Z6 Yn) [none] ["_law_d"] rfl (show CompOk (Z6 Yn) _ OT ["_law_d"] [none] from CompOk.of (by decide +kernel)) rfl (Jr (Z3 4)) (fun _ _ _ _=>⟨(Zq 0 (show(["_law_d"]:C3 Str).Nodup from by decide +kernel) rfl (AD rfl)),Mv⟩) (by decide))
  (Zb (Zs 13 Zm.nd rfl (AD rfl) (Zy))
  (Zb (Zs 14 Zm.nd rfl (AD rfl) (Zn V0 (Zg V3 (Z3 6) (Z4)) (Z4)))
  (Zb (Q6 BW rfl (A7 (Z5 7)) (Lh (n:=2) rfl (Wo (Zq 15 Zm.nd rfl (AD rfl)) (Wo (Zq 16 Zm.nd rfl (AD rfl)) Eb))) (Zb (Bq 12 (Z3 15) (fun _ _=>rfl) (Z0 (Z5 14) Z8))
  (Zb (Bq 11 (Z3 16) (fun _ _=>rfl) (Z0 (Z5 14) Z8))
  (Zb (Bq 12 (Z3 16) (fun _ _=>rfl) (Z0 (Zn W3 (Z3 14) (Z4)) Z8))
  (Zb (Bq 11 (Z3 15) (fun _ _=>rfl) (Z0 (Zn W3 (Z3 14) (Z4)) Z8))
  (Zb (Zs 13 Zm.nd rfl (AD rfl) (Zn SI (Z3 13) (Zg RM (Z4) (Zg W3 (Z3 14) (Z4)))))
  (Zh (Zs 14 Zm.nd rfl (AD rfl) (Zn W3 (Z3 14) (Z4))))))))))
  (Zb (Zs 17 Zm.nd rfl (AD rfl) (Zn V0 (Zg V3 (Z3 6) (Z4)) (Zg RM (Z4) (Z3 2))))
  (Zb (Zs 18 Zm.nd rfl (AD rfl) (Z5 17))
  (Zb (Dm 19 Zm.nd rfl (AD rfl) (Mt Z8))
  (Zb (Q6 BW rfl (cz (by rfl) T.b_enumerate (Z5 4)) (Lh (n:=2) rfl (Wo (Zq 20 Zm.nd rfl (AD rfl)) (Wo (Zq 8 Zm.nd rfl (AD rfl)) Eb))) (Zb (E4 19 CN CO D9 (Z0 (Yb (Z0 (Z5 8) (Z0 (Ud (Ms Z.units) (Zg Nx (Zg VF (Z3 18) (Z3 8)) (Z4)) (Z4) (Y1 _)) (Z0 (Su (m:=false) Jy (by rfl) T.b_tuple (by decide +kernel) (Z0 (Yj (ZS Ae (by rfl) T.b_sorted (by decide +kernel) (Z0 (bw 11 (Z3 20) (fun _ _=>rfl)) Z8))) Z8)) (Z0 (Su (m:=false) Jy (by rfl) T.b_tuple (by decide +kernel) (Z0 (Yj (ZS Ae (by rfl) T.b_sorted (by decide +kernel) (Z0 (bw 12 (Z3 20) (fun _ _=>rfl)) Z8))) Z8)) Z8))))) Z8))
  (Zh (Zs 18 Zm.nd rfl (AD rfl) (Zn bj (Z3 18) (Zg RM (Z4) (Z3 8)))))))
  (Zb (Zs 21 Zm.nd rfl (AD rfl) (Zn V0 (Zg V3 (Z3 6) (Z4)) (Z3 5)))
  (Zb (Dm 19 Zm.nd rfl (AD rfl) (QU QK (Tr Ed (xo 19) (Mq (Z3 21)) Mr) (Tr Ed (xo 19) Mr (Mq (Z3 21)))))
  (Zb (Zs 22 Zm.nd rfl (BJ rfl) (Zn V3 (Z3 6) (Z4)))
  (Zb (Lq 23 Zm.nd rfl (AD rfl) (Z6 Yn) [none,some 22,some 0,some 1] OU rfl (show CompOk (Z6 Yn) _ OT OU [none,some 22,some 0,some 1] from CompOk.of (by decide +kernel)) rfl (Yy (by rfl) T.b_range (Z0 (Z3 2) Z8)) (fun _ _ _ _=>⟨(Zq 0 (show(OU:C3 Str).Nodup from by decide +kernel) rfl (AD rfl)),Mv,(Yb (Z0 (Zj e Z.mono (Z0 (Z5 1) (Z0 (Z5 0) Z8))) (Z0 (Zp Zv (Yj (Mt (Z0 (Y2) (Z0 (Y2) Z8)))) (Zg V0 (Zg V3 (Zx a Z.mono (Z0 (Z5 2) (Z0 (Zn W3 (Z3 3) (Z3 0)) Z8))) (Z4)) (Z4)) (fun _ _=>rfl)) Z8)))⟩) (by decide))
  (Zh (Y9 (Yb (Z0 (Su (m:=false) Jy (by rfl) T.b_tuple (by decide +kernel) (Z0 (Z3 23) Z8)) (Z0 (Su (m:=false) Jy (by rfl) T.b_tuple (by decide +kernel) (Z0 (xo 19) Z8)) (Z0 (Z5 13) (Z0 (Z5 17) Z8))))))))))))))))))))))))))
  case c0=>exact Vs (Z6 Yn) [none,some 7] PV rfl (show CompOk (Z6 Yn) _ OT PV [none,some 7] from CompOk.of (by decide +kernel)) rfl (Yy (by rfl) T.b_range (Z0 (Zg Kb (Z3 5) (Z4)) Z8)) (fun _ _ _ _=>⟨(Zq 0 (show(PV:C3 Str).Nodup from by decide +kernel) rfl (AD rfl)),(Ej (Ws (Nk Z.units) (Mk (Z0 (Z5 0) (Z0 (Zn W3 (Z3 0) (Z4)) Z8))) (Z3 1) (by rfl))),(Yb (Z0 (Z5 0) (Z0 (Zn W3 (Z3 0) (Z4)) Z8)))⟩) (by decide)
  case c1=>exact Vs (Z6 Yn) [none,some 9,some 10] OX rfl (show CompOk (Z6 Yn) _ OT OX [none,some 9,some 10] from CompOk.of (by decide +kernel)) rfl (Jr (Z3 7)) (fun _ _ _ _=>⟨(Zq 0 (show(OX:C3 Str).Nodup from by decide +kernel) rfl (AD rfl)),(Ej (Ws (PK Z.units) (Z3 0) (Mk (Z0 (Z5 1) (Z0 (Z5 2) Z8))) (Y1 _))),(Z5 0)⟩) (by decide)))
theorem Lr(b:JZ K mg "_law_with_made" T6)(T:Txt K mg)   : G' P w K mg base 1 "_law_with_made" NF false T7 :=
 W4 (N:=SS) (ps:=NF) (st:=T6) (k:=0) (g:=Wy) b Sd (fun _ _ _ _ _ _ us hl=>KM us hl fun _ _=>rfl) (fun f ah A outer s H E Z=>(by
  unfold Wy;exact(Zb (Dm 2 Sd.nd rfl (AD rfl) (dA cA (by rfl) T.b_list (by decide +kernel) (Z0 (Zl Zv (Z3 0) (Z4) (fun _ _=>rfl)) Z8)))
  (Zb (N0 2 (Z3 1) (Yb (Z0 (Zp Zv (Zl Zv (xo 2) (Z3 1) (fun _ _=>rfl)) (Z4) (fun _ _=>rfl)) (Z0 (Y2) Z8))))
  (Zh (Y9 (Zn N3 (Mk (Z0 (Su (m:=false) Jy (by rfl) T.b_tuple (by decide +kernel) (Z0 (xo 2) Z8)) Z8)) (Tr Ed (Z3 0) (Mq (Z4)) Mr))))))))
theorem Oc(b:JZ K mg "_law_new_name" Vc)(T:Txt K mg)   : G' P w K mg base 1 "_law_new_name" NY false Tn :=
 W4 (N:=WQ) (ps:=NY) (st:=Vc) (k:=0) (g:=Vf) b Wd (fun _ _ _ _ _ _ us hl=>KM us hl fun _ _=>rfl) (fun f ah A outer s H E Z=>(by
  unfold Vf;exact(Zb (Zs 2 Wd.nd rfl (AD rfl) (Y2))
  (Zb (Lq 3 Wd.nd rfl (AD rfl) (Z6 Vc) [none] KX rfl (show CompOk (Z6 Vc) _ WQ KX [none] from CompOk.of (by decide +kernel)) rfl (Jr (Z3 1)) (fun _ _ _ _=>⟨(Zq 0 (show(KX:C3 Str).Nodup from by decide +kernel) rfl (AD rfl)),Mv,(Zp Zv (Z3 0) (Z4) (fun _ _=>rfl))⟩) (by decide))
  (Zb (Q6 BW rfl (Yy (by rfl) T.b_range (Z0 (Z4) Z8)) (Zq 4 Wd.nd rfl (AD rfl)) (Zb (Zs 5 Wd.nd rfl (AD rfl) (Y2))
  (Zb (Q6 BW rfl (Yy (by rfl) T.b_range (Z0 (Zg W3 (Z4) (Zg V0 (Z3 0) (Z4))) Z8)) (Zq 6 Wd.nd rfl (AD rfl)) (Zh (Zs 5 Wd.nd rfl (AD rfl) (Zn W3 (Z3 5) (Zl Zv (Z3 2) (Zg V0 (Zg W3 (Zg W3 (Zg V3 (Z3 0) (Z4)) (Zg Em (Z4) (Z3 6))) (Z3 4)) (Z4)) (fun _ _=>rfl))))))
  (Zh (Uc (Oy.pt (I0 (Ws (Nk Z.units) (Z3 5) (Z3 3) (by rfl)) (E6 (Ws (Nk Z.units) (Z3 5) (Yj (Mt (Z0 (Y2) (Z0 (Y2) (Z0 (Y2) (Z0 (Y2) (Z0 (Y2) Z8))))))) (by rfl))))) (Zh (Y9 (Z5 5))) Wh)))))
  (Zh (Y9 (Y2))))))))
theorem Fe(b:JZ K mg "_law_caught" Jw)(T:Txt K mg) (a:JY P w K mg base 5 "put_in" MG false Vl)(c:JY P w K mg base 9 "parts" LO false Jz)(d:JY P w K mg base 10 "parted" NV false Rk):G' P w K mg base 11 "_law_caught" MC false Yr :=
 W4 (N:=cn) (ps:=MC) (st:=Jw) (k:=10) (g:=Wj) b Q9 (fun _ _ _ _ _ _ us hl=>UK us hl fun _ _ _ _ _=>rfl) (fun f ah A outer s H E Z=>(by
  unfold Wj;exact(Zb (Zs 5 Q9.nd rfl (AD rfl) (RY (m:=false)))
  (Zb (j6 (i:=6) (sub:=Ps JR) (fun _ _=>(Zh (Uc (Ws (Ms Z.units) (Z3 0) (Z4) (Y1 _)) (Zh (S9 (Db a Z.mono (Z0 (Z5 1) (Z0 (Z5 2) (Z0 (Z5 3) (Z0 (Z5 4) Z8))))))) (Zh (Uc (Ws (Ms Z.units) (Z3 0) (Z4) (Y1 _)) (Zh (S9 (Db c Z.mono (Z0 (Z5 1) (Z0 (Z5 2) (Z0 (Z5 3) (Z0 (Z5 4) (Z0 (Zy) Z8)))))))) (Zh (S9 (Db d Z.mono (Z0 (Z5 1) (Z0 (Z5 2) (Z0 (Zy) Z8))))))))))) (fun _ _=>(Zh (Zs 5 Q9.nd rfl (AD rfl) (Z5 6)))) T.k_8 Q9.nd rfl (AD rfl))
  (Zh (Y9 (Z5 5)))))))
theorem O6(b:JZ K mg "_law_no_place" Tk)(T:Txt K mg)   : G' P w K mg base 1 "_law_no_place" MP false Wt :=
 W4 (N:=["_law_caught_here","_law_some"]) (ps:=MP) (st:=Tk) (k:=0) (g:=Vh) b Jp (fun _ _ _ _ _ _ us hl=>MO us hl fun _=>rfl) (fun f ah A outer s H E Z=>(by
  unfold Vh;exact(Zb (Dm 1 Jp.nd rfl (AD rfl) (Mt (Z0 (OH (m:=false) (tx:="Broken") (sb:=Qm JR "Broken") (Z3 0) T.i_0 T.b_isinstance) (Z0 (OH (m:=false) (tx:="Crowded") (sb:=Qm JR "Crowded") (Z3 0) T.i_1 T.b_isinstance) (Z0 (OH (m:=false) (tx:="CalledOff") (sb:=Qm JR "CalledOff") (Z3 0) T.i_3 T.b_isinstance) Z8)))))
  (Zb (Dm 1 Jp.nd rfl (AD rfl) (QU QK (xo 1) (Yj (Mt (Z0 (OH (m:=false) (tx:="TooMany") (sb:=Qm JR "TooMany") (Z3 0) T.i_2 T.b_isinstance) (Z0 (OH (m:=false) (tx:="NoText") (sb:=Qm JR "NoText") (Z3 0) T.i_7 T.b_isinstance) (Z0 (OH (m:=false) (tx:="NoMove") (sb:=Qm JR "NoMove") (Z3 0) T.i_5 T.b_isinstance) Z8)))))))
  (Zb (E4 1 CN CO D9 (Z0 (OH (m:=false) (tx:="Clash") (sb:=Qm JR "Clash") (Z3 0) T.i_4 T.b_isinstance) Z8))
  (Zh (Y9 (UV (m:=false) (OH (m:=true) (tx:="NoPlace") (sb:=Qm JR "NoPlace") (Z3 0) T.i_6 T.b_isinstance) (UV (hH (m:=true) (sb:=A6 JR) (Z3 0) T.b_ValueError (by decide +kernel) (by decide +kernel) T.j_ValueError T.b_isinstance) (QC (jt (m:=false) (Zo (VY rfl) (by rfl) T.b_any (by decide +kernel) (Z0 (xo 1) Z8)))))))))))))
theorem mO(b:JZ K mg "_law_has" Jk)(T:Txt K mg)   : G' P w K mg base 1 "_law_has" LI false S3 :=
 W4 (N:=LI) (ps:=LI) (st:=Jk) (k:=0) (g:=Jt) b fZ (fun _ _ _ _ _ _ us hl=>KM us hl fun _ _=>rfl) (fun f ah A outer s H E Z=>(by
  unfold Jt;refine(Zh (Y9 (TX (m:=false) (RV (m:=true) (Ms Z.units) (Zg Nx (Zg VF (Zl Zv (Z3 0) (Z4) (fun _ _=>rfl)) (Z3 1)) (Z4)) (Z4) (Y1 _)) (QC (U4 (VY rfl) (by rfl) T.b_any (by decide +kernel) (Z0 (Yj ?c0) Z8))))))
  case c0=>exact Vs (Z6 Jk) [none,some 1] OV rfl (show CompOk (Z6 Jk) _ LI OV [none,some 1] from CompOk.of (by decide +kernel)) rfl (Jr (Zl Zv (Z3 0) (Z4) (fun _ _=>rfl))) (fun _ _ _ _=>⟨(Zq 0 (show(OV:C3 Str).Nodup from by decide +kernel) rfl (AD rfl)),Mv,(TX (m:=false) (RV (m:=true) (OK Z.units) (Z3 1) (Zl Zv (Z3 0) (Z4) (fun _ _=>rfl)) (by rfl)) (QC (Ud (OK Z.units) (Z3 1) (Zl Zv (Z3 0) (Z4) (fun _ _=>rfl)) (by rfl))))⟩) (by decide)))
theorem gY(b:JZ K mg "_law_full" W1)(T:Txt K mg) (a:G' P w K mg base 1 "_law_has" LI false S3):G' P w K mg base 2 "_law_full" MT false Wl :=
 W4 (N:=OW) (ps:=MT) (st:=W1) (k:=1) (g:=Wb) b W8 (fun _ _ _ _ _ _ us hl=>MX us hl fun _ _ _ _=>rfl) (fun f ah A outer s H E Z=>(by
  unfold Wb;refine(Zb (nS (Z5 0) (Lh (n:=4) rfl (Wo (Zq 4 W8.nd rfl (AD rfl)) (Wo (Zq 5 W8.nd rfl (BJ rfl)) (Wo (Zq 6 W8.nd rfl (AD rfl)) (Wo (Zq 7 W8.nd rfl (AD rfl)) Eb))))))
  (Zb (Uc (Ws (Ms Z.units) (Z3 1) (Z4) (Y1 _)) (Zb (Lq 8 W8.nd rfl (AD rfl) (Z6 W1) [none] ["_law_k"] rfl (show CompOk (Z6 W1) _ OW ["_law_k"] [none] from CompOk.of (by decide +kernel)) rfl (Yy (by rfl) T.b_range (Z0 (Zg Kb (Zg Kb (Z4) (Z3 3)) (Zo Wu (by rfl) T.b_len (by decide +kernel) (Z0 (Z3 4) Z8))) Z8)) (fun _ _ _ _=>⟨(Zq 0 (show(["_law_k"]:C3 Str).Nodup from by decide +kernel) rfl (AD rfl)),Mv,(Zn Em (Zl Zv (RB (m:=true)) (Z3 0) (fun _ _=>rfl)) (Z4))⟩) (by decide))
  (Zh (Y9 (Yb (Z0 (Zn N3 (Z3 4) (Su (m:=true) Jy (by rfl) T.b_tuple (by decide +kernel) (Z0 (Yj ?c0) Z8))) (Z0 (Z5 5) (Z0 (Z5 6) (Z0 (Z5 7) Z8)))))))) Wh)
  (Zb (Uc (Ws (Ms Z.units) (Z3 1) (Z4) (Y1 _)) (Zb (Zs 9 W8.nd rfl (BJ rfl) (Mj ?c1))
  (Zb (Zs 9 W8.nd rfl (BJ rfl) (S7 Ed (Yj (Mt (Z0 (Zp Zv (Z3 9) (Zg V0 (Z3 2) (Zo Wu (by rfl) T.b_len (by decide +kernel) (Z0 (Z3 9) Z8))) (fun _ _=>rfl)) (Z0 (Zp Zv (Z3 9) (Zg V0 (Zg W3 (Zg W3 (Z3 2) (Z4)) (Zg V0 (Zg V3 (Z3 2) (Z4)) (Zg Kb (Zo Wu (by rfl) T.b_len (by decide +kernel) (Z0 (Z3 9) Z8)) (Z4)))) (Zo Wu (by rfl) T.b_len (by decide +kernel) (Z0 (Z3 9) Z8))) (fun _ _=>rfl)) Z8)))) Mr (Mq (Zg W3 (Z4) (Z3 3)))))
  (Zb (Zs 10 W8.nd rfl (AD rfl) (Su (m:=false) Jy (by rfl) T.b_tuple (by decide +kernel) (Z0 (Yj ?c2) Z8)))
  (Zb (Zs 11 W8.nd rfl (AD rfl) (Zp Zv (Z3 5) (Z4) (fun _ _=>rfl)))
  (Zh (Y9 (Yb (Z0 (Z5 4) (Z0 (Zn N3 (Mk (Z0 (Yb (Z0 (Zp Zv (Z3 11) (Z4) (fun _ _=>rfl)) (Z0 (Zp Zv (Z3 11) (Z4) (fun _ _=>rfl)) (Z0 (Zp Zv (Z3 11) (Z4) (fun _ _=>rfl)) (Z0 (Z5 10) Z8))))) Z8)) (Tr Ed (Z3 5) (Mq (Z4)) Mr)) (Z0 (Z5 6) (Z0 (Z5 7) Z8))))))))))) Wh)
  (Zb (Lq 8 W8.nd rfl (AD rfl) (Z6 W1) [none,some 5] PL rfl (show CompOk (Z6 W1) _ OW PL [none,some 5] from CompOk.of (by decide +kernel)) rfl (Yy (by rfl) T.b_range (Z0 (Zg Kb (Zg Kb (Z4) (Z3 3)) (Zo Wu (by rfl) T.b_len (by decide +kernel) (Z0 (Z3 5) Z8))) Z8)) (fun _ _ _ _=>⟨(Zq 0 (show(PL:C3 Str).Nodup from by decide +kernel) rfl (AD rfl)),Mv,(Zp Zv (Z3 1) (Zg V0 (Z3 0) (Zo Wu (by rfl) T.b_len (by decide +kernel) (Z0 (Z3 1) Z8))) (fun _ _=>rfl))⟩) (by decide))
  (Zh (Y9 (Yb (Z0 (Z5 4) (Z0 (Zn N3 (Z3 5) (Su (m:=true) Jy (by rfl) T.b_tuple (by decide +kernel) (Z0 (Z3 8) Z8))) (Z0 (Z5 6) (Z0 (Z5 7) Z8)))))))))))
  case c0=>exact Vs (Z6 W1) [none] ["_law_word_here"] rfl (show CompOk (Z6 W1) _ OW ["_law_word_here"] [none] from CompOk.of (by decide +kernel)) rfl (Jr (Z3 8)) (fun _ _ _ _=>⟨(Zq 0 (show(["_law_word_here"]:C3 Str).Nodup from by decide +kernel) rfl (AD rfl)),Mv,(Yb (Z0 (Z5 0) (Z0 (Y2) Z8)))⟩) (by decide)
  case c1=>exact Vs (Z6 W1) [none,some 0] PM rfl (show CompOk (Z6 W1) _ OW PM [none,some 0] from CompOk.of (by decide +kernel)) rfl (Yy (by rfl) T.b_range (Z0 (Z4) Z8)) (fun _ _ _ _=>⟨(Zq 0 (show(PM:C3 Str).Nodup from by decide +kernel) rfl (AD rfl)),(Ej (Pq (Sw (Zx a Z.mono (Z0 (Z5 1) (Z0 (Z5 0) Z8)))))),(Z5 0)⟩) (by decide)
  case c2=>exact Vs (Z6 W1) [none,some 9] ["_law_p","_law_free"] rfl (show CompOk (Z6 W1) _ OW ["_law_p","_law_free"] [none,some 9] from CompOk.of (by decide +kernel)) rfl (Yy (by rfl) T.b_range (Z0 (Z4) Z8)) (fun _ _ _ _=>⟨(Zq 0 (show(["_law_p","_law_free"]:C3 Str).Nodup from by decide +kernel) rfl (AD rfl)),(Ej (Ws (Nk Z.units) (Z3 0) (Z3 1) (by rfl))),(Z5 0)⟩) (by decide)))
theorem mz(b:JZ K mg "_law_just" Sn)(T:Txt K mg) (a:G' P w K mg base 11 "_law_caught" MC false Yr):G' P w K mg base 12 "_law_just" MH false Me :=
 W4 (N:=MH) (ps:=MH) (st:=Sn) (k:=11) (g:=Tu) b Cu (fun _ _ _ _ _ _ us hl=>MX us hl fun _ _ _ _=>rfl) (fun f ah A outer s H E Z=>(by
  unfold Tu;exact(Zh (Y9 (UV (m:=false) (RV (m:=true) cS (Zx a Z.mono (Z0 (Zy) (Z0 (Z5 0) (Z0 (Z5 1) (Z0 (Z5 2) (Z0 (Z5 3) Z8)))))) (G1) (Y1 _)) (QC (Ud cS (Zx a Z.mono (Z0 (Zy) (Z0 (Z5 0) (Z0 (Z5 1) (Z0 (Z5 2) (Z0 (Z5 3) Z8)))))) (G1) (Y1 _))))))))
theorem O8(b:JZ K mg "_law_bad_name" Ve)(T:Txt K mg)   : G' P w K mg base 1 "_law_bad_name" MR false Vg :=
 W4 (N:=PN) (ps:=MR) (st:=Ve) (k:=0) (g:=Vd) b Jm (fun _ _ _ _ _ _ us hl=>KM us hl fun _ _=>rfl) (fun f ah A outer s H E Z=>(by
  unfold Vd;refine Zb ?c0 ?t0
  case c0=>exact(by
   refine Zs (x:="_law_some") 2 ?a1 ?a2 ?a3 ?a4 ?a5 ?a6
   case a1=>exact Jm.nd
   case a2=>rfl
   case a3=>exact(AD rfl)
   case a5=>kernel_rfl!
   case a6=>first | exact .inl rfl | exact .inr rfl
   case a4 =>
    refine Mj ?_;exact Mt (by
     refine Z0 ?q0 ?r0 ?h0
     case h0=>kernel_rfl!
     case q0=>exact(Y2)
     refine Z0 ?q1 ?r1 ?h1
     case h1=>kernel_rfl!
     case q1=>exact(Y2)
     refine Z0 ?q2 ?r2 ?h2
     case h2=>kernel_rfl!
     case q2=>exact(Y2)
     refine Z0 ?q3 ?r3 ?h3
     case h3=>kernel_rfl!
     case q3=>exact(Y2)
     refine Z0 ?q4 ?r4 ?h4
     case h4=>kernel_rfl!
     case q4=>exact(Y2)
     refine Z0 ?q5 ?r5 ?h5
     case h5=>kernel_rfl!
     case q5=>exact(Y2)
     refine Z0 ?q6 ?r6 ?h6
     case h6=>kernel_rfl!
     case q6=>exact(Y2)
     refine Z0 ?q7 ?r7 ?h7
     case h7=>kernel_rfl!
     case q7=>exact(Y2)
     refine Z0 ?q8 ?r8 ?h8
     case h8=>kernel_rfl!
     case q8=>exact(Y2)
     refine Z0 ?q9 ?r9 ?h9
     case h9=>kernel_rfl!
     case q9=>exact(Y2)
     refine Z0 ?q10 ?r10 ?h10
     case h10=>kernel_rfl!
     case q10=>exact(Y2)
     refine Z0 ?q11 ?r11 ?h11
     case h11=>kernel_rfl!
     case q11=>exact(Y2)
     exact Z8))
  refine(Zb (Zs 2 Jm.nd rfl (AD rfl) (Zn W3 (Z3 2) (Yj (QU eb (Yj ?c1) (Z4)))))
  (Zh (Y9 (Zp Zv (Z3 2) (Zg V0 (Z3 0) (Zo Wu (by rfl) T.b_len (by decide +kernel) (Z0 (Z3 2) Z8))) (fun _ _=>rfl)))))
  case c1=>exact Vs (Z6 Ve) [none] KX rfl (show CompOk (Z6 Ve) _ PN KX [none] from CompOk.of (by decide +kernel)) rfl (Jr (Zl Zv (Z3 1) (Z4) (fun _ _=>rfl))) (fun _ _ _ _=>⟨(Zq 0 (show(KX:C3 Str).Nodup from by decide +kernel) rfl (AD rfl)),Mv,(Zp Zv (Z3 0) (Z4) (fun _ _=>rfl))⟩) (by decide)))
theorem Bk(b:JZ K mg "_law_asked" R6)(T:Txt K mg) (a:G' P w K mg base 11 "_law_caught" MC false Yr)(c:G' P w K mg base 1 "_law_no_place" MP false Wt):G' P w K mg base 12 "_law_asked" OA false Yf :=
 W4 (N:=c7) (ps:=OA) (st:=R6) (k:=11) (g:=Ta) b M8 (fun _ _ _ _ _ _ us hl=>UK us hl fun _ _ _ _ _=>rfl) (fun f ah A outer s H E Z=>(by
  unfold Ta;exact(Zb (Zs 5 M8.nd rfl (AD rfl) (Mj (Mt (Z0 (Ud OC (Z3 4) (Z4) (Y1 _)) (Z0 (Ud OC (Z3 4) (Z4) (Y1 _)) (Z0 (TX (m:=false) (RV (m:=true) (Ms Z.units) (Z3 4) (Z4) (Y1 _)) (QC (Ud OC (Z3 4) (Z4) (Y1 _)))) Z8))))))
  (Zb (Q6 BW rfl (Yy (by rfl) T.b_range (Z0 (Z4) Z8)) (Zq 6 M8.nd rfl (AD rfl)) (Zh (Uc (Oy.pt (Xr (Ws S' (Z3 6) (Z4) (Y1 _)) (Xr (Sw (Zl Zv (Z3 5) (Z4) (fun _ _=>rfl))) (Pa (Ws (Ms Z.units) (Z3 4) (Z4) (Y1 _)))))) (Zb (Uc (Oy.pt (I0 (Ws (Ms Z.units) (Z3 6) (Z4) (Y1 _)) (E6 (Ws OC (Z3 4) (Z4) (Y1 _))))) (Zh YX) Wh)
  (Zb (Zs 7 M8.nd rfl (AD rfl) (Zj a Z.mono (Z0 (Z5 6) (Z0 (Z5 0) (Z0 (Z5 1) (Z0 (Z5 2) (Z0 (Z5 3) Z8)))))))
  (Zh (Uc (Oy.pt (Xr (Oy.pt (I0 (Sw (Zl Zv (Z3 5) (Z3 6) (fun _ _=>rfl))) (E6 (Pq (Sw (Zx c Z.mono (Z0 (Z5 7) Z8))))))) (Pa (Oy.pt (I0 (Pq (Sw (Zl Zv (Z3 5) (Z3 6) (fun _ _=>rfl)))) (E6 (Ws VG (Z3 7) (G1) (Y1 _)))))))) (Zh (Y9 (Vp))) Wh)))) Wh)))
  (Zh (Y9 (Vp)))))))
theorem Nc(b:JZ K mg "_law_all_given" Wx)(T:Txt K mg) (c:G' P w K mg base 1 "_law_no_place" MP false Wt)(a:G' P w K mg base 11 "_law_caught" MC false Yr)(e:G' P w K mg base 2 "_law_full" MT false Wl)(d:G' P w K mg base 1 "_law_bad_name" MR false Vg):G' P w K mg base 12 "_law_all_given" NE false Uv :=
 W4 (N:=PH) (ps:=NE) (st:=Wx) (k:=11) (g:=Wv) b Qh (fun _ _ _ _ _ _ us hl=>ME us hl fun _ _ _=>rfl) (fun f ah A outer s H E Z=>(by
  unfold Wv;refine(Zb (Zs 3 Qh.nd rfl (AD rfl) (Su (m:=false) Jy (by rfl) T.b_tuple (by decide +kernel) (Z0 (Yj ?c0) Z8)))
  (Zb (Zs 4 Qh.nd rfl (AD rfl) (Zn N3 (Mk (Z0 (Z5 3) Z8)) (Tr Ed (Z3 0) (Mq (Z4)) Mr)))
  (Zb (Uc (Ws VG (Zx a Z.mono (Z0 (Zy) (Z0 (Z5 4) (Z0 (Z5 1) (Z0 (Zy) (Z0 (Zy) Z8)))))) (G1) (Y1 _)) (Zh (Y9 (Vp))) Wh)
  (Zb (Uc (Pq (Sw (Zx c Z.mono (Z0 (Zj a Z.mono (Z0 (Zy) (Z0 (Z5 4) (Z0 (Zj d Z.mono (Z0 (Z5 2) (Z0 (Z5 4) Z8))) (Z0 (Zy) (Z0 (Zy) Z8)))))) Z8)))) (Zh (Y9 (Vp))) Wh)
  (Zh (Y9 (Zj c Z.mono (Z0 (Zj a Z.mono (Z0 (Zy) (Z0 (Zj e Z.mono (Z0 (Z5 4) (Z0 (Zy) (Z0 (Z5 2) (Z0 (Zy) Z8))))) (Z0 (Z5 1) (Z0 (Zy) (Z0 (Zy) Z8)))))) Z8))))))))
  case c0=>exact Vs (Z6 Wx) [none] KX rfl (show CompOk (Z6 Wx) _ PH KX [none] from CompOk.of (by decide +kernel)) rfl (Jr (Zl Zv (Z3 0) (Z4) (fun _ _=>rfl))) (fun _ _ _ _=>⟨(Zq 0 (show(KX:C3 Str).Nodup from by decide +kernel) rfl (AD rfl)),Mv,(Yb (Z0 (Zp Zv (Z3 0) (Z4) (fun _ _=>rfl)) (Z0 (Y2) Z8)))⟩) (by decide)))
theorem i7{f:A4}(b:KY K "law" "law" Sg f fd)(T:Txt K mg) (a:G' P w K mg base 1 "_law_mix" LR false Yo)(h:G' P w K mg base 1 "_law_with_made" NF false T7)(j:G' P w K mg base 1 "_law_new_name" NY false Tn)(c:G' P w K mg base 12 "_law_asked" OA false Yf)(k:G' P w K mg base 3 "_law_graph" NJ false Mx)(l:G' P w K mg base 12 "_law_just" MH false Me)(i:G' P w K mg base 12 "_law_all_given" NE false Uv)(d:G' P w K mg base 1 "_law_bad_name" MR false Vg)(e:G' P w K mg base 2 "_law_full" MT false Wl)(hl:∀ ns:C3 Int,ns.length<=63->XF [.lst (ns.map .int)]=.ok (.bl true)):KC P w K mg base Ht 13 f fd MQ (QQ K) :=
 eQ (N:=UC) (ps:=MQ) (st:=Sg) (g:=A9) b Rz rfl (fun ah A outer s H E Z=>(by
  unfold A9;refine(Zb (Zs 1 Rz.nd rfl (AD rfl) (Zn W3 (Z4) (Zg V0 (Zx a Z.mono (Z0 (Z5 0) (Z0 (Zy) Z8))) (Z4))))
  (Zb (Zs 2 Rz.nd rfl (AD rfl) (Zj a Z.mono (Z0 (Z5 0) (Z0 (Zy) Z8))))
  (Zb (Zs 3 Rz.nd rfl (BJ rfl) (Zj h Z.mono (Z0 (Zj k Z.mono (Z0 (Z5 0) (Z0 (Zy) (Z0 (Z5 1) (Z0 (Zn V0 (Zx a Z.mono (Z0 (Z5 0) (Z0 (Zy) Z8))) (Z4)) Z8))))) (Z0 (Zn V0 (Zg V3 (Z3 2) (Z4)) (Z3 1)) Z8))))
  (Zb (Dm 4 Rz.nd rfl (BJ rfl) ?c0)
  (Zb (Lq 5 Rz.nd rfl (AD rfl) (Z6 Sg) [none,some 4] ["_law_k","_law_some"] rfl (show CompOk (Z6 Sg) _ UC ["_law_k","_law_some"] [none,some 4] from CompOk.of (by decide +kernel)) rfl (Yy (by rfl) T.b_range (Z0 (Zo Wu (by rfl) T.b_len (by decide +kernel) (Z0 (Zl Zv (Z3 3) (Z4) (fun _ _=>rfl)) Z8)) Z8)) (fun _ _ _ _=>⟨(Zq 0 (show(["_law_k","_law_some"]:C3 Str).Nodup from by decide +kernel) rfl (AD rfl)),(Ej (Ws (Nk Z.units) (Z3 0) (xo 1) (by rfl))),(Z5 0)⟩) (by decide))
  (Zb (jr 6 4 Rz.nd rfl (AD rfl) (Z0 (Zg V0 (Zg V3 (Z3 2) (Z4)) (Zo Wu (by rfl) T.b_len (by decide +kernel) (Z0 (xo 4) Z8))) Z8))
  (Zb (Zs 7 Rz.nd rfl (AD rfl) (Zp Zv (xo 4) (Zg V0 (Zg V3 (Z3 2) (Z4)) (Zo Wu (by rfl) T.b_len (by decide +kernel) (Z0 (xo 4) Z8))) (fun _ _=>rfl)))
  (Zb (Zs 8 Rz.nd rfl (AD rfl) (Zj j Z.mono (Z0 (Zn V3 (Z3 2) (Z4)) (Z0 (Zp Zv (Z3 3) (Z4) (fun _ _=>rfl)) Z8))))
  (Zb (Uc (Oy.pt (Xr (Pq (Sw (Zx c Z.mono (Z0 (Z5 3) (Z0 (Z5 8) (Z0 (Z5 6) (Z0 (Z5 7) (Z0 (Zy) Z8)))))))) (Pa (Pq (Sw (Zx i Z.mono (Z0 (Z5 3) (Z0 (Z5 8) (Z0 (Zn V3 (Z3 2) (Z4)) Z8))))))))) (Zh (Y9 (Vp))) Wh)
  (Zb (Zs 9 Rz.nd rfl (AD rfl) (Zn W3 (Z4) (Zg V0 (Zg V3 (Z3 2) (Z4)) (Z4))))
  (Zb (Uc (Ws (Ms Z.units) (Z3 9) (Z4) (Y1 _)) (Zh (Y9 (Zj c Z.mono (Z0 (Z5 3) (Z0 (Zj d Z.mono (Z0 (Zn V3 (Z3 2) (Z4)) (Z0 (Z5 3) Z8))) (Z0 (Z5 6) (Z0 (Z5 7) (Z0 (Zy) Z8)))))))) Wh)
  (Zb (Uc (Ws (Ms Z.units) (Z3 9) (Z4) (Y1 _)) (Zh (Y9 (Zj c Z.mono (Z0 (Z5 3) (Z0 (Z5 8) (Z0 (Zp Zv (Yj (Mt (Z0 (Zn Kb (UA (m:=true) YS (Z4)) (Zg V0 (Zg V3 (Z3 2) (Z4)) (Z4))) (Z0 (Zn W3 (Z4) (Zg V3 (Z3 2) (Z4))) Z8)))) (Zg V0 (Z3 2) (Z4)) (fun _ _=>rfl)) (Z0 (Z5 7) (Z0 (Zy) Z8)))))))) Wh)
  (Zb (Uc (Ws (Ms Z.units) (Z3 9) (Z4) (Y1 _)) (Zh (Y9 (Zj c Z.mono (Z0 (Z5 3) (Z0 (Z5 8) (Z0 (Z5 6) (Z0 (Zp Zv (Yj (Mt (Z0 (Zn Kb (Z4) (Z4)) (Z0 (U4 Wu (by rfl) T.b_len (by decide +kernel) (Z0 (Zl Zv (Z3 3) (Z4) (fun _ _=>rfl)) Z8)) Z8)))) (Zg V0 (Z3 2) (Z4)) (fun _ _=>rfl)) (Z0 (Zy) Z8)))))))) Wh)
  (Zb (Uc (Ws (Ms Z.units) (Z3 9) (Z4) (Y1 _)) (Zh (Y9 (Zj c Z.mono (Z0 (Z5 3) (Z0 (Z5 8) (Z0 (Z5 6) (Z0 (Z5 6) (Z0 (Zy) Z8)))))))) Wh)
  (Zb (Uc (Ws (Ms Z.units) (Z3 9) (Z4) (Y1 _)) (Zb (Zs 10 Rz.nd rfl (AD rfl) (Zp Zv (Zg W3 (Z3 5) (Yj (Mt (Z0 (Zy) Z8)))) (Zg V0 (Z3 2) (Zg W3 (Zo Wu (by rfl) T.b_len (by decide +kernel) (Z0 (Z3 5) Z8)) (Z4))) (fun _ _=>rfl)))
  (Zh (Y9 (Zj c Z.mono (Z0 (Z5 3) (Z0 (Z5 8) (Z0 (Zp Zv (Yj (Mt (Z0 (Z5 6) (Z0 (Z5 10) Z8)))) (Zg V0 (Zg V3 (Z3 2) (Z4)) (Z4)) (fun _ _=>rfl)) (Z0 (Z5 10) (Z0 (Zy) Z8))))))))) Wh)
  (Zb (Uc (Pq (Sw (Zx c Z.mono (Z0 (Zj e Z.mono (Z0 (Z5 3) (Z0 (Z5 9) (Z0 (Zn V3 (Z3 2) (Z4)) (Z0 (Zy) Z8))))) (Z0 (Z5 8) (Z0 (Z5 6) (Z0 (Z5 7) (Z0 (Z5 9) Z8)))))))) (Zh (Y9 (Vp))) Wh)
  (Zb (Uc (Pq (Sw (Zx l Z.mono (Z0 (Zj e Z.mono (Z0 (Z5 3) (Z0 (Z5 9) (Z0 (Zn V3 (Z3 2) (Z4)) (Z0 (Zy) Z8))))) (Z0 (Z5 8) (Z0 (Z5 6) (Z0 (Z5 7) Z8))))))) (Zh (Y9 (Vp))) Wh)
  (Zh (Y9 (Zj c Z.mono (Z0 (Z5 3) (Z0 (Z5 8) (Z0 (Z5 6) (Z0 (Z5 7) (Z0 (Zy) Z8)))))))))))))))))))))))))
  case c0=>exact Vs (Z6 Sg) [none,none,some 3] NZ rfl (show CompOk (Z6 Sg) _ UC NZ [none,none,some 3] from CompOk.of (by decide +kernel)) rfl (Bu (by rfl) T.b_enumerate (Zl Zv (Z3 3) (Z4) (fun _ _=>rfl))) (fun _ _ _ _=>⟨(Lh (n:=2) rfl (Wo (Zq 0 (show(NZ:C3 Str).Nodup from by decide +kernel) rfl (AD rfl)) (Wo (Zq 1 (show(NZ:C3 Str).Nodup from by decide +kernel) rfl (AD rfl)) Eb))),(Ej (Ws (Ms Z.units) (Zl Zv (Zl Zv (Zl Zv (Z3 2) (Z4) (fun _ _=>rfl)) (Zl Zv (Z3 1) (Z4) (fun _ _=>rfl)) (fun _ _=>rfl)) (Z4) (fun _ _=>rfl)) (RB (m:=true)) (Y1 _))),(Z5 0)⟩) (by decide))) hl
end
end K72
variable{p:Nat×Nat}{y m:Nat}{z:PySem.Str}{d0:L2.Dat}{ms ch:C3 Nat}
namespace L2
open PySem PySem.Spec PyProof.Rows
def Gd(r:Fl)(N:Ev->Prop)(R:Dat->Prop):Prop:=match r with
 | .next e=>N e
 | .ret d=>R d
 | _=>False
structure Go (r:Fl) (N:Ev->Prop) (R:Dat->Prop):Prop where
 of:Gd r N R
section
variable{g:Ev->Fl}{d:Dat}
theorem Go.mono{N':Ev->Prop}{g:Dat->Prop}(q:Go r N R)(hN:∀ e,N e->N' e)(E:∀ d,R d->g d):Go r N' g:=by
 cases r with
 | next e=>exact⟨hN e q.of⟩
 | ret d=>exact⟨E d q.of⟩
 | _=>exact q.of.elim
theorem Yd(q:N env):Go (U6 env) N R:=⟨q⟩
theorem Z9(q:Go (g env) (fun e=>Go (h e) N R) R):Go (Zf g h env) N R:=by
 unfold Zf;cases e:g env with
 | next e'=>rw[e] at q;exact q.of
 | ret d=>rw[e] at q;exact⟨q.of⟩
 | _=>rw[e] at q;exact q.of.elim
theorem Zi(e:f env=some d)(q:N (env.set i (.fz d))):Go (Y6 i f env) N R:=by unfold Y6;rw[e];exact⟨q⟩
theorem Je(e:fs env=some ds)(q:N (env.set i (.ow ds))):Go (Eo i fs env) N R:=by unfold Eo;rw[e];exact⟨q⟩
theorem Zt(e:f env=some d)(q:R d):Go (Yq f env) N R:=by unfold Yq;rw[e];exact⟨q⟩
theorem Lc(e:env[i]?=some (.ow ds))(q:R (.lst ds)):Go (Iy i env) N R:=by unfold Iy;rw[e];exact⟨q⟩
theorem m9(e:t env=some true)(q:Go (g env) N R):Go (Qp t g h env) N R:=by unfold Qp;rw[e];exact q
theorem To(e:t env=some false)(q:Go (h env) N R):Go (Qp t g h env) N R:=by unfold Qp;rw[e];exact q
theorem Q3{b:Bool}(e:t env=some b)(q1:b=true->Go (g env) N R)(q2:b=false->Go (h env) N R):Go (Qp t g h env) N R:=by
 cases b with
 | true=>exact m9 e (q1 rfl)
 | false=>exact To e (q2 rfl)
theorem VV(e:f env=some d)(e2:gg d env=some env')(q:N env'):Go (SE f gg env) N R:=by
 unfold SE;rw[e];dsimp only[Option.bind];rw[e2];exact⟨q⟩
theorem R5{F:C3 Dat->C3 Dat->C2 (C3 Dat)}{ds':C3 Dat}(e:env[i]?=some (.ow ds))(e2:fs env=some as)(e3:F ds as=some ds')(q:N (env.set i (.ow ds'))):Go (D8 i F fs env) N R:=by
 unfold D8;rw[e];dsimp only;rw[e2];dsimp only[Option.bind];rw[e3];exact⟨q⟩
theorem bo(P:Nat->Ev->Prop):∀ (ds:C3 Dat) (k:Nat) (env:Ev),P k env->(∀ i d e,ds[i]?=some d->P (k+i) e->∃ e1,gg d e=some e1/\Go (g e1) (P (k+i+1)) R)->(∀ e,P (k+ds.length) e->N e)->Go (Ii gg g ds env) N R
 | [],k,env,h0,_,hN=>⟨hN env h0⟩
 | d::ds,k,env,h0,hs,hN=>by
  obtain⟨e1,a1,a2⟩:=hs 0 d env rfl h0;rw[Ii,a1];dsimp only;cases e:g e1 with
  | next e' =>
   rw[e] at a2;exact bo P ds (k+1) e' a2.of (fun i d e hi hp=>by
    have:=hs (i+1) d e (by simpa using hi) (by rw[show k+(i+1)=k+1+i by lia];exact hp);rw[show k+1+i+1=k+(i+1)+1 by lia];exact this) (fun e hp=>hN e (by rw[BC,show k+(ds.length+1)=k+1+ds.length by lia];exact hp))
  | ret d'=>rw[e] at a2;exact⟨a2.of⟩
  | _=>rw[e] at a2;exact a2.of.elim
theorem Te(P:Nat->Ev->Prop)(e:src env=some ds)(h0:P 0 env)(hs:∀ i d e,ds[i]?=some d->P i e->∃ e1,gg d e=some e1/\Go (g e1) (P (i+1)) R)(hN:∀ e,P ds.length e->N e):Go (Qo src gg g env) N R:=by
 unfold Qo;rw[e];exact bo P ds 0 env h0 (fun i d e hi hp=>by simpa using hs i d e hi (by simpa using hp)) (fun e hp=>hN e (by simpa using hp))
theorem Go.ne(q:Go r N R):r≠.no:=fun z=>by rw[z] at q;exact q.of
theorem oE(W:Nat->Ev->Prop)(h0:W n env)(hs:∀ n e,W n e->(t e=some false/\N e)\/(t e=some true/\Go (g e) (fun e'=>∃ m,m<n/\W m e') R)):Go (Gc t g env) N R:=by
 have ag:∀ n e,W n e->Go (Vv t g (n+1) e) N R:=by
  intro n;induction n using strongRecOn with
  | _ n ih =>
   intro e hw;rcases hs n e hw with⟨a,b⟩ | ⟨a,b⟩
   ·rw[Vv,a];exact⟨b⟩
   ·rw[Vv,a]
    dsimp only;cases eg:g e with
    | next e' =>
     rw[eg] at b;obtain⟨m,hm,f⟩:=b.of;have q:=ih m hm e' f;dsimp only;have:=Tx (n - (m+1)) q.ne;rw[show m+1+(n - (m+1))=n by lia] at this;rw[this];exact q
    | ret d=>rw[eg] at b;exact⟨b.of⟩
    | _=>rw[eg] at b;exact b.of.elim
 have q:=ag n env h0;rw[Ag q.ne];exact q
theorem Y3{p:Nat}(hp:ds.length=p)(q:Go (g (Tt n ds)) (fun _=>R .non) R):∃ d,Yg n p g ds=.ok d/\R d:=by
 unfold Yg;rw[AG hp];cases e:g (Tt n ds) with
 | next e'=>rw[e] at q;exact⟨_,rfl,q.of⟩
 | ret d=>rw[e] at q;exact⟨_,rfl,q.of⟩
 | _=>rw[e] at q;exact q.of.elim
end
variable{z:α}
theorem Ux{d:Dat}(h:(rng lo n)[i]?=some d):i<n/\d=.int (lo+i):=by
 unfold rng at h;rw[AM] at h;by_cases hi:i<n
 ·rw[ES hi] at h
  exact⟨hi,(BD h).symm⟩
 ·rw[FP (by simpa using hi)] at h
  cases h
theorem Yv(h:fs env=some [.int n])(hn:n<=100000):Vz fs env=some (rng 0 n):=by
 unfold Vz;rw[h];dsimp only;rw[AG ⟨by lia,by lia,by rw[DV];simp;lia⟩,CA]
theorem Op{i:Int}(h:PF i j):Es (.int i) (.int j)=some (.int (i*j)):=AG h
theorem bM{i:Int}(h:0<j):Ua (.int i) (.int j)=some (.int (i % j)):=AG h
theorem ge{i:Int}(h:RL i j):V7 (.int i) (.int j)=some (.int (i / j)):=AG h
theorem Z7{F:Dat->Dat->C2 α}{g:Zzu}{y:Dat}(h1:f env=some x)(h2:g env=some y)(h3:F x y=some z):dO F f g env=some z:=by unfold dO;rw[h1,h2];exact h3
theorem Ys{F:C3 Dat->C2 α}(h1:fs env=some xs)(h3:F xs=some z):dF F fs env=some z:=by unfold dF;rw[h1];exact h3
theorem Z2(h1:f env=some x)(h2:fs env=some xs):Z1 f fs env=some (x::xs):=by unfold Z1;rw[h1,h2];rfl
theorem Ze{d:Dat}(h1:fs env=some xs)(h2:F xs=.ok d):Zr F fs env=some d:=by unfold Zr;rw[h1];show UU (F xs)=_;rw[h2];rfl
theorem Y4{b:Bool}(h:f env=some (.bl b)):dB f env=some b:=by unfold dB;rw[h]
theorem bh(z:Str)(ws:C3 Str):(ws.map Dat.str).any (fun y=>Ob y (.str z))=decide (z∈ws):=by
 induction ws with
 | nil=>simp
 | cons w ws ih =>
  rw[BY,GF,ih];have:Ob (.str w) (.str z)=(w==z):=by unfold Ob;rfl
  rw[this];by_cases e:w=z
  ·subst e;simp
  ·have e':(w==z)=false:=by simpa using e
   have e2:¬ z=w:=fun q=>e q.symm
   rw[e'];simp[e2]
theorem WR(n:Nat)(z:Str):pd n (.str z)=true:=by cases n<;>rfl
theorem b7(ws:C3 Str):(ws.map Dat.str).all (pd 20)=true:=by
 induction ws with
 | nil=>rfl
 | cons w ws ih=>rw[BY,all_cons,ih,WR];rfl
theorem YY(z:Str)(ws:C3 Str):LP (.str z) (.lst (ws.map .str))=some (decide (z∈ws)):=by
 unfold LP;dsimp only;rw[b7,WR,II,AG rfl,bh]
theorem l7(z:Str)(ws:C3 Str):LP (.str z) (.tup (ws.map .str))=some (decide (z∈ws)):=by
 unfold LP;dsimp only;rw[b7,WR,II,AG rfl,bh]
theorem YV(z:Str)(ws:C3 Str):F0 (.str z) (.lst (ws.map .str))=some (.bl (decide (z∈ws))):=by unfold F0;rw[YY];rfl
theorem ZF(z:Str)(ws:C3 Str):F0 (.str z) (.tup (ws.map .str))=some (.bl (decide (z∈ws))):=by unfold F0;rw[l7];rfl
theorem Ql{a b:Bool}(h1:t env=some a)(h2:a=false->u env=some b):Lg t u env=some (a||b):=by
 unfold Lg;rw[h1];cases a with
 | true=>rfl
 | false=>exact h2 rfl
theorem T4{a b:Bool}(h1:t env=some a)(h2:a=true->u env=some b):Dl t u env=some (a&&b):=by
 unfold Dl;rw[h1];cases a with
 | false=>rfl
 | true=>exact h2 rfl
theorem Ei{F:Dat->C2 Int->C2 Int->C2 Dat}{l h:Ev->C2 (C2 Int)}{z:Dat}{a b:C2 Int}(h1:f env=some x)(h2:l env=some a)(h3:h env=some b)(h4:F x a b=some z):dS F f l h env=some z:=by
 unfold dS;rw[h1,h2,h3];exact h4
theorem Ue{i:Int}(h:f env=some (.int i)):Qr f env=some (some i):=by unfold Qr;rw[h]
theorem Yl{j:Nat}(h:xs[j]?=some x):Yi (.lst xs) (.int j)=some x:=K8 h
theorem E3{j:Nat}(h:xs[j]?=some x):Yi (.tup xs) (.int j)=some x:=K8 h
theorem eC(x y:Dat)(h0:0<=j)(h1:j<2):Yi (.lst [x,y]) (.int j)=some (if j=1 then y else x):=by
 rcases(show j=0\/j=1 by lia) with rfl | rfl<;>rfl
theorem Y8(h:fs env=some xs)(hl:xs.length<=1000):Wz fs env=some (.tup xs):=by unfold Wz;rw[h];exact AG hl
theorem Qx{d:Dat}(h:ds.length<=1000):Uy ds [d]=some (ds++[d]):=AG (FN h (by decide))
abbrev Ds(ns:C3 Int):Dat:=.lst (ns.map .int)
abbrev V4:Str:="abcdefghijklmnopqrstuvwxyz"
theorem Be:cl V4=List.range' 97 26:=by decide +kernel
theorem nj(h0:0<=j)(h1:j<26):A3 (cl V4) j=some (97+j.toNat):=by
 obtain⟨n,rfl⟩:∃ n:Nat,j=n:=⟨j.toNat,(Int.toNat_of_nonneg h0).symm⟩;refine K8 ?_;rw[Be,List.getElem?_range' (by lia)];simp
theorem Pf(h0:0<=j)(h1:j<26):Yi (.str V4) (.int j)=some (.str ⟨#[97+j.toNat]⟩):=by
 show(A3 (cl V4) j).map _=_;rw[nj h0 h1];rfl
theorem Cs{x y:Str}(h:x.length+y.length<=1000):We (.str x) (.str y)=some (.str (x++y)):=AG (AZ h (by decide))
theorem Us{b:Bool}(h:f env=some (.bl b)):dT f env=some b:=by unfold dT;rw[h];rfl
theorem li{b:Bool}(h:f env=some (.bl b)):SF f env=some (.bl (!b)):=by unfold SF;rw[Y4 h];rfl
theorem Tl{b:Bool}(h:t env=some b):Md t env=some (!b):=by unfold Md;rw[h];rfl
theorem W9{r:Rs}(h:∃ d,r=.ok d/\d=d0):r=.ok d0:=by obtain⟨d,e,rfl⟩:=h;exact e
theorem fA(i:Str):Sz (.str i) (.str i)=some (.bl true):=by unfold Sz;rw[AG (by rfl)];unfold Ob;simp
theorem W0{g:Zzv}(h:g env=some ds):dL g env=some (.lst ds):=by unfold dL;rw[h];rfl
theorem Ya{fs:C3 (C2 Nat)}(h1:src env=some xs)(h2:Js fs env=env')(h3:W6 g t f env' xs=some ys):V9 src fs g t f env=some ys:=by
 unfold V9;rw[h1,h2];exact h3
theorem K9(h:f env=some (.tup xs)):Tp f env=some xs:=by unfold Tp;rw[h]
theorem cB(h:f env=some (.tup xs)):Pz f env=some (Rn 0 xs):=by unfold Pz;rw[K9 h];rfl
theorem Wp(D:α->Dat)(y:α->Dat):∀ (xs:C3 α),(∀ x∈xs,∃ e1,g (D x) env=some e1/\t e1=some true/\f e1=some (y x))->W6 g t f env (xs.map D)=some (xs.map y)
 | [],_=>rfl
 | x::xs,h=>by
  obtain⟨e1,a1,a2,a3⟩:=h x AW;have ih:=Wp D y xs fun z hz=>h z (AX _ hz)
  rw[BY,W6,a1];dsimp only[Option.bind];rw[a2];dsimp only;rw[AG rfl,a3];dsimp only;rw[ih];rfl
theorem ZA(b:Bool):Sz (.str (if b then "made" else "given")) (.str "made")=some (.bl b):=by
 cases b
 ·show Sz (.str "given") (.str "made")=_
  unfold Sz;rw[AG (by rfl)];unfold Ob;rw[show(("given" : Str)=="made")=false by decide +kernel]
 ·exact fA _
theorem VL(i j:Bool):Sz (.bl i) (.bl j)=some (.bl (i==j)):=rfl
theorem Ls(a b:Nat):Builtin.bitOr (a:Int) (b:Int)=((a ||| b:Nat):Int):=by
 unfold Builtin.bitOr Builtin.bitAnd Builtin.bitNot;have h1:decide (0<=-(a:Int) - 1)=false:=by simp;lia
 have h2:decide (0<=-(b:Int) - 1)=false:=by simp;lia
 rw[h1,h2];dsimp only;rw[show(-(-(a:Int) - 1) - 1).toNat=a by lia,show(-(-(b:Int) - 1) - 1).toNat=b by lia];lia
theorem Dx(a b:Nat):Builtin.bitAnd (a:Int) (b:Int)=((a &&& b:Nat):Int):=by
 unfold Builtin.bitAnd;rw[show decide (0<=(a:Int))=true by simp,show decide (0<=(b:Int))=true by simp];simp
def JV(ps:C3 Nat):Nat:=ps.foldl (fun a p=>a ||| 2^p) 0
theorem mV(ps:C3 Nat):∀ (a j:Nat),(ps.foldl (fun a p=>a ||| 2^p) a).testBit j=(a.testBit j||decide (j∈ps)):=by
 induction ps with
 | nil=>intro a j;simp
 | cons p ps ih =>
  intro a j;rw[List.foldl_cons,ih,FI,GD];by_cases h:j=p
  ·subst h;simp
  ·have h':¬ p=j:=fun e=>h e.symm
   simp[h,h']
theorem V1(ps:C3 Nat)(j:Nat):(JV ps).testBit j=decide (j∈ps):=by unfold JV;rw[mV];simp
theorem kF(ps:C3 Nat):(ps.map fun p:Nat=>(p:Int)).map Dat.int=ps.map fun p:Nat=>Dat.int (p:Int):=by rw[DI];rfl
abbrev Zc(ps:C3 Nat):C3 Dat:=(ps.map fun p:Nat=>(p:Int)).map Dat.int
theorem QN(p:Nat)(hp:p<=1000):OB (.int 1) (.int (p:Int))=some (.int ((2^p:Nat):Int)):=by
 have:OB (.int 1) (.int (p:Int))=some (.int (1*2^((p:Int)).toNat)):=AG ⟨by lia,by lia,by decide⟩;rw[this,CA,Int.one_mul];congr 2
theorem WI(n:Nat)(i:Int):pd n (.int i)=true:=by cases n<;>rfl
theorem bp(ps:C3 Nat):(Zc ps).all (pd 20)=true:=DF.mpr fun x hx=>by
 obtain⟨i,_,rfl⟩:=CZ.mp hx;exact WI 20 i
theorem Cm(p:Nat)(ps:C3 Nat):LP (.int (p:Int)) (.lst (Zc ps))=some (decide (p∈ps)):=by
 unfold LP;dsimp only;rw[bp,WI,II,AG rfl];congr 1
 rw[DX,DU,CB];constructor
 ·rintro⟨x,hx,he⟩
  obtain⟨i,hi,rfl⟩:=CZ.mp hx;obtain⟨q,hq,rfl⟩:=CZ.mp hi;have:((q:Int)==(p:Int))=true:=by unfold Ob at he;exact he
  have:q=p:=by have h9:=eq_of_beq this;lia
  exact this▸hq
 ·intro h
  refine⟨.int (p:Int),GQ (GQ h),?_⟩;unfold Ob;simp
theorem XR(p:Nat)(ps:C3 Nat):Ss (.int (p:Int)) (.lst (Zc ps))=some (.bl (!decide (p∈ps))):=by unfold Ss;rw[Cm];rfl
theorem ZW(bs:C3 Bool):QZ [.lst (bs.map .bl)]=some (.bl (bs.all id)):=by unfold QZ;dsimp only;rw[Pu];rfl
theorem Xj(a b:Nat):Builtin.bitXor (a:Int) (b:Int)=((a ^^^ b:Nat):Int):=by
 unfold Builtin.bitXor;rw[Ls,Dx];have ag:∀ (x y:Nat),x ||| y=(x ^^^ y)+(x &&& y):=by
  intro x;induction x using strongRecOn with
  | _ x ih =>
   intro y;by_cases hx:x=0
   ·subst hx;simp
   ·have h:=ih (x / 2) (by lia) (y / 2)
    have e1:x ||| y=2*(x / 2 ||| y / 2)+(x ||| y) % 2:=by rw[← Nat.or_div_two];lia
    have e2:x ^^^ y=2*(x / 2 ^^^ y / 2)+(x ^^^ y) % 2:=by rw[← Nat.xor_div_two];lia
    have e3:x &&& y=2*(x / 2 &&& y / 2)+(x &&& y) % 2:=by rw[← Nat.and_div_two];lia
    have e4:(x ||| y) % 2=(x ^^^ y) % 2+(x &&& y) % 2:=by
     have S:∀ z:Nat,z % 2=(z.testBit 0).toNat:=fun z=>by rw[Nat.testBit_zero];by_cases q:z % 2=1<;>simp[q];lia
     rw[S,S,S,FI,GB,DG];cases x.testBit 0<;>cases y.testBit 0<;>rfl
    lia
 have:=ag a b;lia
theorem Ij(a b:Nat):∃ c:Nat,Builtin.bitAnd (a:Int) (-(b:Int) - 1)=(c:Int)/\∀ j,c.testBit j=(a.testBit j&&!b.testBit j):=by
 refine⟨a ^^^ (a &&& b),?_,fun j=>by rw[GB,DG];cases a.testBit j<;>cases b.testBit j<;>rfl⟩;have hx:=Xj a (a &&& b);unfold Builtin.bitXor at hx;rw[Ls,Dx] at hx;have e1:a ||| (a &&& b)=a:=CU fun j=>by rw[FI,DG];cases a.testBit j<;>cases b.testBit j<;>rfl
 have e2:a &&& (a &&& b)=a &&& b:=CU fun j=>by rw[DG,DG];cases a.testBit j<;>cases b.testBit j<;>rfl
 rw[e1,e2] at hx;rw[← hx];unfold Builtin.bitAnd Builtin.bitNot;have h1:decide (0<=(a:Int))=true:=by simp
 have h2:decide (0<=-(b:Int) - 1)=false:=by simp;lia
 rw[h1,h2];dsimp only;rw[show(-(-(b:Int) - 1) - 1).toNat=b by lia,CA]
theorem VO(n j:Nat):PU (.int (n:Int)) (.int (j:Int))=some (.int ((n / 2^j:Nat):Int)):=by
 have:PU (.int (n:Int)) (.int (j:Int))=some (.int ((n:Int) / 2^((j:Int)).toNat)):=by unfold PU B1;dsimp only;rw[AG (by lia)]
 rw[this,CA];congr 2
theorem UP(n j:Nat):Pb (.int ((n / 2^j:Nat):Int)) (.int 1)=some (.int (if n.testBit j then 1 else 0)):=by
 show some (Dat.int (Builtin.bitAnd ((n / 2^j:Nat):Int) ((1:Nat):Int)))=_;rw[Dx,Nat.and_one_is_mod,Nat.testBit_eq_decide_div_mod_eq];generalize n / 2^j=q;congr 2
 rcases(show q % 2=0\/q % 2=1 by lia) with h | h<;>simp[h]
theorem SZ(a b:Nat):Pb (.int (a:Int)) (.int (b:Int))=some (.int ((a &&& b:Nat):Int)):=by
 show some (Dat.int (Builtin.bitAnd _ _))=_;rw[Dx]
theorem RK(a b:Nat):OP (.int (a:Int)) (.int (b:Int))=some (.int ((a ||| b:Nat):Int)):=by
 show some (Dat.int (Builtin.bitOr _ _))=_;rw[Ls]
theorem dE(a b:Nat):TB (.int (a:Int)) (.int (b:Int))=some (.int ((a ^^^ b:Nat):Int)):=by
 show some (Dat.int (Builtin.bitXor _ _))=_;rw[Xj]
theorem cQ(b:Bool):Sz (.int (if b then 1 else 0)) (.int 1)=some (.bl b):=by cases b<;>rfl
theorem LS(a b:Nat):Sz (.int (a:Int)) (.int (b:Int))=some (.bl (a==b)):=by
 show some (Dat.bl ((a:Int)==(b:Int)))=_;congr 2
 rw[DX,DC,DC];lia
theorem YU(i j:Int):KZ (.int i) (.int j)=some (.bl (!(i==j))):=rfl
theorem iz(bs:C3 Bool):Ax [.lst (bs.map .bl)]=some (.bl (bs.any id)):=by unfold Ax;dsimp only;rw[Pu];rfl
theorem U2(h:fs env=some xs)(hl:xs.length<=1000):Ts fs env=some xs:=by unfold Ts;rw[h];exact AG (AZ hl (by decide))
theorem Ym(ps:C3 Nat):Zc ps=ps.map fun p:Nat=>Dat.int (p:Int):=kF ps
theorem VM{F:Dat->C2 Dat}{z:Dat}(h1:f env=some x)(h2:F x=some z):dU F f env=some z:=by unfold dU;rw[h1];exact h2
theorem X2(D:α->Dat)(P:α->Prop):∀ (xs:C3 Dat),(∀ x∈xs,∃ (e1:Ev) (y:α),g x env=some e1/\f e1=some (D y)/\P y)->∃ ys:C3 α,W6 g V6 f env xs=some (ys.map D)/\ys.length=xs.length/\∀ y∈ys,P y
 | [],_=>⟨[],rfl,rfl,fun _ h=>nomatch h⟩
 | x::xs,h=>by
  obtain⟨e1,y,a1,a2,a3⟩:=h x AW;obtain⟨ys,b1,b2,X⟩:=X2 D P xs fun z hz=>h z (AX _ hz)
  refine⟨y::ys,?_,by rw[BC,BC,b2],fun z hz=>?_⟩
  ·rw[W6,a1]
   dsimp only[Option.bind,V6];rw[AG rfl,a2];dsimp only;rw[b1];rfl
  ·rcases BI.mp hz with e | e
   ·exact e▸a3
   ·exact X z e
theorem bd{d:Dat}(h:d∈rng lo n):∃ i:Nat,i<n/\d=.int (lo+i):=by
 obtain⟨i,hi,e⟩:=FM h;have:=Ux (lo:=lo) (n:=n) (i:=i) (d:=d) (by rw[AH hi,e]);exact⟨i,this.1,this.2⟩
theorem Ez{d:Dat}(h:(Zc ps)[i]?=some d):∃ p:Nat,ps[i]?=some p/\d=.int (p:Int):=by
 rw[AM,AM] at h;obtain⟨y,hy,rfl⟩:=map_some h;obtain⟨p,hq,rfl⟩:=map_some hy;exact⟨p,hq,rfl⟩
theorem n4:(m &&& JV ps)=JV ps↔∀ p∈ps,m.testBit p=true:=by
 constructor
 ·intro h p hp
  have:(m &&& JV ps).testBit p=true:=by rw[h,V1];simpa using hp
  rw[DG] at this;exact(DY.mp this).1
 ·intro h
  apply CU;intro j;rw[DG,V1];by_cases hj:j∈ps
  ·simp[hj,h j hj]
  ·simp[hj]
structure St3 where
 w:Nat
 up:Bool
 takes:List Nat
 fills:List Nat
def St3.d(s:St3):Dat:=.tup [.int (s.w:Int),.bl s.up,.tup (Zc s.takes),.tup (Zc s.fills)]
structure G3 where
 wires:List (Str×Bool)
 steps:List St3
 marks:Nat
 code:Nat
variable{G:G3}
def Va(w:Str×Bool):Dat:=.tup [.str w.1,.str (if w.2 then "made" else "given")]
def G3.d(G:G3):Dat:=.tup [.tup (G.wires.map Va),.tup (G.steps.map St3.d),.int (G.marks:Int),.int (G.code:Int)]
theorem Q7(r m:Nat)(h:0<m):Ua (.int (r:Int)) (.int (m:Int))=some (.int ((r % m:Nat):Int)):=by
 rw[bM (by lia)];rfl
theorem Um(r m:Nat)(h:0<m)(h2:m<1073741824):V7 (.int (r:Int)) (.int (m:Int))=some (.int ((r / m:Nat):Int)):=by
 rw[ge ⟨by lia,by lia⟩];rfl
theorem UB(r m:Nat)(h:r<18446744073709551616):Es (.int (r:Int)) (.int (m:Int))=some (.int ((r*m:Nat):Int)):=by
 rw[Op (.inl ⟨by lia,by lia⟩)];rfl
theorem Qg(r m:Nat):We (.int (r:Int)) (.int (m:Int))=some (.int ((r+m:Nat):Int)):=rfl
def Qw(s:St3)(m:Nat):Bool:=(m &&& JV s.takes)==JV s.takes
theorem Xg{s:St3} :Qw s m=true↔∀ p∈s.takes,m.testBit p=true:=by
 unfold Qw;rw[DC];exact n4
theorem jM(ps:C3 Nat):∃ qs:C3 Nat,(Ky (ps.map fun p:Nat=>(p:Int))).map Dat.int=Zc qs/\qs.Perm ps:=by
 refine⟨(Ky (ps.map fun p:Nat=>(p:Int))).map Int.toNat,?_,?_⟩
 ·show _=(((Ky (ps.map fun p:Nat=>(p:Int))).map Int.toNat).map fun p:Nat=>(p:Int)).map Dat.int
  congr 1
  rw[DI];conv=>lhs;rw[← List.map_id (Ky _)]
  apply List.map_congr_left;intro x hx;have:=(Jn _).mem_iff.mp hx;obtain⟨p,_,rfl⟩:=CZ.mp this;simp
 ·have h:=(Jn (ps.map fun p:Nat=>(p:Int))).map Int.toNat
  rw[DI] at h;have e:(Int.toNat ∘ fun p:Nat=>(p:Int))=id:=by funext p;simp
  rw[e,List.map_id] at h;exact h
theorem lI(ps:C3 Nat)(h:ps.length<64):∃ qs:C3 Nat,bi [.lst (Zc ps)]=some (Zc qs)/\qs.Perm ps:=by
 obtain⟨qs,e,hp⟩:=jM ps;refine⟨qs,?_,hp⟩;unfold bi;dsimp only;rw[Gi];show(if(ps.map fun p:Nat=>(p:Int)).length<64 then _ else _)=_;rw[AG (by rw[AC];exact h),e]
theorem Xh(x y:Str):(x++y).length=x.length+y.length:=XU x y
theorem Ip{d:Dat}(e:env[i]?=some (.ow ds))(e1:fb env=some d)(e2:fa env=some (.int (k:Int)))(Y:k<ds.length)(q:N (env.set i (.ow (ds.set k d)))):Go (Ru i fa fb env) N R:=by
 unfold Ru;rw[e,e1,e2];dsimp only;rw[AG ⟨by lia,by lia⟩];exact⟨q⟩
theorem fw{j:Nat}{fa:Zzv}{d:Dat}(e:env[i]?=some (.ow ds))(e2:fa env=some [.int (k:Int)])(Y:ds[k]?=some d)(q:N ((env.set i (.ow (ds.eraseIdx k))).set j (.fz d))):Go (X6 j i fa env) N R:=by
 unfold X6;rw[e,e2];dsimp only;have hl:k<ds.length:=(AB.mp Y).1;rw[AG ⟨by lia,by lia⟩,CA,Y];exact⟨q⟩
theorem YL{fs:C3 (C2 Nat)}{h:Nat}(e:src env=some ds)(q:N (env.set i (.gx (.nest (List.replicate ds.length []))))):Go (A5 i src fs (Y7 h) env) N R:=by
 unfold A5;rw[e];dsimp only;rw[AG (show(ds.all fun d=>(Y7 h d (Js fs env)).isSome)=true from DF.mpr fun d _=>rfl)];exact⟨q⟩
def Oi(tk:C3 (C3 Nat))(k x:Nat):C3 (C3 Nat):=tk.set k (tk.getD k []++[x])
theorem Ry(tk:C3 (C3 Nat))(k x:Nat):(Oi tk k x).length=tk.length:=by unfold Oi;rw[BH]
structure LW (L B:Nat) (tk:List (List Nat)):Prop where
 len:∀ l∈tk,l.length<=L
 lt:∀ l∈tk,∀ p∈l,p<B
theorem LW.mono{L' B':Nat}(h:LW L B tk)(h1:L<=L')(h2:B<=B'):LW L' B' tk:=⟨fun l q=>AZ (h.len l q) h1,fun l q p z=>AU (h.lt l q p z) h2⟩
theorem LW.app(h:LW L B tk)(k x:Nat)(hx:x<B):LW (L+1) B (Oi tk k x):=by
 have hg:(tk.getD k []).length<=L/\∀ p∈tk.getD k [],p<B:=by
  cases e:tk[k]? with
  | none=>simp[List.getD,e]
  | some l=>have hm:=AI e;simp only[List.getD,e,IU];exact⟨h.len l hm,h.lt l hm⟩
 constructor
 ·intro l hl
  rcases DP hl with q | q
  ·exact GY (h.len l q)
  ·rw[q,AN];show _+1<=_;lia
 ·intro l hl p hp
  rcases DP hl with q | q
  ·exact h.lt l q p hp
  ·rw[q] at hp
   rcases BQ.mp hp with z | z
   ·exact hg.2 p z
   ·rw[AL.mp z];exact hx
theorem LW.nil(n:Nat):LW 0 0 (List.replicate n []):=⟨fun l h=>by rw[(FE.mp h).2];exact AY _,fun l h p hp=>by rw[(FE.mp h).2] at hp;cases hp⟩
theorem gO(n:Nat):(List.replicate n ([]:C3 Dat))=(List.replicate n ([]:C3 Nat)).map Zc:=by rw[List.map_replicate];rfl
theorem Ol{x:Nat}(e:env[i]?=some (.gx (.nest (tk.map Zc))))(h:LW L B tk)(f:L<=1000)(Y:k<tk.length)(e1:fa env=some (.int (k:Int)))(e2:fs env=some [.int (x:Int)])(q:N (env.set i (.gx (.nest ((Oi tk k x).map Zc))))):Go (O2 i fa fs env) N R:=by
 unfold O2;rw[e,e1];dsimp only;have g:Ih (tk.map Zc) (k:Int)=some (Zc tk[k]):=by
  unfold Ih;rw[AG (by lia),CA];simp[Y]
 rw[g,e2];dsimp only;have hl:=h.len _ (GZ Y);rw[show(some [Dat.int (x:Int)]).bind (fun as=>Uy (Zc tk[k]) as)=some (Zc (tk[k]++[x])) by
  show Uy (Zc tk[k]) [Dat.int (x:Int)]=_;rw[Qx (by rw[AC,AC];lia)];simp[Zc]]
 dsimp only;have:(tk.map Zc).set ((k:Int)).toNat (Zc (tk[k]++[x]))=(Oi tk k x).map Zc:=by
  unfold Oi;rw[CA,map_set];congr 2
  simp[List.getD,Y]
 rw[this];exact⟨q⟩
theorem ZP(e:env[i]?=some (.gx (.nest (tk.map Zc))))(e1:fa env=some (.int (k:Int)))(Y:tk[k]?=some l):PY i fa env=some (.lst (Zc l)):=by
 unfold PY;rw[e,e1];dsimp only;unfold Ih;rw[AG (by lia),CA,AM,Y];rfl
theorem Ft(D E:α->Dat):∀ (xs:C3 α),(∀ x∈xs,∃ e1 b,g (D x) env=some e1/\t e1=some b/\f e1=some (E x))->∃ ys:C3 α,ys.Sublist xs/\W6 g t f env (xs.map D)=some (ys.map E)
 | [],_=>⟨[],.slnil,rfl⟩
 | x::xs,h=>by
  obtain⟨ys,h1,h2⟩:=Ft D E xs fun z hz=>h z (AX _ hz)
  obtain⟨e1,b,a1,a2,a3⟩:=h x AW;cases b with
  | true=>exact⟨x::ys,h1.cons₂ x,by rw[BY,W6,a1];show(t e1).bind _=_;rw[a2];show(f e1).bind _=_;rw[a3,h2];rfl⟩
  | false=>exact⟨ys,h1.cons x,by rw[BY,W6,a1];show(t e1).bind _=_;rw[a2];exact h2⟩
theorem br(r m:Nat)(h:m<=r):G4 (.int (r:Int)) (.int (m:Int))=some (.int ((r - m:Nat):Int)):=by
 show some (Dat.int ((r:Int) - (m:Int)))=_;rw[Int.ofNat_sub h]
theorem Qz(ps:C3 Nat):Vb [.lst (Zc ps)]=some (.int ((ps.length:Nat):Int)):=by
 show some (Dat.int ((Zc ps).length:Int))=_;rw[AC,AC]
theorem Nm(ps:C3 Nat)(a w:Nat)(h:a<=ps.length)(hl:ps.length<=1000):Kh (Zc ps) [.int (a:Int),.int (w:Int)]=some (Zc (ps.take a++w::ps.drop a)):=by
 show(if _ then some _ else none)=_;rw[AG ⟨by lia,by rw[AC,AC];lia,by rw[AC,AC];exact FN hl (by decide)⟩,CA];simp[Zc,map_take,map_drop]
theorem Xv(ps:C3 α)(a:Nat)(w:α):(ps.take a++w::ps.drop a).length=ps.length+1:=by
 rw[AN,BC,CJ,CC];lia
theorem gt(ps:C3 α)(a:Nat)(w:α):(ps.take a++w::ps.drop a).Perm (w::ps):=by
 have h:(ps.take a++w::ps.drop a).Perm (w::(ps.take a++ps.drop a)):=List.perm_middle;rw[EU] at h;exact h
theorem Ka(ps:C3 Nat)(a w v:Nat):(ps.take a++w::ps.drop a).count v=ps.count v+(if w=v then 1 else 0):=by
 rw[(gt ps a w).count_eq,List.count_cons];by_cases h:w=v<;>simp[h]
theorem P7(xs:C3 α)(t:Nat)(h:t<=xs.length):S6 xs (some (t:Int)) none=xs.drop t:=by
 unfold S6;rw[HT.sIx_nat,HT.sIx_none,IZ h,CK (by rw[CC];exact AY _)]
theorem de(xs:C3 α)(t:Nat)(h:t<=xs.length):S6 xs none (some (t:Int))=xs.take t:=by
 unfold S6;rw[HT.sIx_nat,HT.sIx_none,IZ h,JJ,Nat.sub_zero]
theorem K4(f:α->β)(xs:C3 α)(a b:C2 Int):S6 (xs.map f) a b=(S6 xs a b).map f:=by
 unfold S6;rw[AC,map_take,map_drop]
theorem iP(ps:C3 Nat)(c:Nat):(ps.map fun p:Nat=>(p:Int)).idxOf (c:Int)=ps.idxOf c:=by
 induction ps with
 | nil=>rfl
 | cons p ps ih =>
  rw[BY,FH,FH,ih];by_cases h:p=c
  ·subst h;rw[show((p:Int)==(p:Int))=true from FA _,show(p==p)=true from FA _]
  ·rw[show((p:Int)==(c:Int))=false from BX.mpr (by lia),show(p==c)=false from BX.mpr h]
theorem Pd(ps:C3 Nat)(c:Nat)(h:c∈ps):Xi (.lst (Zc ps)) [.int (c:Int)]=some (.int ((ps.idxOf c:Nat):Int)):=by
 show((Mp (Zc ps)).bind fun zs=>if(c:Int)∈zs then some (Dat.int ((zs.idxOf (c:Int):Nat):Int)) else none)=_;rw[Gi];show(if _ then some _ else none)=_;rw[AG (GQ h),iP]
theorem Ks(h:xs.length+ys.length<=1000):We (.lst xs) (.lst ys)=some (.lst (xs++ys)):=AG (AZ h (by decide))
theorem ff(h:xs.length+ys.length<=1000):Oh (.lst xs) (.lst ys)=some (xs++ys):=AG (AZ h (by decide))
theorem H9(h:xs.length+ys.length<=1000):Au (.tup xs) (.tup ys)=some (.tup (xs++ys)):=AG (AZ h (by decide))
def Zz(p:Nat×Nat):Dat:=.tup [.int (p.1:Int),.int (p.2:Int)]
theorem Os(p:Nat×Nat):pd 20 (Zz p)=true:=rfl
theorem Fz(p:Nat×Nat)(qs:C3 (Nat×Nat)):∃ b,Ss (Zz p) (.lst (qs.map Zz))=some (.bl b):=by
 refine⟨!((qs.map Zz).any fun y=>Ob y (Zz p)),?_⟩;unfold Ss LP;dsimp only;rw[AG]
 ·rfl
 ·rw[Os,GA]
  exact DF.mpr fun x hx=>by obtain⟨q,_,rfl⟩:=CZ.mp hx;exact Os q
theorem mh(a b:Nat):QF [.int (a:Int),.int (b:Int)]=some (.int ((min a b:Nat):Int)):=by
 show some (Dat.int (if(b:Int)<(a:Int) then(b:Int) else(a:Int)))=_;congr 2
 split<;>lia
theorem fM(a b:Nat):QA [.int (a:Int),.int (b:Int)]=some (.int ((max a b:Nat):Int)):=by
 show some (Dat.int (if(b:Int) > (a:Int) then(b:Int) else(a:Int)))=_;congr 2
 split<;>lia
theorem cJ(a b:Nat):KZ (.int (a:Int)) (.int (b:Int))=some (.bl (!(a==b))):=by
 rw[YU];congr 3
 rw[DX];simp;lia
theorem Le(ps:C3 Nat)(h:ps.length<64):∃ qs:C3 Nat,Kk [.lst (Zc ps)]=some (Zc qs)/\qs.Perm ps:=lI ps h
theorem R1(n:Nat):rng 0 n=(List.range n).map fun k:Nat=>Dat.int (k:Int):=by
 unfold rng;congr 1
 funext k
 rw[CP]
theorem Fj{d:Dat}(h:(Rn 0 xs)[i]?=some d):∃ x,xs[i]?=some x/\d=.tup [.int (i:Int),x]:=by
 rw[L0] at h;cases e:xs[i]? with
 | none=>rw[e] at h;cases h
 | some x=>rw[e] at h;cases h;exact⟨x,rfl,by rw[HY]⟩
theorem YC{T:String}{F:Dat->C3 Dat->C2 α}(h1:f env=some x)(ht:OZ T x=true)(h2:fs env=some as)(h3:F x as=some z):dM T F f fs env=some z:=by
 unfold dM;rw[h1];show(if _ then _ else _)=_;rw[AG ht,h2];exact h3
theorem Ap(h:f env=some (.lst xs)):Tp f env=some xs:=by unfold Tp;rw[h]
theorem cp(h:f env=some (.lst xs)):Pz f env=some (Rn 0 xs):=by unfold Pz;rw[Ap h];rfl
theorem Vq(D E:α->Dat)(p:α->Bool):∀ (xs:C3 α),(∀ x∈xs,∃ e1,g (D x) env=some e1/\t e1=some (p x)/\f e1=some (E x))->W6 g t f env (xs.map D)=some ((xs.filter p).map E)
 | [],_=>rfl
 | x::xs,h=>by
  have ih:=Vq D E p xs fun z hz=>h z (AX _ hz)
  obtain⟨e1,a1,a2,a3⟩:=h x AW;rw[BY,W6,a1];show(t e1).bind _=_;rw[a2];cases hp:p x with
  | true=>show(f e1).bind _=_;rw[a3,ih,List.filter_cons_of_pos hp];rfl
  | false=>rw[List.filter_cons_of_neg (by rw[hp];decide)];exact ih
theorem B7(xs:C3 Dat)(a b:C2 Int):Ce (.lst xs) a b=some (.lst (S6 xs a b)):=rfl
theorem jk(z:Str)(a b:C2 Int):Ce (.str z) a b=some (.str (Txt.slice z a b)):=rfl
def Tg(s:St3)(p:Nat×Nat):Nat×Nat:=((p.1 ^^^ (p.1 &&& JV s.takes)) ||| JV s.fills,p.2 ^^^ 2^s.w)
theorem SU(s:St3)(p:Nat×Nat)(j:Nat):(Tg s p).1.testBit j=((p.1.testBit j&&!decide (j∈s.takes))||decide (j∈s.fills)):=by
 unfold Tg;dsimp only;rw[FI,GB,DG,V1,V1];cases p.1.testBit j<;>cases decide (j∈s.takes)<;>rfl
theorem eW(s:St3)(p:Nat×Nat)(j:Nat):(Tg s p).2.testBit j=(p.2.testBit j ^^ decide (s.w=j)):=by
 unfold Tg;dsimp only;rw[GB,GD]
structure SD (G:G3) (I:Nat×Nat->Prop):Prop where
 ini:I (G.marks,G.code)
 lev:∀ p s,I p->s∈G.steps->Qw s p.1=true->p.2.testBit s.w≠s.up
 room:∀ p s,I p->s∈G.steps->Qw s p.1=true->∀ q∈s.fills,p.1.testBit q=true->q∈s.takes
 nxt:∀ p s,I p->s∈G.steps->Qw s p.1=true->I (Tg s p)
 few:∀ l:List (Nat×Nat),l.Nodup->(∀ p∈l,I p)->l.length<=400
structure Rw where
 m:Nat
 c:Nat
 src:Option (Nat×Nat)
def Rw.st(r:Rw):Nat×Nat:=(r.m,r.c)
def Rw.d(r:Rw):Dat:=.tup [.int (r.m:Int),.int (r.c:Int),match r.src with | none=>.non | some p=>.int (p.1:Int),match r.src with | none=>.non | some p=>.int (p.2:Int)]
structure LJ (G:G3) (I:Nat×Nat->Prop) (ac:List Rw):Prop where
 zero:ac[0]?=some ⟨G.marks,G.code,none⟩
 inv:∀ r∈ac,I r.st
 nd:(ac.map Rw.st).Nodup
 src:∀ i r,ac[i]?=some r->0<i->∃ f k s c,r.src=some (f,k)/\f<i/\G.steps[k]?=some s/\ac[f]?=some c/\Qw s c.m=true/\r.st=Tg s c.st
def L4(ac:C3 Rw):Nat->Nat->C3 Nat
 | 0,_=>[]
 | fu+1,n=>match (ac[n]?).bind Rw.src with
  | none=>[]
  | some p=>L4 ac fu p.1++[p.2]
theorem Lz{ac:C3 Rw}(t:LJ G I ac):∀ (fu n:Nat),n<ac.length->n<=fu->L4 ac fu n=L4 ac n n
 | 0,n,_,h=>by rw[show n=0 by lia]
 | fu+1,n,hl,h=>by
  obtain⟨r,Z⟩:∃ r,ac[n]?=some r:=⟨_,AH hl⟩;rcases DK n with z | z
  ·subst z
   show(match (ac[0]?).bind Rw.src with | none=>[] | some p=>L4 ac fu p.1++[p.2])=[];rw[t.zero];rfl
  ·obtain⟨f,k,s,c,a1,a2,_,a4,_,_⟩:=t.src n r Z z
   have aj:=(AB.mp a4).1;obtain⟨g,rfl⟩:∃ g,n=g+1:=⟨n - 1,by lia⟩;rw[L4,L4,Z];show(match r.src with | none=>[] | some p=>L4 ac fu p.1++[p.2])=(match r.src with | none=>[] | some p=>L4 ac g p.1++[p.2]);rw[a1];show L4 ac fu f++[k]=L4 ac g f++[k];rw[Lz t fu f aj (by lia),Lz t g f aj (by lia)]
def S8(ac:C3 Rw)(n:Nat):C3 Nat:=L4 ac n n
theorem bb(ac:C3 Rw):S8 ac 0=[]:=rfl
theorem ZT{ac:C3 Rw}(t:LJ G I ac){r:Rw}{f:Nat}(Z:ac[n]?=some r)(hs:r.src=some (f,k))(h0:0<n):S8 ac n=S8 ac f++[k]:=by
 obtain⟨f',k',s,c,a1,a2,_,a4,_,_⟩:=t.src n r Z h0;rw[hs] at a1;cases a1;have aj:=(AB.mp a4).1;obtain⟨g,rfl⟩:∃ g,n=g+1:=⟨n - 1,by lia⟩;unfold S8;rw[L4,Z];show(match r.src with | none=>[] | some p=>L4 ac g p.1++[p.2])=_;rw[hs];show L4 ac g f++[k]=_;rw[Lz t g f aj (by lia)]
theorem gp{ac:C3 Rw}(t:LJ G I ac){r:Rw}(Z:ac[n]?=some r):r.src=none↔n=0:=by
 constructor
 ·intro h
  rcases DK n with z | z
  ·exact z
  ·obtain⟨f,k,s,c,a1,_⟩:=t.src n r Z z
   rw[h] at a1;cases a1
 ·rintro rfl
  rw[t.zero] at Z;cases Z;rfl
end L2
variable{f g:Nat×Nat->Nat}{d:L2.Dat}{G:L2.G3}{x:Nat}{ac:C3 L2.Rw}{s:L2.St3}{u:PySem.Str×Bool}{ak:C3 L2.St3}
namespace L2
theorem Kg[BEq α][LawfulBEq α]:∀ (l m:C3 α),l.Nodup->(∀ x∈l,x∈m)->l.length<=m.length
 | [],_,_,_=>DJ _
 | x::l,m,hn,hs=>by
  obtain⟨h1,h2⟩:=DB.mp hn;have hx:=hs x AW;have:=Kg l (m.erase x) h2 fun y hy=>by
   refine(List.mem_erase_of_ne ?_).mpr (hs y (AX _ hy));rintro rfl;exact h1 hy
  rw[List.length_erase_of_mem hx] at this;have:=List.length_pos_of_mem hx;show l.length+1<=_;lia
theorem ZM(R:Nat->α->Prop)(E:∀ k a b,R k a->R k b->a=b)(N:Nat):∀ l:C3 α,l.Nodup->(∀ p∈l,∃ k,k<N/\R k p)->l.length<=N:=by
 intro l hn hl;have:∃ ks:C3 Nat,ks.length=l.length/\ks.Nodup/\∀ k∈ks,k<N/\∃ p∈l,R k p:=by
  revert hn hl;induction l with
  | nil=>intro _ _;exact⟨[],rfl,EQ,by simp⟩
  | cons p l ih =>
   intro hn hl;obtain⟨h1,h2⟩:=DB.mp hn;obtain⟨ks,a1,a2,a3⟩:=ih h2 fun q hq=>hl q (AX _ hq)
   obtain⟨k,Y,Z⟩:=hl p AW;refine⟨k::ks,by simp[a1],DB.mpr ⟨fun hm=>?_,a2⟩,fun k' C=>?_⟩
   ·obtain⟨_,f,P,o⟩:=a3 k hm
    exact h1 (E k p f Z o▸P)
   ·rcases BI.mp C with rfl | h
    ·exact⟨Y,p,AW,Z⟩
    ·obtain⟨b1,f,b2,X⟩:=a3 k' h
     exact⟨b1,f,AX _ b2,X⟩
 obtain⟨ks,a1,a2,a3⟩:=this;have:=Kg ks (List.range N) a2 fun k Y=>CF.mpr (a3 k Y).1
 rw[BV] at this;lia
def Kp(s0:Nat)(rs:C3 (Nat×Nat))(f g:Nat×Nat->Nat)(d:Nat)(l:C3 Nat):Prop:=∀ q,q∈l↔∃ t p,rs[t]?=some p/\((q=s0+2*t/\f p=d)\/(q=s0+2*t+1/\g p=d))
structure PP (G:G3) (s0:Nat) (one two:Nat->Nat) (rs:List (Nat×Nat)) (n d:Nat) (s:St3):Prop where
 w:s.w<n
 dl:d<2*n
 tk:Kp s0 rs (·.2) (·.1) d s.takes
 fl:Kp s0 rs (·.1) (·.2) d s.fills
 lev:(d=one s.w/\s.up=!G.code.testBit s.w)\/(d=two s.w/\s.up=G.code.testBit s.w)
structure RG (G:G3) (n s0:Nat) (one two:Nat->Nat) (rs:List (Nat×Nat)):Prop where
 ne:∀ q∈rs,q.1≠q.2
 ring:∀ w,w<n->(one w,two w)∈rs
 inj:∀ w v,w<n->v<n->(one w=one v\/two w=two v\/one w=two v)->w=v/\one w≠two v
 mks:∀ q,G.marks.testBit q=true↔∃ t,t<rs.length/\q=s0+2*t+1
 st:∀ s∈G.steps,∃ d,PP G s0 one two rs n d s
structure RI (G:G3) (n s0:Nat) (one two:Nat->Nat) (rs:List (Nat×Nat)) (k:Nat) (p:Nat×Nat):Prop where
 a:∀ t q,rs[t]?=some q->p.1.testBit (s0+2*t)=(k.testBit q.1 ^^ k.testBit q.2)
 b:∀ t q,rs[t]?=some q->p.1.testBit (s0+2*t+1)=!(k.testBit q.1 ^^ k.testBit q.2)
 o:∀ j,(∀ t,t<rs.length->j≠s0+2*t/\j≠s0+2*t+1)->p.1.testBit j=false
 c:∀ w,p.2.testBit w=(G.code.testBit w ^^ (decide (w<n)&&(k.testBit (one w) ^^ k.testBit (two w))))
theorem Kp.a{d:Nat}(h:Kp s0 rs f g d l){t:Nat}(e:rs[t]?=some q):s0+2*t∈l↔f q=d:=by
 rw[h];constructor
 ·rintro⟨t',p,e',⟨h1,h2⟩ | ⟨h1,_⟩⟩
  ·have:t'=t:=by lia
   subst this;rw[e] at e';cases e';exact h2
  ·lia
 ·exact fun h2=>⟨t,q,e,.inl ⟨rfl,h2⟩⟩
theorem Kp.b{d:Nat}(h:Kp s0 rs f g d l){t:Nat}(e:rs[t]?=some q):s0+2*t+1∈l↔g q=d:=by
 rw[h];constructor
 ·rintro⟨t',p,e',⟨h1,_⟩ | ⟨h1,h2⟩⟩
  ·lia
  ·have:t'=t:=by lia
   subst this;rw[e] at e';cases e';exact h2
 ·exact fun h2=>⟨t,q,e,.inr ⟨rfl,h2⟩⟩
theorem Kp.o{d:Nat}(h:Kp s0 rs f g d l){j:Nat}(e:∀ t,t<rs.length->j≠s0+2*t/\j≠s0+2*t+1):j∉l:=by
 intro hj;obtain⟨t,p,H,h1⟩:=(h j).mp hj;have:=e t (AB.mp H).1;rcases h1 with h1 | h1
 ·exact this.1 h1.1
 ·exact this.2 h1.1
theorem S0(k d j:Nat):(k ^^^ 2^d).testBit j=(k.testBit j ^^ decide (d=j)):=by
 rw[GB,GD]
theorem kG{one two:Nat->Nat}(h:RG G n s0 one two rs)(hn:n<=4):SD G fun p=>∃ k,k<2^(2*n)/\RI G n s0 one two rs k p where
 ini:=by
  refine⟨0,HR _,?_,?_,?_,?_⟩
  ·intro t q e
   simp only[GH,Bool.xor_false];rw[IM];intro hh;obtain⟨t',_,e'⟩:=(h.mks _).mp hh;lia
  ·intro t q e
   simp only[GH,Bool.xor_false,Bool.not_false];exact(h.mks _).mpr ⟨t,(AB.mp e).1,rfl⟩
  ·intro j hj
   rw[IM];intro hh;obtain⟨t',f,e'⟩:=(h.mks _).mp hh;exact(hj t' f).2 e'
  ·intro w;simp
 lev:=by
  rintro p s ⟨k,Y,hi⟩ hs O;obtain⟨d,hd⟩:=h.st s hs;obtain⟨t,ht⟩:=EJ (h.ring s.w hd.w);rw[hi.c,AJ hd.w,GA];have O:=Xg.mp O;rcases hd.lev with⟨e1,e2⟩ | ⟨e1,e2⟩
  ·have:=O _ ((hd.tk.b ht).mpr e1.symm)
   rw[hi.b t _ ht] at this;have hx:(k.testBit (one s.w) ^^ k.testBit (two s.w))=false:=by simpa using this
   rw[hx,e2];cases G.code.testBit s.w<;>simp
  ·have:=O _ ((hd.tk.a ht).mpr e1.symm)
   rw[hi.a t _ ht] at this;have hx:(k.testBit (one s.w) ^^ k.testBit (two s.w))=true:=this;rw[hx,e2];cases G.code.testBit s.w<;>simp
 room:=by
  rintro p s ⟨k,Y,hi⟩ hs O q hq U;obtain⟨d,hd⟩:=h.st s hs;have O:=Xg.mp O;obtain⟨t,r,H,hh⟩:=(hd.fl q).mp hq;exfalso;rcases hh with⟨rfl,e1⟩ | ⟨rfl,e1⟩
  ·have:=O _ ((hd.tk.b H).mpr e1)
   rw[hi.b t _ H] at this;rw[hi.a t _ H] at U;rw[U] at this;cases this
  ·have:=O _ ((hd.tk.a H).mpr e1)
   rw[hi.a t _ H] at this;rw[hi.b t _ H,this] at U;cases U
 nxt:=by
  rintro p s ⟨k,Y,hi⟩ hs O;obtain⟨d,hd⟩:=h.st s hs;have O:=Xg.mp O;have ah:k ^^^ 2^d<2^(2*n):=Nat.xor_lt_two_pow Y (Nat.pow_lt_pow_right (by lia) hd.dl);refine⟨k ^^^ 2^d,ah,?_,?_,?_,?_⟩
  ·intro t q e
   have ac:=h.ne q (AI e);have ha:=hi.a t q e;have U:=hi.b t q e;have h1:=hd.tk.a e;have h2:=hd.fl.a e;have h3:=hd.tk.b e;rw[SU,S0,S0];by_cases e1:q.2=d
   ·have:=O _ (h1.mpr e1)
    have e2:¬ q.1=d:=fun e2=>ac (e2.trans e1.symm)
    rw[AJ (h1.mpr e1),AE (mt h2.mp e2),AJ e1.symm,AE (AO e2)];rw[ha] at this;revert this;cases k.testBit q.1<;>cases k.testBit q.2<;>simp
   ·by_cases e2:q.1=d
    ·have:=O _ (h3.mpr e2)
     rw[AE (mt h1.mp e1),AJ (h2.mpr e2),AE (AO e1),AJ e2.symm];rw[U] at this;revert this;cases k.testBit q.1<;>cases k.testBit q.2<;>simp
    ·rw[AE (mt h1.mp e1),AE (mt h2.mp e2),AE (AO e1),AE (AO e2),ha]
     simp
  ·intro t q e
   have ac:=h.ne q (AI e);have ha:=hi.a t q e;have U:=hi.b t q e;have h1:=hd.tk.b e;have h2:=hd.fl.b e;have h3:=hd.tk.a e;rw[SU,S0,S0];by_cases e1:q.1=d
   ·have:=O _ (h1.mpr e1)
    have e2:¬ q.2=d:=fun e2=>ac (e1.trans e2.symm)
    rw[AJ (h1.mpr e1),AE (mt h2.mp e2),AJ e1.symm,AE (AO e2)];rw[U] at this;revert this;cases k.testBit q.1<;>cases k.testBit q.2<;>simp
   ·by_cases e2:q.2=d
    ·have:=O _ (h3.mpr e2)
     rw[AE (mt h1.mp e1),AJ (h2.mpr e2),AE (AO e1),AJ e2.symm];rw[ha] at this;revert this;cases k.testBit q.1<;>cases k.testBit q.2<;>simp
    ·rw[AE (mt h1.mp e1),AE (mt h2.mp e2),AE (AO e1),AE (AO e2),U]
     simp
  ·intro j hj
   rw[SU,hi.o j hj,AE (hd.fl.o hj)];simp
  ·intro w
   rw[eW,hi.c,S0,S0];by_cases hw:w<n
   ·rw [AJ hw,GA,GA]
    have ag:decide (s.w=w)=(decide (d=one w) ^^ decide (d=two w)):=by
     by_cases ew:s.w=w
     ·subst ew
      have ac:=(h.inj s.w s.w hd.w hd.w (.inl rfl)).2;rcases hd.lev with⟨e1,_⟩ | ⟨e1,_⟩
      ·rw[AJ rfl,AJ e1,AE (fun e2=>ac (e1.symm.trans e2))];rfl
      ·rw[AJ rfl,AJ e1,AE (fun e2=>ac (e2.symm.trans e1))];rfl
     ·have n1:¬ d=one w:=by
       intro C;rcases hd.lev with⟨e1,_⟩ | ⟨e1,_⟩
       ·exact ew (h.inj s.w w hd.w hw (.inl (e1.symm.trans C))).1
       ·exact ew (h.inj w s.w hw hd.w (.inr (.inr (C.symm.trans e1)))).1.symm
      have n2:¬ d=two w:=by
       intro C;rcases hd.lev with⟨e1,_⟩ | ⟨e1,_⟩
       ·exact ew (h.inj s.w w hd.w hw (.inr (.inr (e1.symm.trans C)))).1
       ·exact ew (h.inj s.w w hd.w hw (.inr (.inl (e1.symm.trans C)))).1
      rw[AE ew,AE n1,AE n2];rfl
    rw[ag];cases G.code.testBit w<;>cases k.testBit (one w)<;>cases k.testBit (two w)<;>cases decide (d=one w)<;>cases decide (d=two w)<;>rfl
   ·have:s.w≠w:=fun e=>hw (e▸hd.w)
    rw[AE hw,AE this];simp
 few:=by
  intro l hl hp;have B:2^(2*n)<=256:=AZ (CT (by lia) (show 2*n<=8 by lia)) (by decide);have:=ZM (fun k p=>RI G n s0 one two rs k p) (fun k p q h1 h2=>?_) (2^(2*n)) l hl hp
  ·lia
  ·refine IB (CU fun j=>?_) (CU fun j=>by rw[h1.c,h2.c])
   by_cases hj:∀ t,t<rs.length->j≠s0+2*t/\j≠s0+2*t+1
   ·rw[h1.o j hj,h2.o j hj]
   ·simp only[Classical.not_forall] at hj
    obtain⟨t,ht,hj⟩:=hj;have e:rs[t]?=some rs[t]:=AH ht;by_cases e1:j=s0+2*t
    ·rw[e1,h1.a t _ e,h2.a t _ e]
    ·have e2:j=s0+2*t+1:=EO fun e2=>hj ⟨e1,e2⟩
     rw[e2,h1.b t _ e,h2.b t _ e]
end L2
variable{f:L2.Zzu}{g:L2.Ev->L2.Fl}{b:Bool}{a:Nat}
namespace L2
def Qs(ps:C3 Nat)(w:Nat):Nat:=ps.idxOf w
def Qt(ps:C3 Nat)(w:Nat):Nat:=ps.idxOf w+1+(ps.drop (ps.idxOf w+1)).idxOf w
theorem X':∀ {ps:C3 Nat} {d:Nat},ps[d]?=some w->ps.count w=1->(ps.take d).count w=0/\d=ps.idxOf w
 | [],_,h,_=>by cases h
 | p::ps,0,h,_=>by
  cases h;exact⟨rfl,by rw[FH];simp⟩
 | p::ps,d+1,h,O=>by
  have h':ps[d]?=some w:=h;by_cases e:p=w
  ·subst e
   rw[HU] at O;have:ps.count p=0:=by lia
   exact absurd (AI h') (List.count_eq_zero.mp this)
  ·rw[FR e] at O
   obtain⟨h1,h2⟩:=X' h' O;rw[FL,FR e,FH,show(p==w)=false from BX.mpr e];exact⟨h1,by simp[h2]⟩
theorem VC:∀ {ps:C3 Nat} {d:Nat},ps[d]?=some w->ps.count w=2->((ps.take d).count w=0/\d=Qs ps w)\/((ps.take d).count w=1/\d=Qt ps w)
 | [],_,h,_=>by cases h
 | p::ps,0,h,_=>by
  cases h;exact .inl ⟨rfl,by unfold Qs;rw[FH];simp⟩
 | p::ps,d+1,h,O=>by
  have h':ps[d]?=some w:=h;by_cases e:p=w
  ·subst e
   rw[HU] at O;obtain⟨h1,h2⟩:=X' h' (by lia);refine .inr ⟨by rw[FL,HU,h1],?_⟩;unfold Qt;rw[FH,FA];show d+1=0+1+ps.idxOf p;lia
  ·rw[FR e] at O
   have e1:(p::ps).idxOf w=ps.idxOf w+1:=by rw[FH,show(p==w)=false from BX.mpr e];rfl
   rw[FL,FR e];unfold Qs Qt;rw[e1];rcases VC h' O with⟨h1,h2⟩ | ⟨h1,h2⟩
   ·exact .inl ⟨h1,by unfold Qs at h2;lia⟩
   ·refine .inr ⟨h1,?_⟩
    unfold Qt at h2;show d+1=ps.idxOf w+1+1+(ps.drop (ps.idxOf w+1)).idxOf w;lia
theorem second:∀ {ps:C3 Nat},ps.count v=2->v∈ps.drop (ps.idxOf v+1)
 | [],h=>by cases h
 | p::ps,h=>by
  rw[List.count_cons] at h;rw[FH];by_cases e:p=v
  ·subst e
   rw[show(p==p)=true from FA _] at h ⊢;show p∈ps;refine IF.mp ?_;simp at h;lia
  ·rw[show(p==v)=false from BX.mpr e] at h ⊢
   show v∈ps.drop (ps.idxOf v+1);exact second (by simpa using h)
theorem bS(h:w∈ps):ps[ps.idxOf w]?=some w:=by
 have hl:=FT h;rw[AH hl,List.getElem_idxOf hl]
theorem XJ(h:ps.count w=2):ps[Qs ps w]?=some w:=bS (IF.mp (by lia))
theorem XG(h:ps.count w=2):ps[Qt ps w]?=some w:=by
 have:=bS (second h);rw[HF] at this;exact this
theorem fq(ps:C3 Nat)(w:Nat):Qs ps w<Qt ps w:=by unfold Qs Qt;lia
structure NH (n:Nat) (ps:List Nat):Prop where
 len:ps.length=2*n
 cnt:∀ v,ps.count v=if v<n then 2 else 0
theorem NH.mem(h:NH n ps) :v∈ps↔v<n:=by
 rw[← IF,h.cnt];split<;>lia
theorem NH.two(h:NH n ps)(hv:v<n):ps.count v=2:=by rw[h.cnt,AG hv]
theorem NH.inj{n:Nat}{ps:C3 Nat}(h:NH n ps)(w v:Nat)(hw:w<n)(hv:v<n)(e:Qs ps w=Qs ps v\/Qt ps w=Qt ps v\/Qs ps w=Qt ps v):w=v/\Qs ps w≠Qt ps v:=by
 have a1:=XJ (h.two hw);have a2:=XG (h.two hw);have b1:=XJ (h.two hv);have b2:=XG (h.two hv);have a:w=v:=by
  rcases e with e | e | e
  ·rw[e,b1] at a1;exact(BD a1).symm
  ·rw[e,b2] at a2;exact(BD a2).symm
  ·rw[e,b2] at a1;exact(BD a1).symm
 subst a;exact⟨rfl,by have:=fq ps w;lia⟩
theorem nU(tk:C3 (C3 Nat))(k x d:Nat)(Y:k<tk.length):(Oi tk k x).getD d []=if d=k then tk.getD d []++[x] else tk.getD d []:=by
 unfold Oi;by_cases e:d=k
 ·subst e
  simp[List.getD,BB,Y]
 ·have e':¬ k=d:=fun z=>e z.symm
  simp[List.getD,BB,e,e']
theorem ce(tk:C3 (C3 Nat))(k x d q:Nat)(Y:k<tk.length):q∈(Oi tk k x).getD d []↔q∈tk.getD d []\/(d=k/\q=x):=by
 rw[nU tk k x d Y];by_cases e:d=k
 ·rw[AG e];simp[e]
 ·rw[AQ e];simp[e]
def NS(s0:Nat)(rs:C3 (Nat×Nat))(f g:Nat×Nat->Nat)(tk:C3 (C3 Nat)):Prop:=∀ d,Kp s0 rs f g d (tk.getD d [])
variable{f g:Nat×Nat->Nat}
theorem NS.nil(s0 m:Nat)(f g:Nat×Nat->Nat):NS s0 [] f g (List.replicate m []):=fun d q=>by
 have:(List.replicate m ([]:C3 Nat)).getD d []=[]:=by
  simp only[List.getD];cases e:(List.replicate m ([]:C3 Nat))[d]? with
  | none=>rfl
  | some l=>have:=AI e;rw[(FE.mp this).2];rfl
 rw[this];simp
theorem NS.app(h:NS s0 rs f g tk)(p:Nat×Nat)(hf:f p<tk.length)(hg:g p<tk.length):NS s0 (rs++[p]) f g (Oi (Oi tk (f p) (s0+2*rs.length)) (g p) (s0+2*rs.length+1)):=fun d q=>by
 rw[ce _ _ _ _ _ (by rw[Ry];exact hg),ce _ _ _ _ _ hf,h d q];constructor
 ·rintro((⟨t,r,e,h1⟩ | ⟨h1,h2⟩) | ⟨h1,h2⟩)
  ·exact⟨t,r,by rw[BG (AB.mp e).1];exact e,h1⟩
  ·exact⟨rs.length,p,by simp,.inl ⟨h2,h1.symm⟩⟩
  ·exact⟨rs.length,p,by simp,.inr ⟨h2,h1.symm⟩⟩
 ·rintro⟨t,r,e,h1⟩
  rcases DE t rs.length with hl | hl
  ·rw[BG hl] at e
   exact .inl (.inl ⟨t,r,e,h1⟩)
  ·rw[CM hl] at e
   have C:t - rs.length=0:=by
    rcases DK (t - rs.length) with z | z
    ·exact z
    ·rw[HG,AQ (by lia)] at e;cases e
   rw[C] at e;cases e;have H:t=rs.length:=by lia
   subst H;rcases h1 with⟨h1,h2⟩ | ⟨h1,h2⟩
   ·exact .inl (.inr ⟨h2.symm,h1⟩)
   ·exact .inr ⟨h2.symm,h1⟩
theorem Cd(U:LW L B tk)(h:∀ l∈tk,l.Nodup)(k x:Nat)(hx:B<=x):∀ l∈Oi tk k x,l.Nodup:=by
 intro l hl;rcases DP hl with q | q
 ·exact h l q
 ·rw[q]
  cases e:tk[k]? with
  | none=>simp[List.getD,e]
  | some c =>
   have hm:=AI e;simp only[List.getD,e,IU];refine HK.mpr ⟨h c hm,DB.mpr ⟨by simp,EQ⟩,fun a ha b o=>?_⟩;have:=U.lt c hm a ha;rw[AL.mp o];lia
theorem Kp.perm{d:Nat}{c:C3 Nat}(h:Kp s0 rs f g d l)(e:c.Perm l):Kp s0 rs f g d c:=fun q=>by rw[e.mem_iff];exact h q
structure SB (B n:Nat) (s:St3):Prop where
 w:s.w<n
 t:∀ p∈s.takes,p<B
 f:∀ p∈s.fills,p<B
 tn:s.takes.Nodup
 fn:s.fills.Nodup
theorem WV(h:l.Nodup)(U:∀ p∈l,p<B):l.length<=B:=by
 have:=Kg l (List.range B) h fun x hx=>CF.mpr (U x hx)
 rwa [BV] at this
structure Gb (B:Nat) (G:G3):Prop where
 w2:G.wires.length<=10
 s1:1<=G.steps.length
 s2:G.steps.length<=24
 st:∀ s∈G.steps,SB B G.wires.length s
 mks:G.marks<2^B
end L2
variable{ps:C3 (Nat×Nat)}
namespace L2
open PySem PySem.Spec PyProof.Rows
def eJ(r:Fl)(N:Ev->Prop)(R:Dat->Prop):Prop:=match r with
 | .next e=>N e
 | .cont e=>N e
 | .ret d=>R d
 | _=>False
structure M' (r:Fl) (N:Ev->Prop) (R:Dat->Prop):Prop where
 of:eJ r N R
section
variable{fk fv:Zzu}
theorem Go.toC(q:Go r N R):M' r N R:=by
 cases r with
 | next e=>exact⟨q.of⟩
 | ret d=>exact⟨q.of⟩
 | _=>exact q.of.elim
theorem ZV(q:Go (g env) (fun e=>M' (h e) N R) R):M' (Zf g h env) N R:=by
 unfold Zf;cases e:g env with
 | next e'=>rw[e] at q;exact q.of
 | ret d=>rw[e] at q;exact⟨q.of⟩
 | _=>rw[e] at q;exact q.of.elim
theorem iA(e:t env=some b)(q1:b=true->N env)(q2:b=false->M' (h env) N R):M' (Zf (Qp t (fun env=>.cont env) U6) h env) N R:=by
 unfold Zf Qp;rw[e];cases b with
 | true=>exact⟨q1 rfl⟩
 | false=>exact q2 rfl
theorem bT(P:Nat->Ev->Prop):∀ (ds:C3 Dat) (k:Nat) (env:Ev),P k env->(∀ i d e,ds[i]?=some d->P (k+i) e->∃ e1,gg d e=some e1/\M' (g e1) (P (k+i+1)) R)->(∀ e,P (k+ds.length) e->N e)->Go (Ii gg g ds env) N R
 | [],k,env,h0,_,hN=>⟨hN env h0⟩
 | d::ds,k,env,h0,hs,hN=>by
  obtain⟨e1,a1,a2⟩:=hs 0 d env rfl h0;rw[Ii,a1];dsimp only;have ak:∀ e',P (k+0+1) e'->Go (Ii gg g ds e') N R:=fun e' h'=>bT P ds (k+1) e' h' (fun i d e hi hp=>by
   have:=hs (i+1) d e (by simpa using hi) (by rw[show k+(i+1)=k+1+i by lia];exact hp);rw[show k+1+i+1=k+(i+1)+1 by lia];exact this) (fun e hp=>hN e (by rw[BC,show k+(ds.length+1)=k+1+ds.length by lia];exact hp))
  cases e:g e1 with
  | next e'=>rw[e] at a2;exact ak e' a2.of
  | cont e'=>rw[e] at a2;exact ak e' a2.of
  | ret d'=>rw[e] at a2;exact⟨a2.of⟩
  | _=>rw[e] at a2;exact a2.of.elim
theorem j8(P:Nat->Ev->Prop)(e:src env=some ds)(h0:P 0 env)(hs:∀ i d e,ds[i]?=some d->P i e->∃ e1,gg d e=some e1/\M' (g e1) (P (i+1)) R)(hN:∀ e,P ds.length e->N e):Go (Qo src gg g env) N R:=by
 unfold Qo;rw[e];exact bT P ds 0 env h0 (fun i d e hi hp=>by simpa using hs i d e hi (by simpa using hp)) (fun e hp=>hN e (by simpa using hp))
theorem jj{x y:Int}(e:env[i]?=some (.fz (.int x)))(e2:f env=some (.int y))(q:N (env.set i (.fz (.int (x+y))))):Go (QM i f env) N R:=by
 unfold QM;rw[e,e2];exact⟨q⟩
def Xd(p:Nat×Nat):C3 Ul:=[.inl (p.1:Int),.inl (p.2:Int)]
theorem jY:Xd p=Xd q↔p=q:=by
 constructor
 ·intro h
  unfold Xd at h;simp only[List.cons.injEq,Sum.inl.injEq,and_true] at h;exact IB (by lia) (by lia)
 ·rintro rfl;rfl
theorem N5(p:Nat×Nat):QD (Zz p)=some (Xd p):=rfl
def L6(ps:C3 (Nat×Nat)):C3 (C3 Ul×Dat):=ps.map fun p=>(Xd p,.bl true)
theorem Xk(ps:C3 (Nat×Nat))(q:Nat×Nat):Ny (L6 ps) (Xd q)=decide (q∈ps):=by
 unfold Ny L6;rw[DI,DX,DU,CB];constructor
 ·rintro⟨x,hx,e⟩
  obtain⟨p,hp,rfl⟩:=CZ.mp hx;have:Xd p=Xd q:=BF e;rw[← jY.mp this];exact hp
 ·intro h
  exact⟨Xd q,CZ.mpr ⟨q,h,rfl⟩,AJ rfl⟩
theorem j1(e:env[i]?=some (.gx (.dict (L6 ps))))(e2:f env=some (Zz q)):RQ false i f env=some (.bl (decide (q∈ps))):=by
 unfold RQ;rw[e,e2];dsimp only;rw[N5];show some (Dat.bl (Ny (L6 ps) (Xd q)))=_;rw[Xk]
theorem j9(e:env[i]?=some (.gx (.dict (L6 ps))))(e2:fv env=some (.bl true))(e3:fk env=some (Zz q))(hq:q∉ps)(hl:ps.length<=1000)(n:N (env.set i (.gx (.dict (L6 (ps++[q])))))):Go (Px i fk fv env) N R:=by
 unfold Px;rw[e,e2,e3];dsimp only;rw[N5];dsimp only;rw[AG ⟨by rw[Xk,AE hq],by unfold L6;rw[AC];exact FN hl (by decide)⟩];have:L6 ps++[(Xd q,Dat.bl true)]=L6 (ps++[q]):=by unfold L6;rw[BK];rfl
 rw[this];exact⟨n⟩
theorem dW(e:fk env=some (Zz q))(e2:fv env=some (.bl true))(n:N (env.set i (.gx (.dict (L6 [q]))))):Go (SJ i fk fv env) N R:=by
 unfold SJ;rw[e,e2];dsimp only;rw[N5];exact⟨n⟩
theorem kM(h1:fs env=some [.lst xs]):RE fs env=some xs.reverse:=by unfold RE;rw[h1]
theorem Ao{g:Zzu}(h1:f env=some (.bl true))(h2:g env=some d):QG f g env=some d:=by unfold QG dB;rw[h1];exact h2
end
def Bj(G:G3)(m k:Nat):Bool:=match G.steps[k]? with
 | some s=>Qw s m
 | none=>false
theorem ed(h:Bj G m k=true):∃ s,G.steps[k]?=some s/\Qw s m=true:=by
 unfold Bj at h;cases e:G.steps[k]? with
 | none=>rw[e] at h;cases h
 | some s=>rw[e] at h;exact⟨s,rfl,h⟩
def N2(G:G3)(m:Nat):C3 Nat:=(List.range G.steps.length).filter (Bj G m)
theorem Ak{F:C3 Rw}(h:ac <+: F){r:Rw}(e:ac[i]?=some r):F[i]?=some r:=by
 obtain⟨t,rfl⟩:=h;rw[BG (AB.mp e).1];exact e
theorem l'(h:k∈N2 G m):Bj G m k=true:=(BP.mp h).2
def ie(r:Fl)(N C:Ev->Prop)(R:Dat->Prop)(E:Str->C3 (Str×XD)->Prop):Prop:=match r with
 | .next e=>N e
 | .cont e=>C e
 | .ret d=>R d
 | .exc _ c fl=>E c fl
 | _=>False
structure KI (r:Fl) (N C:Ev->Prop) (R:Dat->Prop) (E:Str->List (Str×XD)->Prop):Prop where
 of:ie r N C R E
section
variable{C:Ev->Prop}{E:Str->C3 (Str×XD)->Prop}
theorem Go.toE(q:Go r N R):KI r N C R E:=by
 cases r with
 | next e=>exact⟨q.of⟩
 | ret d=>exact⟨q.of⟩
 | _=>exact q.of.elim
theorem Vy(q:KI (g env) (fun e=>KI (h e) N C R E) C R E):KI (Zf g h env) N C R E:=by
 unfold Zf;cases e:g env with
 | next e'=>rw[e] at q;exact q.of
 | ret d=>rw[e] at q;exact⟨q.of⟩
 | cont d=>rw[e] at q;exact⟨q.of⟩
 | exc e' c fl=>rw[e] at q;exact⟨q.of⟩
 | _=>rw[e] at q;exact q.of.elim
theorem Tj(q:Go (g env) (fun e=>KI (h e) N C R E) R):KI (Zf g h env) N C R E:=Vy q.toE
theorem Ga(e:t env=some b)(q1:b=true->KI (g env) N C R E)(q2:b=false->KI (h env) N C R E):KI (Qp t g h env) N C R E:=by
 unfold Qp;rw[e];cases b with
 | true=>exact q1 rfl
 | false=>exact q2 rfl
theorem Jg{a:C3 Dat->C2 (C3 (Str×XD))}(e:fs env=some ds)(e2:a ds=some fl)(q:E c fl):KI (U1 c a fs env) N C R E:=by
 unfold U1;rw[e];dsimp only[Option.bind];rw[e2];exact⟨q⟩
theorem ZB(P:Nat->Ev->Prop):∀ (ds:C3 Dat) (k:Nat) (env:Ev),P k env->(∀ i d e,ds[i]?=some d->P (k+i) e->∃ e1,gg d e=some e1/\KI (g e1) (P (k+i+1)) (P (k+i+1)) R E)->(∀ e,P (k+ds.length) e->N e)->KI (Ii gg g ds env) N C R E
 | [],k,env,h0,_,hN=>⟨hN env h0⟩
 | d::ds,k,env,h0,hs,hN=>by
  obtain⟨e1,a1,a2⟩:=hs 0 d env rfl h0;rw[Ii,a1];dsimp only;have ak:∀ e',P (k+0+1) e'->KI (Ii gg g ds e') N C R E:=fun e' h'=>ZB P ds (k+1) e' h' (fun i d e hi hp=>by
   have:=hs (i+1) d e (by simpa using hi) (by rw[show k+(i+1)=k+1+i by lia];exact hp);rw[show k+1+i+1=k+(i+1)+1 by lia];exact this) (fun e hp=>hN e (by rw[BC,show k+(ds.length+1)=k+1+ds.length by lia];exact hp))
  cases e:g e1 with
  | next e'=>rw[e] at a2;exact ak e' a2.of
  | cont e'=>rw[e] at a2;exact ak e' a2.of
  | ret d'=>rw[e] at a2;exact⟨a2.of⟩
  | exc e' c fl=>rw[e] at a2;exact⟨a2.of⟩
  | _=>rw[e] at a2;exact a2.of.elim
theorem Aj(P:Nat->Ev->Prop)(e:src env=some ds)(h0:P 0 env)(hs:∀ i d e,ds[i]?=some d->P i e->∃ e1,gg d e=some e1/\KI (g e1) (P (i+1)) (P (i+1)) R E)(hN:∀ e,P ds.length e->N e):KI (Qo src gg g env) N C R E:=by
 unfold Qo;rw[e];exact ZB P ds 0 env h0 (fun i d e hi hp=>by simpa using hs i d e hi (by simpa using hp)) (fun e hp=>hN e (by simpa using hp))
theorem KI.ne(q:KI r N C R E):r≠.no:=fun z=>by rw[z] at q;exact q.of
theorem gA(W:Nat->Ev->Prop)(h0:W n env)(hs:∀ n e,W n e->(t e=some false/\N e)\/(t e=some true/\KI (g e) (fun e'=>∃ m,m<n/\W m e') (fun _=>False) R E)):KI (Gc t g env) N C R E:=by
 have ag:∀ n e,W n e->KI (Vv t g (n+1) e) N C R E:=by
  intro n;induction n using strongRecOn with
  | _ n ih =>
   intro e hw;rcases hs n e hw with⟨a,b⟩ | ⟨a,b⟩
   ·rw[Vv,a];exact⟨b⟩
   ·rw[Vv,a]
    dsimp only;cases eg:g e with
    | next e' =>
     rw[eg] at b;obtain⟨m,hm,f⟩:=b.of;have q:=ih m hm e' f;dsimp only;have:=Tx (n - (m+1)) q.ne;rw[show m+1+(n - (m+1))=n by lia] at this;rw[this];exact q
    | ret d=>rw[eg] at b;exact⟨b.of⟩
    | exc e' c fl=>rw[eg] at b;exact⟨b.of⟩
    | _=>rw[eg] at b;exact b.of.elim
 have q:=ag n env h0;rw[Ag q.ne];exact q
theorem Ha{p:Nat}(hp:ds.length=p)(q:KI (g (Tt n ds)) (fun _=>R .non) (fun _=>False) R E):(∃ d,Yg n p g ds=.ok d/\R d)\/∃ c fl,Yg n p g ds=.exc c fl/\E c fl:=by
 unfold Yg;rw[AG hp];cases e:g (Tt n ds) with
 | next e'=>rw[e] at q;exact .inl ⟨_,rfl,q.of⟩
 | ret d=>rw[e] at q;exact .inl ⟨_,rfl,q.of⟩
 | exc e' c fl=>rw[e] at q;exact .inr ⟨_,_,rfl,q.of⟩
 | _=>rw[e] at q;exact q.of.elim
variable{e' e3:Ev}{sub:Str->Bool}
theorem lC(e:g env=.next e')(q:N e'):Go (ON sub i g h env) N R:=by unfold ON;rw[e];exact⟨q⟩
theorem d4(e:g env=.exc e' c fl)(hs:sub c=true)(e2:h (e'.set i (.fz (.exc c fl)))=.next e3)(q:N (e3.set i .un)):Go (ON sub i g h env) N R:=by
 unfold ON;rw[e];dsimp only;rw[AG hs,e2];exact⟨q⟩
theorem Gn(e:fs env=some ds)(h:F ds=.exc c fl):U5 F fs env=.exc env c fl:=by unfold U5;rw[e];dsimp only;rw[h]
theorem WX(h:f env=some (.exc c fl))(hs:sb c=some b):LK sb f env=some (.bl b):=by unfold LK;rw[h];show(sb c).map Dat.bl=_;rw[hs];rfl
end
end L2
variable{b:Nat}{i:Int}
namespace L2
open PySem
def Eh(G:G3)(s:St3):Bool:=match G.wires[s.w]? with
 | some u=>u.2
 | none=>false
def QX(G:G3):Prop:=∀ (i j:Nat) (b c:St3),i≠j->G.steps[i]?=some b->G.steps[j]?=some c->∀ q,q∈b.takes->q∉b.fills->q∈c.takes->Eh G b=false/\Eh G c=false
theorem fo{one two:Nat->Nat}(ds:C3 Nat)(nd:ds.Nodup)(h:∀ (i:Nat) (s:St3),G.steps[i]?=some s->∃ d:Nat,ds[i]?=some d/\PP G s0 one two rs n d s):QX G:=by
 intro i j b c m hi hj q hq _ g;exfalso;obtain⟨k,e1,h1⟩:=h i b hi;obtain⟨l,e2,h2⟩:=h j c hj;have hd:k=l:=by
  obtain⟨t,p,H,hp⟩:=(h1.tk q).mp hq;obtain⟨t',f,a,P⟩:=(h2.tk q).mp g;rcases hp with⟨a1,a2⟩ | ⟨a1,a2⟩<;>rcases P with⟨b1,b2⟩ | ⟨b1,b2⟩
  ·have:t=t':=by lia
   subst this;rw[H] at a;cases a;rw[← a2,← b2]
  ·lia
  ·lia
  ·have:t=t':=by lia
   subst this;rw[H] at a;cases a;rw[← a2,← b2]
 subst hd;obtain⟨l1,g1⟩:=AB.mp e1;obtain⟨l2,g2⟩:=AB.mp e2;have e:=List.pairwise_iff_getElem.mp nd;rcases Nat.lt_or_gt_of_ne m with h0 | h0
 ·exact e i j l1 l2 h0 (g1.trans g2.symm)
 ·exact e j i l2 l1 h0 (g2.trans g1.symm)
end L2
namespace K72
open PySem PySem.Spec PyProof.Rows L2
theorem Im(ns:C3 Int)(k:Nat)(Y:k<=100000):∃ r:Nat,Yo [Ds ns,.int (k:Int)]=.ok (.int (r:Int))/\r<1000000000039:=by
 have:=Y3 (n:=3) (p:=2) (ds:=[Ds ns,.int (k:Int)]) (g:=Qv) (R:=fun d=>∃ r:Nat,d=.int (r:Int)/\r<1000000000039) rfl ?_
 ·obtain⟨d,e,r,rfl,h⟩:=this
  exact⟨r,e,h⟩
 show Go (Qv [.fz (Ds ns),.fz (.int (k:Int)),.un]) _ _;unfold Qv;have B:∀ z:Int,Go (Yq (dO Ua (dO Es (dV 2) (dC (.int 48271))) (dC (.int 1000000000039))) [.fz (Ds ns),.fz (.int (k:Int)),.fz (.int z)]) (fun _=>False) (fun d=>∃ r:Nat,d=.int (r:Int)/\r<1000000000039):=fun z=>by
  refine Zt (d:=.int (z*48271 % 1000000000039)) (Z7 (Z7 rfl rfl (Op (.inr (by lia)))) rfl (bM (by lia))) ⟨(z*48271 % 1000000000039).toNat,?_,?_⟩
  ·congr 1;lia
  ·lia
 refine Z9 (Zi (d:=.int (7919*(k:Int)+12345)) (Z7 (Z7 rfl rfl (Op (.inl (by lia)))) rfl rfl) ?_);refine Z9 (Q3 (b:=decide ((k:Int)<((ns.map Dat.int).length:Int))) rfl (fun U=>?_) (fun U=>?_))
 ·have a:k<ns.length:=by have:=BF U;rw[AC] at this;lia
  have y:Yi (Ds ns) (.int (k:Int))=some (.int ns[k]):=Yl (by simp[a]);refine Zi (d:=.int (7919*(k:Int)+12345+ns[k]*6364136223846793005)) (Z7 rfl (Z7 (Z7 rfl rfl y) rfl (Op (.inr (by lia)))) rfl) ?_;exact(B _).mono (fun _ h=>h.elim) fun _ h=>h
 ·refine Yd ?_
  exact(B _).mono (fun _ h=>h.elim) fun _ h=>h
theorem gm(c k:Nat):∃ z:Str,Mm [.int (c:Int),.int (k:Int)]=.ok (.str z):=by
 have:=Y3 (n:=8) (p:=2) (ds:=[.int (c:Int),.int (k:Int)]) (g:=Tw) (R:=fun d=>∃ z:Str,d=.str z) rfl ?_
 ·obtain⟨d,e,z,rfl⟩:=this
  exact⟨z,e⟩
 show Go (Tw [.fz (.int (c:Int)),.fz (.int (k:Int)),.un,.un,.un,.un,.un,.un]) _ _;unfold Tw;obtain⟨n,hn,L⟩:∃ n:Nat,2+c % 7=n/\n<=8:=⟨_,rfl,by lia⟩;refine Z9 (Zi (d:=.str V4) rfl ?_);refine Z9 (Zi (d:=.int (n:Int)) (by rw[← hn];exact Z7 rfl (Z7 rfl rfl (Q7 c 7 (by lia))) (Qg 2 _)) ?_);refine Z9 (Zi (Z7 (Z7 rfl rfl (Um c 7 (by lia) (by lia))) rfl (Q7 (c / 7) n (by lia))) ?_);refine Z9 (Zi (d:=.str "") rfl ?_);generalize c / 7 % n=l;refine Z9 (Te (ds:=rng 0 n) (fun i e=>∃ (z:Str) (u w:KL),e=[.fz (.int (c:Int)),.fz (.int (k:Int)),.fz (.str V4),.fz (.int (n:Int)),.fz (.int (l:Int)),.fz (.str z),u,w]/\z.length=i) (Yv (Z2 rfl rfl) (by lia)) ⟨"",.un,.un,rfl,by decide⟩ ?_ ?_)
 ·rintro i d e hi ⟨z,u,w,rfl,hz⟩
  obtain⟨T,rfl⟩:=Ux hi;rw[CP];refine⟨_,rfl,?_⟩;refine Z9 (Zi (d:=.int ((0:Nat):Int)) rfl ?_);have B:∀ q:Nat,Go (Y6 5 (dO We (dV 5) (dO Yi (dV 2) (dO Ua (dO We (dO We (dO V7 (dV 0) (dC (.int 49))) (dO Es (dC (.int 5)) (dV 6))) (dO Es (dC (.int 7)) (dV 7))) (dC (.int 26))))) [.fz (.int (c:Int)),.fz (.int (k:Int)),.fz (.str V4),.fz (.int (n:Int)),.fz (.int (l:Int)),.fz (.str z),.fz (.int (i:Int)),.fz (.int (q:Int))]) (fun e=>∃ (z:Str) (u w:KL),e=[.fz (.int (c:Int)),.fz (.int (k:Int)),.fz (.str V4),.fz (.int (n:Int)),.fz (.int (l:Int)),.fz (.str z),u,w]/\z.length=i+1) (fun d=>∃ z:Str,d=.str z):=fun q=>by
   have hx:=Pf (j:=(((c / 49+5*i+7*q) % 26:Nat):Int)) (by lia) (by lia);refine Zi (Z7 rfl (Z7 rfl (Z7 (Z7 (Z7 (Z7 rfl rfl (Um c 49 (by lia) (by lia))) (Z7 rfl rfl (UB 5 i (by lia))) (Qg _ _)) (Z7 rfl rfl (UB 7 q (by lia))) (Qg _ _)) rfl (Q7 _ 26 (by lia))) hx) (Cs (by show z.length+1<=_;lia))) ?_;exact⟨_,_,_,rfl,by rw[Xh];show _+1=_;lia⟩
  refine Z9 (Q3 (Y4 (Z7 rfl rfl (LS i l))) (fun U=>?_) (fun U=>?_))
  ·exact Zi rfl (B k)
  ·exact Yd (B 0)
 ·rintro e ⟨z,u,w,rfl,hz⟩
  rw[U7] at hz;refine Z9 (Q3 (b:=decide (z∈(NK:C3 Str))) (Y4 (Z7 rfl rfl (YV z NK))) (fun U=>?_) (fun U=>?_))
  ·refine Zi (Z7 (Ei rfl (Ue rfl) rfl (jk z _ _)) rfl (Cs ?_)) (Zt rfl ⟨_,rfl⟩)
   have:=GN z (some 1) none;show(Txt.slice z (some 1) none).length+1<=_;lia
  ·exact Yd (Zt rfl ⟨_,rfl⟩)
theorem gu(ns:C3 Int)(first n:Nat)(hf:first<=1000)(hn:n<=10):∃ ps:C3 Nat,R9 [Ds ns,.int (first:Int),.int (n:Int)]=.ok (.lst (Zc ps))/\NH n ps:=by
 have:=Y3 (n:=8) (p:=3) (ds:=[Ds ns,.int (first:Int),.int (n:Int)]) (g:=Td) (R:=fun d=>∃ ps:C3 Nat,d=.lst (Zc ps)/\NH n ps) rfl ?_
 ·obtain⟨d,e,z,rfl,h⟩:=this
  exact⟨z,e,h⟩
 show Go (Td [.fz (Ds ns),.fz (.int (first:Int)),.fz (.int (n:Int)),.un,.un,.un,.un,.un]) _ _;unfold Td;refine Z9 (Je (ds:=Zc []) rfl ?_);refine Z9 (Te (ds:=rng 0 n) (fun i e=>∃ (ps:C3 Nat) (v4 v5 u w:KL),e=[.fz (Ds ns),.fz (.int (first:Int)),.fz (.int (n:Int)),.ow (Zc ps),v4,v5,u,w]/\NH i ps) (Yv (Z2 rfl rfl) (by lia)) ⟨[],.un,.un,.un,.un,rfl,rfl,fun v=>by simp⟩ ?_ ?_)
 ·rintro i d e hi ⟨ps,v4,v5,u,w,rfl,J⟩
  obtain⟨T,rfl⟩:=Ux hi;rw[CP];refine⟨_,rfl,?_⟩;obtain⟨c,ec,lc⟩:=Im ns (first+i) (by lia);have hl:=J.len;refine Z9 (Zi (Ze (xs:=[Ds ns,.int ((first+i:Nat):Int)]) (Z2 rfl (Z2 (Z7 rfl rfl (Qg _ _)) rfl)) ec) ?_);refine Z9 (Zi (Z7 rfl (Z7 (Ys (Z2 rfl rfl) (Qz ps)) rfl (Qg _ 1)) (Q7 c (ps.length+1) (by lia))) ?_);have ha:c % (ps.length+1)<=ps.length:=by have:=EI c (show 0<ps.length+1 by lia);lia
  generalize c % (ps.length+1)=a at ha;refine Z9 (R5 (ds:=Zc ps) (as:=[.int (a:Int),.int (i:Int)]) rfl rfl (Nm ps a i ha (by lia)) ?_);have aO:=Xv ps a i;have f:=Ka ps a i;generalize ps.take a++i::ps.drop a=qs at aO f;refine Z9 (Zi (Z7 (Z7 rfl rfl (Um c 64 (by lia) (by lia))) (Z7 (Ys (Z2 rfl rfl) (Qz qs)) rfl (br _ a (by lia))) (Q7 (c / 64) (qs.length - a) (by lia))) ?_);have U:c / 64 % (qs.length - a)<qs.length - a:=EI _ (by lia);generalize c / 64 % (qs.length - a)=b at U;refine R5 (ds:=Zc qs) (as:=[.int ((a+1+b:Nat):Int),.int (i:Int)]) rfl (Z2 (Z7 (Z7 rfl rfl (Qg a 1)) rfl (Qg _ b)) (Z2 rfl rfl)) (Nm qs (a+1+b) i (by lia) (by lia)) ?_;have W:=Xv qs (a+1+b) i;have D:=Ka qs (a+1+b) i;refine⟨_,_,_,_,_,rfl,by lia,fun v=>?_⟩;rw[D,f,J.cnt];by_cases h1:i=v
  ·subst h1;rw[AQ (by lia),AG rfl,AG (by lia)]
  ·rw[AQ h1]
   by_cases h2:v<i
   ·rw[AG h2,AG (by lia)]
   ·rw[AQ h2,AQ (by lia)]
 ·rintro e ⟨ps,v4,v5,u,w,rfl,J⟩
  rw[U7] at J;exact Lc rfl ⟨ps,rfl,J⟩
structure KN (n m:Nat) (qs:List (Nat×Nat)):Prop where
 len:qs.length<=m
 lt:∀ q∈qs,q.1<q.2/\q.2<n
theorem KN.app(h:KN n m qs)(h':KN n m' rs):KN n (m+m') (qs++rs):=⟨by rw[AN];have:=h.len;have:=h'.len;lia,fun q hq=>(BQ.mp hq).elim (h.lt q) (h'.lt q)⟩
theorem KN.sub(h:KN n m qs)(s:rs.Sublist qs):KN n m rs:=⟨AZ s.length_le h.len,fun q hq=>h.lt q (s.subset hq)⟩
theorem KN.one(h1:q.1<q.2)(h2:q.2<n):KN n 1 [q]:=⟨AY _,fun p hp=>by rw[AL.mp hp];exact⟨h1,h2⟩⟩
theorem KN.mono(h:KN n m qs)(hm:m<=m'):KN n m' qs:=⟨AZ h.len hm,h.lt⟩
theorem KN.nil(n m:Nat):KN n m []:=⟨DJ _,fun q hq=>by cases hq⟩
theorem f8(ns:C3 Int)(first o size:Nat)(hf:first<=1000)(hm:o<=100)(hs:0<size):∃ qs:C3 (Nat×Nat),Jx [Ds ns,.int (first:Int),.int (o:Int),.int (size:Int)]=.ok (.lst (qs.map Zz))/\KN size o qs:=by
 have:=Y3 (n:=9) (p:=4) (ds:=[Ds ns,.int (first:Int),.int (o:Int),.int (size:Int)]) (g:=Ug) (R:=fun d=>∃ qs:C3 (Nat×Nat),d=.lst (qs.map Zz)/\KN size o qs) rfl ?_
 ·obtain⟨d,e,z,rfl,h⟩:=this
  exact⟨z,e,h⟩
 show Go (Ug [.fz (Ds ns),.fz (.int (first:Int)),.fz (.int (o:Int)),.fz (.int (size:Int)),.un,.un,.un,.un,.un]) _ _;unfold Ug;refine Z9 (Je (ds:=([]:C3 (Nat×Nat)).map Zz) rfl ?_);refine Z9 (Te (ds:=rng 0 o) (fun i e=>∃ (qs:C3 (Nat×Nat)) (v5 u w A:KL),e=[.fz (Ds ns),.fz (.int (first:Int)),.fz (.int (o:Int)),.fz (.int (size:Int)),.ow (qs.map Zz),v5,u,w,A]/\KN size i qs) (Yv (Z2 rfl rfl) (by lia)) ⟨[],.un,.un,.un,.un,rfl,KN.nil _ _⟩ ?_ ?_)
 ·rintro i d e hi ⟨qs,v5,u,w,A,rfl,hq⟩
  obtain⟨T,rfl⟩:=Ux hi;rw[CP];refine⟨_,rfl,?_⟩;obtain⟨c,ec,lc⟩:=Im ns (first+i) (by lia);refine Z9 (Zi (Ze (xs:=[Ds ns,.int ((first+i:Nat):Int)]) (Z2 rfl (Z2 (Z7 rfl rfl (Qg _ _)) rfl)) ec) ?_);refine Z9 (Zi (Z7 rfl rfl (Q7 c size hs)) ?_);refine Z9 (Zi (Z7 (Z7 rfl rfl (Um c 64 (by lia) (by lia))) rfl (Q7 _ size hs)) ?_);have ha:c % size<size:=EI _ hs;have U:c / 64 % size<size:=EI _ hs;generalize c % size=a at ha;generalize c / 64 % size=b at U;obtain⟨z,hz⟩:=Fz (min a b,max a b) qs;have H:∀ env:Ev,env[7]?=some (.fz (.int (a:Int)))->env[8]?=some (.fz (.int (b:Int)))->Wz (Z1 (dF QF (Z1 (dV 7) (Z1 (dV 8) Za))) (Z1 (dF QA (Z1 (dV 7) (Z1 (dV 8) Za))) Za)) env=some (Zz (min a b,max a b)):=fun env h7 h8=>by
   have e7:dV 7 env=some (.int (a:Int)):=by unfold dV;rw[h7]
   have e8:dV 8 env=some (.int (b:Int)):=by unfold dV;rw[h8]
   exact Y8 (Z2 (Ys (Z2 e7 (Z2 e8 rfl)) (mh a b)) (Z2 (Ys (Z2 e7 (Z2 e8 rfl)) (fM a b)) rfl)) (by simp)
  refine Q3 (T4 (Y4 (Z7 rfl rfl (cJ a b))) fun _=>Y4 (Z7 (H _ rfl rfl) rfl hz)) (fun U=>?_) (fun _=>Yd ⟨qs,_,_,_,_,rfl,hq.mono (by lia)⟩);have ac:a≠b:=by
   have:=(DY.mp U).1;simpa using this
  refine R5 (ds:=qs.map Zz) (as:=[Zz (min a b,max a b)]) (ds':=(qs++[(min a b,max a b)]).map Zz) rfl (Z2 (H _ rfl rfl) rfl) (by rw[Qx (by rw[AC];have:=hq.len;lia),BK];rfl) ⟨_,_,_,_,_,rfl,hq.app (KN.one (by show min a b<max a b;lia) (by show max a b<_;lia))⟩
 ·rintro e ⟨qs,v5,u,w,A,rfl,hq⟩
  rw[U7] at hq;exact Lc rfl ⟨qs,rfl,hq⟩
end K72
set_option maxHeartbeats 1000000
variable{one:Nat->Nat}
namespace K72
open PySem PySem.Spec PyProof.Rows L2
theorem lr(p q:Nat×Nat):Ob (Zz p) (Zz q)=decide (p=q):=by
 show(((p.1:Int)==(q.1:Int))&&(((p.2:Int)==(q.2:Int))&&true))=_;rw[DX];simp only[AV,DC,CB,and_true];constructor
 ·rintro⟨h1,h2⟩;exact IB (by lia) (by lia)
 ·rintro rfl;exact⟨rfl,rfl⟩
theorem eS(p q:Nat×Nat):KZ (Zz p) (Zz q)=some (.bl (!decide (p=q))):=by
 unfold KZ;rw[Os,Os,lr];rfl
theorem hJ(ps:C3 Nat)(t:Nat)(h:t<=ps.length):S6 (Zc ps) (some (t:Int)) none=Zc (ps.drop t):=by
 unfold Zc;rw[K4,K4,P7 ps t h]
theorem d9(b:Bool):Sz (.int (if b then 1 else 0)) (.int 0)=some (.bl (!b)):=by cases b<;>rfl
theorem oB(h1:a<2^k)(h2:b<2^k):a ||| b<2^k:=Nat.or_lt_two_pow h1 h2
structure DS (s0:Nat) (rs:List (Nat×Nat)) (ps:List Nat) (code d:Nat) (s:St3):Prop where
 w:ps[d]?=some s.w
 tk:Kp s0 rs (·.2) (·.1) d s.takes
 fl:Kp s0 rs (·.1) (·.2) d s.fills
 up:s.up=!(code.testBit s.w ^^ decide ((ps.take d).count s.w % 2=1))
def U'(G:G3)(n:Nat)(rs:C3 (Nat×Nat)):Prop:=G.wires.length=n/\G.steps.length=2*n/\(∀ q∈rs,q.1<2*n/\q.2<2*n)/\∀ w,w<n->2<=(G.steps.map (·.w)).count w
theorem kP(ns:C3 Int)(first n o:Nat)(hf:first<=900)(L:1<=n)(ap:n<=4)(hm:o<=5):∃ (G:G3) (s0:Nat) (ps:C3 Nat) (rs:C3 (Nat×Nat)),Mx [Ds ns,.int (first:Int),.int (n:Int),.int (o:Int)]=.ok G.d/\RG G n s0 (Qs ps) (Qt ps) rs/\Gb 54 G/\(∀ ws,QX ⟨ws,G.steps,G.marks,G.code⟩)/\U' G n rs:=by
 have:=Y3 (n:=24) (p:=4) (ds:=[Ds ns,.int (first:Int),.int (n:Int),.int (o:Int)]) (g:=Ut) (R:=fun d=>∃ (G:G3) (s0:Nat) (ps:C3 Nat) (rs:C3 (Nat×Nat)),d=G.d/\RG G n s0 (Qs ps) (Qt ps) rs/\Gb 54 G/\(∀ ws,QX ⟨ws,G.steps,G.marks,G.code⟩)/\U' G n rs) rfl ?_
 ·obtain⟨d,e,z,s0,ps,rs,rfl,h⟩:=this
  exact⟨z,s0,ps,rs,e,h⟩
 show Go (Ut [.fz (Ds ns),.fz (.int (first:Int)),.fz (.int (n:Int)),.fz (.int (o:Int)),.un,.un,.un,.un,.un,.un,.un,.un,.un,.un,.un,.un,.un,.un,.un,.un,.un,.un,.un,.un]) _ _;unfold Ut;obtain⟨ps,eo,J⟩:=gu ns first n (by lia) (by lia);have af:=J.len;refine Z9 (Zi (Ze (xs:=[Ds ns,.int (first:Int),.int (n:Int)]) rfl eo) ?_);refine Z9 (Zi (Z7 rfl rfl (UB 2 n (by lia))) ?_);obtain⟨m,P⟩:∃ m:Nat,2*n=m:=⟨_,rfl⟩;rw[P] at af ⊢;obtain⟨c,ec,lc⟩:=Im ns (first+n) (by lia);refine Z9 (Zi (Ze (xs:=[Ds ns,.int ((first+n:Nat):Int)]) (Z2 rfl (Z2 (Z7 rfl rfl (Qg _ _)) rfl)) ec) ?_);obtain⟨qs,eq,hq⟩:=f8 ns (first+n+1) o m (by lia) (by lia) (by lia);refine Z9 (Zi (Ze (xs:=[Ds ns,.int ((first+n+1:Nat):Int),.int (o:Int),.int (m:Int)]) (Z2 rfl (Z2 (Z7 (Z7 rfl rfl (Qg _ _)) rfl (Qg _ 1)) rfl)) eq) ?_);refine Z9 (Go.mono (N:=fun e=>∃ rs:C3 (Nat×Nat),e=[.fz (Ds ns),.fz (.int (first:Int)),.fz (.int (n:Int)),.fz (.int (o:Int)),.fz (.lst (Zc ps)),.fz (.int (m:Int)),.fz (.int (c:Int)),.fz (.lst (rs.map Zz)),.un,.un,.un,.un,.un,.un,.un,.un,.un,.un,.un,.un,.un,.un,.un,.un]/\KN m 12 rs) ?_ ?_ (fun _ h=>h))
 ·refine Q3 (Y4 (Z7 (Z7 rfl rfl (Q7 c 3 (by lia))) rfl (LS _ 0))) (fun _=>?_) (fun _=>Yd ⟨qs,rfl,hq.mono (by lia)⟩)
  obtain⟨ks,hs,O⟩:=Ft (g:=Y7 0) (t:=dB (dO Ss (Wz (Z1 (dV 0) (Z1 (dO We (dV 0) (dC (.int 1))) Za))) (dV 1))) (f:=Wz (Z1 (dV 0) (Z1 (dO We (dV 0) (dC (.int 1))) Za))) (env:=[.un,.fz (.lst (qs.map Zz))]) (fun k:Nat=>Dat.int (k:Int)) (fun k:Nat=>Zz (k,k+1)) (List.range (m - 1)) fun k _=>by
   obtain⟨b,U⟩:=Fz (k,k+1) qs;have H:Wz (Z1 (dV 0) (Z1 (dO We (dV 0) (dC (.int 1))) Za)) [.fz (.int (k:Int)),.fz (.lst (qs.map Zz))]=some (Zz (k,k+1)):=Y8 (Z2 rfl (Z2 (Z7 rfl rfl (Qg k 1)) rfl)) (by simp);exact⟨_,b,rfl,Y4 (Z7 H rfl U),H⟩
  rw[← R1] at O;have hp:KN m 7 (ks.map fun k=>(k,k+1)):=⟨by have:=hs.length_le;rw[BV] at this;rw[AC];lia,fun q hq=>by
   obtain⟨k,Y,rfl⟩:=CZ.mp hq;have:=CF.mp (hs.subset Y);exact⟨by show k<k+1;lia,by show k+1<m;lia⟩⟩
  have aO:=hq.len;have W:=hp.len;rw[AC] at W;refine Zi (Z7 rfl (W0 (Ya (xs:=rng 0 (m - 1)) (Yv (Z2 (Z7 rfl rfl (br m 1 (by lia))) rfl) (by lia)) rfl O)) (Ks (by rw[AC,AC];lia))) ⟨qs++ks.map fun k=>(k,k+1),by rw[BK,DI];rfl,(hq.app hp).mono (by lia)⟩
 rintro e ⟨rs,rfl,Z⟩;clear eq hq qs;refine Z9 (Te (ds:=rng 0 n) (fun i e=>∃ (rs:C3 (Nat×Nat)) (A v9 aw:KL),e=[.fz (Ds ns),.fz (.int (first:Int)),.fz (.int (n:Int)),.fz (.int (o:Int)),.fz (.lst (Zc ps)),.fz (.int (m:Int)),.fz (.int (c:Int)),.fz (.lst (rs.map Zz)),A,v9,aw,.un,.un,.un,.un,.un,.un,.un,.un,.un,.un,.un,.un,.un]/\KN m (12+i) rs/\∀ w,w<i->(Qs ps w,Qt ps w)∈rs) (Yv (Z2 rfl rfl) (by lia)) ⟨rs,.un,.un,.un,rfl,Z,fun w hw=>absurd hw (by lia)⟩ ?_ ?_)
 ·rintro i d e hi ⟨rs,A,v9,aw,rfl,Z,al⟩
  obtain⟨T,rfl⟩:=Ux hi;rw[CP];refine⟨_,rfl,?_⟩;have B:i∈ps:=J.mem.mpr T;have aP:ps.idxOf i<ps.length:=FT B;have h2:=second (J.two T);have ax:Qt ps i=ps.idxOf i+1+(ps.drop (ps.idxOf i+1)).idxOf i:=rfl;have aH:Qs ps i=ps.idxOf i:=rfl;refine Z9 (Zi (YC rfl rfl rfl (Pd ps i B)) ?_);generalize ps.idxOf i=one at aP h2 ax aH;have aI:(ps.drop (one+1)).idxOf i<(ps.drop (one+1)).length:=FT h2;rw[CC] at aI;refine Z9 (Zi (Z7 (Z7 rfl rfl (Qg one 1)) (YC (x:=.lst (Zc (ps.drop (one+1)))) (Ei rfl (Ue (Z7 rfl rfl (Qg one 1))) rfl (by rw[B7,hJ ps _ (by lia)])) rfl rfl (Pd _ i h2)) (Qg _ _)) ?_);generalize (ps.drop (one+1)).idxOf i=x2 at aI ax;have O:=Vq (g:=Y7 0) (t:=dB (dO KZ (dV 0) (Wz (Z1 (dV 1) (Z1 (dV 2) Za))))) (f:=dV 0) (env:=[.un,.fz (.int (one:Int)),.fz (.int ((one+1+x2:Nat):Int))]) Zz Zz (fun q=>!decide (q=(one,one+1+x2))) rs fun q _ =>
   ⟨_,rfl,Y4 (Z7 rfl (Y8 rfl (by simp)) (eS q (one,one+1+x2))),rfl⟩
  have hs:(rs.filter fun q=>!decide (q=(one,one+1+x2))).Sublist rs:=List.filter_sublist;have hl:=hs.length_le;have W:=Z.len;refine Zi (Z7 (W0 (Ya (xs:=rs.map Zz) rfl rfl O)) (W0 (U2 (xs:=[Zz (one,one+1+x2)]) (Z2 (Y8 rfl (by simp)) rfl) (by simp))) (Ks (by rw[AC];show _+1<=_;lia))) ⟨(rs.filter fun q=>!decide (q=(one,one+1+x2)))++[(one,one+1+x2)],_,_,_,by rw[BK];rfl,?_,?_⟩
  ·exact((Z.sub hs).app (KN.one (by show one<one+1+x2;lia) (by show one+1+x2<m;lia))).mono (by lia)
  ·intro w hw
   by_cases e:(Qs ps w,Qt ps w)=(one,one+1+x2)
   ·rw[e];exact BR _ (AL.mpr rfl)
   ·have aC:w<i:=by
     rcases DE w i with h | h
     ·exact h
     ·have:w=i:=by lia
      subst this;exact absurd (IB aH ax) e
    exact BS _ (BP.mpr ⟨al w aC,by rw[AE e];rfl⟩)
 rintro e ⟨rs,A,v9,aw,rfl,Z,al⟩;rw[U7] at Z al;refine Z9 (YL (ds:=Zc ps) rfl ?_);refine Z9 (YL (ds:=Zc ps) rfl ?_);rw[AC,AC,af,gO];refine Z9 (Zi (d:=.int ((0:Nat):Int)) rfl ?_);refine Z9 (Zi (Z7 (Z7 rfl rfl (Um c 3 (by lia) (by lia))) rfl (Q7 _ 20 (by lia))) ?_);have aD:c / 3 % 20<20:=EI _ (by lia);generalize c / 3 % 20=s0 at aD;refine Z9 (Te (ds:=rs.map Zz) (fun i e=>∃ (tk fl:C3 (C3 Nat)) (mk:Nat) (aE aF:KL),e=[.fz (Ds ns),.fz (.int (first:Int)),.fz (.int (n:Int)),.fz (.int (o:Int)),.fz (.lst (Zc ps)),.fz (.int (m:Int)),.fz (.int (c:Int)),.fz (.lst (rs.map Zz)),A,v9,aw,.gx (.nest (tk.map Zc)),.gx (.nest (fl.map Zc)),.fz (.int (mk:Int)),.fz (.int ((s0+2*i:Nat):Int)),aE,aF,.un,.un,.un,.un,.un,.un,.un]/\tk.length=m/\fl.length=m/\LW (2*i) (s0+2*i) tk/\LW (2*i) (s0+2*i) fl/\mk<2^(s0+2*i)/\(∀ l∈tk,l.Nodup)/\(∀ l∈fl,l.Nodup)/\NS s0 (rs.take i) (·.2) (·.1) tk/\NS s0 (rs.take i) (·.1) (·.2) fl/\∀ q,mk.testBit q=true↔∃ t,t<i/\q=s0+2*t+1) rfl ⟨_,_,0,.un,.un,rfl,EF,EF,(LW.nil m).mono (by lia) (by lia),(LW.nil m).mono (by lia) (by lia),HR _,fun l h=>by rw[(FE.mp h).2];exact EQ,fun l h=>by rw[(FE.mp h).2];exact EQ,by rw[JK];exact NS.nil _ _ _ _,by rw[JK];exact NS.nil _ _ _ _,fun q=>by simp⟩ ?_ ?_)
 ·rintro i d e hi ⟨tk,fl,mk,aE,aF,rfl,aQ,aj,ht,I,X,aK,aL,ay,aA,am⟩
  rw[AM] at hi;obtain⟨q,hq,rfl⟩:=map_some hi;have aG:=(AB.mp hq).1;have aR:=Z.lt q (AI hq);have aU:=Z.len;refine⟨_,rfl,?_⟩;have ak:=ht.mono (AY _) (show s0+2*i<=s0+2*i+2 by lia);have az:=I.mono (AY _) (show s0+2*i<=s0+2*i+2 by lia);refine Z9 (Ol rfl az (by lia) (k:=q.1) (by lia) rfl rfl ?_);refine Z9 (Ol rfl ak (by lia) (k:=q.2) (by lia) rfl rfl ?_);have aS:=ak.app q.2 (s0+2*i) (by lia);have aq:=az.app q.1 (s0+2*i) (by lia);refine Z9 (Ol (x:=s0+2*i+1) rfl aq (by lia) (k:=q.2) (by rw[Ry];lia) rfl rfl ?_);refine Z9 (Ol (x:=s0+2*i+1) rfl aS (by lia) (k:=q.1) (by rw[Ry];lia) rfl rfl ?_);have aV:=aS.app q.1 (s0+2*i+1) (by lia);have aW:=aq.app q.2 (s0+2*i+1) (by lia);have aX:=(ht.mono (AY _) (show s0+2*i<=s0+2*i+1 by lia)).app q.2 (s0+2*i) (by lia);have aY:=(I.mono (AY _) (show s0+2*i<=s0+2*i+1 by lia)).app q.1 (s0+2*i) (by lia);have aT:(rs.take i).length=i:=by rw[CJ];lia
  have aJ:rs.take (i+1)=rs.take i++[q]:=by rw[HI,hq];rfl
  refine Z9 (Zi (Z7 rfl (Z7 rfl (Z7 rfl rfl (Qg _ 1)) (QN (s0+2*i+1) (by lia))) (RK mk _)) ?_);refine Zi (Z7 rfl rfl (Qg _ 2)) ⟨_,_,_,_,_,rfl,by rw[Ry,Ry,aQ],by rw[Ry,Ry,aj],aV.mono (by lia) (by lia),aW.mono (by lia) (by lia),?_,?_,?_,?_,?_,?_⟩
  ·exact oB (AU X (CT (by lia) (by lia))) (Nat.pow_lt_pow_right (by lia) (by lia))
  ·exact Cd aX (Cd ht aK _ _ (AY _)) _ _ (AY _)
  ·exact Cd aY (Cd I aL _ _ (AY _)) _ _ (AY _)
  ·have:=ay.app q (by show q.2<_;lia) (by show q.1<_;lia)
   rw[aT] at this;rw[aJ];exact this
  ·have:=aA.app q (by show q.1<_;lia) (by show q.2<_;lia)
   rw[aT] at this;rw[aJ];exact this
  ·intro j
   rw[FI,FJ,am,GD,CB];constructor
   ·rintro(⟨t,h1,h2⟩ | h1)
    ·exact⟨t,by lia,h2⟩
    ·exact⟨i,by lia,h1.symm⟩
   ·rintro⟨t,h1,h2⟩
    rcases DE t i with h | h
    ·exact .inl ⟨t,h,h2⟩
    ·have:t=i:=by lia
     subst this;exact .inr h2.symm
 rintro e ⟨tk,fl,mk,aE,aF,rfl,aQ,aj,ht,I,X,aK,aL,ay,aA,am⟩;rw[AC] at ht I X ay aA am ⊢;rw[CK (AY _)] at ay aA;have aU:=Z.len;have ht:=ht.mono (L':=32) (B':=54) (by lia) (by lia);have I:=I.mono (L':=32) (B':=54) (by lia) (by lia);have X:mk<2^54:=AU X (CT (by lia) (by lia));refine Z9 (Zi (Z7 (Z7 rfl rfl (Um c 60 (by lia) (by lia))) (Z7 rfl rfl (QN n (by lia))) (Q7 _ (2^n) (HR _))) ?_);have aM:c / 60 % 2^n<2^n:=EI _ (HR _);generalize c / 60 % 2^n=code at aM;refine Z9 (Zi rfl ?_);refine Z9 (Je (ds:=([]:C3 St3).map St3.d) rfl ?_);generalize (s0+2*rs.length)=s9;refine Z9 (Te (ds:=Rn 0 (Zc ps)) (fun i e=>∃ (a:C3 St3) (seen:Nat) (A aN:KL),e=[.fz (Ds ns),.fz (.int (first:Int)),.fz (.int (n:Int)),.fz (.int (o:Int)),.fz (.lst (Zc ps)),.fz (.int (m:Int)),.fz (.int (c:Int)),.fz (.lst (rs.map Zz)),A,v9,aw,.gx (.nest (tk.map Zc)),.gx (.nest (fl.map Zc)),.fz (.int (mk:Int)),.fz (.int (s9:Int)),aE,aF,.fz (.int (code:Int)),.fz (.int (seen:Int)),.ow (a.map St3.d),aN,.un,.un,.un]/\a.length=i/\(∀ v,seen.testBit v=(code.testBit v ^^ decide ((ps.take i).count v % 2=1)))/\(∀ j s,a[j]?=some s->DS s0 rs ps code j s)/\∀ s∈a,SB 54 n s) rfl ⟨[],code,A,.un,rfl,rfl,fun v=>by simp,fun j s h=>(by simp at h),by simp⟩ ?_ ?_)
 ·rintro i d e hi ⟨a,seen,A,aN,rfl,ai,ar,D,aB⟩
  obtain⟨x,hx,rfl⟩:=Fj hi;obtain⟨w,hw,rfl⟩:=Ez hx;have aG:=(AB.mp hw).1;have ao:w<n:=J.mem.mp (AI hw);refine⟨_,rfl,?_⟩;have e1:tk[i]?=some tk[i]:=AH (by lia);have e2:fl[i]?=some fl[i]:=AH (by lia);have n1:=ay i;have n2:=aA i;rw[show tk.getD i []=tk[i] by rw[List.getD,e1];rfl] at n1;rw[show fl.getD i []=fl[i] by rw[List.getD,e2];rfl] at n2;generalize Q:tk[i]=tl at e1 n1;generalize hfl':fl[i]=au at e2 n2;have S:=ht.len _ (AI e1);have t2:=ht.lt _ (AI e1);have f1:=I.len _ (AI e2);have f2:=I.lt _ (AI e2);obtain⟨ta,ea,pa⟩:=Le tl (by lia);obtain⟨fa,F,pb⟩:=Le au (by lia);refine Z9 (R5 (ds:=a.map St3.d) (as:=[(⟨w,!(seen.testBit w),ta,fa⟩:St3).d]) (ds':=(a++[(⟨w,!(seen.testBit w),ta,fa⟩:St3)]).map St3.d) rfl (Z2 (Y8 (Z2 rfl (Z2 (Z7 (Z7 (Z7 rfl rfl (VO seen w)) rfl (UP seen w)) rfl (d9 _)) (Z2 (Ys (Z2 (W0 (Ys (Z2 (ZP rfl rfl e1) rfl) ea)) rfl) rfl) (Z2 (Ys (Z2 (W0 (Ys (Z2 (ZP rfl rfl e2) rfl) F)) rfl) rfl) rfl)))) (by simp)) rfl) ?_ ?_)
  ·rw[Qx (by rw[AC];lia),BK];rfl
  ·refine Zi (Z7 rfl (Z7 rfl rfl (QN w (by lia))) (dE seen _)) ⟨_,_,_,_,rfl,by rw[AN,CS,ai],?_,?_,fun s hs=>?_⟩
   ·intro v
    rw[S0,ar,HI,hw];show(code.testBit v ^^ decide ((ps.take i).count v % 2=1) ^^ decide (w=v))=(code.testBit v ^^ decide ((ps.take i++[w]).count v % 2=1));rw[List.count_append,List.count_singleton];by_cases ew:w=v
    ·subst ew
     rw[show(w==w)=true from FA _,AJ rfl,AG rfl];by_cases hp:(ps.take i).count w % 2=1
     ·rw[AJ hp,AE (by lia)];cases code.testBit w<;>rfl
     ·rw[AE hp,AJ (by lia)];cases code.testBit w<;>rfl
    ·rw[show(w==v)=false from BX.mpr ew,AE ew];simp
   ·intro j s hj
    rcases DE j a.length with hl | hl
    ·rw[BG hl] at hj
     exact D j s hj
    ·rw[CM hl] at hj
     have C:j - a.length=0:=by
      rcases DK (j - a.length) with z | z
      ·exact z
      ·rw[HG,AQ (by lia)] at hj;cases hj
     rw[C] at hj;cases hj;have ej:j=i:=by lia
     subst ej;exact⟨hw,n1.perm pa,n2.perm pb,by show(!(seen.testBit w))=_;rw[ar]⟩
   rcases BQ.mp hs with h | h
   ·exact aB s h
   ·rw[AL.mp h]
    exact⟨ao,fun p hp=>t2 p (pa.mem_iff.mp hp),fun p hp=>f2 p (pb.mem_iff.mp hp),pa.nodup_iff.mpr (aK _ (AI e1)),pb.nodup_iff.mpr (aL _ (AI e2))⟩
 rintro e ⟨a,seen,A,aN,rfl,ai,ar,D,aB⟩;rw[Mf,AC,AC] at ai;refine Z9 (Zi (Z7 (Z7 rfl rfl (Um c 2000 (by lia) (by lia))) rfl (Q7 _ m (by lia))) ?_);have aZ:c / 2000 % m<m:=EI _ (by lia);generalize c / 2000 % m=t at aZ;refine Z9 (Je (ds:=(a.drop t++a.take t).map St3.d) (by
  refine Z7 (Ei rfl (Ue rfl) rfl (B7 _ _ _)) (Ei rfl rfl (Ue rfl) (B7 _ _ _)) ?_;rw[K4,K4,P7 a t (by lia),de a t (by lia),ff (by rw[AC,AC,CC,CJ];lia),BK]) ?_)
 refine Z9 (Zi (Z7 rfl rfl (Um c 40000 (by lia) (by lia))) ?_);obtain⟨ws,ew,wl,_⟩:=X2 (g:=Y7 0) (f:=Wz (Z1 (Zr Mm (Z1 (dV 1) (Z1 (dV 0) Za))) (Z1 (dO Yi (dL (Ts (Z1 (dC (.str "given")) (Z1 (dC (.str "made")) Za)))) (dO Ua (dO V7 (Zr Yo (Z1 (dV 2) (Z1 (dO We (dV 3) (dV 0)) Za))) (dC (.int 4096))) (dC (.int 2)))) Za))) (env:=[.un,.fz (.int ((c / 40000:Nat):Int)),.fz (Ds ns),.fz (.int (first:Int))]) Va (fun _=>True) (rng 0 n) fun x hx=>by
  obtain⟨i,hi,rfl⟩:=bd hx;rw[CP];obtain⟨z,ez⟩:=gm (c / 40000) i;obtain⟨r,er,_⟩:=Im ns (first+i) (by lia);have M:=eC (.str "given") (.str "made") (j:=((r / 4096 % 2:Nat):Int)) (by lia) (by lia);refine⟨[.fz (.int (i:Int)),.fz (.int ((c / 40000:Nat):Int)),.fz (Ds ns),.fz (.int (first:Int))],(z,decide (((r / 4096 % 2:Nat):Int)=1)),rfl,?_,trivial⟩;refine JG (Y8 (Z2 (Ze (xs:=[.int ((c / 40000:Nat):Int),.int (i:Int)]) rfl ez) (Z2 (Z7 (x:=.lst [.str "given",.str "made"]) rfl (Z7 (Z7 (Ze (xs:=[Ds ns,.int ((first+i:Nat):Int)]) (Z2 rfl (Z2 (Z7 rfl rfl (Qg _ _)) rfl)) er) rfl (Um r 4096 (by lia) (by lia))) rfl (Q7 _ 2 (by lia))) M) rfl)) (by simp)) ?_;show some (Dat.tup [.str z,if((r / 4096 % 2:Nat):Int)=1 then .str "made" else .str "given"])=some (Dat.tup [.str z,.str (if decide (((r / 4096 % 2:Nat):Int)=1)=true then "made" else "given")]);by_cases U:((r / 4096 % 2:Nat):Int)=1
  ·rw[AG U,AJ U];rfl
  ·rw[AQ U,AE U];rfl
 rw[U7] at wl;refine Z9 (Zi (d:=.lst (ws.map Va)) (W0 (Ya (xs:=rng 0 n) (Yv (Z2 rfl rfl) (by lia)) rfl ew)) ?_);have E:(a.drop t++a.take t).Perm a:=by
  have:=List.perm_append_comm (l₁:=a.drop t) (l₂:=a.take t);rw[EU] at this;exact this
 have ae:=E.length_eq;refine Zt (Y8 (Z2 (Ys (Z2 rfl rfl) rfl) (Z2 (Ys (Z2 rfl rfl) rfl) rfl)) (by simp)) ⟨⟨ws,a.drop t++a.take t,mk,code⟩,s0,ps,rs,rfl,?_,?_,?_,wl,by show(a.drop t++a.take t).length=2*n;lia,fun q hq=>⟨by have:=Z.lt q hq;lia,by have:=(Z.lt q hq).2;lia⟩,fun w hw=>?_⟩
 ·exact {
   ne:=fun q hq=>by have:=(Z.lt q hq).1;lia
   ring:=al
   inj:=fun w v hw hv h=>J.inj w v hw hv h
   mks:=am
   st:=fun s hs=>by
    obtain⟨d,hd⟩:=EJ (E.mem_iff.mp hs);have q:=D d s hd;have ao:=(aB s (E.mem_iff.mp hs)).w;have u:=(AB.mp hd).1;refine⟨d,ao,by lia,q.tk,q.fl,?_⟩;have hu:=q.up;rcases VC q.w (J.two ao) with⟨h1,h2⟩ | ⟨h1,h2⟩
    ·exact .inl ⟨h2,by rw[hu,h1];show(!(code.testBit s.w ^^ decide (0 % 2=1)))=(!code.testBit s.w);simp⟩
    ·exact .inr ⟨h2,by rw[hu,h1];show(!(code.testBit s.w ^^ decide (1 % 2=1)))=code.testBit s.w;simp⟩ }
 ·exact { w2:=by show ws.length<=10;lia,s1:=by show 1<=(a.drop t++a.take t).length;lia,s2:=by show(a.drop t++a.take t).length<=24;lia,st:=fun s hs=>by show SB 54 ws.length s;rw[wl];exact aB s (E.mem_iff.mp hs),mks:=X }
 ·intro a0
  have aa:((List.range m).drop t++(List.range m).take t).Nodup:=by
   have hp:((List.range m).drop t++(List.range m).take t).Perm (List.range m):=by
    have:=List.perm_append_comm (l₁:=(List.range m).drop t) (l₂:=(List.range m).take t);rw[EU] at this;exact this
   exact hp.nodup_iff.mpr HA
  refine fo (n:=n) (s0:=s0) (one:=Qs ps) (two:=Qt ps) (rs:=rs) _ aa fun i s hi=>?_
  have ag:∀ d:Nat,a[d]?=some s->PP (⟨a0,a.drop t++a.take t,mk,code⟩:G3) s0 (Qs ps) (Qt ps) rs n d s:=fun d hd=>by
   have q:=D d s hd;have ao:=(aB s (AI hd)).w;have u:=(AB.mp hd).1;refine⟨ao,by lia,q.tk,q.fl,?_⟩;have hu:=q.up;rcases VC q.w (J.two ao) with⟨h1,h2⟩ | ⟨h1,h2⟩
   ·exact .inl ⟨h2,by rw[hu,h1];show(!(code.testBit s.w ^^ decide (0 % 2=1)))=(!code.testBit s.w);simp⟩
   ·exact .inr ⟨h2,by rw[hu,h1];show(!(code.testBit s.w ^^ decide (1 % 2=1)))=code.testBit s.w;simp⟩
  have y:(a.drop t++a.take t)[i]?=some s:=hi;rcases DE i (m - t) with h | h
  ·rw[BG (by rw[CC];lia),HF] at y
   refine⟨t+i,?_,ag _ y⟩;rw[BG (by rw[CC,BV];lia),HF,ES (by lia)]
  ·rw[CM (by rw[CC];lia),CC,List.getElem?_take] at y
   split at y
   ·rename_i ah
    refine⟨i - (a.length - t),?_,ag _ y⟩;have e9:i - (m - t)=i - (a.length - t):=by lia
    rw[CM (by rw[CC,BV];lia),CC,BV,List.getElem?_take,e9,AG ah,ES (by lia)]
   ·cases y
 ·have ac:a.map (·.w)=ps:=by
   refine IL fun d=>?_
   rw[AM];cases hd:a[d]? with
   | none =>
    have h1:=GE.mp hd;rw[GE.mpr (by lia)];rfl
   | some s=>rw[(D d s hd).w];rfl
  show 2<=((a.drop t++a.take t).map (·.w)).count w;rw[(E.map _).count_eq,ac,J.cnt,AG hw];exact AY _
variable{r:Rw}{b:Bool}
theorem Xx(a b:C3 Nat):Zc a++Zc b=Zc (a++b):=by unfold Zc;rw[BK,BK]
theorem Ko(f:α->Dat)(xs:C3 α):Vb [.lst (xs.map f)]=some (.int ((xs.length:Nat):Int)):=by
 show some (Dat.int ((xs.map f).length:Int))=_;rw[AC]
theorem Mc(G:G3)(k:Nat)(s:St3)(h:G.steps[k]?=some s):Wa [G.d,.int (k:Int)]=.ok (.tup (Zc s.takes)):=by
 refine W9 (Y3 (n:=2) (p:=2) (ds:=[G.d,.int (k:Int)]) (g:=Jo) (R:=fun d=>d=.tup (Zc s.takes)) rfl ?_);show Go (Jo [.fz G.d,.fz (.int (k:Int))]) _ _;unfold Jo;exact Zt (Z7 (Z7 (Z7 rfl rfl rfl) rfl (E3 (x:=s.d) (by rw[AM,h];rfl))) rfl rfl) rfl
theorem M6(ps:C3 Nat)(hp:∀ p∈ps,p<=1000):Qk [.tup (Zc ps)]=.ok (.int (JV ps:Int)):=by
 refine W9 (Y3 (n:=3) (p:=1) (ds:=[.tup (Zc ps)]) (g:=Lo) (R:=fun d=>d=.int (JV ps:Int)) rfl ?_);show Go (Lo [.fz (.tup (Zc ps)),.un,.un]) _ _;unfold Lo;refine Z9 (Zi (d:=.int 0) rfl ?_);refine Z9 (Te (ds:=Zc ps) (fun i e=>∃ (z:Int) (v:KL),e=[.fz (.tup (Zc ps)),.fz (.int z),v]/\z=(((ps.take i).foldl (fun a p=>a ||| 2^p) 0:Nat):Int)) rfl ⟨0,.un,rfl,rfl⟩ ?_ ?_)
 ·rintro i x e hi ⟨z,v,rfl,rfl⟩
  obtain⟨p,hq,rfl⟩:=Ez hi;have ah:=hp p (AI hq);refine⟨_,rfl,?_⟩;refine Zi (d:=.int ((((ps.take (i+1)).foldl (fun a p=>a ||| 2^p) 0:Nat)):Int)) (Z7 rfl (Z7 rfl rfl (QN p ah)) ?_) ⟨_,_,rfl,rfl⟩;rw[RK,HI,hq,List.foldl_append];rfl
 ·rintro e ⟨z,v,rfl,rfl⟩
  refine Zt rfl ?_;rw[AC,AC,CK (AY _)];rfl
theorem Li(G:G3)(k:Nat)(s:St3)(h:G.steps[k]?=some s):Ui [G.d,.int (k:Int)]=.ok (.int (s.w:Int)):=by
 refine W9 (Y3 (n:=2) (p:=2) (ds:=[G.d,.int (k:Int)]) (g:=Rf) (R:=fun d=>d=.int (s.w:Int)) rfl ?_);show Go (Rf [.fz G.d,.fz (.int (k:Int))]) _ _;unfold Rf;exact Zt (Z7 (Z7 (Z7 rfl rfl rfl) rfl (E3 (x:=s.d) (by rw[AM,h];rfl))) rfl rfl) rfl
theorem ZC(G:G3)(k:Nat)(s:St3)(h:G.steps[k]?=some s):Hd [G.d,.int (k:Int)]=.ok (.bl s.up):=by
 refine W9 (Y3 (n:=2) (p:=2) (ds:=[G.d,.int (k:Int)]) (g:=Ra) (R:=fun d=>d=.bl s.up) rfl ?_);show Go (Ra [.fz G.d,.fz (.int (k:Int))]) _ _;unfold Ra;exact Zt (Z7 (Z7 (Z7 rfl rfl rfl) rfl (E3 (x:=s.d) (by rw[AM,h];rfl))) rfl rfl) rfl
theorem Lb(G:G3)(k:Nat)(s:St3)(h:G.steps[k]?=some s):Ur [G.d,.int (k:Int)]=.ok (.tup (Zc s.fills)):=by
 refine W9 (Y3 (n:=2) (p:=2) (ds:=[G.d,.int (k:Int)]) (g:=Jl) (R:=fun d=>d=.tup (Zc s.fills)) rfl ?_);show Go (Jl [.fz G.d,.fz (.int (k:Int))]) _ _;unfold Jl;exact Zt (Z7 (Z7 (Z7 rfl rfl rfl) rfl (E3 (x:=s.d) (by rw[AM,h];rfl))) rfl rfl) rfl
theorem UZ(n p:Nat):Jf [.int (n:Int),.int (p:Int)]=.ok (.bl (n.testBit p)):=by
 refine W9 (Y3 (n:=2) (p:=2) (ds:=[.int (n:Int),.int (p:Int)]) (g:=Rc) (R:=fun d=>d=.bl (n.testBit p)) rfl ?_);show Go (Rc [.fz (.int (n:Int)),.fz (.int (p:Int))]) _ _;unfold Rc;exact Zt (Z7 (Z7 (Z7 rfl rfl (VO n p)) rfl (UP n p)) rfl (cQ _)) rfl
theorem US(a:Nat):KZ (.int (a:Int)) (.int 0)=some (.bl (!(a==0))):=by
 rw[YU];congr 3
 rw[DX,DC,DC];lia
theorem b6(G:G3)(hG:Gb 64 G)(m:Nat)(cd:Dat)(k:Nat)(s:St3)(h:G.steps[k]?=some s):Nz [G.d,.tup [.int (m:Int),cd],.int (k:Int)]=.ok (.bl (Qw s m)):=by
 refine W9 (Y3 (n:=4) (p:=3) (ds:=[G.d,.tup [.int (m:Int),cd],.int (k:Int)]) (g:=Fu) (R:=fun d=>d=.bl (Qw s m)) rfl ?_);show Go (Fu [.fz G.d,.fz (.tup [.int (m:Int),cd]),.fz (.int (k:Int)),.un]) _ _;unfold Fu;have hs:=hG.st s (AI h);refine Z9 (Zi (Ze (xs:=[.tup (Zc s.takes)]) (Z2 (Ze (xs:=[G.d,.int (k:Int)]) rfl (Mc G k s h)) rfl) (M6 s.takes fun p hp=>by have:=hs.t p hp;lia)) ?_);exact Zt (Z7 (Z7 (Z7 rfl rfl rfl) rfl (SZ m _)) rfl (LS _ _)) rfl
structure KU (s:St3) (p:Nat×Nat):Prop where
 can:Qw s p.1=true
 lev:p.2.testBit s.w≠s.up
 room:∀ q∈s.fills,p.1.testBit q=true->q∈s.takes
theorem kq(G:G3)(hG:Gb 64 G)(p:Nat×Nat)(k:Nat)(s:St3)(h:G.steps[k]?=some s)(hf:KU s p):Er [G.d,Zz p,.int (k:Int)]=.ok (Zz (Tg s p)):=by
 have hs:=hG.st s (AI h);have C:=hG.w2;have l:=hs.w;refine W9 (Y3 (n:=6) (p:=3) (ds:=[G.d,Zz p,.int (k:Int)]) (g:=Qj) (R:=fun d=>d=Zz (Tg s p)) rfl ?_);show Go (Qj [.fz G.d,.fz (Zz p),.fz (.int (k:Int)),.un,.un,.un]) _ _;unfold Qj;refine Z9 (Zi (Ze (xs:=[G.d,.int (k:Int)]) rfl (Li G k s h)) ?_);refine Z9 (To (Y4 (Z7 (Ze (xs:=[.int (p.2:Int),.int (s.w:Int)]) (Z2 (Z7 rfl rfl rfl) rfl) (UZ p.2 s.w)) (Ze (xs:=[G.d,.int (k:Int)]) rfl (ZC G k s h)) (by rw[VL,show(p.2.testBit s.w==s.up)=false by simpa using hf.lev]))) (Yd ?_));obtain⟨i,N,a⟩:=Ij p.1 (JV s.takes);refine Z9 (Zi (d:=.int (i:Int)) (Z7 (Z7 rfl rfl rfl) (VM (Ze (xs:=[.tup (Zc s.takes)]) (Z2 (Ze (xs:=[G.d,.int (k:Int)]) rfl (Mc G k s h)) rfl) (M6 s.takes fun p hp=>by have:=hs.t p hp;lia)) (z:=.int (-(JV s.takes:Int) - 1)) rfl) (by show some (Dat.int (Builtin.bitAnd _ _))=_;rw[N])) ?_);refine Z9 (Zi (d:=.int (JV s.fills:Int)) (Ze (xs:=[.tup (Zc s.fills)]) (Z2 (Ze (xs:=[G.d,.int (k:Int)]) rfl (Lb G k s h)) rfl) (M6 s.fills fun p hp=>by have:=hs.f p hp;lia)) ?_);have hz:i &&& JV s.fills=0:=CU fun j=>by
  rw[DG,a,V1,V1,GH];by_cases h1:j∈s.fills
  ·by_cases h2:p.1.testBit j=true
   ·rw[AJ (hf.room j h1 h2)];simp
   ·have:p.1.testBit j=false:=by simpa using h2
    rw[this];rfl
  ·rw[AE h1,Bool.and_false]
 refine Z9 (To (Y4 (Z7 (Z7 rfl rfl (SZ i _)) rfl (by rw[hz];exact US 0))) (Yd ?_));have em:i ||| JV s.fills=(Tg s p).1:=CU fun j=>by rw[FI,a,V1,V1,SU]
 refine Zt (Y8 (xs:=[.int ((Tg s p).1:Int),.int ((Tg s p).2:Int)]) (Z2 (Z7 rfl rfl (by rw[RK,em])) (Z2 (Z7 (Z7 rfl rfl rfl) (Z7 rfl rfl (QN s.w (by lia))) (dE p.2 _)) rfl)) (by simp)) rfl
theorem Am(r:Rw):Ce r.d none (some 2)=some (Zz r.st):=rfl
theorem O1(G:G3)(hG:Gb 64 G)(p:Nat×Nat):Ju [G.d,Zz p]=.ok (.lst (Zc (N2 G p.1))):=by
 refine W9 (Y3 (n:=2) (p:=2) (ds:=[G.d,Zz p]) (g:=Jj) (R:=fun d=>d=.lst (Zc (N2 G p.1))) rfl ?_);show Go (Jj [.fz G.d,.fz (Zz p)]) _ _;unfold Jj;have y:=hG.s2;have O:=Vq (g:=Y7 0) (t:=dT (Zr Nz (Z1 (dV 1) (Z1 (dV 2) (Z1 (dV 0) Za))))) (f:=dV 0) (env:=[.un,.fz G.d,.fz (Zz p)]) (fun k:Nat=>Dat.int (k:Int)) (fun k:Nat=>Dat.int (k:Int)) (Bj G p.1) (List.range G.steps.length) fun k Y=>by
  have a:=CF.mp Y;have e:G.steps[k]?=some G.steps[k]:=AH a;refine⟨[.fz (.int (k:Int)),.fz G.d,.fz (Zz p)],rfl,?_,rfl⟩;have:Bj G p.1 k=Qw G.steps[k] p.1:=by unfold Bj;rw[e]
  rw[this];exact Us (Ze (xs:=[G.d,.tup [.int (p.1:Int),.int (p.2:Int)],.int (k:Int)]) rfl (b6 G hG p.1 _ k _ e))
 rw[← R1] at O;refine Zt (W0 (Ya (xs:=rng 0 G.steps.length) (Yv (Z2 (Ys (Z2 (x:=.tup (G.steps.map St3.d)) (Z7 rfl rfl rfl) rfl) (by show some (Dat.int ((G.steps.map St3.d).length:Int))=_;rw[AC])) rfl) (by lia)) rfl O)) ?_;rw[Ym];rfl
theorem Gb.up(h:Gb 54 G):Gb 64 G:=⟨h.w2,h.s1,h.s2,fun s hs=>⟨(h.st s hs).w,fun p hp=>by have:=(h.st s hs).t p hp;lia,fun p hp=>by have:=(h.st s hs).f p hp;lia,(h.st s hs).tn,(h.st s hs).fn⟩,AU h.mks (CT (by lia) (by lia))⟩
def bq(G:G3):Rw:=⟨G.marks,G.code,none⟩
theorem Ar(B:ac.length<=400)(t:LJ G I ac)(n:Nat)(hn:n<ac.length):Eg [.lst (ac.map Rw.d),.int (n:Int)]=.ok (.lst (Zc (S8 ac n))):=by
 refine W9 (Y3 (n:=4) (p:=2) (ds:=[.lst (ac.map Rw.d),.int (n:Int)]) (g:=Fw) (R:=fun d=>d=.lst (Zc (S8 ac n))) rfl ?_);show Go (Fw [.fz (.lst (ac.map Rw.d)),.fz (.int (n:Int)),.un,.un]) _ _;unfold Fw;refine Z9 (Je (ds:=Zc []) rfl ?_);refine Z9 (Zi rfl ?_);refine Z9 (oE (fun m e=>∃ (l:Nat) (ks:C3 Nat),e=[.fz (.lst (ac.map Rw.d)),.fz (.int (n:Int)),.ow (Zc ks),.fz (.int (l:Int))]/\m=l/\l<ac.length/\S8 ac n=S8 ac l++ks.reverse/\ks.length+l<=n) (n:=n) ⟨n,[],rfl,rfl,hn,by simp,by simp⟩ ?_);rintro m e ⟨l,ks,rfl,rfl,hl,hw,Y⟩;obtain⟨r,Z⟩:∃ r,ac[m]?=some r:=⟨_,AH hl⟩;have y:Yi (.lst (ac.map Rw.d)) (.int (m:Int))=some r.d:=Yl (by rw[AM,Z];rfl);rcases DK m with z | z
 ·left
  have hs:=(gp t Z).mpr z;subst z;refine⟨Y4 (Z7 (x:=.non) (Z7 (Z7 rfl rfl y) rfl (by show some (match r.src with | none=>Dat.non | some p=>.int (p.1:Int))=_;rw[hs])) rfl rfl),?_⟩;rw[bb,List.nil_append] at hw;refine Zt (W0 (kM (xs:=Zc ks) (Z2 rfl rfl))) ?_;rw[hw];unfold Zc;rw[List.map_reverse,List.map_reverse]
 ·right
  obtain⟨f,k,s,c,a1,a2,a3,a4,a5,a6⟩:=t.src m r Z z;have a:Yi r.d (.int 2)=some (.int (f:Int)):=by show some (match r.src with | none=>Dat.non | some p=>.int (p.1:Int))=_;rw[a1]
  have b:Yi r.d (.int 3)=some (.int (k:Int)):=by show some (match r.src with | none=>Dat.non | some p=>.int (p.2:Int))=_;rw[a1]
  refine⟨Y4 (Z7 (x:=.int (f:Int)) (Z7 (Z7 rfl rfl y) rfl a) rfl rfl),?_⟩;refine Z9 (R5 (ds:=Zc ks) (as:=[.int (k:Int)]) (ds':=Zc (ks++[k])) rfl (Z2 (Z7 (Z7 rfl rfl y) rfl b) rfl) (by rw[Qx (by unfold Zc;rw[AC,AC];lia),← Xx];rfl) ?_);refine Zi (Z7 (Z7 rfl rfl y) rfl a) ⟨f,a2,f,ks++[k],rfl,rfl,by lia,?_,by rw[AN,CS];lia⟩;rw[hw,ZT t Z a1 z,List.reverse_append];simp
theorem Hh(t:LJ G I ac):∀ n,n<ac.length->(S8 ac n).length<=n/\∀ k∈S8 ac n,k<G.steps.length:=by
 intro m;induction m using strongRecOn with
 | _ m ih =>
  intro hm;rcases DK m with z | z
  ·subst z;rw[bb];exact⟨AY _,by simp⟩
  ·obtain⟨r',o⟩:∃ r,ac[m]?=some r:=⟨_,AH hm⟩
   obtain⟨f,k,s,c,a1,a2,a3,_,_,_⟩:=t.src m r' o z;obtain⟨h1,h2⟩:=ih f a2 (by lia);rw[ZT t o a1 z,AN,CS];refine⟨by lia,fun x hx=>?_⟩;rcases BQ.mp hx with q | q
   ·exact h2 x q
   ·rw[AL.mp q];exact(AB.mp a3).1
def D4(ks:C3 Nat):C3 Int:=ks.map fun k:Nat=>(k:Int)
theorem Dp(h1:ks.length<=500)(h2:∀ k∈ks,k<1000):Qd (D4 ks)=true:=by
 unfold Qd D4;rw[AC,AJ h1,GA,DF];intro n hn;obtain⟨k,Y,rfl⟩:=CZ.mp hn;have:=h2 k Y;rw[AJ (by lia),AJ (by lia)];rfl
theorem Fy(l:C3 Nat):Mp (Zc l)=some (D4 l):=Gi (D4 l)
def PD(ks:C3 Nat):C3 (Str×XD):=[("way",.nums (D4 ks))]
theorem cq(h1:ks.length<=500)(h2:∀ k∈ks,k<1000):gW "way" [.lst (Zc ks)]=some (PD ks):=by
 unfold gW;dsimp only;rw[Fy];dsimp only[Option.bind];rw[AG (Dp h1 h2)];rfl
def T'(c:Str):Prop:=c="Broken" \/ c="Crowded"
theorem jf(G:G3)(hG:Gb 64 G)(p:Nat×Nat)(k:Nat)(s:St3)(h:G.steps[k]?=some s)(O:Qw s p.1=true)(hf:¬ KU s p):∃ c,T' c/\Er [G.d,Zz p,.int (k:Int)]=.exc c (PD [k]):=by
 have hs:=hG.st s (AI h);have C:=hG.w2;have l:=hs.w;have Y:=(AB.mp h).1;have y:=hG.s2;have b:gW "way" [.lst (Zc [k])]=some (PD [k]):=cq (by simp) fun q hq=>by rw[AL.mp hq];lia
 have:=Ha (n:=6) (p:=3) (ds:=[G.d,Zz p,.int (k:Int)]) (g:=Qj) (R:=fun _=>False) (E:=fun c fl=>T' c/\fl=PD [k]) rfl ?_
 ·rcases this with⟨d,_,z⟩ | ⟨c,fl,e,h1,h2⟩
  ·exact z.elim
  ·exact⟨c,h1,by rw[← h2];exact e⟩
 show KI (Qj [.fz G.d,.fz (Zz p),.fz (.int (k:Int)),.un,.un,.un]) _ _ _ _;unfold Qj;refine Tj (Zi (Ze (xs:=[G.d,.int (k:Int)]) rfl (Li G k s h)) ?_);refine Vy (Ga (Y4 (Z7 (Ze (xs:=[.int (p.2:Int),.int (s.w:Int)]) (Z2 (Z7 rfl rfl rfl) rfl) (UZ p.2 s.w)) (Ze (xs:=[G.d,.int (k:Int)]) rfl (ZC G k s h)) (VL _ _))) (fun _=>Jg (ds:=[.lst (Zc [k])]) (Z2 (W0 (U2 (Z2 rfl rfl) (by simp))) rfl) b ⟨.inl rfl,rfl⟩) (fun U=>(Yd ?_:Go _ _ _).toE));have j:p.2.testBit s.w≠s.up:=by simpa using U
 obtain⟨i,N,a⟩:=Ij p.1 (JV s.takes);refine Tj (Zi (d:=.int (i:Int)) (Z7 (Z7 rfl rfl rfl) (VM (Ze (xs:=[.tup (Zc s.takes)]) (Z2 (Ze (xs:=[G.d,.int (k:Int)]) rfl (Mc G k s h)) rfl) (M6 s.takes fun p hp=>by have:=hs.t p hp;lia)) (z:=.int (-(JV s.takes:Int) - 1)) rfl) (by show some (Dat.int (Builtin.bitAnd _ _))=_;rw[N])) ?_);refine Tj (Zi (d:=.int (JV s.fills:Int)) (Ze (xs:=[.tup (Zc s.fills)]) (Z2 (Ze (xs:=[G.d,.int (k:Int)]) rfl (Lb G k s h)) rfl) (M6 s.fills fun p hp=>by have:=hs.f p hp;lia)) ?_);refine Vy (Ga (Y4 (Z7 (Z7 rfl rfl (SZ i _)) rfl (US _))) (fun _=>Jg (ds:=[.lst (Zc [k])]) (Z2 (W0 (U2 (Z2 rfl rfl) (by simp))) rfl) b ⟨.inr rfl,rfl⟩) (fun H=>?_));exfalso;refine hf ⟨O,j,fun q h1 h2=>?_⟩;have hz:i &&& JV s.fills=0:=by simpa using H
 have:=CV (Nat.testBit · q) hz;simp only[DG,a,V1,GH,h2,GA,AJ h1,Bool.and_true] at this;simpa using this
theorem Z'(Z:ac[n]?=some r):(Z1 (dV 0) (Z1 (dS Ce (dO Yi (dV 1) (dV 2)) Rv (Qr (dC (.int 2)))) (Z1 (dV 3) Za))) [.fz G.d,.fz (.lst (ac.map Rw.d)),.fz (.int (n:Int)),.fz (.int (k:Int))]=some [G.d,Zz r.st,.int (k:Int)] :=
 Z2 rfl (Z2 (Ei (Z7 rfl rfl (Yl (x:=r.d) (by rw[AM,Z];rfl))) rfl (Ue rfl) (Am r)) rfl)
theorem jq(G:G3)(hG:Gb 64 G)(ac:C3 Rw)(n k:Nat)(r:Rw)(s:St3)(Z:ac[n]?=some r)(h:G.steps[k]?=some s)(hf:KU s r.st):Dh [G.d,.lst (ac.map Rw.d),.int (n:Int),.int (k:Int)]=.ok (Zz (Tg s r.st)):=by
 show(match Jb [.fz G.d,.fz (.lst (ac.map Rw.d)),.fz (.int (n:Int)),.fz (.int (k:Int))] with | .ret d=>Rs.ok d | .next _=>.ok .non | .exc _ c fs=>.exc c fs | _=>.no)=_;unfold Jb SG Nt;rw[Z' Z];dsimp only;rw[kq G hG r.st k s h hf]
theorem kt(hG:Gb 64 G)(t:LJ G I ac)(B:ac.length<=400)(Z:ac[n]?=some r)(h:G.steps[k]?=some s)(O:Qw s r.m=true)(hf:¬ KU s r.st):∃ c,T' c/\Dh [G.d,.lst (ac.map Rw.d),.int (n:Int),.int (k:Int)]=.exc c (PD (S8 ac n++[k])):=by
 obtain⟨c,L,F⟩:=jf G hG r.st k s h O hf;have Y:=(AB.mp h).1;have hn:=(AB.mp Z).1;have y:=hG.s2;obtain⟨w1,w2⟩:=Hh t n hn;have b:gW "way" [.lst (Zc (S8 ac n++[k]))]=some (PD (S8 ac n++[k])):=cq (by rw[AN,CS];lia) fun q hq=>by
  rcases BQ.mp hq with z | z
  ·have:=w2 q z;lia
  ·rw[AL.mp z];lia
 have ha:(Z1 (dL (dO Oh (Zr Eg (Z1 (dV 1) (Z1 (dV 2) Za))) (dL (Ts (Z1 (dV 3) Za))))) Za) [.fz G.d,.fz (.lst (ac.map Rw.d)),.fz (.int (n:Int)),.fz (.int (k:Int))]=some [.lst (Zc (S8 ac n++[k]))]:=by
  refine Z2 (W0 (ds:=Zc (S8 ac n++[k])) ?_) rfl;unfold dO;rw[Ze (xs:=[.lst (ac.map Rw.d),.int (n:Int)]) rfl (Ar B t n hn),W0 (U2 (xs:=[.int (k:Int)]) (Z2 rfl rfl) (by simp))];have hl:(Zc (S8 ac n)).length=(S8 ac n).length:=by unfold Zc;rw[AC,AC]
  show Oh (.lst (Zc (S8 ac n))) (.lst (Zc [k]))=_;rw[← Xx];unfold Oh;exact AG (by rw[hl];have:(Zc [k]).length=1:=rfl;rw[DV];lia)
 refine⟨c,L,?_⟩;show(match Jb [.fz G.d,.fz (.lst (ac.map Rw.d)),.fz (.int (n:Int)),.fz (.int (k:Int))] with | .ret d=>Rs.ok d | .next _=>.ok .non | .exc _ c fs=>.exc c fs | _=>.no)=_;unfold Jb SG Nt;rw[Z' Z];dsimp only;rw[F];dsimp only;have Z:∀ c,U1 c (gW "way") (Z1 (dL (dO Oh (Zr Eg (Z1 (dV 1) (Z1 (dV 2) Za))) (dL (Ts (Z1 (dV 3) Za))))) Za) [.fz G.d,.fz (.lst (ac.map Rw.d)),.fz (.int (n:Int)),.fz (.int (k:Int))]=.exc [.fz G.d,.fz (.lst (ac.map Rw.d)),.fz (.int (n:Int)),.fz (.int (k:Int))] c (PD (S8 ac n++[k])):=fun c=>by
  unfold U1;rw[ha];dsimp only[Option.bind];rw[b]
 rcases L with rfl | rfl
 ·rw[AG (by decide),AG rfl,Z]
  rfl
 ·rw[AG (by decide),AQ (by decide),AG rfl,Z]
  rfl
abbrev TT(G:G3)(ac:C3 Rw):Prop:=LJ G (fun _=>True) ac
theorem ho(G:G3):TT G [bq G] where
 zero:=rfl
 inv:=fun _ _=>trivial
 nd:=DB.mpr ⟨by simp,EQ⟩
 src:=fun i r e h0=>by
  rw[HG,AQ (by lia)] at e;cases e
theorem cT(t:TT G ac){f:Nat}{c:Rw}(hf:ac[f]?=some c)(hs:G.steps[k]?=some s)(O:Qw s c.m=true)(hn:Tg s c.st∉ac.map Rw.st):TT G (ac++[⟨(Tg s c.st).1,(Tg s c.st).2,some (f,k)⟩]) where
 zero:=by
  have:=t.zero;have hl:=(AB.mp this).1;rw[BG hl];exact this
 inv:=fun _ _=>trivial
 nd:=by
  rw[BK];refine HK.mpr ⟨t.nd,DB.mpr ⟨by simp,EQ⟩,fun a ha b U=>?_⟩;have F:b=Tg s c.st:=AL.mp U;rw[F];intro e;exact hn (e▸ha)
 src:=fun i r e h0=>by
  rcases DE i ac.length with hl | hl
  ·rw[BG hl] at e
   obtain⟨f',k',s',d,a1,a2,a3,a4,a5,a6⟩:=t.src i r e h0;exact⟨f',k',s',d,a1,a2,a3,by rw[BG (by lia)];exact a4,a5,a6⟩
  ·rw[CM hl] at e
   have aj:=(AB.mp hf).1;have C:i - ac.length=0:=by
    rcases DK (i - ac.length) with z | z
    ·exact z
    ·rw[HG,AQ (by lia)] at e;cases e
   rw[C] at e;cases e;exact⟨f,k,s,c,rfl,by lia,hs,by rw[BG aj];exact hf,O,rfl⟩
theorem b8{a b:C3 Rw}(h:a <+: b)(hp:p∈a.map Rw.st):p∈b.map Rw.st:=by
 obtain⟨r,h1,h2⟩:=CZ.mp hp;exact CZ.mpr ⟨r,h.subset h1,h2⟩
def WH(G:G3)(r:Rw):Prop:=∀ (k:Nat) (s:St3),G.steps[k]?=some s->Qw s r.m=true->KU s r.st
def UW(G:G3)(ac:C3 Rw)(r:Rw):Prop:=∀ (k:Nat) (s:St3),G.steps[k]?=some s->Qw s r.m=true->Tg s r.st∈ac.map Rw.st
structure KP (G:G3) (most:Nat) (ac:List Rw):Prop where
 t:TT G ac
 le:ac.length<=most
 ok:∀ r∈ac,WH G r
 cl:∀ r∈ac,UW G ac r
def cX(G:G3)(most:Nat)(c:Str):Prop:=(c="TooMany" /\ ∃ ac,TT G ac/\most<ac.length)\/(T' c/\∃ (ac:C3 Rw) (r:Rw) (k:Nat) (s:St3),TT G ac/\r∈ac/\G.steps[k]?=some s/\Qw s r.m=true/\¬ KU s r.st)
theorem Cr{i:Nat}(e:fs env=some ds)(h:F ds=.ok d):Kx i F fs env=.next (env.set i (.fz d)):=by unfold Kx;rw[e];dsimp only;rw[h]
theorem X4{i:Nat}(e:fs env=some ds)(h:F ds=.exc c fl):Kx i F fs env=.exc env c fl:=by unfold Kx;rw[e];dsimp only;rw[h]
theorem ly(h:F ds=.ok d)(hp:RU d=true):Lf F ds=.ok d:=by unfold Lf;rw[h];exact AG hp
theorem iW(h:F ds=.exc c fl):Lf F ds=.exc c fl:=by unfold Lf;rw[h]
theorem Pl(hG:Gb 64 G)(most:Nat)(D:1<=most)(A:most<=400):(∃ d,Rq [G.d,.int (most:Int)]=.ok d/\∃ ac,d=.lst (ac.map Rw.d)/\KP G most ac)\/∃ c fl,Rq [G.d,.int (most:Int)]=.exc c fl/\cX G most c:=by
 refine Ha (n:=8) (p:=2) (ds:=[G.d,.int (most:Int)]) (g:=D7) (R:=fun d=>∃ ac,d=.lst (ac.map Rw.d)/\KP G most ac) (E:=fun c _=>cX G most c) rfl ?_;show KI (D7 [.fz G.d,.fz (.int (most:Int)),.un,.un,.un,.un,.un,.un]) _ _ _ _;unfold D7;refine Tj (Je (ds:=[bq G].map Rw.d) (U2 (Z2 (Y8 (Z2 (Z7 rfl rfl rfl) (Z2 (Z7 rfl rfl rfl) rfl)) (by simp)) rfl) (by simp)) ?_);refine Tj (dW (q:=(G.marks,G.code)) (Y8 (Z2 (Z7 rfl rfl rfl) (Z2 (Z7 rfl rfl rfl) rfl)) (by simp)) rfl ?_);refine Tj (Zi (d:=.int ((0:Nat):Int)) rfl ?_);refine Vy (gA (fun m e=>∃ (ac:C3 Rw) (l:Nat) (v5 u w:KL),e=[.fz G.d,.fz (.int (most:Int)),.ow (ac.map Rw.d),.gx (.dict (L6 (ac.map Rw.st))),.fz (.int (l:Int)),v5,u,w]/\TT G ac/\l<=ac.length/\m+l=400/\ac.length<=most/\∀ i r,i<l->ac[i]?=some r->WH G r/\UW G ac r) (n:=400) ⟨_,0,.un,.un,.un,rfl,ho G,by lia,rfl,D,fun i r h=>by lia⟩ ?_);rintro m e ⟨ac,l,v5,u,w,rfl,t,I,hm,J,hok⟩;have ae:dF Vb (Z1 (dP 2) Za) [.fz G.d,.fz (.int (most:Int)),.ow (ac.map Rw.d),.gx (.dict (L6 (ac.map Rw.st))),.fz (.int (l:Int)),v5,u,w]=some (.int (ac.length:Int)):=Ys (Z2 rfl rfl) (Ko Rw.d ac);rcases DE l ac.length with hl | hl
 ·right
  obtain⟨r,Z⟩:∃ r,ac[l]?=some r:=⟨_,AH hl⟩;have y:Yi (.lst (ac.map Rw.d)) (.int (l:Int))=some r.d:=Yl (by rw[AM,Z];rfl);refine⟨Y4 (Z7 rfl ae (by show some (Dat.bl (decide ((l:Int)<(ac.length:Int))))=_;rw[AJ (by lia)])),?_⟩;refine Tj (Zi (Ze (xs:=[G.d,Zz r.st]) (Z2 rfl (Z2 (Ei (Z7 rfl rfl y) rfl (Ue rfl) (Am r)) rfl)) (O1 G hG r.st)) ?_);obtain⟨ks,X⟩:∃ ks:C3 Nat,N2 G r.st.1=ks:=⟨_,rfl⟩;have S:N2 G r.m=ks:=X;have al:∀ k∈ks,Bj G r.m k=true:=fun k Y=>by rw[← S] at Y;exact l' Y
  rw[X];refine Vy (Aj (ds:=Zc ks) (fun i e=>∃ (j:C3 Rw) (u w:KL),e=[.fz G.d,.fz (.int (most:Int)),.ow (j.map Rw.d),.gx (.dict (L6 (j.map Rw.st))),.fz (.int (l:Int)),.fz (.lst (Zc ks)),u,w]/\TT G j/\ac <+: j/\j.length<=most/\∀ k∈ks.take i,∀ s,G.steps[k]?=some s->KU s r.st/\Tg s r.st∈j.map Rw.st) rfl ⟨ac,u,w,rfl,t,List.prefix_rfl,J,fun k Y=>by simp at Y⟩ ?_ ?_)
  ·rintro i d e hi ⟨j,u,w,rfl,M,v,W,am⟩
   obtain⟨k,Y,rfl⟩:=Ez hi;have aa:=al k (AI Y);obtain⟨s,hs,x⟩:=ed aa;have Q:ks.take (i+1)=ks.take i++[k]:=by rw[HI,Y];rfl
   have o:=Ak v Z;have B:j.length<=400:=by lia
   refine⟨_,rfl,?_⟩;by_cases hf:KU s r.st
   case neg =>
    obtain⟨c,L,ec⟩:=kt hG M B o hs x hf;refine Vy ⟨?_⟩;rw[X4 (ds:=[G.d,.lst (j.map Rw.d),.int (l:Int),.int (k:Int)]) rfl (iW ec)];exact .inr ⟨L,j,r,k,s,M,AI o,hs,x,hf⟩
   have T:∀ P:C3 Rw,j <+: P->Tg s r.st∈P.map Rw.st->∀ k'∈ks.take (i+1),∀ s,G.steps[k']?=some s->KU s r.st/\Tg s r.st∈P.map Rw.st:=fun P aN ai k' C s' F=>by
    rw[Q] at C;rcases BQ.mp C with z | z
    ·obtain⟨a1,a2⟩:=am k' z s' F
     exact⟨a1,b8 aN a2⟩
    ·rw[AL.mp z,hs] at F;cases F;exact⟨hf,ai⟩
   refine Vy ⟨?_⟩;rw[Cr (d:=Zz (Tg s r.st)) (ds:=[G.d,.lst (j.map Rw.d),.int (l:Int),.int (k:Int)]) rfl (ly (jq G hG j l k r s o hs hf) rfl)];refine Vy (Ga (Y4 (j1 (ps:=j.map Rw.st) (q:=Tg s r.st) rfl rfl)) (fun U=>?_) (fun U=>?_))
   ·exact⟨⟨j,.fz (.int (k:Int)),.fz (Zz (Tg s r.st)),rfl,M,v,W,T j List.prefix_rfl (BF U)⟩⟩
   have N:Tg s r.st∉j.map Rw.st:=IG U;refine(Yd ?_:Go _ _ _).toE;refine Vy (Ga (b:=decide ((most:Int)<=(j.length:Int))) (Y4 (Z7 (Ys (Z2 rfl rfl) (Ko Rw.d j)) rfl rfl)) (fun H=>?_) (fun H=>(Yd ?_:Go _ _ _).toE))
   ·have:=BF H
    exact Jg (ds:=[]) rfl rfl (.inl ⟨rfl,_,cT M o hs x N,by rw[AN,CS];lia⟩)
   have ah:=IG H;refine Tj (j9 (ps:=j.map Rw.st) (q:=Tg s r.st) rfl rfl rfl N (by rw[AC];lia) ?_);refine(R5 (ds:=j.map Rw.d) (as:=[(⟨(Tg s r.st).1,(Tg s r.st).2,some (l,k)⟩:Rw).d]) (ds':=(j++[(⟨(Tg s r.st).1,(Tg s r.st).2,some (l,k)⟩:Rw)]).map Rw.d) rfl (Z2 (Y8 (Z2 (Z7 rfl rfl rfl) (Z2 (Z7 rfl rfl rfl) rfl)) (by simp)) rfl) (by rw[Qx (by rw[AC];lia),BK];rfl) ?_).toE;refine⟨j++[⟨(Tg s r.st).1,(Tg s r.st).2,some (l,k)⟩],.fz (.int (k:Int)),.fz (Zz (Tg s r.st)),?_,cT M o hs x N,v.trans (List.prefix_append _ _),by rw[AN,CS];lia,T _ (List.prefix_append _ _) (by rw[BK];exact BR _ (AL.mpr rfl))⟩;rw[BK (f:=Rw.st)];rfl
  ·rintro e ⟨j,u,w,rfl,M,v,W,am⟩
   have ao:(Zc ks).length=ks.length:=by unfold Zc;rw[AC,AC]
   rw[ao,CK (AY _)] at am;have af:=v.length_le;refine(jj rfl rfl ⟨m - 1,by lia,j,l+1,_,_,_,rfl,M,by lia,by lia,W,fun i r' hi aj=>?_⟩:Go _ _ _).toE;rcases DE i l with ah | hge
   ·obtain⟨r3,ak⟩:∃ r3,ac[i]?=some r3:=⟨_,AH (by lia)⟩
    have:=Ak v ak;rw[aj] at this;cases this;obtain⟨b1,b2⟩:=hok i _ ah ak;exact⟨b1,fun k s a b=>b8 v (b2 k s a b)⟩
   ·have:i=l:=by lia
    subst this;have:=Ak v Z;rw[aj] at this;cases this;have Y:∀ (k:Nat) (s:St3),G.steps[k]?=some s->Qw s r.m=true->k∈ks:=fun k s hs O=>by
     rw[← S];unfold N2;refine BP.mpr ⟨CF.mpr (AB.mp hs).1,?_⟩;unfold Bj;rw[hs];exact O
    exact⟨fun k s hs O=>(am k (Y k s hs O) s hs).1,fun k s hs O=>(am k (Y k s hs O) s hs).2⟩
 ·left
  refine⟨Y4 (Z7 rfl ae (by show some (Dat.bl (decide ((l:Int)<(ac.length:Int))))=_;rw[AE (by lia)])),?_⟩;have ag:∀ r∈ac,WH G r/\UW G ac r:=fun r Z=>by
   obtain⟨i,hi,rfl⟩:=FM Z;exact hok i _ (by lia) (AH hi)
  exact(Lc rfl ⟨ac,rfl,t,J,fun r Z=>(ag r Z).1,fun r Z=>(ag r Z).2⟩:Go _ _ _).toE
def QE(b c:St3):Bool:=b.takes.any fun q=>!decide (q∈b.fills)&&decide (q∈c.takes)
theorem cu{b c:St3}:QE b c=true↔∃ q,q∈b.takes/\q∉b.fills/\q∈c.takes:=by
 unfold QE;rw[DU];constructor
 ·rintro⟨q,h1,h2⟩
  simp only[AV,FK,GV,CB] at h2;exact⟨q,h1,h2⟩
 ·rintro⟨q,h1,h2⟩
  refine⟨q,h1,?_⟩;simp only[AV,FK,GV,CB];exact h2
theorem nb(G:G3)(hG:Gb 64 G)(i j:Nat)(b c:St3)(hi:G.steps[i]?=some b)(hj:G.steps[j]?=some c):Cw [G.d,.int (i:Int),.int (j:Int)]=.ok (.bl (QE b c)):=by
 have e:=hG.st b (AI hi);have h:=hG.st c (AI hj);refine W9 (Y3 (n:=4) (p:=3) (ds:=[G.d,.int (i:Int),.int (j:Int)]) (g:=N4) (R:=fun d=>d=.bl (QE b c)) rfl ?_);show Go (N4 [.fz G.d,.fz (.int (i:Int)),.fz (.int (j:Int)),.un]) _ _;unfold N4;obtain⟨kp,N,a⟩:=Ij (JV b.takes) (JV b.fills);refine Z9 (Zi (d:=.int (kp:Int)) (Z7 (Ze (xs:=[.tup (Zc b.takes)]) (Z2 (Ze (xs:=[G.d,.int (i:Int)]) rfl (Mc G i b hi)) rfl) (M6 b.takes fun p hp=>by have:=e.t p hp;lia)) (VM (Ze (xs:=[.tup (Zc b.fills)]) (Z2 (Ze (xs:=[G.d,.int (i:Int)]) rfl (Lb G i b hi)) rfl) (M6 b.fills fun p hp=>by have:=e.f p hp;lia)) (z:=.int (-(JV b.fills:Int) - 1)) rfl) (by show some (Dat.int (Builtin.bitAnd _ _))=_;rw[N])) ?_);refine Zt (Z7 (Z7 rfl (Ze (xs:=[.tup (Zc c.takes)]) (Z2 (Ze (xs:=[G.d,.int (j:Int)]) rfl (Mc G j c hj)) rfl) (M6 c.takes fun p hp=>by have:=h.t p hp;lia)) (SZ kp _)) rfl (US _)) ?_;congr 1
 apply DX.mpr;rw[cu];constructor
 ·intro U
  have ac:kp &&& JV c.takes≠0:=by simpa using U
  obtain⟨q,hq⟩:=Nat.exists_testBit_of_ne_zero ac;rw[DG,a,V1,V1,V1] at hq;simp only[AV,CB,FK,GV] at hq;exact⟨q,hq.1.1,hq.1.2,hq.2⟩
 ·rintro⟨q,h1,h2,h3⟩
  have:kp &&& JV c.takes≠0:=fun z=>by
   have:=CV (Nat.testBit · q) z;simp only[DG,a,V1,GH,AJ h1,AE h2,AJ h3] at this;cases this
  simpa using this
theorem XM(h:G.wires[w]?=some u):Yi (.tup (G.wires.map Va)) (.int (w:Int))=some (Va u):=E3 (by rw[AM,h];rfl)
theorem Dr(G:G3)(w:Nat)(u:Str×Bool)(h:G.wires[w]?=some u):Vw [G.d,.int (w:Int)]=.ok (.bl u.2):=by
 refine W9 (Y3 (n:=2) (p:=2) (ds:=[G.d,.int (w:Int)]) (g:=Re) (R:=fun d=>d=.bl u.2) rfl ?_);show Go (Re [.fz G.d,.fz (.int (w:Int))]) _ _;unfold Re;exact Zt (Z7 (Z7 (Z7 (Z7 rfl rfl rfl) rfl (XM h)) rfl rfl) rfl (ZA _)) rfl
theorem cC(h:G.wires[s.w]?=some u):Eh G s=u.2:=by unfold Eh;rw[h]
theorem Bm{g:Zzu}{a:Bool}(h1:f env=some (.bl a))(h2:g env=some (.bl b)):NR f g env=some (.bl (a||b)):=by
 unfold NR dB;rw[h1];cases a with
 | true=>rfl
 | false=>exact h2
theorem lO(G:G3)(hG:Gb 64 G)(i j:Nat)(b c:St3)(hi:G.steps[i]?=some b)(hj:G.steps[j]?=some c):Qb [G.d,.int (i:Int),.int (j:Int)]=.ok (.bl (Eh G b||Eh G c)):=by
 have e:=(hG.st b (AI hi)).w;have h:=(hG.st c (AI hj)).w;have a:G.wires[b.w]?=some G.wires[b.w]:=AH e;have ej:G.wires[c.w]?=some G.wires[c.w]:=AH h;refine W9 (Y3 (n:=3) (p:=3) (ds:=[G.d,.int (i:Int),.int (j:Int)]) (g:=Vt) (R:=fun d=>d=.bl (Eh G b||Eh G c)) rfl ?_);show Go (Vt [.fz G.d,.fz (.int (i:Int)),.fz (.int (j:Int))]) _ _;unfold Vt;rw[cC a,cC ej];exact Zt (Bm (Ze (xs:=[G.d,.int (b.w:Int)]) (Z2 rfl (Z2 (Ze (xs:=[G.d,.int (i:Int)]) rfl (Li G i b hi)) rfl)) (Dr G b.w _ a)) (Ze (xs:=[G.d,.int (c.w:Int)]) (Z2 rfl (Z2 (Ze (xs:=[G.d,.int (j:Int)]) rfl (Li G j c hj)) rfl)) (Dr G c.w _ ej))) rfl
def Ep(G:G3)(p:Nat×Nat):Bool:=match G.steps[p.1]?,G.steps[p.2]? with
 | some b,some c=>!(p.1==p.2)&&((Eh G b||Eh G c)&&QE b c)
 | _,_=>false
def Fa(n i:Nat):C3 (Nat×Nat):=(List.range n).map fun j=>(i,j)
def Q'(n:Nat):C3 (Nat×Nat):=(List.range n).flatMap (Fa n)
theorem ei(n i:Nat):(Fa n i).length=n:=by unfold Fa;rw[AC,BV]
theorem cV(n:Nat):∀ m,((List.range m).flatMap (Fa n)).length=m*n
 | 0=>by simp
 | m+1=>by rw[IQ,List.flatMap_append,AN,cV n m];simp[ei,Nat.succ_mul]
theorem jJ(G:G3)(hG:Gb 64 G):Iv [G.d]=.ok (.lst (((Q' G.steps.length).filter (Ep G)).map Zz)):=by
 refine W9 (Y3 (n:=4) (p:=1) (ds:=[G.d]) (g:=D3) (R:=fun d=>d=.lst (((Q' G.steps.length).filter (Ep G)).map Zz)) rfl ?_);show Go (D3 [.fz G.d,.un,.un,.un]) _ _;unfold D3;have y:=hG.s2;have ae:∀ e:Ev,e[0]?=some (.fz G.d)->dF Vb (Z1 (dO Yi (dV 0) (dC (.int 1))) Za) e=some (.int ((G.steps.length:Nat):Int)):=fun e he=>Ys (Z2 (x:=.tup (G.steps.map St3.d)) (Z7 (x:=G.d) (by unfold dV;rw[he]) rfl rfl) rfl) (by show some (Dat.int ((G.steps.map St3.d).length:Int))=_;rw[AC])
 refine Z9 (Je (ds:=[]) rfl ?_);refine Z9 (Te (ds:=rng 0 G.steps.length) (fun i e=>∃ v2 v3:KL,e=[.fz G.d,.ow ((((List.range i).flatMap (Fa G.steps.length)).filter (Ep G)).map Zz),v2,v3]) (Yv (Z2 (ae _ rfl) rfl) (by lia)) ⟨.un,.un,rfl⟩ ?_ ?_)
 ·rintro i d e hi ⟨v2,v3,rfl⟩
  obtain⟨T,rfl⟩:=Ux hi;rw[CP];refine⟨_,rfl,?_⟩;obtain⟨b,f⟩:∃ s,G.steps[i]?=some s:=⟨_,AH T⟩;refine Te (ds:=rng 0 G.steps.length) (fun j e=>∃ v3:KL,e=[.fz G.d,.ow ((((List.range i).flatMap (Fa G.steps.length)++(List.range j).map fun a=>(i,a)).filter (Ep G)).map Zz),.fz (.int (i:Int)),v3]) (Yv (Z2 (ae _ rfl) rfl) (by lia)) ⟨v3,by simp⟩ ?_ ?_
  ·rintro j d e hj ⟨v3,rfl⟩
   obtain⟨M,rfl⟩:=Ux hj;rw[CP];refine⟨_,rfl,?_⟩;obtain⟨c,k⟩:∃ s,G.steps[j]?=some s:=⟨_,AH M⟩;have l:Ep G (i,j)=(!(i==j)&&((Eh G b||Eh G c)&&QE b c)):=by unfold Ep;rw[f,k]
   have m:((List.range i).flatMap (Fa G.steps.length)++(List.range (j+1)).map fun a=>(i,a)).filter (Ep G)=((List.range i).flatMap (Fa G.steps.length)++(List.range j).map fun a=>(i,a)).filter (Ep G)++(if Ep G (i,j)=true then[(i,j)] else[]):=by
    rw[IQ,BK,← List.append_assoc,List.filter_append];congr 1
    show List.filter (Ep G) [(i,j)]=_;cases h:Ep G (i,j)<;>simp[h]
   refine Q3 (T4 (Y4 (Z7 rfl rfl (cJ i j))) fun _=>T4 (Us (Ze (xs:=[G.d,.int (i:Int),.int (j:Int)]) rfl (lO G hG i j b c f k))) fun _=>Us (Ze (xs:=[G.d,.int (i:Int),.int (j:Int)]) rfl (nb G hG i j b c f k))) (fun hq=>?_) (fun hq=>Yd ⟨.fz (.int (j:Int)),?_⟩)
   ·rw[← l] at hq
    rw[m,AG hq];have B:(((List.range i).flatMap (Fa G.steps.length)++(List.range j).map fun a=>(i,a)).filter (Ep G)).length<=1000:=by
     refine AZ (EV _ _) ?_;rw[AN,cV,AC,BV];have:i*G.steps.length<=24*24:=Nat.mul_le_mul (by lia) y;lia
    refine R5 (as:=[Zz (i,j)]) rfl (Z2 (Y8 (Z2 rfl (Z2 rfl rfl)) (by simp)) rfl) (Qx (by rw[AC];exact B)) ⟨.fz (.int (j:Int)),?_⟩;rw[BK];rfl
   ·rw[← l] at hq
    rw[m,AQ (by rw[hq];decide),FF];rfl
  ·rintro e ⟨v3,rfl⟩
   refine⟨.fz (.int (i:Int)),v3,?_⟩;rw[U7,IQ,List.flatMap_append];simp[Fa]
 ·rintro e ⟨v2,v3,rfl⟩
  refine Lc rfl ?_;rw[U7];rfl
def TH(G:G3)(m:Nat)(p:Nat×Nat):Bool:=decide (p.1∈N2 G m)&&decide (p.2∈N2 G m)
def Rr(G:G3)(m:Nat):C2 (Nat×Nat):=((Q' G.steps.length).filter (Ep G)).find? (TH G m)
def VI(ks:C3 Nat)(a b:Nat):C3 (Str×XD):=[("way",.nums (D4 ks)),("lost",.int (a:Int)),("by",.int (b:Int))]
theorem d7(ks:C3 Nat)(a b:Nat)(h:Qd (D4 ks)=true)(ha:a<1000)(U:b<1000):gC "way" "lost" "by" [.lst (Zc ks),.int (a:Int),.int (b:Int)]=some (VI ks a b):=by
 unfold gC;dsimp only;rw[Fy];dsimp only[Option.bind];have hs:∀ w:Nat,w<1000->Dy (w:Int)=true:=fun w hw=>by unfold Dy;rw[AJ (by lia),AJ (by lia)];rfl
 rw[AG (by rw[h,hs a ha,hs b U];rfl)];rfl
theorem Y'(p:Nat)(ps:C3 Nat):F0 (.int (p:Int)) (.lst (Zc ps))=some (.bl (decide (p∈ps))):=by unfold F0;rw[Cm];rfl
theorem fB{i:Nat}(h:(qs.map L2.Zz)[i]?=some d):∃ p,qs[i]?=some p/\d=L2.Zz p:=by
 rw[AM] at h;obtain⟨p,h1,h2⟩:=map_some h;exact⟨p,h1,h2.symm⟩
theorem Fv(hG:Gb 64 G)(hm:most<=400)(es:Rq [G.d,.int (most:Int)]=.ok (.lst (ac.map Rw.d)))(W:KP G most ac) :
  (∃ d,V5 [G.d,.int (most:Int)]=.ok d/\d=.lst (ac.map Rw.d)/\∀ r∈ac,Rr G r.m=none)\/∃ c fl,V5 [G.d,.int (most:Int)]=.exc c fl/\c="CalledOff" /\ ∃ n r p,ac[n]?=some r/\(∀ (i:Nat) (r':Rw),i<n->ac[i]?=some r'->Rr G r'.m=none)/\Rr G r.m=some p/\fl=VI (S8 ac n) p.2 p.1:=by
 have B:=W.le;have y:=hG.s2;refine Ha (n:=9) (p:=2) (ds:=[G.d,.int (most:Int)]) (g:=Sm) (R:=fun d=>d=.lst (ac.map Rw.d)/\∀ r∈ac,Rr G r.m=none) (E:=fun c fl=>c="CalledOff" /\ ∃ n r p,ac[n]?=some r/\(∀ (i:Nat) (r':Rw),i<n->ac[i]?=some r'->Rr G r'.m=none)/\Rr G r.m=some p/\fl=VI (S8 ac n) p.2 p.1) rfl ?_;show KI (Sm [.fz G.d,.fz (.int (most:Int)),.un,.un,.un,.un,.un,.un,.un]) _ _ _ _;unfold Sm;refine Vy ⟨?_⟩;rw[Cr (d:=.lst (ac.map Rw.d)) (ds:=[G.d,.int (most:Int)]) rfl es];refine Tj (Zi (Ze (xs:=[G.d]) rfl (jJ G hG)) ?_);obtain⟨qs,f⟩:∃ qs,(Q' G.steps.length).filter (Ep G)=qs:=⟨_,rfl⟩;have ag:∀ m,Rr G m=qs.find? (TH G m):=fun m=>by unfold Rr;rw[f]
 rw[f];have aR:∀ p∈qs,p.1<24/\p.2<24:=fun p hp=>by
  rw[← f] at hp;have:=(BP.mp hp).2;unfold Ep at this;cases e1:G.steps[p.1]? with
  | none=>rw[e1] at this;cases this
  | some s1 =>
   cases e2:G.steps[p.2]? with
   | none=>rw[e1,e2] at this;cases this
   | some s2=>have:=(AB.mp e1).1;have:=(AB.mp e2).1;lia
 refine Vy (Aj (ds:=Rn 0 (ac.map Rw.d)) (fun i e=>∃ v4 v5 u w A:KL,e=[.fz G.d,.fz (.int (most:Int)),.fz (.lst (ac.map Rw.d)),.fz (.lst (qs.map Zz)),v4,v5,u,w,A]/\∀ (j:Nat) (r':Rw),j<i->ac[j]?=some r'->Rr G r'.m=none) (cp rfl) ⟨.un,.un,.un,.un,.un,rfl,fun j r' h=>by lia⟩ ?_ ?_)
 ·rintro n d e hn ⟨v4,v5,u,w,A,rfl,a⟩
  obtain⟨x,hx,rfl⟩:=Fj hn;rw[AM] at hx;obtain⟨r,Z,rfl⟩:=map_some hx;have l:=(AB.mp Z).1;refine⟨[.fz G.d,.fz (.int (most:Int)),.fz (.lst (ac.map Rw.d)),.fz (.lst (qs.map Zz)),.fz (.int (n:Int)),.fz r.d,u,w,A],rfl,?_⟩;refine Tj (Zi (Ze (xs:=[G.d,Zz r.st]) (Z2 rfl (Z2 (Ei rfl rfl (Ue rfl) (Am r)) rfl)) (O1 G hG r.st)) ?_);have N:N2 G r.st.1=N2 G r.m:=rfl;rw[N];obtain⟨ks,X⟩:∃ ks,N2 G r.m=ks:=⟨_,rfl⟩;refine Aj (ds:=qs.map Zz) (fun i e=>∃ w A:KL,e=[.fz G.d,.fz (.int (most:Int)),.fz (.lst (ac.map Rw.d)),.fz (.lst (qs.map Zz)),.fz (.int (n:Int)),.fz r.d,.fz (.lst (Zc (N2 G r.m))),w,A]/\(qs.take i).find? (TH G r.m)=none) rfl ⟨w,A,rfl,by simp⟩ ?_ ?_
  ·rintro i d e hi ⟨w,A,rfl,I⟩
   obtain⟨p,hp,rfl⟩:=fB hi;refine⟨[.fz G.d,.fz (.int (most:Int)),.fz (.lst (ac.map Rw.d)),.fz (.lst (qs.map Zz)),.fz (.int (n:Int)),.fz r.d,.fz (.lst (Zc (N2 G r.m))),.fz (.int (p.1:Int)),.fz (.int (p.2:Int))],rfl,?_⟩;have Q:qs.take (i+1)=qs.take i++[p]:=by rw[HI,hp];rfl
   refine Ga (b:=TH G r.m p) (T4 (Y4 (Z7 rfl rfl (Y' p.1 _))) fun _=>Y4 (Z7 rfl rfl (Y' p.2 _))) (fun U=>?_) (fun U=>(Yd ⟨_,_,rfl,?_⟩:Go _ _ _).toE)
   ·obtain⟨w1,w2⟩:=Hh W.t n l
    obtain⟨l1,l2⟩:=aR p (AI hp);refine Jg (ds:=[.lst (Zc (S8 ac n)),.int (p.2:Int),.int (p.1:Int)]) (Z2 (Ze (xs:=[.lst (ac.map Rw.d),.int (n:Int)]) rfl (Ar (by lia) W.t n l)) rfl) (d7 _ p.2 p.1 (Dp (by lia) fun k Y=>by have:=w2 k Y;lia) (by lia) (by lia)) ⟨rfl,n,r,p,Z,a,?_,rfl⟩;rw[ag,← EU i qs,List.find?_append,I];have:qs.drop i=p::qs.drop (i+1):=by
     have aG:=(AB.mp hp);rw[DH aG.1,aG.2]
    rw[this,FG,U];rfl
   ·rw[Q,List.find?_append,I,FG,U]
    rfl
  ·rintro e ⟨w,A,rfl,I⟩
   refine⟨_,_,_,_,_,rfl,fun j r' hj o=>?_⟩;rcases DE j n with z | z
   ·exact a j r' z o
   ·have:j=n:=by lia
    subst this;rw[Z] at o;cases o;rw[AC,CK (AY _)] at I;rw[ag];exact I
 ·rintro e ⟨v4,v5,u,w,A,rfl,a⟩
  rw[Mf,AC] at a;refine(Zt rfl ⟨rfl,fun r Z=>?_⟩:Go _ _ _).toE;obtain⟨i,hi,rfl⟩:=FM Z;exact a i _ hi (AH hi)
variable{b:Nat}
theorem VA(a b:Int):KZ (.int a) (.int b)=some (.bl (!(a==b))):=by unfold KZ Ob;rfl
def Tc(p:α->Bool):Nat->C3 α->C3 Nat
 | _,[]=>[]
 | k,x::xs=>if p x=true then k::Tc p (k+1) xs else Tc p (k+1) xs
theorem Xz{g:Dat->Ev->C2 Ev}(D:α->Dat)(p:α->Bool):∀ (xs:C3 α) (k:Nat),(∀ x∈xs,∀ n:Nat,∃ e1,g (.tup [.int (n:Int),D x]) env=some e1/\t e1=some (p x)/\f e1=some (.int (n:Int)))->W6 g t f env (Rn k (xs.map D))=some (Zc (Tc p k xs))
 | [],_,_=>rfl
 | x::xs,k,h=>by
  obtain⟨e1,a1,a2,a3⟩:=h x AW k;have ih:=Xz D p xs (k+1) fun z hz=>h z (AX _ hz)
  rw[BY,Rn,W6,a1];dsimp only[Option.bind];rw[a2];dsimp only;rw[Tc];cases hp:p x with
  | true=>rw[AG rfl,a3];dsimp only;rw[ih,AG rfl];rfl
  | false=>rw[AQ (by decide),ih,AQ (by decide)]
theorem R7(p:α->Bool):∀ (xs:C3 α) (k j:Nat),j∈Tc p k xs↔∃ i x,j=k+i/\xs[i]?=some x/\p x=true
 | [],k,j=>by simp[Tc]
 | x::xs,k,j=>by
  rw[Tc];have ih:=R7 p xs (k+1) j;have ag:(j∈Tc p (k+1) xs)↔∃ i y,j=k+(i+1)/\(x::xs)[i+1]?=some y/\p y=true:=by
   rw[ih];constructor
   ·rintro⟨i,y,h1,h2,h3⟩;exact⟨i,y,by lia,by simpa using h2,h3⟩
   ·rintro⟨i,y,h1,h2,h3⟩;exact⟨i,y,by lia,by simpa using h2,h3⟩
  constructor
  ·intro h
   split at h
   ·rename_i hp
    rcases BI.mp h with e | e
    ·exact⟨0,x,by lia,rfl,hp⟩
    ·obtain⟨i,y,h1,h2,h3⟩:=ag.mp e;exact⟨i+1,y,h1,h2,h3⟩
   ·obtain⟨i,y,h1,h2,h3⟩:=ag.mp h;exact⟨i+1,y,h1,h2,h3⟩
  ·rintro⟨i,y,h1,h2,h3⟩
   cases i with
   | zero =>
    have:x=y:=by simpa using h2
    subst this;rw[AG h3];exact BI.mpr (.inl (by lia))
   | succ i =>
    have:=ag.mpr ⟨i,y,h1,h2,h3⟩;split
    ·exact AX _ this
    ·exact this
def OY(w:Nat)(up:Bool)(s:St3):Bool:=(s.w==w)&&(s.up==up)
theorem mZ(G:G3)(w:Nat)(up:Bool):E5 [G.d,.int (w:Int),.bl up]=.ok (.lst (Zc (Tc (OY w up) 0 G.steps))):=by
 refine W9 (Y3 (n:=3) (p:=3) (ds:=[G.d,.int (w:Int),.bl up]) (g:=Ja) (R:=fun d=>d=.lst (Zc (Tc (OY w up) 0 G.steps))) rfl ?_);show Go (Ja [.fz G.d,.fz (.int (w:Int)),.fz (.bl up)]) _ _;unfold Ja;exact Zt (W0 (Ya (xs:=Rn 0 (G.steps.map St3.d)) (env':=[.un,.un,.fz (.int (w:Int)),.fz (.bl up)]) (cB (Z7 rfl rfl rfl)) rfl (Xz St3.d (OY w up) G.steps 0 fun s _ n=>⟨[.fz (.int (n:Int)),.fz s.d,.fz (.int (w:Int)),.fz (.bl up)],rfl,T4 (Y4 (Z7 (Z7 rfl rfl rfl) rfl (LS s.w w))) fun _=>Y4 (Z7 (Z7 rfl rfl rfl) rfl (VL s.up up)),rfl⟩))) rfl
def R8(G:G3)(m w:Nat)(up:Bool):Bool:=G.steps.any fun s=>OY w up s&&Qw s m
theorem Kd(G:G3)(hG:Gb 64 G)(m:Nat)(cd:Dat)(w:Nat)(up:Bool):Mb [G.d,.tup [.int (m:Int),cd],.int (w:Int),.bl up]=.ok (.bl (R8 G m w up)):=by
 refine W9 (Y3 (n:=4) (p:=4) (ds:=[G.d,.tup [.int (m:Int),cd],.int (w:Int),.bl up]) (g:=Tz) (R:=fun d=>d=.bl (R8 G m w up)) rfl ?_);show Go (Tz [.fz G.d,.fz (.tup [.int (m:Int),cd]),.fz (.int (w:Int)),.fz (.bl up)]) _ _;unfold Tz;let q:Nat->Bool:=fun k=>match G.steps[k]? with | some s=>Qw s m | none=>false
 have O:W6 (Y7 0) V6 (Zr Nz (Z1 (dV 1) (Z1 (dV 2) (Z1 (dV 0) Za)))) [.un,.fz G.d,.fz (.tup [.int (m:Int),cd])] (Zc (Tc (OY w up) 0 G.steps))=some (((Tc (OY w up) 0 G.steps).map q).map Dat.bl):=by
  rw[Ym,Wp (fun p:Nat=>Dat.int (p:Int)) (fun p:Nat=>.bl (q p)) _ fun p hp=>?_,DI]
  ·rfl
  ·obtain⟨i,s,e,hs,_⟩:=(R7 _ _ _ _).mp hp
   rw[HY] at e;subst e;refine⟨[.fz (.int (p:Int)),.fz G.d,.fz (.tup [.int (m:Int),cd])],rfl,rfl,Ze (xs:=[G.d,.tup [.int (m:Int),cd],.int (p:Int)]) rfl ?_⟩;rw[b6 G hG m cd p s hs];show _=Rs.ok (.bl (match G.steps[p]? with | some s=>Qw s m | none=>false));rw[hs]
 refine Zt (Ys (Z2 (W0 (Ya (xs:=Zc (Tc (OY w up) 0 G.steps)) (env':=[.un,.fz G.d,.fz (.tup [.int (m:Int),cd])]) (by unfold Tp;rw[Ze (xs:=[G.d,.int (w:Int),.bl up]) rfl (mZ G w up)]) rfl O)) rfl) (iz _)) ?_;congr 1
 unfold R8;rw[DX,JB,DU,DU];constructor
 ·rintro⟨j,hj,hq⟩
  obtain⟨i,s,e,hs,hp⟩:=(R7 _ _ _ _).mp hj;rw[HY] at e;subst e;refine⟨s,AI hs,?_⟩;have:Qw s m=true:=by
   have a:q j=true:=hq;have e2:q j=Qw s m:=by show(match G.steps[j]? with | some s=>Qw s m | none=>false)=_;rw[hs]
   rw[← e2];exact a
  rw[hp,this];rfl
 ·rintro⟨s,hs,hq⟩
  obtain⟨i,hi,e⟩:=FM hs;have hg:G.steps[i]?=some s:=by rw[AH hi,e]
  rw[AV] at hq;refine⟨i,(R7 _ _ _ _).mpr ⟨i,s,by lia,hg,hq.1⟩,?_⟩;show q i=true;have e2:q i=Qw s m:=by show(match G.steps[i]? with | some s=>Qw s m | none=>false)=_;rw[hg]
  rw[e2];exact hq.2
def WS(u d:Bool):Int:=if u then 1 else if d then -1 else 0
theorem nB(G:G3)(hG:Gb 64 G)(m:Nat)(cd:Dat)(w:Nat):Kq [G.d,.tup [.int (m:Int),cd],.int (w:Int)]=.ok (.int (WS (R8 G m w true) (R8 G m w false))):=by
 refine W9 (Y3 (n:=3) (p:=3) (ds:=[G.d,.tup [.int (m:Int),cd],.int (w:Int)]) (g:=Gz) (R:=fun d=>d=.int (WS (R8 G m w true) (R8 G m w false))) rfl ?_);show Go (Gz [.fz G.d,.fz (.tup [.int (m:Int),cd]),.fz (.int (w:Int))]) _ _;unfold Gz;refine Z9 (Q3 (Us (Ze (xs:=[G.d,.tup [.int (m:Int),cd],.int (w:Int),.bl true]) rfl (Kd G hG m cd w true))) (fun U=>Zt rfl ?_) (fun U=>Yd ?_))
 ·rw[U];rfl
 refine Z9 (Q3 (Us (Ze (xs:=[G.d,.tup [.int (m:Int),cd],.int (w:Int),.bl false]) rfl (Kd G hG m cd w false))) (fun H=>Zt rfl ?_) (fun H=>Yd (Zt rfl ?_)))
 ·rw[U,H];rfl
 ·rw[U,H];rfl
theorem Tf(f:α->Dat)(xs:C3 α):Vb [.tup (xs.map f)]=some (.int ((xs.length:Nat):Int)):=by
 show some (Dat.int ((xs.map f).length:Int))=_;rw[AC]
def Ki(G:G3):C3 Nat:=(List.range G.wires.length).filter fun w=>match G.wires[w]? with | some u=>u.2 | none=>false
theorem ee(h:w∈Ki G):w<G.wires.length:=CF.mp (BP.mp h).1
theorem nY(G:G3)(hG:Gb 64 G):B5 [G.d]=.ok (.lst (Zc (Ki G))):=by
 refine W9 (Y3 (n:=1) (p:=1) (ds:=[G.d]) (g:=Lp) (R:=fun d=>d=.lst (Zc (Ki G))) rfl ?_);show Go (Lp [.fz G.d]) _ _;unfold Lp;have C:=hG.w2;have O:=Vq (g:=Y7 0) (t:=dT (Zr Vw (Z1 (dV 1) (Z1 (dV 0) Za)))) (f:=dV 0) (env:=[.un,.fz G.d]) (fun k:Nat=>Dat.int (k:Int)) (fun k:Nat=>Dat.int (k:Int)) (fun w=>match G.wires[w]? with | some u=>u.2 | none=>false) (List.range G.wires.length) fun k Y=>by
  have a:=CF.mp Y;have e:G.wires[k]?=some G.wires[k]:=AH a;refine⟨[.fz (.int (k:Int)),.fz G.d],rfl,?_,rfl⟩;rw[e];exact Us (Ze (xs:=[G.d,.int (k:Int)]) rfl (Dr G k _ e))
 rw[← R1] at O;refine Zt (W0 (Ya (xs:=rng 0 G.wires.length) (Yv (Z2 (Ys (Z2 (x:=.tup (G.wires.map Va)) (Z7 rfl rfl rfl) rfl) (Tf Va G.wires)) rfl) (by lia)) rfl O)) ?_;unfold Ki;rw[Ym]
def Ub(G:G3)(m w:Nat):Int:=WS (R8 G m w true) (R8 G m w false)
theorem jD(G:G3)(hG:Gb 64 G)(p:Nat×Nat)(ws:C3 Nat):Rj [G.d,Zz p,.lst (Zc ws)]=.ok (.lst ((ws.map (Ub G p.1)).map .int)):=by
 refine W9 (Y3 (n:=3) (p:=3) (ds:=[G.d,Zz p,.lst (Zc ws)]) (g:=Jd) (R:=fun d=>d=.lst ((ws.map (Ub G p.1)).map .int)) rfl ?_);show Go (Jd [.fz G.d,.fz (Zz p),.fz (.lst (Zc ws))]) _ _;unfold Jd;have O:W6 (Y7 0) V6 (Zr Kq (Z1 (dV 1) (Z1 (dV 2) (Z1 (dV 0) Za)))) [.un,.fz G.d,.fz (Zz p)] (Zc ws)=some ((ws.map (Ub G p.1)).map .int):=by
  rw[Ym,Wp (fun w:Nat=>Dat.int (w:Int)) (fun w:Nat=>.int (Ub G p.1 w)) ws fun w _=>⟨[.fz (.int (w:Int)),.fz G.d,.fz (Zz p)],rfl,rfl,Ze (xs:=[G.d,.tup [.int (p.1:Int),.int (p.2:Int)],.int (w:Int)]) rfl (nB G hG p.1 _ w)⟩,DI];rfl
 exact Zt (W0 (Ya (xs:=Zc ws) rfl rfl O)) rfl
theorem Pn{g:Dat->Ev->C2 Ev}(D E:α->Dat)(P:α->Bool):∀ (xs:C3 α) (k:Nat),(∀ (i:Nat) (x:α),xs[i]?=some x->∃ e1,g (.tup [.int ((k+i:Nat):Int),D x]) env=some e1/\t e1=some (P x)/\f e1=some (E x))->W6 g t f env (Rn k (xs.map D))=some ((xs.filter P).map E)
 | [],k,_=>rfl
 | x::xs,k,h=>by
  have h1:=Pn D E P xs (k+1) fun i y hy=>by
   have:=h (i+1) y (by simpa using hy);rw[show k+1+i=k+(i+1) by lia];exact this
  obtain⟨e1,a1,a2,a3⟩:=h 0 x rfl;rw[Nat.add_zero] at a1;rw[BY,Rn,W6,a1];dsimp only[Option.bind];rw[a2];dsimp only;cases U:P x with
  | true =>
   rw[AG rfl,a3,List.filter_cons,U,AG rfl];dsimp only;rw[h1];rfl
  | false =>
   rw[AQ (by decide),h1,List.filter_cons,U,AQ (by decide)]
def TY(ws:C3 Nat)(f g:Nat->Int):C3 Nat:=ws.filter fun y=>!(f y==g y)
theorem fF(ws:C3 Nat)(f g:Nat->Int):Kf [.lst (Zc ws),.lst ((ws.map f).map .int),.lst ((ws.map g).map .int)]=.ok (.lst (Zc (TY ws f g))):=by
 refine W9 (Y3 (n:=3) (p:=3) (ds:=[.lst (Zc ws),.lst ((ws.map f).map .int),.lst ((ws.map g).map .int)]) (g:=Dj) (R:=fun d=>d=.lst (Zc (TY ws f g))) rfl ?_);show Go (Dj [.fz (.lst (Zc ws)),.fz (.lst ((ws.map f).map .int)),.fz (.lst ((ws.map g).map .int))]) _ _;unfold Dj;have e:=Pn (g:=Nb 2 (Wk (Y7 0) (Wk (Y7 1) Dg))) (t:=dB (dO KZ (dO Yi (dV 2) (dV 0)) (dO Yi (dV 3) (dV 0)))) (f:=dV 1) (env:=[.un,.un,.fz (.lst ((ws.map f).map .int)),.fz (.lst ((ws.map g).map .int))]) (fun w:Nat=>Dat.int (w:Int)) (fun w:Nat=>Dat.int (w:Int)) (fun y=>!(f y==g y)) ws 0 fun i x hx=>by
  rw[HY];exact⟨[.fz (.int (i:Int)),.fz (.int (x:Int)),.fz (.lst ((ws.map f).map .int)),.fz (.lst ((ws.map g).map .int))],rfl,Y4 (Z7 (Z7 rfl rfl (Yl (x:=.int (f x)) (by rw[AM,AM,hx];rfl))) (Z7 rfl rfl (Yl (x:=.int (g x)) (by rw[AM,AM,hx];rfl))) (VA _ _)),rfl⟩
 rw[← Ym,← Ym] at e;exact Zt (W0 (Ya (xs:=Rn 0 (Zc ws)) (cp rfl) rfl e)) rfl
def N1(t:Nat×Nat×Nat):Dat:=.tup [.int (t.1:Int),.int (t.2.1:Int),.int (t.2.2:Int)]
structure TC (G:G3) (F:List Rw) (t:Nat×Nat×Nat):Prop where
 w:t.2.2∈Ki G
 a:∃ r q,F[t.1]?=some r/\F[t.2.1]?=some q/\r.c=q.c/\Ub G r.m t.2.2≠Ub G q.m t.2.2
def Ix(G:G3)(r q:Rw):Prop:=r.c=q.c->∀ w∈Ki G,Ub G r.m w=Ub G q.m w
theorem jH(h:fs env=some [.int (a:Int),.int (b:Int)])(ha:a<=100000)(U:b<=100000):SQ fs env=some (rng (a:Int) (b - a)):=by
 unfold SQ;rw[h];dsimp only;have e:((b:Int) - (a:Int)).toNat=b - a:=by lia
 rw[e,AG ⟨⟨by lia,by lia,by lia,by lia⟩,by rw[DV];lia⟩]
theorem hX{es:C3 Dat}(h:ds.length+es.length<=10000000):Oo ds [.lst es]=some (ds++es):=AG (by rw[DV];lia)
theorem iD{F:C3 Rw}(hG:Gb 64 G)(hF:F.length<=400):∃ f:C3 (Nat×Nat×Nat),Ti [G.d,.lst (F.map Rw.d)]=.ok (.lst (f.map N1))/\(∀ t∈f,TC G F t)/\(f=[]->∀ (n m:Nat) (r q:Rw),n<m->F[n]?=some r->F[m]?=some q->Ix G r q):=by
 have C:=hG.w2;have:=Y3 (n:=7) (p:=2) (ds:=[G.d,.lst (F.map Rw.d)]) (g:=Vi) (R:=fun d=>∃ f:C3 (Nat×Nat×Nat),d=.lst (f.map N1)/\(∀ t∈f,TC G F t)/\(f=[]->∀ (n m:Nat) (r q:Rw),n<m->F[n]?=some r->F[m]?=some q->Ix G r q)) rfl ?_
 ·obtain⟨d,e,b,rfl,h⟩:=this
  exact⟨b,e,h⟩
 show Go (Vi [.fz G.d,.fz (.lst (F.map Rw.d)),.un,.un,.un,.un,.un]) _ _;unfold Vi;refine Z9 (Zi (Ze (xs:=[G.d]) rfl (nY G hG)) ?_);have s:(Ki G).length<=G.wires.length:=by unfold Ki;exact AZ (EV _ _) (by rw[BV];exact AY _)
 obtain⟨ms,ao⟩:∃ ms,Ki G=ms:=⟨_,rfl⟩;rw[ao] at s ⊢;have O:W6 (Y7 0) V6 (Zr Rj (Z1 (dV 1) (Z1 (dS Ce (dV 0) Rv (Qr (dC (.int 2)))) (Z1 (dV 2) Za)))) [.un,.fz G.d,.fz (.lst (Zc ms))] (F.map Rw.d)=some (F.map fun r:Rw=>.lst ((ms.map (Ub G r.m)).map .int)) :=
  Wp Rw.d (fun r:Rw=>.lst ((ms.map (Ub G r.m)).map .int)) F fun r _=>⟨[.fz r.d,.fz G.d,.fz (.lst (Zc ms))],rfl,rfl,Ze (xs:=[G.d,Zz r.st,.lst (Zc ms)]) (Z2 rfl (Z2 (Ei rfl rfl (Ue rfl) (Am r)) rfl)) (jD G hG r.st ms)⟩
 refine Z9 (Zi (d:=.lst (F.map fun r:Rw=>.lst ((ms.map (Ub G r.m)).map .int))) (W0 (Ya (xs:=F.map Rw.d) rfl rfl O)) ?_);refine Z9 (Je (ds:=([]:C3 (Nat×Nat×Nat)).map N1) rfl ?_);have ae:∀ e:Ev,e[1]?=some (.fz (.lst (F.map Rw.d)))->dF Vb (Z1 (dV 1) Za) e=some (.int ((F.length:Nat):Int)):=fun e he=>Ys (Z2 (x:=.lst (F.map Rw.d)) (by unfold dV;rw[he]) rfl) (Ko Rw.d F)
 refine Z9 (Te (ds:=rng 0 F.length) (fun i e=>∃ (f:C3 (Nat×Nat×Nat)) (v5 u:KL),e=[.fz G.d,.fz (.lst (F.map Rw.d)),.fz (.lst (Zc ms)),.fz (.lst (F.map fun r:Rw=>.lst ((ms.map (Ub G r.m)).map .int))),.ow (f.map N1),v5,u]/\f.length<=4000*i/\(∀ t∈f,TC G F t)/\(f=[]->∀ (n m:Nat) (r q:Rw),n<i->n<m->F[n]?=some r->F[m]?=some q->Ix G r q)) (Yv (Z2 (ae _ rfl) rfl) (by lia)) ⟨[],.un,.un,rfl,by simp,by simp,fun _ n m r q h=>by lia⟩ ?_ ?_)
 ·rintro n d e hn ⟨f,v5,u,rfl,ai,v,I⟩
  obtain⟨L,rfl⟩:=Ux hn;rw[CP];refine⟨_,rfl,?_⟩;obtain⟨r,Z⟩:∃ r,F[n]?=some r:=⟨_,AH L⟩;refine Te (ds:=rng ((n+1:Nat):Int) (F.length - (n+1))) (fun j e=>∃ (f:C3 (Nat×Nat×Nat)) (u:KL),e=[.fz G.d,.fz (.lst (F.map Rw.d)),.fz (.lst (Zc ms)),.fz (.lst (F.map fun r:Rw=>.lst ((ms.map (Ub G r.m)).map .int))),.ow (f.map N1),.fz (.int (n:Int)),u]/\f.length<=4000*n+10*j/\(∀ t∈f,TC G F t)/\(f=[]->∀ (k m:Nat) (r q:Rw),(k<n/\k<m)\/(k=n/\n<m/\m<n+1+j)->F[k]?=some r->F[m]?=some q->Ix G r q)) (jH (Z2 (Z7 rfl rfl (Qg n 1)) (Z2 (ae _ rfl) rfl)) (by lia) (by lia)) ⟨f,u,rfl,by lia,v,fun O k m r q h=>by
   rcases h with h | h
   ·exact I O k m r q h.1 h.2
   ·lia⟩ ?_ ?_
  ·rintro j d e hj ⟨f,u,rfl,ai,v,I⟩
   obtain⟨M,rfl⟩:=Ux hj;obtain⟨m,hm⟩:∃ m:Nat,n+1+j=m:=⟨_,rfl⟩;rw[show((n+1:Nat):Int)+(j:Int)=(m:Int) by lia];refine⟨_,rfl,?_⟩;obtain⟨q,hq⟩:∃ r,F[m]?=some r:=⟨_,AH (by lia)⟩;have A:Yi (.lst (F.map Rw.d)) (.int (n:Int))=some r.d:=Yl (by rw[AM,Z];rfl);have E:Yi (.lst (F.map Rw.d)) (.int (m:Int))=some q.d:=Yl (by rw[AM,hq];rfl);have ak:∀ P:Prop,(P->Ix G r q)->(P->∀ (k m:Nat) (r q:Rw),(k<n/\k<m)\/(k=n/\n<m/\m<n+1+j)->F[k]?=some r->F[m]?=some q->Ix G r q)->P->∀ (k m:Nat) (r q:Rw),(k<n/\k<m)\/(k=n/\n<m/\m<n+1+(j+1))->F[k]?=some r->F[m]?=some q->Ix G r q:=fun P ha J hp k m' r' W h o a=>by
    rcases h with h | ⟨h1,h2,h3⟩
    ·exact J hp k m' r' W (.inl h) o a
    ·rcases DE m' (n+1+j) with z | z
     ·exact J hp k m' r' W (.inr ⟨h1,h2,z⟩) o a
     ·have e1:m'=m:=by lia
      subst e1 h1;rw[Z] at o;rw[hq] at a;cases o;cases a;exact ha hp
   refine Q3 (Y4 (Z7 (Z7 (Z7 rfl rfl A) rfl rfl) (Z7 (Z7 rfl rfl E) rfl rfl) (LS r.c q.c))) (fun U=>?_) (fun U=>Yd ⟨f,_,rfl,by lia,v,ak _ (fun _ h=>absurd h (by simpa using U)) I⟩);have H:r.c=q.c:=by simpa using U
   have B:=fF ms (Ub G r.m) (Ub G q.m);obtain⟨ys,l⟩:∃ ys,TY ms (Ub G r.m) (Ub G q.m)=ys:=⟨_,rfl⟩;have T:ys.length<=ms.length:=by rw[← l];exact EV _ _
   have S:∀ y,y∈ys↔y∈ms/\Ub G r.m y≠Ub G q.m y:=fun y=>by rw[← l];unfold TY;rw[BP];simp
   rw[l] at B;have N:Yi (.lst (F.map fun r:Rw=>.lst ((ms.map (Ub G r.m)).map .int))) (.int (n:Int))=some (.lst ((ms.map (Ub G r.m)).map .int)):=Yl (by rw[AM,Z];rfl);have Q:Yi (.lst (F.map fun r:Rw=>.lst ((ms.map (Ub G r.m)).map .int))) (.int (m:Int))=some (.lst ((ms.map (Ub G q.m)).map .int)):=Yl (by rw[AM,hq];rfl);have D:W6 (Y7 0) V6 (Wz (Z1 (dV 1) (Z1 (dV 2) (Z1 (dV 0) Za)))) [.un,.fz (.int (n:Int)),.fz (.int (m:Int))] (Zc ys)=some (ys.map fun y=>N1 (n,m,y)):=by
    rw[Ym];exact Wp (fun y:Nat=>Dat.int (y:Int)) (fun y:Nat=>N1 (n,m,y)) ys fun y _=>⟨[.fz (.int (y:Int)),.fz (.int (n:Int)),.fz (.int (m:Int))],rfl,rfl,Y8 rfl (by simp)⟩
   refine R5 (ds:=f.map N1) (as:=[.lst (ys.map fun y=>N1 (n,m,y))]) (ds':=(f++ys.map fun y=>(n,m,y)).map N1) rfl (Z2 (W0 (Ya (xs:=Zc ys) (Ap (Ze (xs:=[.lst (Zc ms),.lst ((ms.map (Ub G r.m)).map .int),.lst ((ms.map (Ub G q.m)).map .int)]) (Z2 rfl (Z2 (Z7 rfl rfl N) (Z2 (Z7 rfl rfl Q) rfl))) B)) rfl D)) rfl) (by rw[hX (by rw[AC,AC];lia),BK,DI];rfl) ⟨_,_,rfl,by rw[AN,AC];lia,fun t ht=>?_,ak _ (fun O _ w hw=>?_) fun O=>I (List.append_eq_nil_iff.mp O).1⟩
   ·rcases BQ.mp ht with ht | ht
    ·exact v t ht
    ·obtain⟨y,hy,rfl⟩:=CZ.mp ht
     obtain⟨y2,y1⟩:=(S y).mp hy;exact⟨by rw[ao];exact y2,r,q,Z,hq,H,y1⟩
   ·have hz:ys=[]:=List.map_eq_nil_iff.mp (List.append_eq_nil_iff.mp O).2
    refine EO fun ac=>?_
    have:=(S w).mpr ⟨by rw[← ao];exact hw,ac⟩;rw[hz] at this;cases this
  ·rintro e ⟨f,u,rfl,ai,v,I⟩
   rw[U7] at ai I;refine⟨f,_,_,rfl,by lia,v,fun O k m r q h1 h2 Z hq=>I O k m r q ?_ Z hq⟩;have:=(AB.mp hq).1;lia
 ·rintro e ⟨f,v5,u,rfl,ai,v,I⟩
  rw[U7] at I;exact Lc rfl ⟨f,rfl,v,fun O n m r q h Z hq=>I O n m r q (by have:=(AB.mp Z).1;lia) h Z hq⟩
theorem dh(a b:C3 Nat)(w:Nat)(ha:Qd (D4 a)=true)(U:Qd (D4 b)=true)(hw:w<1000):gK "one" "other" "wire" [.lst (Zc a),.lst (Zc b),.int (w:Int)]=some ([("one",.nums (D4 a)),("other",.nums (D4 b)),("wire",.int (w:Int))]:C3 (Str×XD)):=by
 unfold gK;dsimp only;have e:∀ l:C3 Nat,Mp (Zc l)=some (D4 l):=fun l=>Gi (D4 l)
 rw[e a];dsimp only[Option.bind];rw[e b];dsimp only[Option.bind];have hs:Dy (w:Int)=true:=by unfold Dy;rw[AJ (by lia),AJ (by lia)];rfl
 rw[AG (by rw[ha,U,hs];rfl)]
theorem gE(e:Rq [G.d,.int (most:Int)]=.exc c fl):V5 [G.d,.int (most:Int)]=.exc c fl:=by
 show(match Sm [.fz G.d,.fz (.int (most:Int)),.un,.un,.un,.un,.un,.un,.un] with | .ret d=>Rs.ok d | .next _=>.ok .non | .exc _ c fs=>.exc c fs | _=>.no)=_;unfold Sm Zf;rw[X4 (ds:=[G.d,.int (most:Int)]) rfl e]
theorem S4(e:fs env=some ds)(h:F ds=.ok d):U5 F fs env=.next env:=by unfold U5;rw[e];dsimp only;rw[h]
def Lm:C3 Str:=JR
theorem jg(hG:Gb 64 G)(most:Nat)(D:1<=most)(A:most<=400):(∃ ac,V5 [G.d,.int (most:Int)]=.ok (.lst (ac.map Rw.d))/\KP G most ac)\/∃ c fl,V5 [G.d,.int (most:Int)]=.exc c fl/\c∈Lm:=by
 rcases Pl hG most D A with⟨d,es,ac,rfl,W⟩ | ⟨c,fl,es,Z⟩
 ·rcases Fv hG A es W with⟨d,e,rfl,_⟩ | ⟨c,fl,e,rfl,_⟩
  ·exact .inl ⟨ac,e,W⟩
  ·exact .inr ⟨_,fl,e,by unfold Lm;simp⟩
 ·refine .inr ⟨c,fl,gE es,?_⟩
  rcases Z with⟨rfl,_⟩ | ⟨h,_⟩
  ·unfold Lm;simp
  ·rcases h with rfl | rfl<;>(unfold Lm;simp)
def RZ(G:G3)(ac:C3 Rw):Prop:=∀ r∈ac,∀ q∈ac,Ix G r q
theorem mI(h:∀ (n m:Nat) (r q:Rw),n<m->ac[n]?=some r->ac[m]?=some q->Ix G r q):RZ G ac:=fun r Z q hq=>by
 obtain⟨n,hn⟩:=EJ Z;obtain⟨m,hm⟩:=EJ hq;rcases Nat.lt_trichotomy n m with z | z | z
 ·exact h n m r q z hn hm
 ·subst z;rw[hn] at hm;cases hm;exact fun _ _ _=>rfl
 ·exact fun e w hw=>(h m n q r z hm hn e.symm w hw).symm
theorem ku(hG:Gb 64 G)(hm:most<=400)(es:V5 [G.d,.int (most:Int)]=.ok (.lst (ac.map Rw.d)))(W:KP G most ac) :
  (∃ d,U0 [G.d,.int (most:Int)]=.ok d/\RZ G ac)\/∃ c fl,U0 [G.d,.int (most:Int)]=.exc c fl/\c="Clash" /\ ¬ RZ G ac:=by
 have hF:ac.length<=400:=AZ W.le hm;have y:=hG.s2;have C:=hG.w2;obtain⟨f,e,v,I⟩:=iD hG hF;refine Ha (n:=5) (p:=2) (ds:=[G.d,.int (most:Int)]) (g:=Vm) (R:=fun d=>RZ G ac) (E:=fun c fl=>c="Clash" /\ ¬ RZ G ac) rfl ?_;show KI (Vm [.fz G.d,.fz (.int (most:Int)),.un,.un,.un]) _ _ _ _;unfold Vm;refine Vy ⟨?_⟩;rw[Cr (d:=.lst (ac.map Rw.d)) (ds:=[G.d,.int (most:Int)]) rfl es];refine Tj (Zi (Ze (xs:=[G.d,.lst (ac.map Rw.d)]) rfl e) ?_);refine Vy (Ga (b:=decide ((0:Int)<((f.length:Nat):Int))) (Y4 (Z7 (Ys (Z2 rfl rfl) (Ko N1 f)) rfl rfl)) (fun U=>?_) (fun U=>(Yd ?_:Go _ _ _).toE))
 ·have:=BF U
  cases O:f with
  | nil=>rw[O] at this;simp at this
  | cons t l =>
   have ht:=v t (by rw[O];exact AW);obtain⟨r,q,h1,h2,h3,h4⟩:=ht.a;have l1:=(AB.mp h1).1;have l2:=(AB.mp h2).1;have s1:=Hh W.t t.1 l1;have s2:=Hh W.t t.2.1 l2;have hw:=ee ht.w;refine Tj (Zi (d:=N1 t) (Z7 rfl rfl (Yl (j:=0) (x:=N1 t) rfl)) ?_);exact Jg (Z2 (Ze (xs:=[.lst (ac.map Rw.d),.int (t.1:Int)]) (Z2 rfl (Z2 (Z7 rfl rfl rfl) rfl)) (Ar hF W.t t.1 l1)) (Z2 (Ze (xs:=[.lst (ac.map Rw.d),.int (t.2.1:Int)]) (Z2 rfl (Z2 (Z7 rfl rfl rfl) rfl)) (Ar hF W.t t.2.1 l2)) (Z2 (Z7 rfl rfl rfl) rfl))) (dh _ _ t.2.2 (Dp (by lia) fun k Y=>by have:=s1.2 k Y;lia) (Dp (by lia) fun k Y=>by have:=s2.2 k Y;lia) (by lia)) ⟨rfl,fun hq=>h4 (hq r (AI h1) q (AI h2) h3 _ ht.w)⟩
 ·have:=IG U
  have O:f=[]:=List.eq_nil_of_length_eq_zero (by lia);exact(Zt rfl (mI (I O)):Go _ _ _).toE
theorem bR{p:Nat}(hp:ds.length=p)(h:g (Tt n ds)=.ret d):Yg n p g ds=.ok d:=by unfold Yg;rw[AG hp,h]
theorem Kn{p:Nat}{e:Ev}(hp:ds.length=p)(h:g (Tt n ds)=.exc e c fl):Yg n p g ds=.exc c fl:=by unfold Yg;rw[AG hp,h]
theorem nV(e:V5 [G.d,.int (most:Int)]=.exc c fl):U0 [G.d,.int (most:Int)]=.exc c fl:=by
 refine Kn (n:=5) (p:=2) (g:=Vm) (ds:=[G.d,.int (most:Int)]) (e:=[.fz G.d,.fz (.int (most:Int)),.un,.un,.un]) rfl ?_;show Vm [.fz G.d,.fz (.int (most:Int)),.un,.un,.un]=_;unfold Vm;rw[Zf,X4 (ds:=[G.d,.int (most:Int)]) rfl e]
theorem XE{b:Bool}(h:Qy [.fz G.d,.fz (.int (most:Int))]=.ret (.bl b)):Q4 [G.d,.int (most:Int)]=.ok (.bl b):=bR (n:=2) (p:=2) (g:=Qy) (ds:=[G.d,.int (most:Int)]) rfl h
theorem eK(e:U0 [G.d,.int (most:Int)]=.ok d):Q4 [G.d,.int (most:Int)]=.ok (.bl true):=XE (by
 unfold Qy Zf QS;rw[S4 (ds:=[G.d,.int (most:Int)]) rfl e];rfl)
theorem cL(e:U0 [G.d,.int (most:Int)]=.exc c fl)(O:c∈Lm):Q4 [G.d,.int (most:Int)]=.ok (.bl false):=XE (by
 unfold Qy Zf QS;rw[Gn (ds:=[G.d,.int (most:Int)]) rfl e];dsimp only;rw[AG (show c∈([Str.ofString "Broken",Str.ofString "Crowded",Str.ofString "TooMany",Str.ofString "CalledOff",Str.ofString "Clash",Str.ofString "NoPlace"]:C3 Str) from O),AG rfl];rfl)
theorem ZR(O:SD G I)(t:TT G ac):∀ r∈ac,I r.st:=by
 have ag:∀ (n:Nat) (r:Rw),ac[n]?=some r->I r.st:=by
  intro n;induction n using strongRecOn with
  | _ n ih =>
   intro r Z;rcases DK n with z | z
   ·subst z
    rw[t.zero] at Z;cases Z;exact O.ini
   ·obtain⟨f,k,s,c,_,a2,a3,a4,a5,a6⟩:=t.src n r Z z
    rw[a6];exact O.nxt c.st s (ih f a2 c a4) (AI a3) a5
 intro r Z;obtain⟨n,hn⟩:=EJ Z;exact ag n r hn
theorem lD(h:QX G)(m:Nat):Rr G m=none:=by
 unfold Rr;rw[show(Q' G.steps.length).filter (Ep G)=[] from ?_]
 ·rfl
 rw[List.filter_eq_nil_iff];intro p _ hp;unfold Ep at hp;cases e1:G.steps[p.1]? with
 | none=>rw[e1] at hp;cases hp
 | some b =>
  cases e2:G.steps[p.2]? with
  | none=>rw[e1,e2] at hp;cases hp
  | some c =>
   rw[e1,e2] at hp;dsimp only at hp;obtain⟨h1,h2⟩:=DY.mp hp;obtain⟨h3,h4⟩:=DY.mp h2;obtain⟨q,q1,q2,q3⟩:=cu.mp h4;obtain⟨k1,k2⟩:=h p.1 p.2 b c (by simpa using h1) e1 e2 q q1 q2 q3;rw[k1,k2] at h3;cases h3
theorem RG.ws{two:Nat->Nat}(h:RG G n s0 one two rs)(ws:C3 (Str×Bool)):RG ⟨ws,G.steps,G.marks,G.code⟩ n s0 one two rs where
 ne:=h.ne
 ring:=h.ring
 inj:=h.inj
 mks:=h.mks
 st:=fun s hs=>by obtain⟨d,hd⟩:=h.st s hs;exact⟨d,hd.w,hd.dl,hd.tk,hd.fl,hd.lev⟩
theorem im{two:Nat->Nat}(h:RG G n s0 one two rs)(L:1<=n)(he:∀ q∈rs,q.1<2*n/\q.2<2*n)(Y:k<2^(2*n))(hi:RI G n s0 one two rs k p):∃ k',k'<2^(2*n - 1)/\RI G n s0 one two rs k' p:=by
 have f:∀ j,2*n<=j->k.testBit j=false:=fun j hj=>Nat.testBit_lt_two_pow (AU Y (CT (by lia) hj))
 cases U:k.testBit (2*n - 1) with
 | false =>
  refine⟨k,Nat.lt_pow_two_of_testBit _ fun j hj=>?_,hi⟩;rcases DE j (2*n) with z | z
  ·rw[show j=2*n - 1 by lia];exact U
  ·exact f j z
 | true =>
  have fl:∀ j,(k ^^^ (2^(2*n) - 1)).testBit j=(k.testBit j ^^ decide (j<2*n)):=fun j=>by rw[GB,Nat.testBit_two_pow_sub_one]
  have d:∀ i j,i<2*n->j<2*n->((k ^^^ (2^(2*n) - 1)).testBit i ^^ (k ^^^ (2^(2*n) - 1)).testBit j)=(k.testBit i ^^ k.testBit j):=fun i j h1 h2=>by
   rw[fl,fl,AJ h1,AJ h2];cases k.testBit i<;>cases k.testBit j<;>rfl
  refine⟨k ^^^ (2^(2*n) - 1),Nat.lt_pow_two_of_testBit _ fun j hj=>?_,?_,?_,hi.o,?_⟩
  ·rw[fl]
   rcases DE j (2*n) with z | z
   ·rw[show j=2*n - 1 by lia,U,AJ (by lia)];rfl
   ·rw[f j z,AE (by lia)];rfl
  ·intro t q e
   obtain⟨h1,h2⟩:=he q (AI e);rw[d _ _ h1 h2];exact hi.a t q e
  ·intro t q e
   obtain⟨h1,h2⟩:=he q (AI e);rw[d _ _ h1 h2];exact hi.b t q e
  ·intro w
   rw[hi.c];by_cases hw:w<n
   ·obtain⟨h1,h2⟩:=he _ (h.ring w hw)
    rw[d _ _ h1 h2]
   ·rw[AE hw,JC,JC]
theorem ke{two:Nat->Nat}(h1:RI G n s0 one two rs k p)(h2:RI G n s0 one two rs k q):p=q:=by
 refine IB (CU fun j=>?_) (CU fun j=>by rw[h1.c,h2.c]);by_cases hj:∀ t,t<rs.length->j≠s0+2*t/\j≠s0+2*t+1
 ·rw[h1.o j hj,h2.o j hj]
 ·simp only[Classical.not_forall] at hj
  obtain⟨t,ht,hj⟩:=hj;have e:rs[t]?=some rs[t]:=AH ht;by_cases e1:j=s0+2*t
  ·rw[e1,h1.a t _ e,h2.a t _ e]
  ·have e2:j=s0+2*t+1:=EO fun e2=>hj ⟨e1,e2⟩
   rw[e2,h1.b t _ e,h2.b t _ e]
theorem i4{two:Nat->Nat}(hG:Gb 64 G)(h:RG G n s0 one two rs)(Z:QX G)(L:1<=n)(hn:n<=3)(he:∀ q∈rs,q.1<2*n/\q.2<2*n)(most:Nat)(D:32<=most)(A:most<=400):∃ ac,V5 [G.d,.int (most:Int)]=.ok (.lst (ac.map Rw.d))/\KP G most ac:=by
 have O:=kG h (by lia);rcases Pl hG most (by lia) A with⟨d,es,ac,rfl,W⟩ | ⟨c,fl,es,o⟩
 ·rcases Fv hG A es W with⟨d,e,rfl,_⟩ | ⟨c,fl,e,_,g,r,p,_,_,hp,_⟩
  ·exact⟨ac,e,W⟩
  ·rw[lD Z] at hp;cases hp
 ·exfalso
  rcases o with⟨_,ac,t,hl⟩ | ⟨_,ac,r,k,s,t,a,hs,x,hf⟩
  ·have y:=ZR O t
   have:=ZM (fun k p=>RI G n s0 one two rs k p) (fun k p q h1 h2=>ke h1 h2) (2^(2*n - 1)) (ac.map Rw.st) t.nd fun p hp=>by
    obtain⟨r,Z,rfl⟩:=CZ.mp hp;obtain⟨k,Y,hi⟩:=y r Z;exact im h L he Y hi
   rw[AC] at this;have h32:2^(2*n - 1)<=32:=AZ (CT (by lia) (show 2*n - 1<=5 by lia)) (by decide);lia
  ·have y:=ZR O t r a
   have hm:=AI hs;exact hf ⟨x,O.lev _ s y hm x,O.room _ s y hm x⟩
structure Sk (B L n:Nat) (s:St3):Prop where
 w:s.w<n
 t:∀ p∈s.takes,p<B
 f:∀ p∈s.fills,p<B
 tl:s.takes.length<=L
 fl:s.fills.length<=L
structure Gk (B L:Nat) (G:G3):Prop where
 w1:1<=G.wires.length
 w2:G.wires.length<=5
 s1:2<=G.steps.length
 s2:G.steps.length<=22
 st:∀ s∈G.steps,Sk B L G.wires.length s
 mks:G.marks<2^B
 two:∀ w,w<G.wires.length->2<=(G.steps.map (·.w)).count w
theorem C8(G:G3)(hG:Gk B L G)(w:Nat)(hw:w<G.wires.length):∃ c:G3,T7 [G.d,.int (w:Int)]=.ok c.d/\Gk B L c/\(∃ u∈c.wires,u.2=true)/\∃ x,c=⟨G.wires.set w (x,true),G.steps,G.marks,G.code⟩:=by
 obtain⟨ws,a,mk,code⟩:=G;have f:w<ws.length:=hw;obtain⟨u,hu⟩:∃ u,ws[w]?=some u:=⟨_,AH f⟩;refine⟨⟨ws.set w (u.1,true),a,mk,code⟩,?_,?_,⟨(u.1,true),List.mem_set f _,rfl⟩,u.1,rfl⟩
 ·refine W9 (Y3 (n:=3) (p:=2) (ds:=[(⟨ws,a,mk,code⟩:G3).d,.int (w:Int)]) (g:=Wy) (R:=fun d=>d=_) rfl ?_)
  show Go (Wy [.fz (⟨ws,a,mk,code⟩:G3).d,.fz (.int (w:Int)),.un]) _ _;unfold Wy;refine Z9 (Je (ds:=ws.map Va) (Ys (Z2 (Z7 rfl rfl rfl) rfl) rfl) ?_);refine Z9 (Ip (k:=w) (d:=Va (u.1,true)) rfl (Y8 (Z2 (Z7 (Z7 rfl rfl (Yl (x:=Va u) (by rw[AM,hu];rfl))) rfl rfl) rfl) (by simp)) rfl (by rw[AC];exact f) ?_);refine Zt (Z7 (Y8 (Z2 (Ys (Z2 rfl rfl) rfl) rfl) (by simp)) (Ei (z:=.tup [.tup (a.map St3.d),.int (mk:Int),.int (code:Int)]) rfl (Ue rfl) rfl rfl) (H9 (by simp))) ?_;show _=G3.d _;unfold G3.d;rw[map_set];rfl
 ·exact { w1:=by show 1<=(ws.set w _).length;rw[BH];exact hG.w1,w2:=by show(ws.set w _).length<=5;rw[BH];exact hG.w2,s1:=hG.s1,s2:=hG.s2,st:=fun s hs=>by show Sk B L (ws.set w _).length s;rw[BH];exact hG.st s hs,mks:=hG.mks,two:=fun v hv=>hG.two v (by have b:v<(ws.set w (u.1,true)).length:=hv;rw[BH] at b;exact b) }
def Qu(G:G3)(k:Nat):Bool:=G.marks.testBit k||G.steps.any fun s=>decide (k∈s.takes)||decide (k∈s.fills)
def frees(G:G3):C3 Nat:=(List.range 64).filter fun k=>!Qu G k
theorem YM(hG:Gk B L G)(h:Qu G k=true):k<B:=by
 unfold Qu at h;rcases Bool.or_eq_true_iff.mp h with h | h
 ·rcases DE k B with q | q
  ·exact q
  ·rw[Nat.testBit_lt_two_pow (AU hG.mks (CT (by lia) q))] at h;cases h
 ·obtain⟨s,hs,h⟩:=DU.mp h
  rcases Bool.or_eq_true_iff.mp h with h | h
  ·exact(hG.st s hs).t k (BF h)
  ·exact(hG.st s hs).f k (BF h)
theorem lh(hG:Gk B L G)(f:B<=62):∃ x y aj,frees G=x::y::aj/\x<y/\y<=B+1:=by
 have m1:B∈frees G:=BP.mpr ⟨CF.mpr (by lia),by
  cases h:Qu G B with
  | false=>rfl
  | true=>have:=YM hG h;lia⟩
 have m2:B+1∈frees G:=BP.mpr ⟨CF.mpr (by lia),by
  cases h:Qu G (B+1) with
  | false=>rfl
  | true=>have:=YM hG h;lia⟩
 have hs:(frees G).Pairwise (· < ·):=FY _ List.pairwise_lt_range;generalize frees G=fs at m1 m2 hs;match fs,m1,m2,hs with
 | [x],m1,m2,_=>have:=AL.mp m1;have:=AL.mp m2;lia
 | x::y::aj,m1,m2,hs =>
  have h1:=HE.mp hs;have h2:=HE.mp h1.2;have o:=h1.1 y AW;refine⟨x,y,aj,rfl,o,?_⟩;rcases BI.mp m2 with q | q
  ·rcases BI.mp m1 with p | p
   ·lia
   ·have:=h1.1 _ p;lia
  ·rcases BI.mp q with q | q
   ·lia
   ·have:=h2.1 _ q;lia
theorem Ic(G:G3)(hG:Gb 64 G):Uu [G.d]=.ok (.lst (Zc (frees G))):=by
 refine W9 (Y3 (n:=3) (p:=1) (ds:=[G.d]) (g:=Uw) (R:=fun d=>d=.lst (Zc (frees G))) rfl ?_);show Go (Uw [.fz G.d,.un,.un]) _ _;unfold Uw;refine Z9 (Zi (d:=.int (G.marks:Int)) (Z7 rfl rfl rfl) ?_);have ae:dF Vb (Z1 (dO Yi (dV 0) (dC (.int 1))) Za) [.fz G.d,.fz (.int (G.marks:Int)),.un]=some (.int ((G.steps.length:Nat):Int)):=Ys (Z2 (Z7 rfl rfl rfl) rfl) (by show some (Dat.int ((G.steps.map St3.d).length:Int))=_;rw[AC]);refine Z9 (Te (ds:=rng 0 G.steps.length) (fun i e=>∃ (u:Nat) (v:KL),e=[.fz G.d,.fz (.int (u:Int)),v]/\∀ k,u.testBit k=(G.marks.testBit k||(G.steps.take i).any fun s=>decide (k∈s.takes)||decide (k∈s.fills))) (Yv (Z2 ae rfl) (by have:=hG.s2;lia)) ⟨G.marks,.un,rfl,fun k=>by simp⟩ ?_ ?_)
 · rintro i d e hi ⟨u,v,rfl,hu⟩
   obtain⟨T,rfl⟩:=Ux hi;rw[CP];refine⟨_,rfl,?_⟩;obtain⟨s,hs⟩:∃ s,G.steps[i]?=some s:=⟨_,AH T⟩;have Y:=hG.st s (AI hs);refine Zi (Z7 (Z7 rfl (Ze (xs:=[.tup (Zc s.takes)]) (Z2 (Ze (xs:=[G.d,.int (i:Int)]) rfl (Mc G i s hs)) rfl) (M6 s.takes fun p hp=>by have:=Y.t p hp;lia)) (RK u _)) (Ze (xs:=[.tup (Zc s.fills)]) (Z2 (Ze (xs:=[G.d,.int (i:Int)]) rfl (Lb G i s hs)) rfl) (M6 s.fills fun p hp=>by have:=Y.f p hp;lia)) (RK _ _)) ⟨_,_,rfl,fun k=>?_⟩;rw[FI,FI,hu,V1,V1,HI,hs];simp[List.any_append,Bool.or_assoc]
 · rintro e ⟨u,v,rfl,hu⟩
   rw[U7,CK (AY _)] at hu;have O:W6 (Y7 0) (Md (dT (Zr Jf (Z1 (dV 1) (Z1 (dV 0) Za))))) (dV 0) [.un,.fz (.int (u:Int))] (rng 0 64)=some (Zc (frees G)):=by
     rw[R1,Vq (fun k:Nat=>Dat.int (k:Int)) (fun k:Nat=>Dat.int (k:Int)) (fun k=>!Qu G k) (List.range 64) fun k _=>⟨[.fz (.int (k:Int)),.fz (.int (u:Int))],rfl,Tl (Us (by rw[show Qu G k=u.testBit k from(hu k).symm];exact Ze (xs:=[.int (u:Int),.int (k:Int)]) rfl (UZ u k))),rfl⟩,Ym];rfl
   exact Zt (W0 (Ya (xs:=rng 0 64) (Yv (Z2 rfl rfl) (by lia)) rfl O)) rfl
theorem Ah[BEq α][LawfulBEq α]:∀ (l b:C3 α),l.Nodup->(∀ x∈l,x∈b)->l.length<=b.length
 | [],b,_,_=>DJ _
 | x::l,b,hn,hs=>by
  have hx:=DB.mp hn;have h1:=Ah l (b.erase x) hx.2 fun y hy=>(List.mem_erase_of_ne (show y≠x from fun e=>hx.1 (e▸hy))).mpr (hs y (AX _ hy))
  have h2:=List.length_erase_of_mem (hs x AW);have h3:=List.length_pos_of_mem (hs x AW);rw[BC];lia
def kept:C3 Str:=NK
theorem lE:∀ k∈List.range 26,OL ⟨#[97+k]⟩ V4=true:=by decide +kernel
def De(z:Str):Bool:=!(decide (z.length<1)||(decide (8<z.length)||decide (z∈kept)))&&(cl z).all fun c=>OL ⟨#[c]⟩ V4
theorem Nl(z:Str):Q0 [.str z]=.ok (.bl (De z)):=by
 refine W9 (Y3 (n:=1) (p:=1) (ds:=[.str z]) (g:=T3) (R:=fun d=>d=.bl (De z)) rfl ?_);show Go (T3 [.fz (.str z)]) _ _;unfold T3 De;refine Z9 (Q3 (b:=decide (z.length<1)||(decide (8<z.length)||decide (z∈kept))) (Ql (Y4 (Z7 rfl rfl (show OE (.int (z.length:Int)) (.int 1)=some (.bl (decide (z.length<1))) from(by show some (Dat.bl (decide ((z.length:Int)<1)))=_;congr 2;exact EG.mpr (by lia))))) fun _=>Ql (Y4 (Z7 rfl rfl (show MN (.int (z.length:Int)) (.int 8)=some (.bl (decide (8<z.length))) from(by show some (Dat.bl (decide ((8:Int)<(z.length:Int))))=_;congr 2;exact EG.mpr (by lia))))) fun _=>Y4 (Z7 rfl rfl (show F0 (.str z) (.tup (kept.map .str))=some (.bl (decide (z∈kept))) from ZF z kept))) (fun U=>Zt rfl (by rw[U];rfl)) (fun U=>Yd ?_));rw[U];refine Zt (d:=.bl ((cl z).all fun c=>OL ⟨#[c]⟩ V4)) (Ys (Z2 (W0 (ds:=((cl z).map fun c=>OL ⟨#[c]⟩ V4).map .bl) (Ya (xs:=(cl z).map fun c=>Dat.str ⟨#[c]⟩) (env':=[.un]) rfl rfl ?_)) rfl) ?_) rfl
 · rw[Wp (fun c=>Dat.str ⟨#[c]⟩) (fun c=>.bl (OL ⟨#[c]⟩ V4)) (cl z) fun c _=>⟨[.fz (.str ⟨#[c]⟩)],rfl,rfl,rfl⟩,DI];rfl
 · rw[ZW,all_map]
   rfl
theorem lm(h:Q0 [.str z]=.ok (.bl true)):De z=true:=by
 rw[Nl] at h;injection h with h
 injection h
theorem B4(z:Str)(h1:1<=z.length)(h2:z.length<=8)(h3:∀ c∈cl z,∃ k,k<26/\c=97+k)(h4:z∉kept):Q0 [.str z]=.ok (.bl true):=by
 refine W9 (Y3 (n:=1) (p:=1) (ds:=[.str z]) (g:=T3) (R:=fun d=>d=.bl true) rfl ?_);show Go (T3 [.fz (.str z)]) _ _;unfold T3;refine Z9 (To (Ql (a:=false) (b:=false) (Y4 (Z7 rfl rfl (show OE (.int (z.length:Int)) (.int 1)=some (.bl false) from(by show some (Dat.bl (decide ((z.length:Int)<1)))=_;rw[AE (by lia)])))) fun _=>Ql (a:=false) (b:=false) (Y4 (Z7 rfl rfl (show MN (.int (z.length:Int)) (.int 8)=some (.bl false) from(by show some (Dat.bl (decide ((8:Int)<(z.length:Int))))=_;rw[AE (by lia)])))) fun _=>Y4 (Z7 rfl rfl (show F0 (.str z) (.tup (kept.map .str))=some (.bl false) from(by rw[ZF,AE h4])))) (Yd ?_));refine Zt (d:=.bl true) (Ys (Z2 (W0 (ds:=((cl z).map fun c=>OL ⟨#[c]⟩ V4).map .bl) (Ya (xs:=(cl z).map fun c=>Dat.str ⟨#[c]⟩) (env':=[.un]) rfl rfl ?_)) rfl) ?_) rfl
 ·rw[Wp (fun c=>Dat.str ⟨#[c]⟩) (fun c=>.bl (OL ⟨#[c]⟩ V4)) (cl z) fun c _=>⟨[.fz (.str ⟨#[c]⟩)],rfl,rfl,rfl⟩,DI];rfl
 ·rw[ZW,all_map]
  congr 2
  refine DF.mpr fun c O=>?_
  obtain⟨k,Y,rfl⟩:=h3 c O;exact lE k (CF.mpr Y)
def Sy(c m k:Nat):Str:=⟨((List.range m).map fun j=>97+(c / 8+11*j+k) % 26).toArray⟩
theorem Sc(c m k:Nat):cl (Sy c m k)=(List.range m).map fun j=>97+(c / 8+11*j+k) % 26:=rfl
theorem ll{c j:Nat}(hm:1<=m)(hj:j<26)(Y:k<26)(h:Sy c m j=Sy c m k):j=k:=by
 have e:=CV cl h;rw[Sc,Sc] at e;have C:=CV (fun l=>l[0]?) e;simp only[AM,ES (show 0<m by lia),HN,IJ] at C;lia
theorem YI(z:Str)(ws:C3 Str):Ss (.str z) (.lst (ws.map .str))=some (.bl (!decide (z∈ws))):=by unfold Ss;rw[YY];rfl
theorem gP(c:Nat)(ws:C3 (Str×Bool))(hw:ws.length<=5):∃ z:Str,Tn [.int (c:Int),.tup (ws.map Va)]=.ok (.str z)/\z∉ws.map (·.1)/\Q0 [.str z]=.ok (.bl true)/\∃ m k,1<=m/\z=Sy c m k:=by
 have:=Y3 (n:=7) (p:=2) (ds:=[.int (c:Int),.tup (ws.map Va)]) (g:=Vf) (R:=fun d=>∃ z:Str,d=.str z/\z∉ws.map (·.1)/\Q0 [.str z]=.ok (.bl true)/\∃ m k,1<=m/\z=Sy c m k) rfl ?_
 ·obtain⟨d,e,z,rfl,h⟩:=this
  exact⟨z,e,h⟩
 show Go (Vf [.fz (.int (c:Int)),.fz (.tup (ws.map Va)),.un,.un,.un,.un,.un]) _ _;unfold Vf;refine Z9 (Zi (d:=.str V4) rfl ?_);have O:W6 (Y7 0) V6 (dO Yi (dV 0) (dC (.int 0))) [.un] (ws.map Va)=some ((ws.map (·.1)).map .str):=by
  rw[Wp Va (fun w=>.str w.1) ws fun w _=>⟨[.fz (Va w)],rfl,rfl,Z7 rfl rfl rfl⟩,DI];rfl
 refine Z9 (Zi (W0 (Ya (xs:=ws.map Va) rfl rfl O)) ?_);obtain⟨m,hm,D,A⟩:∃ m:Nat,1+c % 8=m/\1<=m/\m<=8:=⟨_,rfl,by lia,by lia⟩;refine Z9 (Te (ds:=rng 0 26) (fun i e=>∃ (v4 v5 u:KL),e=[.fz (.int (c:Int)),.fz (.tup (ws.map Va)),.fz (.str V4),.fz (.lst ((ws.map (·.1)).map .str)),v4,v5,u]/\∀ k,k<i->Sy c m k∈ws.map (·.1)++kept) (Yv (Z2 rfl rfl) (by lia)) ⟨.un,.un,.un,rfl,by lia⟩ ?_ ?_)
 ·rintro i d e hi ⟨v4,v5,u,rfl,f⟩
  obtain⟨T,rfl⟩:=Ux hi;rw[CP];refine⟨_,rfl,?_⟩;refine Z9 (Zi (d:=.str (Sy c 0 i)) rfl ?_);refine Z9 (Te (ds:=rng 0 m) (fun j e=>∃ (u:KL),e=[.fz (.int (c:Int)),.fz (.tup (ws.map Va)),.fz (.str V4),.fz (.lst ((ws.map (·.1)).map .str)),.fz (.int (i:Int)),.fz (.str (Sy c j i)),u]) (Yv (Z2 (by rw[← hm];exact Z7 rfl (Z7 rfl rfl (Q7 c 8 (by lia))) (Qg 1 _)) rfl) (by lia)) ⟨u,rfl⟩ ?_ ?_)
  ·rintro j d e hj ⟨u,rfl⟩
   obtain⟨M,rfl⟩:=Ux hj;rw[CP];refine⟨_,rfl,?_⟩;have hx:=Pf (j:=(((c / 8+11*j+i) % 26:Nat):Int)) (by lia) (by lia);have hz:Sy c j i++(⟨#[97+(c / 8+11*j+i) % 26]⟩:Str)=Sy c (j+1) i:=j0 (by rw[VN,Sc,Sc,IQ,BK];rfl);have hl:(Sy c j i).length=j:=by rw[← Sr,Sc,AC,BV]
   refine Zi (d:=.str (Sy c (j+1) i)) (Z7 rfl (Z7 rfl (Z7 (Z7 (Z7 (Z7 rfl rfl (Um c 8 (by lia) (by lia))) (Z7 rfl rfl (UB 11 j (by lia))) (Qg _ _)) rfl (Qg _ _)) rfl (Q7 _ 26 (by lia))) hx) ?_) ⟨_,rfl⟩;rw[CA,Cs (by show _+1<=_;lia),hz]
  ·rintro e ⟨u,rfl⟩
   rw[U7];have a:=YI (Sy c m i) kept;refine Q3 (T4 (Y4 (Z7 rfl rfl (YI (Sy c m i) (ws.map (·.1))))) fun _=>Y4 (Z7 rfl rfl a)) (fun U=>?_) (fun U=>Yd ?_)
   ·rw[AV] at U
    have n1:Sy c m i∉ws.map (·.1):=by simpa using U.1
    have n2:Sy c m i∉kept:=by simpa using U.2
    have hl:(Sy c m i).length=m:=by rw[← Sr,Sc,AC,BV]
    exact Zt rfl ⟨_,rfl,n1,B4 _ (by lia) (by lia) (fun x hx=>by
     rw[Sc] at hx;obtain⟨j,_,rfl⟩:=CZ.mp hx;exact⟨_,EI _ (by lia),rfl⟩) n2,m,i,D,rfl⟩
   ·refine⟨_,_,_,rfl,fun k Y=>?_⟩
    rcases DE k i with h | h
    ·exact f k h
    ·obtain rfl:k=i:=by lia
     rw[BQ];by_cases q:Sy c m k∈ws.map (·.1)
     ·exact .inl q
     ·right
      rw[AE q] at U;simpa using U
 ·rintro e ⟨v4,v5,u,rfl,f⟩
  exfalso;rw[U7] at f;have h1:((List.range 26).map (Sy c m)).Nodup:=by
   refine List.pairwise_map.mpr (List.Pairwise.imp_of_mem ?_ HA);intro x y hx hy ac h;exact ac (ll D (CF.mp hx) (CF.mp hy) h)
  have h2:=Ah _ (ws.map (·.1)++kept) h1 fun z hz=>by
   obtain⟨k,Y,rfl⟩:=CZ.mp hz;exact f k (CF.mp Y)
  rw[AC,BV,AN,AC] at h2;have h3:kept.length=5:=rfl;lia
def F7(G:G3)(s:St3):Bool:=match G.wires[s.w]? with
 | some u=>u.2
 | none=>false
theorem Av(h:G.wires[s.w]?=some u):F7 G s=u.2:=by unfold F7;rw[h]
theorem jX(G:G3):On [G.d]=.ok (.lst ((G.wires.map (·.1)).map .str)):=by
 refine W9 (Y3 (n:=1) (p:=1) (ds:=[G.d]) (g:=Hi) (R:=fun d=>d=.lst ((G.wires.map (·.1)).map .str)) rfl ?_);show Go (Hi [.fz G.d]) _ _;unfold Hi;refine Zt (W0 (Ya (xs:=G.wires.map Va) (env':=[.un,.un]) (K9 (Z7 rfl rfl rfl)) rfl (Wp Va (fun w=>.str w.1) G.wires fun w _=>⟨[.fz (.str w.1),.fz (.str (if w.2 then "made" else "given"))],rfl,rfl,rfl⟩))) ?_;rw[DI];rfl
def Wn(G:G3):C3 Nat:=(List.range G.steps.length).filter fun k=>(G.steps[k]?.map (F7 G)).getD false
theorem Jc(h:G.steps[k]?=some s)(hm:F7 G s=true):k∈Wn G :=
 BP.mpr ⟨CF.mpr (AB.mp h).1,by rw[h];exact hm⟩
theorem Sv(G:G3)(hG:Gb 64 G):T5 [G.d]=.ok (.lst (Zc (Wn G))):=by
 refine W9 (Y3 (n:=1) (p:=1) (ds:=[G.d]) (g:=Uz) (R:=fun d=>d=.lst (Zc (Wn G))) rfl ?_);show Go (Uz [.fz G.d]) _ _;unfold Uz;have O:W6 (Y7 0) (dT (Zr Vw (Z1 (dV 1) (Z1 (Zr Ui (Z1 (dV 1) (Z1 (dV 0) Za))) Za)))) (dV 0) [.un,.fz G.d] (rng 0 G.steps.length)=some (Zc (Wn G)):=by
  rw[R1,Vq (fun k:Nat=>Dat.int (k:Int)) (fun k:Nat=>Dat.int (k:Int)) (fun k=>(G.steps[k]?.map (F7 G)).getD false) (List.range G.steps.length) fun k Y=>by
   obtain⟨s,hs⟩:∃ s,G.steps[k]?=some s:=⟨_,AH (CF.mp Y)⟩;have hw:=(hG.st s (AI hs)).w;obtain⟨u,hu⟩:∃ u,G.wires[s.w]?=some u:=⟨_,AH hw⟩;refine⟨[.fz (.int (k:Int)),.fz G.d],rfl,?_,rfl⟩;rw[hs];show _=some (F7 G s);rw[Av hu];exact Us (Ze (xs:=[G.d,.int (s.w:Int)]) (Z2 rfl (Z2 (Ze (xs:=[G.d,.int (k:Int)]) rfl (Li G k s hs)) rfl)) (Dr G s.w u hu)),Ym]
  rfl
 exact Zt (W0 (Ya (xs:=rng 0 G.steps.length) (Yv (Z2 (Ys (Z2 (Z7 rfl rfl rfl) rfl) (Tf St3.d G.steps)) rfl) (by have:=hG.s2;lia)) rfl O)) rfl
def putG(G:G3)(z:Str)(a b x y:Nat)(sa sb:St3):G3 :=
 ⟨G.wires++[(z,true)],(G.steps.set a ⟨sa.w,sa.up,[x],sa.fills⟩).set b ⟨sb.w,sb.up,[y],sb.fills⟩++[⟨G.wires.length,true,sa.takes,[x]⟩,⟨G.wires.length,false,sb.takes,[y]⟩],G.marks,G.code⟩
theorem Xn(s:St3)(x:Nat):Di [s.d,.int (x:Int)]=.ok (⟨s.w,s.up,[x],s.fills⟩:St3).d:=by
 refine W9 (Y3 (n:=2) (p:=2) (ds:=[s.d,.int (x:Int)]) (g:=Rh) (R:=fun d=>d=(⟨s.w,s.up,[x],s.fills⟩:St3).d) rfl ?_);show Go (Rh [.fz s.d,.fz (.int (x:Int))]) _ _;unfold Rh;exact Zt (Y8 (Z2 (Z7 rfl rfl rfl) (Z2 (Z7 rfl rfl rfl) (Z2 (Y8 rfl (by simp)) (Z2 (Z7 rfl rfl rfl) rfl)))) (by simp)) rfl
def Ro(G:G3):Bool:=!(decide (9<G.wires.length)||decide (22<G.steps.length))&&decide (2<=(frees G).length)
theorem Bp(G:G3)(hG:Gb 64 G):E1 [G.d]=.ok (.bl (Ro G)):=by
 refine W9 (Y3 (n:=1) (p:=1) (ds:=[G.d]) (g:=Ji) (R:=fun d=>d=.bl (Ro G)) rfl ?_);show Go (Ji [.fz G.d]) _ _;unfold Ji Ro;refine Z9 (Q3 (b:=decide (9<G.wires.length)||decide (22<G.steps.length)) (Ql (Y4 (Z7 (Ys (Z2 (Z7 rfl rfl rfl) rfl) (Tf Va G.wires)) rfl (by show some (Dat.bl (decide ((9:Int)<(G.wires.length:Int))))=some (.bl (decide (9<G.wires.length)));congr 2;exact EG.mpr (by lia)))) fun _=>Y4 (Z7 (Ys (Z2 (Z7 rfl rfl rfl) rfl) (Tf St3.d G.steps)) rfl (by show some (Dat.bl (decide ((22:Int)<(G.steps.length:Int))))=some (.bl (decide (22<G.steps.length)));congr 2;exact EG.mpr (by lia)))) (fun U=>Zt rfl (by rw[U];rfl)) (fun U=>Yd ?_));rw[U];refine Zt (d:=.bl (decide (2<=(frees G).length))) (Z7 (Ys (Z2 (Ze (xs:=[G.d]) rfl (Ic G hG)) rfl) (Qz _)) rfl ?_) rfl;show some (Dat.bl (decide ((2:Int)<=(((frees G).length:Nat):Int))))=_;congr 2;exact EG.mpr (by lia)
def Yt(G:G3)(z:Str):Bool:=De z&&!decide (z∈G.wires.map (·.1))&&Ro G
theorem Th(G:G3)(hG:Gb 64 G)(z:Str):(Yt G z=true->Uo [G.d,.str z]=.ok .non)/\(Yt G z=false->Uo [G.d,.str z]=.exc "NoPlace" []):=by
 have ag:=Ha (n:=2) (p:=2) (ds:=[G.d,.str z]) (g:=Q5) (R:=fun d=>Yt G z=true/\d=.non) (E:=fun c fl=>Yt G z=false/\c="NoPlace" /\ fl=[]) rfl ?_
 · rcases ag with⟨d,e,h,rfl⟩ | ⟨c,fl,e,h,rfl,rfl⟩
   · exact⟨fun _=>e,fun z=>by rw[h] at z;cases z⟩
   · exact⟨fun z=>(by rw[h] at z;cases z),fun _=>e⟩
 show KI (Q5 [.fz G.d,.fz (.str z)]) _ _ _ _;unfold Q5 Yt;refine Ga (b:=!De z||(decide (z∈G.wires.map (·.1))||!Ro G)) (Ql (Tl (Us (Ze (xs:=[.str z]) rfl (Nl z)))) fun _=>Ql (Y4 (Z7 rfl (Ze (xs:=[G.d]) rfl (jX G)) (YV _ _))) fun _=>Tl (Us (Ze (xs:=[G.d]) rfl (Bp G hG)))) (fun U=>?_) (fun U=>(Yd ?_:Go _ _ _).toE)
 · refine Jg (ds:=[]) rfl rfl ⟨?_,rfl,rfl⟩
   revert U;cases De z<;>cases decide (z∈G.wires.map (·.1))<;>cases Ro G<;>simp
 · refine⟨?_,rfl⟩
   revert U;cases De z<;>cases decide (z∈G.wires.map (·.1))<;>cases Ro G<;>simp
def Hy(i:Int)(ms:C3 Nat):Bool:=ms.any fun k=>decide ((k:Int)=i)
theorem fN(i:Int)(ps:C3 Nat):LP (.int i) (.lst (Zc ps))=some (Hy i ps):=by
 unfold LP;dsimp only;rw[bp,WI,II,AG rfl];congr 1
 unfold Hy;rw[Ym,JB];congr 1
theorem cZ(i:Int)(ps:C3 Nat):Ss (.int i) (.lst (Zc ps))=some (.bl (!Hy i ps)):=by unfold Ss;rw[fN];rfl
theorem nH(a b:Int):Sz (.int a) (.int b)=some (.bl (a==b)):=by unfold Sz Ob;rfl
def Mn(ms:C3 Nat)(i j:Int):Bool:=!(i==j)&&Hy i ms&&Hy j ms
theorem L5(ms:C3 Nat)(i j:Int):(Mn ms i j=true->S5 [.lst (Zc ms),.int i,.int j]=.ok .non)/\(Mn ms i j=false->S5 [.lst (Zc ms),.int i,.int j]=.exc "NoPlace" []):=by
 have ag:=Ha (n:=3) (p:=3) (ds:=[.lst (Zc ms),.int i,.int j]) (g:=J7) (R:=fun d=>Mn ms i j=true/\d=.non) (E:=fun c fl=>Mn ms i j=false/\c="NoPlace" /\ fl=[]) rfl ?_
 · rcases ag with⟨d,e,h,rfl⟩ | ⟨c,fl,e,h,rfl,rfl⟩
   · exact⟨fun _=>e,fun z=>by rw[h] at z;cases z⟩
   · exact⟨fun z=>(by rw[h] at z;cases z),fun _=>e⟩
 show KI (J7 [.fz (.lst (Zc ms)),.fz (.int i),.fz (.int j)]) _ _ _ _;unfold J7 Mn;refine Ga (b:=(i==j)||(!Hy i ms||!Hy j ms)) (Ql (Y4 (Z7 rfl rfl (nH i j))) fun _=>Ql (Y4 (Z7 rfl rfl (cZ i ms))) fun _=>Y4 (Z7 rfl rfl (cZ j ms))) (fun U=>?_) (fun U=>(Yd ?_:Go _ _ _).toE)
 · refine Jg (ds:=[]) rfl rfl ⟨?_,rfl,rfl⟩
   revert U;cases (i==j)<;>cases Hy i ms<;>cases Hy j ms<;>simp
 · refine⟨?_,rfl⟩
   revert U;cases (i==j)<;>cases Hy i ms<;>cases Hy j ms<;>simp
theorem bI(h:a∈ms):Hy (a:Int) ms=true:=DU.mpr ⟨a,h,AJ rfl⟩
theorem WL(h:∀ k∈ms,(k:Int)≠i):Hy i ms=false:=by
 unfold Hy;rw[IN];intro k Y;simpa using h k Y
theorem jw(h:a≠b)(ha:a∈ms)(U:b∈ms):Mn ms (a:Int) (b:Int)=true:=by
 unfold Mn;rw[bI ha,bI U,show((a:Int)==(b:Int))=false from BX.mpr (by lia)];rfl
theorem mf(G:G3)(hG:Gb 64 G)(h9:G.wires.length<=9)(c:G.steps.length<=22){aj:C3 Nat}(hf:frees G=x::y::aj)(z:Str)(hok:Yt G z=true)(a b:Nat)(sa sb:St3)(r:a≠b)(ha:G.steps[a]?=some sa)(U:G.steps[b]?=some sb)(h:F7 G sa=true)(t:F7 G sb=true) :
  Vl [G.d,.str z,.int (a:Int),.int (b:Int)]=.ok (putG G z a b x y sa sb).d:=by
 refine W9 (Y3 (n:=9) (p:=4) (ds:=[G.d,.str z,.int (a:Int),.int (b:Int)]) (g:=Qf) (R:=fun d=>d=(putG G z a b x y sa sb).d) rfl ?_);show Go (Qf [.fz G.d,.fz (.str z),.fz (.int (a:Int)),.fz (.int (b:Int)),.un,.un,.un,.un,.un]) _ _;unfold Qf;have I:=(AB.mp ha).1;have e:=(AB.mp U).1;refine Z9 ⟨?_⟩;rw[S4 (ds:=[G.d,.str z]) rfl ((Th G hG z).1 hok)];show Go _ _ _;refine Z9 ⟨?_⟩;rw[S4 (ds:=[.lst (Zc (Wn G)),.int (a:Int),.int (b:Int)]) (Z2 (Ze (xs:=[G.d]) rfl (Sv G hG)) rfl) ((L5 _ a b).1 (jw r (Jc ha h) (Jc U t)))];show Go _ _ _;refine Z9 (Zi (Ys (Z2 (Z7 rfl rfl rfl) rfl) (Tf Va G.wires)) ?_);refine Z9 (Zi (d:=.lst (Zc (x::y::aj))) (by rw[← hf];exact Ze (xs:=[G.d]) rfl (Ic G hG)) ?_);have x0:Yi (.lst (Zc (x::y::aj))) (.int 0)=some (.int (x:Int)):=Yl (j:=0) rfl;have x1:Yi (.lst (Zc (x::y::aj))) (.int 1)=some (.int (y:Int)):=Yl (j:=1) rfl;refine Z9 (Zi (d:=(⟨G.wires.length,true,sa.takes,[x]⟩:St3).d) (Y8 (Z2 rfl (Z2 rfl (Z2 (Ze (xs:=[G.d,.int (a:Int)]) rfl (Mc G a sa ha)) (Z2 (Y8 (Z2 (Z7 rfl rfl x0) rfl) (by simp)) rfl)))) (by simp)) ?_);refine Z9 (Zi (d:=(⟨G.wires.length,false,sb.takes,[y]⟩:St3).d) (Y8 (Z2 rfl (Z2 rfl (Z2 (Ze (xs:=[G.d,.int (b:Int)]) rfl (Mc G b sb U)) (Z2 (Y8 (Z2 (Z7 rfl rfl x1) rfl) (by simp)) rfl)))) (by simp)) ?_);refine Z9 (Je (ds:=G.steps.map St3.d) (Ys (Z2 (Z7 rfl rfl rfl) rfl) rfl) ?_);refine Z9 (Ip (k:=a) (d:=(⟨sa.w,sa.up,[x],sa.fills⟩:St3).d) rfl (Ze (xs:=[sa.d,.int (x:Int)]) (Z2 (Z7 rfl rfl (Yl (by rw[AM,ha];rfl))) (Z2 (Z7 rfl rfl x0) rfl)) (Xn sa x)) rfl (by rw[AC];exact I) ?_);refine Z9 (Ip (k:=b) (d:=(⟨sb.w,sb.up,[y],sb.fills⟩:St3).d) rfl (Ze (xs:=[sb.d,.int (y:Int)]) (Z2 (Z7 rfl rfl (Yl (by rw[FU r,AM,U];rfl))) (Z2 (Z7 rfl rfl x1) rfl)) (Xn sb y)) rfl (by rw[BH,AC];exact e) ?_);refine Zt (Y8 (Z2 (Z7 (Z7 rfl rfl rfl) (Y8 (xs:=[Va (z,true)]) (Z2 (Y8 rfl (by simp)) rfl) (by simp)) (H9 (by rw[AC];show _+1<=_;lia))) (Z2 (Ys (Z2 (Z7 rfl (W0 (U2 rfl (by simp))) (Ks (by rw[BH,BH,AC];show _+2<=_;lia))) rfl) rfl) (Z2 (Z7 rfl rfl rfl) (Z2 (Z7 rfl rfl rfl) rfl)))) (by simp)) ?_;unfold putG G3.d;simp only[BK,map_set];rfl
theorem nM(G:G3)(hG:Gb 64 G)(z:Str)(i j:Int)(h:Yt G z=false\/Mn (Wn G) i j=false):Vl [G.d,.str z,.int i,.int j]=.exc "NoPlace" []:=by
 refine Kn (n:=9) (p:=4) (g:=Qf) (ds:=[G.d,.str z,.int i,.int j]) (e:=[.fz G.d,.fz (.str z),.fz (.int i),.fz (.int j),.un,.un,.un,.un,.un]) rfl ?_;show Qf [.fz G.d,.fz (.str z),.fz (.int i),.fz (.int j),.un,.un,.un,.un,.un]=_;unfold Qf;cases Z:Yt G z with
 | false=>rw[Zf,Gn (ds:=[G.d,.str z]) rfl ((Th G hG z).2 Z)]
 | true =>
  have h2:Mn (Wn G) i j=false:=by rcases h with h | h;rw[Z] at h;cases h;exact h
  rw[Zf,S4 (ds:=[G.d,.str z]) rfl ((Th G hG z).1 Z)];dsimp only;rw[Zf,Gn (ds:=[.lst (Zc (Wn G)),.int i,.int j]) (Z2 (Ze (xs:=[G.d]) rfl (Sv G hG)) rfl) ((L5 _ i j).2 h2)]
theorem gR(h1:Vl [G.d,.str z,.int i,.int j]=.exc c fl):Jz [G.d,.str z,.int i,.int j,.int (most:Int)]=.exc c fl:=by
 refine Kn (n:=5) (p:=5) (g:=My) (ds:=[G.d,.str z,.int i,.int j,.int (most:Int)]) (e:=[.fz G.d,.fz (.str z),.fz (.int i),.fz (.int j),.fz (.int (most:Int))]) rfl ?_;show My [.fz G.d,.fz (.str z),.fz (.int i),.fz (.int j),.fz (.int (most:Int))]=_;unfold My Nt;rw[show RO 4 (Z1 (dV 0) (Z1 (dV 1) (Z1 (dV 2) (Z1 (dV 3) Za)))) (Z1 (dV 4) Za) [.fz G.d,.fz (.str z),.fz (.int i),.fz (.int j),.fz (.int (most:Int))]=some [G.d,.str z,.int i,.int j,.int (most:Int)] from rfl];dsimp only;unfold RP;rw[show List.take 4 [G.d,Dat.str z,.int i,.int j,.int (most:Int)]=[G.d,.str z,.int i,.int j] from rfl,h1]
theorem jI{P:G3}{b:Bool}(h1:Vl [G.d,.str z,.int i,.int j]=.ok P.d)(h2:Q4 [P.d,.int (most:Int)]=.ok (.bl b)):Jz [G.d,.str z,.int i,.int j,.int (most:Int)]=.ok (.bl b):=by
 refine bR (n:=5) (p:=5) (g:=My) (ds:=[G.d,.str z,.int i,.int j,.int (most:Int)]) rfl ?_;show My [.fz G.d,.fz (.str z),.fz (.int i),.fz (.int j),.fz (.int (most:Int))]=_;unfold My Nt;rw[show RO 4 (Z1 (dV 0) (Z1 (dV 1) (Z1 (dV 2) (Z1 (dV 3) Za)))) (Z1 (dV 4) Za) [.fz G.d,.fz (.str z),.fz (.int i),.fz (.int j),.fz (.int (most:Int))]=some [G.d,.str z,.int i,.int j,.int (most:Int)] from rfl];dsimp only;unfold RP;rw[show List.take 4 [G.d,Dat.str z,.int i,.int j,.int (most:Int)]=[G.d,.str z,.int i,.int j] from rfl,h1];dsimp only;rw[show List.drop 4 [G.d,Dat.str z,.int i,.int j,.int (most:Int)]=[.int (most:Int)] from rfl,h2]
theorem eR(hG:Gb 64 G)(most:Nat)(D:1<=most)(A:most<=400):∃ b:Bool,Q4 [G.d,.int (most:Int)]=.ok (.bl b):=by
 rcases jg hG most D A with⟨ac,es,W⟩ | ⟨c,fl,es,O⟩
 ·rcases ku hG A es W with⟨d,j,hq⟩ | ⟨c,fl,j,rfl,hq⟩
  ·exact⟨true,eK j⟩
  ·exact⟨false,cL j (by unfold Lm;simp)⟩
 ·exact⟨false,cL (nV es) O⟩
theorem mb(U:Gb 64 G)(h5:G.wires.length<=9)(c:G.steps.length<=22)(hx:x<64)(hy:y<64){sa sb:St3}(ha:G.steps[a]?=some sa)(D:G.steps[b]?=some sb)(z:Str):Gb 64 (putG G z a b x y sa sb) where
 w2:=by show(G.wires++[(z,true)]).length<=10;rw[AN];show _+1<=10;lia
 s1:=by show 1<=((G.steps.set a _).set b _++[_,_]).length;rw[AN];show 1<=_+2;lia
 s2:=by show((G.steps.set a _).set b _++[_,_]).length<=24;rw[AN,BH,BH];show _+2<=24;lia
 mks:=U.mks
 st:=fun s hs=>by
  have S:(putG G z a b x y sa sb).wires.length=G.wires.length+1:=by show(G.wires++[(z,true)]).length=_;rw[AN];rfl
  rw[S];have F:∀ s∈G.steps,SB 64 (G.wires.length+1) s:=fun s hs=>⟨Nat.lt_succ_of_lt (U.st s hs).w,(U.st s hs).t,(U.st s hs).f,(U.st s hs).tn,(U.st s hs).fn⟩
  have C:=F sa (AI ha);have ob:=F sb (AI D);have one:∀ v:Nat,v<64->∀ p∈[v],p<64:=fun v hv p hp=>by rw[AL.mp hp];exact hv
  have d:∀ v:Nat,[v].Nodup:=fun v=>DB.mpr ⟨by simp,EQ⟩
  rcases BQ.mp (show s∈(G.steps.set a ⟨sa.w,sa.up,[x],sa.fills⟩).set b ⟨sb.w,sb.up,[y],sb.fills⟩++[⟨G.wires.length,true,sa.takes,[x]⟩,⟨G.wires.length,false,sb.takes,[y]⟩] from hs) with q | q
  ·rcases DP q with q | q
   ·rcases DP q with q | q
    ·exact F s q
    ·rw[q];exact⟨C.w,one x hx,C.f,d x,C.fn⟩
   ·rw[q];exact⟨ob.w,one y hy,ob.f,d y,ob.fn⟩
  ·rcases BI.mp q with q | q
   ·rw[q];exact⟨GG _,C.t,one x hx,C.tn,d x⟩
   ·rw[AL.mp q];exact⟨GG _,ob.t,one y hy,ob.tn,d y⟩
theorem kS(h:Yt G z=true):G.wires.length<=9/\G.steps.length<=22/\∃ x y aj,frees G=x::y::aj/\x<64/\y<64:=by
 unfold Yt at h;have Z:=(DY.mp h).2;unfold Ro at Z;obtain⟨h1,h2⟩:=DY.mp Z;have h2:=BF h2;have h3:¬ 9<G.wires.length/\¬ 22<G.steps.length:=by
  revert h1;by_cases a1:9<G.wires.length<;>by_cases a2:22<G.steps.length<;>simp[a1,a2]
 refine⟨by lia,by lia,?_⟩;have hm:∀ q∈frees G,q<64:=fun q hq=>CF.mp (BP.mp hq).1
 match hf:frees G,h2 with
 | x::y::aj,_=>exact⟨x,y,aj,rfl,hm x (by rw[hf];exact AW),hm y (by rw[hf];exact AX _ AW)⟩
theorem cg(G:G3)(hG:Gb 64 G)(z:Str)(hok:Yt G z=true)(a b:Nat)(r:a≠b)(ha:a∈Wn G)(U:b∈Wn G)(most:Nat)(D:1<=most)(A:most<=400):∃ (P:G3) (f:Bool),Vl [G.d,.str z,.int (a:Int),.int (b:Int)]=.ok P.d/\Jz [G.d,.str z,.int (a:Int),.int (b:Int),.int (most:Int)]=.ok (.bl f):=by
 obtain⟨h9,c,x,y,aj,hf,hx,hy⟩:=kS hok;have get:∀ k∈Wn G,∃ s,G.steps[k]?=some s/\F7 G s=true:=fun k Y=>by
  obtain⟨h1,h2⟩:=BP.mp Y;have e:=AH (CF.mp h1);rw[e] at h2;exact⟨_,e,h2⟩
 obtain⟨sa,ea,h⟩:=get a ha;obtain⟨sb,F,t⟩:=get b U;have e:=mf G hG h9 c hf z hok a b sa sb r ea F h t;obtain⟨f,h1⟩:=eR (mb hG h9 c hx hy ea F z) most D A;exact⟨_,f,e,jI e h1⟩
theorem X8(G:G3)(hG:Gb 64 G)(z:Str)(hok:Yt G z=true)(es:V5 [G.d,.int 60]=.ok d0):∃ d,Rk [G.d,.str z,.int 60]=.ok d:=by
 have y:=hG.s2;have:=Y3 (n:=6) (p:=3) (ds:=[G.d,.str z,.int 60]) (g:=Qc) (R:=fun _=>True) rfl ?_
 ·obtain⟨d,e,_⟩:=this
  exact⟨d,e⟩
 show Go (Qc [.fz G.d,.fz (.str z),.fz (.int 60),.un,.un,.un]) _ _;unfold Qc;refine Z9 ⟨?_⟩;rw[S4 (ds:=[G.d,.int 60]) rfl es];show Go _ _ _;refine Z9 ⟨?_⟩;rw[S4 (ds:=[G.d,.str z]) rfl ((Th G hG z).1 hok)];show Go _ _ _;refine Z9 (Zi (Ze (xs:=[G.d]) rfl (Sv G hG)) ?_);refine Z9 (Te (ds:=Zc (Wn G)) (fun i e=>∃ v4 v5:KL,e=[.fz G.d,.fz (.str z),.fz (.int 60),.fz (.lst (Zc (Wn G))),v4,v5]) rfl ⟨.un,.un,rfl⟩ ?_ ?_)
 ·rintro i d e hi ⟨v4,v5,rfl⟩
  obtain⟨a,ha,rfl⟩:=Ez hi;have c:=AI ha;refine⟨_,rfl,?_⟩;refine Te (ds:=Zc (Wn G)) (fun i e=>∃ v5:KL,e=[.fz G.d,.fz (.str z),.fz (.int 60),.fz (.lst (Zc (Wn G))),.fz (.int (a:Int)),v5]) rfl ⟨v5,rfl⟩ ?_ ?_
  ·rintro j d e hj ⟨v5,rfl⟩
   obtain⟨b,U,rfl⟩:=Ez hj;have W:=AI U;refine⟨_,rfl,?_⟩;by_cases r:a=b
   ·refine To (T4 (a:=false) (b:=false) (Y4 (Z7 rfl rfl ((VA _ _).trans (by rw[r];simp)))) (fun z=>by cases z)) (Yd ⟨_,rfl⟩)
   ·obtain⟨P,f,h1,h2⟩:=cg G hG z hok a b r c W 60 (by lia) (by lia)
    refine Q3 (T4 (a:=true) (b:=f) (Y4 (Z7 rfl rfl ((VA _ _).trans (by rw[show((a:Int)==(b:Int))=false from BX.mpr (by lia)];rfl)))) fun _=>Us (Ze (xs:=[G.d,.str z,.int (a:Int),.int (b:Int),.int ((60:Nat):Int)]) rfl h2)) (fun _=>?_) (fun _=>Yd ⟨_,rfl⟩);exact Zt (Y8 (Z2 rfl (Z2 rfl (Z2 (Ze (xs:=[G.d,.str z,.int (a:Int),.int (b:Int)]) rfl h1) rfl))) (by simp)) trivial
  ·rintro e ⟨v5,rfl⟩;exact⟨_,_,rfl⟩
 ·rintro e ⟨v4,v5,rfl⟩
  exact Zt rfl trivial
theorem Ho(G:G3)(hG:Gb 64 G)(z:Str)(hok:Yt G z=false)(es:V5 [G.d,.int 60]=.ok d0):Rk [G.d,.str z,.int 60]=.exc "NoPlace" []:=by
 refine Kn (n:=6) (p:=3) (g:=Qc) (ds:=[G.d,.str z,.int 60]) (e:=[.fz G.d,.fz (.str z),.fz (.int 60),.un,.un,.un]) rfl ?_;show Qc [.fz G.d,.fz (.str z),.fz (.int 60),.un,.un,.un]=_;unfold Qc;rw[Zf,S4 (ds:=[G.d,.int 60]) rfl es];dsimp only;rw[Zf,Gn (ds:=[G.d,.str z]) rfl ((Th G hG z).2 hok)]
def MM:Dat:=.exc "NoPlace" []
theorem G8:Wt [MM]=.ok (.bl true):=by
 refine W9 (Y3 (n:=2) (p:=1) (ds:=[MM]) (g:=Vh) (R:=fun d=>d=.bl true) rfl ?_);show Go (Vh [.fz MM,.un]) _ _;unfold Vh;have ix:∀ (T:Str) (b:Bool) (env:Ev),env[0]?=some (.fz MM)->Qm JR T "NoPlace" = some b->LK (Qm JR T) (dV 0) env=some (.bl b):=fun T b env h0 h=>WX (c:="NoPlace") (fl:=[]) (by unfold dV;rw[h0];rfl) h
 refine Z9 (Je (ds:=[.bl false,.bl false,.bl false]) (U2 (Z2 (ix _ false _ rfl (by decide +kernel)) (Z2 (ix _ false _ rfl (by decide +kernel)) (Z2 (ix _ false _ rfl (by decide +kernel)) rfl))) (by simp)) ?_);refine Z9 (Je (ds:=[.bl false,.bl false,.bl false,.bl false,.bl false,.bl false]) (Z7 rfl (W0 (U2 (Z2 (ix _ false _ rfl (by decide +kernel)) (Z2 (ix _ false _ rfl (by decide +kernel)) (Z2 (ix _ false _ rfl (by decide +kernel)) rfl))) (by simp))) rfl) ?_);refine Z9 (R5 (ds:=[.bl false,.bl false,.bl false,.bl false,.bl false,.bl false]) (as:=[.bl false]) (ds':=[.bl false,.bl false,.bl false,.bl false,.bl false,.bl false,.bl false]) rfl (Z2 (ix _ false _ rfl (by decide +kernel)) rfl) (Qx (by simp)) ?_);refine Zt (Ao (ix _ true _ rfl (by decide +kernel)) (Ao (WX (c:="NoPlace") (fl:=[]) rfl (by decide +kernel)) (li (b:=false) (Ys (Z2 rfl rfl) rfl)))) rfl
theorem XI(e:t env=some true):Qp t g h env=g env:=by unfold Qp;rw[e]
theorem cs(e:t env=some false):Qp t g h env=h env:=by unfold Qp;rw[e]
theorem Lv(e:fs env=some ds):U5 F fs env=match F ds with | .ok _=>.next env | .exc c fl=>.exc env c fl | .no=>.no:=by
 unfold U5;rw[e];try (dsimp only;cases F ds<;>rfl)
def D5(k:Nat)(G:G3)(z:Str)(i j:Int):Rs:=if k=0 then Vl [G.d,.str z,.int i,.int j] else if k=1 then Jz [G.d,.str z,.int i,.int j,.int 60] else Rk [G.d,.str z,.int 60]
theorem J8(k:Nat)(Y:k<3)(G:G3)(z:Str)(i j:Int):(∀ d,D5 k G z i j=.ok d->Yr [.int (k:Int),G.d,.str z,.int i,.int j]=.ok .non)/\(D5 k G z i j=.exc "NoPlace" []->Yr [.int (k:Int),G.d,.str z,.int i,.int j]=.ok MM):=by
 obtain⟨body,a⟩:∃ b:Ev->Fl,b=(Qp (dB (dO Sz (dV 0) (dC (.int 0)))) (U5 Vl (Z1 (dV 1) (Z1 (dV 2) (Z1 (dV 3) (Z1 (dV 4) Za))))) (Qp (dB (dO Sz (dV 0) (dC (.int 1)))) (U5 Jz (Z1 (dV 1) (Z1 (dV 2) (Z1 (dV 3) (Z1 (dV 4) (Z1 (dC (.int 60)) Za)))))) (U5 Rk (Z1 (dV 1) (Z1 (dV 2) (Z1 (dC (.int 60)) Za)))))):=⟨_,rfl⟩;let env:Ev:=[.fz (.int (k:Int)),.fz G.d,.fz (.str z),.fz (.int i),.fz (.int j),.fz .non,.un]
 have U:∀ r:Rs,D5 k G z i j=r->body env=match r with | .ok _=>.next env | .exc c fl=>.exc env c fl | .no=>.no:=fun r Z=>by
  rw[a];have t0:dB (dO Sz (dV 0) (dC (.int 0))) env=some (k==0):=Y4 (Z7 rfl rfl (LS k 0));have S:dB (dO Sz (dV 0) (dC (.int 1))) env=some (k==1):=Y4 (Z7 rfl rfl (LS k 1));unfold D5 at Z;by_cases h0:k=0
  ·rw[AG h0] at Z
   rw[XI (t0.trans (by rw[h0];rfl)),Lv (ds:=[G.d,.str z,.int i,.int j]) rfl,Z]
  ·rw[AQ h0] at Z
   rw[cs (t0.trans (by rw[show(k==0)=false from BX.mpr h0]))];by_cases h1:k=1
   ·rw[AG h1] at Z
    rw[XI (S.trans (by rw[h1];rfl)),Lv (ds:=[G.d,.str z,.int i,.int j,.int 60]) rfl,Z]
   ·rw[AQ h1] at Z
    rw[cs (S.trans (by rw[show(k==1)=false from BX.mpr h1])),Lv (ds:=[G.d,.str z,.int 60]) rfl,Z]
 constructor
 ·intro d hd
  refine W9 (Y3 (n:=7) (p:=5) (ds:=[.int (k:Int),G.d,.str z,.int i,.int j]) (g:=Wj) (R:=fun d=>d=.non) rfl ?_);show Go (Wj [.fz (.int (k:Int)),.fz G.d,.fz (.str z),.fz (.int i),.fz (.int j),.un,.un]) _ _;unfold Wj;rw[← a];refine Z9 (Zi (d:=.non) rfl ?_);refine Z9 (lC (e':=env) (U _ hd) ?_);exact Zt rfl rfl
 ·intro hd
  refine W9 (Y3 (n:=7) (p:=5) (ds:=[.int (k:Int),G.d,.str z,.int i,.int j]) (g:=Wj) (R:=fun d=>d=MM) rfl ?_);show Go (Wj [.fz (.int (k:Int)),.fz G.d,.fz (.str z),.fz (.int i),.fz (.int j),.un,.un]) _ _;unfold Wj;rw[← a];refine Z9 (Zi (d:=.non) rfl ?_);refine Z9 (d4 (e':=env) (c:="NoPlace") (fl:=[]) (e3:=[.fz (.int (k:Int)),.fz G.d,.fz (.str z),.fz (.int i),.fz (.int j),.fz MM,.fz MM]) (U _ hd) (by decide +kernel) rfl ?_);exact Zt rfl rfl
theorem nP{b:Bool}(e:t env=some b)(q1:b=true->M' (g env) N R)(q2:b=false->M' (h env) N R):M' (Qp t g h env) N R:=by
 unfold Qp;rw[e];cases b with
 | true=>exact q1 rfl
 | false=>exact q2 rfl
theorem UJ(a b:Nat):MN (.int (a:Int)) (.int (b:Int))=some (.bl (decide (b<a))):=by
 show some (Dat.bl (decide ((b:Int)<(a:Int))))=_;congr 2;exact EG.mpr (by lia)
theorem ml{g:Zzu}{a b:Bool}(h1:f env=some (.bl a))(h2:g env=some (.bl b)):NR f g env=some (.bl (a||b)):=Bm h1 h2
theorem Fx(G:G3)(z:Str)(i j:Int)(m:Nat)(hm:m<=8)(h:∀ k,k<3->(k<2\/m=0\/m=1\/m=6)->(m=0->∃ d,D5 k G z i j=.ok d)/\(0<m->D5 k G z i j=.exc "NoPlace" [])) :
   Yf [G.d,.str z,.int i,.int j,.int (m:Int)]=.ok (.bl true):=by
 refine W9 (Y3 (n:=8) (p:=5) (ds:=[G.d,.str z,.int i,.int j,.int (m:Int)]) (g:=Ta) (R:=fun d=>d=.bl true) rfl ?_);show Go (Ta [.fz G.d,.fz (.str z),.fz (.int i),.fz (.int j),.fz (.int (m:Int)),.un,.un,.un]) _ _;unfold Ta;refine Z9 (Zi (d:=.lst [.bl (decide (0<m)),.bl (decide (0<m)),.bl ((m==1)||decide (5<m))]) (W0 (U2 (Z2 (Z7 rfl rfl (UJ m 0)) (Z2 (Z7 rfl rfl (UJ m 0)) (Z2 (ml (Z7 rfl rfl (LS m 1)) (Z7 rfl rfl (UJ m 5))) rfl))) (by simp))) ?_);refine Z9 (j8 (ds:=rng 0 3) (fun k e=>∃ u w:KL,e=[.fz G.d,.fz (.str z),.fz (.int i),.fz (.int j),.fz (.int (m:Int)),.fz (.lst [.bl (decide (0<m)),.bl (decide (0<m)),.bl ((m==1)||decide (5<m))]),u,w]) (Yv (Z2 rfl rfl) (by lia)) ⟨.un,.un,rfl⟩ ?_ ?_)
 · rintro k d e Y ⟨u,w,rfl⟩
   obtain⟨f,rfl⟩:=Ux Y;rw[CP];refine⟨[.fz G.d,.fz (.str z),.fz (.int i),.fz (.int j),.fz (.int (m:Int)),.fz (.lst [.bl (decide (0<m)),.bl (decide (0<m)),.bl ((m==1)||decide (5<m))]),.fz (.int (k:Int)),w],rfl,?_⟩;have x2:Yi (.lst [.bl (decide (0<m)),.bl (decide (0<m)),.bl ((m==1)||decide (5<m))]) (.int 2)=some (.bl ((m==1)||decide (5<m))):=Yl (j:=2) rfl;have r:OE (.int (k:Int)) (.int 2)=some (.bl (decide (k<2))):=by
     show some (Dat.bl (decide ((k:Int)<2)))=_;congr 2;exact EG.mpr (by lia)
   refine nP (Ql (Y4 (Z7 rfl rfl r)) fun _=>Ql (Us (Z7 rfl rfl x2)) fun _=>Y4 (Z7 rfl rfl (LS m 0))) (fun U=>?_) (fun U=>(Yd ⟨_,_,rfl⟩:Go _ _ _).toC);refine iA (T4 (Y4 (Z7 rfl rfl (LS k 2))) fun _=>Y4 (Z7 rfl rfl (UJ m 6))) (fun _=>⟨_,_,rfl⟩) (fun hn=>?_);have o:k<2\/(m=1\/5<m)\/m=0:=by simpa using U
   have F:k=2->m<=6:=by simpa using hn
   have c:k<2\/m=0\/m=1\/m=6:=by
     rcases o with q | (q | q) | q
     · exact .inl q
     · exact .inr (.inr (.inl q))
     · rcases DE k 2 with z | z
       · exact .inl z
       · have:=F (by lia);lia
     · exact .inr (.inl q)
   obtain⟨g1,g2⟩:=h k f c;have l:Yi (.lst [.bl (decide (0<m)),.bl (decide (0<m)),.bl ((m==1)||decide (5<m))]) (.int (k:Int))=some (.bl (decide (0<m))):=by
     match k,f with
     | 0,_=>exact Yl (j:=0) rfl
     | 1,_=>exact Yl (j:=1) rfl
     | 2,_ =>
       have hm6:=F rfl;have e:((m==1)||decide (5<m))=decide (0<m):=by
         have s:m=0\/m=1\/m=6:=by lia
         rcases s with rfl | rfl | rfl<;>rfl
       rw[← e];exact Yl (j:=2) (by rw[e];rfl)
   obtain⟨c1,c2⟩:=J8 k f G z i j;rcases DK m with P | P
   · obtain⟨d,hd⟩:=g1 P
     refine ZV (Zi (d:=.non) (Ze (xs:=[.int (k:Int),G.d,.str z,.int i,.int j]) rfl (c1 d hd)) ?_);refine(To (Ql (a:=false) (b:=false) (T4 (a:=false) (b:=false) (Us (Z7 rfl rfl (l.trans (by rw[AE (by lia)])))) (fun z=>by cases z)) fun _=>T4 (a:=true) (b:=false) (Tl (b:=false) (Us (Z7 rfl rfl (l.trans (by rw[AE (by lia)]))))) fun _=>Y4 (Z7 rfl rfl rfl)) (Yd ⟨_,_,rfl⟩):Go _ _ _).toC
   · refine ZV (Zi (d:=MM) (Ze (xs:=[.int (k:Int),G.d,.str z,.int i,.int j]) rfl (c2 (g2 P))) ?_)
     refine(To (Ql (a:=false) (b:=false) (T4 (a:=true) (b:=false) (Us (Z7 rfl rfl (l.trans (by rw[AJ P])))) (fun _=>Tl (b:=true) (Us (Ze (xs:=[MM]) rfl G8)))) fun _=>T4 (a:=false) (b:=false) (Tl (b:=true) (Us (Z7 rfl rfl (l.trans (by rw[AJ P]))))) (fun z=>by cases z)) (Yd ⟨_,_,rfl⟩):Go _ _ _).toC
 · rintro e ⟨u,w,rfl⟩
   exact Zt rfl rfl
theorem Pr(G:G3)(z:Str)(i j:Int)(h0:∃ d,D5 0 G z i j=.ok d)(h1:∃ d,D5 1 G z i j=.ok d):Me [G.d,.str z,.int i,.int j]=.ok (.bl true):=by
 refine W9 (Y3 (n:=4) (p:=4) (ds:=[G.d,.str z,.int i,.int j]) (g:=Tu) (R:=fun d=>d=.bl true) rfl ?_);show Go (Tu [.fz G.d,.fz (.str z),.fz (.int i),.fz (.int j)]) _ _;unfold Tu;obtain⟨d0,h0⟩:=h0;obtain⟨f,h1⟩:=h1;exact Zt (Ao (Z7 (Ze (xs:=[.int ((0:Nat):Int),G.d,.str z,.int i,.int j]) rfl ((J8 0 (by lia) G z i j).1 d0 h0)) rfl rfl) (Z7 (Ze (xs:=[.int ((1:Nat):Int),G.d,.str z,.int i,.int j]) rfl ((J8 1 (by lia) G z i j).1 f h1)) rfl rfl)) rfl
def SX:C3 Str:=["","abcdefghi","Ab","a1","a b","given","made","up","down","start"," a","a-"]
theorem kg:∀ z∈SX,De z=false:=by decide +kernel
theorem cr(h:De z=false\/z∈G.wires.map (·.1)):Yt G z=false:=by
 unfold Yt;rcases h with h | h
 ·rw[h];rfl
 ·rw[AJ h];simp
theorem O4(c:Nat)(G:G3)(hw:G.wires.length<=10):∃ z:Str,Vg [.int (c:Int),G.d]=.ok (.str z)/\Yt G z=false:=by
 have:=Y3 (n:=3) (p:=2) (ds:=[.int (c:Int),G.d]) (g:=Vd) (R:=fun d=>∃ z:Str,d=.str z/\Yt G z=false) rfl ?_
 ·obtain⟨d,e,z,rfl,h⟩:=this
  exact⟨z,e,h⟩
 show Go (Vd [.fz (.int (c:Int)),.fz G.d,.un]) _ _;unfold Vd;refine Z9 (Zi (d:=.lst (SX.map .str)) (W0 (U2 rfl (by rw[AC];decide))) ?_);have O:W6 (Y7 0) V6 (dO Yi (dV 0) (dC (.int 0))) [.un] (G.wires.map Va)=some ((G.wires.map (·.1)).map .str):=by
  rw[Wp Va (fun w=>.str w.1) G.wires fun w _=>⟨[.fz (Va w)],rfl,rfl,Z7 rfl rfl rfl⟩,DI];rfl
 have a:QW (.lst ((G.wires.map (·.1)).map .str)) (.int 2)=some ((G.wires.map (·.1)++G.wires.map (·.1)).map .str):=by
  unfold QW;dsimp only;rw[AG ⟨rfl,by rw[AC,AC];lia⟩,BK]
 refine Z9 (Zi (d:=.lst ((SX++(G.wires.map (·.1)++G.wires.map (·.1))).map .str)) (Z7 rfl (W0 (Z7 (W0 (Ya (xs:=G.wires.map Va) (K9 (Z7 rfl rfl rfl)) rfl O)) rfl a)) (by rw[Ks (by simp only[AC,AN];show 12+_<=1000;lia),← BK])) ?_);obtain⟨L,f⟩:∃ L,SX++(G.wires.map (·.1)++G.wires.map (·.1))=L:=⟨_,rfl⟩;have hl:12<=L.length:=by rw[← f,AN];show 12<=12+_;lia
 have ai:∀ z∈L,Yt G z=false:=fun z hz=>by
  rw[← f] at hz;rcases BQ.mp hz with q | q
  ·exact cr (.inl (kg z q))
  ·rcases BQ.mp q with q | q<;>exact cr (.inr q)
 rw[f];obtain⟨z,hz⟩:∃ z,L[c % L.length]?=some z:=⟨_,AH (EI _ (by lia))⟩;exact Zt (Z7 rfl (Z7 rfl (Ys (Z2 rfl rfl) (Ko Dat.str L)) (Q7 c L.length (by lia))) (Yl (by rw[AM,hz];rfl))) ⟨z,rfl,ai z (AI hz)⟩
def Of(x:Nat):Str:=⟨#[x,x,x,x,x,x,x,x]⟩
theorem kT:∀ k:Nat,k<10->dO Es (dO Yi (dC (.str "abcdefghij")) (dV 0)) (dC (.int 8)) [.fz (.int (k:Int))]=some (.str (Of (97+k)))
 | 0,_=>by rfl
 | 1,_=>by rfl
 | 2,_=>by rfl
 | 3,_=>by rfl
 | 4,_=>by rfl
 | 5,_=>by rfl
 | 6,_=>by rfl
 | 7,_=>by rfl
 | 8,_=>by rfl
 | 9,_=>by rfl
 | k+10,h=>by lia
theorem da{c:Nat}(h:Sy c m k=Of x):False:=by
 have e:=CV cl h;rw[Sc] at e;have e':(List.range m).map (fun j=>97+(c / 8+11*j+k) % 26)=[x,x,x,x,x,x,x,x]:=e;have hm:m=8:=by have:=CV List.length e';simpa using this
 subst hm;have h0:=CV (fun l=>l[0]?) e';have h1:=CV (fun l=>l[1]?) e';simp[AM,ES] at h0 h1;lia
theorem RT(a b:Nat)(h:b<=a):G4 (.int (a:Int)) (.int (b:Int))=some (.int ((a - b:Nat):Int)):=by
 show some (Dat.int ((a:Int) - (b:Int)))=_;congr 2;lia
def G6(G:G3)(k:Nat):G3:=⟨G.wires++(List.range k).map fun i=>(Of (97+i),true),G.steps,G.marks,G.code⟩
theorem VP(G:G3)(c l:Nat)(hl:l<=1)(hw:G.wires.length<=9):Wl [G.d,.int 6,.int (c:Int),.int (l:Int)]=.ok (G6 G (10 - l - G.wires.length)).d:=by
 refine W9 (Y3 (n:=12) (p:=4) (ds:=[G.d,.int 6,.int (c:Int),.int (l:Int)]) (g:=Wb) (R:=fun d=>d=(G6 G (10 - l - G.wires.length)).d) rfl ?_);show Go (Wb [.fz G.d,.fz (.int 6),.fz (.int (c:Int)),.fz (.int (l:Int)),.un,.un,.un,.un,.un,.un,.un,.un]) _ _;unfold Wb;refine Z9 (VV (d:=G.d) (env':=[.fz G.d,.fz (.int 6),.fz (.int (c:Int)),.fz (.int (l:Int)),.fz (.tup (G.wires.map Va)),.fz (.tup (G.steps.map St3.d)),.fz (.int (G.marks:Int)),.fz (.int (G.code:Int)),.un,.un,.un,.un]) rfl rfl ?_);refine Z9 (Q3 (b:=true) (Y4 (Z7 rfl rfl rfl)) (fun _=>?_) (fun z=>by cases z));obtain⟨k,Y⟩:∃ k,10 - l - G.wires.length=k:=⟨_,rfl⟩;have f:W6 (Y7 0) V6 (dO Es (dO Yi (dC (.str "abcdefghij")) (dV 0)) (dC (.int 8))) [.un] (rng 0 k)=some ((List.range k).map fun i=>Dat.str (Of (97+i))):=by
  rw[R1];exact Wp (fun i:Nat=>Dat.int (i:Int)) (fun i=>.str (Of (97+i))) (List.range k) fun i hi=>⟨[.fz (.int (i:Int))],rfl,rfl,kT i (by have:=CF.mp hi;lia)⟩
 have r:dO G4 (dO G4 (dC (.int 10)) (dV 3)) (dF Vb (Z1 (dV 4) Za)) [.fz G.d,.fz (.int 6),.fz (.int (c:Int)),.fz (.int (l:Int)),.fz (.tup (G.wires.map Va)),.fz (.tup (G.steps.map St3.d)),.fz (.int (G.marks:Int)),.fz (.int (G.code:Int)),.un,.un,.un,.un]=some (.int (k:Int)):=by
  rw[← Y];exact Z7 (Z7 rfl rfl (RT 10 l (by lia))) (Ys (Z2 rfl rfl) (Tf Va G.wires)) (RT _ _ (by lia))
 refine Z9 (Zi (d:=.lst ((List.range k).map fun i=>Dat.str (Of (97+i)))) (W0 (Ya (xs:=rng 0 k) (Yv (Z2 r rfl) (by lia)) rfl f)) ?_);have D:W6 (Y7 0) V6 (Wz (Z1 (dV 0) (Z1 (dC (.str "made")) Za))) [.un] ((List.range k).map fun i=>Dat.str (Of (97+i)))=some ((List.range k).map fun i=>Va (Of (97+i),true)) :=
  Wp (fun i:Nat=>Dat.str (Of (97+i))) (fun i=>Va (Of (97+i),true)) (List.range k) fun i _=>⟨[.fz (.str (Of (97+i)))],rfl,rfl,Y8 rfl (by simp)⟩
 refine Zt (Y8 (Z2 (Z7 rfl (Ys (Z2 (W0 (Ya (xs:=(List.range k).map fun i=>Dat.str (Of (97+i))) (Ap rfl) rfl D)) rfl) rfl) (H9 (by rw[AC,AC,BV];lia))) rfl) (by simp)) ?_;rw[Y];unfold G6 G3.d;rw[BK,DI];rfl
theorem ZI(G:G3)(c l:Nat)(hl:l<=1)(h1:1<=G.steps.length)(hs:G.steps.length<=22):∃ ak:C3 St3,Wl [G.d,.int 8,.int (c:Int),.int (l:Int)]=.ok (⟨G.wires,G.steps++ak,G.marks,G.code⟩:G3).d/\(∀ s∈ak,s∈G.steps)/\G.steps.length+ak.length=23 - l:=by
 have:=Y3 (n:=12) (p:=4) (ds:=[G.d,.int 8,.int (c:Int),.int (l:Int)]) (g:=Wb) (R:=fun d=>∃ ak:C3 St3,d=(⟨G.wires,G.steps++ak,G.marks,G.code⟩:G3).d/\(∀ s∈ak,s∈G.steps)/\G.steps.length+ak.length=23 - l) rfl ?_
 ·obtain⟨d,e,ak,rfl,h⟩:=this
  exact⟨ak,e,h⟩
 show Go (Wb [.fz G.d,.fz (.int 8),.fz (.int (c:Int)),.fz (.int (l:Int)),.un,.un,.un,.un,.un,.un,.un,.un]) _ _;unfold Wb;refine Z9 (VV (d:=G.d) (env':=[.fz G.d,.fz (.int 8),.fz (.int (c:Int)),.fz (.int (l:Int)),.fz (.tup (G.wires.map Va)),.fz (.tup (G.steps.map St3.d)),.fz (.int (G.marks:Int)),.fz (.int (G.code:Int)),.un,.un,.un,.un]) rfl rfl ?_);refine Z9 (To (Y4 (Z7 rfl rfl rfl)) (Yd ?_));refine Z9 (To (Y4 (Z7 rfl rfl rfl)) (Yd ?_));obtain⟨k,Y⟩:∃ k,23 - l - G.steps.length=k:=⟨_,rfl⟩;obtain⟨ak,em,a,b⟩:=X2 (g:=Y7 0) (f:=dO Yi (dV 1) (dO Ua (dV 0) (dF Vb (Z1 (dV 1) Za)))) (env:=[.un,.fz (.tup (G.steps.map St3.d))]) St3.d (fun s=>s∈G.steps) (rng 0 k) fun x hx=>by
  obtain⟨i,hi,rfl⟩:=bd hx;rw[CP];obtain⟨s,F⟩:∃ s,G.steps[i % G.steps.length]?=some s:=⟨_,AH (EI _ (by lia))⟩;exact⟨[.fz (.int (i:Int)),.fz (.tup (G.steps.map St3.d))],s,rfl,Z7 rfl (Z7 rfl (Ys (Z2 rfl rfl) (Tf St3.d G.steps)) (Q7 i G.steps.length (by lia))) (E3 (by rw[AM,F];rfl)),AI F⟩
 have r:dO G4 (dO G4 (dC (.int 23)) (dV 3)) (dF Vb (Z1 (dV 5) Za)) [.fz G.d,.fz (.int 8),.fz (.int (c:Int)),.fz (.int (l:Int)),.fz (.tup (G.wires.map Va)),.fz (.tup (G.steps.map St3.d)),.fz (.int (G.marks:Int)),.fz (.int (G.code:Int)),.un,.un,.un,.un]=some (.int (k:Int)):=by
  rw[← Y];exact Z7 (Z7 rfl rfl (RT 23 l (by lia))) (Ys (Z2 rfl rfl) (Tf St3.d G.steps)) (RT _ _ (by lia))
 refine Z9 (Zi (d:=.lst (ak.map St3.d)) (W0 (Ya (xs:=rng 0 k) (Yv (Z2 r rfl) (by lia)) rfl em)) ?_);rw[U7] at a;refine Zt (Y8 (Z2 rfl (Z2 (Z7 rfl (Ys (Z2 rfl rfl) rfl) (H9 (by rw[AC,AC];lia))) rfl)) (by simp)) ⟨ak,?_,b,by lia⟩;unfold G3.d;rw[BK]
theorem kz(G:G3)(hG:Gb 64 G)(k:Nat):S3 [G.d,.int (k:Int)]=.ok (.bl (Qu G k)):=by
 refine W9 (Y3 (n:=2) (p:=2) (ds:=[G.d,.int (k:Int)]) (g:=Jt) (R:=fun d=>d=.bl (Qu G k)) rfl ?_);show Go (Jt [.fz G.d,.fz (.int (k:Int))]) _ _;unfold Jt Qu;have a:∀ ps:C3 Nat,F0 (.int (k:Int)) (.tup (Zc ps))=some (.bl (decide (k∈ps))):=fun ps=>by
  have:=Cm k ps;unfold F0;rw[show LP (.int (k:Int)) (.tup (Zc ps))=LP (.int (k:Int)) (.lst (Zc ps)) from rfl,this];rfl
 have O:W6 (Y7 0) V6 (NR (dO F0 (dV 1) (dO Yi (dV 0) (dC (.int 2)))) (dO F0 (dV 1) (dO Yi (dV 0) (dC (.int 3))))) [.un,.fz (.int (k:Int))] (G.steps.map St3.d)=some ((G.steps.map fun s=>decide (k∈s.takes)||decide (k∈s.fills)).map .bl):=by
  rw[Wp St3.d (fun s=>.bl (decide (k∈s.takes)||decide (k∈s.fills))) G.steps fun s _=>⟨[.fz s.d,.fz (.int (k:Int))],rfl,rfl,Bm (Z7 rfl (Z7 rfl rfl rfl) (a s.takes)) (Z7 rfl (Z7 rfl rfl rfl) (a s.fills))⟩,DI];rfl
 have any:Ax [.lst ((G.steps.map fun s=>decide (k∈s.takes)||decide (k∈s.fills)).map .bl)]=some (.bl (G.steps.any fun s=>decide (k∈s.takes)||decide (k∈s.fills))):=by
  unfold Ax;dsimp only;rw[Pu,HN,JB];rfl
 exact Zt (Bm (Z7 (Z7 (Z7 (Z7 rfl rfl rfl) rfl (VO G.marks k)) rfl (UP G.marks k)) rfl (cQ _)) (Ys (Z2 (W0 (Ya (xs:=G.steps.map St3.d) (K9 (Z7 rfl rfl rfl)) rfl O)) rfl) any)) rfl
def Hz(ch:C3 Nat):C3 Nat:=(List.range 64).filter fun p=>!decide (p∈ch)
def G7(G:G3)(s:St3)(ch:C3 Nat):G3:=⟨G.wires,⟨s.w,s.up,s.takes,Hz ch⟩::G.steps.drop 1,G.marks,G.code⟩
theorem YE(G:G3)(hG:Gb 64 G)(c l:Nat)(hl:l<=1)(hf:2<=(frees G).length):∃ (s:St3) (x y:Nat),G.steps[0]?=some s/\x∈frees G/\y∈frees G/\x≠y/\Wl [G.d,.int 7,.int (c:Int),.int (l:Int)]=.ok (G7 G s ([x,y].take (1+l))).d:=by
 obtain⟨fs,u⟩:∃ fs,frees G=fs:=⟨_,rfl⟩;have nd:fs.Nodup:=by rw[← u];exact FY _ HA
 have aj:fs.length<=64:=by rw[← u];exact AZ (EV _ _) (by rw[BV];lia)
 rw[u] at hf;obtain⟨s,hs⟩:∃ s,G.steps[0]?=some s:=⟨_,AH hG.s1⟩;obtain⟨L,f⟩:∃ L,fs.length=L:=⟨_,rfl⟩;rw[f] at hf aj;have T:c % L<L:=EI _ (by lia);have ar:(c+1+c / 64 % (L - 1)) % L<L:=EI _ (by lia);obtain⟨x,hx⟩:∃ x,fs[c % L]?=some x:=⟨_,AH (by lia)⟩;obtain⟨y,hy⟩:∃ y,fs[(c+1+c / 64 % (L - 1)) % L]?=some y:=⟨_,AH (by lia)⟩;have ac:x≠y:=fun e=>by
  subst e;have m:=(List.getElem?_inj (by lia) nd).mp (hx.trans hy.symm);have Z:c / 64 % (L - 1)<L - 1:=EI _ (by lia);generalize c / 64 % (L - 1)=r at m Z;have h1:(c+1+r) % L=(c % L+(1+r)) % L:=by rw[Nat.add_assoc,Nat.add_mod,IW (show 1+r<L by lia)]
  rw[h1] at m;clear hx hy h1 ar;generalize c % L=t at m T;rcases DE (t+(1+r)) L with q | q
  ·rw[IW q] at m;lia
  ·rw[Nat.mod_eq_sub_mod q,IW (by lia)] at m;lia
 refine⟨s,x,y,hs,by rw[u];exact AI hx,by rw[u];exact AI hy,ac,?_⟩;refine W9 (Y3 (n:=12) (p:=4) (ds:=[G.d,.int 7,.int (c:Int),.int (l:Int)]) (g:=Wb) (R:=fun d=>d=(G7 G s ([x,y].take (1+l))).d) rfl ?_);show Go (Wb [.fz G.d,.fz (.int 7),.fz (.int (c:Int)),.fz (.int (l:Int)),.un,.un,.un,.un,.un,.un,.un,.un]) _ _;unfold Wb;refine Z9 (VV (d:=G.d) (env':=[.fz G.d,.fz (.int 7),.fz (.int (c:Int)),.fz (.int (l:Int)),.fz (.tup (G.wires.map Va)),.fz (.tup (G.steps.map St3.d)),.fz (.int (G.marks:Int)),.fz (.int (G.code:Int)),.un,.un,.un,.un]) rfl rfl ?_);refine Z9 (To (Y4 (Z7 rfl rfl rfl)) (Yd ?_));refine Z9 (Q3 (b:=true) (Y4 (Z7 rfl rfl rfl)) (fun _=>?_) (fun z=>by cases z));have O:W6 (Y7 0) (Md (dT (Zr S3 (Z1 (dV 1) (Z1 (dV 0) Za))))) (dV 0) [.un,.fz G.d] (rng 0 64)=some (Zc fs):=by
  rw[R1,Vq (fun k:Nat=>Dat.int (k:Int)) (fun k:Nat=>Dat.int (k:Int)) (fun k=>!Qu G k) (List.range 64) fun k _=>⟨[.fz (.int (k:Int)),.fz G.d],rfl,Tl (Us (Ze (xs:=[G.d,.int (k:Int)]) rfl (kz G hG k))),rfl⟩,Ym,← u];rfl
 refine Z9 (Zi (d:=.lst (Zc fs)) (W0 (Ya (xs:=rng 0 64) (Yv (Z2 rfl rfl) (by lia)) rfl O)) ?_);have o:∀ e:Ev,e[9]?=some (.fz (.lst (Zc fs)))->dF Vb (Z1 (dV 9) Za) e=some (.int (L:Int)):=fun e he=>Ys (Z2 (x:=.lst (Zc fs)) (by unfold dV;rw[he]) rfl) (by rw[Qz,f])
 have A:∀ (i v:Nat),fs[i]?=some v->Yi (.lst (Zc fs)) (.int (i:Int))=some (.int (v:Int)):=fun i v h=>Yl (by rw[Ym,AM,h];rfl)
 refine Z9 (Zi (d:=.lst (Zc ([x,y].take (1+l)))) (Ei (x:=.lst (Zc [x,y])) (a:=none) (b:=some ((1+l:Nat):Int)) (W0 (U2 (Z2 (Z7 rfl (Z7 rfl (o _ rfl) (Q7 c L (by lia))) (A _ x hx)) (Z2 (Z7 rfl (Z7 (Z7 (Z7 rfl rfl (Qg c 1)) (Z7 (Z7 rfl rfl (Um c 64 (by lia) (by lia))) (Z7 (o _ rfl) rfl (RT L 1 (by lia))) (Q7 _ (L - 1) (by lia))) (Qg _ _)) (o _ rfl) (Q7 _ L (by lia))) (A _ y hy)) rfl)) (by simp))) rfl (Ue (Z7 rfl rfl (Qg 1 l))) ?_) ?_)
 ·have W:l=0\/l=1:=by lia
  rcases W with rfl | rfl<;>rfl
 obtain⟨ch,Q⟩:∃ ch,[x,y].take (1+l)=ch:=⟨_,rfl⟩;rw[Q];have D:W6 (Y7 0) (dB (dO Ss (dV 0) (dV 1))) (dV 0) [.un,.fz (.lst (Zc ch))] (rng 0 64)=some (Zc (Hz ch)):=by
  rw[R1,Vq (fun k:Nat=>Dat.int (k:Int)) (fun k:Nat=>Dat.int (k:Int)) (fun k=>!decide (k∈ch)) (List.range 64) fun k _=>⟨[.fz (.int (k:Int)),.fz (.lst (Zc ch))],rfl,Y4 (Z7 rfl rfl (XR k ch)),rfl⟩,Ym];rfl
 refine Z9 (Zi (d:=.tup (Zc (Hz ch))) (Ys (Z2 (W0 (Ya (xs:=rng 0 64) (Yv (Z2 rfl rfl) (by lia)) rfl D)) rfl) rfl) ?_);refine Z9 (Zi (d:=s.d) (Z7 rfl rfl (E3 (j:=0) (by rw[AM,hs];rfl))) ?_);have hs24:=hG.s2;refine Zt (Y8 (Z2 rfl (Z2 (Z7 (x:=.tup [(⟨s.w,s.up,s.takes,Hz ch⟩:St3).d]) (y:=.tup ((G.steps.drop 1).map St3.d)) (Y8 (Z2 (Y8 (Z2 (Z7 rfl rfl rfl) (Z2 (Z7 rfl rfl rfl) (Z2 (Z7 rfl rfl rfl) rfl))) (by simp)) rfl) (by simp)) (Ei (x:=.tup (G.steps.map St3.d)) (a:=some 1) (b:=none) rfl (Ue rfl) rfl (by show some (Dat.tup (S6 (G.steps.map St3.d) (some ((1:Nat):Int)) none))=_;rw[K4,P7 G.steps 1 hG.s1])) (H9 (by rw[AC,CC];show 1+_<=1000;lia))) rfl)) (by simp)) ?_;rfl
def Tq(G:G3):C3 Nat:=(G.steps.zipIdx.filter fun p=>F7 G p.1).map (·.2)
theorem iS(a:C3 St3):Rn 0 (a.map St3.d)=a.zipIdx.map fun p=>Dat.tup [.int (p.2:Int),p.1.d]:=by
 apply IL;intro i;rw[L0,AM,AM,List.getElem?_zipIdx];cases a[i]? with
 | none=>rfl
 | some s=>simp
theorem nE(h:k∈Tq G):∃ s,G.steps[k]?=some s/\F7 G s=true:=by
 obtain⟨⟨s,j⟩,hp,rfl⟩:=CZ.mp h;obtain⟨h1,h2⟩:=BP.mp hp;have:=List.mem_zipIdx h1;simp only[DJ,HY,Nat.sub_zero,true_and] at this;exact⟨s,by rw[this.2];exact AH this.1,h2⟩
theorem fH(G:G3):(Tq G).Nodup:=by
 have h1:(Tq G).Sublist (G.steps.zipIdx.map (·.2)):=List.filter_sublist.map _;refine List.Nodup.sublist h1 ?_;rw[List.zipIdx_map_snd];exact List.nodup_range'
theorem kU(hG:Gk B L G)(hm:∃ u∈G.wires,u.2=true):2<=(Tq G).length:=by
 obtain⟨u,hu,b⟩:=hm;obtain⟨w,hw⟩:=EJ hu;have S:=(AB.mp hw).1;have h2:=hG.two w S;unfold Tq;rw[AC,← List.countP_eq_length_filter];have e1:G.steps.zipIdx.countP (fun p=>F7 G p.1)=G.steps.countP (F7 G):=by
  have h:(G.steps.zipIdx.map Prod.fst).countP (F7 G)=G.steps.zipIdx.countP (fun p=>F7 G p.1):=by rw[List.countP_map];rfl
  rw[← h,List.zipIdx_map_fst]
 rw[e1];have e2:(G.steps.map (·.w)).count w=G.steps.countP (fun s=>s.w==w):=by
  rw[List.count,List.countP_map];rfl
 rw[e2] at h2;refine AZ h2 (List.countP_mono_left fun s hs h=>?_);have:s.w=w:=eq_of_beq h;rw[Av (this▸hw),b]
theorem jl(h:l.Nodup){i:Nat}(ha:l[i]?=some a)(U:b∈l.eraseIdx i):a≠b/\b∈l:=by
 have hl:=(AB.mp ha).1;have e:l=l.take i++a::l.drop (i+1):=by
  have h0:=(EU i l).symm;rw[DH hl,(AB.mp ha).2] at h0;exact h0
 rw[CY] at U;have B:b∈l:=by
  rcases BQ.mp U with q | q
  ·exact List.mem_of_mem_take q
  ·exact FW q
 refine⟨?_,B⟩;rw[e] at h;obtain⟨_,h2,h3⟩:=HK.mp h;rcases BQ.mp U with q | q
 ·exact fun z=>h3 b q a AW z.symm
 ·exact fun z=>(DB.mp h2).1 (z▸q)
theorem ft(h:Gb 54 G)(hl:U' G n rs)(L:1<=n)(ap:n<=4):Gk 54 54 G where
 w1:=by rw[hl.1];exact L
 w2:=by rw[hl.1];lia
 s1:=by have:=hl.2.1;lia
 s2:=by have:=hl.2.1;lia
 st:=fun s hm=>⟨(h.st s hm).w,(h.st s hm).t,(h.st s hm).f,WV (h.st s hm).tn (h.st s hm).t,WV (h.st s hm).fn (h.st s hm).f⟩
 mks:=h.mks
 two:=fun w hw=>hl.2.2.2 w (by rw[← hl.1];exact hw)
theorem eF(h:G.steps[k]?=some s)(hm:F7 G s=true):k∈Tq G:=by
 refine CZ.mpr ⟨(s,k),BP.mpr ⟨?_,hm⟩,rfl⟩;have hl:=(AB.mp h);exact List.mem_zipIdx_iff_getElem?.mpr (by simpa using h)
theorem K7(Y:k∈Wn G):∃ s,G.steps[k]?=some s/\F7 G s=true:=by
 obtain⟨h1,h2⟩:=BP.mp Y;have e:=AH (CF.mp h1);rw[e] at h2;exact⟨_,e,h2⟩
theorem kj(h:F7 G s=true):∃ u,G.wires[s.w]?=some u/\u.2=true:=by
 unfold F7 at h;split at h
 ·rename_i u e;exact⟨u,e,h⟩
 ·cases h
theorem lZ(hG:Gb 64 G)(h:Yt G z=false\/Mn (Wn G) i j=false):D5 0 G z i j=.exc "NoPlace" []/\D5 1 G z i j=.exc "NoPlace" []:=by
 have e:=nM G hG z i j h;exact⟨e,gR (most:=60) e⟩
theorem Bv(hG:Gb 64 G)(hok:Yt G z=true)(r:a≠b)(ha:a∈Wn G)(U:b∈Wn G):(∃ d,D5 0 G z a b=.ok d)/\∃ d,D5 1 G z a b=.ok d:=by
 obtain⟨P,f,h1,h2⟩:=cg G hG z hok a b r ha U 60 (by lia) (by lia);exact⟨⟨_,h1⟩,_,h2⟩
theorem Q1(hG:Gb 64 G)(P:0<m)(hm:m<=8)(h:Yt G z=false\/Mn (Wn G) i j=false)(h2:m=1\/m=6->D5 2 G z i j=.exc "NoPlace" []):Yf [G.d,.str z,.int i,.int j,.int (m:Int)]=.ok (.bl true):=by
 obtain⟨b0,b1⟩:=lZ hG h;refine Fx G z i j m hm fun k Y ha=>⟨fun h=>by lia,fun _=>?_⟩
 match k,Y with
 | 0,_=>exact b0
 | 1,_=>exact b1
 | 2,_=>exact h2 (by lia)
theorem nQ(ms:C3 Nat)(i:Int):Mn ms i i=false:=by unfold Mn;simp
theorem bf(h:Hy j ms=false):Mn ms i j=false:=by unfold Mn;rw[h];simp
theorem kh(h:Hy i ms=false):Mn ms i j=false:=by unfold Mn;rw[h];simp
theorem cF(hG:Gb 64 G)(h:G.wires.length+k<=10):Gb 64 (G6 G k):=by
 have hl:(G6 G k).wires.length=G.wires.length+k:=by show(G.wires++_).length=_;rw[AN,AC,BV]
 exact⟨by lia,hG.s1,hG.s2,fun s hs=>by
  have:=hG.st s hs;exact⟨by have:=this.w;lia,this.t,this.f,this.tn,this.fn⟩,hG.mks⟩
theorem WW(h:a∈Wn G):a∈Wn (G6 G k):=by
 obtain⟨s,hs,hm⟩:=K7 h;obtain⟨u,hu,b⟩:=kj hm;refine Jc (G:=G6 G k) hs ?_;have hl:=(AB.mp hu).1;rw[Av (show(G.wires++_)[s.w]?=some u by rw[BG hl];exact hu),b]
theorem bE(hG:Gb 64 G)(h:∀ s∈ak,s∈G.steps)(hl:G.steps.length+ak.length<=24):Gb 64 ⟨G.wires,G.steps++ak,G.marks,G.code⟩ :=
 ⟨hG.w2,by show 1<=(G.steps++ak).length;rw [AN];have:=hG.s1;lia,by show (G.steps++ak).length<=24;rw [AN];exact hl,fun s hs=>by
  rcases BQ.mp (show s∈G.steps++ak from hs) with q | q
  ·exact hG.st s q
  ·exact hG.st s (h s q),hG.mks⟩
theorem YG(h:a∈Wn G):a∈Wn ⟨G.wires,G.steps++ak,G.marks,G.code⟩:=by
 obtain⟨s,hs,hm⟩:=K7 h;have hl:=(AB.mp hs).1;exact Jc (G:=⟨G.wires,G.steps++ak,G.marks,G.code⟩) (s:=s) (show(G.steps++ak)[a]?=some s by rw[BG hl];exact hs) hm
theorem ka(h:∀ s∈ak,s∈G.steps):frees ⟨G.wires,G.steps++ak,G.marks,G.code⟩=frees G:=by
 unfold frees;refine List.filter_congr fun k _=>?_
 congr 1
 unfold Qu;show(G.marks.testBit k||(G.steps++ak).any _)=_;rw[List.any_append];cases hm:ak.any (fun s=>decide (k∈s.takes)||decide (k∈s.fills)) with
 | false=>rw[JI]
 | true =>
   obtain⟨s,hs,hq⟩:=DU.mp hm;rw[DU.mpr ⟨s,h s hs,hq⟩];rfl
theorem YD(hG:Gb 64 G)(hs:G.steps[0]?=some s)(ch:C3 Nat):Gb 64 (G7 G s ch):=by
 have h1:=hG.s1;have h2:=hG.s2;refine⟨hG.w2,by show 1<=(_::G.steps.drop 1).length;simp,by show(_::G.steps.drop 1).length<=24;rw[BC,CC];lia,fun t ht=>?_,hG.mks⟩;rcases BI.mp (show t∈_::G.steps.drop 1 from ht) with q | q
 ·have U:=hG.st s (AI hs)
  rw[q];exact⟨U.w,U.t,fun p hp=>CF.mp (BP.mp hp).1,U.tn,FY _ HA⟩
 ·exact hG.st t (FW q)
theorem cP(hs:G.steps[0]?=some s)(h:a∈Wn G):a∈Wn (G7 G s ch):=by
 obtain⟨t,ht,hm⟩:=K7 h;cases a with
 | zero =>
  rw[hs] at ht;cases ht;exact Jc (G:=G7 G s ch) (s:=⟨s.w,s.up,s.takes,Hz ch⟩) rfl hm
 | succ a =>
  refine Jc (G:=G7 G s ch) (s:=t) ?_ hm;show(_::G.steps.drop 1)[a+1]?=some t;rw[GT,HF,Nat.add_comm];exact ht
theorem WA(hs:G.steps[0]?=some s)(O:∀ x∈ch,x∈frees G)(k:Nat):k∈frees (G7 G s ch)↔k∈ch:=by
 constructor
 ·intro h
  obtain⟨h1,h2⟩:=BP.mp h;refine EO fun hn=>?_
  have:Qu (G7 G s ch) k=true:=by
   unfold Qu;have hw:k∈Hz ch:=BP.mpr ⟨h1,by rw[AE hn];rfl⟩;have:(G7 G s ch).steps.any (fun s=>decide (k∈s.takes)||decide (k∈s.fills))=true:=DU.mpr ⟨⟨s.w,s.up,s.takes,Hz ch⟩,AW,by rw[AJ (show k∈(⟨s.w,s.up,s.takes,Hz ch⟩:St3).fills from hw)];simp⟩;rw[this];simp
  rw[this] at h2;cases h2
 ·intro h
  obtain⟨h1,h2⟩:=BP.mp (O k h);refine BP.mpr ⟨h1,?_⟩;have hu:Qu G k=false:=by simpa using h2
  unfold Qu at hu;obtain⟨d,W⟩:=Bool.or_eq_false_iff.mp hu;have a:=IN.mp W;have:Qu (G7 G s ch) k=false:=by
   unfold Qu;show(G.marks.testBit k||_)=false;rw[d,Bool.false_or,IN];intro t ht;rcases BI.mp (show t∈_::G.steps.drop 1 from ht) with q | q
   ·have P:k∉s.takes:=fun z=>a s (AI hs) (by rw[AJ z];rfl)
    have hw:k∉Hz ch:=fun z=>by
     have:=(BP.mp z).2;rw[AJ h] at this;cases this
    rw[q];show ¬ (decide (k∈s.takes)||decide (k∈Hz ch))=true;rw[AE P,AE hw];simp
   ·exact a t (FW q)
  rw[this];rfl
theorem e6(hx:x∈l)(hy:y∈l)(h:x≠y):2<=l.length:=by
 match l,hx,hy with
 | [a],hx,hy=>exact absurd ((AL.mp hx).trans (AL.mp hy).symm) h
 | a::b::l,_,_=>simp
theorem fe(nd:l.Nodup)(h:∀ a∈l,a=x):l.length<=1:=by
 have:=Kg l [x] nd fun a ha=>by rw[h a ha];exact AW
 exact this
theorem jT(G:G3):(frees G).Nodup:=FY _ HA
structure Rg (G:G3) (n:Nat):Prop where
 gb:Gb 64 G
 wl:G.wires.length=n
 n1:1<=n
 n3:n<=3
 sl:G.steps.length=2*n
 fr:2<=(frees G).length
 snd:∀ ws:List (Str×Bool),n<=ws.length->ws.length<=10->∃ d,V5 [(⟨ws,G.steps,G.marks,G.code⟩:G3).d,.int 60]=.ok d
theorem Rg.room(h:Rg G n)(h1:De z=true)(h2:z∉G.wires.map (·.1)):Yt G z=true:=by
 have a:=h.wl;have b:=h.n3;have c:=h.sl
 unfold Yt Ro;rw[h1,AE h2,AE (show ¬ 9<G.wires.length by lia),AE (show ¬ 22<G.steps.length by lia),AJ h.fr];rfl
theorem Rg.self(h:Rg G n):∃ d,V5 [G.d,.int 60]=.ok d:=h.snd G.wires (by have:=h.wl;lia) (by have:=h.wl;have:=h.n3;lia)
theorem Rg.asked0(h:Rg G n)(hok:Yt G z=true)(r:a≠b)(ha:a∈Wn G)(U:b∈Wn G):Yf [G.d,.str z,.int (a:Int),.int (b:Int),.int ((0:Nat):Int)]=.ok (.bl true):=by
 obtain⟨g0,g1⟩:=Bv h.gb hok r ha U;obtain⟨d0,es⟩:=h.self;refine Fx G z a b 0 (by lia) fun k Y _=>⟨fun _=>?_,fun z=>by lia⟩
 match k,Y with
 | 0,_=>exact g0
 | 1,_=>exact g1
 | 2,_=>exact X8 G h.gb z hok es
theorem Rg.wires(h:Rg G n)(f:Str×Bool->Str×Bool):Rg ⟨G.wires.map f,G.steps,G.marks,G.code⟩ n where
 gb:=⟨by show(G.wires.map f).length<=10;rw[AC];exact h.gb.w2,h.gb.s1,h.gb.s2,fun s hs=>by show SB 64 (G.wires.map f).length s;rw[AC];exact h.gb.st s hs,h.gb.mks⟩
 wl:=by show(G.wires.map f).length=n;rw[AC];exact h.wl
 n1:=h.n1
 n3:=h.n3
 sl:=h.sl
 fr:=h.fr
 snd:=h.snd
theorem bK(h:Rg G n)(z:Str):Yt (G6 G (10 - 0 - G.wires.length)) z=false/\Gb 64 (G6 G (10 - 0 - G.wires.length))/\∃ d,V5 [(G6 G (10 - 0 - G.wires.length)).d,.int 60]=.ok d:=by
 have a:=h.wl;have b:=h.n3
 have hl:(G6 G (10 - 0 - G.wires.length)).wires.length=10:=by show(G.wires++_).length=_;rw[AN,AC,BV];lia
 refine⟨?_,cF h.gb (by lia),?_⟩
 ·unfold Yt Ro
  rw[hl];simp
 ·exact h.snd _ (show n<=(G6 G (10 - 0 - G.wires.length)).wires.length by lia) (show(G6 G (10 - 0 - G.wires.length)).wires.length<=10 by lia)
theorem Bz(h:Rg G n)(h1:De z=true)(h2:z∉G.wires.map (·.1))(c:Nat):Uv [G.d,.str z,.int (c:Int)]=.ok (.bl true):=by
 refine W9 (Y3 (n:=5) (p:=3) (ds:=[G.d,.str z,.int (c:Int)]) (g:=Wv) (R:=fun d=>d=.bl true) rfl ?_);show Go (Wv [.fz G.d,.fz (.str z),.fz (.int (c:Int)),.un,.un]) _ _;unfold Wv;obtain⟨P,m⟩:∃ P:G3,P=⟨G.wires.map (fun u=>(u.1,false)),G.steps,G.marks,G.code⟩:=⟨_,rfl⟩;have E:Rg P n:=by rw[m];exact h.wires _
 have hn:P.wires.map (·.1)=G.wires.map (·.1):=by rw[m];show(G.wires.map _).map _=_;rw[DI];rfl
 have O:W6 (Y7 0) V6 (Wz (Z1 (dO Yi (dV 0) (dC (.int 0))) (Z1 (dC (.str "given")) Za))) [.un] (G.wires.map Va)=some (P.wires.map Va):=by
  rw[Wp Va (fun w=>Va (w.1,false)) G.wires fun w _=>⟨[.fz (Va w)],rfl,rfl,Y8 (Z2 (Z7 rfl rfl rfl) rfl) (by simp)⟩,m];show _=some ((G.wires.map _).map _);rw[DI];rfl
 refine Z9 (Zi (d:=.tup (P.wires.map Va)) (Ys (Z2 (W0 (Ya (xs:=G.wires.map Va) (K9 (Z7 rfl rfl rfl)) rfl O)) rfl) rfl) ?_);refine Z9 (Zi (d:=P.d) (Z7 (x:=.tup [.tup (P.wires.map Va)]) (y:=.tup [.tup (G.steps.map St3.d),.int (G.marks:Int),.int (G.code:Int)]) (Y8 rfl (by simp)) (Ei rfl (Ue rfl) rfl rfl) (by rw[H9 (by simp),m];rfl)) ?_);obtain⟨d0,es⟩:=E.self;have hok:=E.room h1 (by rw[hn];exact h2);obtain⟨f,e1⟩:=X8 P E.gb z hok es;have c1:=(J8 2 (by lia) P z 0 1).1 f e1;refine Z9 (To (Y4 (Z7 (x:=.non) (Ze (xs:=[.int ((2:Nat):Int),P.d,.str z,.int 0,.int 1]) rfl c1) rfl rfl)) (Yd ?_));obtain⟨zb,F,U⟩:=O4 c P E.gb.w2;have c2:=(J8 2 (by lia) P zb 0 1).2 (Ho P E.gb zb U es);refine Z9 (To (Tl (b:=true) (Us (Ze (xs:=[MM]) (Z2 (Ze (xs:=[.int ((2:Nat):Int),P.d,.str zb,.int 0,.int 1]) (Z2 rfl (Z2 rfl (Z2 (Ze (xs:=[.int (c:Int),P.d]) rfl F) rfl))) c2) rfl) G8))) (Yd ?_));obtain⟨f1,f2,v,f3⟩:=bK E z;have c3:=(J8 2 (by lia) (G6 P (10 - 0 - P.wires.length)) z 0 1).2 (Ho _ f2 z f1 f3);exact Zt (Ze (xs:=[MM]) (Z2 (Ze (xs:=[.int ((2:Nat):Int),(G6 P (10 - 0 - P.wires.length)).d,.str z,.int 0,.int 1]) (Z2 rfl (Z2 (Ze (xs:=[P.d,.int 6,.int (c:Int),.int ((0:Nat):Int)]) rfl (VP P c 0 (by lia) (by have:=E.wl;have:=E.n3;lia))) rfl)) c3) rfl) G8) rfl
theorem eH(h:Rg G n)(h1:De z=true)(h2:z∉G.wires.map (·.1))(h3:∃ c m k,z=Sy c m k)(r:a≠b)(ha:a∈Wn G)(U:b∈Wn G)(c m:Nat)(D:6<=m)(A:m<=8) :
  ∃ P Q:G3,Wl [G.d,.int (m:Int),.int (c:Int),.int ((0:Nat):Int)]=.ok P.d/\Wl [G.d,.int (m:Int),.int (c:Int),.int ((1:Nat):Int)]=.ok Q.d /\
   Yf [P.d,.str z,.int (a:Int),.int (b:Int),.int (m:Int)]=.ok (.bl true)/\Me [Q.d,.str z,.int (a:Int),.int (b:Int)]=.ok (.bl true):=by
 have hw:=h.wl;have hn:=h.n3;have hs:=h.sl;have L:=h.n1
 have hm:m=6\/m=7\/m=8:=by lia
 rcases hm with rfl | rfl | rfl
 ·obtain⟨f1,f2,v,f3⟩:=bK h z
  refine⟨_,_,VP G c 0 (by lia) (by lia),VP G c 1 (by lia) (by lia),Q1 f2 (by lia) (by lia) (.inl f1) (fun _=>Ho _ f2 z f1 f3),?_⟩;have hl:(G6 G (10 - 1 - G.wires.length)).wires.length=9:=by show(G.wires++_).length=_;rw[AN,AC,BV];lia
  have hz:z∉(G6 G (10 - 1 - G.wires.length)).wires.map (·.1):=by
   show z∉(G.wires++_).map (·.1);rw[BK];intro q;rcases BQ.mp q with q | q
   ·exact h2 q
   ·rw[DI] at q
    obtain⟨i,_,e⟩:=CZ.mp q;obtain⟨c',m',k',e'⟩:=h3;exact da (e'.symm.trans e.symm)
  have hok:Yt (G6 G (10 - 1 - G.wires.length)) z=true:=by
   unfold Yt Ro;rw[h1,AE hz,hl,AE (show ¬ 22<(G6 G (10 - 1 - G.wires.length)).steps.length by show ¬ 22<G.steps.length;lia),AJ (show 2<=(frees (G6 G (10 - 1 - G.wires.length))).length from h.fr)];rfl
  obtain⟨g0,g1⟩:=Bv (cF h.gb (k:=10 - 1 - G.wires.length) (by lia)) hok r (WW ha) (WW U);exact Pr _ z a b g0 g1
 ·obtain⟨s,x,y,aD,hx,hy,o,C⟩:=YE G h.gb c 0 (by lia) h.fr
  obtain⟨s',g,j,f,ae,t,p,e1⟩:=YE G h.gb c 1 (by lia) h.fr;have b0:=YD h.gb aD ([x,y].take (1+0));have b1:=YD h.gb f ([g,j].take (1+1));refine⟨_,_,C,e1,Q1 b0 (by lia) (by lia) (.inl ?_) (fun q=>by lia),?_⟩
  ·have hl:(frees (G7 G s ([x,y].take (1+0)))).length<=1:=fe (x:=x) (jT _) fun k Y=>AL.mp ((WA aD (ch:=[x]) (fun q hq=>by rw[AL.mp hq];exact hx) k).mp Y)
   unfold Yt Ro;rw[AE (show ¬ 2<=(frees (G7 G s ([x,y].take (1+0)))).length by lia)];simp
  ·have O:∀ q∈[g,j],q∈frees G:=fun q hq=>by
    rcases BI.mp hq with e | e
    ·rw[e];exact ae
    ·rw[AL.mp e];exact t
   have hl:2<=(frees (G7 G s' ([g,j].take (1+1)))).length:=e6 (x:=g) (y:=j) ((WA f (ch:=[g,j]) O g).mpr (by simp)) ((WA f (ch:=[g,j]) O j).mpr (by simp)) p;have hok:Yt (G7 G s' ([g,j].take (1+1))) z=true:=by
    unfold Yt Ro;rw[h1,AE (show z∉(G7 G s' ([g,j].take (1+1))).wires.map (·.1) from h2),AE (show ¬ 9<(G7 G s' ([g,j].take (1+1))).wires.length by show ¬ 9<G.wires.length;lia),AE (show ¬ 22<(G7 G s' ([g,j].take (1+1))).steps.length by show ¬ 22<(_::G.steps.drop 1).length;rw[BC,CC];lia),AJ hl];rfl
   obtain⟨g0,g1⟩:=Bv b1 hok r (cP f ha) (cP f U);exact Pr _ z a b g0 g1
 ·obtain⟨m0,C,l,l0⟩:=ZI G c 0 (by lia) (by lia) (by lia)
  obtain⟨m1,e1,i1,l1⟩:=ZI G c 1 (by lia) (by lia) (by lia);have b0:=bE h.gb l (by lia);have b1:=bE h.gb i1 (by lia);refine⟨_,_,C,e1,Q1 b0 (by lia) (by lia) (.inl ?_) (fun q=>by lia),?_⟩
  ·unfold Yt Ro
   rw[AJ (show 22<(⟨G.wires,G.steps++m0,G.marks,G.code⟩:G3).steps.length by show 22<(G.steps++m0).length;rw[AN];lia)];simp
  ·have hok:Yt ⟨G.wires,G.steps++m1,G.marks,G.code⟩ z=true:=by
    unfold Yt Ro;rw[h1,AE h2,AE (show ¬ 9<G.wires.length by lia),AE (show ¬ 22<(⟨G.wires,G.steps++m1,G.marks,G.code⟩:G3).steps.length by show ¬ 22<(G.steps++m1).length;rw[AN];lia),ka i1,AJ h.fr];rfl
   obtain⟨g0,g1⟩:=Bv b1 hok r (YG ha) (YG U);exact Pr _ z a b g0 g1
theorem kx(ns:C3 Int)(N:ns.length<=63):XF [.lst (ns.map .int)]=.ok (.bl true):=by
 refine W9 (Y3 (n:=11) (p:=1) (ds:=[Ds ns]) (g:=A9) (R:=fun d=>d=.bl true) rfl ?_);show Go (A9 [.fz (Ds ns),.un,.un,.un,.un,.un,.un,.un,.un,.un,.un]) _ _;unfold A9;obtain⟨c0,C,_⟩:=Im ns 0 (by lia);obtain⟨c1,e1,_⟩:=Im ns 1 (by lia);obtain⟨c,e2,_⟩:=Im ns 2 (by lia);obtain⟨n,hn,L,ap⟩:∃ n:Nat,1+c0 % 3=n/\1<=n/\n<=3:=⟨_,rfl,by lia,by lia⟩;have aL:∀ env:Ev,env[0]?=some (.fz (Ds ns))->Zr Yo (Z1 (dV 0) (Z1 (dC (.int 0)) Za)) env=some (.int (c0:Int)):=fun env h0=>Ze (xs:=[Ds ns,.int ((0:Nat):Int)]) (Z2 (by unfold dV;rw[h0]) rfl) C
 have aM:∀ env:Ev,env[0]?=some (.fz (Ds ns))->Zr Yo (Z1 (dV 0) (Z1 (dC (.int 1)) Za)) env=some (.int (c1:Int)):=fun env h0=>Ze (xs:=[Ds ns,.int ((1:Nat):Int)]) (Z2 (by unfold dV;rw[h0]) rfl) e1
 have aN:∀ env:Ev,env[0]?=some (.fz (Ds ns))->Zr Yo (Z1 (dV 0) (Z1 (dC (.int 2)) Za)) env=some (.int (c:Int)):=fun env h0=>Ze (xs:=[Ds ns,.int ((2:Nat):Int)]) (Z2 (by unfold dV;rw[h0]) rfl) e2
 refine Z9 (Zi (d:=.int (n:Int)) (by rw[← hn];exact Z7 rfl (Z7 (aL _ rfl) rfl (Q7 c0 3 (by lia))) (Qg 1 _)) ?_);refine Z9 (Zi (aN _ rfl) ?_);obtain⟨G0,s0,ps,rs,eg,al,v,ax,hl⟩:=kP ns 3 n (c1 % 3) (by lia) L (by lia) (by lia);have ay:=ft v hl L (by lia);have aC:c / 6 % n<G0.wires.length:=by rw[hl.1];exact EI _ (by lia)
 obtain⟨G,az,hG,aO,xx,af⟩:=C8 G0 ay (c / 6 % n) aC;have aP:Gb 54 G:=by
  rw[af];exact⟨by show(G0.wires.set _ _).length<=10;rw[BH];exact v.w2,v.s1,v.s2,fun s hs=>by show SB 54 (G0.wires.set _ _).length s;rw[BH];exact v.st s hs,v.mks⟩
 have E:Rg G n:=by
  have l:G.steps=G0.steps:=by rw[af]
  have X:G.marks=G0.marks:=by rw[af]
  have M:G.code=G0.code:=by rw[af]
  have S:G.wires.length=n:=by rw[af];show(G0.wires.set _ _).length=n;rw[BH];exact hl.1
  obtain⟨x,y,aj,hf,_,_⟩:=lh hG (by lia);refine⟨Gb.up aP,S,L,ap,by rw[l];exact hl.2.1,by rw[hf];simp,fun ws h1 h2=>?_⟩;rw[l,X,M];have U:Gb 64 ⟨ws,G0.steps,G0.marks,G0.code⟩:=by
   have au:=Gb.up v;exact⟨h2,au.s1,au.s2,fun s hs=>by
    have:=au.st s hs;exact⟨by have h9:=this.w;rw[hl.1] at h9;show s.w<ws.length;lia,this.t,this.f,this.tn,this.fn⟩,au.mks⟩
  obtain⟨ac,e,_⟩:=i4 U (RG.ws al ws) (ax ws) L ap hl.2.2.1 60 (by lia) (by lia);exact⟨_,e⟩
 refine Z9 (Zi (d:=G.d) (Ze (xs:=[G0.d,.int ((c / 6 % n:Nat):Int)]) (Z2 (Ze (xs:=[Ds ns,.int ((3:Nat):Int),.int (n:Int),.int ((c1 % 3:Nat):Int)]) (Z2 rfl (Z2 rfl (Z2 rfl (Z2 (Z7 (aM _ rfl) rfl (Q7 c1 3 (by lia))) rfl)))) eg) (Z2 (Z7 (Z7 rfl rfl (Um c 6 (by lia) (by lia))) rfl (Q7 _ n (by lia))) rfl)) az) ?_);clear af az aC ay hl v eg al ax;have aF:W6 (Nb 2 (Wk (Y7 0) (Wk (Y7 1) Dg))) (dB (dO Sz (dO Yi (dO Yi (dO Yi (dV 2) (dC (.int 0))) (dO Yi (dV 1) (dC (.int 0)))) (dC (.int 1))) (dC (.str "made")))) (dV 0) [.un,.un,.fz G.d] (Rn 0 (G.steps.map St3.d))=some (Zc (Tq G)):=by
  rw[iS,Vq (fun p:St3×Nat=>Dat.tup [.int (p.2:Int),p.1.d]) (fun p:St3×Nat=>Dat.int (p.2:Int)) (fun p=>F7 G p.1) G.steps.zipIdx fun p hp=>by
   obtain⟨s,j⟩:=p;have hs:s∈G.steps:=by
    have:=List.mem_zipIdx hp;rw[this.2.2];exact GZ _
   have hw:=(hG.st s hs).w;obtain⟨u,hu⟩:∃ u,G.wires[s.w]?=some u:=⟨_,AH hw⟩;refine⟨[.fz (.int (j:Int)),.fz s.d,.fz G.d],rfl,?_,rfl⟩;show _=some (F7 G s);rw[Av hu];exact Y4 (Z7 (Z7 (Z7 (Z7 rfl rfl rfl) (Z7 rfl rfl rfl) (XM hu)) rfl rfl) rfl (ZA _))]
  unfold Tq;rw[Ym,DI];rfl
 refine Z9 (Je (ds:=Zc (Tq G)) (Ya (xs:=Rn 0 (G.steps.map St3.d)) (cB (Z7 rfl rfl rfl)) rfl aF) ?_);obtain⟨h,J⟩:∃ h,(List.range G.steps.length).filter (fun k=>!decide (k∈Tq G))=h:=⟨_,rfl⟩;have aq:h.length<=6:=by rw[← J];refine AZ (EV _ _) ?_;rw[BV,E.sl];lia
 have ag:W6 (Y7 0) (dB (dO Ss (dV 0) (dP 1))) (dV 0) [.un,.pk (.lst (Zc (Tq G)))] (rng 0 G.steps.length)=some (Zc h):=by
  rw[R1,Vq (fun k:Nat=>Dat.int (k:Int)) (fun k:Nat=>Dat.int (k:Int)) (fun k=>!decide (k∈Tq G)) (List.range G.steps.length) fun k _=>⟨[.fz (.int (k:Int)),.pk (.lst (Zc (Tq G)))],rfl,Y4 (Z7 rfl rfl (XR k _)),rfl⟩,J,Ym]
 refine Z9 (Zi (d:=.lst (Zc h)) (W0 (Ya (xs:=rng 0 G.steps.length) (Yv (Z2 (Ys (Z2 (Z7 rfl rfl rfl) rfl) (Tf St3.d G.steps)) rfl) (by have:=E.sl;lia)) rfl ag)) ?_);have ae:=kU hG aO;have aa:=fH G;have B:∀ k∈Tq G,k∈Wn G:=fun k Y=>by obtain⟨s,h1,h2⟩:=nE Y;exact Jc h1 h2
 have aA:∀ k∈h,k∉Wn G:=fun k Y hm=>by
  rw[← J] at Y;have h2:=(BP.mp Y).2;obtain⟨s,hs,ao⟩:=K7 hm;rw[AJ (eF hs ao)] at h2;cases h2
 clear J ag aF;generalize Tq G=sm at ae aa B;have T:c / 7 % sm.length<sm.length:=EI _ (by lia);generalize aQ:c / 7 % sm.length=i1 at T;obtain⟨a,ha⟩:∃ a,sm[i1]?=some a:=⟨_,AH T⟩;refine Z9 (fw (ds:=Zc sm) (k:=i1) (d:=.int (a:Int)) rfl (Z2 (by rw[← aQ];exact Z7 (Z7 rfl rfl (Um c 7 (by lia) (by lia))) (Ys (Z2 rfl rfl) (Qz sm)) (Q7 _ sm.length (by lia))) rfl) (by rw[Ym,AM,ha];rfl) ?_);have aR:(Zc sm).eraseIdx i1=Zc (sm.eraseIdx i1):=by
  rw[Ym,Ym,CY,CY,BK,map_take,map_drop]
 rw[aR];have hel:(sm.eraseIdx i1).length=sm.length - 1:=by rw[List.length_eraseIdx,AG T]
 have ar:c / 77 % (sm.eraseIdx i1).length<(sm.eraseIdx i1).length:=EI _ (by lia);generalize ak:c / 77 % (sm.eraseIdx i1).length=i2 at ar;obtain⟨b,U⟩:∃ b,(sm.eraseIdx i1)[i2]?=some b:=⟨_,AH ar⟩;refine Z9 (Zi (d:=.int (b:Int)) (Z7 (y:=.int (i2:Int)) rfl (by rw[← ak];exact Z7 (Z7 rfl rfl (Um c 77 (by lia) (by lia))) (Ys (Z2 rfl rfl) (Qz (sm.eraseIdx i1))) (Q7 _ (sm.eraseIdx i1).length (by lia))) (Yl (by rw[Ym,AM,U];rfl))) ?_);obtain⟨z,ez,hz,aS,m0,k0,_,aT⟩:=gP (c / 600) G.wires hG.w2;have aw:=lm aS;refine Z9 (Zi (d:=.str z) (Ze (xs:=[.int ((c / 600:Nat):Int),.tup (G.wires.map Va)]) (Z2 (Z7 rfl rfl (Um c 600 (by lia) (by lia))) (Z2 (Z7 rfl rfl rfl) rfl)) ez) ?_);obtain⟨r,W⟩:=jl aa ha (AI U);have aB:=B a (AI ha);have am:=B b W;have hok:=E.room aw hz;have hA:=E.asked0 hok r aB am;have ah:∀ k∈Wn G,k<6:=fun k Y=>by
  have h1:=CF.mp (BP.mp Y).1;have h2:=E.sl;lia
 refine Z9 (To (Ql (a:=false) (b:=false) (Tl (b:=true) (Us (Ze (xs:=[G.d,.str z,.int (a:Int),.int (b:Int),.int ((0:Nat):Int)]) rfl hA))) fun _=>Tl (b:=true) (Us (Ze (xs:=[G.d,.str z,.int ((c / 160000:Nat):Int)]) (Z2 rfl (Z2 rfl (Z2 (Z7 rfl rfl (Um c 160000 (by lia) (by lia))) rfl))) (Bz E aw hz (c / 160000))))) (Yd ?_));obtain⟨m,hm,D,A⟩:∃ m:Nat,1+c / 20000 % 8=m/\1<=m/\m<=8:=⟨_,rfl,by lia,by lia⟩;refine Z9 (Zi (d:=.int (m:Int)) (by rw[← hm];exact Z7 rfl (Z7 (Z7 rfl rfl (Um c 20000 (by lia) (by lia))) rfl (Q7 _ 8 (by lia))) (Qg 1 _)) ?_);have O:=E.gb;refine Z9 (Q3 (Y4 (Z7 rfl rfl (LS m 1))) (fun aD=>?_) (fun aD=>Yd ?_))
 ·obtain⟨zb,F,aE⟩:=O4 (c / 160000) G O.w2
  obtain⟨d0,es⟩:=E.self;exact Zt (Ze (xs:=[G.d,.str zb,.int (a:Int),.int (b:Int),.int ((1:Nat):Int)]) (Z2 rfl (Z2 (Ze (xs:=[.int ((c / 160000:Nat):Int),G.d]) (Z2 (Z7 rfl rfl (Um c 160000 (by lia) (by lia))) rfl) F) rfl)) (Q1 O (by lia) (by lia) (.inl aE) (fun _=>Ho G O zb aE es))) rfl
 refine Z9 (Q3 (Y4 (Z7 rfl rfl (LS m 2))) (fun H=>?_) (fun H=>Yd ?_))
 ·have aG:∀ i:Int,(i<0\/6<=i)->Yf [G.d,.str z,.int i,.int (b:Int),.int ((2:Nat):Int)]=.ok (.bl true):=fun i hi=>Q1 O (by lia) (by lia) (.inr (kh (WL fun k Y=>by have:=ah k Y;lia))) (fun q=>by lia)
  have x0:dO G4 (dU RD (dC (.int 1))) (dO Ua (dO V7 (dV 2) (dC (.int 160000))) (dC (.int 50))) [.fz (Ds ns),.fz (.int (n:Int)),.fz (.int (c:Int)),.fz G.d,.ow (Zc (sm.eraseIdx i1)),.fz (.lst (Zc h)),.fz (.int (a:Int)),.fz (.int (b:Int)),.fz (.str z),.fz (.int (m:Int)),.un]=some (.int (-1 - ((c / 160000 % 50:Nat):Int))):=Z7 rfl (Z7 (Z7 rfl rfl (Um c 160000 (by lia) (by lia))) rfl (Q7 _ 50 (by lia))) rfl;have x1:dO We (dC (.int 6)) (dO V7 (dV 2) (dC (.int 160000))) [.fz (Ds ns),.fz (.int (n:Int)),.fz (.int (c:Int)),.fz G.d,.ow (Zc (sm.eraseIdx i1)),.fz (.lst (Zc h)),.fz (.int (a:Int)),.fz (.int (b:Int)),.fz (.str z),.fz (.int (m:Int)),.un]=some (.int ((6+c / 160000:Nat):Int)):=Z7 rfl (Z7 rfl rfl (Um c 160000 (by lia) (by lia))) (Qg 6 _);obtain⟨i,hi,aH⟩:∃ i:Int,Yi (.lst [.int (-1 - ((c / 160000 % 50:Nat):Int)),.int ((6+c / 160000:Nat):Int)]) (.int ((c % 2:Nat):Int))=some (.int i)/\(i<0\/6<=i):=by
   have h2:c % 2=0\/c % 2=1:=by lia
   rcases h2 with q | q
   ·rw[q];exact⟨_,Yl (j:=0) rfl,.inl (by lia)⟩
   ·rw[q];exact⟨_,Yl (j:=1) rfl,.inr (by lia)⟩
  exact Zt (Ze (xs:=[G.d,.str z,.int i,.int (b:Int),.int ((2:Nat):Int)]) (Z2 rfl (Z2 rfl (Z2 (Z7 (W0 (U2 (Z2 x0 (Z2 x1 rfl)) (by simp))) (Z7 rfl rfl (Q7 c 2 (by lia))) hi) rfl))) (aG i aH)) rfl
 refine Z9 (Q3 (Y4 (Z7 rfl rfl (LS m 3))) (fun aI=>?_) (fun aI=>Yd ?_))
 ·have ai:=E.sl
  obtain⟨i,hi,aH⟩:∃ i:Int,Yi (.lst [.int (-1),.int ((G.steps.length:Nat):Int)]) (.int ((c % 2:Nat):Int))=some (.int i)/\(i<0\/(G.steps.length:Int)<=i):=by
   have h2:c % 2=0\/c % 2=1:=by lia
   rcases h2 with q | q
   ·rw[q];exact⟨_,Yl (j:=0) rfl,.inl (by lia)⟩
   ·rw[q];exact⟨_,Yl (j:=1) rfl,.inr (by lia)⟩
  refine Zt (Ze (xs:=[G.d,.str z,.int (a:Int),.int i,.int ((3:Nat):Int)]) (Z2 rfl (Z2 rfl (Z2 rfl (Z2 (Z7 (W0 (U2 (Z2 rfl (Z2 (Ys (Z2 (Z7 rfl rfl rfl) rfl) (Tf St3.d G.steps)) rfl)) (by simp))) (Z7 rfl rfl (Q7 c 2 (by lia))) hi) rfl)))) (Q1 O (by lia) (by lia) (.inr (bf (WL fun k Y=>?_))) (fun q=>by lia))) rfl;have h1:=CF.mp (BP.mp Y).1;lia
 refine Z9 (Q3 (Y4 (Z7 rfl rfl (LS m 4))) (fun aJ=>?_) (fun aJ=>Yd ?_))
 ·exact Zt (Ze (xs:=[G.d,.str z,.int (a:Int),.int (a:Int),.int ((4:Nat):Int)]) rfl (Q1 O (by lia) (by lia) (.inr (nQ _ _)) (fun q=>by lia))) rfl
 refine Z9 (Q3 (Y4 (Z7 rfl rfl (LS m 5))) (fun aK=>?_) (fun aK=>Yd ?_))
 ·obtain⟨o,J,I⟩:∃ o:Nat,(h++[24])[c % (h.length+1)]?=some o/\o∉Wn G:=by
   have hl:c % (h.length+1)<(h++[24]).length:=by rw[AN];exact EI _ (by lia)
   refine⟨_,AH hl,fun hq=>?_⟩;rcases BQ.mp (GZ hl) with q | q
   ·exact aA _ q hq
   ·rw[AL.mp q] at hq
    have:=ah 24 hq;lia
  refine Z9 (Zi (d:=.int (o:Int)) (Z7 (x:=.lst (Zc (h++[24]))) (Z7 rfl (W0 (U2 rfl (by simp))) (by rw[Ks (by rw[Ym,AC];show _+1<=_;lia),← Xx];rfl)) (Z7 rfl (Z7 (Ys (Z2 rfl rfl) (Qz h)) rfl (Qg _ 1)) (Q7 c _ (by lia))) (Yl (by rw[Ym,AM,J];rfl))) ?_);obtain⟨i,hi⟩:∃ i:Int,Yi (.lst [.int (a:Int),.int (o:Int)]) (.int ((c / 7 % 2:Nat):Int))=some (.int i):=by
   have h2:c / 7 % 2=0\/c / 7 % 2=1:=by lia
   rcases h2 with q | q
   ·rw[q];exact⟨_,Yl (j:=0) rfl⟩
   ·rw[q];exact⟨_,Yl (j:=1) rfl⟩
  exact Zt (Ze (xs:=[G.d,.str z,.int i,.int (o:Int),.int ((5:Nat):Int)]) (Z2 rfl (Z2 rfl (Z2 (Z7 (W0 (U2 rfl (by simp))) (Z7 (Z7 rfl rfl (Um c 7 (by lia) (by lia))) rfl (Q7 _ 2 (by lia))) hi) rfl))) (Q1 O (by lia) (by lia) (.inr (bf (WL fun k Y e=>I (Int.ofNat.inj e▸Y)))) (fun q=>by lia))) rfl
 have h6:6<=m:=by
  have q1:m≠1:=by simpa using aD
  have q2:m≠2:=by simpa using H
  have q3:m≠3:=by simpa using aI
  have q4:m≠4:=by simpa using aJ
  have q5:m≠5:=by simpa using aK
  lia
 obtain⟨P,Q,Z,f1,fa,fj⟩:=eH E aw hz ⟨_,m0,k0,aT⟩ r aB am (c / 160000) m h6 A;refine Z9 (To (Tl (b:=true) (Us (Ze (xs:=[P.d,.str z,.int (a:Int),.int (b:Int),.int (m:Int)]) (Z2 (Ze (xs:=[G.d,.int (m:Int),.int ((c / 160000:Nat):Int),.int ((0:Nat):Int)]) (Z2 rfl (Z2 rfl (Z2 (Z7 rfl rfl (Um c 160000 (by lia) (by lia))) rfl))) Z) rfl) fa))) (Yd ?_));refine Z9 (To (Tl (b:=true) (Us (Ze (xs:=[Q.d,.str z,.int (a:Int),.int (b:Int)]) (Z2 (Ze (xs:=[G.d,.int (m:Int),.int ((c / 160000:Nat):Int),.int ((1:Nat):Int)]) (Z2 rfl (Z2 rfl (Z2 (Z7 rfl rfl (Um c 160000 (by lia) (by lia))) rfl))) f1) rfl) fj))) (Yd ?_));exact Zt (Ze (xs:=[G.d,.str z,.int (a:Int),.int (b:Int),.int ((0:Nat):Int)]) rfl hA) rfl
end K72
set_option maxHeartbeats 4000000
namespace K72
open PySem PySem.Spec PyProof.Rows L2
theorem Fp:∀ {ws:C3 Str},(∀ w∈ws,KW w)->Wr K H (ws.map Dat.str) (ws.map V.str)
 | [],_=>Uk
 | w::ws,h=>Vx (Dt (h w AW)) (Fp fun z hz=>h z (AX _ hz))
theorem hE{h:Gf}{x:Str}{a:A4}{its:Array A2}{sl:Array (C2 A2)}(X:K.In h)(G:h.Ns mainGlobals mg)(e:PySem.W.nsIn K mainGlobals x=some (some (.ref a)))(l:K.lookup a=some ⟨.type "tuple",od,.seq its n,sl⟩)(ws:C3 Str)(hv:Y5 (ws.map V.str) its.toList)(ok:∀ w∈ws,KW w)(hl:ws.length<=sizeLine):ND K mg x (.tup (ws.map .str)) :=
 ⟨.ref a,.ref a,PySem.W.mg_of X G e,rfl,fun H=>Cp (by rw[AC];exact hl) (.inr ⟨_,its,n,l,rfl,rfl,by have h1:=hv.length;have h2:its.toList.length=its.size:=FB;rw[AC] at h1;lia,hv,fun i hi=>by obtain⟨z,_,e⟩:=CZ.mp hi;cases e⟩) (Fp ok)⟩
abbrev BL:C3 Str:=["ValueError","all","any","enumerate","isinstance","len","list","max","min","range","reversed","sorted","tuple"]
abbrev RC(i j l e g k:A4):C3 (Str×A4):=[("Broken",i),("Crowded",j),("TooMany",l),("CalledOff",e),("Clash",g),("NoPlace",k)]
open PySem.W (mg_of mg_none_of) in
theorem Zml{p:Ff}{w:Fn}{h:Gf}{fa:A4}(X:K.In h)(G:h.Ns mainGlobals mg)(aa:mg "law" = some (.ref fa))
  {t0 S t2 t3 t4 t u A C E:Tok}
  {f:A4} {od an:C2 A4} {sl:Array (C2 A2)} {oc kV dc pm cd ct:A2}
  {q5:A4} {d5:C2 A4} {i5:Array A2} {n5:Nat} {w5:Array (C2 A2)}
  {i j l e g k C6 C7 D:A4}
  (a0:DD K "is_name" Rb)
  (a1:DD K "names" Gy)
  (a2:DD K "is_made" Hc)
  (a3:DD K "made" N9)
  (a4:DD K "steps_of" Jh)
  (a5:DD K "wire_of" Gq)
  (a6:DD K "is_rise" Gj)
  (a7:DD K "takes_of" Dz)
  (a8:DD K "fills_of" Dv)
  (a9:DD K "bits" Bh)
  (a10:DD K "has_one" Hb)
  (a11:DD K "can" UI)
  (a12:DD K "behind" K6)
  (a13:DD K "steps_at" Jq)
  (a14:DD K "way" TU)
  (a15:DD K "come_to" Gs)
  (a16:DD K "stands" K0)
  (a17:DD K "is_called" Tv)
  (a18:DD K "wants" Oz)
  (a19:DD K "robs" B2)
  (a20:DD K "touches_made" Qa)
  (a21:DD K "rivals" Ku)
  (a22:DD K "sound" Ot)
  (a23:DD K "wants_of" J6)
  (a24:DD K "unlike" Dk)
  (a25:DD K "clashes_among" Wc)
  (a26:DD K "need_none" Sl)
  (a27:DD K "free_spots" T8)
  (a28:DD K "has_room" Ec)
  (a29:DD K "need_room" Sf)
  (a30:DD K "need_two" E7)
  (a31:DD K "waiting" Hm)
  (a32:DD K "made_steps" Tb)
  (a33:DD K "put_in" K5)
  (a34:DD K "is_calm" Hf)
  (a35:DD K "parts" P5)
  (a36:DD K "parted" Lj)
  (a37:DD K "_law_mix" Du)
  (a38:DD K "_law_word" Sa)
  (a39:DD K "_law_order" R3)
  (a40:DD K "_law_arrows" M9)
  (a41:DD K "_law_graph" Yn)
  (a42:DD K "_law_with_made" T6)
  (a43:DD K "_law_new_name" Vc)
  (a44:DD K "_law_caught" Jw)
  (a45:DD K "_law_no_place" Tk)
  (a46:DD K "_law_has" Jk)
  (a47:DD K "_law_full" W1)
  (a48:DD K "_law_just" Sn)
  (a49:DD K "_law_bad_name" Ve)
  (a50:DD K "_law_asked" R6)
  (a51:DD K "_law_all_given" Wx)
  (l0:PySem.W.nsIn K mainGlobals "law" = some (some (.ref f))) (l1:K.lookup f=some ⟨oc,od,.func (PySem.W.fnOf "law" "law" (U9 Sg) (Yk Sg) (Z6 Sg) .none kV dc pm an cd ct),sl⟩) (l2:PySem.W.codeIn K cd "law" = true) (l3:PySem.W.keepIn K (.ref f)=true)
  (z:∀ x∈BL,PySem.W.nsIn K mainGlobals x=some none)
  (v0:PySem.W.nsIn K mainGlobals "LETTERS" = some (some (.str "abcdefghijklmnopqrstuvwxyz" t0)))
  (v1:PySem.W.nsIn K mainGlobals "LONGEST_NAME" = some (some (.int 8 S)))
  (v2:PySem.W.nsIn K mainGlobals "MANY_SPOTS" = some (some (.int 64 t2)))
  (v3:PySem.W.nsIn K mainGlobals "MOST_STEPS_AHEAD" = some (some (.int 22 t3)))
  (v4:PySem.W.nsIn K mainGlobals "MOST_WIRES_AHEAD" = some (some (.int 9 t4)))
  (v5:PySem.W.nsIn K mainGlobals "WORDS" = some (some (.ref q5))) (u5:K.lookup q5=some ⟨.type "tuple",d5,.seq i5 n5,w5⟩) (r5:i5.toList=[.str "given" t,.str "made" u,.str "up" A,.str "down" C,.str "start" E])
  (yC0:PySem.W.nsIn K mainGlobals "Broken" = some (some (.ref i)))
  (yC1:PySem.W.nsIn K mainGlobals "Crowded" = some (some (.ref j)))
  (yC2:PySem.W.nsIn K mainGlobals "TooMany" = some (some (.ref l)))
  (yC3:PySem.W.nsIn K mainGlobals "CalledOff" = some (some (.ref e)))
  (yC4:PySem.W.nsIn K mainGlobals "Clash" = some (some (.ref g)))
  (yC5:PySem.W.nsIn K mainGlobals "NoPlace" = some (some (.ref k)))
  (yC6:PySem.W.nsIn K mainGlobals "NoMove" = some (some (.ref C6)))
  (yC7:PySem.W.nsIn K mainGlobals "NoText" = some (some (.ref C7)))
  (yD:PySem.W.nsIn K mainGlobals "CalmError" = some (some (.ref D)))
  (b0:PySem.W.specialIn K (.ref D) "__getattribute__" = some (some (.builtin "type.__getattribute__"))) (b1:PySem.W.readsIn K D (.type "type")=true) (b2:PySem.W.findCls K (.ref D) (.type "type") "__init__" = some (.val (.builtin "ValueError.__init__")))
  (o0:CD K D i "Broken.__init__" i_0)
  (e0_0:PySem.W.findIn K (.ref i) "way" = some none)
  (o1:CD K D j "Crowded.__init__" i_1)
  (e1_0:PySem.W.findIn K (.ref j) "way" = some none)
  (o2:CD K D l "TooMany.__init__" i_2)
  (o3:CD K D e "CalledOff.__init__" i_3)
  (e3_0:PySem.W.findIn K (.ref e) "way" = some none)
  (e3_1:PySem.W.findIn K (.ref e) "lost" = some none)
  (e3_2:PySem.W.findIn K (.ref e) "by" = some none)
  (o4:CD K D g "Clash.__init__" i_4)
  (e4_0:PySem.W.findIn K (.ref g) "one" = some none)
  (e4_1:PySem.W.findIn K (.ref g) "other" = some none)
  (e4_2:PySem.W.findIn K (.ref g) "wire" = some none)
  (o5:CD K D k "NoPlace.__init__" i_6)
  (k0:KA K (RC i j l e g k) (.ref i) fun c=>decide (c="Broken"))
  (k1:KA K (RC i j l e g k) (.ref e) fun c=>decide (c="CalledOff"))
  (k2:KA K (RC i j l e g k) (.ref g) fun c=>decide (c="Clash"))
  (k3:KA K (RC i j l e g k) (.ref j) fun c=>decide (c="Crowded"))
  (k4:KA K (RC i j l e g k) (.ref C6) fun c=>decide (c="NoMove"))
  (k5:KA K (RC i j l e g k) (.ref k) fun c=>decide (c="NoPlace"))
  (k6:KA K (RC i j l e g k) (.ref C7) fun c=>decide (c="NoText"))
  (k7:KA K (RC i j l e g k) (.ref l) fun c=>decide (c="TooMany"))
  (kv:KA K (RC i j l e g k) (.type "ValueError") fun _=>true)
  (s:EA K (RC i j l e g k) D fun _=>true)
  (s0:EA K (RC i j l e g k) i fun c=>decide (c="Broken"))
  (s1:EA K (RC i j l e g k) j fun c=>decide (c="Crowded")) :
  ∃ fd:Df,(∀ (s:C0) (v:A2),BindsTo s fd ⟨[v],[]⟩ [("_law_script",v)])/\∀ base:Gf,K.In base->base.Ns mainGlobals mg->KC p w K mg base Ht 13 fa fd MQ (QQ K):=by
 cases aa.symm.trans (mg_of X G l0);have L (x) (hx:x∈BL:=by decide +kernel):=mg_none_of X G (z x hx);have x:XA K (RC i j l e g k):=.c o0.xc (.c o1.xc (.c o2.xc (.c o3.xc (.c o4.xc (.c o5.xc (.n))))));have y:YA K (RC i j l e g k):=.c yC0 (.c yC1 (.c yC2 (.c yC3 (.c yC4 (.c yC5 (.n))))));have B:KJ K mg D:=⟨mg_of X G yD,b0,b1,b2⟩;have T:Txt K mg:={ b_ValueError:=L "ValueError",b_all:=L "all",b_any:=L "any",b_enumerate:=L "enumerate",b_isinstance:=L "isinstance",b_len:=L "len",b_list:=L "list",b_max:=L "max",b_min:=L "min",b_range:=L "range",b_reversed:=L "reversed",b_sorted:=L "sorted",b_tuple:=L "tuple",c_LETTERS:=⟨.str "abcdefghijklmnopqrstuvwxyz",_,mg_of X G v0,⟨_,rfl⟩,fun H=>Dt (KW.of (by decide +kernel) (by decide +kernel))⟩,c_LONGEST_NAME:=⟨.int 8,_,mg_of X G v1,⟨_,rfl⟩,fun H=>Wf⟩,c_MANY_SPOTS:=⟨.int 64,_,mg_of X G v2,⟨_,rfl⟩,fun H=>Wf⟩,c_MOST_STEPS_AHEAD:=⟨.int 22,_,mg_of X G v3,⟨_,rfl⟩,fun H=>Wf⟩,c_MOST_WIRES_AHEAD:=⟨.int 9,_,mg_of X G v4,⟨_,rfl⟩,fun H=>Wf⟩,c_WORDS:=hE X G v5 u5 NK (by rw[r5];exact(.cons ⟨_,rfl⟩ (.cons ⟨_,rfl⟩ (.cons ⟨_,rfl⟩ (.cons ⟨_,rfl⟩ (.cons ⟨_,rfl⟩ .nil)))))) (by decide +kernel) (by decide +kernel),i_0:=Nf y x k0 (mg_of X G yC0),i_3:=Nf y x k1 (mg_of X G yC3),i_4:=Nf y x k2 (mg_of X G yC4),i_1:=Nf y x k3 (mg_of X G yC1),i_5:=Nf y x k4 (mg_of X G yC6),i_6:=Nf y x k5 (mg_of X G yC5),i_7:=Nf y x k6 (mg_of X G yC7),i_2:=Nf y x k7 (mg_of X G yC2),j_ValueError:=k9 y x kv,k_8:=kn y s (mg_of X G yD),q_0:=XX y s0 (mg_of X G yC0),q_1:=XX y s1 (mg_of X G yC1),u_8:=il y s (mg_of X G yD) };have d {n st} (a:DD K n st):=dv X G a;refine⟨PySem.W.fnOf "law" "law" (U9 Sg) (Yk Sg) (Z6 Sg) .none kV dc pm an cd ct,fun s v=>.of_eq rfl,fun b _ _=>?_⟩;have M0:=@ko p w K mg b _ _ B o0 yC0 (mg_of X G yC0) (L "list") e0_0;have M1:=@i8 p w K mg b _ _ B o1 yC1 (mg_of X G yC1) (L "list") e1_0;have M2:=@oD p w K mg b _ _ B o2 yC2 (mg_of X G yC2) (L "list");have M3:=@jz p w K mg b _ _ B o3 yC3 (mg_of X G yC3) (L "list") e3_0 e3_1 e3_2;have M4:=@hr p w K mg b _ _ B o4 yC4 (mg_of X G yC4) (L "list") e4_0 e4_1 e4_2;have M5:=@l4 p w K mg b _ _ B o5 yC5 (mg_of X G yC5) (L "list");have c0:=@et p w K mg b (d a0) T;have c1:=@d8 p w K mg b (d a1) T;have c2:=@hP p w K mg b (d a2) T;have c3:=@nq p w K mg b (d a3) T c2;have c4:=@iU p w K mg b (d a4) T;have c5:=@eO p w K mg b (d a5) T;have c6:=@f4 p w K mg b (d a6) T;have F:=@fW p w K mg b (d a7) T;have c8:=@jh p w K mg b (d a8) T;have c9:=@gU p w K mg b (d a9) T;have I:=@nz p w K mg b (d a10) T;have J:=@kJ p w K mg b (d a11) T c9 F;have ac:=@dg p w K mg b (d a12) T M0.x M1.x c5 c9 I c6 c8 F;have M:=@kB p w K mg b (d a13) T J;have o:=@jO p w K mg b (d a14) T;have ae:=@mj p w K mg b (d a15) T M0 M1 ac o;have af:=@fy p w K mg b (d a16) T M2 M ae;have ag:=@kQ p w K mg b (d a17) T J c4;have ah:=@mx p w K mg b (d a18) T ag;have ai:=@nc p w K mg b (d a19) T c9 F c8;have aj:=@Pw p w K mg b (d a20) T c2 c5;have ak:=@gF p w K mg b (d a21) T aj ai;have N:=@gy p w K mg b (d a22) T M3 af ak M o.d;have al:=@en p w K mg b (d a23) T ah;have am:=@lL p w K mg b (d a24) T;have ao:=@O9 p w K mg b (d a25) T c3 al am;have ap:=@lF p w K mg b (d a26) T M4 N ao o.d;have O:=@B0 p w K mg b (d a27) T c9 c8 I F;have aq:=@lx p w K mg b (d a28) T O;have P:=@jp p w K mg b (d a29) T M5 c0 c1 aq;have ar:=@lU p w K mg b (d a30) T M5;have au:=@fm p w K mg b (d a31) T;have Q:=@Bx p w K mg b (d a32) T c2 c5;have q:=@fQ p w K mg b (d a33) T P ar O au Q F;have aw:=@fJ p w K mg b (d a34) T ap;have R:=@mQ p w K mg b (d a35) T aw q;have ax:=@jV p w K mg b (d a36) T N P Q R q;have m:=@fc p w K mg b (d a37) T;have ay:=@iL p w K mg b (d a38) T;have az:=@Cg p w K mg b (d a39) T m;have aA:=@Fd p w K mg b (d a40) T m;have aB:=@Ck p w K mg b (d a41) T az m aA ay;have aC:=@Lr p w K mg b (d a42) T;have aD:=@Oc p w K mg b (d a43) T;have r:=@Fe p w K mg b (d a44) T q R ax;have U:=@O6 p w K mg b (d a45) T;have aE:=@mO p w K mg b (d a46) T;have Y:=@gY p w K mg b (d a47) T aE;have aF:=@mz p w K mg b (d a48) T r;have Z:=@O8 p w K mg b (d a49) T;have aG:=@Bk p w K mg b (d a50) T r U;have aH:=@Nc p w K mg b (d a51) T U r Y Z;exact i7 (WE (st:=Sg) l1 l2 l3) T m aC aD aG aB aF aH Z Y kx
theorem Znx{l:PySem.W.OpenLaw}{q:Ff}{d:DefRec}{K:Params->JT}(hn:l.most=some 63)(m:d.params.defaults=[])
  (R:∀ (w:Fn) (h:Gf),YP w h->(K w.params).In h)
  (F:∀ (w:Fn) (mg:KB) (fa:A4) (h:Gf),(K w.params).In h->h.Ns mainGlobals mg->mg d.name=some (.ref fa) ->
   ∃ fd:Df,(∀ (s:C0) (u:A2),BindsTo s fd ⟨[u],[]⟩ [("_law_script",u)])/\∀ base:Gf,(K w.params).In base->base.Ns mainGlobals mg->KC l.prog w (K w.params) mg base Ht 13 fa fd MQ (QQ (K w.params))) :
  PySem.W.WalkO q loose XP YP l.row.toRowW d [] (fun f vs=>PySem.call f vs) :=
 L2.Zlq (n:=63) (k:=13) (x:="_law_script") (CX:=fun _=>Ht) (sp:=fun w=>QQ (K w.params)) hn (by decide) m ⟨rfl,by decide,by decide,rfl⟩ R F (fun _ _ a ns hl _ hS=>⟨a,ns,rfl,hS,hl,fun _=>rfl⟩) fun _ _ _ _ _ z=>z
end K72
open PySem PySem.W PyProof.Rows L2
set_option maxRecDepth 100000 in
set_option maxHeartbeats 0 in
theorem PySem.Challenge.cw_calmwires_k72_no_place_holds : PySem.Challenge.rw_calmwires_k72_no_place.Holds := by
 refine theTop ?_
 k_fill;refine K72.Znx (l:=PySem.Challenge.rw_calmwires_k72_no_place) rfl rfl (fun w h Y=>PySem.W.kIn_of Y) ?F
 case F =>
  intro w mg fa h p G y;apply K72.Zml p G y
  case a0|a1|a2|a3|a4|a5|a6|a7|a8|a9|a10|a11|a12|a13|a14|a15|a16|a17|a18|a19|a20|a21|a22|a23|a24|a25|a26|a27|a28|a29|a30|a31|a32|a33|a34|a35|a36|a37|a38|a39|a40|a41|a42|a43|a44|a45|a46|a47|a48|a49|a50|a51=>refine' lQ ?A ?B ?C ?D;case A|B|C|D=>k_is
  case l0|l1|l2|l3|v0|v1|v2|v3|v4|v5|u5|yC0|yC1|yC2|yC3|yC4|yC5|yC6|yC7|yD|b0|b1|b2|e0_0|e1_0|e3_0|e3_1|e3_2|e4_0|e4_1|e4_2=>k_is
  case z =>
   refine' List.forall_mem_cons.mpr ⟨?_,?_⟩
   k_is
   repeat' first | refine' List.forall_mem_cons.mpr ⟨?_,?_⟩ | exact fun _ h=>nomatch h
   all_goals k_is
  case r5=>rfl
  case o0|o1|o2|o3|o4|o5=>
   refine' iK ?A ?B ?C ?D ?E ?F ?G ?H ?I ?J ?K ?L
   case A|B|C|D|E|F|G|H|I|J|K=>k_is
   case L=>kernel_rfl!
  case k0|k1|k2|k3|k4|k5|k6|k7|kv=>
   repeat' first | exact R0.n | refine' R0.c ?_ ?_
   all_goals first | refine' JG (b:=some false) ?_ (by decide +kernel) | refine' JG (b:=some true) ?_ (by decide +kernel)
   all_goals kit_is
  case s|s0|s1=>
   repeat' first | exact R0.n | refine' R0.c ?_ ?_
   all_goals first | refine' JG (b:=some false) ?_ (by decide +kernel) | refine' JG (b:=some true) ?_ (by decide +kernel)
   all_goals kts_exm
