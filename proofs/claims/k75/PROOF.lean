import PyProof.Rows.All
import Wide.All
import Wide.FinOn
import KE.KRevIter
import KE.KIntText
import KE.RegKIsAll
import KE.RegKTryMore
import KE.KDictOf
import KE.KFromBytes
import KE.KItem
import PySem.Challenge.RW_calmwires_k75_the_first_that_parts
set_option Elab.async false
set_option linter.all false
namespace L2
open PySem PySem.W
noncomputable def pT (l:List Obj):BT->Nat->Option BT:=
 @List.rec Obj (λ_=>BT->Nat->Option BT) (λt _=>some t) (λo _ ih t n=>bif ((t.ins n o).get n).isSome then ih (t.ins n o) (n+1) else none) l
theorem pTo (life:Life):∀ {l:List Obj}{t t' : BT}{n:Nat},pT l t n=some t'->absHeap t' (n+l.length) life=⟨(absHeap t n life).objs++l.toArray,life⟩
 | [],t,t',n,h=>by
  cases h
  show absHeap t n life = _
  simp
  rfl
 | o::r,t,t',n,h=>by
  have h' : (bif ((t.ins n o).get n).isSome then pT r (t.ins n o) (n+1) else none)=some t':=h
  cases e:((t.ins n o).get n).isSome with
  | false=>rw[e] at h';cases h'
  | true=>
   rw[e] at h'
   have i:=pTo life (l:=r) h'
   rw[absHeap_ins e] at i
   rw[show n+(o::r).length=n+1+r.length by simp only [List.length_cons];omega,i]
   show Heap.mk ((absHeap t n life).objs.push o++r.toArray) life = _
   congr 1
   apply Array.toList_inj.mp
   simp
noncomputable def pn (s:Shared):Option SharedT:=(pT s.heap.objs.toList .nil 0).map fun t=>⟨t,s.heap.objs.size,s.heap.life,s.gens,s.drawn,s.toks,s.os⟩
theorem po {s:Shared}{S:SharedT}(h:pn s=some S):S.abs=s:=by
 obtain⟨t,e,rfl⟩:=Option.map_eq_some_iff.mp h
 have i:=pTo s.heap.life e
 obtain⟨⟨objs,life⟩,gens,drawn,toks,os⟩:=s
 show Shared.mk (absHeap t objs.size life) gens drawn toks os = _
 have j:absHeap t objs.size life=⟨objs,life⟩:=by
  rw[Nat.zero_add] at i
  have k:(absHeap BT.nil 0 life).objs=#[]:=rfl
  simp only [k] at i
  rw[show objs.size=objs.toList.length from rfl,i]
  simp
 rw[j]
noncomputable def goT (st:SharedT->Thread->Option (SharedT × Thread)) (ok:Thread->Bool) (n:Nat):SharedT->Thread->Option SharedT:=
 @Nat.rec (λ_=>SharedT->Thread->Option SharedT) (λ_ _=>none) (λ_ ih s t=>bif through t then some s else bif ok t then (st s t).bind fun z=>ih z.1 z.2 else none) n
theorem gTo {tb:String->Option Builtin}{p:Program}{w:World}{m:Nat}{a:Option Value}:∀ {n:Nat}{s s' : SharedT}{t:Thread},goT (stepT (denote tb) p w) (stepOk m a) n s t=some s'->topRun tb p w m a n s.abs t=some s'.abs
 | 0,_,_,_,h=>nomatch h
 | n+1,s,s',t,h=>by
  have h' : (bif through t then some s else bif stepOk m a t then (stepT (denote tb) p w s t).bind fun z=>goT (stepT (denote tb) p w) (stepOk m a) n z.1 z.2 else none)=some s':=h
  unfold topRun
  cases e:through t with
  | true=>rw[e] at h';cases h';rfl
  | false =>
   rw[e] at h'
   cases e2:stepOk m a t with
   | false=>rw[e2] at h';cases h'
   | true=>
    rw[e2] at h'
    obtain⟨⟨s2,t2⟩,e3,e4⟩:=Option.bind_eq_some_iff.mp h'
    rw[stepT_spec e3]
    exact gTo e4
noncomputable def aT (tb:String->Option Builtin) (p:Program) (w:World) (N:Nat) (z:Shared):Option Shared:=
 bif z.heap.isNs mainGlobals&&z.gens.size == 0 then
  (pn z).bind fun S=>(goT (stepT (denote tb) p w) (stepOk z.heap.objs.size (z.heap.nsMap mainGlobals "__annotations__")) N S (topStub p)).bind fun y =>
   bif staticsOk (importedModules p.main.body) z.heap y.abs.heap&&namesBound p y.abs.heap&&gensDone y.abs&&laidKept z.heap y.abs.heap then some y.abs else none
 else none
theorem aTo {tb:String->Option Builtin}{p:Program}{w:World}{N:Nat}{z y:Shared}(h:aT tb p w N z=some y):topFrom tb p w N z=some y:=by
 unfold aT at h
 unfold topFrom
 cases e:(z.heap.isNs mainGlobals&&z.gens.size == 0) with
 | false=>rw[e] at h;cases h
 | true=>
  rw[e] at h
  obtain⟨S,e1,h⟩:=Option.bind_eq_some_iff.mp h
  obtain⟨Y,e2,h⟩:=Option.bind_eq_some_iff.mp h
  have r:=gTo e2
  rw[po e1] at r
  dsimp only
  rw[r]
  cases e3:(staticsOk (importedModules p.main.body) z.heap Y.abs.heap&&namesBound p Y.abs.heap&&gensDone Y.abs&&laidKept z.heap Y.abs.heap) with
  | false=>rw[e3] at h;cases h
  | true=>
   rw[e3] at h
   cases h
   show (match staticsOk (importedModules p.main.body) z.heap Y.abs.heap&&namesBound p Y.abs.heap&&gensDone Y.abs&&laidKept z.heap Y.abs.heap with | true=>_ | false=>_) = _
   rw[e3]
theorem l2 {p q:Program}{loose:List PySem.Str}{Xt:Shared->Bool}{α:Type}{Yf:Shared->α}{Ya:World->α}{N:Nat}{g0:Bool}
  (h1:∀ w,((fencedOpening treeTable p w N).bind (aT treeTable p w N)).map (λs=>openSeen q loose (importedModules p.main.body) Xt g0 s)=some (openGood q loose))
  (h2:∀ w,((fencedOpening treeTable p w N).bind (aT treeTable p w N)).map Yf=some (Ya w)):LeftO p q loose Xt Yf Ya N g0:=λw=>by
 obtain⟨s,e,e2⟩:=Option.map_eq_some_iff.mp (h1 w)
 have h3:=h2 w
 rw[e] at h3
 obtain⟨z,e3,e4⟩:=Option.bind_eq_some_iff.mp e
 unfold openEnds
 rw[e3]
 show (topFrom treeTable p w N z).map _ = _
 rw[aTo e4]
 show some (openSeen q loose (importedModules p.main.body) Xt g0 s,Yf s) = _
 rw[e2,show Yf s=Ya w from Option.some.inj h3]
theorem l1 {p q:Program}{loose:List PySem.Str}{Xt:Shared->Bool}{α:Type}{Yf:Shared->α}{Ya:World->α}{N:Nat}{g0:Bool}
  (h:∀ w,((fencedOpening treeTable p w N).bind (aT treeTable p w N)).map (λs=>(openSeen q loose (importedModules p.main.body) Xt g0 s,Yf s))=some (openGood q loose,Ya w)):LeftO p q loose Xt Yf Ya N g0:=
 l2 (λw=>by
  obtain⟨s,e,e2⟩:=Option.map_eq_some_iff.mp (h w)
  rw[e]
  exact congrArg some (Prod.mk.inj e2).1) (λw=>by
  obtain⟨s,e,e2⟩:=Option.map_eq_some_iff.mp (h w)
  rw[e]
  exact congrArg some (Prod.mk.inj e2).2)
end L2
section
open PySem PySem.W PyProof.Rows PySem.W.Fast
lay_quick PySem.Challenge.pw_calmwires_k75_the_first_that_parts
local macro_rules | `(tactic| refine $f:ident $as*) => do if (f.getId.toString.splitOn "holds_open").length > 1 then `(tactic| (refine' $f $as*; case' $(Lean.mkIdent `hl):ident => (refine' L2.l1 (fun w => ?_); unfold fencedOpening L2.aT; rw [show PySem.Challenge.rw_calmwires_k75_the_first_that_parts.row.prog = _ from te2172761939209603136,te10156331382660048174,te11892475500146522536,te6613529449190102663,te10274390034422433532,te14289696077712309145,te14364793385576792824,te1435165496053646825,te8920871248978507458,te4187177175401517315]; kernel_rfl!))) else Lean.Macro.throwUnsupported
set_option maxRecDepth 100000 in
set_option maxHeartbeats 0 in
open_top theTop for PySem.Challenge.rw_calmwires_k75_the_first_that_parts
end
open List (all_cons map_set map_take map_drop)
open PySem.W (instObj methodObj lookIn plainGet kitx_tuple kitx_dict codeRec_of)
open Nat (strongRecOn)
open PySem.Heap (ExtBut SameBut)
noncomputable section
set_option maxRecDepth 100000
abbrev C2(x:PySem.Str):Prop:=(x==("__debug__" : PySem.Str))=false
abbrev Z0(n:PySem.Env)(e:PySem.Expr)(l:List PySem.Expr):Prop:=PySem.starEach (e::l) n=(false,PySem.eval e n)::PySem.starEach l n
abbrev Z1(p:PySem.Pos)(n:PySem.Env)(l:List PySem.Expr):Prop:=(PySem.backTo p (PySem.starEach l n)).any (·.1)=false
local macro_rules|`(tactic|ext)=>`(tactic|first|exact .inl rfl|exact .inr rfl|exact .inr (.inl rfl)|exact .inr (.inr rfl)|assumption|decide +kernel|exact of_decide_eq_true (by kernel_rfl!))
abbrev A1:=PySem.Value
abbrev A2:=PySem.Addr
abbrev A4:=PySem.Shared
abbrev C0:=PySem.Around
abbrev C1:=@Option
abbrev Z:=@List
abbrev C3:=PySem.Expr
abbrev C4:=PySem.Stmt
abbrev C5:=PySem.FuncData
abbrev Df:=PySem.Program
abbrev D1:=PySem.World
abbrev Ff:=PySem.Heap
abbrev Fn:=PySem.Scope
abbrev Gf:=PySem.Env
def AA:=@PySem.wpAny_bind
def AB:=@PySem.Heap.get?_push_of_some
def AC:=@PySem.wpAny_pure
def AD:=@List.length_map
def AE:=@List.getElem?_eq_some_iff
def AF:=@if_pos
def AG:=@List.getElem?_eq_getElem
def AH:=@decide_eq_false
def AI:=@List.mem_of_getElem?
def AJ:=@List.mem_singleton
def AK:=@decide_eq_true
def AL:=@if_neg
def AM:=@List.getElem?_map
def AN:=@PySem.Heap.lt_size
def AO:=@Ne.symm
def AQ:=@PySem.Heap.get?_push_size
def AR:=@Nat.lt_of_lt_of_le
def AT:=@Nat.le_refl
def AU:=@List.size_toArray
def AV:=@List.mem_cons_of_mem
def AW:=@List.mem_cons_self
def AX:=@List.length_append
def AY:=@Bool.and_eq_true
def AZ:=@List.mem_cons
def BA:=@PySem.Heap.get?_update_other
def BB:=@List.getElem?_set
def BC:=@Nat.le_trans
def BD:=@Array.length_toList
def BE:=@PySem.wpAny_loadPart_at
def BF:=@Option.some.inj
def BG:=@Nat.ne_of_lt
def BH:=@List.length_cons
def BI:=@PySem.Heap.get?_update_self
def BJ:=@List.length_set
def BK:=@PySem.wpAny_newObj_type
def BM:=@of_decide_eq_true
def BN:=@PySem.wpAny_holding
def BO:=@PySem.wpAny_mono
def BP:=@Int.toNat_natCast
def BQ:=@PySem.PassesOwn.never
def BR:=@List.map_append
def BS:=@PySem.Obj.data_mapFields
def BU:=@PySem.mem_of_lookup
def BV:=@List.mem_append
def BW:=@List.getElem?_append_left
def BX:=@PySem.wpAny_call_entry
def BY:=@Bool.false_ne_true
def BZ:=@Array.getElem?_eq_getElem
def CA:=@PySem.wpAny_field
def CB:=@List.mem_append_right
def CC:=@List.map_cons
def CF:=@PySem.wpAny_callSpecial?_slot
def CG:=@List.take_of_length_le
def CH:=@List.length_drop
def CI:=@List.mem_append_left
def CJ:=@beq_eq_false_iff_ne
def CK:=@decide_eq_true_eq
def CL:=@List.mem_map
def CM:=@List.length_take
def CN:=@PySem.wpAny_Call_Name_kw
def CO:=@Or.inr
def CP:=@Nat.zero_le
def CQ:=@PySem.wpAny_setField
def CS:=@PySem.W.kia_one
def CT:=@List.eraseIdx_eq_take_drop_succ
def CU:=@Nat.lt_succ_of_lt
def CV:=@PySem.codeAny_builtin
def CW:=@List.all_eq_true
def CY:=@Nat.pow_le_pow_right
def CZ:=@List.mem_range
def DA:=@Nat.lt_irrefl
def DB:=@List.nodup_cons
def DC:=@List.getElem?_append_right
def DE:=@List.length_range
def DF:=@PySem.Obj.isFreed_of_fields
def DG:=@Or.inl
def DH:=@Nat.le_succ
def DI:=@List.length_singleton
def DJ:=@Nat.eq_of_testBit_eq
def DK:=@Nat.lt_succ_self
def DL:=@PySem.wpAny_standAt
def DM:=@PySem.Heap.SameBut.update
def DN:=@Nat.lt_or_ge
def DO:=@beq_iff_eq
def DP:=@Array.getElem?_toList
def DQ:=@PySem.F.slot_list_append
def DR:=@PySem.F.type_list_append
def DU:=@Int.zero_add
def DV:=@List.mem_or_eq_of_mem_set
def DW:=@Nat.eq_zero_or_pos
def DX:=@Nat.le_of_lt
def DY:=@congrArg
def DZ:=@PySem.wpAny_truthy_bool
def EB:=@List.nodup_nil
def EC:=@PyProof.Rows.callWith_type1
def ED:=@PySem.wpAny_loadPart'
def EE:=@Nat.testBit_and
def EF:=@PySem.sizeLine_eq
def EG:=@PySem.codeAny_mono
def EH:=@Array.getElem?_eq_some_iff
def EI:=@PySem.F.excBase_ValueError
def EJ:=@List.getElem?_eq_none
def EK:=@beq_self_eq_true
def EL:=@List.filterMap_cons
def EM:=@List.Perm.refl
def EN:=@List.drop_eq_getElem_cons
def EO:=@PyProof.Rows.slot_tuple_getitem
def EQ:=@List.lookup_cons
def ER:=@PySem.wpAny_of_eq
def ES:=@List.mem_filter
def ET:=@PySem.codeAny_call_builtin
def EU:=@PySem.Heap.size_push
def EV:=@PySem.F.plainAttrs_list
def EW:=@List.length_replicate
def EX:=@List.map_map
def EY:=@Nat.lt_of_le_of_lt
def EZ:=@List.length_eq_zero_iff
def FB:=@Nat.not_lt
def FC:=@Bool.false_eq_true
def FD:=@PySem.wpAny_passesOwn
def FE:=@PySem.builtinLookup_eq_fast
def FF:=@Bool.eq_iff_iff
def FG:=@PySem.F.slot_tuple_iterator_next
def FH:=@Nat.mod_lt
def FI:=@PySem.wpAny_setState_of
def FJ:=@PySem.fits_of_scanBound
def FK:=@PySem.wpAny_call
def FL:=@True.intro
def FM:=@List.pairwise_iff_getElem
def FN:=@PySem.Around.under_plainId
def FO:=@List.take_append_drop
def FP:=@PySem.wpAny_typeOf
def FQ:=@Option.isSome_iff_exists
def FR:=@PySem.wpAny_setEntries_of
def FS:=@List.getElem?_replicate
def FT:=@PySem.wpAny_getItem_str_slice
def FU:=@List.mem_replicate
def FV:=@List.idxOf_cons
def FW:=@List.getElem?_of_mem
def FX:=@Nat.testBit_or
def FY:=@PySem.Code.quiet_builtin
def FZ:=@PySem.wpAny_pyIter_tuple
def GA:=@PySem.W.callWith_K
def GB:=@Bool.or_eq_true
def GC:=@PySem.Obj.cls_mapFields
def GD:=@List.take_succ_cons
def GE:=@List.getElem?_range
def GF:=@List.mem_map_of_mem
def GG:=@List.nodup_append
def GH:=@PySem.wpAny_seqItems
def GI:=@PySem.codeAny_handlers_test
def GJ:=@List.count_cons_of_ne
def GK:=@PySem.F.typeOf_object_class
def GL:=@List.idxOf_lt_length_of_mem
def GM:=@List.append_nil
def GN:=@PySem.wpAny_isInstance
def GO:=@List.getElem?_set_ne
def GP:=@Bool.and_eq_true_iff
def GQ:=@List.pairwise_cons
def GR:=@PySem.plainId_quiet
def GS:=@PySem.wpAny_attempt
def GT:=@PySem.strLen_append
def GU:=@Bool.true_and
def GV:=@List.not_mem_nil
def GW:=@Nat.testBit_xor
def GY:=@PySem.wpAny_handleBy_cons
def GZ:=@Nat.testBit_two_pow
def HA:=@List.getElem?_eq_none_iff
def HB:=@PySem.typeLookup_type
def HC:=@PySem.wpAny_ite_split
def HD:=@List.any_cons
def HE:=@List.take_succ
def HF:=@PySem.F.args_tuple_add_2
def HG:=@if_false
def HH:=@PySem.Txt.slice_le
def HI:=@Nat.succ.inj
def HJ:=@List.length_nil
def HK:=@List.find?_cons
def HL:=@PySem.wpAny_runValue
def HM:=@PySem.wpAny_rule
def HN:=@PySem.F.entry_tuple_add
def HP:=@PyProof.Rows.F.plain_set_update_loop
def HQ:=@PySem.F.slot_list_index
def HR:=@PySem.wpAny_pyIter_list
def HS:=@Nat.le_succ_of_le
def HU:=@PySem.wpAny_storeSet_of
def HV:=@PySem.wpAny_pyIter_slot
def HW:=@List.getElem_mem
def HX:=@PySem.Heap.size_update
def HY:=@PySem.wpAny_pyNext_list_item
def HZ:=@PySem.F.slot_tuple_add
def IB:=@List.range_succ_eq_map
def IC:=@List.getElem?_cons
def ID:=@Nat.succ_le_succ
def IE:=@Nat.le_of_not_lt
def IF:=@Nat.zero_testBit
def IG:=@PySem.wpAny_pyNext_list_end
def IH:=@List.reverse_cons
def II:=@List.ext_getElem?
def IJ:=@PySem.Heap.get?_none_of_le
def IK:=@PySem.wpAny_execs_nil
def IL:=@PySem.post_val_or_str
def IM:=@PySem.wpAny_specialOf
def IN:=@List.mem_iff_getElem
def IP:=@Array.getElem_toList
def IQ:=@Nat.two_pow_pos
def IR:=@List.count_cons_self
def IS:=@PySem.wpAny_isSubtype_exc
def IT:=@List.length_reverse
def IU:=@PySem.W.cellsFrom_some
def IV:=@Nat.ne_of_gt
def IW:=@Prod.ext
def IX:=@PySem.isSubtype_type
def IY:=@PySem.wpAny_fieldsOf
def IZ:=@List.any_eq_true
def JA:=@Prod.mk.inj
def JB:=@PySem.Calls.spliced_cons
def JC:=@List.filterMap_map
def JD:=@Array.all_eq_true'
def JE:=@of_decide_eq_false
def JF:=@List.count_pos_iff
def JG:=@List.getElem?_drop
def JH:=@List.getElem?_take
def JI:=@PySem.wpAny_handled
def JJ:=@PySem.Paired.length
def JK:=@PySem.Calls.spliced_nil
def JL:=@List.take_sublist
def JM:=@Option.some.injEq
def JN:=@PySem.wpAny_pyIter_enum
def JO:=@Bool.eq_false_iff
def JP:=@Bool.not_eq_true'
def JQ:=@List.pairwise_map
def JR:=@List.of_mem_zip
def JS:=@List.range_succ
def JT:=@PySem.call_meets
def JU:=@if_true
def JV:=@PySem.noFill_tuple_add
def JW:=@Option.getD_some
def JX:=@PySem.wpAny_askSetting
def JY:=@or_false
def JZ:=@PySem.codeAny_of_tree
def KB:=@Option.map_some
def KC:=@PySem.wpAny_updateSeq
def KD:=@Nat.min_eq_left
def KF:=@PySem.wpAny_throw
def KG:=@PySem.seqIndex_of
def KH:=@List.map_nil
def KI:=@PySem.isSubtype_stop
def KJ:=@Bool.false_and
def KL:=@PySem.arm_exec_Raise
def KM:=@Bool.and_false
def KN:=@Nat.le_of_eq
def KO:=@Nat.zero_add
def KP:=@Eq.trans
def KQ:=@PySem.seq_tuple_add
def KR:=@Bool.or_false
def KS:=@PySem.Moved.eq_with
def KU:=@PySem.wpAny_newList
def KW:=@Bool.and_self
def KY:=@List.drop_zero
def KZ:=@List.take_zero
def LA:=@PySem.W.kitx_list
def LB:=@Bool.or_true
def LC:=@PySem.concat_meets
def LF:=@PySem.seqIndex_neg
def LG:=@Nat.lt_trans
abbrev J1:=PySem.Value->PySem.Shared->Prop
abbrev G8:=PySem.W.Frag
abbrev IA:=Z (PySem.Addr×PySem.Obj)
abbrev J':=PySem.Str->C1 PySem.Value
variable{prog P:PySem.Program}{w:PySem.World}{A:PySem.Around}{E Q:J1}{h h' base:PySem.Heap}{g:Z PySem.Value->Z PySem.Value->Z PySem.Value}{nm:C1 PySem.Str}{q name m ai:PySem.Str}{C it l dx:PySem.Addr}{bm ak its us ds its':Z PySem.Value}{hdct ab:Bool}{sn ps ks loose:Z PySem.Str}{col:C1 Bool}{dd an od:C1 PySem.Addr}{k0 k1 k2 k3 k5:C1 PySem.Value}{B:Prop}{newId T:String}{mN mA mg:J'}{env:PySem.Env}{s s':PySem.Shared}{e tg iter aq:PySem.Expr}{vs ve ac:Array PySem.Value}{α:Type}{i t' j:Nat}{u au pm aj ct oc vl vu:PySem.Value}{aa:IA}{ch fp:Z PySem.Addr}{pos am p aC aw kpos:PySem.Pos}{op:PySem.CmpOp}{xs:Z α}{K:G8}{es:Z PySem.Expr}{body:Z PySem.Stmt}{lo hi:C1 Int}{kw:Z (PySem.Str×PySem.Value)}{outer:Z PySem.Env}{fd:PySem.FuncData}{sc scope:PySem.Scope}{ns:Z Int}{XP:(PySem.Str->C1 PySem.Value)->PySem.Heap->Prop}{YP:PySem.World->PySem.Heap->Prop}{cells:Z (PySem.Str×PySem.Addr)}
namespace L2
open PySem
section
variable{g:Array GenState}{d:Drawn}{t:Nat}{os:OsState}
variable{nm:Str}{N:A2}{bs aF:Z A1}{sub:Z A1}{B Bn aL aG aN:String}{aO:Z A1}
theorem Oa(i:ExcBaseFacts Bn newId aN aO)(a:aF.contains (.type Bn)=true)(F:ExcBaseFacts B aL aG aF)(T:OwnTail h aF bm){fI:A2}{y:Obj}{Q:Fin->A4->Prop}
   (hC:h.get? C=some (excClassObj nm q C N bs bm hdct sn sub ab col dd k0 k1 k2 k3 k5 newId)) (hn:h.Ns N mN) (hi:mN "__init__" = some (.ref fI))
   (f:h.get? fI=some y) (R:y.cls=.type "function")
   (hq:∀ h' e,h.objs.size<=e->Heap.MadeExcOf h h' e (.ref C) ak ->
     wpAny (model prog w) A (call (.ref fI) (.ref e::ak)) (λr s'=>r=.none/\Q (.done (.ret (.ref e))) s') E ⟨h',g,d,t,os⟩) (hrest:ak.length<=sizeLine:=by size_fits) :
   wpAny (model prog w) A (Builtin.«type.__call__» ⟨.ref C::ak,[]⟩) Q E ⟨h,g,d,t,os⟩:=by
 repeat (first | with_reducible refine BE hC ?_ | with_reducible refine wpAny_madeBy_exc hC ?_ | wp_step)
 refine codeAny_call_builtin_code (FY _ i.quiet) (wpAny_check_new_subU i a T hC ?_);refine codeAny_exc_new_subU i a F T hC ?_ hrest;show wpAny _ _ _ _ _ _;have hC₁:=AB { cls:=.ref C,data:=.fields #[.ref h.objs.size,.none,.none,.none,.bool false,.none] }
   (AB { cls:=.type "tuple",data:=.seq ak.toArray } hC)
 have hfI₁:=AB { cls:=.ref C,data:=.fields #[.ref h.objs.size,.none,.none,.none,.bool false,.none] }
   (AB { cls:=.type "tuple",data:=.seq ak.toArray } f)
 have hn₁:((h.push { cls:=.type "tuple",data:=.seq ak.toArray }).push { cls:=.ref C,data:=.fields #[.ref h.objs.size,.none,.none,.none,.bool false,.none] }).Ns N mN :=
   let ⟨o,es,ep,e,r⟩:=hn;⟨o,es,ep,AB _ (AB _ e),r⟩
 have c:((h.push { cls:=.type "tuple",data:=.seq ak.toArray }).push
     { cls:=.ref C,data:=.fields #[.ref h.objs.size,.none,.none,.none,.bool false,.none] }).get? (h.objs.size+1)=some
     { cls:=.ref C,data:=.fields #[.ref h.objs.size,.none,.none,.none,.bool false,.none] }:=by heap_get
 have k:(Value.ref C::bm).contains (.ref C)=true:=by simp
 have T₁:=T.keeps (h':=(h.push { cls:=.type "tuple",data:=.seq ak.toArray }).push { cls:=.ref C,data:=.fields #[.ref h.objs.size,.none,.none,.none,.bool false,.none] })
   λb o e=>AB _ (AB _ e)
 unfold isInstance;repeat (first | with_reducible refine BE c ?_ | (with_reducible refine IS hC₁ ?_;rw[k]) | wp_step)
 show wpAny _ _ (typeLookup (.ref C) _) _ _ _;refine wpAny_typeLookup_tail hC₁ hn₁ T₁ F.mroIs F.init.lookup ?_;rw[hi];refine BN (AA ?_);unfold bindSpecial;refine AA (FP (T:="function") ⟨_,hfI₁,R⟩ ?_);rw[AF (by decide)];refine AC (AA (BO (hq _ (h.objs.size+1) (DH _) ⟨λb o hb=>AB _ (AB _ hb),IJ (DH _),h.objs.size,c,IJ (AT _),?_⟩) (λr s' hr=>?_) λ_ _ x=>x))
 · exact AB _ (Heap.get?_push_at rfl rfl)
 · obtain⟨rfl,j⟩:=hr
   wp_walk
   exact j
theorem Xd(i:ExcBaseFacts Bn newId aN aO)(a:aF.contains (.type Bn)=true)(F:ExcBaseFacts B aL aG aF)(T:OwnTail h aF bm){fI:A2}{y:Obj} 
  (hC:h.get? C=some (excClassObj nm q C N bs bm hdct sn sub ab col dd k0 k1 k2 k3 k5 newId)) (hn:h.Ns N mN) (hi:mN "__init__" = some (.ref fI))
  (f:h.get? fI=some y) (R:y.cls=.type "function")
  (hq:∀ h' e,h.objs.size<=e->Heap.MadeExcOf h h' e (.ref C) ak ->
   wpAny (model prog w) (A.under (.builtin "type.__call__" ⟨.ref C::ak,[]⟩)) (call (.ref fI) (.ref e::ak)) (λr s'=>r=.none/\Q (.ref e) s') E ⟨h',g,d,t,os⟩) (hrest:ak.length<=sizeLine:=by size_fits) :
  wpAny (model prog w) A (call (.ref C) ak) Q E ⟨h,g,d,t,os⟩:=by
 have f1:=tc_lookup;have f2:=tc_bind (.ref C);have hT:(⟨h,g,d,t,os⟩:A4).TypeIs (.ref C) "type" := ⟨_,hC,rfl⟩;refine FK (JZ ?_);show wpAny _ _ (callAny (.ref C) _) _ _ _;repeat (any_goals (first | assumption | with_reducible refine BE hC ?_ | wp_step))
 refine⟨rfl,?_⟩;refine codeAny_call_builtin_at (FY _ (by ext)) entry_typeCall (wpAny_check_type_call_sub hC (Oa (hrest:=hrest) i a F T hC hn hi f R λh' e m hm=>?_));exact hq h' e m hm
end
section
variable{M:Model}
variable{nm:Str}{N:A2}{bs:Z A1}{sub:Z A1}
theorem Nb{x:Sem A1}{Q:Flow->A4->Prop}(u:bm.contains (.type "BaseException")=true)(hh:A.handled=none)
   (h:wpAny M A x (λv s₁=>∃ e a dct,v=.ref e/\s₁.heap.get? C=some (excClassObj nm q C N bs bm hdct sn sub ab col dd k0 k1 k2 k3 k5 newId) /\
     s₁.heap.get? e=some { cls:=.ref C,dict:=dct,data:=.fields #[a,.none,.none,.none,.bool false,.none] }/\E (.ref e) s₁) E s) :
   wpAny M A (raiseStmt env (some x) none) Q E s:=by
 have D:(Value.ref C::bm).contains (.type "BaseException")=true:=by rw[List.contains_cons,u,LB]
 unfold raiseStmt;refine AA (BO h (λv s₁ h₁=>?_) λ_ _ x=>x);obtain⟨e,a,dct,rfl,hC,he,p⟩:=h₁;obtain⟨hp,g,d,tk,os⟩:=s₁;repeat (first | with_reducible refine BE he ?_ | with_reducible refine BE hC ?_ | (with_reducible refine IS hC ?_;rw[D]) | wp_step)
 exact wpAny_raiseNew_none hh p
end
theorem Mg:entryFor table "proto.unchain" = some Builtin.«proto.unchain» := entryFor_of_fast (by kernel_rfl)
def ChX(h:Ff)(e:A2):Prop:=∃ oe ve,h.get? e=some oe/\oe.data=.fields ve/\(ve[2]?=some .none\/∃ e2 o2 v2,ve[2]?=some (.ref e2)/\h.get? e2=some o2/\o2.data=.fields v2/\v2[2]?=some .none)
theorem ChX.at{e:A2}(c:ChX h e)(k:∀ a o v x,h.get? a=some o->o.data=.fields v->v[2]?=some x->h'.get? a=some o):ChX h' e:=by
 obtain⟨o,v,a1,a2,a3⟩:=c;refine⟨o,v,?_,a2,a3.imp id λ⟨e2,o2,v2,b1,b2,b3,D⟩=>⟨e2,o2,v2,b1,k _ _ _ _ b2 b3 D,b3,D⟩⟩;rcases a3 with z | ⟨_,_,_,z,_⟩
 ·exact k _ _ _ _ a1 a2 z
 ·exact k _ _ _ _ a1 a2 z
theorem Iz{e h:A2}{o:Obj}(ho:s.heap.get? h=some o)(hd:o.data=.fields vs)(hc:vs[2]?=some .none)(hq:Q .none s) :
  wpAny (model prog w) A (runValue (.builtin "proto.unchain" ⟨[.ref e,.ref h,.ref h,.bool false],[]⟩)) Q E s:=by
 refine HL (CV Mg ?_);unfold Builtin.«proto.unchain»;refine AA (CA ho hd hc ?_);exact AC hq
theorem C8{e h:A2}{oe i:Obj}{vh:Array A1}{Q:α->A4->Prop}(hh:A.handled=some (.ref h))(ne:h≠e)(he:s.heap.get? e=some oe)(n:oe.data=.fields ve)(h2:2<ve.size)
  (ho:s.heap.get? h=some i) (c:i.data=.fields vh) (hc:vh[2]?=some .none) (p:E (.ref e) { s with heap:=s.heap.update e (Obj.mapFields (·.setIfInBounds 2 (.ref h))) }):wpAny (model prog w) A (raiseNew (.ref e):Sem α) Q E s:=by
 unfold raiseNew;refine AA (JI ?_);rw[hh];have ag:(Value.ref h != Value.ref e)=true:=by
  simp only[bne_iff_ne,ne_eq];intro z;cases z;exact ne rfl
 dsimp only;rw[AF ag];refine AA (BN (Iz ho c hc ?_));show wpAny _ _ (setField (.ref e) 2 (.ref h) >>= _) _ _ _;refine AA (BO (CQ (x:=.ref h) he n h2 (Q:=λ_ s'=>s'={ s with heap:=s.heap.update e (Obj.mapFields (·.setIfInBounds 2 (.ref h))) }) rfl) (λ_ s' z=>?_) λ_ _ x=>x);rw[z];exact KF p
theorem pP{e h:A2}(hc:ChX s.heap h)(hn:∀ o v e2 o2 v2,s.heap.get? h=some o->o.data=.fields v->v[2]?=some (.ref e2)->s.heap.get? e2=some o2->o2.data=.fields v2->e2≠e)(hq:Q .none s) :
  wpAny (model prog w) A (runValue (.builtin "proto.unchain" ⟨[.ref e,.ref h,.ref h,.bool false],[]⟩)) Q E s:=by
 obtain⟨oe,ve,h1,h2,h3 | ⟨e2,o2,v2,h3,h4,h5,l⟩⟩:=hc
 ·exact Iz h1 h2 h3 hq
 have n1:(Value.ref e2==Value.ref e)=false:=by
  have:=hn oe ve e2 o2 v2 h1 h2 h3 h4 h5;simpa using this
 have n2:(Value.ref e2==Value.ref h)=false:=by
  have:e2≠h:=λz=>by
   subst z;rw[h1] at h4;cases h4;rw[h2] at h5;cases h5;rw[h3] at l;cases l
  simpa using this
 refine HL (CV Mg ?_);unfold Builtin.«proto.unchain»;refine AA (CA h1 h2 h3 ?_);rw[AL (show ¬ ((Value.ref e2==Value.none)=true) from by simp),AL (by rw[n1];simp),AL (by rw[n2];simp)];refine AA (AC ?_);refine AC ⟨GR (by ext) _,CV Mg ?_⟩;unfold Builtin.«proto.unchain»;refine AA (CA h4 h5 l ?_);exact AC hq
theorem Z3f{e h:A2}{oe:Obj}{Q:α->A4->Prop}{h0:Ff}(hh:A.handled=some (.ref h))(he:s.heap.get? e=some oe)(n:oe.data=.fields ve)(h2:2<ve.size)(hc:ChX h0 h)(Y:∀ a o v x,h0.get? a=some o->o.data=.fields v->v[2]?=some x->s.heap.get? a=some o/\a≠e)
  (p:E (.ref e) { s with heap:=s.heap.update e (Obj.mapFields (·.setIfInBounds 2 (.ref h))) }):wpAny (model prog w) A (raiseNew (.ref e):Sem α) Q E s:=by
 have f:ChX s.heap h:=hc.at λa o v x a1 a2 a3=>(Y a o v x a1 a2 a3).1
 obtain⟨o',B,a1,a2,a3⟩:=hc;obtain⟨b1,ne⟩:s.heap.get? h=some o'/\h≠e:=by
  rcases a3 with z | ⟨_,_,_,z,_⟩
  ·exact Y _ _ _ _ a1 a2 z
  ·exact Y _ _ _ _ a1 a2 z
 unfold raiseNew;refine AA (JI ?_);rw[hh];have ag:(Value.ref h != Value.ref e)=true:=by
  simp only[bne_iff_ne,ne_eq];intro z;cases z;exact ne rfl
 dsimp only;rw[AF ag];refine AA (BN (pP f (λo v e2 o2 v2 c1 c2 c3 c4 S=>?_) ?_))
 ·rw[b1] at c1;cases c1
  rw[a2] at c2;cases c2;rcases a3 with a3 | ⟨e3,o3,v3,b,c,d,g⟩
  ·rw[c3] at a3;cases a3
  ·rw[c3] at b;cases b
   exact(Y _ _ _ _ c d g).2
 show wpAny _ _ (setField (.ref e) 2 (.ref h) >>= _) _ _ _;refine AA (BO (CQ (x:=.ref h) he n h2 (Q:=λ_ s'=>s'={ s with heap:=s.heap.update e (Obj.mapFields (·.setIfInBounds 2 (.ref h))) }) rfl) (λ_ s' z=>?_) λ_ _ x=>x);rw[z];exact KF p
theorem Pj{h:A2}{Q:C1 A1->A4->Prop}(hh:A.handled=some (.ref h))(R:ChX s.heap h)
   (c:s.heap.IsListIter it l i) (hl:s.heap.IsList l ac) (hx:ac[i]?=none)
   (j:∀ h',ExtBut it s.heap h'->Q none { s with heap:=h' }):wpAny (model prog w) A (pyNext (.ref it)) Q E s:=by
 obtain⟨o,ho,hc,hd⟩:=id c;obtain⟨C,g,_,n,u⟩:=hl;unfold pyNext;refine AA (GS (CF (name:=Str.ofString "__next__") c.typeIs slot_listiter_next
   (BX slot_listiter_next c.typeIs entry_listiter_next ?_ (args_listiter_next _))))
 show wpAny _ _ (field (.ref it) 0 >>= _) _ _ s;refine AA (CA ho hd (x:=.ref l) rfl ?_);show wpAny _ _ (if(Value.ref l==Value.none)=true then _ else _) _ _ s;rw[AL (show ¬ ((Value.ref l==Value.none)=true) from BY)];show wpAny _ _ (field (.ref it) 1 >>= _) _ _ s;refine AA (CA ho hd (x:=.int i 0) rfl ?_);show wpAny _ _ (seqItems? (.ref l) >>= _) _ _ s;refine AA (GH g u ?_);simp only[BP,hx];refine AA (HM (AA (CQ ho hd (by simp) ?_)));show wpAny _ _ (newExc (.type "StopIteration") [] >>= _) _ _ _;refine AA ?_;simp only[newExc,newTuple];refine AA (BK ?_ (by size_fits));refine AA (m:=firstArgMember _ _) (ER (a:=Value.none) (by first | rfl | (simp only[firstArgMember];rfl)) ?_);refine BK ?_ (by size_fits);have sz:∀ {f:Obj->Obj},(s.heap.update it f).objs.size=s.heap.objs.size:=λ{f}=>by simp[Heap.update]
 have ah:∀ {f:Obj->Obj} {o1:Obj} {b:A2} {ob:Obj},s.heap.get? b=some ob->b≠((s.heap.update it f).push o1).objs.size:=λ{f o1 b ob} q z=>by
   have:=AN q;rw[z,EU,sz] at this;exact absurd this (FB.mpr (DH _))
 refine Z3f (A:=A.in1) (h:=h) (h0:=s.heap) hh (AQ _ rfl) rfl (by simp;lia) R (λa o' v x a1 a2 a3=>⟨?_,ah a1⟩) ?_
 · have ag:it≠a:=λz=>by
     subst z;rw[ho] at a1;cases a1;rw[hd] at a2;cases a2;simp at a3
   exact AB _ (AB _ ((BA _ _ ag).trans a1))
 refine AA (GN (T:="StopIteration") (b:=true) ⟨_,BI _ (AQ _ rfl) rfl,rfl⟩ KI ?_);refine AC (j _ λb ob hb eo=>?_);exact(BA _ _ (ah eo).symm).trans (AB _ (AB _ ((BA _ _ (AO hb)).trans eo)))
theorem kB{nm:Str}{N h:A2}{bs:Z A1}{sub:Z A1}{x o:Sem A1}{Q:Flow->A4->Prop}(u:bm.contains (.type "BaseException")=true)(hh:A.handled=some (.ref h))
   (hx:wpAny (model prog w) A x (λv s₁=>∃ e a dct,v=.ref e/\s₁.heap.get? C=some (excClassObj nm q C N bs bm hdct sn sub ab col dd k0 k1 k2 k3 k5 newId) /\
     s₁.heap.get? e=some { cls:=.ref C,dict:=dct,data:=.fields #[a,.none,.none,.none,.bool false,.none] }/\h≠e/\(∃ i vh,s₁.heap.get? h=some i/\i.data=.fields vh/\vh[2]?=some .none) /\
     wpAny (model prog w) A o (λB s₂=>B=.none/\s₂.heap=s₁.heap/\∀ h',(∀ b,b≠e->h'.get? b=s₁.heap.get? b)->h'.get? e=some { cls:=.ref C,dict:=dct,data:=.fields #[a,.none,.ref h,.none,.bool true,.none] }->h'.objs.size=s₁.heap.objs.size->E (.ref e) { s₂ with heap:=h' }) E s₁) E s) :
   wpAny (model prog w) A (raiseStmt env (some x) (some o)) Q E s:=by
 have D:(Value.ref C::bm).contains (.type "BaseException")=true:=by rw[List.contains_cons,u,LB]
 unfold raiseStmt;refine AA (BO hx (λv s₁ h₁=>?_) λ_ _ x=>x);obtain⟨e,a,dct,rfl,hC,he,ag,⟨i,vh,ho,c,hc⟩,hz⟩:=h₁;refine AA (BN (BO hz (λB s₂ h₂=>?_) λ_ _ x=>x));obtain⟨rfl,l,p⟩:=h₂;obtain⟨hp,g,d,tk,os⟩:=s₂;have j:hp=s₁.heap:=l;subst j;repeat (first | with_reducible refine BE he ?_ | with_reducible refine BE hC ?_ | (with_reducible refine IS hC ?_;rw[D]) | wp_step)
 have k:e≠C:=by
   intro z;subst z;rw[he] at hC;injection hC with hC
   have:=DY Obj.data hC;simp[excClassObj] at this
 have m:((s₁.heap.update e (Obj.mapFields λx=>x.setIfInBounds 3 Value.none)).update e (Obj.mapFields λx=>x.setIfInBounds 4 (Value.bool true))).get? C=some (excClassObj nm q C N bs bm hdct sn sub ab col dd k0 k1 k2 k3 k5 newId):=by
   rw[BA _ _ k,BA _ _ k];exact hC
 have f:((s₁.heap.update e (Obj.mapFields λx=>x.setIfInBounds 3 Value.none)).update e (Obj.mapFields λx=>x.setIfInBounds 4 (Value.bool true))).get? e=some { cls:=.ref C,dict:=dct,data:=.fields #[a,.none,.none,.none,.bool true,.none] } :=
   BI _ (BI _ he rfl) rfl
 have n:((s₁.heap.update e (Obj.mapFields λx=>x.setIfInBounds 3 Value.none)).update e (Obj.mapFields λx=>x.setIfInBounds 4 (Value.bool true))).get? h=some i:=by
   rw[BA _ _ (AO ag),BA _ _ (AO ag)];exact ho
 repeat (first | with_reducible refine BE m ?_ | with_reducible refine BE f ?_ | wp_step)
 refine C8 hh ag f rfl (by show 2<6;decide) n c hc ?_;refine p _ (λb hb=>?_) (BI _ f rfl) ?_
 · show(((s₁.heap.update e _).update e _).update e _).get? b=_
   rw[BA _ _ (AO hb),BA _ _ (AO hb),BA _ _ (AO hb)]
 · show(((s₁.heap.update e _).update e _).update e _).objs.size=_
   simp[Heap.update]
end L2
variable{ak:Z PySem.Expr}{cd:PySem.Value}{s1:PySem.Shared}{q:PySem.Program}{ex:Z PySem.Addr}
namespace L2
open PySem PySem.Spec PyProof.Rows
abbrev Vp:=Sum Int Str
def B8:Vp->A1->Bool
 | .inl k,v=>Value.isInt k v
 | .inr x,v=>Value.isStrOf x v
def gS(w:D1):Vp->Int
 | .inl k=>hashInt k
 | .inr x=>hashStr w x
theorem Wy:∀ {k:Vp} {v:A1},B8 k v=true->(∃ i t,k=Sum.inl i/\v=Value.int i t)\/(∃ x t,k=Sum.inr x/\v=Value.str x t)
 | .inl i,v,h=>by
  obtain⟨t,e⟩:=Value.isInt_shape (k:=i) (v:=v) h;exact .inl ⟨i,t,rfl,e⟩
 | .inr x,v,h=>by
  obtain⟨t,e⟩:=Value.isStrOf_shape (x:=x) (v:=v) h;exact .inr ⟨x,t,rfl,e⟩
theorem nP(i:Int)(t:Tok):B8 (.inl i) (.int i t)=true:=by simp[B8,Value.isInt]
theorem nk(x:Str)(t:Tok):B8 (.inr x) (.str x t)=true:=by simp[B8,Value.isStrOf]
theorem kc(a b:Int):decide ((Sum.inl a:Vp)=Sum.inl b)=(a==b):=by
 by_cases e:a=b
 ·subst e;simp
 ·have h:¬ (Sum.inl a:Vp)=Sum.inl b:=λq=>e (Sum.inl.inj q)
  rw[AH h];exact(CJ.mpr e).symm
theorem lf(a b:Str):decide ((Sum.inr a:Vp)=Sum.inr b)=decide (a=b):=by
 by_cases e:a=b
 ·subst e;simp
 ·have h:¬ (Sum.inr a:Vp)=Sum.inr b:=λq=>e (Sum.inr.inj q)
  rw[AH h,AH e]
theorem e0(a:Int)(b:Str):decide ((Sum.inl a:Vp)=Sum.inr b)=false:=AH (λq=>nomatch q)
theorem m5(a:Str)(b:Int):decide ((Sum.inr a:Vp)=Sum.inl b)=false:=AH (λq=>nomatch q)
def Ve(prog:Df)(w:D1):PySem.KeyKind prog w Vp where
 is:=B8
 hash:=gS w
 inj:=λv a b ha hb=>by
  rcases Wy ha with⟨i,t,rfl,rfl⟩ | ⟨x,t,rfl,rfl⟩
  ·rcases Wy hb with⟨j,u,rfl,e⟩ | ⟨y,u,rfl,e⟩
   ·injection e with e1 _;rw[e1]
   ·exact nomatch e
  ·rcases Wy hb with⟨j,u,rfl,e⟩ | ⟨y,u,rfl,e⟩
   ·exact nomatch e
   ·injection e with e1 _;rw[e1]
 byValue:=λk v h=>by
  rcases Wy h with⟨i,t,rfl,rfl⟩ | ⟨x,t,rfl,rfl⟩<;>rfl
 pyHash:=λhv h=>by
  rcases Wy hv with⟨i,t,rfl,rfl⟩ | ⟨x,t,rfl,rfl⟩
  ·exact wpAny_pyHash_int h
  ·exact wpAny_pyHash_str h
 eqBool:=λhu hv h=>by
  rcases Wy hu with⟨i,t,rfl,rfl⟩ | ⟨x,t,rfl,rfl⟩
  ·rcases Wy hv with⟨j,u,rfl,rfl⟩ | ⟨y,u,rfl,rfl⟩
   ·rw[kc] at h;exact wpAny_eqBool_int h
   ·rw[e0] at h;exact SeqAt.EqAt.int_str i t y u _ _ _ _ h
  ·rcases Wy hv with⟨j,u,rfl,rfl⟩ | ⟨y,u,rfl,rfl⟩
   ·rw[m5] at h;exact SeqAt.EqAt.str_int x t j u _ _ _ _ h
   ·rw[lf] at h;exact wpAny_eqBool_str h
 «strs» :=λk x t v h=>by
  rcases Wy h with⟨i,u,rfl,e⟩ | ⟨y,u,rfl,e⟩
  ·exact nomatch e
  ·injection e with e1 _
   subst e1;cases v<;>rfl
theorem oQ(prog:Df)(w:D1)(i:Int)(t:Tok):(Ve prog w).is (.inl i) (.int i t)=true:=nP i t
theorem gY(prog:Df)(w:D1)(x:Str)(t:Tok):(Ve prog w).is (.inr x) (.str x t)=true:=nk x t
variable{Q:Unit->A4->Prop}
inductive V where
 | non | bl (b:Bool) | int (i:Int) | str (x:Str) | byt (b:Array UInt8) | flt (b:UInt64) | ref (a:Addr) | ty (n:String)
 deriving DecidableEq
def Yi:V->A1->Prop
 | .non,u=>u=Value.none
 | .bl b,u=>u=Value.bool b
 | .int i,u=>∃ t,u=Value.int i t
 | .str x,u=>∃ t,u=Value.str x t
 | .byt b,u=>∃ t,u=Value.bytes b t
 | .flt b,u=>∃ t,u=Value.float b t
 | .ref a,u=>u=Value.ref a
 | .ty n,u=>u=Value.type n
abbrev Y0:Z V->Z A1->Prop:=Paired Yi
theorem Y0.length{xs:Z V}{us:Z A1}(r:Y0 xs us):xs.length=us.length:=JJ r
theorem Y0.get:∀ {xs:Z V} {us:Z A1} {i:Nat} {x:V},Y0 xs us->xs[i]?=some x->∃ u,us[i]?=some u/\Yi x u
 | _,_,_,_,.nil,e=>by simp at e
 | _,_,0,_,.cons r _,e=>by simp at e;subst e;exact⟨_,rfl,r⟩
 | _,_,i+1,x,.cons _ t,e=>by
  obtain⟨u,h1,h2⟩:=Y0.get (i:=i) (x:=x) t (by simpa using e);exact⟨u,by simpa using h1,h2⟩
theorem Y0.set{x:V}(r:Yi x u):∀ {xs:Z V} {us:Z A1} (i:Nat),Y0 xs us->Y0 (xs.set i x) (us.set i u)
 | _,_,_,.nil=>.nil
 | _,_,0,.cons _ t=>.cons r t
 | _,_,i+1,.cons q t=>.cons q (Y0.set r i t)
theorem Y0.append:∀ {xs ys:Z V} {us ws:Z A1},Y0 xs us->Y0 ys ws->Y0 (xs++ys) (us++ws)
 | _,_,_,_,.nil,s=>s
 | _,_,_,_,.cons r t,s=>.cons r (Y0.append t s)
theorem Y0.take:∀ {xs:Z V} {us:Z A1} (n:Nat),Y0 xs us->Y0 (xs.take n) (us.take n)
 | _,_,0,_=>.nil
 | _,_,_+1,.nil=>.nil
 | _,_,n+1,.cons r t=>.cons r (Y0.take n t)
theorem Y0.drop:∀ {xs:Z V} {us:Z A1} (n:Nat),Y0 xs us->Y0 (xs.drop n) (us.drop n)
 | _,_,0,r=>r
 | _,_,_+1,.nil=>.nil
 | _,_,n+1,.cons _ t=>Y0.drop n t
def O8:C1 V->C1 A1->Prop
 | some v,some u=>Yi v u
 | none,none=>True
 | _,_=>False
def KV{κ:Type}:Z (κ×V)->Z (κ×A1)->Prop:=Paired λ(p:κ×V) (q:κ×A1)=>p.1=q.1/\Yi p.2 q.2
def kV:Vp->V
 | .inl i=>.int i
 | .inr x=>.str x
inductive HO where
 | lst (xs:List V)
 | tup (xs:List V)
 | dK (kvs:List (Vp×V)) | dT (kvs:List (List Vp×V))
 | set (S:Int->Bool) (n:Nat)
 | ins (C dx:Addr) (fs:List (Str×V))
 | own (x:Addr)
 | xd (fs:List (Str×V))
 | met (f x:Addr)
 | rng (lo hi:Int)
 | frz (o:Obj) (u:HO)
 | tbl (ps:Array Value)
 | ext (φ:Heap->Prop)
abbrev Hp:=A2->C1 HO
def Yr(H:Hp)(a:A2)(o:HO):Hp:=λb=>if b=a then some o else H b
theorem Zg{H:Hp}{a:A2}{o:HO}:Yr H a o a=some o:=by unfold Yr;rw[AF rfl]
theorem Zc{H:Hp}{a b:A2}{o:HO}(h:b≠a):Yr H a o b=H b:=by unfold Yr;rw[AL h]
theorem bG{H:Hp}{a b:A2}{o u:HO}(h:H a=some o)(h':H b=some u)(d:o≠u):a≠b:=by
 intro e;subst e;rw[h] at h';exact d (BF h')
variable{H H':Hp}{l:C3}
theorem Y8{a b:A2}{o:HO}(h:H a=some o)(h':H b=none):a≠b:=by
 intro e;subst e;rw[h] at h';cases h'
section
variable(P:Df)(w:D1)
def Yl(H:Hp)(h:Ff)(a:A2):HO->Prop
 | .lst xs=>xs.length<=sizeLine/\∃ (its:Z A1) (n:Nat),Y0 xs its/\h.get? a=some { cls:=.type "list",data:=.seq its.toArray n }
 | .tup xs=>xs.length<=sizeLine/\∃ its:Z A1,Y0 xs its/\IsTup h a its.toArray
 | .dK kvs=>kvs.length<=sizeLine/\(a==sysModules)=false/\∃ vs,KV kvs vs/\h.DictOf (Ve P w) a vs
 | .dT kvs=>kvs.length<=sizeLine/\(a==sysModules)=false/\∃ xs:Z (Z Vp×A2×A1),
  Paired (λ(p:Z Vp×V) (q:Z Vp×A2×A1)=>p.1=q.1/\H q.2.1=some (.tup (p.1.map kV))/\Yi p.2 q.2.2) kvs xs /\
  ∃ o es ep,h.get? a=some o/\o.ExactDict/\o.data=.dict es ep/\es.toList=xs.map (entryOfKey (tupleKind (Ve P w)))/\(xs.map (·.1)).Nodup
 | .set S n=>h.SetOf (intKind P w) a S n
 | .ins C dx fs=>H dx=some (.own a)/\fs.length<=1000/\dx≠a/\h.get? a=some (instObj C dx) /\
  ∃ mA,h.Ns1 dx mA/\(∀ f,O8 (fs.lookup f) (mA f))/\PySem.Within mA (fs.map (·.1))
 | .own _=>∃ o,h.get? a=some o
 | .xd fs=>∃ mA,h.Ns1 a mA/\∀ f,O8 (fs.lookup f) (mA f)
 | .rng lo hi=>∃ t u v,h.get? a=some { cls:=.type "range",data:=.fields #[.int lo t,.int hi u,.int 1 v] }
 | .frz o u=>h.get? a=some o/\Yl H h a u
 | .tbl ps=>h.get? a=some { cls:=.none,data:=.fields ps }
 | .met f x=>h.get? a=some (methodObj (.ref f) (.ref x))
 | .ext φ=>φ h/\(∃ o,h.get? a=some o)/\∀ h1 h2:Ff,φ h1->(∀ o,h1.get? a=some o->h2.get? a=some o)->φ h2
def Ms(H:Hp)(h:Ff):Prop:=∀ a o,H a=some o->Yl P w H h a o
end
section
variable{a:A2}{o:HO}
theorem Yl.lt(x:Yl P w H h a o):a<h.objs.size:=by
 cases o with
 | lst xs=>obtain⟨_,_,_,_,e⟩:=x;exact AN e
 | tup xs=>obtain⟨_,_,_,p⟩:=x;exact p.lt
 | dK kvs=>obtain⟨_,_,_,_,o,_,_,e,_⟩:=x;exact AN e
 | dT kvs=>obtain⟨_,_,_,_,o,_,_,e,_⟩:=x;exact AN e
 | set S n=>obtain⟨o,_,_,_,e,_⟩:=x;exact AN e
 | ins C dx fs=>obtain⟨_,_,_,e,_⟩:=x;exact AN e
 | own y=>obtain⟨_,e⟩:=x;exact AN e
 | xd fs=>obtain⟨_,⟨_,_,_,e,_⟩,_⟩:=x;exact AN e
 | rng lo hi=>obtain⟨_,_,_,e⟩:=x;exact AN e
 | frz ob u=>obtain⟨e,_⟩:=x;exact AN e
 | tbl ps=>exact AN (show h.get? a=some _ from x)
 | met f y=>exact AN (show h.get? a=some _ from x)
 | ext φ=>obtain⟨_,⟨_,e⟩,_⟩:=x;exact AN e
theorem Paired.mapP{β:Type}{F G:α->β->Prop}:∀ {l₁:Z α} {l₂:Z β},Paired F l₁ l₂->(∀ a b,F a b->G a b)->Paired G l₁ l₂
 | _,_,.nil,_=>.nil
 | _,_,.cons r t,f=>.cons (f _ _ r) (Paired.mapP t f)
theorem Yl.stay(x:Yl P w H h a o)(k:∀ b u,(b=a\/H b=some (.own a))->h.get? b=some u->h'.get? b=some u)
  (ho:∀ b,H b=some (.own a)->H' b=some (.own a)) (ht:∀ b xs,H b=some (.tup xs)->H' b=some (.tup xs)):Yl P w H' h' a o:=by
 induction o with
 | lst xs=>obtain⟨z,its,n,r,e⟩:=x;exact⟨z,its,n,r,k _ _ (.inl rfl) e⟩
 | tup xs=>obtain⟨z,its,r,ob,e,c⟩:=x;exact⟨z,its,r,ob,k _ _ (.inl rfl) e,c⟩
 | dK kvs=>obtain⟨z,y,vs,r,ob,es,ep,e,c⟩:=x;exact⟨z,y,vs,r,ob,es,ep,k _ _ (.inl rfl) e,c⟩
 | dT kvs =>
  obtain⟨z,y,xs,r,ob,es,ep,e,c⟩:=x;exact⟨z,y,xs,Paired.mapP r λp q z=>⟨z.1,ht _ _ z.2.1,z.2.2⟩,ob,es,ep,k _ _ (.inl rfl) e,c⟩
 | set S n=>obtain⟨ob,es,ep,t,e,c⟩:=x;exact⟨ob,es,ep,t,k _ _ (.inl rfl) e,c⟩
 | ins C dx fs =>
  obtain⟨d,z,ne,e,mA,⟨od,es,ep,e2,c⟩,r⟩:=x;exact⟨ho _ d,z,ne,k _ _ (.inl rfl) e,mA,⟨od,es,ep,k _ _ (.inr d) e2,c⟩,r⟩
 | own y=>obtain⟨ob,e⟩:=x;exact⟨ob,k _ _ (.inl rfl) e⟩
 | xd fs=>obtain⟨mA,⟨od,es,ep,e,c⟩,r⟩:=x;exact⟨mA,⟨od,es,ep,k _ _ (.inl rfl) e,c⟩,r⟩
 | rng lo hi=>obtain⟨t,u,v,e⟩:=x;exact⟨t,u,v,k _ _ (.inl rfl) e⟩
 | frz ob u ih=>obtain⟨e,q⟩:=x;exact⟨k _ _ (.inl rfl) e,ih q⟩
 | tbl ps =>
  have e:h.get? a=some { cls:=.none,data:=.fields ps }:=x;show h'.get? a=some { cls:=.none,data:=.fields ps };exact k a _ (.inl rfl) e
 | met f y =>
  have e:h.get? a=some (methodObj (.ref f) (.ref y)):=x;show h'.get? a=some (methodObj (.ref f) (.ref y));exact k a _ (.inl rfl) e
 | ext φ=>obtain⟨p,⟨o,e⟩,st⟩:=x;exact⟨st _ _ p λo q=>k _ _ (.inl rfl) q,⟨o,k _ _ (.inl rfl) e⟩,st⟩
theorem Ms.lt(x:Ms P w H h)(e:H a=some o):a<h.objs.size:=(x a o e).lt
theorem Ms.fresh(x:Ms P w H h)(e:h.objs.size<=a):H a=none:=by
 cases q:H a with
 | none=>rfl
 | some u=>exact absurd (AR (x.lt q) e) (DA _)
theorem Ms.kept(x:Ms P w H h)(k:∀ b u,h.get? b=some u->h'.get? b=some u):Ms P w H h':=λa o e =>
 (x a o e).stay (λb u _ q=>k b u q) (λ_ q=>q) λ_ _ q=>q
theorem Ms.laid(x:Ms P w H h)(k:∀ b u,h.get? b=some u->h'.get? b=some u)(hp:h.objs.size<=a)(new:Yl P w (Yr H a o) h' a o):Ms P w (Yr H a o) h':=λb u e=>by
 have hn:=x.fresh hp;by_cases hb:b=a
 ·subst hb;rw[Zg] at e;cases e;exact new
 ·rw[Zc hb] at e
  exact(x b u e).stay (λc v _ q=>k c v q) (λc q=>by rw[Zc (Y8 q hn)];exact q) λc xs q=>by rw[Zc (Y8 q hn)];exact q
end
def Rd(H:Hp)(a:A2)(u:HO):Prop:=H a=some u\/∃ o,H a=some (.frz o u)
theorem Rd.of{a:A2}{u:HO}(h:H a=some u):Rd H a u:=.inl h
theorem Rd.ok{a:A2}{u:HO}(r:Rd H a u)(x:Ms P w H h):Yl P w H h a u:=by
 rcases r with r | ⟨o,r⟩
 ·exact x a u r
 ·obtain⟨_,q⟩:=x a _ r
  exact q
def RT:C1 HO->Prop
 | some (.lst _)=>True
 | some (.dK _)=>True
 | some (.dT _)=>True
 | some (.set _ _)=>True
 | some (.ins _ _ _)=>True
 | some (.ext _)=>True
 | _=>False
section
variable{x e:A2}{o':HO}
theorem Ms.write(ok:Ms P w H h)(mu:RT (H x))(he:e=x\/H e=some (.own x))(k:∀ b u,b≠e->h.get? b=some u->h'.get? b=some u)(a:∃ u,h'.get? e=some u)
  (new:Yl P w (Yr H x o') h' x o'):Ms P w (Yr H x o') h':=λb u q=>by
 have d:∀ c y,H c=some (.own y)->c≠x:=λc y r z=>by subst z;rw[r] at mu;exact mu
 have g:∀ c xs,H c=some (.tup xs)->c≠x:=λc xs r z=>by subst z;rw[r] at mu;exact mu
 by_cases hb:b=x
 ·subst hb;rw[Zg] at q;cases q;exact new
 ·rw[Zc hb] at q
  by_cases f:b=e
  ·have W:H b=some (.own x):=by
    rcases he with z | z
    ·exact absurd (f.trans z) hb
    ·rw[f];exact z
   rw[q] at W;cases W;obtain⟨v,hv⟩:=a;exact⟨v,by rw[f];exact hv⟩
  ·refine(ok b u q).stay (λc v hc r=>k c v ?_ r) (λc r=>by rw[Zc (d c b r)];exact r) λc xs r=>by rw[Zc (g c xs r)];exact r
   rcases hc with rfl | hc
   ·exact f
   ·rintro rfl
    rcases he with z | z
    ·exact d c b hc z
    ·rw[hc] at z;cases z;exact hb rfl
end
structure Un (fs ex:List Addr) (H H':Hp) (h h':Heap):Prop where
 keep:∀ b o,h.get? b=some o->H b=none->b∉fs->b∉ex->h'.get? b=some o
 slot:∀ b o,h.get? b=some o->H b=none->b∈fs->b∉ex->∃ sl,h'.get? b=some { o with slots:=sl }
 free:∀ b o,h.get? b=some o->H b=none->b∉ex->H' b=none
 there:∀ b o,h.get? b=some o->b∉ex->∃ o',h'.get? b=some o'
 tups:∀ b xs,H b=some (.tup xs)->H' b=some (.tup xs)
 frzs:∀ b o u,H b=some (.frz o u)->H' b=some (.frz o u)
 tbls:∀ b ps,H b=some (.tbl ps)->∃ f,H' b=some (.tbl (ps++f))
section
variable{fs aM ex aS:Z A2}{H H1 H2:Hp}{h h1 h2 h':Ff}{a x e:A2}{o:HO}
theorem Un.any(u:Un fs ex H H1 h h1){b:A2}{ob:Obj}(q:h.get? b=some ob)(n:H b=none)(hx:b∉ex):∃ sl,h1.get? b=some { ob with slots:=sl }:=by
 by_cases hb:b∈fs
 ·exact u.slot b ob q n hb hx
 ·exact⟨ob.slots,u.keep b ob q n hb hx⟩
theorem Un.kept(k:∀ b u,h.get? b=some u->h'.get? b=some u):Un fs ex H H h h' :=
 ⟨λb ob q _ _ _=>k b ob q,λb ob q _ _ _=>⟨ob.slots,k b ob q⟩,λ_ _ _ n _=>n,λb ob q _=>⟨ob,k b ob q⟩,λ_ _ q=>q,λ_ _ _ q=>q,λ_ ps q=>⟨#[],by rw[q];simp⟩⟩
theorem Un.refl:Un fs ex H H h h:=Un.kept λ_ _ q=>q
theorem Un.laid(k:∀ b u,h.get? b=some u->h'.get? b=some u)(hp:h.objs.size<=a)(hn:H a=none):Un fs ex H (Yr H a o) h h' where
 keep:=λb u q _ _ _=>k b u q
 slot:=λb u q _ _ _=>⟨u.slots,k b u q⟩
 free:=λb u q n _=>by rw[Zc (BG (AR (AN q) hp))];exact n
 there:=λb u q _=>⟨u,k b u q⟩
 tups:=λb xs q=>by rw[Zc (Y8 q hn)];exact q
 frzs:=λb u xs q=>by rw[Zc (Y8 q hn)];exact q
 tbls:=λb ps q=>⟨#[],by rw[Zc (Y8 q hn),q];simp⟩
theorem Un.write(mu:RT (H x))(he:e=x\/H e=some (.own x))(k:∀ b u,b≠e->h.get? b=some u->h'.get? b=some u)(a:∃ u,h'.get? e=some u):Un fs ex H (Yr H x o) h h':=by
 have hx:∀ b,H b=none->b≠x:=λb n z=>by subst z;rw[n] at mu;exact mu
 have hb:∀ b,H b=none->b≠e:=λb n z=>by
  subst z;rcases he with r | r
  ·exact hx b n r
  ·rw[n] at r;cases r
 have hm:∀ b u,H b=some u->¬ RT (some u)->b≠x:=λb u q nm z=>by subst z;rw[q] at mu;exact nm mu
 refine⟨λb u q n _ _=>k b u (hb b n) q,λb u q n _ _=>⟨u.slots,k b u (hb b n) q⟩,λb u q n _=>by rw[Zc (hx b n)];exact n,λb u q _=>?_,
  λb xs q=>by rw[Zc (hm b _ q λz=>z)];exact q,λb u xs q=>by rw[Zc (hm b _ q λz=>z)];exact q,λb ps q=>⟨#[],by rw[Zc (hm b _ q λz=>z),q];simp⟩⟩
 by_cases f:b=e
 ·subst f;exact a
 ·exact⟨u,k b u f q⟩
end
variable{g:Int->Int->Int}
def TK(h:Ff)(H:Hp):Z A2:=(List.range h.objs.size).filter λa=>(H a).isSome
def Bm(h:Ff)(H:Hp):Ff:=PySem.W.hideAll h (TK h H)
theorem gp(h:Ff)(H:Hp):(Bm h H).objs.size=h.objs.size:=PySem.W.hideAll_size _ _
theorem kQ{b:A2}{o:Obj}(e:h.get? b=some o)(n:H b=none):(Bm h H).get? b=some o :=
 PySem.W.hideAll_get _ e λhm=>by
  have q:(H b).isSome=true:=(ES.mp hm).2;rw[n] at q;simp at q
theorem pi{b:A2}{o:Obj}(e:(Bm h H).get? b=some o):h.get? b=some o/\H b=none:=by
 have e':h.get? b=some o:=PySem.W.of_hideAll (TK h H) e;refine⟨e',?_⟩;cases q:H b with
 | none=>rfl
 | some x =>
  have hm:b∈TK h H:=ES.mpr ⟨CZ.mpr (AN e'),by simp[q]⟩;have z:(Bm h H).get? b=none:=PySem.W.hideAll_none (TK h H) hm;rw[z] at e;cases e
structure Mod (K:G8) (mg:J') (base:Heap):Prop where
 kin:K.In base
 glob:base.Ns mainGlobals mg
 blt:∃ p,base.Ns builtinsNs p/\∀ x:Str,x≠"__name__" -> p x=bootBuiltins x
 nolimit:base.NoLimit
structure Cx where
 prog:Program
 w:World
 K:G8
 mg:Str->Option Value
 base:Heap
 A:Around
 N:List Str
 s₀:Shared
 H₀:Hp
 env:Env
 outer:List Env
 stack:List Env
 ex:List Addr
 fn:Str->Bool
 calm:Bool
 pn:List (Addr×Obj)
 xe:Value->Shared->Prop
 pl:Bool:=false
def Eu(l:Z Gf):Z A2:=l.filterMap (·.frame)
abbrev Cx.fs(X:Cx):Z A2:=Eu X.outer
def MN(sc:Fn)(x:Str):Prop:=sc.names.lookup x=some .local\/sc.names.lookup x=some .cell\/sc.names.lookup x=some .free
def LZ(sc:Fn)(x:Str):Prop:=sc.names.lookup x=some .local\/sc.names.lookup x=some .cell
def fW(env:Gf)(h:Ff)(m:J')(x:Str)(u:A1):Prop :=
 (env.kindOf x=some .local/\m x=some u)\/((env.kindOf x=some .cell\/env.kindOf x=some .free)/\∃ c,env.cells.lookup x=some c/\h.IsCell c (some u))
structure Cx.Ok (X:Cx):Prop where
 mod:Mod X.K X.mg X.base
 kind:X.env.scope.kind=.function
 glob:X.env.globals=mainGlobals
 blt:X.env.builtins=builtinsNs
 above:X.s₀.heap.objs.size<=X.env.locals
 inj:∀ x y c,X.env.cells.lookup x=some c->X.env.cells.lookup y=some c->x=y
 has:∀ x,(X.env.kindOf x=some .cell\/X.env.kindOf x=some .free)->∃ c,X.env.cells.lookup x=some c
 cab:∀ x c,X.fn x=true->X.env.cells.lookup x=some c->X.s₀.heap.objs.size<=c
 hd:X.calm=true->X.A.handled=none
 frames:X.A.frames=some X.stack
 stk:X.stack=X.outer\/(X.stack=X.env::X.outer/\X.env.frame=some X.env.locals)
 exf:∀ b∈X.ex,b≠X.env.locals/\∀ x c,X.env.cells.lookup x=some c->c≠b
 bs:∀ b o,X.base.get? b=some o->X.s₀.heap.get? b=some o/\X.H₀ b=none
 bsz:X.base.objs.size<=X.s₀.heap.objs.size
 noex:∀ b o,X.base.get? b=some o->b∉X.ex
 exfs:∀ b∈X.ex,b∉X.fs
 funs:X.s₀.heap.FunFrames X.base X.outer
 frf:∀ b∈X.fs,X.H₀ b=none
variable{xs:Z V}
structure C' (X:Cx) (aa:IA) (σ:List (Option V)) (H:Hp) (s:Shared):Prop where
 ok:X.Ok
 os:s.os=X.s₀.os
 bare:AllBare s.gens
 base:Un X.fs X.ex X.H₀ H X.s₀.heap s.heap
 loc:∃ m,s.heap.Ns X.env.locals m/\∀ (i:Nat) (x:Str) (v:V),X.N[i]?=some x->σ[i]?=some (some v)->MN X.env.scope x->∃ u,Yi v u/\fW X.env s.heap m x u
 cell:∀ x c,X.env.cells.lookup x=some c->∃ v,s.heap.IsCell c v
 free:H X.env.locals=none
 freeC:∀ x c,X.env.cells.lookup x=some c->H c=none
 pin:∀ p∈X.pn++aa,s.heap.get? p.1=some p.2/\H p.1=none/\p.1≠X.env.locals/\p.1∉X.fs/\∀ v,p.2.data≠.cell v
 hok:Ms X.prog X.w H s.heap
 len:σ.length=X.N.length
section
variable{X:Cx}{σ:Z (C1 V)}
theorem Cx.Ok.nofr(ok:X.Ok){b:A2}{o:Obj}(e:X.base.get? b=some o):b∉X.fs:=λhb=>by
 have:=(ok.funs.mem hb).1;rw[e] at this;cases this
theorem C'.bs(I:C' X aa σ H s):∀ b o,X.base.get? b=some o->s.heap.get? b=some o/\H b=none:=λb o e =>
 ⟨I.base.keep b o (I.ok.bs b o e).1 (I.ok.bs b o e).2 (I.ok.nofr e) (I.ok.noex b o e),I.base.free b o (I.ok.bs b o e).1 (I.ok.bs b o e).2 (I.ok.noex b o e)⟩
theorem C'.bk(I:C' X aa σ H s):∀ b o,X.base.get? b=some o->s.heap.get? b=some o:=λb o e=>(I.bs b o e).1
theorem C'.mod(I:C' X aa σ H s):Mod X.K X.mg X.base:=I.ok.mod
theorem C'.kIn(I:C' X aa σ H s):X.K.In s.heap:=I.ok.mod.kin.keeps I.bk
theorem C'.lt(I:C' X aa σ H s):X.env.locals<s.heap.objs.size:=let ⟨_,hn,_⟩:=I.loc;hn.lt
theorem C'.sz(I:C' X aa σ H s):X.s₀.heap.objs.size<=s.heap.objs.size:=BC I.ok.above (DX I.lt)
theorem C'.nofs(I:C' X aa σ H s){a:A2}(h:s.heap.objs.size<=a):a∉X.fs:=λhb=>by
 obtain⟨_,o,ho,_⟩:=I.ok.funs.mem hb;exact absurd (AR (AN ho) (BC I.sz h)) (DA _)
theorem C'.cne(I:C' X aa σ H s):∀ x c,X.env.cells.lookup x=some c->c≠X.env.locals:=λx c e z=>by
 obtain⟨v,o,ho,hd⟩:=I.cell x c e;obtain⟨m,⟨o',es,ep,f,u,_⟩,_⟩:=I.loc;rw[z,f] at ho;cases ho;rw[u] at hd;cases hd
theorem C'.funs(I:C' X aa σ H s):s.heap.FunFrames X.base X.outer:=by
 have all:∀ (l:Z Gf),(∀ b∈Eu l,b∈X.fs)->X.s₀.heap.FunFrames X.base l->s.heap.FunFrames X.base l:=by
  intro l;induction l with
  | nil=>intro _ _;trivial
  | cons env r ih =>
   intro hs hl;obtain⟨Y,⟨Lq_,o,hf,hn,ho,hd⟩,hr⟩:=hl;have C:Lq_∈X.fs:=hs Lq_ (by unfold Eu;rw[EL,hf];exact AW);obtain⟨sl,e⟩:=I.base.slot Lq_ o ho (I.ok.frf Lq_ C) C λz=>I.ok.exfs Lq_ z C
   exact⟨Y,⟨Lq_,_,hf,hn,e,hd⟩,ih (λb hb=>hs b (by unfold Eu;rw[EL,hf];exact AV _ hb)) hr⟩
 exact all X.outer (λ_ hb=>hb) I.ok.funs
theorem C'.stack(I:C' X aa σ H s):s.heap.FunFrames X.base X.stack:=by
 rcases I.ok.stk with e | ⟨e,hf⟩
 ·rw[e];exact I.funs
 ·rw[e]
  obtain⟨m,hn,_⟩:=I.loc;refine .cons (by rw[I.ok.kind];decide) hf hn ?_ I.funs;exact IJ (BC I.ok.bsz I.ok.above)
theorem C'.stkSub(I:C' X aa σ H s):∀ b∈Eu X.stack,b∈X.env.locals::X.fs:=λb hb=>by
 rcases I.ok.stk with e | ⟨e,hf⟩
 ·rw[e] at hb;exact AV _ hb
 ·rw[e] at hb
  unfold Eu at hb;rw[EL,hf] at hb;exact hb
theorem C'.stkFree(I:C' X aa σ H s):∀ b∈Eu X.stack,H b=none:=λb hb=>by
 rcases AZ.mp (I.stkSub b hb) with e | hb
 ·rw[e];exact I.free
 ·obtain⟨_,o,ho,_⟩:=I.ok.funs.mem hb
  exact I.base.free b o ho (I.ok.frf b hb) λz=>I.ok.exfs b z hb
theorem C'.step{g':Array GenState}{d':Drawn}(I:C' X aa σ H s)
  (R:∀ b∈ch,(b∈X.ex\/X.s₀.heap.objs.size<=b)/\b≠X.env.locals/\(∀ x c,X.env.cells.lookup x=some c->c≠b)/\∀ p∈X.pn++aa,p.1≠b)
  (keep:∀ b o,b≠X.env.locals->b∉X.fs->b∉ch->s.heap.get? b=some o->H b=none->h'.get? b=some o)
  (slot:∀ b o,b≠X.env.locals->b∈X.fs->b∉ch->s.heap.get? b=some o->H b=none->∃ sl,h'.get? b=some { o with slots:=sl }) (free:∀ b o,b∉ch->s.heap.get? b=some o->H b=none->H' b=none)
  (there:∀ b o,b∉ch->s.heap.get? b=some o->∃ o',h'.get? b=some o')
  (tups:∀ b xs,H b=some (.tup xs)->H' b=some (.tup xs)) (frzs:∀ b o u,H b=some (.frz o u)->H' b=some (.frz o u)) (tbls:∀ b ps,H b=some (.tbl ps)->∃ f,H' b=some (.tbl (ps++f)))
  (ns:∀ m,s.heap.Ns X.env.locals m->h'.Ns X.env.locals m) (hok:Ms X.prog X.w H' h') (hg:AllBare g') :
  C' X aa σ H' { s with heap:=h',gens:=g',drawn:=d',toks:=t' }:=by
 have j:∀ b o,X.s₀.heap.get? b=some o->b≠X.env.locals:=λb o e=>BG (AR (AN e) I.ok.above)
 have h:∀ b o,X.s₀.heap.get? b=some o->b∉X.ex->b∉ch:=λb o e hx hb=>by
  rcases(R b hb).1 with z | z
  ·exact hx z
  ·exact absurd (AR (AN e) z) (DA _)
 have g:∀ x c,X.env.cells.lookup x=some c->∀ v,s.heap.IsCell c v->h'.IsCell c v:=λx c e v zz=>by
  obtain⟨o,ho,hd⟩:=zz;have a:c∉ch:=λz=>(R c z).2.2.1 x c e rfl
  by_cases hc:c∈X.fs
  ·obtain⟨sl,q⟩:=slot c o (I.cne x c e) hc a ho (I.freeC x c e)
   exact⟨_,q,hd⟩
  ·exact⟨o,keep c o (I.cne x c e) hc a ho (I.freeC x c e),hd⟩
 refine⟨I.ok,I.os,hg,⟨λb o e n hb hx=>?_,λb o e n hb hx=>?_,λb o e n hx=>?_,λb o e hx=>?_,λb xs e=>tups b xs (I.base.tups b xs e),λb o xs e=>frzs b o xs (I.base.frzs b o xs e),λb ps e=>?_⟩,?_,λx c e=>?_,?_,λx c e=>?_,λp hp=>?_,hok,I.len⟩
 ·exact keep b o (j b o e) hb (h b o e hx) (I.base.keep b o e n hb hx) (I.base.free b o e n hx)
 ·obtain⟨sl,e1⟩:=I.base.slot b o e n hb hx
  obtain⟨sl',e2⟩:=slot b _ (j b o e) hb (h b o e hx) e1 (I.base.free b o e n hx);exact⟨sl',e2⟩
 ·obtain⟨o',e1⟩:=I.base.there b o e hx
  exact free b o' (h b o e hx) e1 (I.base.free b o e n hx)
 ·obtain⟨o',e1⟩:=I.base.there b o e hx
  exact there b o' (h b o e hx) e1
 ·obtain⟨m1,e1⟩:=I.base.tbls b ps e
  obtain⟨m2,e2⟩:=tbls b _ e1;exact⟨m1++m2,by rw[e2,Array.append_assoc]⟩
 ·obtain⟨m,hn,hl⟩:=I.loc
  refine⟨m,ns m hn,λi x v e1 e2 e3=>?_⟩;obtain⟨u,r,l⟩:=hl i x v e1 e2 e3;refine⟨u,r,?_⟩;rcases l with l | ⟨k,c,e,z⟩
  ·exact .inl l
  ·exact .inr ⟨k,c,e,g x c e _ z⟩
 ·obtain⟨v,z⟩:=I.cell x c e
  exact⟨v,g x c e v z⟩
 ·obtain⟨m,⟨o,_,_,ho,_⟩,_⟩:=I.loc
  exact free _ o (λz=>(R _ z).2.1 rfl) ho I.free
 ·obtain⟨v,o,ho,hd⟩:=I.cell x c e
  exact free c o (λz=>(R c z).2.2.1 x c e rfl) ho (I.freeC x c e)
 ·obtain⟨e,n,ne,G,d⟩:=I.pin p hp
  have a:p.1∉ch:=λz=>(R p.1 z).2.2.2 p hp rfl
  exact⟨keep p.1 p.2 ne G a e n,free p.1 p.2 a e n,ne,G,d⟩
theorem C'.un(I:C' X aa σ H s)(u:Un X.fs [] H H' s.heap h')(hok:Ms X.prog X.w H' h'):C' X aa σ H' { s with heap:=h',toks:=t' }:=by
 obtain⟨m,⟨o,es,ep,ho,r⟩,_⟩:=id I.loc;obtain⟨sl,C⟩:=u.any ho I.free (by simp);exact I.step (g':=s.gens) (d':=s.drawn) (ch:=[]) (λ_ z=>nomatch z) (λb o _ hb _ e n=>u.keep b o e n hb (by simp)) (λb o _ hb _ e n=>u.slot b o e n hb (by simp)) (λb o _ e n=>u.free b o e n (by simp)) (λb o _ e=>u.there b o e (by simp)) u.tups u.frzs u.tbls (λm' hm=>by
  obtain⟨o',i,a,f,r'⟩:=hm;rw[ho] at f;cases f;exact⟨_,i,a,C,r'⟩) hok I.bare
theorem C'.call{g':Array GenState}{d':Drawn}(I:C' X aa σ H s)(u:Un (Eu X.stack) ch H H' s.heap h')(hok:Ms X.prog X.w H' h')(hg:AllBare g')
  (R:∀ b∈ch,(b∈X.ex\/X.s₀.heap.objs.size<=b)/\b≠X.env.locals/\(∀ x c,X.env.cells.lookup x=some c->c≠b)/\∀ p∈X.pn++aa,p.1≠b) :
  C' X aa σ H' { s with heap:=h',gens:=g',drawn:=d',toks:=t' }:=by
 obtain⟨m,⟨o,es,ep,ho,r⟩,_⟩:=id I.loc;obtain⟨sl,C⟩:=u.any ho I.free λz=>(R _ z).2.1 rfl
 exact I.step (ch:=ch) R (λb o C hb hc e n=>u.keep b o e n (λz=>(AZ.mp (I.stkSub b z)).elim C hb) hc) (λb o _ _ hc e n=>u.any e n hc) (λb o hc e n=>u.free b o e n hc) (λb o hc e=>u.there b o e hc) u.tups u.frzs u.tbls (λm' hm=>by
  obtain⟨o',i,a,f,r'⟩:=hm;rw[ho] at f;cases f;exact⟨_,i,a,C,r'⟩) hok hg
theorem C'.turned(I:C' X aa σ H s)(k:∀ b o,b≠it->s.heap.get? b=some o->h'.get? b=some o)(hn:H it=none)(C:it≠X.env.locals)
  (h1:it∈X.ex\/X.s₀.heap.objs.size<=it) (h2:∀ x c,X.env.cells.lookup x=some c->c≠it) (h3:∀ p∈X.pn++aa,p.1≠it):C' X aa σ H { s with heap:=h',toks:=t' }:=by
 have a:∀ b u,H b=some u->b≠it:=λb u e z=>by rw[z,hn] at e;cases e
 refine I.step (g':=s.gens) (d':=s.drawn) (ch:=[it]) (λb hb=>?_) (λb o _ _ hc e _=>k b o (λz=>hc (by simp[z])) e) (λb o _ _ hc e _=>⟨o.slots,k b o (λz=>hc (by simp[z])) e⟩) (λ_ _ _ _ n=>n)
  (λb o hc e=>⟨o,k b o (λz=>hc (by simp[z])) e⟩) (λ_ _ e=>e) (λ_ _ _ e=>e) (λb ps e=>⟨#[],by rw[e];simp⟩) (λm hm=>?_) (λb u e=>?_) I.bare
 ·have e:b=it:=by simpa using hb
  subst e;exact⟨h1,C,h2,h3⟩
 ·obtain⟨o,es,ep,ho,r⟩:=hm
  exact⟨o,es,ep,k _ o (AO C) ho,r⟩
 ·refine(I.hok b u e).stay (λc v hc q=>k c v ?_ q) (λ_ q=>q) λ_ _ q=>q
  rcases hc with z | z
  ·rw[z];exact a b u e
  ·exact a c _ z
theorem C'.tok(I:C' X aa σ H s)(t:Nat):C' X aa σ H { s with toks:=t }:=I.un (h':=s.heap) (t':=t) Un.refl I.hok
theorem C'.kept(I:C' X aa σ H s)(k:∀ b u,s.heap.get? b=some u->h'.get? b=some u):C' X aa σ H { s with heap:=h',toks:=t' }:=I.un (Un.kept k) (I.hok.kept k)
theorem C'.laid{a:A2}{o:HO}(I:C' X aa σ H s)(k:∀ b u,s.heap.get? b=some u->h'.get? b=some u)(hp:s.heap.objs.size<=a)(new:Yl X.prog X.w (Yr H a o) h' a o) :
 C' X aa σ (Yr H a o) { s with heap:=h',toks:=t' }:=I.un (Un.laid k hp (I.hok.fresh hp)) (I.hok.laid k hp new)
theorem C'.write{x e:A2}{o:HO}(I:C' X aa σ H s)(mu:RT (H x))(he:e=x\/H e=some (.own x))(k:∀ b u,b≠e->s.heap.get? b=some u->h'.get? b=some u)(a:∃ u,h'.get? e=some u)
 (new:Yl X.prog X.w (Yr H x o) h' x o):C' X aa σ (Yr H x o) { s with heap:=h',toks:=t' }:=I.un (Un.write mu he k a) (I.hok.write mu he k a new)
theorem C'.weak{σ':Z (C1 V)}(I:C' X aa σ H s)(hl:σ'.length=σ.length)(w:∀ (i:Nat) v,σ'[i]?=some (some v)->σ[i]?=some (some v)):C' X aa σ' H s :=
 ⟨I.ok,I.os,I.bare,I.base,let ⟨m,hn,a⟩:=I.loc;⟨m,hn,λi x v e1 e2 e3=>a i x v e1 (w i v e2) e3⟩,I.cell,I.free,I.freeC,I.pin,I.hok,hl.trans I.len⟩
theorem C'.pins_of{aA:IA}(I:C' X aa σ H s)(h:∀ p∈aA,s.heap.get? p.1=some p.2/\H p.1=none/\p.1≠X.env.locals/\p.1∉X.fs/\∀ v,p.2.data≠.cell v):C' X aA σ H s :=
 ⟨I.ok,I.os,I.bare,I.base,I.loc,I.cell,I.free,I.freeC,λp hp=>(BV.mp hp).elim (λz=>I.pin p (CI _ z)) (h p),I.hok,I.len⟩
theorem X5{N:Z Str}(hN:N.Nodup){x:Str}(a:N[i]?=some x)(b:N[j]?=some x):i=j:=by
 obtain⟨h1,e1⟩:=AE.mp a;obtain⟨h2,e2⟩:=AE.mp b;exact(List.getElem_inj hN).mp (e1.trans e2.symm)
theorem Bi{M:Model}{x:Str}{v:V}(I:C' X aa σ H s)(hN:X.N.Nodup)(hi:X.N[i]?=some x)(hx:LZ X.env.scope x)(r:Yi v u)
   (h:∀ s',C' X aa (σ.set i (some v)) H s'->(∃ a,SameBut a s.heap s'.heap/\(a=X.env.locals\/X.env.cells.lookup x=some a))->Q () s') (hf:X.fn x=true\/X.env.scope.names.lookup x=some .local:=by ext):wpAny M A (storeName X.env x u) Q E s:=by
 obtain⟨m,hn,hl⟩:=id I.loc;have t:(X.env.scope.kind==.class||(X.env.scope.kind==.module&&X.env.locals != X.env.globals))=false:=by rw[I.ok.kind];rfl
 have hiσ:i<σ.length:=by rw[I.len];exact(AE.mp hi).1
 have cne:=I.cne;have l:∀ {a:A2} {h':Ff},(∃ o,s.heap.get? a=some o/\H a=none)->SameBut a s.heap h'->Ms X.prog X.w H h':=λ{a h'} ha hs b ob e=>by
   obtain⟨_,_,g⟩:=ha;refine(I.hok b ob e).stay (λc w' hc q=>(hs.2 c ?_).trans q) (λ_ q=>q) λ_ _ q=>q
   rintro rfl;rcases hc with rfl | hc
   · rw[g] at e;cases e
   · rw[g] at hc;cases hc
 rcases hx with Y | Y
 · refine wpAny_storeName_local Y hn (λh' F hs=>?_) t
   obtain⟨T,_,_,C,_⟩:=id hn;refine h _ ⟨I.ok,I.os,I.bare,⟨λb o e n hb hx=>?_,λb o e n hb hx=>?_,I.base.free,λb o e hx=>?_,I.base.tups,I.base.frzs,I.base.tbls⟩,⟨_,F,λj y B e1 e2 e3=>?_⟩,λy c e=>?_,I.free,I.freeC,λp hp=>?_,l ⟨T,C,I.free⟩ hs,by simpa using I.len⟩ ⟨_,hs,.inl rfl⟩
   · exact(hs.2 b (BG (AR (AN e) I.ok.above))).trans (I.base.keep b o e n hb hx)
   · obtain⟨sl,e1⟩:=I.base.slot b o e n hb hx
     exact⟨sl,(hs.2 b (BG (AR (AN e) I.ok.above))).trans e1⟩
   · obtain⟨o',e1⟩:=I.base.there b o e hx
     exact⟨o',(hs.2 b (BG (AR (AN e) I.ok.above))).trans e1⟩
   · by_cases hj:j=i
     · subst hj
       rw[hi] at e1;cases e1;rw[List.getElem?_set_self hiσ] at e2;cases e2;exact⟨u,r,.inl ⟨Y,by simp⟩⟩
     · rw[GO (AO hj)] at e2
       obtain⟨D,r',q⟩:=hl j y B e1 e2 e3;refine⟨D,r',?_⟩;rcases q with⟨k,e⟩ | ⟨k,c,e,z⟩
       · refine .inl ⟨k,?_⟩
         have:y≠x:=λe=>hj (X5 hN e1 (e▸hi))
         simp[this,e]
       · exact .inr ⟨k,c,e,z.sameBut hs (cne y c e)⟩
   · obtain⟨w',z⟩:=I.cell y c e
     exact⟨w',z.sameBut hs (cne y c e)⟩
   · obtain⟨e,n,ne,G,d⟩:=I.pin p hp
     exact⟨(hs.2 p.1 ne).trans e,n,ne,G,d⟩
 · have af:X.fn x=true:=by
     rcases hf with z | z
     · exact z
     · rw[z] at Y;cases Y
   obtain⟨c,hc⟩:=I.ok.has x (.inl Y);obtain⟨w',z⟩:=I.cell x c hc;refine wpAny_storeName_cell I.ok.kind Y hc z (λh' f hs=>?_);obtain⟨oc,P,S⟩:=id z;refine h { s with heap:=h' } ⟨I.ok,I.os,I.bare,⟨λb o e n hb hx=>?_,λb o e n hb hx=>?_,I.base.free,λb o e hx=>?_,I.base.tups,I.base.frzs,I.base.tbls⟩,⟨m,hn.sameBut hs (AO (cne x c hc)),λj y B e1 e2 e3=>?_⟩,λy c' e=>?_,I.free,I.freeC,λp hp=>?_,l ⟨oc,P,I.freeC x c hc⟩ hs,by simpa using I.len⟩ ⟨c,hs,.inr hc⟩
   · exact(hs.2 b (BG (AR (AN e) (I.ok.cab x c af hc)))).trans (I.base.keep b o e n hb hx)
   · obtain⟨sl,e1⟩:=I.base.slot b o e n hb hx
     exact⟨sl,(hs.2 b (BG (AR (AN e) (I.ok.cab x c af hc)))).trans e1⟩
   · obtain⟨o',e1⟩:=I.base.there b o e hx
     exact⟨o',(hs.2 b (BG (AR (AN e) (I.ok.cab x c af hc)))).trans e1⟩
   · by_cases hj:j=i
     · subst hj
       rw[hi] at e1;cases e1;rw[List.getElem?_set_self hiσ] at e2;cases e2;exact⟨u,r,.inr ⟨.inl Y,c,hc,f⟩⟩
     · rw[GO (AO hj)] at e2
       obtain⟨D,r',q⟩:=hl j y B e1 e2 e3;refine⟨D,r',?_⟩;rcases q with q | ⟨k,c',e,J⟩
       · exact .inl q
       · refine .inr ⟨k,c',e,J.sameBut hs ?_⟩
         rintro rfl;exact hj (X5 hN e1 (I.ok.inj _ _ _ e hc▸hi))
   · by_cases R:c'=c
     · subst R;exact⟨_,f⟩
     · obtain⟨w2,z2⟩:=I.cell y c' e
       exact⟨w2,z2.sameBut hs R⟩
   · obtain⟨e,n,ne,G,d⟩:=I.pin p hp
     refine⟨(hs.2 p.1 ?_).trans e,n,ne,G,d⟩;intro q;rw[q,P] at e;have W:oc=p.2:=BF e;exact d w' (by rw[← W];exact S)
theorem Kj{M:Model}{x:Str}{v:V}(I:C' X aa σ H s)(hN:X.N.Nodup)(hi:X.N[i]?=some x)(hx:LZ X.env.scope x)(r:Yi v u)
  (h:∀ s',C' X aa (σ.set i (some v)) H s'->Q () s') (hf:X.fn x=true\/X.env.scope.names.lookup x=some .local:=by ext):wpAny M A (storeName X.env x u) Q E s :=
 Bi I hN hi hx r (λs' I' _=>h s' I') hf
theorem C'.call'(I:C' X aa σ H s)(ho:s'.os=s.os)(u:Un (Eu X.stack) ch H H' s.heap s'.heap)(hok:Ms X.prog X.w H' s'.heap)(hg:AllBare s'.gens)
  (R:∀ b∈ch,(b∈X.ex\/X.s₀.heap.objs.size<=b)/\b≠X.env.locals/\(∀ x c,X.env.cells.lookup x=some c->c≠b)/\∀ p∈X.pn++aa,p.1≠b):C' X aa σ H' s':=by
 obtain⟨h',g',d',t',o'⟩:=s';have e:o'=s.os:=ho;subst e;exact I.call (g':=g') (t':=t') (d':=d') u hok hg R
end
variable{fs:Z (Str×V)}
abbrev XK:=A1->C1 A2->Hp->Prop
abbrev St:=Z (C1 V)
abbrev VK:=V->Hp->Prop
abbrev TE:=St->Hp->VK->Prop
abbrev TT:=St->Hp->(Bool->Hp->Prop)->Prop
abbrev TA:=St->Hp->(Z V->Hp->Prop)->Prop
structure KX where
 nx:St->Hp->Prop
 rt:VK
 bk:St->Hp->Prop:=λ_ _=>False
 ct:St->Hp->Prop:=λ_ _=>False
abbrev TS:=KX->St->Hp->Prop
def EP(X:Cx)(aa:IA)(σ:St)(Q:VK)(u:A1)(s':A4):Prop:=∃ v H',C' X aa σ H' s'/\Yi v u/\Q v H'
def TP(X:Cx)(aa:IA)(σ:St)(Q:Bool->Hp->Prop)(b:Bool)(s':A4):Prop:=∃ H',C' X aa σ H' s'/\Q b H'
def AP(X:Cx)(aa:IA)(σ:St)(Q:Z V->Hp->Prop)(us:Z A1)(s':A4):Prop:=∃ vs H',C' X aa σ H' s'/\Y0 vs us/\Q vs H'
def SP(X:Cx)(aa:IA)(D:KX)(f:Flow)(s':A4):Prop :=
 match f with
 | .next=>∃ σ' H',C' X aa σ' H' s'/\D.nx σ' H'
 | .brk=>∃ σ' H',C' X aa σ' H' s'/\D.bk σ' H'
 | .cont=>∃ σ' H',C' X aa σ' H' s'/\D.ct σ' H'
 | .ret u=>∃ v σ' H',C' X aa σ' H' s'/\Yi v u/\D.rt v H'
def PE(X:Cx)(e:C3)(t:TE):Prop :=
 ∀ (aa:IA) (s:A4) (σ:St) (H:Hp) (Q:VK),C' X aa σ H s->t σ H Q->wpAny (model X.prog X.w) X.A (eval e X.env) (EP X aa σ Q) X.xe s
def PT(X:Cx)(e:C3)(t:TT):Prop :=
 ∀ (aa:IA) (s:A4) (σ:St) (H:Hp) (Q:Bool->Hp->Prop),C' X aa σ H s->t σ H Q->wpAny (model X.prog X.w) X.A (isTrue e X.env (eval e X.env)) (TP X aa σ Q) X.xe s
def PW(X:Cx)(e:C3)(t:TT):Prop :=
 ∀ (c:Sem A1) (aa:IA) (s:A4) (σ:St) (H:Hp) (Q:Bool->Hp->Prop),C' X aa σ H s->t σ H Q->wpAny (model X.prog X.w) X.A (isTrue e X.env c) (TP X aa σ Q) X.xe s
theorem PW.pt{X:Cx}{t:TT}(h:PW X e t):PT X e t:=h _
def PA(X:Cx)(es:Z C3)(t:TA):Prop :=
 ∀ (pos:Pos) (aa:IA) (s:A4) (σ:St) (H:Hp) (Q:Z V->Hp->Prop),C' X aa σ H s->t σ H Q->wpAny (model X.prog X.w) X.A (spliced (backTo pos (starEach es X.env))) (AP X aa σ Q) X.xe s
def PS(X:Cx)(st:C4)(t:TS):Prop :=
 ∀ (aa:IA) (s:A4) (σ:St) (H:Hp) (D:KX),C' X aa σ H s->t D σ H->wpAny (model X.prog X.w) X.A (exec st X.env) (SP X aa D) X.xe s
def Sv(X:Cx)(st:Z C4)(t:TS):Prop :=
 ∀ (aa:IA) (s:A4) (σ:St) (H:Hp) (D:KX),C' X aa σ H s->t D σ H->wpAny (model X.prog X.w) X.A (execs st X.env) (SP X aa D) X.xe s
theorem Wo{t:Sem α}{Q Q':α->A4->Prop}{M:Model}(h:wpAny M A t Q E s)(j:∀ a s,Q a s->Q' a s):wpAny M A t Q' E s:=BO h j λ_ _ x=>x
section
variable{X:Cx}
def Ml(i:Nat):TE:=λσ H Q=>∃ v,σ[i]?=some (some v)/\Q v H
def tC(v:V):TE:=λ_ H Q=>Q v H
theorem Jm{x:Str}(hN:X.N[i]?=some x)(hv:MN X.env.scope x)(hd:C2 x:=by decide)(af:(x==("__classdict__" : Str))=false:=by decide):PE X (.Name x pos) (Ml i):=by
 intro aa s σ H Q I h;obtain⟨v,e,h⟩:=h;obtain⟨m,hn,hl⟩:=I.loc;obtain⟨u,r,l⟩:=hl i x v hN e hv;have fin:EP X aa σ Q u s:=⟨v,H,I,r,h⟩;rcases l with⟨Y,hm⟩ | ⟨Y,c,hc,a⟩
 ·exact wpAny_Name (wpAny_loadName_local I.ok.kind Y hn hm fin) hd
 ·rcases Y with Y | Y
  ·exact wpAny_Name (wpAny_loadName_cell I.ok.kind Y hc a fin) hd
  ·exact wpAny_Name (wpAny_loadName_free I.ok.kind Y hc a fin af) hd
theorem jm{i j pos}:PE X (.Constant (.int i) j pos) (tC (.int i)):=λ_ _ _ H _ I h=>wpAny_Constant_int ⟨.int i,H,I.tok _,⟨_,rfl⟩,h⟩
theorem p5{b j pos}:PE X (.Constant (.bool b) j pos) (tC (.bl b)):=λ_ _ _ H _ I h=>Constant_bool ⟨.bl b,H,I,rfl,h⟩
theorem qU{j pos}:PE X (.Constant .none j pos) (tC .non):=λ_ _ _ H _ I h=>Constant_none ⟨.non,H,I,rfl,h⟩
theorem eZ{x j pos}:PE X (.Constant (.str x) j pos) (tC (.str x)):=λ_ _ _ H _ I h=>Calls.Constant_str ⟨.str x,H,I.tok _,⟨_,rfl⟩,h⟩
def Gl(X:Cx)(x:Str):Prop:=X.env.kindOf x=some .globalImplicit
theorem V8{σ:St}{x:Str}{Q:J1}(I:C' X aa σ H s)(hg:Gl X x)(hm:X.mg x=some u)(h:Q u s)
  (hd:C2 x:=by decide):wpAny (model X.prog X.w) X.A (eval (.Name x pos) X.env) Q E s :=
 Calls.Name_function_global I.ok.kind hg (Calls.loadGlobal_global (by rw[I.ok.glob];exact I.mod.glob.keeps I.bk) hm h) hd
theorem Jd{σ:St}{x:Str}{Q:J1}(I:C' X aa σ H s)(hg:Gl X x)(hm:X.mg x=none)(hv:bootBuiltins x=some u)(h:Q u s)
  (hn:x≠"__name__" := by decide) (hd:C2 x:=by decide):wpAny (model X.prog X.w) X.A (eval (.Name x pos) X.env) Q E s:=by
 obtain⟨p,h1,h2⟩:=I.mod.blt;exact Calls.Name_function_global I.ok.kind hg (Calls.loadGlobal_builtin (by rw[I.ok.glob];exact I.mod.glob.keeps I.bk) hm (by rw[I.ok.blt];exact h1.keeps I.bk) ((h2 x hn).trans hv) h) hd
theorem qc{x:Str}{v:V}(hg:Gl X x)(hm:X.mg x=some u)(r:Yi v u)(hd:C2 x:=by decide):PE X (.Name x pos) (tC v) :=
 λ_ _ _ H _ I h=>V8 I hg hm ⟨v,H,I,r,h⟩ hd
theorem qB{x:Str}{v:V}(hg:Gl X x)(hm:X.mg x=none)(hv:bootBuiltins x=some u)(r:Yi v u)(hn:x≠"__name__" := by decide)(hd:C2 x:=by decide):PE X (.Name x pos) (tC v) :=
 λ_ _ _ H _ I h=>Jd I hg hm hv ⟨v,H,I,r,h⟩ hn hd
variable{a b:C3}{ta tb:TE}
def PC(X:Cx)(op:CmpOp)(a b:C3)(t:TE):Prop :=
 ∀ (aa:IA) (s:A4) (σ:St) (H:Hp) (Q:VK),C' X aa σ H s->t σ H Q ->
  wpAny (model X.prog X.w) X.A (eval a X.env) (λv s₁=>wpAny (model X.prog X.w) X.A (eval b X.env) (λu s₂=>wpAny (model X.prog X.w) X.A (compareOp op v u) (EP X aa σ Q) X.xe s₂) X.xe s₁) X.xe s
def tB(t:TE):TT:=λσ H Q=>t σ H λx H1=>∃ c,x=.bl c/\Q c H1
theorem kT{t:TE}(h:PC X op a b t)(h1:behindInMarks op b=false:=by first | exact nobehind _ (by decide) (by decide) | rfl):PT X (.Compare a [op] [b] pos) (tB t):=by
 intro aa s σ H Q I hw;refine wpAny_isTrue_Compare1 (Wo (h aa s σ H _ I hw) λv s1 h1=>Wo h1 λu s2 h2=>Wo h2 λc G ⟨x,H1,I1,r1,M⟩=>?_) h1;obtain⟨d,rfl,q⟩:=M;cases r1;exact DZ ⟨H1,I1,q⟩
variable{tA aI:TT}
def lg(t u:TT):TT:=λσ H Q=>t σ H λc H1=>if c=true then u σ H1 Q else Q false H1
def hJ(t u:TT):TT:=λσ H Q=>t σ H λc H1=>if c=true then Q true H1 else u σ H1 Q
def lP(t:TT):TT:=λσ H Q=>t σ H λc H1=>Q (!c) H1
theorem fx(ha:PT X a tA):PW X (.BoolOp .And [a] pos) tA:=by
 intro d aa s σ H Q I h;refine isTrue_and (Wo (ha aa s σ H Q I h) λc s1 e=>?_);cases c with
 | true=>exact isTrue_and_nil e
 | false=>exact e
theorem mZ(ha:PT X a tA):PW X (.BoolOp .Or [a] pos) tA:=by
 intro d aa s σ H Q I h;refine isTrue_or (Wo (ha aa s σ H Q I h) λc s1 e=>?_);cases c with
 | false=>exact isTrue_or_nil e
 | true=>exact e
theorem gw(ha:PT X a tA)(hb:PW X (.BoolOp .And (b::ak) pos) aI):PW X (.BoolOp .And (a::b::ak) pos) (lg tA aI):=by
 intro d aa s σ H Q I h;refine isTrue_and (Wo (ha aa s σ H _ I h) λc s1 ⟨H1,I1,M⟩=>?_);cases c with
 | true=>exact hb d aa s1 σ H1 Q I1 M
 | false=>exact⟨H1,I1,M⟩
theorem kF(ha:PT X a tA)(hb:PW X (.BoolOp .Or (b::ak) pos) aI):PW X (.BoolOp .Or (a::b::ak) pos) (hJ tA aI):=by
 intro d aa s σ H Q I h;refine isTrue_or (Wo (ha aa s σ H _ I h) λc s1 ⟨H1,I1,M⟩=>?_);cases c with
 | true=>exact⟨H1,I1,M⟩
 | false=>exact hb d aa s1 σ H1 Q I1 M
theorem qh(ha:PT X a tA):PT X (.UnaryOp .Not a pos) (lP tA):=by
 intro aa s σ H Q I h;exact isTrue_not (ha aa s σ H (λc H1=>Q (!c) H1) I h)
def fY(ta tb:TE):TE:=λσ H Q=>ta σ H λx H1=>∃ c,x=.bl c/\if c=true then tb σ H1 Q else Q (.bl false) H1
def oG(ta tb:TE):TE:=λσ H Q=>ta σ H λx H1=>∃ c,x=.bl c/\if c=true then Q (.bl true) H1 else tb σ H1 Q
theorem mD{op}{t:TE}(h:PE X a t):PE X (.BoolOp op [a] pos) t:=λaa s σ H Q I hw=>BoolOp_one (h aa s σ H Q I hw)
theorem n9(ha:PE X a ta)(hb:PE X (.BoolOp .And (b::ak) pos) tb):PE X (.BoolOp .And (a::b::ak) pos) (fY ta tb):=by
 intro aa s σ H Q I h;refine BoolOp_and (Wo (ha aa s σ H _ I h) λv s1 ⟨x,H1,I1,r1,M⟩=>?_);obtain⟨c,rfl,M⟩:=M;cases r1;refine DZ ?_;cases c with
 | true=>exact hb aa s1 σ H1 Q I1 M
 | false=>exact⟨.bl false,H1,I1,rfl,M⟩
theorem pF(ha:PE X a ta)(hb:PE X (.BoolOp .Or (b::ak) pos) tb):PE X (.BoolOp .Or (a::b::ak) pos) (oG ta tb):=by
 intro aa s σ H Q I h;refine BoolOp_or (Wo (ha aa s σ H _ I h) λv s1 ⟨x,H1,I1,r1,M⟩=>?_);obtain⟨c,rfl,M⟩:=M;cases r1;refine DZ ?_;cases c with
 | false=>exact hb aa s1 σ H1 Q I1 M
 | true=>exact⟨.bl true,H1,I1,rfl,M⟩
end
variable{σ:St}{te tl ta:TE}{tc:TT}{tb:TS}
def Dd(K:G8)(H:Hp)(a:A2)(xs:Z V):Prop :=
 Rd H a (.lst xs) \/
  ∃ (o:Obj) (its:Array A1) (n:Nat),K.lookup a=some o/\o.cls=.type "list" /\ o.dict=none/\o.data=.seq its n/\its.size<=sizeLine/\Y0 xs its.toList
def E3(K:G8)(H:Hp)(a:A2)(xs:Z V):Prop :=
 H a=some (.tup xs) \/
  ∃ (o:Obj) (its:Array A1) (n:Nat),K.lookup a=some o/\o.cls=.type "tuple" /\ o.data=.seq its n/\its.size<=sizeLine/\Y0 xs its.toList/\∀ i:Int,V.int i∉xs
def fX:A1->C1 V
 | .none=>some .non
 | .bool b=>some (.bl b)
 | .int i _=>some (.int i)
 | .str x _=>some (.str x)
 | .bytes b _=>some (.byt b)
 | .float b _=>some (.flt b)
 | .ref a=>some (.ref a)
 | .type n=>some (.ty n)
 | _=>none
theorem Yi.abs{x:V}(r:Yi x u):fX u=some x:=by
 cases x with
 | non=>cases r;rfl
 | bl _=>cases r;rfl
 | int _=>obtain⟨t,rfl⟩:=r;rfl
 | str _=>obtain⟨t,rfl⟩:=r;rfl
 | byt _=>obtain⟨t,rfl⟩:=r;rfl
 | flt _=>obtain⟨t,rfl⟩:=r;rfl
 | ref _=>cases r;rfl
 | ty _=>cases r;rfl
theorem Yi.inj{x y:V}{u:A1}(r:Yi x u)(q:Yi y u):x=y:=BF (r.abs.symm.trans q.abs)
theorem Y0.inj:∀ {xs ys:Z V} {us:Z A1},Y0 xs us->Y0 ys us->xs=ys
 | _,_,_,.nil,.nil=>rfl
 | _,_,_,.cons r t,.cons r' t'=>by rw[r.inj r',Y0.inj t t']
section
variable{X:Cx}{a:A2}{ys:Z V}
theorem Dd.of(h:H a=some (.lst xs)):Dd K H a xs:=.inl (.inl h)
theorem C'.list(I:C' X aa σ H s)(h:Dd X.K H a xs):∃ its:Z A1,Y0 xs its/\PlainL s.heap a its.toArray/\xs.length<=sizeLine:=by
 rcases h with h | ⟨o,its,n,Y,hc,hd,hs,hz,r⟩
 ·obtain⟨z,its,n,r,e⟩:=h.ok I.hok
  exact⟨its,r,⟨_,n,e,rfl,rfl,rfl⟩,z⟩
 ·refine⟨its.toList,r,⟨o,n,I.kIn a o Y,hc,hd,by simpa using hs⟩,?_⟩
  have e:=r.length;simp only[BD] at e;lia
theorem C'.tuple(I:C' X aa σ H s)(h:E3 X.K H a xs):∃ its:Z A1,Y0 xs its/\IsTup s.heap a its.toArray/\xs.length<=sizeLine:=by
 rcases h with h | ⟨o,its,n,Y,hc,hs,hz,r,_⟩
 ·obtain⟨z,its,r,p⟩:=(Rd.of h).ok I.hok
  exact⟨its,r,p,z⟩
 ·refine⟨its.toList,r,⟨o,I.kIn a o Y,hc,n,by simpa using hs⟩,?_⟩
  have e:=r.length;simp only[BD] at e;lia
theorem C'.list_inj(I:C' X aa σ H s)(h:Dd X.K H a xs)(h':Dd X.K H a ys):xs=ys:=by
 obtain⟨its,r,⟨o,n,e,_,_,d⟩,_⟩:=I.list h;obtain⟨its',r',⟨o',g,e',_,_,d'⟩,_⟩:=I.list h';rw[e] at e';cases e';rw[d] at d';injection d' with b _
 have:its=its':=by simpa using DY Array.toList b
 subst this;exact r.inj r'
theorem C'.tuple_inj(I:C' X aa σ H s)(h:E3 X.K H a xs)(h':E3 X.K H a ys):xs=ys:=by
 obtain⟨its,r,⟨o,e,_,n,d⟩,_⟩:=I.tuple h;obtain⟨its',r',⟨o',e',_,g,d'⟩,_⟩:=I.tuple h';rw[e] at e';cases e';rw[d] at d';injection d' with b _
 have:its=its':=by simpa using DY Array.toList b
 subst this;exact r.inj r'
end
abbrev Cx.wish(X:Cx)(E:J1):Cx:={ X with xe:=E }
abbrev Cx.nox(X:Cx):Cx:=X.wish λ_ _=>False
theorem Cx.Ok.wish{X:Cx}(ok:X.Ok)(E:J1):(X.wish E).Ok :=
 ⟨ok.mod,ok.kind,ok.glob,ok.blt,ok.above,ok.inj,ok.has,ok.cab,ok.hd,ok.frames,ok.stk,ok.exf,ok.bs,ok.bsz,ok.noex,ok.exfs,ok.funs,ok.frf⟩
theorem Cx.Ok.unwish{X:Cx}(ok:(X.wish E).Ok):X.Ok :=
 ⟨ok.mod,ok.kind,ok.glob,ok.blt,ok.above,ok.inj,ok.has,ok.cab,ok.hd,ok.frames,ok.stk,ok.exf,ok.bs,ok.bsz,ok.noex,ok.exfs,ok.funs,ok.frf⟩
section
variable{X:Cx}
theorem C'.wish(I:C' X aa σ H s)(E:J1):C' (X.wish E) aa σ H s:=⟨I.ok.wish E,I.os,I.bare,I.base,I.loc,I.cell,I.free,I.freeC,I.pin,I.hok,I.len⟩
theorem C'.unwish(I:C' (X.wish E) aa σ H s):C' X aa σ H s:=⟨I.ok.unwish,I.os,I.bare,I.base,I.loc,I.cell,I.free,I.freeC,I.pin,I.hok,I.len⟩
theorem SP.unwish{D:KX}{f:Flow}(h:SP (X.wish E) aa D f s'):SP X aa D f s':=by
 cases f with
 | next=>obtain⟨σ',H',I,q⟩:=h;exact⟨σ',H',I.unwish,q⟩
 | brk=>obtain⟨σ',H',I,q⟩:=h;exact⟨σ',H',I.unwish,q⟩
 | cont=>obtain⟨σ',H',I,q⟩:=h;exact⟨σ',H',I.unwish,q⟩
 | ret u=>obtain⟨v,σ',H',I,r,q⟩:=h;exact⟨v,σ',H',I.unwish,r,q⟩
theorem Sv.nox{st:Z C4}{t:TS}(h:Sv X.nox st t):Sv X st t:=λaa s σ H D I hw =>
 BO (h aa s σ H D (I.wish _) hw) (λ_ _ q=>q.unwish) λ_ _ z=>False.elim z
end
section
variable{X:Cx}{st:C4}{ak:Z C4}{t u:TS}
def e6:TS:=λD σ H=>D.nx σ H
def F0(t u:TS):TS:=λD σ H=>t { D with nx:=u D } σ H
theorem qv:Sv X [] e6:=λ_ _ σ H _ I h=>IK ⟨σ,H,I,h⟩
theorem Uw(h1:PS X st t)(h2:Sv X ak u):Sv X (st::ak) (F0 t u):=by
 intro aa s σ H D I h;refine wpAny_execs_cons (Wo (h1 aa s σ H { D with nx:=u D } I h) λf s1 q=>?_);cases f with
 | next =>
  obtain⟨σ',H',I',q⟩:=q;exact h2 aa s1 σ' H' D I' q
 | ret v=>exact q
 | brk=>exact q
 | cont=>exact q
theorem Sa(h1:PS X st t):Sv X [st] t:=by
 intro aa s σ H D I h;refine wpAny_execs_cons (Wo (h1 aa s σ H D I h) λf s1 q=>?_);cases f with
 | next=>exact IK q
 | ret v=>exact q
 | brk=>exact q
 | cont=>exact q
def fH:TS:=λD σ H=>D.ct σ H
theorem kY:PS X (.Continue pos) fH:=λ_ _ σ H _ I h=>wpAny_Continue ⟨σ,H,I,h⟩
theorem C'.quiet(I:C' X aa σ H s):interactive X.env=false:=by simp[interactive,I.ok.kind]
def RD(te:TE):TS:=λD σ H=>te σ H λ_ H1=>D.nx σ H1
theorem Qn(he:PE X e te)(hs:swapsWith e none pos.line X.env=pure false:=by rfl):PS X (.Expr e pos) (RD te):=by
 intro aa s σ H D I h;exact wpAny_Expr_any (Wo (he aa s σ H _ I h) λv s1 ⟨x,H1,I1,r1,M⟩=>⟨σ,H1,I1,M⟩) I.quiet hs
def nA(te:TE):TS:=λD σ H=>te σ H D.rt
theorem UX(he:PE X e te):PS X (.Return (some e) pos) (nA te):=by
 intro aa s σ H D I h;exact wpAny_Return_some (Wo (he aa s σ H _ I h) λv s1 ⟨x,H1,I1,r1,M⟩=>⟨x,σ,H1,I1,r1,M⟩)
def iL(c:TT)(t u:TS):TS:=λD σ H=>c σ H λb H1=>if b=true then t D σ H1 else u D σ H1
theorem lH{c:C3}{a b:Z C4}(hc:PT X c tc)(ha:Sv X a t)(hb:Sv X b u):PS X (.If c a b pos) (iL tc t u):=by
 intro aa s σ H D I h;refine wpAny_If (Wo (hc aa s σ H _ I h) λd s1 ⟨H1,I1,M⟩=>?_);cases d with
 | true=>exact ha aa s1 σ H1 D I1 M
 | false=>exact hb aa s1 σ H1 D I1 M
end
abbrev TG:=V->St->Hp->(St->Hp->Prop)->Prop
abbrev NF:=Z V->St->Hp->(St->Hp->Prop)->Prop
def PG(X:Cx)(a:C3)(t:TG):Prop :=
 ∀ (aa:IA) (s:A4) (σ:St) (H:Hp) (v:V) (u:A1) (Q:St->Hp->Prop),C' X aa σ H s->Yi v u->t v σ H Q ->
  wpAny (model X.prog X.w) X.A (assign a X.env u) (λ_ s'=>∃ σ' H',C' X aa σ' H' s'/\Q σ' H') X.xe s
def NW(X:Cx)(ts:Z C3)(t:NF):Prop :=
 ∀ (aa:IA) (s:A4) (σ:St) (H:Hp) (vs:Z V) (us:Z A1) (Q:St->Hp->Prop),C' X aa σ H s->Y0 vs us->t vs σ H Q ->
  wpAny (model X.prog X.w) X.A (assignInOrder ((assignEach ts X.env).map (·.2)) us) (λ_ s'=>∃ σ' H',C' X aa σ' H' s'/\Q σ' H') X.xe s
abbrev WX:=V->V->V->Hp->(Hp->Prop)->Prop
def ZY(X:Cx)(t:WX):Prop :=
 ∀ (aa:IA) (s:A4) (σ:St) (H:Hp) (o i v:V) (E b u:A1) (Q:Hp->Prop),C' X aa σ H s->Yi o E->Yi i b->Yi v u->t o i v H Q ->
  wpAny (model X.prog X.w) X.A (setItem E b u) (λ_ s'=>∃ H',C' X aa σ H' s'/\Q H') X.xe s
abbrev UU:=V->V->Hp->VK->Prop
def ed(X:Cx)(op:Operator)(t:UU):Prop :=
 ∀ (aa:IA) (s:A4) (σ:St) (H:Hp) (x y:V) (v u:A1) (Q:VK),C' X aa σ H s->Yi x v->Yi y u->t x y H Q ->
  wpAny (model X.prog X.w) X.A (inplaceOp op v u) (EP X aa σ Q) X.xe s
section
variable{X:Cx}
def SU(i:Nat):TG:=λv σ H Q=>Q (σ.set i (some v)) H
theorem oq{x:Str}(hN:X.N.Nodup)(hi:X.N[i]?=some x)(hx:LZ X.env.scope x)(hf:X.fn x=true\/X.env.scope.names.lookup x=some .local:=by ext):PG X (.Name x pos) (SU i):=by
 intro aa s σ H v u Q I r h;exact wpAny_assign_Name (Kj I hN hi hx r (λs' I'=>⟨_,H,I',h⟩) hf)
def mi:NF:=λvs σ H Q=>vs=[]/\Q σ H
def nW(t:TG)(u:NF):NF:=λvs σ H Q=>∃ v r,vs=v::r/\t v σ H λσ' H'=>u r σ' H' Q
theorem p7:NW X [] mi:=by
 intro aa s σ H vs us Q I r h;obtain⟨e,h⟩:=h;subst e;cases r;exact assignInOrder_nil ⟨σ,H,I,h⟩
theorem qx{t:TG}{u:NF}(h1:PG X e t)(h2:NW X es u)
  (hs:(assignEach (e::es) X.env).map (·.2)=assign e X.env::(assignEach es X.env).map (·.2):=by rfl):NW X (e::es) (nW t u):=by
 intro aa s σ H vs us Q I r h;obtain⟨v,a,e1,h⟩:=h;subst e1;cases r with
 | cons r l =>
  rw[hs];refine assignInOrder_cons (Wo (h1 aa s σ H _ _ _ I r h) λ_ s1 ⟨σ1,H1,I1,M⟩=>?_);exact h2 aa s1 σ1 H1 _ _ Q I1 l M
def bU(K:G8)(n:Nat)(t:NF):TG:=λv σ H Q=>∃ a xs,v=.ref a/\E3 K H a xs/\xs.length=n/\t xs σ H Q
theorem pp{k:Nat}{t:NF}{n:Nat}(hc:X.calm=true)(h:NW X es t)
  (hn:(assignEach es X.env).length=n:=by rfl) (l:(assignEach es X.env).findIdx? (·.1)=none:=by rfl):PG X (.Tuple es k pos) (bU X.K n t):=by
 intro aa s σ H v u Q I r hw;obtain⟨a,xs,e1,hq,hl,hw⟩:=hw;subst e1;cases r;obtain⟨its,rv,ht,hz⟩:=I.tuple hq;refine assign_Tuple_tuple (I.ok.hd hc) ht (by simp[hn,← hl,rv.length]) l λh' hx=>?_
 have I1:C' X aa σ H { s with heap:=h' }:=I.kept (t':=s.toks) λb o e=>hx b o (BG (AN e)) e
 exact h aa _ σ H xs _ Q I1 (by simpa using rv) hw
def nf(to d:TE)(t:WX):TG:=λv σ H Q=>to σ H λo H1=>d σ H1 λi H2=>t o i v H2 λP=>Q σ P
theorem ni{o i:C3}{to d:TE}{t:WX}(ho:PE X o to)(hi:PE X i d)(hs:ZY X t)
  (ha:∀ v,assign (.Subscript o i pos) X.env v=(do
   let E ← holding [v] (eval o X.env)
   let b ← holding [v,E] (eval i X.env)
   standAt pos
   holding [v,E,b] (setItem E b v)
   release [v,E,b] []):=by intro _;rfl):PG X (.Subscript o i pos) (nf to d t):=by
 intro aa s σ H v u Q I r h;rw[ha];refine AA (BN (Wo (ho aa s σ H _ I h) λE s1 ⟨x,H1,I1,r1,M⟩=>?_));refine AA (BN (Wo (hi aa s1 σ H1 _ I1 M) λb s2 ⟨y,H2,I2,r2,q2⟩=>?_));refine AA (DL (AA (BN (Wo (hs aa s2 σ H2 x y v E b u _ I2 r1 r2 r q2) λ_ G ⟨P,I3,C⟩=>?_))));exact wpAny_release ⟨σ,P,I3,C⟩
def WU(te:TE)(g:TG):TS:=λD σ H=>te σ H λx H1=>g x σ H1 D.nx
theorem dw{g:TG}(he:PE X e te)(hg:PG X tg g)(hs:swapsWithSole [tg] e pos.line X.env=pure false:=by rfl)(hw:swappedStores [tg] e X.env=pure none:=by rfl)
  (h1:(assignEach [tg] X.env).map (·.2)=[assign tg X.env]:=by rfl):PS X (.Assign [tg] e pos) (WU te g):=by
 intro aa s σ H D I h;refine wpAny_Assign_stores (Wo (he aa s σ H _ I h) λv s1 ⟨x,H1,I1,r1,M⟩=>?_) hs hw;rw[h1];exact Wo (hg aa s1 σ H1 x v _ I1 r1 M) λ_ s2 q=>q
theorem L0{x:Str}(hN:X.N.Nodup)(hi:X.N[i]?=some x)(hx:LZ X.env.scope x)(he:PE X e te)(hs:swapsWith e (some (.Name x am)) pos.line X.env=pure false:=by rfl)(hf:X.fn x=true\/X.env.scope.names.lookup x=some .local:=by ext) :
  PS X (.Assign [.Name x am] e pos) (WU te (SU i)):=by
 intro aa s σ H D I h;refine wpAny_Assign_Name (Wo (he aa s σ H _ I h) λv s1 ⟨y,H1,I1,r1,M⟩=>?_) hs;exact Kj I1 hN hi hx r1 (λs2 I2=>⟨_,H1,I2,M⟩) hf
def ov(i:Nat)(te:TE)(d:UU):TS:=λD σ H=>∃ x,σ[i]?=some (some x)/\te σ H λy H1=>d x y H1 λz H2=>D.nx (σ.set i (some z)) H2
theorem iP{x:Str}{op:Operator}{d:UU}(hN:X.N.Nodup)(hi:X.N[i]?=some x)(hx:LZ X.env.scope x)(he:PE X e te)(ho:ed X op d)(hf:X.fn x=true\/X.env.scope.names.lookup x=some .local:=by ext) :
  PS X (.AugAssign (.Name x am) op e pos) (ov i te d):=by
 intro aa s σ H D I h;obtain⟨v,e1,h⟩:=h;obtain⟨m,hn,hl⟩:=I.loc;have b:MN X.env.scope x:=by rcases hx with k | k;exact .inl k;exact .inr (.inl k)
 obtain⟨u,r,l⟩:=hl i x v hi e1 b;refine wpAny_AugAssign_Name ?_;have go:wpAny (model X.prog X.w) X.A (eval e X.env) (λw s₂=>wpAny (model X.prog X.w) X.A (inplaceOp op u w) (λr s₃=>wpAny (model X.prog X.w) X.A (storeName X.env x r) (λ_=>SP X aa D .next) X.xe s₃) X.xe s₂) X.xe s:=by
  refine Wo (he aa s σ H _ I h) λw s1 ⟨y,H1,I1,r1,M⟩=>?_
  refine Wo (ho aa s1 σ H1 v y u w _ I1 r r1 M) λz s2 ⟨zv,H2,I2,r2,q2⟩=>?_
  exact Kj I2 hN hi hx r2 (λG I3=>⟨_,H2,I3,q2⟩) hf
 rcases l with⟨Y,hm⟩ | ⟨Y,c,hc,a⟩
 ·exact wpAny_loadName_local I.ok.kind Y hn hm go
 ·rcases Y with Y | Y
  ·exact wpAny_loadName_cell I.ok.kind Y hc a go
  ·rcases hx with k | k
   ·have:X.env.scope.names.lookup x=some .free:=Y
    rw[k] at this;cases this
   ·have:X.env.scope.names.lookup x=some .free:=Y
    rw[k] at this;cases this
def iJ(f:Int->Int->Int):UU:=λx y H Q=>∃ i j,x=.int i/\y=.int j/\Q (.int (f i j)) H
theorem mH:ed X .Add (iJ λi j=>i+j):=by
 intro aa s σ H x y v u Q I r1 r2 h;obtain⟨i,j,e1,e2,q⟩:=h;subst e1;subst e2;obtain⟨t,rfl⟩:=r1;obtain⟨t',rfl⟩:=r2;exact iadd_int ⟨.int _,H,I.tok _,⟨_,rfl⟩,q⟩
def n8(c:TT)(tb:TS):TS:=λD σ H=>∃ W:Nat->St->Hp->Prop,(∃ m,W m σ H)/\∀ m σ H,W m σ H ->
 c σ H λb H1=>if b=true then ∃ N:St->Hp->Prop,(∀ σ' H',N σ' H'->∃ m',m'<m/\W m' σ' H')/\tb { D with nx:=N,ct:=N,bk:=D.nx } σ H1 else D.nx σ H1
theorem jl{c:C3}(hp:PassesOwn (model X.prog X.w) X.A X.env X.xe)(hc:PT X c tc)(hb:Sv X body tb):PS X (.While c body [] pos) (n8 tc tb):=by
 intro aa s σ H D I h;obtain⟨W,⟨m0,w0⟩,turn⟩:=h;refine wpAny_While (codeAny_whileLoop (λn s'=>∃ σ' H',C' X aa σ' H' s'/\W n σ' H') ?_ m0 ⟨σ,H,I,w0⟩);rintro n s1 ⟨σ1,H1,I1,w1⟩;refine FD hp (Wo (hc aa s1 σ1 H1 _ I1 (turn n σ1 H1 w1)) λb s2 ⟨H2,I2,q2⟩=>?_);cases b with
 | true =>
  obtain⟨N,hN,q2⟩:=q2;rw[AF rfl];refine FD hp (Wo (hb aa s2 σ1 H2 _ I2 q2) λf G C=>?_);cases f with
  | next =>
   obtain⟨σ3,P,I3,a⟩:=C;obtain⟨m',hm,p⟩:=hN σ3 P a;exact⟨m',hm,σ3,P,I3,p⟩
  | cont =>
   obtain⟨σ3,P,I3,a⟩:=C;obtain⟨m',hm,p⟩:=hN σ3 P a;exact⟨m',hm,σ3,P,I3,p⟩
  | brk=>exact C
  | ret v=>exact C
 | false =>
  rw[AL BY];exact IK ⟨σ1,H2,I2,q2⟩
end
structure It where
 go:Nat->Hp->Prop
 yld:Nat->Hp->V->Hp->Prop
 stop:Nat->Hp->Prop
def Dg(X:Cx)(aa:IA)(H:Hp)(b:A2):Prop :=
 H b=none/\b≠X.env.locals/\b∉X.fs/\(b∈X.ex\/X.s₀.heap.objs.size<=b)/\(∀ x c,X.env.cells.lookup x=some c->c≠b)/\∀ p∈X.pn++aa,p.1≠b
theorem C'.fpOk{X:Cx}{b:A2}(I:C' X aa σ H s)(hb:s.heap.objs.size<=b)(hn:H' b=none):Dg X aa H' b:=by
 refine⟨hn,IV (AR I.lt hb),I.nofs hb,.inr (BC I.sz hb),λx c e z=>?_,λp hp z=>?_⟩
 ·obtain⟨v,q⟩:=I.cell x c e
  exact absurd (AR q.lt (by rw[z];exact hb)) (DA _)
 ·exact absurd (AR (AN (I.pin p hp).1) (by rw[z];exact hb)) (DA _)
def HdS(A:C0)(h:Ff):Prop:=A.handled=none\/∃ e,A.handled=some (.ref e)/\ChX h e
def MU(X:Cx):Prop:=∀ aa σ H s,C' X aa σ H s->HdS X.A s.heap
theorem MU.calm{X:Cx}(h:X.calm=true):MU X:=λ_ _ _ _ I=>.inl (I.ok.hd h)
def Cm:Bool->Cx->Prop
 | false,X=>X.calm=true
 | true,X=>MU X
structure LQ (b:Bool) (P:Program) (w:World) (K:G8) (tg:Expr) (J:It) (fp:List Addr) (it:Addr) (tn:Nat->Heap->Prop):Prop where
 mem:it∈fp
 obj:∀ i h,tn i h->∀ b∈fp,∃ o,h.get? b=some o/\∀ v,o.data≠.cell v
 keep:∀ i h h',tn i h->(∀ b∈fp,∀ o,h.get? b=some o->h'.get? b=some o)->tn i h'
 item:∀ (X:Cx),X.prog=P->X.w=w->X.K=K->Cm b X->∀ (i:Nat) (aa:IA) (s:Shared) (σ:St) (H:Hp) (E:J1),C' X aa σ H s->(∀ b∈fp,Dg X aa H b)->tn i s.heap->J.go i H ->
  wpAny (model P w) X.A (pyNext (.ref it)) (λr s1=>∃ u,r=some u /\
   wpAny (model P w) X.A (letOwnedTupleGo tg (.ref it) u) (λ_ s2=>∃ x H',C' X aa σ H' s2/\Yi x u/\J.yld i H x H'/\tn (i+1) s2.heap/\∀ b∈fp,H' b=none) E s1) E s
 done:∀ (X:Cx),X.prog=P->X.w=w->X.K=K->Cm b X->∀ (i:Nat) (aa:IA) (s:Shared) (σ:St) (H:Hp) (E:J1),C' X aa σ H s->(∀ b∈fp,Dg X aa H b)->tn i s.heap->J.stop i H ->
  wpAny (model P w) X.A (pyNext (.ref it)) (λr s1=>r=none/\C' X aa σ H s1) E s
 self:∀ (A:Around) (i:Nat) (s:Shared) (Q:J1) (E:J1),tn i s.heap->Q (.ref it) s->wpAny (model P w) A (pyIter (.ref it)) Q E s
abbrev OR:=LQ false
theorem LQ.weak{J:It}{tn:Nat->Ff->Prop}(T:LQ true P w K tg J fp it tn):OR P w K tg J fp it tn :=
 ⟨T.mem,T.obj,T.keep,λX h1 h2 h3 hc=>T.item X h1 h2 h3 (MU.calm hc),λX h1 h2 h3 hc=>T.done X h1 h2 h3 (MU.calm hc),T.self⟩
abbrev TI:=St->Hp->(It->Hp->Prop)->Prop
def eR(b:Bool)(X:Cx)(aa:IA)(σ:St)(tg:C3)(R:It->Hp->Prop)(k:A1)(s2:A4):Prop :=
 ∃ (it:A2) (fp:Z A2) (tn:Nat->Ff->Prop) (J:It) (H':Hp),k=.ref it/\C' X aa σ H' s2/\LQ b X.prog X.w X.K tg J fp it tn/\tn 0 s2.heap/\(∀ b∈fp,Dg X aa H' b)/\R J H'
abbrev kq:=eR false
def NE(b:Bool)(X:Cx)(tg iter:C3)(wi:TI):Prop :=
 ∀ (aa:IA) (s:A4) (σ:St) (H:Hp) (R:It->Hp->Prop),C' X aa σ H s->wi σ H R ->
  wpAny (model X.prog X.w) X.A (eval iter X.env) (λv s1=>wpAny (model X.prog X.w) X.A (pyIter v) (eR b X aa σ tg R) X.xe s1) X.xe s
abbrev PI:=NE false
theorem NE.weak{X:Cx}{wi:TI}(h:NE true X tg iter wi):PI X tg iter wi:=λaa s σ H R I q=>BO (h aa s σ H R I q) (λv s1 z=>BO z (λu s2 ⟨it,fp,tn,J,H',a,b,c,d⟩=>⟨it,fp,tn,J,H',a,b,c.weak,d⟩) λ_ _ z=>z) λ_ _ z=>z
theorem UZ{M:Model}{o:Obj}{n:String}(ho:s.heap.get? it=some o)(hc:o.cls=.type n)(hd:o.data=.fields vs)
   (hn:["enumerate","zip","dict_itemiterator","dict_reverseitemiterator","odict_iterator","itertools.zip_longest","itertools.pairwise"].contains n=false) (j:Q () s):wpAny M A (letOwnedTupleGo tg (.ref it) u) Q E s:=by
 unfold letOwnedTupleGo;cases tg<;>first
   | exact AC j
   | (cases u<;>first
       | exact AC j
       | (refine AA (wpAny_load ho ?_)
          rw[hc,hd];show wpAny M A (if(["enumerate","zip","dict_itemiterator","dict_reverseitemiterator","odict_iterator","itertools.zip_longest","itertools.pairwise"].contains n&&vs[0]?==some (rawInt _))=true then _ else _) Q E s;rw[AL (by intro h;rw[hn,KJ] at h;cases h)];exact AC j))
def VV(K:G8)(a:A2):It :=
 ⟨λi H=>∃ xs x,Dd K H a xs/\xs[i]?=some x,λi H x H'=>H'=H/\∀ xs,Dd K H a xs->xs[i]?=some x,λi H=>∃ xs,Dd K H a xs/\xs.length<=i⟩
def YQ(K:G8)(a:A2):It :=
 ⟨λi H=>∃ xs x,E3 K H a xs/\xs[i]?=some x,λi H x H'=>H'=H/\∀ xs,E3 K H a xs->xs[i]?=some x,λi H=>∃ xs,E3 K H a xs/\xs.length<=i⟩
def RK(lo:Int)(n:Nat):It:=⟨λi _=>i<n,λi H x H'=>H'=H/\x=.int (lo+i),λi _=>n<=i⟩
theorem et(a it:A2):LQ true P w K tg (VV K a) [it] it (λi h=>h.IsListIter it a i) where
 mem:=by simp
 obj:=λi h st b hb=>by
  have e:b=it:=by simpa using hb
  subst e;obtain⟨o,e,c,d⟩:=st;exact⟨o,e,λv z=>by rw[d] at z;cases z⟩
 keep:=λi h h' st k=>st.at λo e=>k it (by simp) o e
 item:=by
  intro X g hw f hc i aa s σ H E I hf st hg;subst g hw f;obtain⟨xs,x,hq,hx⟩:=hg;obtain⟨its,rv,p,hz⟩:=I.list hq;obtain⟨u,hu,N⟩:=rv.get hx;obtain⟨f0,f1,f2,f3,m,l⟩:=hf it (by simp);refine HY st p.isList (x:=u) (by simpa using hu) λh' j sb=>?_
  have I1:C' X aa σ H { s with heap:=h' }:=I.turned (t':=s.toks) (λb o hb e=>(sb.2 b hb).trans e) f0 f1 f3 m l;obtain⟨o,e,c,d⟩:=id j;exact⟨u,rfl,UZ (s:={ s with heap:=h' }) e c d (by decide) ⟨x,H,I1,N,⟨rfl,λys hy=>by rw[I.list_inj hy hq];exact hx⟩,j,λb hb=>(hf b hb).1⟩⟩
 done:=by
  intro X g hw f hc i aa s σ H E I hf st hg;subst g hw f;obtain⟨xs,hq,hx⟩:=hg;obtain⟨its,rv,p,hz⟩:=I.list hq;obtain⟨f0,f1,f2,f3,m,l⟩:=hf it (by simp);have hl:=rv.length;rcases hc _ _ _ _ I with hh | ⟨e,hh,R⟩
  ·exact IG hh st p.isList (by simp;lia) λh' F=>⟨rfl,I.turned (t':=s.toks) (λb o hb e=>F b o hb e) f0 f1 f3 m l⟩
  ·exact Pj hh R st p.isList (by simp;lia) λh' F=>⟨rfl,I.turned (t':=s.toks) (λb o hb e=>F b o hb e) f0 f1 f3 m l⟩
 self:=λ_ _ _ _ _ st h=>wpAny_pyIter_listiter st h
variable{Q:VK}{vs:Z V}
theorem mf(a it:A2):OR P w K tg (YQ K a) [it] it (λi h=>h.IsTupleIter it a i) where
 mem:=by simp
 obj:=λi h st b hb=>by
  have e:b=it:=by simpa using hb
  subst e;obtain⟨o,e,c,d⟩:=st;exact⟨o,e,λv z=>by rw[d] at z;cases z⟩
 keep:=λi h h' st k=>st.at λo e=>k it (by simp) o e
 item:=by
  intro X g hw f hc i aa s σ H E I hf st hg;subst g hw f;obtain⟨xs,x,hq,hx⟩:=hg;obtain⟨its,rv,p,hz⟩:=I.tuple hq;obtain⟨u,hu,N⟩:=rv.get hx;obtain⟨f0,f1,f2,f3,m,l⟩:=hf it (by simp);refine wpAny_pyNext_tuple_item st (show s.heap.IsTuple a its.toArray from p) (x:=u) (by simpa using hu) λh' j sb=>?_
  have I1:C' X aa σ H { s with heap:=h' }:=I.turned (t':=s.toks) (λb o hb e=>(sb.2 b hb).trans e) f0 f1 f3 m l;obtain⟨o,e,c,d⟩:=id j;exact⟨u,rfl,UZ (s:={ s with heap:=h' }) e c d (by decide) ⟨x,H,I1,N,⟨rfl,λys hy=>by rw[I.tuple_inj hy hq];exact hx⟩,j,λb hb=>(hf b hb).1⟩⟩
 done:=by
  intro X g hw f hc i aa s σ H E I hf st hg;subst g hw f;obtain⟨xs,hq,hx⟩:=hg;obtain⟨its,rv,p,hz⟩:=I.tuple hq;obtain⟨f0,f1,f2,f3,m,l⟩:=hf it (by simp);have hl:=rv.length;exact wpAny_pyNext_tuple_end (I.ok.hd hc) st (show s.heap.IsTuple a its.toArray from p) (by simp;lia) λh' F=>⟨rfl,I.turned (t':=s.toks) (λb o hb e=>F b o hb e) f0 f1 f3 m l⟩
 self:=λ_ _ _ _ _ st h=>wpAny_pyIter_tupleiter st h
theorem j3(it:A2)(lo:Int)(n:Nat):OR P w K tg (RK lo n) [it] it (λi h=>IsRangeIter h it (lo+(i:Nat)*1) ((n:Int) - (i:Nat)) 1) where
 mem:=by simp
 obj:=λi h st b hb=>by
  have e:b=it:=by simpa using hb
  subst e;exact⟨_,st,λv z=>by
   have J:Data.fields _=Data.cell v:=z;cases J⟩
 keep:=λi h h' st k=>k it (by simp) _ st
 item:=by
  intro X g hw f hc i aa s σ H E I hf st hg;subst g hw f;obtain⟨f0,f1,f2,f3,m,l⟩:=hf it (by simp);have W:=Walks.range (prog:=X.prog) (w:=X.w) (I.ok.hd hc) it lo 1 n;refine W.item i s _ _ hg st λv h' tk hv j kk=>?_
  obtain⟨t,rfl⟩:=hv;have I1:C' X aa σ H { s with heap:=h',toks:=tk }:=I.turned (λb o hb e=>kk b o (by simpa using hb) e) f0 f1 f3 m l;refine⟨_,rfl,UZ (s:={ s with heap:=h',toks:=tk }) (n:="range_iterator") j rfl rfl (by decide) ⟨.int (lo+i),H,I1,⟨t,?_⟩,⟨rfl,rfl⟩,j,λb hb=>(hf b hb).1⟩⟩;rw[Int.mul_one]
 done:=by
  intro X g hw f hc i aa s σ H E I hf st hg;subst g hw f;obtain⟨f0,f1,f2,f3,m,l⟩:=hf it (by simp);exact wpAny_pyNext_range_end (I.ok.hd hc) st (by have:n<=i:=hg;lia) λh' F=>⟨rfl,I.turned (t':=s.toks) (λb o hb e=>F b o hb e) f0 f1 f3 m l⟩
 self:=λ_ _ _ _ _ st h=>wpAny_pyIter_rangeiter st h
section
variable{X:Cx}
def YC(K:G8)(tl:TE):TI:=λσ H R=>tl σ H λx H1=>∃ a,x=.ref a/\(∃ xs,Dd K H1 a xs)/\R (VV K a) H1
def eP(K:G8)(tl:TE):TI:=λσ H R=>tl σ H λx H1=>∃ a,x=.ref a/\(∃ xs,E3 K H1 a xs)/\R (YQ K a) H1
theorem cv(hl:PE X l tl):NE true X tg l (YC X.K tl):=by
 intro aa s σ H R I h;refine Wo (hl aa s σ H _ I h) λv s1 ⟨x,H1,I1,r1,M⟩=>?_
 obtain⟨a,e,⟨xs,hq⟩,q⟩:=M;subst e;cases r1;obtain⟨its,rv,p,hz⟩:=I1.list hq;refine HR p.isList ?_;refine⟨s1.heap.objs.size,[s1.heap.objs.size],_,_,H1,rfl,I1.kept (t':=s1.toks) λb o e=>AB _ e,et a _,⟨_,AQ _ rfl,rfl,rfl⟩,λb hb=>?_,q⟩;have e:b=s1.heap.objs.size:=by simpa using hb
 subst e;exact I1.fpOk (AT _) (I1.hok.fresh (AT _))
theorem nC(hl:PE X l tl):PI X tg l (YC X.K tl):=(cv hl).weak
theorem qQ(hl:PE X l tl):PI X tg l (eP X.K tl):=by
 intro aa s σ H R I h;refine Wo (hl aa s σ H _ I h) λv s1 ⟨x,H1,I1,r1,M⟩=>?_
 obtain⟨a,e,⟨xs,hq⟩,q⟩:=M;subst e;cases r1;obtain⟨its,rv,p,hz⟩:=I1.tuple hq;refine FZ (show s1.heap.IsTuple a its.toArray from p) ?_;refine⟨s1.heap.objs.size,[s1.heap.objs.size],_,_,H1,rfl,I1.kept (t':=s1.toks) λb o e=>AB _ e,mf a _,⟨_,AQ _ rfl,rfl,rfl⟩,λb hb=>?_,q⟩;have e:b=s1.heap.objs.size:=by simpa using hb
 subst e;exact I1.fpOk (AT _) (I1.hok.fresh (AT _))
theorem eA{R:It->Hp->Prop}{lo hi:Int}{t u v:Tok}{tk:Nat}(I:C' X aa σ H s)(h1 : -(2^62)<=lo)(h2:lo<2^62)(h3 : -(2^62)<=hi)(h4:hi<2^62)
  (q:R (RK lo (hi - lo).toNat) H):wpAny (model X.prog X.w) X.A (pyIter (.ref s.heap.objs.size)) (kq X aa σ tg R) E { s with heap:=s.heap.push { cls:=.type "range",data:=.fields #[.int lo t,.int hi u,.int 1 v] },toks:=tk }:=by
 refine wpAny_pyIter_range (IsRange.new ..) (small_one h1 h2 h3 h4) ?_;have I1:C' X aa σ H { s with heap:=s.heap.push { cls:=.type "range",data:=.fields #[.int lo t,.int hi u,.int 1 v] },toks:=tk }:=I.kept λb o e=>AB _ e
 refine⟨(s.heap.push { cls:=.type "range",data:=.fields #[.int lo t,.int hi u,.int 1 v] }).objs.size,[(s.heap.push { cls:=.type "range",data:=.fields #[.int lo t,.int hi u,.int 1 v] }).objs.size],_,_,H,rfl,
  I1.kept (t':=tk) λb o e=>AB _ e,j3 _ lo (hi - lo).toNat,?_,λb hb=>?_,q⟩
 ·have e1:lo+((0:Nat):Int)*1=lo:=by simp
  have e2:(((hi - lo).toNat:Nat):Int) - ((0:Nat):Int)=Builtin.Range.rangeSize lo hi 1:=by rw[rangeSize_one];split<;>lia
  show IsRangeIter _ _ (lo+((0:Nat):Int)*1) ((((hi - lo).toNat:Nat):Int) - ((0:Nat):Int)) 1;rw[e1,e2];exact AQ _ rfl
 ·have e:b=(s.heap.push { cls:=.type "range",data:=.fields #[.int lo t,.int hi u,.int 1 v] }).objs.size:=by simpa using hb
  subst e;exact I1.fpOk (AT _) (I1.hok.fresh (AT _))
def j1(ta:TA):TI:=λσ H R=>ta σ H λvs H1=>∃ j:Int,vs=[.int j]/\-(2^62)<=j/\j<2^62/\R (RK 0 j.toNat) H1
def gm(ta:TA):TI:=λσ H R=>ta σ H λvs H1=>∃ i j:Int,vs=[.int i,.int j]/\(-(2^62)<=i/\i<2^62/\-(2^62)<=j/\j<2^62)/\R (RK i (j - i).toNat) H1
theorem fh{a:C3}{ta:TA}(hg:Gl X "range")(hm:X.mg "range" = none)(ha:PA X [a] ta)(hs:starEach [a] X.env=[(false,eval a X.env)]:=by rfl):PI X tg (.Call (.Name "range" p) [a] [] pos) (j1 ta):=by
 intro aa s σ H R I h;refine Call_ (Jd I hg hm boot_range (EC (Wo (ha pos aa s σ H _ I h) λus s1 ⟨vs,H1,I1,r1,M⟩=>?_) hs rfl));obtain⟨j,e,M,q2,q⟩:=M;subst e;cases r1 with
 | cons r l =>
  cases l;obtain⟨t,rfl⟩:=r;exact call_range_1 (eA I1 (by lia) (by lia) M q2 (by simpa using q))
theorem mv{a b:C3}{ta:TA}(hg:Gl X "range")(hm:X.mg "range" = none)(ha:PA X [a,b] ta)(hs:starEach [a,b] X.env=[(false,eval a X.env),(false,eval b X.env)]:=by rfl)(u:starEach [b] X.env=[(false,eval b X.env)]:=by rfl) :
  PI X tg (.Call (.Name "range" p) [a,b] [] pos) (gm ta):=by
 intro aa s σ H R I h;refine Call_ (Jd I hg hm boot_range (EC (Wo (ha pos aa s σ H _ I h) λus s1 ⟨vs,H1,I1,r1,M⟩=>?_) (by rw[hs,u]) (by rw[u];rfl)));obtain⟨i,j,e,⟨M,q2,C,m⟩,q⟩:=M;subst e;cases r1 with
 | cons r l =>
  cases l with
  | cons r' l =>
   cases l;obtain⟨t,rfl⟩:=r;obtain⟨t',rfl⟩:=r';exact call_range_2 (eA I1 M q2 C m q)
def gz(wi:TI)(g:TG)(tb:TS):TS:=λD σ H=>wi σ H λJ H1=>∃ W:Nat->Nat->St->Hp->Prop,(∃ m,W 0 m σ H1)/\∀ i m σ H,W i m σ H ->
 (J.stop i H/\D.nx σ H)\/(J.go i H/\∃ N:St->Hp->Prop,(∀ σ' H',N σ' H'->∃ m',m'<m/\W (i+1) m' σ' H')/\∀ x H',J.yld i H x H'->g x σ H' λσ2 H2=>tb { D with nx:=N,ct:=N,bk:=D.nx } σ2 H2)
def X4(fp:Z A2)(h:Ff):Z (A2×Obj):=fp.filterMap λb=>(h.get? b).map λo=>(b,o)
theorem S4{b:A2}{o:Obj}(hb:b∈fp)(e:h.get? b=some o):(b,o)∈X4 fp h:=List.mem_filterMap.mpr ⟨b,hb,by rw[e];rfl⟩
theorem lm{p:A2×Obj}(hp:p∈X4 fp h):p.1∈fp/\h.get? p.1=some p.2:=by
 obtain⟨b,hb,e⟩:=List.mem_filterMap.mp hp;cases q:h.get? b with
 | none=>rw[q] at e;cases e
 | some o =>
  rw[q] at e;have e':(b,o)=p:=BF e;subst e';exact⟨hb,q⟩
theorem C'.pinned(I:C' X aa σ H s)(hf:∀ b∈fp,Dg X aa H b)(ho:∀ b∈fp,∃ o,s.heap.get? b=some o/\∀ v,o.data≠.cell v):C' X (aa++X4 fp s.heap) σ H s :=
 I.pins_of λp hp=>(BV.mp hp).elim (λz=>I.pin p (CB _ z)) λz=>by
  obtain⟨hb,e⟩:=lm z;obtain⟨f0,f1,f2,_⟩:=hf p.1 hb;obtain⟨o,e',d⟩:=ho p.1 hb;rw[e] at e';cases e';exact⟨e,f0,f1,f2,d⟩
theorem C'.unpinned{pl:IA}(I:C' X (aa++pl) σ H s):C' X aa σ H s:=I.pins_of λp hp=>I.pin p (CB _ (CI _ hp))
theorem nX{wi:TI}{g:TG}(hp:PassesOwn (model X.prog X.w) X.A X.env X.xe)(hc:X.calm=true)(hi:PI X tg iter wi)(hg:PG X tg g)(hb:Sv X body tb)
  (hs:∀ x,foldedSetIterable iter X.env x=pure x:=by intro _;rfl):PS X (.For tg iter body [] pos) (gz wi g tb):=by
 intro aa s σ H D I h;refine wpAny_For (Wo (hi aa s σ H _ I h) λv s1 h1=>Wo h1 λk s2 h2=>?_) hs;obtain⟨it,fp,tn,J,H2,e,I2,T,j,f2,W,⟨m0,w0⟩,turn⟩:=h2;subst e
 -- what stays true of y iterator's t through y ah
 have l:∀ {H':Hp},(∀ b∈fp,H' b=none)->∀ b∈fp,Dg X aa H' b:=λhn b hb=>⟨hn b hb,(f2 b hb).2⟩
 refine codeAny_forLoop_any (λn s'=>∃ i σ' H',C' X aa σ' H' s'/\tn i s'.heap/\(∀ b∈fp,H' b=none)/\W i n σ' H') ?_ m0 ⟨0,σ,H2,I2,j,λb hb=>(f2 b hb).1,w0⟩;rintro n G ⟨i,σ3,P,I3,a,c,p⟩;rcases turn i n σ3 P p with⟨stop,qn⟩ | ⟨go,N,hN,step⟩
 ·refine FD hp (Wo (T.done X rfl rfl rfl hc i aa G σ3 P X.xe I3 (l c) a stop) λr s4 ⟨hr,I4⟩=>?_)
  subst hr;exact IK ⟨σ3,P,I4,qn⟩
 ·refine FD hp (Wo (T.item X rfl rfl rfl hc i aa G σ3 P X.xe I3 (l c) a go) λr s4 ⟨u,hr,h4⟩=>?_)
  subst hr;refine FD hp (Wo h4 λ_ s5 ⟨x,H5,I5,r5,y5,ae,aq⟩=>?_);have ar:=I5.pinned (l aq) (T.obj _ _ ae);refine FD hp (Wo (hg _ s5 σ3 H5 x u _ ar r5 (step x H5 y5)) λ_ s6 ⟨σ6,H6,I6,q6⟩=>?_);refine FD hp (Wo (hb _ s6 σ6 H6 _ I6 q6) λf s7 q7=>?_);have again:∀ {σ7:St} {H7:Hp},C' X (aa++X4 fp s5.heap) σ7 H7 s7->N σ7 H7->∃ m,m<n/\∃ i σ' H',C' X aa σ' H' s7/\tn i s7.heap/\(∀ b∈fp,H' b=none)/\W i m σ' H':=λ{σ7 H7} R q=>by
   obtain⟨m',hm,w7⟩:=hN σ7 H7 q;refine⟨m',hm,i+1,σ7,H7,R.unpinned,T.keep _ _ _ ae λb hb o e=>(R.pin (b,o) (CB _ (CB _ (S4 hb e)))).1,λb hb=>?_,w7⟩;obtain⟨o,e,d⟩:=T.obj _ _ ae b hb;exact(R.pin (b,o) (CB _ (CB _ (S4 hb e)))).2.1
  cases f with
  | next=>obtain⟨σ7,H7,R,q⟩:=q7;exact again R q
  | cont=>obtain⟨σ7,H7,R,q⟩:=q7;exact again R q
  | brk=>obtain⟨σ7,H7,R,q7⟩:=q7;exact⟨σ7,H7,R.unpinned,q7⟩
  | ret v=>obtain⟨z,σ7,H7,R,B,q7⟩:=q7;exact⟨z,σ7,H7,R.unpinned,B,q7⟩
end
abbrev R2:=V->V->Hp->VK->Prop
def Sm(X:Cx)(f:A1->A1->Sem A1)(r:R2):Prop :=
 ∀ (aa:IA) (s:A4) (σ:St) (H:Hp) (x y:V) (v u:A1) (Q:VK),C' X aa σ H s->Yi x v->Yi y u->r x y H Q ->
  wpAny (model X.prog X.w) X.A (f v u) (EP X aa σ Q) X.xe s
def NI(X:Cx)(f:A1->Sem A1)(r:V->Hp->VK->Prop):Prop :=
 ∀ (aa:IA) (s:A4) (σ:St) (H:Hp) (x:V) (v:A1) (Q:VK),C' X aa σ H s->Yi x v->r x H Q ->
  wpAny (model X.prog X.w) X.A (f v) (EP X aa σ Q) X.xe s
def V0(X:Cx)(f:A1)(r:Z V->Hp->VK->Prop):Prop :=
 ∀ (aa:IA) (s:A4) (σ:St) (H:Hp) (xs:Z V) (us:Z A1) (Q:VK),C' X aa σ H s->Y0 xs us->r xs H Q ->
  wpAny (model X.prog X.w) X.A (call f us) (EP X aa σ Q) X.xe s
def ky(X:Cx)(r:V->Hp->(Bool->Hp->Prop)->Prop):Prop :=
 ∀ (aa:IA) (s:A4) (σ:St) (H:Hp) (x:V) (v:A1) (Q:Bool->Hp->Prop),C' X aa σ H s->Yi x v->r x H Q ->
  wpAny (model X.prog X.w) X.A (truthy v) (TP X aa σ Q) X.xe s
def QH(r:R2)(ta tb:TE):TE:=λσ H Q=>ta σ H λx H1=>tb σ H1 λy H2=>r x y H2 Q
def jS(r:V->Hp->VK->Prop)(ta:TE):TE:=λσ H Q=>ta σ H λx H1=>r x H1 Q
def rI(C:Int->Int->Prop)(g:Int->Int->V):R2:=λx y H Q=>∃ i j,x=.int i/\y=.int j/\C i j/\Q (g i j) H
def MV(g:Int->Int->V):R2:=λx y H Q=>∃ i j,x=.int i/\y=.int j/\Q (g i j) H
def rU(g:Int->V):V->Hp->VK->Prop:=λx H Q=>∃ i,x=.int i/\Q (g i) H
section
variable{X:Cx}{a b c:C3}{tb tc:TE}
theorem WG(ha:PE X a ta)(hb:PE X b tb){R:V->V->Hp->Prop}(I:C' X aa σ H s)
  (h:ta σ H λx H1=>tb σ H1 λy H2=>R x y H2) {Q:J1} {f:A1->A1->Sem A1}
  (hf:∀ v u s2 x y H2,C' X aa σ H2 s2->Yi x v->Yi y u->R x y H2->wpAny (model X.prog X.w) X.A (f v u) Q X.xe s2) :
  wpAny (model X.prog X.w) X.A (eval a X.env) (λv s₁=>wpAny (model X.prog X.w) X.A (eval b X.env) (λu s₂=>wpAny (model X.prog X.w) X.A (f v u) Q X.xe s₂) X.xe s₁) X.xe s:=by
 refine Wo (ha aa s σ H _ I h) λv s1 ⟨x,H1,I1,r1,M⟩=>?_
 refine Wo (hb aa s1 σ H1 _ I1 M) λu s2 ⟨y,H2,I2,r2,q2⟩=>?_
 exact hf v u s2 x y H2 I2 r1 r2 q2
theorem dg{op:Operator}{r:R2}(ho:Sm X (binaryOp op) r)(ha:PE X a ta)(hb:PE X b tb):PE X (.BinOp a op b pos) (QH r ta tb):=by
 intro aa s σ H Q I h;exact wpAny_BinOp (WG ha hb I h λv u s2 x y H2 I2 S m q=>ho aa s2 σ H2 x y v u Q I2 S m q)
theorem qj{op:UnaryOp}{r:V->Hp->VK->Prop}(ho:NI X (unaryOp op) r)(ha:PE X a ta):PE X (.UnaryOp op a pos) (jS r ta):=by
 intro aa s σ H Q I h;exact UnaryOp_ (Wo (ha aa s σ H _ I h) λv s1 ⟨x,H1,I1,r1,M⟩=>ho aa s1 σ H1 x v Q I1 r1 M)
theorem RM{f:A1->A1->Sem A1}{C:Int->Int->Prop} 
  (rule:∀ (i j:Int) (t u:Tok) (s:A4) (Q:J1) (E:J1),C i j->Q (.int (g i j) s.toks) { s with toks:=s.toks+1 }->wpAny (model X.prog X.w) X.A (f (.int i t) (.int j u)) Q E s) :
  Sm X f (rI C λi j=>.int (g i j)):=by
 intro aa s σ H x y v u Q I S m h;obtain⟨i,j,rfl,rfl,hc,q⟩:=h;obtain⟨t,rfl⟩:=S;obtain⟨t',rfl⟩:=m;exact rule i j t t' s _ _ hc ⟨.int (g i j),H,I.tok _,⟨_,rfl⟩,q⟩
theorem QO{f:A1->A1->Sem A1} 
  (rule:∀ (i j:Int) (t u:Tok) (s:A4) (Q:J1) (E:J1),Q (.int (g i j) s.toks) { s with toks:=s.toks+1 }->wpAny (model X.prog X.w) X.A (f (.int i t) (.int j u)) Q E s) :
  Sm X f (MV λi j=>.int (g i j)):=by
 intro aa s σ H x y v u Q I S m h;obtain⟨i,j,rfl,rfl,q⟩:=h;obtain⟨t,rfl⟩:=S;obtain⟨t',rfl⟩:=m;exact rule i j t t' s _ _ ⟨.int (g i j),H,I.tok _,⟨_,rfl⟩,q⟩
theorem UW{f:A1->A1->Sem A1}{g:Int->Int->Bool}
  (rule:∀ (i j:Int) (t u:Tok) (s:A4) (Q:J1) (E:J1),Q (.bool (g i j)) s->wpAny (model X.prog X.w) X.A (f (.int i t) (.int j u)) Q E s) :
  Sm X f (MV λi j=>.bl (g i j)):=by
 intro aa s σ H x y v u Q I S m h;obtain⟨i,j,rfl,rfl,q⟩:=h;obtain⟨t,rfl⟩:=S;obtain⟨t',rfl⟩:=m;exact rule i j t t' s _ _ ⟨.bl (g i j),H,I,rfl,q⟩
def SI(i j:Int):Prop:=0<j/\j<1073741824
def SS(i j:Int):Prop:=0<=j/\j<=1000000/\i.natAbs<2^64
def PL(i j:Int):Prop:=(-(2^64)<i/\i<2^64)\/(-(2^64)<j/\j<2^64)
theorem PL.ok{i j:Int}(h:PL i j):IntMulOk i j:=by
 rcases h with⟨h1,h2⟩ | ⟨h1,h2⟩
 ·exact .of_left (intBits_le_64 h1 h2)
 ·exact .of_right (intBits_le_64 h1 h2)
theorem pM(k:Nat):(0:Int)<=2^k:=by
 rw[two_pow_cast];exact Int.natCast_nonneg _
theorem jU:Sm X (binaryOp .Add) (MV λi j=>.int (i+j)):=QO λ_ _ _ _ _ _ _ q=>add_int q
theorem jr:Sm X (binaryOp .Sub) (MV λi j=>.int (i - j)):=QO λ_ _ _ _ _ _ _ q=>sub_int q
theorem ph:Sm X (binaryOp .Mult) (rI PL λi j=>.int (i*j)):=RM λ_ _ _ _ _ _ _ hc q=>mul_int q hc.ok
theorem lX:Sm X (binaryOp .FloorDiv) (rI SI λi j=>.int (i / j)):=RM λi j _ _ _ _ _ hc q=>by
 have h1:(0:Int)<j:=hc.1;have h2:j<1073741824:=hc.2;exact floordiv_int (by lia) (by rw[Int.fdiv_eq_ediv_of_nonneg i (by lia)];exact q) (.inl (PyProof.noPylong_small (by lia)))
theorem lb:Sm X (binaryOp .Mod) (rI (λ_ j=>0<j) λi j=>.int (i % j)):=RM λi j _ _ _ _ _ hc q=>by
 have h1:(0:Int)<j:=hc;exact mod_int' (by lia) (by rw[Int.fmod_eq_emod_of_nonneg i (by lia)];exact q)
theorem lA:Sm X (binaryOp .LShift) (rI SS λi j=>.int (i*2^j.toNat)):=RM λ_ _ _ _ _ _ _ hc q=>lshift_int_small hc.1 hc.2.1 hc.2.2 q
theorem mL:Sm X (binaryOp .RShift) (rI (λ_ j=>0<=j) λi j=>.int (i / 2^j.toNat)):=RM λi j _ _ _ _ _ hc q =>
 rshift_int hc (by rw[Int.fdiv_eq_ediv_of_nonneg i (pM _)];exact q)
theorem gE:Sm X (binaryOp .BitAnd) (MV λi j=>.int (Builtin.bitAnd i j)):=QO λ_ _ _ _ _ _ _ q=>and_int q
theorem o7:Sm X (binaryOp .BitOr) (MV λi j=>.int (Builtin.bitOr i j)):=QO λ_ _ _ _ _ _ _ q=>or_int q
theorem o9:Sm X (binaryOp .BitXor) (MV λi j=>.int (Builtin.bitXor i j)):=QO λ_ _ _ _ _ _ _ q=>xor_int q
theorem cf{f:A1->Sem A1}{g:Int->Int}
  (rule:∀ (i:Int) (t:Tok) (s:A4) (Q:J1) (E:J1),Q (.int (g i) s.toks) { s with toks:=s.toks+1 }->wpAny (model X.prog X.w) X.A (f (.int i t)) Q E s) :
  NI X f (rU λi=>.int (g i)):=by
 intro aa s σ H x v Q I S h;obtain⟨i,rfl,q⟩:=h;obtain⟨t,rfl⟩:=S;exact rule i t s _ _ ⟨.int (g i),H,I.tok _,⟨_,rfl⟩,q⟩
theorem pX:NI X (unaryOp .USub) (rU λi=>.int (-i)):=cf λ_ _ _ _ _ q=>neg_int q
theorem iu:NI X (unaryOp .Invert) (rU λi=>.int (Builtin.bitNot i)):=cf λ_ _ _ _ _ q=>invert_int q
theorem YS{k k':Bool}(I:C' X aa σ H s)(q:Q (.bl k) H)(e:k=k'):EP X aa σ Q (.bool k') s:=by
 subst e;exact⟨.bl k,H,I,rfl,q⟩
theorem gM:Sm X (compareOp .Lt) (MV λi j=>.bl (decide (i<j))):=UW λ_ _ _ _ _ _ _ q=>lt_int q
theorem q0:Sm X (compareOp .LtE) (MV λi j=>.bl (decide (i<=j))):=UW λ_ _ _ _ _ _ _ q=>le_int q
theorem pc:Sm X (compareOp .Gt) (MV λi j=>.bl (decide (j<i))):=UW λ_ _ _ _ _ _ _ q=>gt_int q
theorem nu:Sm X (compareOp .GtE) (MV λi j=>.bl (decide (j<=i))):=UW λ_ _ _ _ _ _ _ q=>ge_int q
theorem kr:Sm X (compareOp .In) (λx y H Q=>∃ i j,x=.str i/\y=.str j/\Q (.bl (!(Builtin.Str.occurrences j i 0 j.length 1).isEmpty)) H):=by
 intro aa s σ H x y v u Q I S m h;obtain⟨i,j,rfl,rfl,q⟩:=h;obtain⟨t,rfl⟩:=S;obtain⟨t',rfl⟩:=m;exact in_str (YS I q rfl)
theorem lu:Sm X (compareOp .Is) (λx y H Q=>y=.non/\Q (.bl (decide (x=.non))) H):=by
 intro aa s σ H x y v u Q I S m h;obtain⟨rfl,q⟩:=h;cases m;refine is_none_gen (YS I q ?_);cases x<;>first
   | (cases S;rfl)
   | (obtain⟨t,rfl⟩:=S;rfl)
theorem k9:Sm X (compareOp .IsNot) (λx y H Q=>y=.non/\Q (.bl (!decide (x=.non))) H):=by
 intro aa s σ H x y v u Q I S m h;obtain⟨rfl,q⟩:=h;cases m;refine isnot_none_gen (YS I q ?_);cases x<;>first
   | (cases S;rfl)
   | (obtain⟨t,rfl⟩:=S;rfl)
theorem Y4(b:C3)(h:op≠.In:=by decide)(h2:op≠.NotIn:=by decide):behindInMarks op b=false:=by
 have e1:(op==CmpOp.In)=false:=by cases op<;>first | rfl | exact absurd rfl h
 have e2:(op==CmpOp.NotIn)=false:=by cases op<;>first | rfl | exact absurd rfl h2
 cases b<;>simp[behindInMarks,e1,e2]
theorem lI{r:R2}(ho:Sm X (compareOp op) r)(ha:PE X a ta)(hb:PE X b tb)(hm:behindInMarks op b=false):PE X (.Compare a [op] [b] pos) (QH r ta tb):=by
 intro aa s σ H Q I h;exact wpAny_Compare1 (WG ha hb I h λv u s2 x y H2 I2 S m q=>ho aa s2 σ H2 x y v u Q I2 S m q) hm
def eE(t:TE):TT:=λσ H Q=>t σ H λx H'=>∃ k,x=.bl k/\Q k H'
theorem mM{r:R2}(ho:Sm X (compareOp op) r)(ha:PE X a ta)(hb:PE X b tb)(hm:behindInMarks op b=false):PT X (.Compare a [op] [b] pos) (eE (QH r ta tb)):=by
 intro aa s σ H Q I h;refine wpAny_isTrue_Compare1 (Wo (ha aa s σ H _ I h) λv s1 ⟨x,H1,I1,r1,M⟩=>Wo (hb aa s1 σ H1 _ I1 M) λu s2 ⟨y,H2,I2,r2,q2⟩ =>
  Wo (ho aa s2 σ H2 x y v u _ I2 r1 r2 q2) λc G ⟨z,P,I3,T,k,e,C⟩=>?_) hm
 subst e;cases T;exact DZ ⟨P,I3,C⟩
def q4(r r':R2)(ta tb tc:TE):TE:=λσ H Q=>ta σ H λx H1=>tb σ H1 λy H2=>r x y H2 λz P=>∃ k,z=.bl k /\
 (if k=true then tc σ P λw' H4=>r' y w' H4 Q else Q (.bl false) P)
theorem kU{g:CmpOp}{r r':R2}(ho:Sm X (compareOp op) r)(f:Sm X (compareOp g) r')(ha:PE X a ta)(hb:PE X b tb)(hc:PE X c tc)
  (hm:lastMarks [op,g] [b,c]=false:=by with_unfolding_all rfl):PT X (.Compare a [op,g] [b,c] pos) (eE (q4 r r' ta tb tc)):=by
 intro aa s σ H Q I h;refine isTrue_chain (Wo (ha aa s σ H _ I h) λv s1 ⟨x,H1,I1,r1,M⟩=>test_link (Wo (hb aa s1 σ H1 _ I1 M) λu s2 ⟨y,H2,I2,r2,q2⟩ =>
  Wo (ho aa s2 σ H2 x y v u _ I2 r1 r2 q2) λd G ⟨z,P,I3,T,k,e,C⟩=>?_)) hm
 subst e;cases T;refine DZ ?_;cases k with
 | false =>
  obtain⟨k',e',W⟩:=C;cases e';exact ite_ff ⟨P,I3,W⟩
 | true =>
  refine ite_tt (test_last (Wo (hc aa G σ P _ I3 C) λw' s4 ⟨J,H4,I4,r4,m⟩=>Wo (f aa s4 σ H4 y J u w' _ I4 r2 r4 m) λd' s5 ⟨z2,H5,I5,r5,k2,e2,Y⟩=>?_));subst e2;cases r5;exact DZ ⟨H5,I5,Y⟩
def ZJ(K:G8)(x:V)(H:Hp)(k:Bool):Prop :=
 match x with
 | .non=>k=false
 | .bl b=>k=b
 | .int i=>k=(i != 0)
 | .str y=>y.length<=sizeLine/\k=((y.length:Int) != 0)
 | .byt y=>y.size<=sizeLine/\k=((y.size:Int) != 0)
 | .ref p=>(∃ xs,Dd K H p xs/\k=!xs.isEmpty)\/(∃ xs,E3 K H p xs/\k=!xs.isEmpty)\/∃ kvs,H p=some (.dK kvs)/\k=!kvs.isEmpty
 | _=>False
theorem pA{κ:Type}{kvs:Z (κ×V)}{vs:Z (κ×A1)}(r:KV kvs vs):(!vs.isEmpty)=!kvs.isEmpty:=by
 cases r<;>rfl
theorem Pf(r:Y0 xs its):(!its.toArray.isEmpty)=!xs.isEmpty:=by
 cases r<;>simp
theorem Hm:(sizeLine:Nat)<2^63:=by rw[EF];decide
theorem oP:ky X (λx H Q=>∃ k,ZJ X.K x H k/\Q k H):=by
 intro aa s σ H x v Q I S h;obtain⟨k,e,q⟩:=h;have hl:=Hm;have hs:sizeLine=16777216:=EF;cases x with
 | non =>
  cases S;have e':k=false:=e;subst e';exact truthy_none ⟨H,I,q⟩
 | bl b =>
  cases S;have e':k=b:=e;subst e';exact DZ ⟨H,I,q⟩
 | int i =>
  obtain⟨t,rfl⟩:=S;have e':k=(i != 0):=e;subst e';exact PySem.P.truthy_int ⟨H,I,q⟩
 | str y =>
  obtain⟨t,rfl⟩:=S;obtain⟨hy,e'⟩:y.length<=sizeLine/\k=((y.length:Int) != 0):=e;subst e';exact PySem.P.truthy_str (by lia) ⟨H,I.tok _,q⟩
 | byt y =>
  obtain⟨t,rfl⟩:=S;obtain⟨hy,e'⟩:y.size<=sizeLine/\k=((y.size:Int) != 0):=e;subst e';exact PySem.W.truthy_bytes (by lia) ⟨H,I.tok _,q⟩
 | ref p =>
  cases S;have e':(∃ xs,Dd X.K H p xs/\k=!xs.isEmpty)\/(∃ xs,E3 X.K H p xs/\k=!xs.isEmpty)\/∃ kvs,H p=some (.dK kvs)/\k=!kvs.isEmpty:=e;rcases e' with⟨xs,hx,e'⟩ | ⟨xs,hx,e'⟩ | ⟨kvs,hx,e'⟩
  ·subst e'
   obtain⟨its,r,pl,hz⟩:=I.list hx;have J:=r.length;exact wpAny_truthy_list pl.isList (by simp only[AU];lia) ⟨H,I.tok _,by rw[Pf r];exact q⟩
  ·subst e'
   obtain⟨its,r,pl,hz⟩:=I.tuple hx;have J:=r.length;exact truthy_tuple pl (by simp only[AU];lia) ⟨H,I.tok _,by rw[Pf r];exact q⟩
  ·subst e'
   obtain⟨hz,hS,vs,r,m⟩:kvs.length<=sizeLine/\(p==sysModules)=false/\∃ vs,KV kvs vs/\s.heap.DictOf (Ve X.prog X.w) p vs:=I.hok p _ hx;have J:kvs.length=vs.length:=JJ r;exact wpAny_truthy_dict hS m (by lia) ⟨H,I.tok _,by rw[pA r];exact q⟩
 | _=>exact(show False from e).elim
theorem lr(ha:PE X a ta)(he:∀ c,isTrue a X.env c=(do let v ← c;standAt a.pos;holding [v] (truthy v))) :
  PT X a (λσ H Q=>ta σ H λx H'=>∃ k,ZJ X.K x H' k/\Q k H'):=by
 intro aa s σ H Q I h;exact isTrue_plain (Wo (ha aa s σ H _ I h) λv s1 ⟨x,H1,I1,r1,M⟩=>oP aa s1 σ H1 x v Q I1 r1 M) (he _)
theorem my:Sm X (binaryOp .Add) (λx y H Q=>∃ i j,x=.str i/\y=.str j/\i.length+j.length<=sizeLine/\Q (.str (i++j)) H):=by
 intro aa s σ H x y v u Q I S m h;obtain⟨i,j,rfl,rfl,hz,q⟩:=h;obtain⟨t,rfl⟩:=S;obtain⟨t',rfl⟩:=m;exact add_str (λt' tk=>⟨.str (i++j),H,I.tok _,⟨_,rfl⟩,q⟩) hz
theorem Qf{x:V}(r:Y0 [x] us):∃ u,us=[u]/\Yi x u:=by
 cases r with
 | cons r1 r2=>cases r2;exact⟨_,rfl,r1⟩
theorem Bk{x y:V}(r:Y0 [x,y] us):∃ u w',us=[u,w']/\Yi x u/\Yi y w':=by
 cases r with
 | cons r1 r2 =>
  cases r2 with
  | cons T r4=>cases r4;exact⟨_,_,rfl,r1,T⟩
theorem fo(hc:X.calm=true):V0 X (.builtin "max") (λxs H Q=>∃ i j,xs=[.int i,.int j]/\Q (.int (if j > i then j else i)) H):=by
 intro aa s σ H xs us Q I r h;obtain⟨i,j,rfl,q⟩:=h;obtain⟨u,w',rfl,⟨t,rfl⟩,⟨t',rfl⟩⟩:=Bk r;refine max_two_ints (I.ok.hd hc) λh' tk k=>⟨_,H,I.kept k,?_,q⟩
 by_cases hj:j > i
 ·rw[AF hj,AF hj];exact⟨_,rfl⟩
 ·rw[AL hj,AL hj];exact⟨_,rfl⟩
theorem mF(hc:X.calm=true):V0 X (.builtin "min") (λxs H Q=>∃ i j,xs=[.int i,.int j]/\Q (.int (if j<i then j else i)) H):=by
 intro aa s σ H xs us Q I r h;obtain⟨i,j,rfl,q⟩:=h;obtain⟨u,w',rfl,⟨t,rfl⟩,⟨t',rfl⟩⟩:=Bk r;refine min_two_ints (I.ok.hd hc) λh' tk k=>⟨_,H,I.kept k,?_,q⟩
 by_cases hj:j<i
 ·rw[AF hj,AF hj];exact⟨_,rfl⟩
 ·rw[AL hj,AL hj];exact⟨_,rfl⟩
theorem gy:V0 X (.type "int") (λxs H Q=>(∃ i,xs=[.int i]/\Q (.int i) H)\/∃ k,xs=[.bl k]/\Q (.int (if k then 1 else 0)) H):=by
 intro aa s σ H xs us Q I r h;rcases h with⟨i,rfl,q⟩ | ⟨k,rfl,q⟩
 ·obtain⟨u,rfl,t,rfl⟩:=Qf r
  exact call_int_int ⟨.int i,H,I,⟨_,rfl⟩,q⟩
 ·obtain⟨u,rfl,r1⟩:=Qf r
  cases r1;exact call_int_bool ⟨.int (if k then 1 else 0),H,I.tok _,⟨_,rfl⟩,q⟩
end
structure PB (h:Heap) (x dx C:Addr) (mA:J'):Prop where
 obj:h.get? x=some (instObj C dx)
 ns:h.Ns1 dx mA
 ne:dx≠x
theorem iM(n:h.Ns1 dx mA):∃ od,h.get? dx=some od/\∀ name,lookIn name od=some (mA name):=by
 obtain⟨o,es,ep,ho,hd,Y,_,hm⟩:=n;refine⟨o,ho,λname=>?_⟩;have e:=hm name;unfold nsFind findBy at e;rw[← Array.find?_toList] at e;unfold lookIn;rw[hd];dsimp only;split
 ·rename_i y q
  rw[q] at e;exact DY some e
 ·rename_i q
  rw[q] at e;have a:es.toList.any (·.refKey)=false:=by
   rw[List.any_eq_false];intro y hy;obtain⟨z,t,l⟩:=Y y (Array.mem_toList_iff.mp hy);simp[DictEntry.refKey,l]
  have r:¬ es.toList.any (·.refKey)=true:=by rw[a];exact BY
  rw[AL r];exact DY some e
theorem PB.look{x:A2}(I:PB h x dx C mA):∃ od,PySem.W.InstAt h x (instObj C dx) C (some od)/\∀ name,lookIn name od=some (mA name) :=
 let ⟨od,ho,hl⟩:=iM I.ns
 ⟨od,⟨I.obj,rfl,rfl,ho⟩,hl⟩
section
variable{x f:A2}{v:A1}
end
section
variable{a:A2}{aM:Z (Str×V)}
theorem nh(hok:Ms P w H h)(e:H a=some (.ins C dx fs)):∃ mA,PB h a dx C mA/\(∀ f,O8 (fs.lookup f) (mA f))/\PySem.Within mA (fs.map (·.1))/\fs.length<=1000/\H dx=some (.own a):=by
 obtain⟨d,z,ne,ob,mA,n,r,q⟩:=(show Yl P w H h a (.ins C dx fs) from hok a _ e);exact⟨mA,⟨ob,n,ne⟩,r,q,z,d⟩
end
structure WL (K:G8) (C:Addr):Prop where
 pg:plainGet K C Str.empty=true
 hd:PySem.W.hasDictIn K C=true
 po:PySem.W.plainOver K C=true
 sa:PySem.W.findIn K (.ref C) "__setattr__" = some (some (.builtin "object.__setattr__"))
theorem WL.get(c:WL K C)(f:Str):plainGet K C f=true:=c.pg
section
variable{X:Cx}{a:A2}{f:Str}{v:V}
theorem qN{Q:J1}(hb:attributeBase e f env (eval e env)=eval e env)
  (h:wpAny (model prog w) A (eval e env) (λo s₁=>wpAny (model prog w) A (getAttr o f true) Q E s₁) E s):wpAny (model prog w) A (eval (.Attribute e f pos) env) Q E s :=
 Attribute_any_ h (by rw[arm_eval_Attribute,hb])
end
section
variable{X:Cx}{o:C3}{f:Str}{tv:TE}
end
section
variable{X:Cx}{Q:J1}{c:A1}{b:Bool}
inductive LK (K:G8) (H:Hp):V->Value->Prop where
 | non:LK K H .non (.type "NoneType")
 | bl (x:Bool):LK K H (.bl x) (.type "bool")
 | int (i:Int):LK K H (.int i) (.type "int")
 | str (x:Str):LK K H (.str x) (.type "str")
 | flt (x:UInt64):LK K H (.flt x) (.type "float")
 | lst {a:Addr} {xs:List V} (e:H a=some (.lst xs)):LK K H (.ref a) (.type "list")
 | frz {a:Addr} {o:Obj} {xs:List V} (e:H a=some (.frz o (.lst xs))):LK K H (.ref a) (.type "list")
 | tup {a:Addr} {xs:List V} (e:H a=some (.tup xs)):LK K H (.ref a) (.type "tuple")
 | dK {a:Addr} {kvs:List (Vp×V)} (e:H a=some (.dK kvs)):LK K H (.ref a) (.type "dict")
 | dT {a:Addr} {kvs:List (List Vp×V)} (e:H a=some (.dT kvs)):LK K H (.ref a) (.type "dict")
 | ins {a C dx:Addr} {fs:List (Str×V)} (e:H a=some (.ins C dx fs)) (cl:WL K C) (ha:PySem.W.findIn K (.ref C) "__class__" = some (some (.builtin "object.__class__")))
  (hn:PySem.W.specialIn K (.builtin "object.__class__") "__get__" = some (some (.builtin "getset_descriptor.__get__"))) (al:PySem.W.takesIn K (.builtin "object.__class__")=some true)
  (hm:PySem.W.mroIn K C (.type "object")=some true):LK K H (.ref a) (.ref C)
theorem Eb{x:V}{t:A1}(I:C' X aa σ H s)(S:Yi x u)(ty:LK X.K H x t)(e:PySem.W.kitOne X.K t c=some b)(h:∀ tk,Q (.bool b) { s with toks:=tk }) :
  wpAny (model X.prog X.w) A (call (.builtin "isinstance") [u,c]) Q E s:=by
 cases ty with
 | non=>cases (show u=Value.none from S);exact CS PySem.W.kitx_none I.kIn FL e (λz=>nomatch z) h
 | bl y=>cases (show u=Value.bool y from S);exact CS PySem.W.kitx_bool I.kIn FL e (λz=>nomatch z) h
 | int i=>obtain⟨t,q⟩:=(show ∃ t,u=Value.int i t from S);cases q;exact CS PySem.W.kitx_int I.kIn FL e (λz=>nomatch z) h
 | str y=>obtain⟨t,q⟩:=(show ∃ t,u=Value.str y t from S);cases q;exact CS PySem.W.kitx_str I.kIn FL e (λz=>nomatch z) h
 | flt y=>obtain⟨t,q⟩:=(show ∃ t,u=Value.float y t from S);cases q;exact CS PySem.W.kitx_float I.kIn FL e (λz=>nomatch z) h
 | @lst a xs ea =>
  cases (show u=Value.ref a from S);obtain⟨_,_,n,_,h1⟩:=(show Yl X.prog X.w H s.heap a (.lst xs) from I.hok a _ ea);exact CS LA I.kIn ⟨_,h1,rfl⟩ e (λz=>nomatch z) h
 | @frz a ob xs ea =>
  cases (show u=Value.ref a from S);obtain⟨_,_,_,n,_,h1⟩:=(show Yl X.prog X.w H s.heap a (.frz ob (.lst xs)) from I.hok a _ ea);exact CS LA I.kIn ⟨_,h1,rfl⟩ e (λz=>nomatch z) h
 | @tup a xs ea =>
  cases (show u=Value.ref a from S);obtain⟨_,_,_,p⟩:=(show Yl X.prog X.w H s.heap a (.tup xs) from I.hok a _ ea);obtain⟨o,h1,h2,_⟩:=p;exact CS kitx_tuple I.kIn ⟨o,h1,h2⟩ e (λz=>nomatch z) h
 | @dK a kvs ea =>
  cases (show u=Value.ref a from S);obtain⟨_,_,vs,_,p⟩:=(show Yl X.prog X.w H s.heap a (.dK kvs) from I.hok a _ ea);obtain⟨o,es,ep,h1,h2,_⟩:=p;exact CS kitx_dict I.kIn ⟨o,h1,h2.1⟩ e (λz=>nomatch z) h
 | @dT a kvs ea =>
  cases (show u=Value.ref a from S);obtain⟨_,_,xs,_,o,es,ep,h1,h2,_⟩:=(show Yl X.prog X.w H s.heap a (.dT kvs) from I.hok a _ ea);exact CS kitx_dict I.kIn ⟨o,h1,h2.1⟩ e (λz=>nomatch z) h
 | @ins a C dx fs ea cl ha hn al hm =>
  cases (show u=Value.ref a from S);obtain⟨mA,f,_⟩:=nh I.hok ea;obtain⟨od,J,_⟩:=f.look;exact CS (PySem.W.kitx_own (cl.get _) cl.hd ha hn al hm) I.kIn J e (λz=>nomatch z) h
end
variable{E:XK}
structure G2 (k:Nat) (A:Around):Prop where
 hd:A.handled=none
 dp:A.depth+3*k+5<recursionLimit
 un:A.units+16*k+200<cLine
 gd:A.guards=some []
theorem G2.mono{k:Nat}(r:G2 k A)(h:j<=k:=by lia):G2 j A:=⟨r.hd,by have:=r.dp;lia,by have:=r.un;lia,r.gd⟩
theorem G2.deeper{k:Nat}(r:G2 (k+1) A)(env:Gf):G2 k (A.deeper env) :=
 ⟨r.hd,by have:=r.dp;show A.depth+1+3*k+5<_;lia,by have:=r.un;show A.units+3+16*k+200<_;lia,r.gd⟩
theorem Pw:(A.under (.builtin "type.__call__" ⟨.ref C::us,kw⟩)).depth=A.depth+1:=by
 first | rfl | simp[Around.under,Code.weight,Code.isCreation,Code.isGuard,Code.isCaller,Code.frames,Code.isFrame,guardIds]
theorem F6:(A.under (.builtin "type.__call__" ⟨.ref C::us,kw⟩)).units=A.units+1:=by
 first | rfl | simp[Around.under,Code.cUnits,Code.frames,Code.isFrame]
theorem G2.make{k:Nat}(r:G2 (k+1) A)(C:A2)(us:Z A1)(kw:Z (Str×A1)):G2 k (A.under (.builtin "type.__call__" ⟨.ref C::us,kw⟩)) :=
 ⟨r.hd,by have:=r.dp;rw[Pw];lia,by have:=r.un;rw[F6];lia,r.gd⟩
theorem G2.depth{k:Nat}(r:G2 k A):A.depth<recursionLimit:=by have:=r.dp;lia
theorem G2.units{k:Nat}(r:G2 k A):A.units+64<cLine:=by have:=r.un;lia
def NT:TA:=λ_ H Q=>Q [] H
def R8(ta:TE)(tr:TA):TA:=λσ H Q=>ta σ H λx H1=>tr σ H1 λxs H2=>Q (x::xs) H2
section
variable{X:Cx}{t:TA}
theorem Vb:PA X [] NT:=λ_ _ _ _ H Q I h=>JK ⟨[],H,I,.nil,h⟩
theorem Yk(ha:PE X e te)(hr:PA X es t)(hs:Z0 X.env e es:=by rfl):PA X (e::es) (R8 te t):=by
 intro pos aa s σ H Q I h;rw[hs];show wpAny _ _ (spliced ((false,eval e X.env)::backTo pos (starEach es X.env))) _ _ s;refine JB (Wo (ha aa s σ H _ I h) λu s1 ⟨x,H1,I1,r1,M⟩=>?_);exact Wo (hr pos aa s1 σ H1 _ I1 M) λus s2 ⟨xs,H2,I2,r2,q2⟩=>⟨x::xs,H2,I2,.cons r1 r2,q2⟩
def lE(t:TA):TE:=λσ H Q=>t σ H λxs H1=>xs.length<=sizeLine/\∀ p,H1 p=none->Q (.ref p) (Yr H1 p (.tup xs))
def jN(t:TA):TE:=λσ H Q=>t σ H λxs H1=>xs.length<=sizeLine/\∀ p,H1 p=none->Q (.ref p) (Yr H1 p (.lst xs))
theorem qm{x1}(h:PA X es t):PE X (.Tuple es x1 pos) (lE t):=by
 intro aa s σ H Q I hq;refine wpAny_Tuple_spliced (Wo (h pos aa s σ H _ I hq) λus s1 ⟨xs,H1,I1,r,z,q⟩=>⟨by rw[← r.length];exact z,?_⟩);have hf:H1 s1.heap.objs.size=none:=I1.hok.fresh (AT _);refine⟨.ref s1.heap.objs.size,Yr H1 s1.heap.objs.size (.tup xs),I1.laid (t':=s1.toks) (λb u e=>AB _ e) (AT _) ?_,rfl,q _ hf⟩;exact⟨z,us,r,⟨_,AQ _ rfl,rfl,_,rfl⟩⟩
theorem bn(h:PA X es t):PE X (.List es pos) (jN t):=by
 intro aa s σ H Q I hq;refine wpAny_List_spliced (Wo (h pos aa s σ H _ I hq) λus s1 ⟨xs,H1,I1,r,z,q⟩=>⟨by rw[← r.length];exact z,?_⟩);have hf:H1 s1.heap.objs.size=none:=I1.hok.fresh (AT _);refine⟨.ref s1.heap.objs.size,Yr H1 s1.heap.objs.size (.lst xs),I1.laid (t':=s1.toks) (λb u e=>AB _ e) (AT _) ?_,rfl,q _ hf⟩;exact⟨z,us,0,r,AQ _ rfl⟩
end
abbrev Sp:=Z V->Hp->VK->XK->Prop
abbrev A3:=Z Gf->Hp->A4->XK->A1->A4->Prop
structure LW (P:Program) (w:World) (K:G8) (mg:J') (base:Heap) (A:Around) (outer:List Env) (s:Shared) (H:Hp):Prop where
 frames:A.frames=some outer
 mod:Mod K mg base
 bs:∀ b o,base.get? b=some o->s.heap.get? b=some o/\H b=none
 bsz:base.objs.size<=s.heap.objs.size
 funs:s.heap.FunFrames base outer
 frf:∀ b∈Eu outer,H b=none
 hok:Ms P w H s.heap
 bare:AllBare s.gens
def CE(outer:Z Gf)(P:Df)(w:D1)(H:Hp)(s:A4)(Q:VK)(u:A1)(s':A4):Prop :=
 ∃ v H',s'.os=s.os/\AllBare s'.gens/\Un (Eu outer) [] H H' s.heap s'.heap/\Ms P w H' s'.heap/\Yi v u/\Q v H'
def CR(CX:A3)(outer:Z Gf)(P:Df)(w:D1)(H:Hp)(s:A4)(Q:VK)(E:XK)(r:Result)(s':A4):Prop :=
 match r with
 | .ok (.ret u)=>CE outer P w H s Q u s'
 | .ok _=>False
 | .error e=>CX outer H s E e s'
structure J3 (P:Program) (w:World) (K:G8) (mg:J') (base:Heap) (CX:A3) (k:Nat) (f:Addr) (fd:FuncData) (ps:List Str) (sp:Sp):Prop where
 len:∀ vs H Q E,sp vs H Q E->vs.length=ps.length
 run:∀ (A:Around) (outer:List Env) (s:Shared) (H:Hp) (args:Args) (us:List Value) (vs:List V) (Q:VK) (E:XK),G2 k A->LW P w K mg base A outer s H->BindsTo s fd args (ps.zip us)->Y0 vs us->sp vs H Q E ->
  codeAny (model P w) A (.call (.ref f) args) (CR CX outer P w H s Q E) s
theorem LW.make(e:LW P w K mg base A outer s H)(C:A2)(us:Z A1)(kw:Z (Str×A1)) :
 LW P w K mg base (A.under (.builtin "type.__call__" ⟨.ref C::us,kw⟩)) outer s H:=⟨by first | exact e.frames | (simpa[Around.under,Code.envs,Code.isFrame,pushEnvs] using e.frames),e.mod,e.bs,e.bsz,e.funs,e.frf,e.hok,e.bare⟩
section
variable{X:Cx}
theorem C'.env0(I:C' X aa σ H s):LW X.prog X.w X.K X.mg X.base X.A X.stack s H :=
 ⟨I.ok.frames,I.ok.mod,I.bs,BC I.ok.bsz I.sz,I.stack,I.stkFree,I.hok,I.bare⟩
theorem C'.after(I:C' X aa σ H s)(h:CE X.stack X.prog X.w H s Q u s'):EP X aa σ Q u s':=by
 obtain⟨v,H',os,bare,un,hok,r,q⟩:=h;obtain⟨hh,g,d,t,a⟩:=s';obtain rfl:a=s.os:=os;exact⟨v,H',I.call (h':=hh) (g':=g) (d':=d) (t':=t) (ch:=[]) un hok bare (λb z=>absurd z (by simp)),r,q⟩
end
variable{CX:A3}{sp:Sp}
def UF(sp:Sp)(dvs:Z V)(E:XK)(t:TA):TE:=λσ H Q=>t σ H λvs H1=>sp (vs++dvs) H1 Q E
def M5(K:G8)(fd:C5)(ps:Z Str)(ds:Z A1):Prop :=
 ∀ (s:A4) (us:Z A1),K.In s.heap->(us++ds).length=ps.length->BindsTo s fd ⟨us,[]⟩ (ps.zip (us++ds))
theorem M5.all(h:∀ us:Z A1,us.length=ps.length->bindArgs fd ⟨us,[]⟩=pure (ps.zip us)):M5 K fd ps []:=λs us _ hl=>by
 rw[GM] at hl ⊢;exact .of_eq (h us hl)
def Xc(CX:A3)(X:Cx)(E:XK):Prop:=∀ (aa:IA) (σ:St) (H:Hp) (s:A4) (e:A1) (s':A4),C' X aa σ H s->CX X.stack H s E e s'->X.xe e s'
section
variable{X:Cx}{k:Nat}{f:A2}{dvs:Z V}{x:Str}{o:C3}{t:TA}
theorem fB(F:J3 X.prog X.w X.K X.mg X.base CX k f fd ps sp)(hr:G2 k X.A)(hb:M5 X.K fd ps ds)(hd:Y0 dvs ds)(hx:Xc CX X E)
  (I:C' X aa σ H s) (r:Y0 vs us) (h:sp (vs++dvs) H Q E):wpAny (model X.prog X.w) X.A (call (.ref f) us) (EP X aa σ Q) X.xe s:=by
 have r2:Y0 (vs++dvs) (us++ds):=r.append hd;have hl:(us++ds).length=ps.length:=by rw[← r2.length];exact F.len _ _ _ _ h
 refine FK (EG (F.run X.A X.stack s H ⟨us,[]⟩ (us++ds) (vs++dvs) Q E hr I.env0 (hb s us I.kIn hl) r2 h) λr s' hq=>?_);cases r with
 | error e=>exact hx aa σ H s e s' I hq
 | ok fl =>
  cases fl with
  | ret u=>exact I.after hq
  | next=>exact False.elim hq
  | brk=>exact False.elim hq
  | cont=>exact False.elim hq
theorem qV(F:J3 X.prog X.w X.K X.mg X.base CX k f fd ps sp)(hr:G2 k X.A)(hg:Gl X x)(hm:X.mg x=some (.ref f))(Y:PySem.W.keepIn X.K (.ref f)=true)(hb:M5 X.K fd ps ds)(hd:Y0 dvs ds)(hx:Xc CX X E)
  (ha:PA X (e::es) t) (P:C2 x:=by decide) (he:Z0 X.env e es:=by rfl) (ac:Z1 pos X.env es:=by rfl) :
  PE X (.Call (.Name x p) (e::es) [] pos) (UF sp dvs E t):=by
 intro aa s σ H Q I h;refine CN (V8 I hg hm ?_ P);refine GA (h₀:=X.base) I.ok.mod.kin Y (Wo (ha pos aa s σ H _ I h) λus s1 ⟨vs,H1,I1,r,q⟩=>⟨I1.kIn,?_⟩) he ac;exact fB F hr hb hd hx I1 r q
end
section
variable{X:Cx}{k:Nat}{f:A2}{x:Str}{o:C3}{aU:Z Keyword}{t tk:TA}
variable{g:Z A1->Z A1->Z A1}{gV:Z V->Z V->Z V}
end
structure FnScope (N P:List Str) (sc:Scope):Prop where
 kind:sc.kind=.function
 co:sc.isCoroutine=false
 gen:sc.isGenerator=false
 nd:N.Nodup
 pre:N.take P.length=P
 par:∀ x∈P,sc.names.lookup x=some .local\/sc.names.lookup x=some .cell
 nofree:∀ y∈sc.names,y.2≠.free
theorem Ay{kindOf:Str->C1 NameKind}{x:Str}:∀ {binds:Z (Str×A1)} {m:J'},(∀ v,(x,v)∉binds)->bindL kindOf binds m x=m x
 | [],_,_=>rfl
 | (n,v)::r,m,h=>by
   unfold bindL;rw[Ay λw hw=>h w (AV _ hw)];split
   · have:x≠n:=by rintro rfl;exact h v AW
     simp[this]
   · rfl
theorem Ae{kindOf:Str->C1 NameKind}{x:Str}:∀ {binds:Z (Str×A1)} {m:J'},(∀ v,(x,v)∉binds)->bindC kindOf binds m x=m x
 | [],_,_=>rfl
 | (n,v)::r,m,h=>by
   unfold bindC;rw[Ae λw hw=>h w (AV _ hw)];split
   · rfl
   · have:x≠n:=by rintro rfl;exact h v AW
     simp[this]
theorem L5{kindOf:Str->C1 NameKind}{x:Str}{v:A1}:∀ {P:Z Str} {vs:Z A1} {i:Nat} {m:J'},P.Nodup->P[i]?=some x->vs[i]?=some v->kindOf x=some .local ->
  bindL kindOf (P.zip vs) m x=some v
 | [],_,_,_,_,h,_,_=>by simp at h
 | _::_,[],_,_,_,_,h,_=>by simp at h
 | p::P,w::vs,0,m,nd,h1,h2,Y=>by
  simp at h1 h2;subst h1;subst h2;show bindL kindOf ((p,w)::P.zip vs) m p=_;unfold bindL;rw[Ay λv hv=>(DB.mp nd).1 (JR hv).1,AF Y];simp
 | p::P,w::vs,i+1,m,nd,h1,h2,Y=>by
  show bindL kindOf ((p,w)::P.zip vs) m x=_;unfold bindL;exact L5 (i:=i) (DB.mp nd).2 (by simpa using h1) (by simpa using h2) Y
theorem N7{kindOf:Str->C1 NameKind}{x:Str}{v:A1}:∀ {P:Z Str} {vs:Z A1} {i:Nat} {m:J'},P.Nodup->P[i]?=some x->vs[i]?=some v->kindOf x≠some .local ->
  bindC kindOf (P.zip vs) m x=some v
 | [],_,_,_,_,h,_,_=>by simp at h
 | _::_,[],_,_,_,_,h,_=>by simp at h
 | p::P,w::vs,0,m,nd,h1,h2,Y=>by
  simp at h1 h2;subst h1;subst h2;show bindC kindOf ((p,w)::P.zip vs) m p=_;unfold bindC;rw[Ae λv hv=>(DB.mp nd).1 (JR hv).1,AL Y];simp
 | p::P,w::vs,i+1,m,nd,h1,h2,Y=>by
  show bindC kindOf ((p,w)::P.zip vs) m x=_;unfold bindC;exact N7 (i:=i) (DB.mp nd).2 (by simpa using h1) (by simpa using h2) Y
def G'(N:Z Str)(vs:Z V):St:=vs.map some++List.replicate (N.length - vs.length) none
def T6(CX:A3)(P:Df)(w:D1)(K:G8)(mg:J')(base:Ff)(N:Z Str)(ai:Str)(scope:Fn)(f:A2)(cd:A1)(A:C0)(outer:Z Gf)(s:A4)(H:Hp)(E:XK):Cx where
 prog:=P
 w:=w
 K:=K
 mg:=mg
 base:=base
 A:=A.deeper (envOfC ai scope s.heap.objs.size f cd)
 N:=N
 s₀:=s
 H₀:=H
 env:=envOfC ai scope s.heap.objs.size f cd
 outer:=outer
 stack:=envOfC ai scope s.heap.objs.size f cd::outer
 ex:=[]
 calm:=true
 fn:=λ_=>true
 pn:=[]
 xe:=λe s'=>wpAny (model P w) (A.deeper (envOfC ai scope s.heap.objs.size f cd)) (leaving (envOfC ai scope s.heap.objs.size f cd) e) (λ_ c=>CX outer H s E e c) (λe' c=>CX outer H s E e' c) s'
theorem Ko{n:Nat}{x:Str}(h:sc.names.lookup x=some .cell):∃ c,(cellsFrom n sc.names []).lookup x=some c:=by
 have q:=IU sc.names n [] (.inl h);exact FQ.mp q
theorem gL{N:Z Str}{f:A2} 
  (S:FnScope N ps scope) (hd:A.handled=none) (C:LW P w K mg base A outer s H) (hl:vs.length=ps.length) (r:Y0 vs us)
  (x:InCallC s s.heap.objs.size (bindL (envOfC ai scope s.heap.objs.size f cd).kindOf (ps.zip us) λ_=>none) (cellsFrom (s.heap.objs.size+1) scope.names []) (bindC (envOfC ai scope s.heap.objs.size f cd).kindOf (ps.zip us) λ_=>none) s1) :
  C' (T6 CX P w K mg base N ai scope f cd A outer s H E) [] (G' N vs) H s1:=by
 have ac:ps.length<=N.length:=by have:=DY List.length S.pre;rw[CM] at this;lia
 obtain⟨h1,tk,rfl,Y⟩:=x.done;have g:∀ b:A2,b∉(T6 CX P w K mg base N ai scope f cd A outer s H E).ex:=λb z=>absurd (show b∈([]:Z A2) from z) (by simp)
 refine⟨⟨C.mod,S.kind,rfl,rfl,AT _,λy z c h1 h2=>?_,λy hy=>?_,λy c _ h=>?_,λ_=>hd,Around.frames_deeper C.frames,.inr ⟨rfl,rfl⟩,λb z=>absurd z (g b),C.bs,C.bsz,λb _ _=>g b,λb z=>absurd z (g b),C.funs,C.frf⟩,
  rfl,C.bare,Un.kept Y,⟨_,x.toInCall.ns,λi y v h1 h2 h3=>?_⟩,λy c h=>⟨_,x.cell y c h⟩,C.hok.fresh (AT _),λy c h=>?_,λp hp=>absurd (show p∈([]:IA) from hp) (by simp),C.hok.kept Y,?_⟩
 ·exact name_of_addr x.apart (BU h1) (BU h2)
 ·have hy:scope.names.lookup y=some .cell\/scope.names.lookup y=some .free:=hy
  rcases hy with hy | hy
  ·exact Ko hy
  ·exact absurd rfl (S.nofree _ (BU hy))
 ·exact DX (x.above y c (BU h))
 ·have hi:i<vs.length:=by
   unfold G' at h2;by_cases hi:i<vs.length
   ·exact hi
   ·rw[DC (by simpa using hi)] at h2
    rw[FS] at h2;split at h2<;>cases h2
  have ha:vs[i]?=some v:=by
   unfold G' at h2;rw[BW (by simpa using hi),AM] at h2;cases e:vs[i]? with
   | none=>rw[e] at h2;cases h2
   | some a=>rw[e] at h2;cases h2;rfl
  obtain⟨u,hu,rv⟩:=r.get ha;have hp:ps[i]?=some y:=by
   rw[← S.pre,List.getElem?_take_of_lt (by lia)];exact h1
  have d:ps.Nodup:=by rw[← S.pre];exact S.nd.sublist (JL _ _)
  refine⟨u,rv,?_⟩;rcases S.par y (AI hp) with k | k
  ·exact .inl ⟨k,L5 d hp hu k⟩
  ·obtain⟨c,e⟩:=Ko (n:=s.heap.objs.size+1) k
   refine .inr ⟨.inl k,c,e,?_⟩;have q:=x.cell y c e;rw[N7 d hp hu (by show scope.names.lookup y≠_;rw[k];decide)] at q;exact q
 ·exact C.hok.fresh (DX (x.above y c (BU h)))
 ·unfold G'
  show _=N.length;rw[AX,AD,EW];lia
theorem YZ{k:Nat}{f:A2}{params:Arguments}{U kV:A1} 
  {m:Array (C1 A1)} {N ps:Z Str} {sp:Sp} (lk:K.lookup f=some ⟨oc,od,.func (PySem.W.fnOf name ai params body scope U kV au pm an aj ct),m⟩) (af:PySem.W.codeIn K aj ai=true) (S:FnScope N ps scope)
  (len:∀ vs H Q E,sp vs H Q E->vs.length=ps.length)
  (a:∀ (A:C0) (outer:Z Gf) (s:A4) (H:Hp) (vs:Z V) (Q:VK) (E:XK),G2 k (A.deeper (envOfC ai scope s.heap.objs.size f aj))->sp vs H Q E ->
   ∃ t,Sv (T6 CX P w K mg base N ai scope f aj A outer s H E) body t/\t { nx:=λ_ H'=>Q .non H',rt:=Q } (G' N vs) H) :
  J3 P w K mg base CX (k+1) f (PySem.W.fnOf name ai params body scope U kV au pm an aj ct) ps sp:=by
 refine⟨len,λA outer s H args us vs Q E hr C hb r j=>?_⟩;have hl:=len _ _ _ _ j;have R:K.In s.heap:=C.mod.kin.keeps λb o e=>(C.bs b o e).1
 have d:s.heap.NoLimit:=C.mod.nolimit.keeps λb o e=>(C.bs b o e).1
 have c:∀ y∈ps.zip us,scope.names.lookup y.1=some .local\/(scope.names.lookup y.1=some .cell/\((cellsFrom (s.heap.objs.size+1) scope.names []).lookup y.1).isSome=true):=λ⟨n,v⟩ hy=>by
  rcases S.par n (JR hy).1 with q | q
  ·exact .inl q
  ·exact .inr ⟨q,IU _ _ _ (.inl q)⟩
 refine codeAny_call_function hr.depth (R _ _ lk) rfl S.co S.gen rfl (codeRec_of R af) (hb _ _ _ _ ?_);refine wpAny_newFunctionEnv_cells S.kind c λenv he s1 x=>?_
 subst he;refine⟨d.keeps x.toInCall.keep,codeAny_func ?_⟩;obtain⟨t,ht,hq⟩:=a A outer s H vs Q E (hr.deeper _) j;have I:C' (T6 CX P w K mg base N ai scope f aj A outer s H E) [] (G' N vs) H s1:=gL S hr.hd C hl r x;refine BO (ht [] s1 (G' N vs) H _ I hq) (λfl s' hs=>?_) λe s' hs=>hs
 have fin:∀ {σ':St} {H':Hp} {v:V} {u:A1},C' (T6 CX P w K mg base N ai scope f aj A outer s H E) [] σ' H' s'->Yi v u->Q v H'->CE outer P w H s Q u s' :=
  λ{σ' H' v u} J rv q=>⟨v,H',J.os,J.bare,J.base,J.hok,rv,q⟩
 cases fl with
 | ret u =>
  obtain⟨v,σ',H',J,rv,q⟩:=hs;exact fin J rv q
 | next =>
  obtain⟨σ',H',J,q⟩:=hs;exact fin (v:=V.non) (u:=Value.none) J rfl q
 | brk =>
  obtain⟨_,_,_,q⟩:=hs;exact False.elim q
 | cont =>
  obtain⟨_,_,_,q⟩:=hs;exact False.elim q
section
variable{X:Cx}{x:Str}{t:TA}{id:String}{r:Z V->Hp->VK->Prop}
def PQ(r:Z V->Hp->VK->Prop)(t:TA):TE:=λσ H Q=>t σ H λvs H1=>r vs H1 Q
theorem Da(hc:V0 X (.builtin id) r)(hg:Gl X x)(hm:X.mg x=none)(hv:bootBuiltins x=some (.builtin id))(ha:PA X (e::es) t)(hn:x≠"__name__" := by decide)(P:C2 x:=by decide)
  (he:Z0 X.env e es:=by rfl) (ac:Z1 pos X.env es:=by rfl):PE X (.Call (.Name x p) (e::es) [] pos) (PQ r t):=by
 intro aa s σ H Q I h;refine CN (Jd I hg hm hv ?_ hn P);exact PyProof.Rows.callWith_builtin1 (Wo (ha pos aa s σ H _ I h) λus s1 ⟨vs,H1,I1,r1,M⟩=>hc aa s1 σ H1 vs us Q I1 r1 M) he ac
theorem Ti(hc:V0 X (.type T) r)(hg:Gl X x)(hm:X.mg x=none)(hv:bootBuiltins x=some (.type T))(ha:PA X (e::es) t)(hn:x≠"__name__" := by decide)(P:C2 x:=by decide)
  (he:Z0 X.env e es:=by rfl) (ac:Z1 pos X.env es:=by rfl):PE X (.Call (.Name x p) (e::es) [] pos) (PQ r t):=by
 intro aa s σ H Q I h;refine CN (Jd I hg hm hv ?_ hn P);exact EC (Wo (ha pos aa s σ H _ I h) λus s1 ⟨vs,H1,I1,r1,M⟩=>hc aa s1 σ H1 vs us Q I1 r1 M) he ac
end
end L2
variable{vs ys dvs:Z L2.V}{te tl ta tb tv td ty:L2.TE}{r:L2.V->C1 Int->C1 Int->L2.Hp->L2.VK->Prop}{r':Z L2.V->L2.Hp->L2.VK->Prop}{xs:Z (Z L2.Vp×PySem.Addr×PySem.Value)}{σ:L2.St}{H H':L2.Hp}{CX:L2.A3}{sp:L2.Sp}{ap:PySem.Scope}{fs:Z (C1 Nat)}{tc tt:L2.TT}{m bb:Bool}{y:L2.V}{kvs:Z (Z L2.Vp×L2.V)}{al:PySem.Pos}{az:PySem.Expr}{ay:Z PySem.Expr}{wi:L2.TI}{dct:C1 PySem.Addr}
namespace HT
open PySem PyProof.Rows
def lexLt:Z Int->Z Int->Bool
 | [],[]=>false
 | [],_::_=>true
 | _::_,[]=>false
 | x::xs,y::ys=>if x=y then lexLt xs ys else decide (x<y)
theorem la(x y:Int)(xs ys:Z Int):lexLt (x::xs) (y::ys)=if x=y then lexLt xs ys else decide (x<y):=rfl
theorem Ad:lexLt [] []=false:=rfl
theorem Fm(y:Int)(ys:Z Int):lexLt [] (y::ys)=true:=rfl
theorem Fa(x:Int)(xs:Z Int):lexLt (x::xs) []=false:=rfl
theorem hH(A:C0)(s:A4)(a:Int)(t:Tok)(c:Int)(u:Tok):∃ e,SeqAt.EqAt A s (.int a t) (.int c u) e/\(e=true↔a=c) :=
 ⟨(a==c),SeqAt.EqAt.int_int a t c u,by simp⟩
theorem pI(A:C0)(s:A4)(a:Int)(t:Tok)(c:Int)(u:Tok)(prog:Df)(w:D1)(E:J1)(Q:J1)(h:Q (.bool (decide (a<c))) s) :
  wpAny (model prog w) A (richCompare .Lt (.int a t) (.int c u)) Q E s :=
 (PyProof.Rows.lt_int h:wpAny (model prog w) A (compareOp .Lt (.int a t) (.int c u)) Q E s)
section
open PySem.SeqAt

open PySem.MeetsSeq PySem.MeetsSeq2 PySem.MeetsSeq3
theorem Fy(l b:A2)(ac f:Array A1)(n n2:Nat)(dd j:C1 A2)(sl k:Array (C1 A1))(ns B:Z Int)(hi:IntsAre ac.toList ns)(hj:IntsAre f.toList B) :
  Meets (Builtin.«tuple.__lt__» ⟨[.ref l,.ref b],[]⟩)
   (λ_ R s=>s.heap.get? l=some { cls:=.type "tuple",dict:=dd,data:=.seq ac n,slots:=sl }/\s.heap.get? b=some { cls:=.type "tuple",dict:=j,data:=.seq f n2,slots:=k } /\
    R (.ok (.ret (.bool (lexLt ns B)))) s) :=
 .of_wp λprog w A R s h=>by
  obtain⟨hp,g,d,tk,os⟩:=s;obtain⟨hl,hb,h⟩:=h;have f2:=AutoSeq1.sub_tuple_tuple;have z1:ac.size=ns.length:=by rw[← hi.length];simp
  have z2:f.size=B.length:=by rw[← hj.length];simp
  wp_walk using ED hl,ED hb,wpAny_forIn_list _ (λak b s'=>b.1=none/\s'=⟨hp,g,d,tk,os⟩/\∃ (vs ws:Z A1) (i o:Z Int),ak=vs.zip ws /\
   IntsAre vs i/\IntsAre ws o/\i.length+f.size=o.length+ac.size/\R (.ok (.ret (.bool (lexLt i o)))) ⟨hp,g,d,tk,os⟩) _
  case turn =>
   rintro⟨y,x⟩ ak b s' ⟨m,rfl,vs,ws,i,o,hz,r,S,J,hR⟩;cases r with
   | nil=>rw[List.zip_nil_left] at hz;cases hz
   | cons a t v =>
    cases S with
    | nil=>rw[List.zip_nil_right] at hz;cases hz
    | cons c u z =>
     rw[List.zip_cons_cons] at hz;injection hz with C hrest
     injection C with hy hx
     subst hy hx;rw[la] at hR;simp only[BH] at J;obtain⟨e,he,p⟩:=hH A.in1 ⟨hp,g,d,tk,os⟩ a t c u;refine AA (he prog w _ _ ?_);cases e with
     | true =>
      rw[AF (p.mp rfl)] at hR
      wp_walk
      exact⟨rfl,rfl,_,_,_,_,hrest,v,z,by lia,hR⟩
     | false =>
      rw[AL (λq=>absurd (p.mpr q) BY)] at hR;have D:=pI A.in1 ⟨hp,g,d,tk,os⟩ a t c u prog w
      wp_walk using D
      exact⟨_,rfl,by simpa using hR⟩
  case fin =>
   rintro⟨b1,b2⟩ s' ⟨m,rfl,vs,ws,i,o,hz,r,S,J,hR⟩;simp only at m;subst m;have hv:lexLt i o=decide (ac.size<f.size):=by
    cases r with
    | nil =>
     cases S with
     | nil =>
      simp only[HJ] at J;rw[Ad];exact(AH (by lia)).symm
     | cons c u hw =>
      simp only[HJ,BH] at J;rw[Fm];exact(AK (by lia)).symm
    | cons a t hv =>
     cases S with
     | nil =>
      simp only[HJ,BH] at J;rw[Fa];exact(AH (by lia)).symm
     | cons c u hw =>
      rw[List.zip_cons_cons] at hz;cases hz
   rw[hv] at hR
   wp_walk
   exact⟨_,rfl,by simpa[Builtin.Tuple.tupleCompareSizes] using hR⟩
  case h =>
   exact⟨rfl,rfl,ac.toList,f.toList,ns,B,rfl,hi,hj,by lia,h⟩
end
theorem lt_tupInts{b:A2}{f:Array A1}{B:Z Int}(hl:IsTup s.heap l ac)(hb:IsTup s.heap b f)(hi:IntsAre ac.toList ns)(hj:IntsAre f.toList B)
  (hu:A.units<cLine) (h:Q (.bool (lexLt ns B)) s):wpAny (model prog w) A (compareOp .Lt (.ref l) (.ref b)) Q E s:=by
 obtain⟨⟨cls,dd,data,sl⟩,ho,hc,n,hd⟩:=id hl;obtain⟨⟨a,j,data2,k⟩,m,af,n2,g⟩:=id hb;simp only at hc hd af g;subst hc hd af g;exact richCompare_meets_room (op:=.Lt) ⟨_,ho,rfl⟩ ⟨_,m,rfl⟩ PySem.F.slot_tuple_lt PySem.F.entry_tuple_lt (PySem.F.args_tuple_lt_2 _ _) (Fy l b ac f n n2 dd j sl k ns B hi hj)
  ⟨ho,m,show Value.bool (lexLt ns B)≠Value.notImplemented/\Q (.bool (lexLt ns B)) s from⟨(λx=>nomatch x),h⟩⟩ hu
theorem cat_tup{t b:A2}{vs ws:Z A1}(ht:IsTup s.heap t vs.toArray)(hb:IsTup s.heap b ws.toArray)(hv:vs≠[])
  (h1:ws=[]->Q (.ref t) s) (h2:ws≠[]->Q (.ref s.heap.objs.size) { s with heap:=s.heap.push { cls:=.type "tuple",data:=.seq (vs++ws).toArray } })
  (hsz:vs.length+ws.length<=sizeLine):wpAny (model prog w) A (binaryOp .Add (.ref t) (.ref b)) Q E s:=by
 obtain⟨⟨cls,dd,data,sl⟩,ho,hc,n,hd⟩:=id ht;obtain⟨⟨a,j,data2,k⟩,m,af,n2,g⟩:=id hb;simp only at hc hd af g;subst hc hd af g;have e:vs.toArray++ws.toArray=(vs++ws).toArray:=by simp
 by_cases hw:ws=[]
 ·exact LC ⟨_,ho,rfl⟩ ⟨_,m,rfl⟩ JV KQ HZ HN (HF _ _)
   (tuple_addW1 t b vs.toArray ws.toArray n n2 dd j sl k (by simpa using hv) (by simp[hw])) ⟨ho,m,h1 hw⟩
 ·refine LC ⟨_,ho,rfl⟩ ⟨_,m,rfl⟩ JV KQ HZ HN (HF _ _)
   (tuple_addW2 t b vs.toArray ws.toArray n n2 dd j sl k (by simpa using hv) (by simpa using hw) (by rw[AU,AU];exact hsz)) ⟨ho,m,?_⟩
  rw[e];exact h2 hw
def sIx(n d:Nat):C1 Int->Nat
 | none=>d
 | some v=>if v<0 then(v+(n:Int)).toNat else min v.toNat n
theorem sIx_none(n d:Nat):sIx n d none=d:=rfl
theorem sIx_nat(n d k:Nat):sIx n d (some (k:Int))=min k n:=by
 show(if(k:Int)<0 then((k:Int)+(n:Int)).toNat else min (k:Int).toNat n)=min k n;rw[AL (by lia),BP]
theorem sIx_le(n d:Nat)(hd:d<=n)(o:C1 Int):sIx n d o<=n:=by
 cases o with
 | none=>exact hd
 | some v =>
  show(if v<0 then(v+(n:Int)).toNat else min v.toNat n)<=n;by_cases hv:v<0
  ·rw[AF hv];lia
  ·rw[AL hv];exact Nat.min_le_right _ _
theorem clip_eq(v:Int)(n d:Nat):(if v<0 then max (v+(n:Int)) 0 else min v (n:Int))=((sIx n d (some v):Nat):Int):=by
 show(if v<0 then max (v+(n:Int)) 0 else min v (n:Int))=(((if v<0 then(v+(n:Int)).toNat else min v.toNat n):Nat):Int);by_cases hv:v<0
 ·simp only[AF hv];lia
 ·simp only[AL hv];lia
theorem nN(lo hi:C1 Int)(n:Nat):Builtin.Slice.sliceAdjust lo hi 1 (n:Int)=(((sIx n 0 lo:Nat):Int),((sIx n n hi:Nat):Int)):=by
 have h1:¬ ((1:Int)<0):=by lia
 unfold Builtin.Slice.sliceAdjust;simp only[h1,HG];refine IW ?_ ?_
 ·cases lo with
  | none=>rfl
  | some v=>exact clip_eq v n 0
 ·cases hi with
  | none=>rfl
  | some v=>exact clip_eq v n n
theorem fj(i j:Nat):Builtin.Slice.slicePlaces (i:Int) (j:Int) 1=j - i:=by
 unfold Builtin.Slice.slicePlaces;have h1:(1:Int) > 0:=by lia
 simp only[h1,JU,Int.ediv_one];split<;>lia
theorem Fh{v:A1}{o:C1 Int}{Q:C1 Int->A4->Prop}(p:IsPart v o)(h:Q o s):wpAny (model prog w) A (Builtin.Slice.slicePartIndex v) Q E s:=by
 cases p with
 | none=>exact slicePart_none h
 | int i t=>exact slicePart_int h
theorem My{sl:A2}{n:Nat}{Q:Int×Int×Nat->A4->Prop}(hs:s.heap.IsSliceOf sl vl vu .none)(pl:IsPart vl lo)(c:IsPart vu hi)
   (h:Q (((sIx n 0 lo:Nat):Int),1,sIx n n hi - sIx n 0 lo) s):wpAny (model prog w) A (Builtin.Slice.sliceApplied (.ref sl) (pure (n:Int))) Q E s:=by
 obtain⟨os,b,o,B⟩:=id hs;unfold Builtin.Slice.sliceApplied Builtin.Slice.sliceFields;refine AA (AA (CA b B (x:=vl) rfl (AA (CA b B (x:=vu) rfl (AA (CA b B (x:=.none) rfl (AC ?_)))))));refine AA (slicePart_none ?_);show wpAny _ _ (if((1:Int)==0)=true then _ else _) _ _ s;rw[AL (by decide)];refine AA (Fh pl (AA (Fh c (AA (AC ?_)))));show wpAny _ _ (match Builtin.Slice.sliceAdjust lo hi 1 (n:Int) with | (lo,hi)=>pure (lo,(1:Int),Builtin.Slice.slicePlaces lo hi 1)) _ _ s;rw[nN lo hi n];show wpAny _ _ (pure (((sIx n 0 lo:Nat):Int),(1:Int),Builtin.Slice.slicePlaces ((sIx n 0 lo:Nat):Int) ((sIx n n hi:Nat):Int) 1)) _ _ s;rw[fj];exact AC h
theorem fV(xs:Array A1)(i k:Nat):((List.range k).filterMap λ(m:Nat)=>xs[((i:Int)+(m:Int)*1).toNat]?).toArray=((xs.toList.drop i).take k).toArray:=by
 have e:(λ(m:Nat)=>xs[((i:Int)+(m:Int)*1).toNat]?)=λm=>xs[i+m]?:=by
  funext m
  have:((i:Int)+(m:Int)*1).toNat=i+m:=by lia
  rw[this]
 rw[e];have:=pick_run xs i k;rw[JC] at this;have e2:((λx=>xs[x]?) ∘ λx=>i+x)=λm=>xs[i+m]?:=rfl
 rw[e2] at this;rw[this]
theorem getItem_tuple_cut{t sl:A2}(ht:IsTup s.heap t ac)(hs:s.heap.IsSliceOf sl vl vu .none)(pl:IsPart vl lo)(c:IsPart vu hi)
   (hw:¬ (sIx ac.size 0 lo=0/\sIx ac.size ac.size hi=ac.size))
   (h:Q (.ref s.heap.objs.size) { s with heap:=s.heap.push { cls:=.type "tuple",data:=.seq ((ac.toList.drop (sIx ac.size 0 lo)).take (sIx ac.size ac.size hi - sIx ac.size 0 lo)).toArray } })
   (hsz:ac.size<=sizeLine):wpAny (model prog w) A (getItem (.ref t) (.ref sl)) Q E s:=by
 have a:sizeOk (.seq ((ac.toList.drop (sIx ac.size 0 lo)).take (sIx ac.size ac.size hi - sIx ac.size 0 lo)).toArray):=by
   show((ac.toList.drop (sIx ac.size 0 lo)).take (sIx ac.size ac.size hi - sIx ac.size 0 lo)).toArray.size<=sizeLine;rw[AU,CM,CH,BD];lia
 have hj:sIx ac.size ac.size hi<=ac.size:=sIx_le _ _ (AT _) hi;obtain⟨os,b,o,B⟩:=id hs;have d:s.TypeIs (.ref sl) "slice" := ⟨os,b,o⟩;unfold getItem;try with_reducible refine BN ?_
 first | refine AA (AC ?_) | skip
 refine AA (wpAny_sequenceKey ht.typeIs (by decide) ?_);refine AA (CF (name:=Str.ofString "__getitem__") ht.typeIs EO
   (BX EO ht.typeIs entry_tuple_getitem ?_ (args_tuple_getitem _ _)))
 show wpAny _ _ (Builtin.Tuple.tupleItemsOf (.ref t) >>= _) _ _ s;refine AA (tupleItemsOf_ ht ?_);refine AA (FP d ?_);rw[AF (by decide)];refine AA (My hs pl c ?_);have C:¬ ((((sIx ac.size 0 lo:Nat):Int)==0&&(1:Int)==1&&(sIx ac.size ac.size hi - sIx ac.size 0 lo)==ac.size)=true):=by
   intro q;rw[AY,AY] at q;have M:((sIx ac.size 0 lo:Nat):Int)=0:=eq_of_beq q.1.1;have q2:sIx ac.size ac.size hi - sIx ac.size 0 lo=ac.size:=eq_of_beq q.2;exact hw ⟨by lia,by lia⟩
 show wpAny _ _ (if(((sIx ac.size 0 lo:Nat):Int)==0&&(1:Int)==1&&(sIx ac.size ac.size hi - sIx ac.size 0 lo)==ac.size)=true then _ else _) _ _ s;rw[AL C,fV];first
   | exact AA (m:=Builtin.Tuple.tupleExact _) (BK (AC ⟨_,rfl,AC h⟩) a)
   | exact AA (m:=Builtin.Tuple.tupleExact _) (BK (AA (AC (AC ⟨_,rfl,AC h⟩))) a)
   | exact AA (AA (m:=Builtin.Tuple.tupleExact _) (BK (AC (AC ⟨_,rfl,AC h⟩)) a))
   | exact AA (AA (m:=Builtin.Tuple.tupleExact _) (BK (AC ⟨_,rfl,AC h⟩) a))
end HT
namespace L2
open PySem PySem.Spec PyProof.Rows
abbrev TO:=St->Hp->(C1 Int->Hp->Prop)->Prop
def PO(X:Cx)(e:C1 C3)(t:TO):Prop :=
 ∀ (aa:IA) (s:A4) (σ:St) (H:Hp) (Q:C1 Int->Hp->Prop),C' X aa σ H s->t σ H Q ->
  wpAny (model X.prog X.w) X.A (evalPart e X.env) (λu s'=>∃ o H',C' X aa σ H' s'/\IsPart u o/\Q o H') X.xe s
def oD:TO:=λ_ H Q=>Q none H
def oB(t:TE):TO:=λσ H Q=>t σ H λx H1=>∃ i,x=.int i/\Q (some i) H1
theorem Jb:∀ {us:Z A1},Y0 (ns.map V.int) us->IntsAre us ns:=by
 induction ns with
 | nil=>intro us r;rw[KH] at r;cases r;exact .nil
 | cons n ns ih =>
  intro us r;rw[CC] at r;cases r with
  | cons r1 r2 =>
   obtain⟨t,e⟩:=r1;subst e;exact .cons n t (ih r2)
section
variable{X:Cx}{lo hi:C1 C3}{tl th:TO}{p2:Pos}
theorem gA:PO X none oD:=by
 intro aa s σ H Q I h;rw[evalPart_none];exact AC ⟨none,H,I,.none,h⟩
theorem ki(h:PE X e te):PO X (some e) (oB te):=by
 intro aa s σ H Q I hw;rw[evalPart_some];refine Wo (h aa s σ H _ I hw) λu s1 ⟨x,H1,I1,r1,M⟩=>?_
 obtain⟨i,rfl,q⟩:=M;obtain⟨t,rfl⟩:=r1;exact⟨some i,H1,I1,.int i t,q⟩
def MJ(X:Cx)(r:V->C1 Int->C1 Int->Hp->VK->Prop):Prop :=
 ∀ (aa:IA) (s:A4) (σ:St) (H:Hp) (x:V) (v vl vu:A1) (lo hi:C1 Int) (sl:A2) (Q:VK),C' X aa σ H s->Yi x v->s.heap.IsSliceOf sl vl vu .none->IsPart vl lo->IsPart vu hi->r x lo hi H Q ->
  ∃ T id,typeLookup (.type T) "__getitem__" = pure (some (.builtin id))/\s.TypeIs v T/\wpAny (model X.prog X.w) X.A (getItem v (.ref sl)) (EP X aa σ Q) X.xe s
theorem MJ.or{r':V->C1 Int->C1 Int->Hp->VK->Prop}(h:MJ X r)(h':MJ X r'):MJ X (λx lo hi H Q=>r x lo hi H Q\/r' x lo hi H Q):=by
 intro aa s σ H x v vl vu lo hi sl Q I S hs pl c q;rcases q with q | q
 ·exact h aa s σ H x v vl vu lo hi sl Q I S hs pl c q
 ·exact h' aa s σ H x v vl vu lo hi sl Q I S hs pl c q
def jn(r:V->C1 Int->C1 Int->Hp->VK->Prop)(te:TE)(tl th:TO):TE:=λσ H Q=>te σ H λx H1=>tl σ H1 λl H2=>th σ H2 λu P=>r x l u P Q
theorem jb(hr:MJ X r)(he:PE X e te)(hl:PO X lo tl)(hu:PO X hi th):PE X (.Subscript e (.Slice lo hi none p2) pos) (jn r te tl th):=by
 intro aa s σ H Q I h;refine Subscript_ (Wo (he aa s σ H _ I h) λv s1 ⟨x,H1,I1,r1,M⟩=>?_);refine wpAny_Slice (Wo (hl aa s1 σ H1 _ I1 M) λvl s2 ⟨l,H2,I2,pl,q2⟩=>Wo (hu aa s2 σ H2 _ I2 q2) λvu G ⟨u,P,I3,c,C⟩=>?_);rw[evalPart_none];refine AC ?_;have I4:C' X aa σ P { G with heap:=G.heap.push { cls:=.type "slice",data:=.fields #[vl,vu,.none] } }:=I3.kept (t':=G.toks) λb ob q=>AB _ q
 obtain⟨T,id,hT,ht,hg⟩:=hr aa { G with heap:=G.heap.push { cls:=.type "slice",data:=.fields #[vl,vu,.none] } } σ P x v vl vu l u G.heap.objs.size Q I4 r1 (Heap.IsSliceOf.new ..) pl c C;show wpAny (model X.prog X.w) X.A (subscriptTail e (.Slice lo hi none p2) v (.ref G.heap.objs.size)) (EP X aa σ Q) X.xe { G with heap:=G.heap.push { cls:=.type "slice",data:=.fields #[vl,vu,.none] } };exact tail_any (ops:=[.ref G.heap.objs.size,v]) ht hT hg (by with_unfolding_all rfl)
def OF(xs:Z V)(lo hi:C1 Int):Z V:=(xs.drop (HT.sIx xs.length 0 lo)).take (HT.sIx xs.length xs.length hi - HT.sIx xs.length 0 lo)
theorem Nq(xs:Z V)(lo hi:C1 Int):(OF xs lo hi).length<=xs.length:=by
 unfold OF;rw[CM,CH];lia
def eV(K:G8):V->C1 Int->C1 Int->Hp->VK->Prop:=λx lo hi H Q=>∃ a xs,x=.ref a/\E3 K H a xs /\
 ¬ (HT.sIx xs.length 0 lo=0/\HT.sIx xs.length xs.length hi=xs.length)/\∀ p,H p=none->Q (.ref p) (Yr H p (.tup (OF xs lo hi)))
theorem iZ:MJ X (eV X.K):=by
 intro aa s σ H x v vl vu lo hi sl Q I S hs pl c h;obtain⟨a,xs,rfl,hx,hw,q⟩:=h;cases S;obtain⟨its,r,ht,hz⟩:=I.tuple hx;have J:its.toArray.size=xs.length:=by rw[AU];exact r.length.symm
 refine⟨"tuple",_,PyProof.Rows.slot_tuple_getitem.lookup,ht.typeIs,?_⟩;refine HT.getItem_tuple_cut ht hs pl c (by rw[J];exact hw) ?_ (by rw[J];exact hz);rw[J];refine⟨.ref s.heap.objs.size,_,I.laid (t':=s.toks) (o:=.tup (OF xs lo hi)) (λb ob q=>AB _ q) (AT _) ?_,rfl,q _ (I.hok.fresh (AT _))⟩;exact⟨BC (Nq xs lo hi) hz,_,(r.drop (HT.sIx xs.length 0 lo)).take (HT.sIx xs.length xs.length hi - HT.sIx xs.length 0 lo),IsTup.new _ _⟩
def jx(K:G8):R2:=λx y H Q=>∃ a b ns B,x=.ref a/\y=.ref b/\E3 K H a (ns.map V.int)/\E3 K H b (B.map V.int)/\Q (.bl (HT.lexLt ns B)) H
theorem iE(hu:X.A.units<cLine):Sm X (compareOp .Lt) (jx X.K):=by
 intro aa s σ H x y v u Q I S m h;obtain⟨a,b,ns,B,rfl,rfl,ha,hb,q⟩:=h;cases S;cases m;obtain⟨its,r1,p1,_⟩:=I.tuple ha;obtain⟨c,r2,p2,_⟩:=I.tuple hb;have i1:IntsAre its.toArray.toList ns:=Jb r1;have i2:IntsAre c.toArray.toList B:=Jb r2;exact HT.lt_tupInts p1 p2 i1 i2 hu ⟨.bl (HT.lexLt ns B),H,I,rfl,q⟩
def gT(K:G8):R2:=λx y H Q=>∃ a b xs ys,x=.ref a/\y=.ref b/\E3 K H a xs/\E3 K H b ys/\xs≠[]/\xs.length+ys.length<=sizeLine /\
 (ys=[]->Q (.ref a) H)/\(ys≠[]->∀ p,H p=none->Q (.ref p) (Yr H p (.tup (xs++ys))))
theorem Y0.nil_iff{xs:Z V}(r:Y0 xs us):us=[]↔xs=[]:=by
 cases r with
 | nil=>simp
 | cons _ _=>simp
theorem ot:Sm X (binaryOp .Add) (gT X.K):=by
 intro aa s σ H x y v u Q I S m h;obtain⟨a,b,xs,ys,rfl,rfl,ha,hb,hx,hz,M,q2⟩:=h;cases S;cases m;obtain⟨its,r1,p1,_⟩:=I.tuple ha;obtain⟨c,r2,p2,_⟩:=I.tuple hb;refine HT.cat_tup p1 p2 (λz=>hx (r1.nil_iff.mp z)) (λz=>⟨.ref a,H,I,rfl,M (r2.nil_iff.mp z)⟩) (λz=>?_) (by rw[← r1.length,← r2.length];exact hz);refine⟨.ref s.heap.objs.size,_,I.laid (t':=s.toks) (o:=.tup (xs++ys)) (λb ob q=>AB _ q) (AT _) ?_,rfl,q2 (λw=>z (r2.nil_iff.mpr w)) _ (I.hok.fresh (AT _))⟩;exact⟨by rw[AX];exact hz,_,r1.append r2,IsTup.new _ _⟩
end
def OI(n:Nat)(i:Int):C1 Nat:=if 0<=i then(if i<n then some i.toNat else none) else if -(n:Int)<=i then some (i+n).toNat else none
def B0(xs:Z α)(i:Int):C1 α:=(OI xs.length i).bind λj=>xs[j]?
theorem bV{n:Nat}{i:Int}(h:OI n i=some j):seqIndex? i n=some j/\j<n/\-(n:Int)<=i/\i<n:=by
 unfold OI at h;by_cases h0:0<=i
 ·rw[AF h0] at h
  by_cases h1:i<n
  ·rw[AF h1] at h
   have e:i.toNat=j:=BF h;exact⟨by rw[KG h0 h1,e],by lia,by lia,h1⟩
  ·rw[AL h1] at h;cases h
 ·rw[AL h0] at h
  by_cases h1 : -(n:Int)<=i
  ·rw[AF h1] at h
   have e:(i+n).toNat=j:=BF h;exact⟨by rw[LF (by lia) h1,e],by lia,h1,by lia⟩
  ·rw[AL h1] at h;cases h
variable{xs:Z α}
theorem YN{i:Int}{v:α}(h:B0 xs i=some v):∃ j,seqIndex? i xs.length=some j/\xs[j]?=some v/\j<xs.length/\-(xs.length:Int)<=i/\i<xs.length:=by
 unfold B0 at h;cases e:OI xs.length i with
 | none=>rw[e] at h;cases h
 | some j =>
  rw[e] at h;obtain⟨h1,h2,h3,h4⟩:=bV e;exact⟨j,h1,h,h2,h3,h4⟩
theorem Kv{v:α}(h:xs[j]?=some v):B0 xs (j:Int)=some v:=by
 have hj:j<xs.length:=(AE.mp h).1;have e:OI xs.length (j:Int)=some j:=by
  unfold OI;rw[AF (by lia),AF (by lia)];simp
 unfold B0;rw[e];exact h
def Ol(b:C3):Prop:=∀ o i,subscripted b false o i=operate [o,i] (getItem o i)
def ML(X:Cx)(r:R2):Prop :=
 ∀ (aq slice:C3) (aa:IA) (s:A4) (σ:St) (H:Hp) (x y:V) (v u:A1) (Q:VK),C' X aa σ H s->Yi x v->Yi y u->r x y H Q ->
  subscripted slice false v u=operate [v,u] (getItem v u)->wpAny (model X.prog X.w) X.A (subscriptTail aq slice v u) (EP X aa σ Q) X.xe s
def MX(X:Cx)(id:String)(r:V->Z V->Hp->VK->Prop):Prop :=
 ∀ (aa:IA) (s:A4) (σ:St) (H:Hp) (x:V) (xs:Z V) (v:A1) (us:Z A1) (Q:VK),C' X aa σ H s->Yi x v->Y0 xs us->r x xs H Q ->
  wpAny (model X.prog X.w) X.A (call (.builtin id) (v::us)) (EP X aa σ Q) X.xe s
section
variable{X:Cx}{a b:C3}{ta tb:TE}{pos:Pos}
theorem ML.or{r r':R2}(h:ML X r)(h':ML X r'):ML X (λx y H Q=>r x y H Q\/r' x y H Q):=by
 intro aq slice aa s σ H x y v u Q I S m q hs;rcases q with q | q
 ·exact h aq slice aa s σ H x y v u Q I S m q hs
 ·exact h' aq slice aa s σ H x y v u Q I S m q hs
theorem XC{r:R2}(hr:ML X r)(ha:PE X a ta)(hb:PE X b tb)(hs:Ol b):PE X (.Subscript a b pos) (QH r ta tb):=by
 intro aa s σ H Q I h;exact Subscript_ (WG ha hb I h λv u s2 x y H2 I2 S m q=>hr a b aa s2 σ H2 x y v u Q I2 S m q (hs _ _))
def d1(K:G8):R2:=λx y H Q=>∃ p xs i v,x=.ref p/\y=.int i/\Dd K H p xs/\B0 xs i=some v/\Q v H
def YY(K:G8):R2:=λx y H Q=>∃ p xs i v,x=.ref p/\y=.int i/\E3 K H p xs/\B0 xs i=some v/\Q v H
def eb:R2:=λx y H Q=>∃ z i c,x=.str z/\y=.int i/\z.length<=sizeLine/\B0 z.cps.toList i=some c/\Q (.str ⟨#[c]⟩) H
theorem VZ:ML X (d1 X.K):=by
 intro aq slice aa s σ H x y v u Q I S m h hs;obtain⟨p,xs,i,z,rfl,rfl,hq,he,q⟩:=h;cases S;obtain⟨t,rfl⟩:=m;obtain⟨its,r,pl,hz⟩:=I.list hq;obtain⟨j,h1,h2,h3,h4,h5⟩:=YN he;obtain⟨w,ew,a⟩:=r.get h2;have hl:=r.length;have hn:=Hm;have fin:EP X aa σ Q w s:=⟨z,H,I,a,q⟩;by_cases h0:0<=i
 ·have hj:i.toNat=j:=by
   rw[KG h0 h5] at h1;exact BF h1
  exact item_listR pl.isList h0 (by lia) (by rw[hj];simpa using ew) fin hs
 ·have hj:(i+(its.toArray.size:Int)).toNat=j:=by
   rw[LF (by lia) h4] at h1;rw[AU,← hl];exact BF h1
  exact subscriptTail_builtinR (x:=w) pl.isList.typeIs slot_list_getitem.lookup
   (wpAny_getItem_list_neg (Q:=λr s'=>r=w/\EP X aa σ Q r s') pl.isList (by lia) (by rw[AU]<;>lia) (by lia) (by rw[hj];simpa using ew) ⟨rfl,fin⟩) hs
theorem jJ:ML X (YY X.K):=by
 intro aq slice aa s σ H x y v u Q I S m h hs;obtain⟨p,xs,i,z,rfl,rfl,hq,he,q⟩:=h;cases S;obtain⟨t,rfl⟩:=m;obtain⟨its,r,pl,hz⟩:=I.tuple hq;obtain⟨j,h1,h2,h3,h4,h5⟩:=YN he;obtain⟨w,ew,a⟩:=r.get h2;have hl:=r.length;have hn:=Hm;have fin:EP X aa σ Q w s:=⟨z,H,I,a,q⟩;exact subscriptTail_builtinR (x:=w) pl.typeIs slot_tuple_getitem.lookup
  (getItem_tuple (j:=j) (Q:=λr s'=>r=w/\EP X aa σ Q r s') pl (by lia) (by lia) (by rw[AU,← hl];exact h1) (by simpa using ew) ⟨rfl,fin⟩) hs
theorem gj:ML X eb:=by
 intro aq slice aa s σ H x y v u Q I S m h hs;obtain⟨z,i,c,rfl,rfl,hz,he,q⟩:=h;obtain⟨t,rfl⟩:=S;obtain⟨t',rfl⟩:=m;obtain⟨j,h1,h2,h3,h4,h5⟩:=YN he;have hl:z.cps.toList.length=z.length:=by simp[Str.length]
 rw[hl] at h1 h4 h5;have hn:=Hm;exact tail_any (typeIs_str s z t) slot_str_getitem.lookup (getItem_str (c:=c) (by
  have e1:decide (i < -(2^63:Int))=false:=AH (by lia);have e2:decide (i≥2^63)=false:=AH (by lia);rw[e1,e2,KR]) (by rw[h1];simpa using h2) ⟨.str ⟨#[c]⟩,H,I.tok _,⟨_,rfl⟩,q⟩) hs
def ln(K:G8):R2:=λx y H Q=>d1 K x y H Q\/YY K x y H Q\/eb x y H Q
theorem fc:ML X (ln X.K):=VZ.or (jJ.or gj)
theorem p6(its:Z A1)(n j:Nat)(u:A1):Obj.mapSeq (·.setIfInBounds j u) { cls:=.type "list",data:=.seq its.toArray n }={ cls:=.type "list",data:=.seq (its.set j u).toArray n }:=by
 simp[Obj.mapSeq]
theorem C'.lst{aa:IA}{σ:St}{H:Hp}{s:A4}{p:A2}{xs:Z V}(I:C' X aa σ H s)(h:H p=some (.lst xs)) :
  ∃ (its:Z A1) (n:Nat),Y0 xs its/\s.heap.get? p=some { cls:=.type "list",data:=.seq its.toArray n }/\xs.length<=sizeLine:=by
 obtain⟨z,its,n,r,e⟩:=I.hok p _ h;exact⟨its,n,r,e,z⟩
theorem C'.lstUpd{p:A2}{xs:Z V}{n g:Nat}{f:Obj->Obj}(I:C' X aa σ H s)(h:H p=some (.lst xs))
  (ho:s.heap.get? p=some { cls:=.type "list",data:=.seq its.toArray n }) (hf:f { cls:=.type "list",data:=.seq its.toArray n }={ cls:=.type "list",data:=.seq its'.toArray g }) (r:Y0 ys its') (hz:ys.length<=sizeLine) (t:Nat) :
  C' X aa σ (Yr H p (.lst ys)) { s with heap:=s.heap.update p f,toks:=t }:=by
 have e:(s.heap.update p f).get? p=some { cls:=.type "list",data:=.seq its'.toArray g }:=by
  rw[BI f ho (by rw[hf]<;>rfl),hf]
 refine I.write (x:=p) (e:=p) (by rw[h];trivial) (.inl rfl) (λb u hb q=>(BA _ _ (AO hb)).trans q) ⟨_,e⟩ ?_;exact⟨hz,its',g,r,e⟩
def kz:V->V->V->Hp->(Hp->Prop)->Prop:=λo i v H Q=>∃ p xs k j,o=.ref p/\i=.int k/\H p=some (.lst xs)/\OI xs.length k=some j/\Q (Yr H p (.lst (xs.set j v)))
theorem j4:ZY X kz:=by
 intro aa s σ H o i v E b u Q I a c rv h;obtain⟨p,xs,k,j,rfl,rfl,hp,hj,q⟩:=h;cases a;obtain⟨t,rfl⟩:=c;obtain⟨its,n,r,ho,hz⟩:=I.lst hp;obtain⟨h1,h2,h3,h4⟩:=bV hj;have hl:=r.length;have hn:=Hm;have I':C' X aa σ (Yr H p (.lst (xs.set j v))) { s with heap:=s.heap.update p (Obj.mapSeq (·.setIfInBounds j u)) } :=
  I.lstUpd hp ho (p6 its n j u) (r.set rv j) (by rw[BJ];exact hz) s.toks
 by_cases h0:0<=k
 ·have Y:k.toNat=j:=by
   rw[KG h0 h4] at h1;exact BF h1
  exact PySem.W.ki_setAt ho h0 (by lia) (by rw[AU,← hl];exact h4) (by rw[Y];exact⟨_,I',q⟩)
 ·have Y:(k+(its.toArray.size:Int)).toNat=j:=by
   rw[LF (by lia) h3] at h1;rw[AU,← hl];exact BF h1
  exact PySem.W.ki_setBack ho (by lia) (by rw[AU,← hl];exact h3) (by lia) (by rw[Y];exact⟨_,I',q⟩)
theorem js(lo hi:C1 Int)(n:Nat):(sliceBounds lo hi none n).1=((HT.sIx n 0 lo:Nat):Int)/\(sliceBounds lo hi none n).2.1=((HT.sIx n n hi:Nat):Int)/\(sliceBounds lo hi none n).2.2=1:=by
 refine⟨?_,?_,rfl⟩
 ·cases lo with
  | none=>simp[sliceBounds,HT.sIx]
  | some i =>
   simp only[sliceBounds,HT.sIx,Option.getD_none,show(1:Int) > 0 by decide,JU];by_cases h:i<0
   ·simp only[h,JU]<;>lia
   ·simp only[h,HG]<;>lia
 ·cases hi with
  | none=>simp[sliceBounds,HT.sIx]
  | some i =>
   simp only[sliceBounds,HT.sIx,Option.getD_none,show(1:Int) > 0 by decide,JU];by_cases h:i<0
   ·simp only[h,JU]<;>lia
   ·simp only[h,HG]<;>lia
theorem A8(its:Z A1)(lo hi:C1 Int):slicePick its.toArray lo hi none=((its.drop (HT.sIx its.length 0 lo)).take (HT.sIx its.length its.length hi - HT.sIx its.length 0 lo)).toArray:=by
 obtain⟨h1,h2,h3⟩:=js lo hi its.toArray.size;unfold slicePick;rw[h1,h2,h3];simp only[sliceRange_one,pick_run,AU]<;>rfl
def cp(K:G8):V->C1 Int->C1 Int->Hp->VK->Prop:=λx lo hi H Q=>∃ a xs,x=.ref a/\Dd K H a xs/\∀ p,H p=none->Q (.ref p) (Yr H p (.lst (OF xs lo hi)))
theorem gv:MJ X (cp X.K):=by
 intro aa s σ H x v vl vu lo hi sl Q I S hs pl c h;obtain⟨a,xs,rfl,hx,q⟩:=h;cases S;obtain⟨its,r,ht,hz⟩:=I.list hx;have J:=r.length;refine⟨"list",_,slot_list_getitem.lookup,ht.isList.typeIs,?_⟩;refine wpAny_getItem_list_slice ht.isList hs pl c .none (by simp) ?_ (by rw[AU]<;>lia);rw[A8,← J];refine⟨.ref s.heap.objs.size,_,I.laid (t':=s.toks) (o:=.lst (OF xs lo hi)) (λb ob q=>AB _ q) (AT _) ?_,rfl,q _ (I.hok.fresh (AT _))⟩;exact⟨BC (Nq xs lo hi) hz,_,0,(r.drop (HT.sIx xs.length 0 lo)).take (HT.sIx xs.length xs.length hi - HT.sIx xs.length 0 lo),AQ _ rfl⟩
theorem kZ:Sm X (compareOp .NotIn) (λx y H Q=>∃ i j,x=.str i/\y=.str j/\Q (.bl (!(!(Builtin.Str.occurrences j i 0 j.length 1).isEmpty))) H):=by
 intro aa s σ H x y v u Q I S m h;obtain⟨i,j,rfl,rfl,q⟩:=h;obtain⟨t,rfl⟩:=S;obtain⟨t',rfl⟩:=m;exact notIn_str ⟨.bl _,H,I,rfl,q⟩
theorem k4:V0 X (.builtin "len") (λxs H Q=>∃ p ys,xs=[.ref p]/\(Dd X.K H p ys\/E3 X.K H p ys)/\Q (.int ys.length) H):=by
 intro aa s σ H xs us Q I r h;obtain⟨p,ys,rfl,hq,q⟩:=h;obtain⟨u,rfl,S⟩:=Qf r;cases S;have hn:=Hm;rcases hq with hq | hq
 ·obtain⟨its,r',pl,hz⟩:=I.list hq
  have J:=r'.length;exact Calls.call_len_list pl.isList (by simp only[AU]<;>lia) ⟨.int ys.length,H,I.tok _,⟨s.toks+1,by rw[AU,J]⟩,q⟩
 ·obtain⟨its,r',pl,hz⟩:=I.tuple hq
  have J:=r'.length;exact len_tuple pl (by simp only[AU]<;>lia) ⟨.int ys.length,H,I.tok _,⟨s.toks+1,by rw[AU,J]⟩,q⟩
theorem Cd:V0 X (.builtin "len") (λxs H Q=>∃ z,xs=[.str z]/\z.length<=sizeLine/\Q (.int z.length) H):=by
 intro aa s σ H xs us Q I r h;obtain⟨z,rfl,hz,q⟩:=h;obtain⟨u,rfl,t,rfl⟩:=Qf r;have hn:=Hm;exact len_str (by lia) ⟨.int z.length,H,I.tok _,⟨_,rfl⟩,q⟩
theorem V0.or{f:A1}{r:Z V->Hp->VK->Prop}(h:V0 X f r)(h':V0 X f r'):V0 X f (λxs H Q=>r xs H Q\/r' xs H Q):=by
 intro aa s σ H xs us Q I rs q;rcases q with q | q
 ·exact h aa s σ H xs us Q I rs q
 ·exact h' aa s σ H xs us Q I rs q
theorem K9:V0 X (.type "list") (λxs H Q=>∃ p ys,xs=[.ref p]/\(Dd X.K H p ys\/E3 X.K H p ys)/\∀ l,H l=none->Q (.ref l) (Yr H l (.lst ys))):=by
 intro aa s σ H xs us Q I r h;obtain⟨p,ys,rfl,hq,q⟩:=h;obtain⟨u,rfl,S⟩:=Qf r;cases S;have fin:∀ (its:Z A1),Y0 ys its->ys.length<=sizeLine->∀ (h':Ff) (c':Nat),(∀ b o',s.heap.get? b=some o'->h'.get? b=some o') ->
   h'.get? s.heap.objs.size=some { cls:=.type "list",dict:=none,data:=.seq its.toArray c',slots:=#[] }->EP X aa σ Q (.ref s.heap.objs.size) { s with heap:=h' }:=λits r' hz h' c' kp e =>
  ⟨.ref s.heap.objs.size,_,I.laid (t':=s.toks) kp (AT _) (show Yl X.prog X.w _ h' _ (.lst ys) from⟨hz,its,c',r',e⟩),rfl,q _ (I.hok.fresh (AT _))⟩
 rcases hq with hq | hq
 ·obtain⟨its,r',pl,hz⟩:=I.list hq
  have J:=r'.length;obtain⟨o,ho,hc,n,hd⟩:=pl.isList;exact call_list_seq p (.inl rfl) ho hc hd (λh' c' kp e=>fin its r' hz h' c' kp e) (by simp only[AU]<;>lia)
 ·obtain⟨its,r',pl,hz⟩:=I.tuple hq
  have J:=r'.length;obtain⟨o,ho,hc,n,hd⟩:=pl;exact call_list_seq p (.inr rfl) ho hc hd (λh' c' kp e=>fin its r' hz h' c' kp e) (by simp only[AU]<;>lia)
theorem Fw:V0 X (.type "tuple") (λxs H Q=>∃ p ys,xs=[.ref p]/\((Dd X.K H p ys/\∀ l,H l=none->Q (.ref l) (Yr H l (.tup ys)))\/(E3 X.K H p ys/\Q (.ref p) H))):=by
 intro aa s σ H xs us Q I r h;obtain⟨p,ys,rfl,h⟩:=h;obtain⟨u,rfl,S⟩:=Qf r;cases S;rcases h with⟨hq,q⟩ | ⟨hq,q⟩
 ·obtain⟨its,r',pl,hz⟩:=I.list hq
  have J:=r'.length;refine call_tuple_list pl.isList (λh' kp=>?_) (by simp only[AU]<;>lia);have I1:C' X aa σ H { s with heap:=h' }:=I.kept (t':=s.toks) kp;have I2:C' X aa σ (Yr H h'.objs.size (.tup ys)) { s with heap:=h'.push { cls:=.type "tuple",data:=.seq its.toArray } } :=
   I1.laid (t':=s.toks) (λb o e=>AB _ e) (AT _) (show Yl X.prog X.w _ _ _ (.tup ys) from⟨hz,its,r',IsTup.new _ _⟩)
  exact⟨.ref h'.objs.size,_,I2,rfl,q _ (I1.hok.fresh (AT _))⟩
 ·obtain⟨its,r',pl,hz⟩:=I.tuple hq
  exact call_tuple_same pl ⟨.ref p,H,I,rfl,q⟩
def WV(K:G8)(T:String)(x:V)(H:Hp):Prop:=match x with
 | .str _=>T="str"
 | .int _=>T="int"
 | .ref p=>(T="list" /\ ∃ xs,Dd K H p xs)\/(T="tuple" /\ ∃ o,K.lookup p=some o/\o.cls=.type "tuple" /\ o.dict=none) \/
  (T="dict" /\ ((∃ kvs,H p=some (.dK kvs))\/∃ kvs,H p=some (.dT kvs)))\/(T="set" /\ ∃ S n,H p=some (.set S n))
 | _=>False
theorem nI{x:V}{v:A1}(I:C' X aa σ H s)(r:Yi x v)(ty:WV X.K T x H) :
  s.TypeIs v T/\∀ a,v=.ref a->∃ ob,s.heap.get? a=some ob/\ob.dict=none:=by
 cases x with
 | str z =>
  obtain⟨t,rfl⟩:=r;cases (show T="str" from ty);exact⟨typeIs_str s z t,λ_ e=>nomatch e⟩
 | int i =>
  obtain⟨t,rfl⟩:=r;cases (show T="int" from ty);exact⟨typeIs_int s i t,λ_ e=>nomatch e⟩
 | ref p =>
  cases r;rcases ty with⟨rfl,xs,hq⟩ | ⟨rfl,o,Y,hc,hd⟩ | ⟨rfl,Y⟩ | ⟨rfl,S,n,Y⟩
  ·obtain⟨its,_,pl,_⟩:=I.list hq
   refine⟨pl.isList.typeIs,λa e=>?_⟩;cases e;obtain⟨o,n,e,c,hd,_⟩:=pl;exact⟨o,e,hd⟩
  ·refine⟨⟨o,I.kIn p o Y,hc⟩,λa e=>?_⟩
   cases e;exact⟨o,I.kIn _ o Y,hd⟩
  ·have z:∃ o,s.heap.get? p=some o/\o.ExactDict:=by
    rcases Y with⟨kvs,Y⟩ | ⟨kvs,Y⟩
    ·obtain⟨_,_,_,_,o,_,_,e,ex,_⟩:=I.hok p _ Y
     exact⟨o,e,ex⟩
    ·obtain⟨_,_,_,_,o,_,_,e,ex,_⟩:=I.hok p _ Y
     exact⟨o,e,ex⟩
   obtain⟨o,e,ex⟩:=z;refine⟨⟨o,e,ex.1⟩,λa e2=>?_⟩;cases e2;exact⟨o,e,ex.2.1⟩
  ·obtain⟨o,_,_,_,e,ex,_⟩:=I.hok p _ Y
   refine⟨⟨o,e,ex.1⟩,λa e2=>?_⟩;cases e2;exact⟨o,e,ex.2.1⟩
 | _=>exact False.elim ty
def pq(K:G8)(T:String)(r:V->Z V->Hp->VK->Prop)(to:TE)(t:TA):TE:=λσ H Q=>to σ H λx H1=>WV K T x H1/\t σ H1 λxs H2=>r x xs H2 Q
variable{o e:C3}{es:Z C3}{to:TE}{t:TA}{name:Str}{aw al:Pos}{T id:String}{r:V->Z V->Hp->VK->Prop}
theorem SN(pa:PlainAttrs T)(slot:Slot T name id)(n:typeOf (.builtin id)=pure (.type "method_descriptor"))(hm:MX X id r)(ho:PE X o to)(ha:PA X (e::es) t)
   (u:attributeBase o name X.env (eval o X.env)=eval o X.env:=by rfl)
   (ag:((backTo al (starEach (e::es) X.env)).all (λx=>!x.1)&&(backToKw al (keywordEach [] X.env)).all (λx=>x.1.isSome)
     && decide ((e::es).length+([]:Z Keyword).length+(if([]:Z Keyword).isEmpty then 0 else 1)<30))=true:=by rfl)
   (S:(aw.endLine==al.line)=true:=by rfl) (hs:Z0 X.env e es:=by rfl) (E:Z1 al X.env es:=by rfl) :
   PE X (.Call (.Attribute o name aw) (e::es) [] al) (pq X.K T r to t):=by
 intro aa s σ H Q I h;refine wpAny_Call_method_late u ag S rfl (Wo (ho aa s σ H _ I h) λv s1 ⟨x,H1,I1,r1,ty,M⟩=>?_);obtain⟨h1,h2⟩:=nI I1 r1 ty;refine⟨T,id,pa,slot,n,h1,h2,?_⟩;have hA:=ha al aa s1 σ H1 _ I1 M;rw[hs] at hA ⊢;refine Calls.callWith_builtin (by show(false||(backTo al (starEach es X.env)).any (·.1))=false;rw[E]<;>rfl) (Calls.evalArgs_plain ?_);exact Wo hA λus s2 ⟨vs,H2,I2,r2,q2⟩=>hm aa s2 σ H2 x vs v us Q I2 r1 r2 q2
end
def YO(X:Cx)(id:String)(r:V->Z V->Hp->VK->Prop):Prop :=
 ∀ (aa:IA) (s:A4) (σ:St) (H:Hp) (x:V) (xs:Z V) (v:A1) (us:Z A1) (Q:VK),C' X aa σ H s->Yi x v->Y0 xs us->r x xs H Q ->
  wpAny (model X.prog X.w) X.A (call (.builtin id) (v::us)) (EP X aa σ Q) X.xe s
theorem Y0.one:∀ {x:V} {us:Z A1},Y0 [x] us->∃ u,us=[u]/\Yi x u
 | _,_,.cons r .nil=>⟨_,rfl,r⟩
theorem Y0.eraseIdx:∀ {xs:Z V} {us:Z A1} (i:Nat),Y0 xs us->Y0 (xs.eraseIdx i) (us.eraseIdx i)
 | _,_,_,.nil=>.nil
 | _,_,0,.cons _ t=>t
 | _,_,i+1,.cons r t=>.cons r (Y0.eraseIdx i t)
theorem Au:∀ (l:Z α) (i:Nat),(l.eraseIdx i).length<=l.length
 | [],_=>AT _
 | _::_,0=>DH _
 | _::r,i+1=>ID (Au r i)
section
variable{X:Cx}{b:A2}{xs zs:Z V}
theorem C'.lset{n:Nat}{f:Array A1->Array A1}(I:C' X aa σ H s)(g:H l=some (.lst xs))
  (e:s.heap.get? l=some { cls:=.type "list",data:=.seq its.toArray n }) (hf:f its.toArray=its'.toArray) (hv:Y0 ys its') (hz:ys.length<=sizeLine) :
  C' X aa σ (Yr H l (.lst ys)) { s with heap:=s.heap.update l (Obj.mapSeq f),toks:=t' }:=by
 have q:=PySem.IsL.update e f;rw[hf] at q;refine I.write (x:=l) (e:=l) (by rw[g];exact trivial) (.inl rfl) (λt u hb hu=>(BA s.heap (Obj.mapSeq f) (AO hb)).trans hu) ⟨_,q⟩ ?_;exact⟨hz,its',_,hv,q⟩
theorem C'.lnew(I:C' X aa σ H s)(hv:Y0 ys its)(hz:ys.length<=sizeLine) :
  C' X aa σ (Yr H s.heap.objs.size (.lst ys)) { s with heap:=s.heap.push { cls:=.type "list",data:=.seq its.toArray },toks:=t' } :=
 I.laid (λ_ _ q=>AB _ q) (AT _) ⟨hz,its,0,hv,AQ _ rfl⟩
theorem C'.fresh(I:C' X aa σ H s):H s.heap.objs.size=none:=I.hok.fresh (AT _)
theorem C'.lstM(I:C' X aa σ H s)(g:H l=some (.lst xs)):xs.length<=sizeLine/\∃ (its:Z A1) (n:Nat),Y0 xs its/\xs.length=its.length/\s.heap.get? l=some { cls:=.type "list",data:=.seq its.toArray n }:=by
 obtain⟨z,its,n,r,e⟩:=I.hok l _ g;exact⟨z,its,n,r,r.length,e⟩
theorem h6{n:Nat}(h:n<=sizeLine):Builtin.List.listTooLong n=false:=by
 unfold Builtin.List.listTooLong;exact AH (by lia)
end
section
variable{X:Cx}
def gF:V->Z V->Hp->VK->Prop:=λx vs H Q=>∃ l xs y,x=.ref l/\vs=[y]/\H l=some (.lst xs)/\xs.length<sizeLine/\Q .non (Yr H l (.lst (xs++[y])))
theorem B6:YO X "list.append" gF:=by
 intro aa s σ H x vs v us Q I S rv h;obtain⟨l,xs,y,rfl,rfl,g,hz,q⟩:=h;cases S;obtain⟨u,rfl,N⟩:=rv.one;obtain⟨z,its,n,r,hl,e⟩:=I.lstM g;refine JT F.slot_list_append ⟨_,e,rfl⟩ F.entry_list_append (F.args_list_append_2 _ _) (PySem.list_append l its.toArray n u (by rw[AU];lia)) ⟨e,?_⟩;refine⟨.non,_,I.lset (its':=its++[u]) g e (by simp) (r.append (.cons N .nil)) ?_,rfl,q⟩;rw[AX,DI];lia
def px:V->Z V->Hp->VK->Prop:=λx vs H Q=>∃ l xs i k y,x=.ref l/\vs=[.int i]/\H l=some (.lst xs)/\-(2^63)<=i/\i<2^63/\seqIndex? i xs.length=some k/\xs[k]?=some y/\Q y (Yr H l (.lst (xs.eraseIdx k)))
theorem nL:YO X "list.pop" px:=by
 intro aa s σ H x vs v us Q I S rv h;obtain⟨l,xs,i,k,y,rfl,rfl,g,h1,h2,Y,hy,q⟩:=h;cases S;obtain⟨u,rfl,N⟩:=rv.one;obtain⟨t,rfl⟩:=N;obtain⟨z,its,n,r,hl,e⟩:=I.lstM g;obtain⟨w,hw,a⟩:=r.get hy;refine JT F.slot_list_pop ⟨_,e,rfl⟩ F.entry_list_pop (F.args_list_pop_2 _ _)
  (MeetsSeq.list_pop_at l its.toArray n i t k w (fitsIndex_both h1 h2) (by rw[AU,← hl];exact Y) (by rw[← DP];exact hw) (by rw[AU];lia)) ⟨e,?_⟩
 refine⟨y,_,I.lset (its':=its.eraseIdx k) g e ?_ (r.eraseIdx k) ?_,a,q⟩
 ·show its.toArray.eraseIdxIfInBounds k=(its.eraseIdx k).toArray
  rw[List.eraseIdxIfInBounds_toArray]
 ·have:=Au xs k
  lia
end
section
variable{X:Cx}
end
end L2
variable{H1:L2.Hp}
namespace Att
open PySem PySem.W PySem.Calls PyProof.Rows
theorem O9{P:Params} :∀ (ns:Z Int) (vs:Z A1),WellAll P h vs (ns.map WData.int)->IntsAre vs ns:=by
 intro ns;induction ns with
 | nil =>
  intro vs w;rw[KH] at w;cases w;exact .nil
 | cons n ns ih =>
  intro vs w;rw[CC] at w;cases w with
  | cons a b =>
   cases a;exact .cons _ _ (ih _ b)
theorem iF{l:OpenLaw}{n:Nat}(hn:l.most=some n){P:Params}{args:Z WData}{B:Z A1}
   (j:l.row.toRowW.claim.pre args=true) (e:WellAll P h B args) :
   ∃ a vs ns,B=[Value.ref a]/\args=[WData.list (ns.map WData.int)]/\h.get? a=some { cls:=.type "list",data:=.seq vs.toArray }/\IntsAre vs ns/\ns.length<=n:=by
 have g:WShape.hasAll [] args [.list .int]=true:=(pre_splitW j).1;have hc:l.pre.holds [] { args:=args }=true:=(pre_splitW j).2;obtain⟨d,r,rfl,h1,h2⟩:=hasAllW_cons g;obtain rfl:=hasAllW_nil h2;obtain⟨xs,rfl,h3⟩:=hasW_list h1;obtain⟨ns,rfl⟩:=items_int h3;have J:ns.length<=n:=by
   unfold OpenLaw.pre at hc;have h4:(WTm.not (.lt (.lit (.int (n:Int))) (.len (.arg 0)))).holds [] { args:=[.list (ns.map .int)] }=true:=by
     have h4:=(holds_andW hc).1;rw[hn] at h4;exact h4
   have h5:=condW_of h4 (w_not (w_lt w_lit (w_len_list (w_arg rfl))));rw[AD] at h5;refine IE λq=>?_
   have W:(n:Int)<((ns.length:Nat):Int):=by lia
   first
     | (rw[AK W] at h5;exact absurd h5 (by decide))
     | (simp at h5;lia)
 cases e with
 | cons w1 w2 =>
   cases w2;cases w1 with
   | list ho u=>exact⟨_,_,ns,rfl,rfl,ho,O9 ns _ u,J⟩
theorem p8(l:OpenLaw)(args:Z WData):l.row.toRowW.claim.post args (.bool true) args=true :=
 postW_of (r:=l.row.toRowW) (X:=(true==true))
  (show WShape.has [] (.bool true) .bool=true by first | rfl | decide | simp[WShape.has,WShape.arms,WShape.armsAll])
  (show(WTm.eq .res (.lit (.bool true))).value [] { args:=args,res:=some (.bool true),after:=args }=some (.bool (true==true)) from w_eq_bool (w_res rfl) w_lit) rfl
theorem attach_call{l:OpenLaw}{n:Nat}{d:DefRec}
  (hn:l.most=some n) (i:d.params.defaults=[])
  (call:∀ (w:D1) (s₀ s₁:A4) (mg p:J') (fa:A2) (o:Obj) (pm cd au:A1) (a:A2) (vs:Z A1) (ns:Z Int),
   Ground q loose [] XP w s₀ mg p s₁.heap->YP w s₁.heap ->
   s₁.heap.get? fa=some o->o.data=.func (docDef d.name d.params d.body d.scope pm cd au)->s₁.heap.CodeRec cd d.name->mg d.name=some (.ref fa) ->
   s₁.heap.get? a=some { cls:=.type "list",data:=.seq vs.toArray }->IntsAre vs ns->ns.length<=n->s₁.gens=#[] ->
   codeAny (model l.prog w) callerA (.call (.ref fa) ⟨[.ref a],[]⟩) (λr s'=>r=.ok (.ret (.bool true))/\OldK s₁.heap s'.heap/\s'.os=s₁.os/\AllBare s'.gens) s₁) :
  WalkO q loose XP YP l.row.toRowW d [] (λf vs=>PySem.call f vs):=by
 intro w s₀ s₁ mg p G Y fa o pm cd au U kV ho hd af y N hg args B as j hlay hrd e m;obtain rfl:U=.none:=Dflts.none y i;obtain rfl:kV=.none:=Dflts.noKw y;obtain⟨a,vs,ns,rfl,rfl,z,c,J⟩:=iF hn j e;refine enter_call (EG (call w s₀ s₁ mg p fa o pm cd au a vs ns G Y ho (fd_plain hd) af N z c J hg) λr s' hq=>?_);obtain⟨rfl,h2,h3,h4⟩:=hq;exact⟨.inl ⟨.bool true,.bool true,[],rfl,λ_=>rfl,.bool true,p8 l _,λ_=>⟨List.Pairwise.nil,λ_ hm=>(nomatch hm)⟩⟩,h2,h3,h4⟩
section
variable{K:Frag}
end
end Att
namespace L2
open PySem PySem.Spec PyProof.Rows
theorem Bf:∀ {vs:Z A1} {ns:Z Int},IntsAre vs ns->Y0 (ns.map V.int) vs
 | _,_,.nil=>.nil
 | _,_,.cons n t h=>.cons ⟨t,rfl⟩ (Bf h)
def SL(K:G8)(H:Hp)(a:A2)(xs:Z V):Prop :=
 Rd H a (.lst xs)\/∃ (its:Z A1) (n:Nat),K.lookup a=some { cls:=.type "list",data:=.seq its.toArray n }/\xs.length<=sizeLine/\Y0 xs its
def VS(H:Hp):Prop:=∀ b,H b=none\/∃ o xs,H b=some (.frz o (.lst xs))
theorem nU{p:J'}{k:Nat}{fa a:A2}{x:Str}{s₁:A4}{vs:Z A1} 
  (R:K.In s₁.heap) (B:s₁.heap.Ns mainGlobals mg) (hb:s₁.heap.Ns builtinsNs p) (c:∀ x:Str,x≠"__name__" -> p x=bootBuiltins x) (M:s₁.heap.NoLimit) (hg:s₁.gens=#[])
  (ha:s₁.heap.get? a=some { cls:=.type "list",data:=.seq vs.toArray }) (hi:IntsAre vs ns) (hl:ns.length<=sizeLine) (hr:G2 k callerA)
  (F:∀ base:Ff,K.In base->base.Ns mainGlobals mg->J3 P w K mg base CX k fa fd [x] sp) (G:∀ (s:A4) (u:A1),BindsTo s fd ⟨[u],[]⟩ [(x,u)])
  (j:∀ H:Hp,VS H->SL K H a (ns.map V.int)->sp [.ref a] H (λv _=>v=.bl true) λ_ _ _=>False)
  (I:∀ H e s',CX [] H s₁ (λ_ _ _=>False) e s'->False) :
  codeAny (model P w) callerA (.call (.ref fa) ⟨[.ref a],[]⟩) (λr s'=>r=.ok (.ret (.bool true))/\OldK s₁.heap s'.heap/\s'.os=s₁.os/\AllBare s'.gens) s₁:=by
 have rv:=Bf hi;have lenV:=hi.length
 -- from an abstract heap in which nothing but y A may be l
 have E:∀ H:Hp,VS H->SL K H a (ns.map V.int)->Ms P w H s₁.heap->(∀ b,H b≠none->b=a)->(H a≠none->K.lookup a=none) ->
   codeAny (model P w) callerA (.call (.ref fa) ⟨[.ref a],[]⟩) (λr s'=>r=.ok (.ret (.bool true))/\OldK s₁.heap s'.heap/\s'.os=s₁.os/\AllBare s'.gens) s₁:=by
  intro H S hS hok hA f;have i:∀ {b:A2} {o:Obj},s₁.heap.get? b=some o->H b=none->(Bm s₁.heap H).get? b=some o:=λe n=>kQ e n
  have g:∀ {b:A2} {o:Obj} {es:Array DictEntry} {ep:Nat},s₁.heap.get? b=some o->o.data=.dict es ep->H b=none:=λ{b o es ep} e d=>by
   cases q:H b with
   | none=>rfl
   | some u =>
    have e':b=a:=hA b (by rw[q];simp);subst e';rw[ha] at e;cases e;have d':Data.seq vs.toArray _=Data.dict es ep:=d;cases d'
  have D:∀ {b:A2} {m:J'},s₁.heap.Ns b m->(Bm s₁.heap H).Ns b m:=λ{b m} ⟨o,es,ep,e,d,r⟩=>⟨o,es,ep,i e (g e d),d,r⟩
  have N:K.In (Bm s₁.heap H):=λb o e=>i (R b o e) (by
   cases q:H b with
   | none=>rfl
   | some u =>
    have e':b=a:=hA b (by rw[q];simp);subst e';rw[f (by rw[q];simp)] at e;cases e)
  have hM:Mod K mg (Bm s₁.heap H):=⟨N,D B,⟨p,D hb,c⟩,let ⟨T,h1,h2⟩:=M;⟨T,D h1,h2⟩⟩;have C:LW P w K mg (Bm s₁.heap H) callerA [] s₁ H:=⟨rfl,hM,λb o e=>pi e,KN (gp _ _),trivial,λb hb=>absurd (show b∈([]:Z A2) from hb) (by simp),hok,.of_eq hg⟩;refine EG ((F _ N (D B)).run callerA [] s₁ H ⟨[.ref a],[]⟩ [.ref a] [.ref a] _ _ hr C (G s₁ (.ref a)) (.cons rfl .nil) (j H S hS)) λr s' h=>?_
  cases r with
  | error e=>exact(I H e s' h).elim
  | ok fl =>
   cases fl with
   | next=>exact False.elim h
   | brk=>exact False.elim h
   | cont=>exact False.elim h
   | ret u =>
    obtain⟨v,H',os,bare,un,Q,r',q⟩:=h;have W:v=.bl true:=q;subst W;obtain rfl:u=Value.bool true:=r';refine⟨rfl,OldK.of_keep λb o e=>?_,os,bare⟩;cases q:H b with
    | none=>exact un.keep b o e q (by intro z;exact absurd (show b∈([]:Z A2) from z) (by simp)) (by simp)
    | some u =>
     rcases S b with z | ⟨ob,xs,z⟩
     ·rw[q] at z;cases z
     ·have z2:=un.frzs b ob _ z
      obtain⟨e1,_⟩:=hok b _ z;obtain⟨e2,_⟩:=Q b _ z2;rw[e] at e1;cases e1;exact e2
 cases Y:K.lookup a with
 | some o =>
  -- y A is one of y module's own t
  have e:=R a o Y;rw[ha] at e;cases e;refine E (λ_=>none) (λ_=>.inl rfl) (.inr ⟨vs,_,Y,by rw[AD];exact hl,rv⟩) (λb u z=>by have J:(none:C1 HO)=some u:=z;cases J) (λb z=>absurd rfl z) λz=>absurd rfl z
 | none =>
  refine E (λb=>if b=a then some (.frz { cls:=.type "list",data:=.seq vs.toArray } (.lst (ns.map V.int))) else none) (λb=>?_) (.inl (.inr ⟨{ cls:=.type "list",data:=.seq vs.toArray },AF rfl⟩)) (λb u z=>?_) (λb z=>?_) λ_=>Y
  ·by_cases hb:b=a
   ·exact .inr ⟨_,_,AF hb⟩
   ·exact .inl (AL hb)
  ·by_cases hb:b=a
   ·have J:=(AF hb).symm.trans z
    cases J;subst hb;exact⟨ha,by rw[AD];exact hl,vs,_,rv,ha⟩
   ·have J:=(AL hb).symm.trans z
    cases J
  ·by_cases hb:b=a
   ·exact hb
   ·exact absurd (AL hb) z
variable{m:Str}
theorem Zpg{l:PySem.W.OpenLaw}{n k:Nat}{d:DefRec}{K:Params->G8}{CX:D1->A3}{sp:D1->Sp}{x:Str}
  (hn:l.most=some n) (ao:n<=sizeLine) (i:d.params.defaults=[]) (hr:G2 k callerA)
  (t:∀ (w:D1) (h:Ff),YP w h->(K w.params).In h)
  (F:∀ (w:D1) (mg:J') (fa:A2) (h:Ff),(K w.params).In h->h.Ns mainGlobals mg->mg d.name=some (.ref fa) ->
   ∃ fd:C5,(∀ (s:A4) (u:A1),BindsTo s fd ⟨[u],[]⟩ [(x,u)]) /\
    ∀ base:Ff,(K w.params).In base->base.Ns mainGlobals mg->J3 l.prog w (K w.params) mg base (CX w) k fa fd [x] (sp w))
  (j:∀ (w:D1) (H:Hp) (a:A2) (ns:Z Int),ns.length<=n->VS H->SL (K w.params) H a (ns.map V.int)->sp w [.ref a] H (λv _=>v=.bl true) λ_ _ _=>False)
  (I:∀ (w:D1) (H:Hp) (s:A4) (e:A1) (s':A4),CX w [] H s (λ_ _ _=>False) e s'->False) :
  PySem.W.WalkO q loose XP YP l.row.toRowW d [] (λf vs=>PySem.call f vs):=by
 refine Att.attach_call hn i λw s₀ s₁ mg p fa o pm cd au a vs ns G Y ho hd af N z c J hg=>?_
 have R:=t w _ Y;obtain⟨fd,hb,M⟩:=F w mg fa _ R G.T.g N;exact nU R G.T.g G.T.b G.T.builtins G.T.nolimit hg z c (BC J ao) hr M hb (λH S hS=>j w H a ns J S hS) λH e s'=>I w H s₁ e s'
def Kt(s:C4)(j:Nat):C4:=match s with
 | .ClassDef _ _ _ body _ _ _ _ _ _ _=>body.getD j (.Pass ⟨0,0,0,0⟩)
 | _=>.Pass ⟨0,0,0,0⟩
def Vc(s:C4):Arguments:=match s with
 | .FunctionDef _ a _ _ _ _ _ _ _ _=>a
 | _=>{ posonlyargs:=[],args:=[],vararg:=none,kwonlyargs:=[],kw_defaults:=[],kwarg:=none,defaults:=[] }
def Yb(s:C4):Z C4:=match s with
 | .FunctionDef _ _ b _ _ _ _ _ _ _=>b
 | _=>[]
def Z7(s:C4):Fn:=match s with
 | .FunctionDef _ _ _ _ _ _ sc _ _ _=>sc
 | _=>{ kind:=.function,names:=[],isGenerator:=false,isCoroutine:=false }
abbrev Et:A3:=λ_ _ _ _ _ _=>False
abbrev E0:XK:=λ_ _ _=>False
theorem cZ{X:Cx}:Xc Et X E0:=λ_ _ _ _ _ _ _ h=>h.elim
structure LY (K:G8) (x ai:Str) (st:Stmt) (f:Addr) (fd:FuncData):Prop where
 ex:∃ (oc:Value) (od:Option Addr) (kV au pm:Value) (an:Option Addr) (aj ct:Value) (m:Array (Option Value)),
  fd=PySem.W.fnOf x ai (Vc st) (Yb st) (Z7 st) .none kV au pm an aj ct/\K.lookup f=some ⟨oc,od,.func fd,m⟩/\PySem.W.codeIn K aj ai=true
 kp:PySem.W.keepIn K (.ref f)=true
theorem LY.ok{x:Str}{st:C4}{f:A2}{N:Z Str}{k:Nat}(F:LY K x ai st f fd)(S:FnScope N ps (Z7 st))(len:∀ vs H Q E,sp vs H Q E->vs.length=ps.length)
  (a:∀ (aj:A1) (A:C0) (outer:Z Gf) (s:A4) (H:Hp) (vs:Z V) (Q:VK) (E:XK),G2 k (A.deeper (envOfC ai (Z7 st) s.heap.objs.size f aj))->sp vs H Q E ->
   ∃ t,Sv (T6 Et P w K mg base N ai (Z7 st) f aj A outer s H E).nox (Yb st) t/\t { nx:=λ_ H'=>Q .non H',rt:=Q } (G' N vs) H):J3 P w K mg base Et (k+1) f fd ps sp:=by
 obtain⟨oc,od,kV,au,pm,an,aj,ct,m,rfl,lk,af⟩:=F.ex;refine YZ lk af S len λA outer s H vs Q E hr j=>?_
 obtain⟨t,h,q⟩:=a aj A outer s H vs Q E hr j;exact⟨t,h.nox,q⟩
theorem LY.binds{x:Str}{st:C4}{f:A2}(F:LY K x ai st f fd)
  (h:∀ (kV au pm:A1) (an:C1 A2) (aj ct:A1) (us:Z A1),us.length=ps.length->bindArgs (PySem.W.fnOf x ai (Vc st) (Yb st) (Z7 st) .none kV au pm an aj ct) ⟨us,[]⟩=pure (ps.zip us)):M5 K fd ps []:=by
 obtain⟨oc,od,kV,au,pm,an,aj,ct,m,rfl,lk,af⟩:=F.ex;exact .all (h kV au pm an aj ct)
theorem WW{x:Str}{st:C4}{f:A2}{m:Array (C1 A1)}{kV:A1}(l:K.lookup f=some ⟨oc,od,.func (PySem.W.fnOf x ai (Vc st) (Yb st) (Z7 st) .none kV au pm an aj ct),m⟩)
 (c:PySem.W.codeIn K aj ai=true) (k:PySem.W.keepIn K (.ref f)=true):LY K x ai st f (PySem.W.fnOf x ai (Vc st) (Yb st) (Z7 st) .none kV au pm an aj ct):=⟨⟨oc,od,kV,au,pm,an,aj,ct,m,rfl,l,c⟩,k⟩
theorem VO{k:Nat}(hr:G2 k A):A.units+1<cLine:=EY (Nat.add_le_add_left (by decide:1<=64) _) hr.units
theorem U5{n:Nat}(h:n<=1000):n<sizeLine:=EY h (by decide)
section
variable{X:Cx}
theorem pv(i:Nat){x:Str}(hN:X.N[i]?=some x:=by rfl)(hv:MN X.env.scope x:=by ext)(hd:C2 x:=by decide)
 (af:(x==("__classdict__" : Str))=false:=by decide):PE X (.Name x pos) (Ml i):=Jm hN hv hd af
end
theorem cF{A:Prop}(h:B):if false=true then A else B:=by
 rw[AL BY];exact h
theorem YV{A:Prop}(h:A):if true=true then A else B:=by
 rw[AF rfl];exact h
def Zp(H H':Hp):Prop:=∀ b o,H b=some o->H' b=some o
theorem Zp.refl(H:Hp):Zp H H:=λ_ _ h=>h
theorem Zp.trans{H H1 H2:Hp}(a:Zp H H1)(b:Zp H1 H2):Zp H H2:=λc o h=>b c o (a c o h)
theorem Zp.free(e:Zp H H')(h:H' l=Option.none):H l=Option.none:=by
 cases q:H l with
 | none=>rfl
 | some o =>
  rw[e l o q] at h;cases h
theorem mc{R:Result->A4->Prop}{az a iter:C3}{ay:Z C3}{scope:Fn}{pos:Pos}{it B:A1}{env:Gf}(I:Nat->A4->Prop)
  (turn:∀ n s,I n s->wpAny (model prog w) A (pyNext it) (λr s₁=>match r with
   | none=>R (.ok .next) s₁
   | some v=>wpAny (model prog w) A (letOwnedTupleGo a it v) (λ_ s₁'=>wpAny (model prog w) A (assign a env v) (λ_ s₂ =>
    wpAny (model prog w) A (forIn ay true λc r=>if r=true then do let ok ← isTrue c env (eval c env);pure (ForInStep.yield ok) else pure (ForInStep.yield r)) (λok s₃ =>
     if ok=true then wpAny (model prog w) A (eval az env) (λx s₄ =>
      wpAny (model prog w) A (call (.builtin "list.append") [B,x]) (λ_ s₅=>∃ m,m<n/\I m s₅) (λ_ _=>False) s₄) (λ_ _=>False) s₃
     else ∃ m,m<n/\I m s₃) (λ_ _=>False) s₂) (λ_ _=>False) s₁') (λ_ _=>False) s₁) (λ_ _=>False) s)
  (n:Nat) (h:I n s) :
  codeAny (model prog w) A (.compLoop (.ListComp az [⟨a,iter,ay,0⟩] scope pos) 0 it B env) R s:=by
 refine codeAny_loop rfl I (λn s M=>?_) n h;show wpAny _ A ((compTurn (.ListComp az [⟨a,iter,ay,0⟩] scope pos) 0 it B env).onRaise (λx=>do noteFrame x env;theTreesLotGoes x)) _ _ s;refine wpAny_noted ?_;rw[compTurn_list];refine AA (DL (AA (BO (turn n s M) (λr s₁ h₁=>?_) λ_ _ h'=>h'.elim)));cases r with
 | none=>exact AC h₁
 | some v =>
  refine AA (BO h₁ (λ_ s₁' h₁'=>?_) λ_ _ h'=>h'.elim);refine AA (BO h₁' (λ_ s₂ h₂=>AA (BO h₂ (λok s₃ h₃=>?_) λ_ _ h'=>h'.elim)) λ_ _ h'=>h'.elim);cases ok with
  | false=>exact AC ⟨rfl,h₃⟩
  | true =>
   exact AA (AA (BO h₃ (λx s₄ h₄=>AA (BO h₄ (λ_ s₅ h₅=>AC (AC ⟨rfl,h₅⟩)) λ_ _ h'=>h'.elim)) λ_ _ h'=>h'.elim))
def Lw(cells:Z (Str×A2)):Z (Str×NameKind)->Z (Str×A2)->Z (Str×A2)
 | [],B=>B
 | (n,k)::r,B=>Lw cells r (if k==.free then(n,(cells.lookup n).getD 0)::B else B)
theorem Xj(h:∀ y∈sc.names,y.2=.free->∃ c,env.cells.lookup y.1=some c):closureFor sc env=pure (Lw env.cells sc.names []):=by
 unfold closureFor;generalize ([]:Z (Str×A2))=B;generalize hl:sc.names=names at h;clear hl;induction names generalizing B with
 | nil=>rfl
 | cons y r ih =>
  obtain⟨n,k⟩:=y;have a:=λB=>ih B λy hy=>h y (AV _ hy)
  dsimp only at a ⊢;rw[List.forIn_cons];by_cases Y:k=.free
  ·subst Y
   obtain⟨c,hc⟩:=h (n,.free) AW rfl;simp only[cellOf,hc,EK,JU,pure_bind,Lw,JW];exact a _
  ·have hb:(k==NameKind.free)=false:=by simpa using Y
   simp only[hb,FC,HG,pure_bind,Lw];exact a _
theorem N9:∀ (names:Z (Str×NameKind)) (B:Z (Str×A2)),(∀ y∈names,y.2=.free->∃ c,cells.lookup y.1=some c)->(∀ x c,B.lookup x=some c->cells.lookup x=some c) ->
   ∀ x c,(Lw cells names B).lookup x=some c->cells.lookup x=some c
 | [],_,_,ha,x,c,e=>ha x c e
 | (n,k)::r,B,h,ha,x,c,e=>by
   unfold Lw at e;refine N9 r _ (λy hy=>h y (AV _ hy)) (λG c' e'=>?_) x c e;split at e'
   · rename_i Y
     have f:k=.free:=by simpa using Y
     obtain⟨c0,a⟩:=h (n,k) AW f;simp only at a;rw[EQ] at e';split at e'
     · rename_i hx
       have ai:G=n:=by simpa using hx
       subst ai;rw[a] at e';simp at e';rw[a,e']
     · exact ha G c' e'
   · exact ha G c' e'
theorem Fo:∀ (names:Z (Str×NameKind)) (B:Z (Str×A2)) (x:Str),((x,NameKind.free)∈names\/(B.lookup x).isSome=true)->((Lw cells names B).lookup x).isSome=true
 | [],B,x,h=>by
   rcases h with h | h
   · simp at h
   · exact h
 | (n,k)::r,B,x,h=>by
   unfold Lw;refine Fo r _ x ?_;rcases h with h | h
   · rcases AZ.mp h with e | h
     · cases e
       right;simp
     · exact .inl h
   · right
     split
     · rw[EQ]
       split
       · rfl
       · exact h
     · exact h
def W3(X:Cx)(sc:Fn)(N:Z Str)(C:A2)(s:A4)(H:Hp)(fp:Z A2):Cx :=
 { X with N:=N,s₀:=s,H₀:=H,env:=compEnvC sc (Lw X.env.cells sc.names []) C X.env,outer:=X.stack,ex:=fp,fn:=λ_=>false,pn:=[],xe:=λ_ _=>False }
def br(ap sc:Fn)(a N:Z Str)(fs:Z (C1 Nat)):Bool :=
 N.length==fs.length&&(N.zip fs).all (λp=>match p.2 with | none=>true | some j=>a[j]?==some p.1&&sc.names.lookup p.1==some .free) &&
 sc.names.all (λy=>y.2 != .cell&&(y.2 != .free||(ap.names.lookup y.1==some .cell||ap.names.lookup y.1==some .free))&&(y.2 != .local||sc.names.lookup y.1==some .local))&&sc.kind==.function
structure CompOk (ap sc:Scope) (a N:List Str) (fs:List (Option Nat)):Prop where
 len:N.length=fs.length
 frees:∀ (i j:Nat),fs[i]?=some (some j)->∃ x,N[i]?=some x/\a[j]?=some x/\sc.names.lookup x=some .free
 nocell:∀ y∈sc.names,y.2≠.cell
 par:∀ y∈sc.names,y.2=.free->ap.names.lookup y.1=some .cell\/ap.names.lookup y.1=some .free
 loc:∀ y∈sc.names,y.2=.local->sc.names.lookup y.1=some .local
 kind:sc.kind=.function
theorem CompOk.of{a N:Z Str}(h:br ap sc a N fs=true):CompOk ap sc a N fs:=by
 unfold br at h;simp only[AY,DO,CW,bne_iff_ne,ne_eq,GB] at h;obtain⟨⟨⟨h1,h2⟩,h3⟩,h4⟩:=h;refine⟨h1,λi j e=>?_,λy hy=>(h3 y hy).1.1,λy hy e=>?_,λy hy e=>?_,h4⟩
 ·have hi:i<fs.length:=(AE.mp e).1
  have hN:i<N.length:=by lia
  have hz:(N.zip fs)[i]?=some (N[i],some j):=by
   rw[List.getElem?_zip_eq_some];exact⟨by simp[hN],e⟩
  have:=h2 _ (AI hz);simp only[AY,DO] at this;exact⟨N[i],by simp[hN],this.1,this.2⟩
 ·rcases(h3 y hy).1.2 with z | z
  ·exact absurd e z
  ·exact z
 ·rcases(h3 y hy).2 with z | z
  ·exact absurd e z
  ·exact z
theorem Gn{x:Str}{k:NameKind}(a:∀ y∈sc.names,y.2≠.cell)(h:(relabel sc env).names.lookup x=some k)(Y:k=.cell\/k=.free):(x,NameKind.free)∈sc.names:=by
 have hm:=BU h;unfold relabel at hm;simp only[CL] at hm;obtain⟨⟨n,k'⟩,hy,e⟩:=hm;dsimp only at e;split at e
 ·rename_i hc
  simp only[AY,DO] at hc;cases e;rw[hc.1.1] at hy;exact hy
 ·cases e
  rcases Y with z | z
  ·exact absurd z (a _ hy)
  ·rw[z] at hy;exact hy
theorem l'{x:Str}(h:sc.names.lookup x=some .free):(relabel sc env).names.lookup x=some .cell\/(relabel sc env).names.lookup x=some .free:=by
 unfold relabel;dsimp only;generalize sc.names=names at h;induction names with
 | nil=>simp at h
 | cons y r ih =>
  obtain⟨n,k⟩:=y;rw[EQ] at h;rw[CC];split at h
  ·rename_i hx
   cases h;have:x=n:=by simpa using hx
   subst this;dsimp only;split
   ·left;rw[EQ];simp
   ·right;rw[EQ];simp
  ·rename_i hx
   dsimp only;split
   ·rw[EQ,hx];exact ih h
   ·rw[EQ,hx];exact ih h
section
variable(P:Df)(w:D1)
end
section
variable{a:A2}{o:HO}
end
section
variable{x e:A2}{o':HO}
end
section
variable{fs aM aS:Z A2}{H2:Hp}{h1 h2:Ff}{a x e:A2}{o:HO}
end
section
variable{X:Cx}{σ:Z (C1 V)}
end
section
variable{X:Cx}
variable{a b:C3}
variable{tA aI:TT}
end
section
variable{X:Cx}{a:A2}{xs:Z V}
end
section
variable{X:Cx}
end
section
variable{X:Cx}{st:C4}{ak:Z C4}{t u:TS}
end
section
variable{X:Cx}
end
section
variable{X:Cx}
end
section
variable{X:Cx}{a b c:C3}{tc:TE}
end
section
variable{x f:A2}{v:A1}
end
section
variable{a:A2}{fs aM:Z (Str×V)}
end
section
variable{X:Cx}{a:A2}{fs:Z (Str×V)}{f:Str}{v:V}
end
section
variable{X:Cx}{o:C3}{f:Str}
end
section
variable{X:Cx}{c:A1}{b:Bool}
end
section
variable{X:Cx}{t:TA}
end
section
variable{X:Cx}
end
section
variable{X:Cx}{k:Nat}{f:A2}{E:XK}{x:Str}{o:C3}{t:TA}
end
section
variable{X:Cx}{k:Nat}{f:A2}{E:XK}{x:Str}{o:C3}{aU:Z Keyword}{t tk:TA}
variable{gV:Z V->Z V->Z V}
end
section
variable{X:Cx}{x:Str}{t:TA}{id:String}{r:Z V->Hp->VK->Prop}
end
section
variable{κ:Type}[DecidableEq κ]
def Ey(kvs:Z (κ×V))(k:κ):C1 V:=(kvs.find? λkv=>decide (kv.1=k)).map (·.2)
def Kd(kvs:Z (κ×V))(k:κ)(v:V):Z (κ×V) :=
 if(kvs.any λkv=>decide (kv.1=k))=true then kvs.map (λkv=>if kv.1=k then(kv.1,v) else kv) else kvs++[(k,v)]
theorem Xk{p:κ×V}{r:Z (κ×V)}{k:κ}(e:p.1=k):Ey (p::r) k=some p.2:=by simp[Ey,HK,e]
theorem P6{p:κ×V}{r:Z (κ×V)}{k:κ}(e:¬ p.1=k):Ey (p::r) k=Ey r k:=by simp[Ey,HK,e]
theorem I0(k:κ):∀ kvs:Z (κ×V),(kvs.any λkv=>decide (kv.1=k))=(Ey kvs k).isSome
 | []=>rfl
 | p::r=>by
  rw[HD];by_cases e:p.1=k
  ·simp only[Xk e,AK e,Bool.true_or,Option.isSome_some]
  ·rw[P6 e,AH e,Bool.false_or];exact I0 k r
theorem Nk(kvs:Z (κ×V))(k:κ)(v:V):(Kd kvs k v).length<=kvs.length+1:=by
 unfold Kd;split
 ·rw[AD];lia
 ·rw[AX,BH,HJ];lia
theorem hZ{kvs:Z (κ×V)}{k:κ}(v:V)(h:Ey kvs k=none):Kd kvs k v=kvs++[(k,v)]:=by
 unfold Kd;rw[I0,h];exact AL (by decide)
theorem O8.isSome_eq{o:C1 V}{u:C1 A1}(r:O8 o u):o.isSome=u.isSome:=by
 cases o with
 | none=>cases u with
  | none=>rfl
  | some _=>exact(show False from r).elim
 | some _=>cases u with
  | none=>exact(show False from r).elim
  | some _=>rfl
theorem KV.val{kvs:Z (κ×V)}{vs:Z (κ×A1)}(r:KV kvs vs)(k:κ):O8 (Ey kvs k) (valueAt vs k):=by
 unfold KV at r;induction r with
 | nil=>exact FL
 | @cons p q ps qs h t ih =>
  obtain⟨h1,h2⟩:=h;by_cases e:p.1=k
  ·have e':q.1=k:=h1.symm.trans e
   have b:valueAt (q::qs) k=some q.2:=by simp[valueAt,HK,e']
   rw[Xk e,b];exact h2
  ·have e':¬ q.1=k:=λz=>e (h1.trans z)
   have b:valueAt (q::qs) k=valueAt qs k:=by simp[valueAt,HK,e']
   rw[P6 e,b];exact ih
theorem KV.any{kvs:Z (κ×V)}{vs:Z (κ×A1)}(r:KV kvs vs)(k:κ):(kvs.any λkv=>decide (kv.1=k))=vs.any λkv=>decide (kv.1=k):=by
 unfold KV at r;induction r with
 | nil=>rfl
 | cons h t ih=>rw[HD,HD,ih,h.1]
theorem KV.repl{kvs:Z (κ×V)}{vs:Z (κ×A1)}(r:KV kvs vs)(k:κ)(m:Yi y u) :
  KV (kvs.map λkv=>if kv.1=k then(kv.1,y) else kv) (vs.map λkv=>if kv.1=k then(kv.1,u) else kv):=by
 unfold KV at r ⊢;induction r with
 | nil=>exact .nil
 | @cons p q ps qs h t ih =>
  rw[CC,CC];refine .cons ?_ ih;obtain⟨h1,h2⟩:=h;by_cases e:p.1=k
  ·rw[AF e,AF (h1.symm.trans e)];exact⟨h1,m⟩
  ·rw[AL e,AL (λz=>e (h1.trans z))];exact⟨h1,h2⟩
theorem KV.put{kvs:Z (κ×V)}{vs:Z (κ×A1)}(r:KV kvs vs)(k:κ)(m:Yi y u):KV (Kd kvs k y) (stored vs k u):=by
 unfold Kd stored;rw[r.any k];by_cases e:(vs.any λkv=>decide (kv.1=k))=true
 ·rw[AF e,AF e];exact r.repl k m
 ·rw[AL e,AL e];exact Paired.snoc r ⟨rfl,m⟩
theorem KV.length{kvs:Z (κ×V)}{vs:Z (κ×A1)}(r:KV kvs vs):kvs.length=vs.length:=JJ r
end
variable{r:A1}
theorem VL{k:Vp}(r:Yi (kV k) u):(Ve P w).is k u=true:=by
 cases k with
 | inl i=>obtain⟨t,e⟩:=(show ∃ t,u=Value.int i t from r);subst e;exact oQ P w i t
 | inr x=>obtain⟨t,e⟩:=(show ∃ t,u=Value.str x t from r);subst e;exact gY P w x t
theorem Ao:∀ {ks:Z Vp} {us:Z A1},Y0 (ks.map kV) us->ItemsAre (Ve P w) ks us
 | [],_,r=>by rw[KH] at r;cases r;exact .nil
 | k::ks,_,r=>by
  rw[CC] at r;cases r with
  | cons h t=>exact .cons (VL h) (Ao t)
abbrev KT(H:Hp):Z (Z Vp×V)->Z (Z Vp×A2×A1)->Prop:=Paired λp q=>p.1=q.1/\H q.2.1=some (.tup (p.1.map kV))/\Yi p.2 q.2.2
theorem KT.val(r:KT H kvs xs)(k:Z Vp):O8 (Ey kvs k) ((atKey xs k).map (·.2)):=by
 induction r with
 | nil=>exact FL
 | @cons p q ps qs h t ih =>
  obtain⟨h1,_,h2⟩:=h;by_cases e:p.1=k
  ·have e':q.1=k:=h1.symm.trans e
   have b:atKey (q::qs) k=some q.2:=by simp[atKey,HK,e']
   rw[Xk e,b];exact h2
  ·have e':¬ q.1=k:=λz=>e (h1.trans z)
   have b:atKey (q::qs) k=atKey qs k:=by simp[atKey,HK,e']
   rw[P6 e,b];exact ih
theorem KT.repl(r:KT H kvs xs)(k:Z Vp)(m:Yi y u) :
  KT H (kvs.map λkv=>if kv.1=k then(kv.1,y) else kv) (xs.map (putAt k u)):=by
 induction r with
 | nil=>exact .nil
 | @cons p q ps qs h t ih =>
  rw[CC,CC];refine .cons ?_ ih;obtain⟨h1,h2,h3⟩:=h;unfold putAt;by_cases e:p.1=k
  ·rw[AF e,AF (h1.symm.trans e)];exact⟨h1,h2,m⟩
  ·rw[AL e,AL (λz=>e (h1.trans z))];exact⟨h1,h2,h3⟩
theorem KT.put(r:KT H kvs xs)(k:Z Vp){b:A2}(hb:H b=some (.tup (k.map kV)))(m:Yi y u) :
  KT H (Kd kvs k y) (storedH xs k b u):=by
 have e:(kvs.any λkv=>decide (kv.1=k))=(atKey xs k).isSome:=by
  rw[I0,(r.val k).isSome_eq,Option.isSome_map]
 unfold Kd storedH;rw[e];by_cases q:(atKey xs k).isSome=true
 ·rw[AF q,AF q];exact r.repl k m
 ·rw[AL q,AL q];exact Paired.snoc r ⟨rfl,hb,m⟩
theorem KT.keeps(r:KT H kvs xs)(ht:∀ b ys,H b=some (.tup ys)->H' b=some (.tup ys)):KT H' kvs xs :=
 Paired.mapP r λ_ _ z=>⟨z.1,ht _ _ z.2.1,z.2.2⟩
section
variable{a:A2}
theorem bI{u:HO}(ok:Ms P w H h)(e:Rd H a u):Yl P w H h a u:=e.ok ok
theorem d0{kvs:Z (Vp×V)}(ok:Ms P w H h)(e:Rd H a (.dK kvs)):kvs.length<=sizeLine/\(a==sysModules)=false/\∃ vs,KV kvs vs/\h.DictOf (Ve P w) a vs :=
 show Yl P w H h a (.dK kvs) from bI ok e
theorem fN{kvs:Z (Vp×V)}(ok:Ms P w H h)(e:H a=some (.dK kvs)):kvs.length<=sizeLine/\(a==sysModules)=false/\∃ vs,KV kvs vs/\h.DictOf (Ve P w) a vs:=d0 ok (.inl e)
theorem Cq{ks:Z Vp}(ok:Ms P w H h)(e:H a=some (.tup (ks.map kV))):(tupleKind (Ve P w)).is h ks a:=by
 obtain⟨_,its,r,o,h1,h2,n,h3⟩:=(show Yl P w H h a (.tup (ks.map kV)) from ok a _ e);exact⟨o,its.toArray,n,h1,h2,h3,by simpa using Ao r⟩
theorem cJ(ok:Ms P w H h)(e:Rd H a (.dT kvs)):kvs.length<=sizeLine/\(a==sysModules)=false /\
  ∃ xs,KT H kvs xs/\h.DictOfH (tupleKind (Ve P w)) a xs:=by
 obtain⟨z,y,xs,r,o,es,ep,h1,h2,h3,h4,h5⟩:=(show Yl P w H h a (.dT kvs) from bI ok e);refine⟨z,y,xs,r,o,es,ep,h1,h2,h3,h4,λx hx=>?_,h5⟩;have all:∀ {l:Z (Z Vp×V)} {m:Z (Z Vp×A2×A1)},KT H l m->∀ x∈m,(tupleKind (Ve P w)).is h x.1 x.2.1:=by
  intro l m q;induction q with
  | nil=>intro x hx;exact nomatch hx
  | @cons p q ps qs hq t ih =>
   intro x hx;rcases AZ.mp hx with e | hx
   ·subst e
    exact Cq ok (by rw[← hq.1];exact hq.2.1)
   ·exact ih x hx
 exact all r x hx
theorem cg(ok:Ms P w H h)(e:H a=some (.dT kvs)):kvs.length<=sizeLine/\(a==sysModules)=false /\
 ∃ xs,KT H kvs xs/\h.DictOfH (tupleKind (Ve P w)) a xs:=cJ ok (.inl e)
end
def QQ(H:Hp)(a:A2)(y:V)(r:C1 V):Prop :=
 (∃ kvs k,Rd H a (.dK kvs)/\y=kV k/\r=Ey kvs k)\/∃ kvs k b,Rd H a (.dT kvs)/\y=.ref b/\H b=some (.tup (k.map kV))/\r=Ey kvs k
def RA(H:Hp)(a:A2)(y v:V)(H':Hp):Prop :=
 (∃ kvs k,H a=some (.dK kvs)/\y=kV k/\kvs.length<sizeLine/\H'=Yr H a (.dK (Kd kvs k v))) \/
 ∃ kvs k b,H a=some (.dT kvs)/\y=.ref b/\H b=some (.tup (k.map kV))/\kvs.length<sizeLine/\H'=Yr H a (.dT (Kd kvs k v))
theorem QQ.t{a b:A2}{k:Z Vp}(e:H a=some (.dT kvs))(F:H b=some (.tup (k.map kV))):QQ H a (.ref b) (Ey kvs k):=.inr ⟨kvs,k,b,.inl e,rfl,F,rfl⟩
theorem RA.t{a b:A2}{k:Z Vp}{v:V}(e:H a=some (.dT kvs))(F:H b=some (.tup (k.map kV)))(hl:kvs.length<sizeLine) :
 RA H a (.ref b) v (Yr H a (.dT (Kd kvs k v))):=.inr ⟨kvs,k,b,e,rfl,F,hl,rfl⟩
section
variable{X:Cx}{a:A2}{v:V}{o:C1 V}
theorem C'.big(I:C' X aa σ H s):sysModules<s.heap.objs.size:=by
 have h:mainGlobals<s.heap.objs.size:=(I.mod.glob.keeps I.bk).lt;exact LG (by decide) h
theorem lO(hu:A.units+1<cLine)(I:C' X aa σ H s)(g:QQ H a y o)(m:Yi y u)(h:∀ s',C' X aa σ H s'->Q (.bool o.isSome) s') :
  wpAny (model X.prog X.w) A (compareOp .In u (.ref a)) Q E s:=by
 rcases g with⟨kvs,k,e,D,l⟩ | ⟨kvs,k,b,e,D,F,l⟩
 ·subst D
  obtain⟨z,hd,vs,d,dd⟩:=d0 I.hok e;refine wpAny_in_of (VL m) hd dd.mapOf ?_;rw[← (d.val k).isSome_eq,← l];exact h _ (I.tok _)
 ·subst D
  cases (show u=Value.ref b from m);obtain⟨z,hd,xs,d,dd⟩:=cJ I.hok e;refine wpAny_in_heap (tupleKind_room_in1 hu) (Cq I.hok F) hd dd ?_;have q:=(d.val k).isSome_eq;rw[Option.isSome_map] at q;rw[← q,← l];exact h _ (I.tok _)
theorem Cp{ob:HO}(I:C' X aa σ H s)(mu:RT (H a))(hs:SameBut a s.heap h')(he:∃ q,h'.get? a=some q)(new:Yl X.prog X.w (Yr H a ob) h' a ob) :
  C' X aa σ (Yr H a ob) { s with heap:=h',toks:=t' } :=
 I.write (x:=a) (e:=a) mu (.inl rfl) (λb q hb z=>(hs.2 b hb).trans z) he new
theorem lQ{kvs:Z (Vp×V)}{vs:Z (Vp×A1)}(z:kvs.length<=sizeLine)(hd:(a==sysModules)=false)(d:KV kvs vs)(dd:h'.DictOf (Ve P w) a vs) :
 Yl P w H' h' a (.dK kvs):=⟨z,hd,vs,d,dd⟩
theorem ge{Q:Unit->A4->Prop}(hu:A.units+1<cLine)(I:C' X aa σ H s)(g:RA H a y v H')(m:Yi y u)(rv:Yi v r)(h:∀ s',C' X aa σ H' s'->Q () s') :
  wpAny (model X.prog X.w) A (setItem (.ref a) u r) Q E s:=by
 rcases g with⟨kvs,k,e,D,l,f⟩ | ⟨kvs,k,b,e,D,F,l,f⟩
 ·subst D f
  obtain⟨z,hd,vs,d,dd⟩:=fN I.hok e;have hz:vs.length<=sizeLine:=by rw[← d.length];exact z
  have hl:(Kd kvs k v).length<=sizeLine:=by have:=Nk kvs k v;lia
  refine wpAny_setItem_pairs (hsz:=hz) (VL m) dd λh' ac hs=>h _ ?_
  have he:∃ q,h'.get? a=some q:=let ⟨q,_,_,hq,_⟩:=ac;⟨q,hq⟩
  exact Cp I (by rw[e];exact FL) hs he (lQ hl hd (d.put k rv) ac)
 ·subst D f
  cases (show u=Value.ref b from m);obtain⟨z,hd,xs,d,dd⟩:=cg I.hok e;have hz:xs.length<=sizeLine:=by rw[← JJ d];exact z
  have hl:(Kd kvs k v).length<=sizeLine:=by have:=Nk kvs k v;lia
  refine wpAny_setItem_heap (hsz:=hz) (tupleKind_room_in1 hu) (Cq I.hok F) dd λh' ac hs=>h _ ?_
  obtain⟨q,es,ep,hq,h2,h3,h4,_,h5⟩:=ac;refine Cp I (by rw[e];exact FL) hs ⟨q,hq⟩ ⟨hl,hd,_,(d.put k F rv).keeps λc ys ec=>?_,q,es,ep,hq,h2,h3,h4,h5⟩;rw[Zc (bG ec e (λz=>nomatch z))];exact ec
end
section
variable{X:Cx}{a:A2}{kvs:Z (Vp×V)}{k:Vp}
end
def jH(ty td:TE):TE:=λσ H Q=>ty σ H λy H1=>td σ H1 λx H2=>∃ a o,x=.ref a/\QQ H2 a y o/\Q (.bl o.isSome) H2
def gU(td ty tv:TE):TS:=λD σ H=>tv σ H λv H1=>td σ H1 λx H2=>ty σ H2 λy P=>∃ a H4,x=.ref a/\RA P a y v H4/\D.nx σ H4
section
variable{X:Cx}{o i:C3}
theorem lz(hu:X.A.units+1<cLine)(hi:PE X i ty)(ho:PE X o td):PC X .In i o (jH ty td):=by
 intro aa s σ H Q I h;refine Wo (hi aa s σ H _ I h) λb s1 ⟨y,H1,I1,m,M⟩=>Wo (ho aa s1 σ H1 _ I1 M) λu s2 ⟨x,H2,I2,S,a,E,ex,g,q2⟩=>?_
 subst ex;obtain rfl:u=Value.ref a:=S;exact lO hu I2 g m λG I3=>⟨.bl E.isSome,H2,I3,rfl,q2⟩
theorem mQ(hu:X.A.units+1<cLine)(ho:PE X o td)(hi:PE X i ty)(hv:PE X aq tv)(hs:swapsWith aq (some (.Subscript o i am)) pos.line X.env=pure false) :
  PS X (.Assign [.Subscript o i am] aq pos) (gU td ty tv):=by
 intro aa s σ H D I h;refine wpAny_Assign_Subscript (Wo (hv aa s σ H _ I h) λr s1 ⟨v,H1,I1,rv,M⟩=>Wo (ho aa s1 σ H1 _ I1 M) λu s2 ⟨x,H2,I2,S,q2⟩=>Wo (hi aa s2 σ H2 _ I2 q2) λb G ⟨y,P,I3,m,a,H4,ex,g,C⟩=>?_) hs;subst ex;obtain rfl:u=Value.ref a:=S;exact ge hu I3 g m rv λs4 I4=>⟨σ,H4,I4,C⟩
end
theorem mU(h:Ff)(hb:sysModules<h.objs.size):Yl P w H (h.push { cls:=.type "dict",data:=.dict #[] }) h.objs.size (.dT []) :=
 ⟨CP _,CJ.mpr (AO (BG hb)),[],.nil,_,#[],0,AQ _ rfl,⟨rfl,rfl,rfl⟩,rfl,rfl,EB⟩
section
variable{X:Cx}
end
section
variable{X:Cx}{a:A2}{d:V}{o:C1 V}
end
section
variable{X:Cx}{o f:C3}{tx:TE}
end
section
variable{X:Cx}{a:A2}{kvs:Z (Vp×V)}
end
section
variable{X:Cx}{a:A2}
end
end L2
variable{t:L2.TA}{Q:Unit->PySem.Shared->Prop}{g:Int->Int->L2.V}{aD:PySem.Pos}{xs:Z L2.V}{t':L2.TT}{is:Z Nat}{Lq_:PySem.Addr}{oe:PySem.Obj}{cls:PySem.Value×C1 PySem.Value}{H0:L2.Hp}{fr:Bool}
namespace Att
open PySem PySem.W PySem.Calls PyProof.Rows
section
variable{K:Frag}
end
end Att
namespace L2
open PySem PySem.Spec PyProof.Rows
section
variable{X:Cx}
end
section
variable{κ:Type}[DecidableEq κ]
end
structure G1 (k:Nat) (A:Around):Prop where
 dp:A.depth+3*k+5<recursionLimit
 un:A.units+16*k+200<cLine
 gd:A.guards=some []
theorem G1.mono{k:Nat}(r:G1 k A)(h:j<=k:=by lia):G1 j A:=⟨by have:=r.dp;lia,by have:=r.un;lia,r.gd⟩
theorem G1.deeper{k:Nat}(r:G1 (k+1) A)(env:Gf):G1 k (A.deeper env) :=
 ⟨by have:=r.dp;show A.depth+1+3*k+5<_;lia,by have:=r.un;show A.units+3+16*k+200<_;lia,r.gd⟩
theorem G1.depth{k:Nat}(r:G1 k A):A.depth<recursionLimit:=by have:=r.dp;lia
theorem G1.units{k:Nat}(r:G1 k A):A.units+64<cLine:=by have:=r.un;lia
def A7(H:Hp)(c:C1 A1):Prop:=c=some .none\/∃ e2 o2 v2,c=some (.ref e2)/\H e2=some (.frz o2 (.own 0))/\o2.data=.fields v2/\v2[2]?=some .none
theorem A7.mono{c:C1 A1}(h:A7 H c)(s:Zp H H'):A7 H' c:=h.imp id λ⟨e2,o2,v2,h1,h2,h3⟩=>⟨e2,o2,v2,h1,s _ _ h2,h3⟩
def PH(A:C0)(fs:Z A2)(H:Hp)(h:Ff):Prop:=A.handled=none\/∃ e oe ve,A.handled=some (.ref e)/\h.get? e=some oe/\oe.data=.fields ve/\A7 H ve[2]?/\((H e=none/\e∉fs)\/∃ u,H e=some (.frz oe u))
def NL(A:C0)(H:Hp):Prop:=A.handled=none\/∃ e oe ve u,A.handled=some (.ref e)/\H e=some (.frz oe u)/\oe.data=.fields ve/\A7 H ve[2]?
theorem NL.mono(h:NL A H)(s:Zp H H'):NL A H':=h.imp id λ⟨e,oe,ve,u,h1,h2,h3,h4⟩=>⟨e,oe,ve,u,h1,s _ _ h2,h3,h4.mono s⟩
theorem NL.k{fs:Z A2}(z:NL A H)(ok:Ms P w H h):PH A fs H h:=z.imp id λ⟨e,oe,ve,u,h1,h2,h3,h4⟩=>⟨e,oe,ve,h1,(show Yl P w H h e (.frz oe u) from ok e _ h2).1,h3,h4,.inr ⟨u,h2⟩⟩
def qJ(A:C0)(fs:Z A2)(H:Hp)(h:Ff):Prop:=A.handled=none\/∃ e oe ve,A.handled=some (.ref e)/\h.get? e=some oe/\oe.data=.fields ve/\ve[2]?=some .none/\H e=none/\e∉fs
def SH(X:Cx):Prop:=∀ aa σ H s,C' X aa σ H s->PH X.A (Eu X.stack) H s.heap
def QM(X:Cx):Prop:=∀ aa σ H s,C' X aa σ H s->qJ X.A (Eu X.stack) H s.heap
def MM(X:Cx):Prop:=PH X.A X.fs X.H₀ X.s₀.heap/\X.ex=[]
theorem QM.c{X:Cx}(h:QM X):SH X:=λ_ _ _ _ I=>(h _ _ _ _ I).imp id λ⟨e,oe,ve,h1,h2,h3,h4,h5⟩=>⟨e,oe,ve,h1,h2,h3,.inl h4,.inl h5⟩
theorem cu{fs:Z A2}(k:PH A fs H h)(hx:∀ e o,h.get? e=some o->H e=none->A.handled=some (.ref e)->e∉ex)(u:Un fs ex H H' h h')(ok:Ms P w H' h'):HdS A h' :=
 k.imp id λ⟨e,oe,ve,h1,h2,h3,h4,h5⟩=>⟨e,h1,oe,ve,h5.elim (λ⟨z1,z2⟩=>u.keep e oe h2 z1 z2 (hx e oe h2 z1 h1)) (λ⟨v,z⟩=>(show Yl P w H' h' e (.frz oe v) from ok e _ (u.frzs e oe v z)).1),h3,h4.imp id λ⟨e2,o2,v2,y1,y2,y3⟩=>⟨e2,o2,v2,y1,(show Yl P w H' h' e2 (.frz o2 (.own 0)) from ok e2 _ (u.frzs e2 o2 _ y2)).1,y3⟩⟩
theorem MM.n{X:Cx}(k:MM X):MU X:=λ_ _ _ _ I=>cu k.1 (λe o _ _ _=>by rw[k.2];simp) I.base I.hok
theorem G2.n{k:Nat}(r:G2 k A):G1 k A:=⟨r.dp,r.un,r.gd⟩
structure LD (P:Program) (w:World) (K:G8) (mg:J') (base:Heap) (CX:A3) (k:Nat) (f:Addr) (fd:FuncData) (ps:List Str) (sp:Sp):Prop where
 len:∀ vs H Q E,sp vs H Q E->vs.length=ps.length
 run:∀ (A:Around) (outer:List Env) (s:Shared) (H:Hp) (args:Args) (us:List Value) (vs:List V) (Q:VK) (E:XK),G1 k A->PH A (Eu outer) H s.heap->LW P w K mg base A outer s H->BindsTo s fd args (ps.zip us)->Y0 vs us->sp vs H Q E ->
  codeAny (model P w) A (.call (.ref f) args) (CR CX outer P w H s Q E) s
section
variable{X:Cx}{k:Nat}{f:A2}{E:XK}{x m:Str}{o:C3}
theorem n7{Q:VK}(F:LD X.prog X.w X.K X.mg X.base CX k f fd ps sp)(hr:G1 k X.A)(Y:SH X)(hb:M5 X.K fd ps ds)(hd:Y0 dvs ds)(hx:Xc CX X E)
  (I:C' X aa σ H s) (r:Y0 vs us) (h:sp (vs++dvs) H Q E):wpAny (model X.prog X.w) X.A (call (.ref f) us) (EP X aa σ Q) X.xe s:=by
 have r2:Y0 (vs++dvs) (us++ds):=r.append hd;have hl:(us++ds).length=ps.length:=by rw[← r2.length];exact F.len _ _ _ _ h
 refine FK (EG (F.run X.A X.stack s H ⟨us,[]⟩ (us++ds) (vs++dvs) Q E hr (Y _ _ _ _ I) I.env0 (hb s us I.kIn hl) r2 h) λr s' hq=>?_);cases r with
 | error e=>exact hx aa σ H s e s' I hq
 | ok fl =>
  cases fl with
  | ret u=>exact I.after hq
  | next=>exact False.elim hq
  | brk=>exact False.elim hq
  | cont=>exact False.elim hq
theorem li(F:LD X.prog X.w X.K X.mg X.base CX k f fd ps sp)(hr:G1 k X.A)(hh:SH X)(hg:Gl X x)(hm:X.mg x=some (.ref f))(Y:PySem.W.keepIn X.K (.ref f)=true)(hb:M5 X.K fd ps ds)(hd:Y0 dvs ds)(hx:Xc CX X E)
  (ha:PA X (e::es) t) (P:C2 x:=by decide) (he:Z0 X.env e es:=by rfl) (ac:Z1 pos X.env es:=by rfl) :
  PE X (.Call (.Name x p) (e::es) [] pos) (UF sp dvs E t):=by
 intro aa s σ H Q I h;refine CN (V8 I hg hm ?_ P);refine GA (h₀:=X.base) I.ok.mod.kin Y (Wo (ha pos aa s σ H _ I h) λus s1 ⟨vs,H1,I1,r,q⟩=>⟨I1.kIn,?_⟩) he ac;exact n7 F hr hh hb hd hx I1 r q
end
def Dc(CX:A3)(P:Df)(w:D1)(K:G8)(mg:J')(base:Ff)(N:Z Str)(ai:Str)(scope:Fn)(f:A2)(cd:A1)(A:C0)(outer:Z Gf)(s:A4)(H:Hp)(E:XK):Cx where
 prog:=P
 w:=w
 K:=K
 mg:=mg
 base:=base
 A:=A.deeper (envOfC ai scope s.heap.objs.size f cd)
 N:=N
 s₀:=s
 H₀:=H
 env:=envOfC ai scope s.heap.objs.size f cd
 outer:=outer
 stack:=envOfC ai scope s.heap.objs.size f cd::outer
 ex:=[]
 calm:=false
 fn:=λ_=>true
 pn:=[]
 xe:=λe s'=>wpAny (model P w) (A.deeper (envOfC ai scope s.heap.objs.size f cd)) (leaving (envOfC ai scope s.heap.objs.size f cd) e) (λ_ c=>CX outer H s E e c) (λe' c=>CX outer H s E e' c) s'
variable{Y:Cx}{g:TG}{Q:VK}
theorem oz{N:Z Str}{f:A2}{E:XK} 
  (S:FnScope N ps scope) (C:LW P w K mg base A outer s H) (hl:vs.length=ps.length) (r:Y0 vs us)
  (x:InCallC s s.heap.objs.size (bindL (envOfC ai scope s.heap.objs.size f cd).kindOf (ps.zip us) λ_=>none) (cellsFrom (s.heap.objs.size+1) scope.names []) (bindC (envOfC ai scope s.heap.objs.size f cd).kindOf (ps.zip us) λ_=>none) s1) :
  C' (Dc CX P w K mg base N ai scope f cd A outer s H E) [] (G' N vs) H s1:=by
 have ac:ps.length<=N.length:=by have:=DY List.length S.pre;rw[CM] at this;lia
 obtain⟨h1,tk,rfl,Y⟩:=x.done;have g:∀ b:A2,b∉(Dc CX P w K mg base N ai scope f cd A outer s H E).ex:=λb z=>absurd (show b∈([]:Z A2) from z) (by simp)
 refine⟨⟨C.mod,S.kind,rfl,rfl,AT _,λy z c h1 h2=>?_,λy hy=>?_,λy c _ h=>?_,(λz=>nomatch z),Around.frames_deeper C.frames,.inr ⟨rfl,rfl⟩,λb z=>absurd z (g b),C.bs,C.bsz,λb _ _=>g b,λb z=>absurd z (g b),C.funs,C.frf⟩,
  rfl,C.bare,Un.kept Y,⟨_,x.toInCall.ns,λi y v h1 h2 h3=>?_⟩,λy c h=>⟨_,x.cell y c h⟩,C.hok.fresh (AT _),λy c h=>?_,λp hp=>absurd (show p∈([]:IA) from hp) (by simp),C.hok.kept Y,?_⟩
 ·exact name_of_addr x.apart (BU h1) (BU h2)
 ·have hy:scope.names.lookup y=some .cell\/scope.names.lookup y=some .free:=hy
  rcases hy with hy | hy
  ·exact Ko hy
  ·exact absurd rfl (S.nofree _ (BU hy))
 ·exact DX (x.above y c (BU h))
 ·have hi:i<vs.length:=by
   unfold G' at h2;by_cases hi:i<vs.length
   ·exact hi
   ·rw[DC (by simpa using hi)] at h2
    rw[FS] at h2;split at h2<;>cases h2
  have ha:vs[i]?=some v:=by
   unfold G' at h2;rw[BW (by simpa using hi),AM] at h2;cases e:vs[i]? with
   | none=>rw[e] at h2;cases h2
   | some a=>rw[e] at h2;cases h2;rfl
  obtain⟨u,hu,rv⟩:=r.get ha;have hp:ps[i]?=some y:=by
   rw[← S.pre,List.getElem?_take_of_lt (by lia)];exact h1
  have d:ps.Nodup:=by rw[← S.pre];exact S.nd.sublist (JL _ _)
  refine⟨u,rv,?_⟩;rcases S.par y (AI hp) with k | k
  ·exact .inl ⟨k,L5 d hp hu k⟩
  ·obtain⟨c,e⟩:=Ko (n:=s.heap.objs.size+1) k
   refine .inr ⟨.inl k,c,e,?_⟩;have q:=x.cell y c e;rw[N7 d hp hu (by show scope.names.lookup y≠_;rw[k];decide)] at q;exact q
 ·exact C.hok.fresh (DX (x.above y c (BU h)))
 ·unfold G'
  show _=N.length;rw[AX,AD,EW];lia
theorem pO{k:Nat}{f:A2}{params:Arguments}{U kV:A1} 
  {m:Array (C1 A1)} {N ps:Z Str} {sp:Sp} (lk:K.lookup f=some ⟨oc,od,.func (PySem.W.fnOf name ai params body scope U kV au pm an aj ct),m⟩) (af:PySem.W.codeIn K aj ai=true) (S:FnScope N ps scope)
  (len:∀ vs H Q E,sp vs H Q E->vs.length=ps.length)
  (a:∀ (A:C0) (outer:Z Gf) (s:A4) (H:Hp) (vs:Z V) (Q:VK) (E:XK),G1 k (A.deeper (envOfC ai scope s.heap.objs.size f aj))->PH A (Eu outer) H s.heap->sp vs H Q E ->
   ∃ t,Sv (Dc CX P w K mg base N ai scope f aj A outer s H E) body t/\t { nx:=λ_ H'=>Q .non H',rt:=Q } (G' N vs) H) :
  LD P w K mg base CX (k+1) f (PySem.W.fnOf name ai params body scope U kV au pm an aj ct) ps sp:=by
 refine⟨len,λA outer s H args us vs Q E hr Y C hb r j=>?_⟩;have hl:=len _ _ _ _ j;have R:K.In s.heap:=C.mod.kin.keeps λb o e=>(C.bs b o e).1
 have d:s.heap.NoLimit:=C.mod.nolimit.keeps λb o e=>(C.bs b o e).1
 have c:∀ y∈ps.zip us,scope.names.lookup y.1=some .local\/(scope.names.lookup y.1=some .cell/\((cellsFrom (s.heap.objs.size+1) scope.names []).lookup y.1).isSome=true):=λ⟨n,v⟩ hy=>by
  rcases S.par n (JR hy).1 with q | q
  ·exact .inl q
  ·exact .inr ⟨q,IU _ _ _ (.inl q)⟩
 refine codeAny_call_function hr.depth (R _ _ lk) rfl S.co S.gen rfl (codeRec_of R af) (hb _ _ _ _ ?_);refine wpAny_newFunctionEnv_cells S.kind c λenv he s1 x=>?_
 subst he;refine⟨d.keeps x.toInCall.keep,codeAny_func ?_⟩;obtain⟨t,ht,hq⟩:=a A outer s H vs Q E (hr.deeper _) Y j;have I:C' (Dc CX P w K mg base N ai scope f aj A outer s H E) [] (G' N vs) H s1:=oz S C hl r x;refine BO (ht [] s1 (G' N vs) H _ I hq) (λfl s' hs=>?_) λe s' hs=>hs
 have fin:∀ {σ':St} {H':Hp} {v:V} {u:A1},C' (Dc CX P w K mg base N ai scope f aj A outer s H E) [] σ' H' s'->Yi v u->Q v H'->CE outer P w H s Q u s' :=
  λ{σ' H' v u} J rv q=>⟨v,H',J.os,J.bare,J.base,J.hok,rv,q⟩
 cases fl with
 | ret u =>
  obtain⟨v,σ',H',J,rv,q⟩:=hs;exact fin J rv q
 | next =>
  obtain⟨σ',H',J,q⟩:=hs;exact fin (v:=V.non) (u:=Value.none) J rfl q
 | brk =>
  obtain⟨_,_,_,q⟩:=hs;exact False.elim q
 | cont =>
  obtain⟨_,_,_,q⟩:=hs;exact False.elim q
theorem LD.x{P:Df}{w:D1}{K:G8}{mg:J'}{base:Ff}{CX:A3}{k:Nat}{f:A2}{fd:C5}{ps:Z Str}{sp:Sp}(F:LD P w K mg base CX k f fd ps sp):J3 P w K mg base CX k f fd ps sp :=
 ⟨F.len,λA outer s H args us vs Q E hr C hb r j=>F.run A outer s H args us vs Q E hr.n (.inl hr.hd) C hb r j⟩
section
variable{X:Cx}{N:Z Str}
theorem Hv(I:C' X aa σ H s)(hp:X.env.scope=ap)(S:CompOk ap sc X.N N fs):∀ y∈sc.names,y.2=.free->∃ c,X.env.cells.lookup y.1=some c:=λy hy e=>by
 refine I.ok.has y.1 ?_;have:=S.par y hy e;rw[← hp] at this;exact this
theorem Jy(I:C' X aa σ H s)(hp:X.env.scope=ap)(S:CompOk ap sc X.N N fs):∀ x c,(Lw X.env.cells sc.names []).lookup x=some c->X.env.cells.lookup x=some c :=
 N9 sc.names [] (Hv I hp S) λx c e=>by simp at e
theorem iS(I:C' X aa σ H s)(hp:X.env.scope=ap)(S:CompOk ap sc X.N N fs)(hf:∀ b∈fp,Dg X aa H b)(aj:∀ b∈fp,b<s.heap.objs.size)(hC:s.heap.objs.size<=C):(W3 X sc N C s H fp).Ok where
 mod:=I.ok.mod
 kind:=S.kind
 glob:=I.ok.glob
 blt:=I.ok.blt
 above:=hC
 inj:=λx y c h1 h2=>I.ok.inj x y c (Jy I hp S x c h1) (Jy I hp S y c h2)
 has:=λx hx=>by
  have hm:(x,NameKind.free)∈sc.names:=by
   rcases hx with hx | hx
   ·exact Gn S.nocell hx (.inl rfl)
   ·exact Gn S.nocell hx (.inr rfl)
  exact FQ.mp (Fo sc.names [] x (.inl hm))
 cab:=λx c h _=>by cases h
 hd:=I.ok.hd
 frames:=I.ok.frames
 stk:=.inl rfl
 exf:=λb hb=>⟨BG (AR (aj b hb) hC),λx c e=>(hf b hb).2.2.2.2.1 x c (Jy I hp S x c e)⟩
 bs:=I.bs
 bsz:=BC I.ok.bsz I.sz
 noex:=λb o e hb=>by
  rcases(hf b hb).2.2.2.1 with z | z
  ·exact I.ok.noex b o e z
  ·exact absurd (AR (AN e) (BC I.ok.bsz z)) (DA _)
 exfs:=λb hb hs=>by
  rcases AZ.mp (I.stkSub b hs) with z | z
  ·exact(hf b hb).2.1 z
  ·exact(hf b hb).2.2.1 z
 funs:=I.stack
 frf:=I.stkFree
def U0(fs:Z (C1 Nat))(σ:St):St:=fs.map λo=>match o with | none=>none | some j=>(σ[j]?).getD none
theorem gX{h₁:Ff}{tk:Nat}{D:A2}{n:Obj}{m₁:J'}(I:C' X aa σ H s)(hp:X.env.scope=ap)(S:CompOk ap sc X.N N fs)(hf:∀ b∈fp,Dg X aa H b)(aj:∀ b∈fp,b<s.heap.objs.size)(hC:s.heap.objs.size<=C)
  (F:∀ b o,s.heap.get? b=some o->h₁.get? b=some o) (hn:h₁.Ns C m₁) (y:h₁.get? D=some n) (d:s.heap.objs.size<=D) (h:D≠C) (t:∀ v,n.data≠.cell v) :
  C' (W3 X sc N C s H fp) [(D,n)] (U0 fs σ) H { s with heap:=h₁,toks:=tk }:=by
 refine⟨iS I hp S hf aj hC,rfl,I.bare,Un.kept F,⟨m₁,hn,λi x v e1 e2 e3=>?_⟩,λx c e=>?_,I.hok.fresh hC,λx c e=>I.freeC x c (Jy I hp S x c e),λp M=>?_,I.hok.kept F,?_⟩
 ·unfold U0 at e2
  rw[AM] at e2;cases B:fs[i]? with
  | none=>rw[B] at e2;cases e2
  | some o =>
   rw[B] at e2;cases o with
   | none=>simp at e2
   | some j =>
    simp only[KB,JM] at e2;obtain⟨G,ex,ej,el⟩:=S.frees i j B;have:G=x:=by
     have q:N[i]?=some x:=e1;rw[ex] at q;exact BF q
    subst this;have ev:σ[j]?=some (some v):=by
     cases q:σ[j]? with
     | none=>rw[q] at e2;simp at e2
     | some z=>rw[q] at e2;simp at e2;rw[e2]
    have kk:X.env.scope.names.lookup G=some .cell\/X.env.scope.names.lookup G=some .free:=by
     rw[hp];exact S.par (G,.free) (BU el) rfl
    obtain⟨m,hm,hl⟩:=I.loc;obtain⟨u,r,l⟩:=hl j G v ej ev (by
     rcases kk with k | k
     ·exact .inr (.inl k)
     ·exact .inr (.inr k))
    refine⟨u,r,.inr ⟨l' el,?_⟩⟩;rcases l with⟨k,_⟩ | ⟨_,c,hc,a⟩
    ·have k':X.env.scope.names.lookup G=some .local:=k
     rcases kk with z | z<;>rw[z] at k'<;>cases k'
    ·obtain⟨c',f⟩:=FQ.mp (Fo (cells:=X.env.cells) sc.names [] G (.inl (BU el)))
     have:=Jy I hp S G c' f;rw[hc] at this;cases this;obtain⟨oc,ho,hd⟩:=a;exact⟨c,f,oc,F _ _ ho,hd⟩
 ·obtain⟨v,oc,ho,hd⟩:=I.cell x c (Jy I hp S x c e)
  exact⟨v,oc,F _ _ ho,hd⟩
 ·have g:p=(D,n):=by
   rcases BV.mp M with z | z
   ·exact absurd (show p∈([]:IA) from z) (by simp)
   ·simpa using z
  subst g;refine⟨y,I.hok.fresh d,h,λhs=>?_,t⟩;have hb:D∈X.env.locals::X.fs:=I.stkSub D hs;rcases AZ.mp hb with z | z
  ·exact absurd (AR I.lt (by rw[← z];exact d)) (DA _)
  ·exact I.nofs d z
 ·show(U0 fs σ).length=N.length
  unfold U0;rw[AD,S.len]
theorem Ms.adopt{D:A2}{n:Nat}(ok:Ms P w H h)(y:H D=none)(ho:h.get? D=some { cls:=.type "list",data:=.seq its.toArray n })(r:Y0 ys its)(hz:ys.length<=sizeLine) :
  Ms P w (Yr H D (.lst ys)) h:=λb u e=>by
 by_cases hb:b=D
 ·subst hb
  rw[Zg] at e;cases e;exact⟨hz,its,n,r,ho⟩
 ·rw[Zc hb] at e
  refine(ok b u e).stay (λc v _ q=>q) (λc q=>?_) λc xs q=>?_
  ·rw[Zc (Y8 q y)];exact q
  ·rw[Zc (Y8 q y)];exact q
theorem Un.adopt{fs:Z A2}{D:A2}{o:HO}(u:Un fs ex H H' h h')(y:h.objs.size<=D)(hn:H' D=none):Un fs ex H (Yr H' D o) h h' where
 keep:=u.keep
 slot:=u.slot
 free:=λb ob q n hx=>by rw[Zc (BG (AR (AN q) y))];exact u.free b ob q n hx
 there:=u.there
 tups:=λb xs q=>by rw[Zc (Y8 (u.tups b xs q) hn)];exact u.tups b xs q
 frzs:=λb ob x q=>by rw[Zc (Y8 (u.frzs b ob x q) hn)];exact u.frzs b ob x q
 tbls:=λb ps q=>by
  obtain⟨f,e⟩:=u.tbls b ps q;exact⟨f,by rw[Zc (Y8 e hn)];exact e⟩
def NO(Y:Cx)(ay:Z C3)(tt:TT):Prop :=
 ∀ (aa:IA) (s:A4) (σ:St) (H:Hp) (Q:Bool->Hp->Prop),C' Y aa σ H s->tt σ H Q ->
  wpAny (model Y.prog Y.w) Y.A (forIn ay true λc r=>if r=true then do let ok ← isTrue c Y.env (eval c Y.env);pure (ForInStep.yield ok) else pure (ForInStep.yield r)) (TP Y aa σ Q) Y.xe s
def pw:TT:=λ_ H Q=>Q true H
theorem ka:NO Y [] pw:=λ_ _ _ H _ I h=>wpAny_tests_nil ⟨H,I,h⟩
theorem pJ{c:C3}(h:PT Y c tc):NO Y [c] tc:=λaa s σ H Q I q=>wpAny_tests_one (h aa s σ H Q I q)
def UR(σ σ2:St):Prop:=σ.length=σ2.length/\∀ (i:Nat) v,σ[i]?=some (some v)->σ2[i]?=some (some v)
def cY(wi:TI)(fs:Z (C1 Nat))(g:TG)(tt:TT)(te:TE):TE:=λσ H Q=>wi σ H λJ H1=>∃ W:Nat->Nat->Z V->Hp->Prop,(∃ m,W 0 m [] H1)/\∀ i m ys H,W i m ys H ->
 (J.stop i H/\ys.length<=sizeLine/\∀ p,H p=none->Q (.ref p) (Yr H p (.lst ys))) \/
 (J.go i H/\ys.length<=sizeLine/\∃ N:Z V->Hp->Prop,(∀ M H',N M H'->∃ m',m'<m/\W (i+1) m' M H')/\∀ x H',J.yld i H x H'->g x (U0 fs σ) H' λσ2 H2=>UR (U0 fs σ) σ2 /\
  tt σ2 H2 λb P=>if b=true then te σ2 P λv H4=>N (ys++[v]) H4 else N ys P)
theorem MM.k(k:MM X)(I:C' X aa σ H s):PH X.A (Eu X.stack) H s.heap:=k.1.imp id λzz=>by
 obtain⟨e,oe,ve,h1,h2,h3,h4,h5⟩:=zz;have d:A7 H ve[2]?:=h4.imp id λ⟨e2,o2,v2,a,b,c⟩=>⟨e2,o2,v2,a,I.base.frzs _ _ _ b,c⟩
 have hx:e∉X.ex:=by rw[k.2];simp
 rcases h5 with⟨z1,z2⟩ | ⟨u,z⟩
 ·refine⟨e,oe,ve,h1,I.base.keep e oe h2 z1 z2 hx,h3,d,.inl ⟨I.base.free e oe h2 z1 hx,λz=>?_⟩⟩
  rcases AZ.mp (I.stkSub e z) with y | y
  ·exact absurd (AN h2) (by rw[y];exact FB.mpr I.ok.above)
  ·exact z2 y
 ·have J:=I.base.frzs e oe u z
  exact⟨e,oe,ve,h1,(show Yl X.prog X.w H s.heap e (.frz oe u) from I.hok e _ J).1,h3,d,.inr ⟨u,J⟩⟩
theorem MM.comp(k:MM X)(I:C' X aa σ H s)(hf:∀ b∈fp,Dg X aa H b):MU (W3 X sc N C s H fp):=λaA σ' H' s' I'=>cu (k.k I) (λe o q n hh hm=>by
 have hh:X.A.handled=some (.ref e):=hh;have hm:e∈fp:=hm;rcases k.1 with z | ⟨e',oe,ve,h1,h2,_⟩
 ·rw[z] at hh;cases hh
 ·rw[h1] at hh;cases hh
  rcases(hf _ hm).2.2.2.1 with y | y
  ·rw[k.2] at y;simp at y
  ·exact absurd (AN h2) (FB.mpr y)) I'.base I'.hok
theorem db{tn:Nat->Ff->Prop}{J:It}{RR:A1->A2->Result->A4->Prop}
  (hp:X.env.scope=ap) (S:CompOk ap sc X.N N fs) (hc:X.calm=true\/(bb=true/\MM X))
  (hb:∀ (C:A2) (s:A4) (H:Hp) (fp:Z A2),PG (W3 X sc N C s H fp) tg g/\NO (W3 X sc N C s H fp) ay tt/\PE (W3 X sc N C s H fp) az te)
  (I:C' X aa σ H s) (T:LQ bb X.prog X.w X.K tg J fp it tn) (st:tn 0 s.heap) (hf:∀ b∈fp,Dg X aa H b) {Q:VK}
  (hW:∃ W:Nat->Nat->Z V->Hp->Prop,(∃ m,W 0 m [] H)/\∀ i m ys H,W i m ys H ->
   (J.stop i H/\ys.length<=sizeLine/\∀ p,H p=none->Q (.ref p) (Yr H p (.lst ys))) \/
   (J.go i H/\ys.length<=sizeLine/\∃ N:Z V->Hp->Prop,(∀ M H',N M H'->∃ m',m'<m/\W (i+1) m' M H')/\∀ x H',J.yld i H x H'->g x (U0 fs σ) H' λσ2 H2=>UR (U0 fs σ) σ2 /\
    tt σ2 H2 λb P=>if b=true then te σ2 P λv H4=>N (ys++[v]) H4 else N ys P))
  (aG:∀ (D C:A2) (s':A4) (H':Hp),(∃ m,s'.heap.Ns C m)->C' X aa σ H' s'->Dg X aa H' C->Q (.ref D) H'->RR (.ref D) C (.ok .next) s') :
  wpAny (model X.prog X.w) X.A (newList []) (λB s₃=>wpAny (model X.prog X.w) X.A (newFunctionEnv sc X.env.globals (Lw X.env.cells sc.names []) [] X.env.qual none .none (some X.env)) (λal s₄ =>
   codeAny (model X.prog X.w) X.A (.compStart (.ListComp az [⟨tg,iter,ay,0⟩] sc pos) 0 (.ref it) B { al with scope:=relabel sc X.env }) (RR B al.locals) s₄) E s₃) E s:=by
 refine BK (wpAny_newFunctionEnv S.nocell (by intro y hy;simp at hy) (λh₁ hns₁ hsb₁=>?_) S.kind);dsimp only at hns₁ hsb₁ ⊢;generalize au:s.heap.push { cls:=.type "list",dict:=none,data:=.seq ([]:Z A1).toArray }=f at hns₁ hsb₁ ⊢;have hC:f.objs.size=s.heap.objs.size+1:=by rw[← au,EU]
 have h:s.heap.objs.size≠f.objs.size:=by rw[hC];exact BG (DK _)
 have am:s.heap.objs.size<=f.objs.size:=by rw[hC];exact DH _
 have below:∀ b,b<s.heap.objs.size->b≠f.objs.size/\b≠s.heap.objs.size:=λb hb=>⟨by rw[hC];exact BG (CU hb),BG hb⟩
 have aj:∀ b∈fp,b<s.heap.objs.size:=λb hb=>by
  obtain⟨o,e,_⟩:=T.obj _ _ st b hb;exact AN e
 have F:∀ b o,s.heap.get? b=some o->h₁.get? b=some o:=λb o e=>hsb₁.extBut b o (below b (AN e)).1 (AB _ (au▸AB _ e))
 have af:h₁.get? s.heap.objs.size=some { cls:=.type "list",data:=.seq ([]:Z A1).toArray 0 }:=hsb₁.extBut _ _ h (AB _ (au▸AQ _ rfl));have ag:tn 0 h₁:=T.keep _ _ _ st λb _ o e=>F b o e
 obtain⟨W,⟨m0,w0⟩,turn⟩:=hW;obtain⟨pg,ax,pe⟩:=hb f.objs.size s H fp;generalize t:W3 X sc N f.objs.size s H fp=Y at pg ax pe;have Ye:Y.env=compEnvC sc (Lw X.env.cells sc.names []) f.objs.size X.env:=by rw[← t];rfl
 have YA:Y.A=X.A:=by rw[← t];rfl
 have Yp:Y.prog=X.prog:=by rw[← t];rfl
 have Yw:Y.w=X.w:=by rw[← t];rfl
 have YK:Y.K=X.K:=by rw[← t];rfl
 have Yx:Y.xe=λ_ _=>False:=by rw[← t];rfl
 have Yc:Cm bb Y:=by
  rw[← t];rcases hc with hc | ⟨hb,hq⟩
  ·cases bb with
   | false=>exact hc
   | true=>exact MU.calm hc
  ·subst hb
   exact hq.comp I hf
 have aw:∀ x c,X.env.cells.lookup x=some c->c<s.heap.objs.size:=λx c e=>by
  obtain⟨v,q⟩:=I.cell x c e;exact q.lt
 have ah:∀ s₃:A4,s₃={ s with heap:=h₁,toks:=s.toks+([]:Z (Str×A1)).length } ->
   codeAny (model X.prog X.w) X.A (.compLoop (.ListComp az [⟨tg,iter,ay,0⟩] sc pos) 0 (.ref it) (.ref s.heap.objs.size) (compEnvC sc (Lw X.env.cells sc.names []) f.objs.size X.env)) (RR (.ref s.heap.objs.size) f.objs.size) s₃:=by
  rintro s₃ rfl;refine mc (λn s'=>∃ (i:Nat) (H':Hp) (ys:Z V) (its:Z A1) (k:Nat),Y0 ys its/\C' Y [(s.heap.objs.size,{ cls:=.type "list",data:=.seq its.toArray k })] (U0 fs σ) H' s'/\tn i s'.heap/\(∀ b∈fp,H' b=none)/\W i n ys H') ?_ m0
   ⟨0,H,[],[],0,.nil,t▸gX (D:=s.heap.objs.size) I hp S hf aj am F hns₁ af (AT _) h (λv z=>by cases z),ag,λb hb=>(hf b hb).1,w0⟩
  rintro n s1 ⟨i,H1,ys,its,k,rv,I1,j,aA,w1⟩;have l:∀ {H':Hp} {pl:IA},(∀ b∈fp,H' b=none)->(∀ p∈pl,p.1=s.heap.objs.size)->∀ b∈fp,Dg Y pl H' b:=λ{H' pl} hn ac b hb=>by
   rw[← t];refine⟨hn b hb,(below b (aj b hb)).1,λz=>?_,.inl hb,λx c e=>(hf b hb).2.2.2.2.1 x c (Jy I hp S x c e),λp G=>?_⟩
   ·rcases AZ.mp (I.stkSub b z) with z | z
    ·exact(hf b hb).2.1 z
    ·exact(hf b hb).2.2.1 z
   ·have aB:p∈pl:=by
     rcases BV.mp G with z | z
     ·exact absurd (show p∈([]:IA) from z) (by simp)
     ·exact z
    rw[ac p aB];exact AO (below b (aj b hb)).2
  have one:∀ {o:Obj} (p:A2×Obj),p∈([(s.heap.objs.size,o)]:IA)->p.1=s.heap.objs.size:=λ{o} p G=>by
   have:p=_:=AJ.mp G;rw[this]
  rcases turn i n ys H1 w1 with⟨stop,hz,qn⟩ | ⟨go,hz,N',hN,step⟩
  ·have:=T.done Y Yp Yw YK Yc i _ s1 _ H1 (λ_ _=>False) I1 (l aA one) j stop
   rw[YA] at this;refine Wo this λr s4 ⟨hr,I4⟩=>?_
   subst hr;have Ib:=I4.base;have a:=I4.pin (s.heap.objs.size,_) (CB _ AW);obtain⟨mC,aC,_⟩:=I4.loc;have e1:Y.fs=Eu X.stack:=by rw[← t];rfl
   have e2:Y.ex=fp:=by rw[← t];rfl
   have e3:Y.H₀=H:=by rw[← t];rfl
   have e4:Y.s₀=s:=by rw[← t];rfl
   have e5:Y.env.locals=f.objs.size:=by rw[← t];rfl
   rw[e1,e2,e3,e4] at Ib;rw[e5] at aC;have aD:Ms X.prog X.w H1 s4.heap:=by
    have:=I4.hok;rw[Yp,Yw] at this;exact this
   have freeC:H1 f.objs.size=none:=by have:=I4.free;rw[e5] at this;exact this
   have ak:Yr H1 s.heap.objs.size (.lst ys) f.objs.size=none:=by rw[Zc (AO h)];exact freeC
   have aH:s4.os=s.os:=by have:=I4.os;rw[e4] at this;exact this
   refine aG _ _ s4 (Yr H1 s.heap.objs.size (.lst ys)) ⟨mC,aC⟩ ?_ (I.fpOk am ak) (qn _ a.2.1);exact I.call' (s':=s4) (ch:=fp) aH (Ib.adopt (AT _) a.2.1) (aD.adopt a.2.1 a.1 rv hz) I4.bare λb hb=>⟨(hf b hb).2.2.2.1,(hf b hb).2.1,(hf b hb).2.2.2.2.1,(hf b hb).2.2.2.2.2⟩
  ·have:=T.item Y Yp Yw YK Yc i _ s1 _ H1 (λ_ _=>False) I1 (l aA one) j go
   rw[YA] at this;refine Wo this λr s4 ⟨u,hr,h4⟩=>?_
   subst hr;refine Wo h4 λ_ s5 ⟨x,H5,I5,r5,y5,ae,aq⟩=>?_
   have ar:=I5.pinned (l aq one) (T.obj _ _ ae);have a1:=pg _ s5 _ H5 x u _ ar r5 (step x H5 y5);rw[YA,Yp,Yw,Yx,Ye] at a1;refine Wo a1 λ_ s6 ⟨σ6,H6,I6,ext,q6⟩=>?_
   have a2:=ax _ s6 σ6 H6 _ I6 q6;rw[YA,Yp,Yw,Yx,Ye] at a2;refine Wo a2 λb s7 ⟨H7,R,q7⟩=>?_
   have ao:∀ {H8:Hp} {s8:A4},C' Y ([(s.heap.objs.size,({ cls:=.type "list",data:=.seq its.toArray k }:Obj))]++X4 fp s5.heap) σ6 H8 s8->C' Y [(s.heap.objs.size,{ cls:=.type "list",data:=.seq its.toArray k })] (U0 fs σ) H8 s8/\tn (i+1) s8.heap/\∀ b∈fp,H8 b=none:=λ{H8 s8} I8 =>
    ⟨I8.unpinned.weak ext.1 ext.2,T.keep _ _ _ ae λb hb o e=>(I8.pin (b,o) (CB _ (CB _ (S4 hb e)))).1,λb hb=>by
     obtain⟨o,e,d⟩:=T.obj _ _ ae b hb;exact(I8.pin (b,o) (CB _ (CB _ (S4 hb e)))).2.1⟩
   cases b with
   | false =>
    rw[AL BY] at q7 ⊢;obtain⟨m',hm,w7⟩:=hN _ _ q7;obtain⟨aI,aJ,aK⟩:=ao R;exact⟨m',hm,i+1,H7,ys,its,k,rv,aI,aJ,aK,w7⟩
   | true =>
    rw[AF rfl] at q7 ⊢;have a3:=pe _ s7 σ6 H7 _ R q7;rw[YA,Yp,Yw,Yx,Ye] at a3;refine Wo a3 λy s8 ⟨v,H8,I8,r8,q8⟩=>?_
    obtain⟨m',hm,w8⟩:=hN _ _ q8;obtain⟨aE,aL,aM⟩:=ao I8;have a:=aE.pin (s.heap.objs.size,_) (CB _ AW);refine append_at (hsz:=by show its.toArray.size<=sizeLine;rw[AU,← rv.length];exact hz) a.1 λh9 aF aN=>?_
    have e5:Y.env.locals=f.objs.size:=by rw[← t];rfl
    have I9:C' Y [] (U0 fs σ) H8 { s8 with heap:=h9 }:=by
     have J0:C' Y [] (U0 fs σ) H8 s8:=aE.pins_of λp hp=>absurd hp (by simp)
     refine J0.turned (t':=s8.toks) (it:=s.heap.objs.size) (λb o hb e=>aF.extBut b o hb e) a.2.1 (by rw[e5];exact h) (.inr ?_) (λx c e=>?_) λp hp=>?_
     ·rw[← t];exact AT _
     ·rw[← t] at e
      exact BG (aw x c (Jy I hp S x c e))
     ·rw[← t] at hp
      exact absurd (show p∈([]:IA) from hp) (by simp)
    refine⟨m',hm,i+1,H8,ys++[v],its++[y],k+1,rv.append (.cons r8 .nil),I9.pins_of λp hp=>?_,T.keep _ _ _ aL λb hb o e=>aF.extBut b o (below b (aj b hb)).2 e,aM,w8⟩;have:p=_:=AJ.mp hp;subst this;refine⟨?_,a.2.1,a.2.2.1,a.2.2.2.1,λv z=>by cases z⟩;have e9:its.toArray.push y=(its++[y]).toArray:=by simp
    rw[← e9];exact aN
 exact codeAny_compStart_list (ah _ rfl) (T.self _ 0 _ _ _ ag (ah _ rfl))
theorem C'.letGo{H':Hp}(I:C' X aa σ H s)(f:Dg X aa H C)(hs:SameBut C s.heap h'):C' X aa σ H { s with heap:=h' }:=by
 obtain⟨f0,f1,f2,f3,m,l⟩:=f;exact I.turned (t':=s.toks) (λb o hb e=>hs.extBut b o hb e) f0 f1 f3 m l
theorem pr(ap:Fn)(fs:Z (C1 Nat))(N:Z Str)(hp:X.env.scope=ap)(S:CompOk ap sc X.N N fs)(hc:X.calm=true\/(bb=true/\MM X))(hi:NE bb X tg iter wi)
  (hb:∀ (C:A2) (s:A4) (H:Hp) (fp:Z A2),PG (W3 X sc N C s H fp) tg g/\NO (W3 X sc N C s H fp) ay tt/\PE (W3 X sc N C s H fp) az te)
  (hs:∀ x,foldedSetIterable iter X.env x=pure x:=by intro _;rfl):PE X (.ListComp az [⟨tg,iter,ay,0⟩] sc pos) (cY wi fs g tt te):=by
 intro aa s σ H Q I h;rw[eval_ListComp];refine wpAny_comprehension_free (use:=none) rfl hs (Xj (Hv I hp S)) S.kind S.loc (Wo (hi aa s σ H _ I h) λxv s₁ h₁=>Wo h₁ λk s₂ h₂=>?_);obtain⟨it,fp,tn,J,H2,e,I2,T,j,f2,hW⟩:=h₂;subst e;refine db (RR:=λB C=>compPost (model X.prog X.w) X.A X.xe none (EP X aa σ Q) B C) hp S hc hb I2 T j f2 hW ?_;intro D C s' H' ⟨m,hm⟩ I' f q;exact⟨m,hm,λh' d=>⟨.ref D,H',I'.letGo (H':=H') f d,rfl,q⟩⟩
theorem Xp{x:Str}(hN:X.N.Nodup)(E:X.N[i]?=some x)(hx:LZ X.env.scope x)(ap:Fn)(fs:Z (C1 Nat))(N:Z Str)(hp:X.env.scope=ap)(S:CompOk ap sc X.N N fs)(hc:X.calm=true)(hi:PI X tg iter wi)
  (hb:∀ (C:A2) (s:A4) (H:Hp) (fp:Z A2),PG (W3 X sc N C s H fp) tg g/\NO (W3 X sc N C s H fp) ay tt/\PE (W3 X sc N C s H fp) az te)
  (hs:∀ x,foldedSetIterable iter X.env x=pure x:=by intro _;rfl) (ai:swapsWith (.ListComp az [⟨tg,iter,ay,0⟩] sc pos) (some (.Name x am)) aD.line X.env=pure true:=by rfl)
  (hf:X.fn x=true\/X.env.scope.names.lookup x=some .local:=by ext) :
  PS X (.Assign [.Name x am] (.ListComp az [⟨tg,iter,ay,0⟩] sc pos) aD) (WU (cY wi fs g tt te) (SU i)):=by
 intro aa s σ H D I h;rw[exec_Assign_Name_used _ _ _ _ ai];refine AA (DL (AA ?_));show wpAny _ X.A (do let _ ← comprehension (.ListComp az [⟨tg,iter,ay,0⟩] sc pos) sc X.env _ (newList []) false (eval iter X.env) (some (assign (.Name x am) X.env))) _ _ s;refine AA (BO (wpAny_comprehension_free (use:=some (assign (.Name x am) X.env)) (Q:=λ_ s'=>SP X aa D .next s') rfl hs (Xj (Hv I hp S)) S.kind S.loc
  (Wo (hi aa s σ H _ I h) λxv s₁ h₁=>Wo h₁ λk s₂ h₂=>?_)) (λ_ s' hq=>AC (AC hq)) λ_ _ e=>e)
 obtain⟨it,fp,tn,J,H2,e,I2,T,j,f2,hW⟩:=h₂;subst e;refine db (Q:=λv H'=>SU i v σ H' D.nx) (RR:=λB C=>compPost (model X.prog X.w) X.A X.xe (some (assign (.Name x am) X.env)) (λ_ s'=>SP X aa D .next s') B C) hp S (.inl hc) hb I2 T j f2 hW ?_;intro Lq_ C s' H' ⟨m,hm⟩ I' f q;refine wpAny_assign_Name (Bi I' hN E hx (show Yi (V.ref Lq_) (Value.ref Lq_) from rfl) (λc b ⟨a,o,ha⟩=>?_) hf);have l:C≠a:=by
  rintro rfl;rcases ha with z | z
  ·exact f.2.1 z
  ·exact f.2.2.2.2.1 x _ z rfl
 refine⟨m,hm.sameBut o l,λh' d=>⟨_,H',b.letGo (H':=H') f d,q⟩⟩
end
section
variable{t u:TS}{a b c:St->Hp->Prop}{r:VK}{td:TT}
end
section
variable{X:Cx}
def jC(K:G8):Z V->Hp->VK->Prop:=λxs H Q=>(∃ p ys,xs=[.ref p]/\(Dd K H p ys\/E3 K H p ys)/\(ys.length<=sizeLine->Q (.int ys.length) H))\/∃ z,xs=[.str z]/\z.length<=sizeLine/\Q (.int z.length) H
theorem mB:V0 X (.builtin "len") (jC X.K):=by
 intro aa s σ H xs us Q I r h;rcases h with⟨p,ys,e,hq,q⟩ | h
 ·refine k4 aa s σ H xs us Q I r ⟨p,ys,e,hq,q ?_⟩
  rcases hq with hq | hq
  ·exact(I.list hq).choose_spec.2.2
  ·exact(I.tuple hq).choose_spec.2.2
 ·exact Cd aa s σ H xs us Q I r h
theorem PI.or{w1 w2:TI}(h1:PI X tg iter w1)(h2:PI X tg iter w2):PI X tg iter (λσ H R=>w1 σ H R\/w2 σ H R):=by
 intro aa s σ H R I h;rcases h with h | h
 ·exact h1 aa s σ H R I h
 ·exact h2 aa s σ H R I h
def kg(K:G8)(tl:TE):TI:=λσ H R=>YC K tl σ H R\/eP K tl σ H R
theorem eO{l:C3}(hl:PE X l tl):PI X tg l (kg X.K tl):=(nC hl).or (qQ hl)
end
section
variable{ta:TA}{tb:TS}{D:KX}{a b c:St->Hp->Prop}{r:VK}
end
variable{k:Nat}
structure NZ (K:G8) (mg:J') (x:Str) (st:Stmt):Prop where
 ex:∃ f fd,LY K x x st f fd/\mg x=some (.ref f)
structure VU (P:Program) (w:World) (K:G8) (mg:J') (base:Heap) (k:Nat) (x:Str) (ps:List Str) (sp:Sp):Prop where
 ex:∃ f fd,J3 P w K mg base Et k f fd ps sp/\mg x=some (.ref f)/\PySem.W.keepIn K (.ref f)=true/\M5 K fd ps []
def cW(sp:Sp)(t:TA):TE:=λσ H Q=>t σ H λvs H1=>sp vs H1 Q E0
theorem jZ{X:Cx}{x:Str}(C:VU X.prog X.w X.K X.mg X.base k x ps sp)(hr:G2 k X.A)(ha:PA X (e::es) t)(hg:Gl X x:=by rfl)
  (P:C2 x:=by decide) (he:Z0 X.env e es:=by rfl) (ac:Z1 pos X.env es:=by rfl) :
  PE X (.Call (.Name x p) (e::es) [] pos) (cW sp t):=by
 obtain⟨f,fd,F,hm,Y,hb⟩:=C.ex;have:=qV (dvs:=[]) (ds:=[]) (E:=E0) F hr hg hm Y hb .nil cZ ha P he ac (p:=p);intro aa s σ H Q I h;refine this aa s σ H Q I ?_;unfold UF;simp only[GM];exact h
abbrev dV(x:PySem.Str)(st:PySem.Stmt)(ps:List PySem.Str):Prop:=∀ (kV au pm:A1) (an:C1 A2) (aj ct:A1) (us:Z A1),us.length=ps.length->bindArgs (PySem.W.fnOf x x (Vc st) (Yb st) (Z7 st) .none kV au pm an aj ct) ⟨us,[]⟩=pure (ps.zip us)
theorem kh{x:Str}{st:C4}{N:Z Str}(D:NZ K mg x st)(S:FnScope N ps (Z7 st))
  (j:dV x st ps)
  (len:∀ vs H Q E,sp vs H Q E->vs.length=ps.length)
  (a:∀ (f:A2) (aj:A1) (A:C0) (outer:Z Gf) (s:A4) (H:Hp) (vs:Z V) (Q:VK) (E:XK),G2 k (A.deeper (envOfC x (Z7 st) s.heap.objs.size f aj))->sp vs H Q E ->
   ∃ t,Sv (T6 Et P w K mg base N x (Z7 st) f aj A outer s H E).nox (Yb st) t/\t (KX.mk (λ_ H'=>Q .non H') Q (λ_ _=>False) (λ_ _=>False)) (G' N vs) H):VU P w K mg base (k+1) x ps sp:=by
 obtain⟨f,fd,F,hm⟩:=D.ex;exact⟨f,fd,F.ok S len (λaj A outer s H vs Q E hr h=>a f aj A outer s H vs Q E hr h),hm,F.kp,F.binds j⟩
theorem ig{x:Str}{st:C4}{f:A2}{N:Z Str}(F:LY K x x st f fd)(S:FnScope N ps (Z7 st))(len:∀ vs H Q E,sp vs H Q E->vs.length=ps.length)
  (a:∀ (aj:A1) (A:C0) (outer:Z Gf) (s:A4) (H:Hp) (vs:Z V) (Q:VK) (E:XK),G2 k (A.deeper (envOfC x (Z7 st) s.heap.objs.size f aj))->sp vs H Q E ->
   ∃ t,Sv (T6 Et P w K mg base N x (Z7 st) f aj A outer s H E).nox (Yb st) t/\t (KX.mk (λ_ H'=>Q .non H') Q (λ_ _=>False) (λ_ _=>False)) (G' N vs) H):J3 P w K mg base Et (k+1) f fd ps sp :=
 F.ok S len a
theorem Zp.new{o:HO}(h:H l=none):Zp H (Yr H l o):=λb u e=>by rw[Zc (Y8 e h)];exact e
theorem Zp.seqT{a:A2}(e:Zp H H')(h:E3 K H a xs):E3 K H' a xs:=by
 rcases h with h | h
 ·exact .inl (e _ _ h)
 ·exact .inr h
section
variable{X:Cx}
theorem bN{x:Str}(hg:Gl X x)(hm:X.mg x=none)(hv:bootBuiltins x=some (.type T))(hn:x≠"__name__" := by decide)(hd:C2 x:=by decide):PE X (.Name x pos) (tC (.ty T)) :=
 qB (v:=.ty T) hg hm hv rfl hn hd
def OQ(T n:String):C1 Bool:=if(Value.type T==Value.type n)=true then some true else if PySem.W.kitMeta n=true then(PySem.fastBuiltinMro T).map (·.contains (.type n)) else none
theorem lZ{n:String}{b:Bool}(h:OQ T n=some b):PySem.W.kitOne K (.type T) (.type n)=some b:=h
def aZ:V->C1 Int->C1 Int->Hp->VK->Prop:=λx lo hi H Q=>∃ z,x=.str z/\z.length<=sizeLine/\Q (.str (Txt.slice z lo hi)) H
theorem qC:MJ X aZ:=by
 intro aa s σ H x v vl vu lo hi sl Q I S hs pl c h;obtain⟨z,rfl,hz,q⟩:=h;obtain⟨t,rfl⟩:=S;have fin:∀ t' k,EP X aa σ Q (.str (Txt.slice z lo hi) t') { s with toks:=k }:=λt' k=>⟨.str (Txt.slice z lo hi),H,I.tok _,⟨_,rfl⟩,q⟩
 refine⟨"str",_,F.slot_str_getitem.lookup,typeIs_str _ _ _,?_⟩;cases pl with
 | none =>
  cases c with
  | none=>exact FT (l:=none) (u:=none) (st:=none) hs rfl (IL ⟨BC (HH z _ _) hz,fin⟩)
  | int j a=>exact FT (l:=none) (u:=some (j,a)) (st:=none) hs rfl (IL ⟨BC (HH z _ _) hz,fin⟩)
 | int i d =>
  cases c with
  | none=>exact FT (l:=some (i,d)) (u:=none) (st:=none) hs rfl (IL ⟨BC (HH z _ _) hz,fin⟩)
  | int j a=>exact FT (l:=some (i,d)) (u:=some (j,a)) (st:=none) hs rfl (IL ⟨BC (HH z _ _) hz,fin⟩)
def qq(K:G8):V->C1 Int->C1 Int->Hp->VK->Prop:=λx lo hi H Q=>cp K x lo hi H Q\/eV K x lo hi H Q\/aZ x lo hi H Q
theorem kJ:MJ X (qq X.K):=gv.or (iZ.or qC)
theorem Rj:∀ {us:Z A1},IntsAre us ns->Y0 (ns.map V.int) us:=by
 intro us h;induction h with
 | nil=>exact .nil
 | cons n t h ih=>exact .cons ⟨t,rfl⟩ ih
def oJ(K:G8):Z V->Hp->VK->Prop:=λxs H Q=>∃ p ns,xs=[.ref p]/\Dd K H p (ns.map V.int)/\ns.length<64 /\
 ∀ (B:Z Int) (l:A2),B.Perm ns->B.Pairwise (·<=·)->H l=none->Q (.ref l) (Yr H l (.lst (B.map V.int)))
theorem Bw:V0 X (.builtin "sorted") (oJ X.K):=by
 intro aa s σ H xs us Q I r h;obtain⟨p,ns,rfl,hq,f,q⟩:=h;obtain⟨u,rfl,S⟩:=Qf r;cases S;obtain⟨its,r',pl,hz⟩:=I.list hq;have J:=r'.length;rw[AD] at J;refine sorted_ints pl.isList (Jb r') (by lia) λout B h1 h2 h3=>?_
 obtain⟨e,he⟩:=sortedAll_at s.heap its out;have hl:B.length=ns.length:=h2.length_eq;refine⟨.ref (s.heap.objs.size+1),Yr H (s.heap.objs.size+1) (.lst (B.map V.int)),I.laid (t':=s.toks) (λb o q=>sortedAll_old q) (DH _) ?_,rfl,q B _ h2 h3 (I.hok.fresh (DH _))⟩;refine⟨by rw[AD] at hz ⊢;lia,out.toList,e,Rj h1,?_⟩;rw[he]
theorem Nc{bs:Z Bool}(r:Y0 (bs.map V.bl) its):TruthOf X.prog X.w A (λi v=>its.toArray[i]?=some v) (λi=>bs.getD i false):=by
 intro i v s Q E hv h;have b:its[i]?=some v:=by simpa using hv
 have hi:i<its.length:=(AE.mp b).1;have hl:=r.length;rw[AD] at hl;have hb:(bs.map V.bl)[i]?=some (V.bl (bs[i]'(by lia))):=by simp[show i<bs.length by lia]
 obtain⟨u,hu,N⟩:=r.get hb;rw[b] at hu;cases hu;cases N;have:bs.getD i false=bs[i]'(by lia):=by simp[List.getD,show i<bs.length by lia]
 have h':Q (bs.getD i false) s:=h;rw[this] at h';exact DZ h'
theorem kO(bs:Z Bool):(List.range bs.length).all (λi=>bs.getD i false)=bs.all id:=by
 induction bs with
 | nil=>rfl
 | cons b bs ih =>
  rw[BH,IB,all_cons,List.all_map,all_cons];have:(λi=>(b::bs).getD i false) ∘ Nat.succ=λi=>bs.getD i false:=by funext i;rfl
  rw[this,ih];rfl
theorem oF(bs:Z Bool):(List.range bs.length).any (λi=>bs.getD i false)=bs.any id:=by
 induction bs with
 | nil=>rfl
 | cons b bs ih =>
  rw[BH,IB,HD,List.any_map,HD];have:(λi=>(b::bs).getD i false) ∘ Nat.succ=λi=>bs.getD i false:=by funext i;rfl
  rw[this,ih];rfl
def gN(K:G8):Z V->Hp->VK->Prop:=λxs H Q=>∃ (p:A2) (bs:Z Bool),xs=[.ref p]/\Dd K H p (bs.map V.bl)/\Q (.bl (bs.all id)) H
def kE(K:G8):Z V->Hp->VK->Prop:=λxs H Q=>∃ (p:A2) (bs:Z Bool),xs=[.ref p]/\Dd K H p (bs.map V.bl)/\Q (.bl (bs.any id)) H
theorem jd(hc:X.calm=true):V0 X (.builtin "all") (gN X.K):=by
 intro aa s σ H xs us Q I r h;obtain⟨p,bs,rfl,hq,q⟩:=h;obtain⟨u,rfl,S⟩:=Qf r;cases S;obtain⟨its,r',pl,hz⟩:=I.list hq;have hl:=pl.isList;have ae:p<s.heap.objs.size:=by obtain⟨o,e,_⟩:=hl;exact AN e
 have J:=r'.length;rw[AD] at J;refine call_all_walk (HR hl ⟨s.heap.objs.size,_,_,_,_,_,λi=>bs.getD i false,rfl,Walks.list (A:=X.A.in1) (I.ok.hd hc) s.heap.objs.size p (BG ae) its.toArray,⟨⟨_,AQ _ rfl,rfl,rfl⟩,hl.push _⟩,Nc r',λh' tk Y=>?_⟩);have e:(List.range its.toArray.size).all (λi=>bs.getD i false)=bs.all id:=by rw[AU,← J];exact kO bs
 rw[e];exact⟨.bl _,H,I.kept (h':=h') (t':=tk) (λb o e=>Y b o (by simpa using BG (AN e)) (AB _ e)),rfl,q⟩
theorem iy(hc:X.calm=true):V0 X (.builtin "any") (kE X.K):=by
 intro aa s σ H xs us Q I r h;obtain⟨p,bs,rfl,hq,q⟩:=h;obtain⟨u,rfl,S⟩:=Qf r;cases S;obtain⟨its,r',pl,hz⟩:=I.list hq;have hl:=pl.isList;have ae:p<s.heap.objs.size:=by obtain⟨o,e,_⟩:=hl;exact AN e
 have J:=r'.length;rw[AD] at J;refine call_any_walk (HR hl ⟨s.heap.objs.size,_,_,_,_,_,λi=>bs.getD i false,rfl,Walks.list (A:=X.A.in1) (I.ok.hd hc) s.heap.objs.size p (BG ae) its.toArray,⟨⟨_,AQ _ rfl,rfl,rfl⟩,hl.push _⟩,Nc r',λh' tk Y=>?_⟩);have e:(List.range its.toArray.size).any (λi=>bs.getD i false)=bs.any id:=by rw[AU,← J];exact oF bs
 rw[e];exact⟨.bl _,H,I.kept (h':=h') (t':=tk) (λb o e=>Y b o (by simpa using BG (AN e)) (AB _ e)),rfl,q⟩
def UD(z:Str):It:=⟨λi _=>i<z.length,λi H x H'=>H'=H/\∃ c,z.cps[i]?=some c/\x=.str ⟨#[c]⟩,λi _=>i=z.length⟩
theorem dD(it:A2)(z:Str)(t:Tok)(ty:String)(n:["enumerate","zip","dict_itemiterator","dict_reverseitemiterator","odict_iterator","itertools.zip_longest","itertools.pairwise"].contains ty=false)
  (W:∀ A':C0,A'.handled=none->Walks P w A' it [it] [it] z.cps.size (SignAt z) (λi h=>h.IsStrIter it ty z t i))
  (S:∀ (A:C0) (i:Nat) (s:A4) (Q:J1) (E:J1),s.heap.IsStrIter it ty z t i->Q (.ref it) s->wpAny (model P w) A (pyIter (.ref it)) Q E s):OR P w K tg (UD z) [it] it (λi h=>h.IsStrIter it ty z t i) where
 mem:=by simp
 obj:=λi h st b hb=>by
  have e:b=it:=by simpa using hb
  subst e;obtain⟨o,e,c,d⟩:=st;exact⟨o,e,λv z=>by rw[d] at z;cases z⟩
 keep:=λi h h' st k=>by
  obtain⟨o,e,r⟩:=st;exact⟨o,k it (by simp) o e,r⟩
 item:=by
  intro X g hw f hc i aa s σ H E I hf st hg;subst g hw f;obtain⟨f0,f1,f2,f3,m,l⟩:=hf it (by simp);refine(W X.A (I.ok.hd hc)).item i s _ _ (show i<z.cps.size from hg) st λv h' tk hv j kk=>?_
  obtain⟨c,u,a,rfl⟩:=hv;have I1:C' X aa σ H { s with heap:=h',toks:=tk }:=I.turned (λb o hb e=>kk b o (by simpa using hb) e) f0 f1 f3 m l;obtain⟨o,e,cc,d⟩:=id j;exact⟨_,rfl,UZ (s:={ s with heap:=h',toks:=tk }) e cc d n ⟨.str ⟨#[c]⟩,H,I1,⟨u,rfl⟩,⟨rfl,c,a,rfl⟩,j,λb hb=>(hf b hb).1⟩⟩
 done:=by
  intro X g hw f hc i aa s σ H E I hf st hg;subst g hw f;obtain⟨f0,f1,f2,f3,m,l⟩:=hf it (by simp);have e:i=z.cps.size:=hg;subst e;exact(W X.A (I.ok.hd hc)).done s _ _ st λh' tk kk=>⟨rfl,I.turned (λb o hb e=>kk b o (by simpa using hb) e) f0 f1 f3 m l⟩
 self:=λA i s Q E st h=>S A i s Q E st h
def ij(tl:TE):TI:=λσ H R=>tl σ H λx H1=>∃ z,x=.str z/\R (UD z) H1
theorem fO{l:C3}(hl:PE X l tl):PI X tg l (ij tl):=by
 intro aa s σ H R I h;refine Wo (hl aa s σ H _ I h) λv s1 ⟨x,H1,I1,r1,z,e,q⟩=>?_
 subst e;obtain⟨t,rfl⟩:=r1;have I2:∀ o:Obj,C' X aa σ H1 { s1 with heap:=s1.heap.push o }:=λo=>I1.kept (t':=s1.toks) λb ob e=>AB _ e
 have fr:∀ b∈[s1.heap.objs.size],Dg X aa H1 b:=λb hb=>by
  have e:b=s1.heap.objs.size:=by simpa using hb
  subst e;exact I1.fpOk (AT _) (I1.hok.fresh (AT _))
 cases ha:z.cps.all (· < 128)
 ·exact wpAny_pyIter_wide ha ⟨_,_,_,UD z,H1,rfl,I2 _,dD _ z t "str_iterator" (by decide) (λA' hA=>Walks.strWide hA _ z t) (λA i s Q E st h=>wpAny_pyIter_striter_wide st h),⟨_,AQ _ rfl,rfl,rfl⟩,fr,q⟩
 ·exact wpAny_pyIter_ascii ha ⟨_,_,_,UD z,H1,rfl,I2 _,dD _ z t "str_ascii_iterator" (by decide) (λA' hA=>Walks.strAscii hA _ z t) (λA i s Q E st h=>wpAny_pyIter_striter_ascii st h),⟨_,AQ _ rfl,rfl,rfl⟩,fr,q⟩
abbrev TJ:=St->Hp->Str->VK->Prop
def PJ(X:Cx)(vs:Z C3)(t:TJ):Prop :=
 ∀ (aa:IA) (s:A4) (σ:St) (H:Hp) (B:Str) (Q:VK),C' X aa σ H s->B.length<=sizeLine->t σ H B Q->wpAny (model X.prog X.w) X.A (joinParts B (evalEach vs X.env)) (EP X aa σ Q) X.xe s
def bC:TJ:=λ_ H B Q=>Q (.str B) H
def cy(c:Str)(r:TJ):TJ:=λσ H B Q=>(B++c).length<=sizeLine/\r σ H (B++c) Q
theorem Co:PJ X [] bC:=λaa s σ H B Q I hz h=>joinParts_nil ⟨.str B,H,I.tok _,⟨_,rfl⟩,h⟩ hz
theorem D8{c:Str}{vs:Z C3}{r:TJ}(hr:PJ X vs r):PJ X (.Constant (.str c) j pos::vs) (cy c r):=by
 intro aa s σ H B Q I hz h;refine joinParts_cons (Calls.Constant_str ?_);exact⟨h.1,hr aa _ σ H (B++c) Q (I.tok _) h.1 h.2⟩
def Og(r:TJ):TE:=λσ H Q=>r σ H Str.empty Q
theorem Ep{v1 v2:C3}{r:TJ}(h:PJ X (v1::v2::ak) r):PE X (.JoinedStr (v1::v2::ak) pos) (Og r):=by
 intro aa s σ H Q I hq;exact JoinedStr_many (h aa s σ H Str.empty Q I (by decide) hq)
end
abbrev cl(z:Str):Z Nat:=z.cps.toList
theorem Mm(z:Str):(cl z).length=z.length:=by simp[cl,Str.length]
theorem WF(x y:Str):cl (x++y)=cl x++cl y:=by
 show(x.cps++y.cps).toList=_;simp[cl]
theorem fg{x y:Str}(h:cl x=cl y):x=y:=by
 cases x;cases y;simp only[cl] at h;congr
 exact Array.ext' h
def Jn(xs:Z α)(lo hi:C1 Int):Z α:=(xs.drop (HT.sIx xs.length 0 lo)).take (HT.sIx xs.length xs.length hi - HT.sIx xs.length 0 lo)
theorem lD(xs:Z Nat)(i k:Nat):((List.range k).map λ(m:Nat)=>((i:Int)+1*(m:Int)).toNat).filterMap (xs[·]?)=(xs.drop i).take k:=by
 rw[JC];induction k generalizing i with
 | zero=>simp
 | succ k ih =>
  rw[IB,EL,JC];have C:((λx=>xs[x]?) ∘ λm:Nat=>((i:Int)+1*(m:Int)).toNat) 0=xs[i]?:=by simp[Function.comp]
  rw[C];have e1:(((λx=>xs[x]?) ∘ λm:Nat=>((i:Int)+1*(m:Int)).toNat) ∘ Nat.succ)=((λx=>xs[x]?) ∘ λm:Nat=>(((i+1:Nat):Int)+1*(m:Int)).toNat):=by
   funext m
   simp only[Function.comp,Nat.succ_eq_add_one];congr 1
   lia
  rw[e1,ih];cases h:xs[i]? with
  | none =>
   have hl:xs.length<=i:=HA.mp h;simp[List.drop_eq_nil_of_le hl,List.drop_eq_nil_of_le (HS hl)]
  | some c =>
   obtain⟨hi,hc⟩:=AE.mp h;rw[EN hi,GD,hc]
theorem eQ(lo hi:C1 Int)(n:Nat):Builtin.Str.strSliceIndices lo hi 1 n=(List.range (HT.sIx n n hi - HT.sIx n 0 lo)).map λ(m:Nat)=>(((HT.sIx n 0 lo:Nat):Int)+1*(m:Int)).toNat:=by
 have c:∀ (v:C1 Int) (d:Nat),(match v with | none=>(d:Int) | some i=>(let i:=if i<0 then i+(n:Int) else i;if(1:Int) > 0 then max 0 (min i (n:Int)) else max (-1) (min i ((n:Int) - 1))))=((HT.sIx n d v:Nat):Int):=by
  intro v d;cases v with
  | none=>rfl
  | some i =>
   rw[← HT.clip_eq i n d];dsimp only;rw[AF (by decide)];by_cases hi:i<0
   ·rw[AF hi,AF hi];lia
   ·rw[AL hi,AL hi];lia
 have ah:∀ (x y:Int) (a b:Nat),x=a->y=b->sliceRange x y 1=(List.range (b - a)).map λ(m:Nat)=>((a:Int)+1*(m:Int)).toNat:=by
  rintro x y a b rfl rfl;unfold sliceRange;dsimp only;rw[AF (by decide)];congr 1
  congr 1
  by_cases h:(a:Int)<(b:Int)
  ·rw[AF h];lia
  ·rw[AL h];lia
 unfold Builtin.Str.strSliceIndices;dsimp only;have e1:=c lo 0;have e2:=c hi n;dsimp only at e1 e2;simp only[show(1:Int) > 0 by decide,JU] at e1 e2 ⊢;exact ah _ _ _ _ e1 e2
theorem jF(z:Str)(lo hi:C1 Int):cl (Txt.slice z lo hi)=Jn (cl z) lo hi:=by
 have hn:(cl z).length=z.length:=Mm z;unfold Txt.slice Jn;rw[hn];have M:=HT.sIx_le z.length z.length (AT _) hi;split
 ·rename_i h
  rw[eQ,AD,DE] at h;have h':HT.sIx z.length z.length hi - HT.sIx z.length 0 lo=z.length:=by simpa using h
  have h0:HT.sIx z.length 0 lo=0\/z.length=0:=by lia
  rcases h0 with h0 | h0
  ·rw[h',h0,KY,CG (by lia)]
  ·have:cl z=[]:=EZ.mp (by lia)
   rw[this];simp
 ·show(((Builtin.Str.strSliceIndices lo hi 1 z.length).filterMap (z.cps[·]?)).toArray).toList=_
  rw[eQ];have e:(λx:Nat=>z.cps[x]?)=λx=>(cl z)[x]?:=by funext x;simp[cl]
  rw[e];exact lD _ _ _
section
variable{X:Cx}(K:G8)
def RY(K:G8):Z V->Hp->VK->Prop:=λxs H Q=>∃ p ys,xs=[.ref p]/\(Dd K H p ys\/E3 K H p ys)/\∀ l,H l=none->Q (.ref l) (Yr H l (.lst ys))
theorem Jj(h:X.K=K:=by rfl):V0 X (.type "list") (RY K):=by subst h;exact K9
variable{o:C3}{to:TE}{id:String}{r:V->Z V->Hp->VK->Prop}
end
end L2
variable{P:Z α->Prop}{k tk:Nat}{ta:L2.TA}{wr:Z PySem.Addr}
namespace PySem

theorem R1{ac}{x:A1}{Q:J1}(c:s.heap.IsTupleIter it l i)
  (hl:s.heap.IsTuple l ac) (hx:ac[i]?=some x)
  (j:∀ h',h'.IsTupleIter it l (i+1)->SameBut it s.heap h'->Q x { s with heap:=h' }) :
  wpAny (model prog w) A (Builtin.SmallTypes.nextOf (.ref it)) Q E s:=by
 obtain⟨o,ho,hc,hd⟩:=id c;obtain⟨C,g,_,n,u⟩:=hl;unfold Builtin.SmallTypes.nextOf;refine AA (CF (name:=Str.ofString "__next__") c.typeIs FG
  (BX FG c.typeIs F.entry_tuple_iterator_next ?_ (F.args_tuple_iterator_next_1 _)))
 show wpAny _ _ (field (.ref it) 0 >>= _) _ _ s;refine AA (CA ho hd (x:=.ref l) rfl ?_);show wpAny _ _ (if(Value.ref l==Value.none)=true then _ else _) _ _ s;rw[AL (show ¬ ((Value.ref l==Value.none)=true) from BY)];show wpAny _ _ (field (.ref it) 1 >>= _) _ _ s;refine AA (CA ho hd (x:=.int i 0) rfl ?_);show wpAny _ _ (seqItems? (.ref l) >>= _) _ _ s;refine AA (GH g u ?_);simp only[BP,hx];refine AA (CQ ho hd (by simp) (AC ⟨x,rfl,AC (j _ ?_ (DM ..))⟩));exact⟨_,BI _ ho (DF (BS hd _)),(GC ..).trans hc,by
  rw[BS hd];simp[rawInt]⟩
theorem Rk{ac}{Q:J1}(hh:A.handled=none)
   (c:s.heap.IsTupleIter it l i) (hl:s.heap.IsTuple l ac) (hx:ac[i]?=none)
   (p:∀ h' e,ExtBut it s.heap h'->(∃ o,h'.get? e=some o/\o.cls=.type "StopIteration")->E (.ref e) { s with heap:=h' }) :
   wpAny (model prog w) A (Builtin.SmallTypes.nextOf (.ref it)) Q E s:=by
 obtain⟨o,ho,hc,hd⟩:=id c;obtain⟨C,g,_,n,u⟩:=hl;unfold Builtin.SmallTypes.nextOf;refine AA (CF (name:=Str.ofString "__next__") c.typeIs FG
   (BX FG c.typeIs F.entry_tuple_iterator_next ?_ (F.args_tuple_iterator_next_1 _)))
 show wpAny _ _ (field (.ref it) 0 >>= _) _ _ s;refine AA (CA ho hd (x:=.ref l) rfl ?_);show wpAny _ _ (if(Value.ref l==Value.none)=true then _ else _) _ _ s;rw[AL (show ¬ ((Value.ref l==Value.none)=true) from BY)];show wpAny _ _ (field (.ref it) 1 >>= _) _ _ s;refine AA (CA ho hd (x:=.int i 0) rfl ?_);show wpAny _ _ (seqItems? (.ref l) >>= _) _ _ s;refine AA (GH g u ?_);simp only[BP,hx];refine AA (HM (AA (CQ ho hd (by simp) ?_)));show wpAny _ _ (newExc (.type "StopIteration") [] >>= _) _ _ _;refine AA ?_;simp only[newExc,newTuple];refine AA (BK ?_ (by size_fits));refine AA (m:=firstArgMember _ _) (ER (a:=Value.none) (by first | rfl | (simp only[firstArgMember];rfl)) ?_);refine BK ?_ (by size_fits);simp only[raiseNew];refine AA (JI ?_);first | rw[show A.in1.handled=none from hh] | rw[hh]
 refine AA (AC (KF ?_));exact p _ _ (((DM ..).extBut.push _).push _) ⟨_,AQ _ rfl,rfl⟩
theorem Draws.tupleD(hh:A.handled=none)(it l:A2)(ag:l≠it)(ac:Array A1) :
  Draws prog w A it [it,l] ac.size (λi v=>ac[i]?=some v) (λi h=>h.IsTupleIter it l i/\h.IsTuple l ac) where
 live:=λ_ _ st=>let ⟨o,ho,_⟩:=st.1;⟨o,ho⟩
 frame:=λ_ _ _ st Y=>⟨st.1.at λo e=>Y it (by simp) o e,let ⟨o,ho,r⟩:=st.2;⟨o,Y l (by simp) o ho,r⟩⟩
 item:=λi s Q E hi st j=>by
  refine R1 st.1 st.2 (x:=ac[i]) (by simp[hi]) λh' f d=>?_
  exact j _ h' s.toks (by simp[hi]) ⟨f,st.2.extBut d.extBut ag⟩ d
 done:=λs Q E st p=>Rk hh st.1 st.2 (by simp) p
theorem Db(l:A2)(ac:Array A1)(n:Nat)(dct:C1 A2)(sl:Array (C1 A1)) :
  Meets (Builtin.«enumerate.__new__» ⟨[.type "enumerate",.ref l],[]⟩) (λ_ R s=>s.heap.get? l=some { cls:=.type "tuple",dict:=dct,data:=.seq ac n,slots:=sl } /\
   R (.ok (.ret (.ref (s.heap.push { cls:=.type "tuple_iterator",data:=.fields #[.ref l,.int 0 0] }).objs.size)))
    { s with heap:=(s.heap.push { cls:=.type "tuple_iterator",data:=.fields #[.ref l,.int 0 0] }).push { cls:=.type "enumerate",data:=.fields #[.none,.bool false,.ref s.heap.objs.size,rawInt 0,.none,.none] } }) :=
 .of_wp λprog w A R s h=>by
  obtain⟨hp,g,d,tk,os⟩:=s;obtain⟨hl,h⟩:=h;have p:=sub_enumerate;have C:Heap.IsTuple (Shared.heap ⟨hp,g,d,tk,os⟩) l ac:=⟨_,hl,rfl,n,rfl⟩
  wp_walk using ED hl
  refine wpAny_stack_any λst=>AC ?_
  split
  ·rename_i c _ _ _ _ _
   cases (c==Value.type "enumerate")
   ·wp_walk using ED hl,FZ C
    exact⟨_,rfl,h⟩
   ·wp_walk using ED hl,FZ C
    exact⟨_,rfl,h⟩
  ·wp_walk using ED hl,FZ C
   exact⟨_,rfl,h⟩
theorem Di{Q:J1}(C:s.heap.IsTuple l ac)
  (h:∀ h',IsEnum h' (s.heap.objs.size+1) s.heap.objs.size 0 .none->h'.IsTupleIter s.heap.objs.size l 0->h'.objs.size=s.heap.objs.size+2 ->
   (∀ b o,s.heap.get? b=some o->h'.get? b=some o)->Q (.ref (s.heap.objs.size+1)) { s with heap:=h' }) :
  wpAny (model prog w) A (call (.type "enumerate") [.ref l]) Q E s:=by
 obtain⟨⟨c,dct,a,sl⟩,hl,hc,n,hd⟩:=C;replace hc:c=.type "tuple" := hc;replace hd:a=.seq ac n:=hd;subst hc hd;refine callType_new F.called_enumerate (by decide) (F.typeCall_enumerate_1 _) (F.newCall_enumerate_1 _) (λobj=>F.args_object_init_2 obj _) F.entry_enumerate_new
  (Db l ac n dct sl) ⟨hl,?_⟩
 have hz:(s.heap.push { cls:=.type "tuple_iterator",data:=.fields #[.ref l,.int 0 0] }).objs.size=s.heap.objs.size+1:=EU ..;show _/\_;rw[hz];have he:IsEnum ((s.heap.push { cls:=.type "tuple_iterator",data:=.fields #[.ref l,.int 0 0] }).push
   { cls:=.type "enumerate",data:=.fields #[.none,.bool false,.ref s.heap.objs.size,rawInt 0,.none,.none] }) (s.heap.objs.size+1) s.heap.objs.size 0 .none:=by
  have:=AQ (s.heap.push { cls:=.type "tuple_iterator",data:=.fields #[.ref l,.int 0 0] })
   (o:={ cls:=.type "enumerate",data:=.fields #[.none,.bool false,.ref s.heap.objs.size,rawInt 0,.none,.none] }) rfl
  rw[hz] at this;exact this
 refine⟨⟨_,he,rfl⟩,h _ he ⟨_,AB _ (AQ _ rfl),rfl,rfl⟩ (by rw[EU,hz]) λb o x=>AB _ (AB _ x)⟩
end PySem
variable{t:Nat}{cd:PySem.ClassData}
namespace L2
open PySem PySem.Spec PyProof.Rows
inductive XD where
 | int (i:Int) | nums (is:List Int)
inductive Dat where
 | non | bl (b:Bool) | int (i:Int) | str (x:Str) | tup (xs:List Dat) | lst (xs:List Dat) | dct (kvs:List (List Vp×Int)) | exc (c:Str) (fs:List (Str×XD))
def Yy(K:G8)(c:Str)(C:A2):Prop:=PySem.W.nsIn K mainGlobals c=some (some (.ref C))
def MT(e C:A2)(dct:C1 A2)(h:Ff):Prop:=∃ o,h.get? e=some o/\o.cls=.ref C/\o.dict=dct/\∀ c,o.data≠.cls c
def RS(K:G8)(H:Hp):XD->V->Prop
 | .int i,v=>v=.int i
 | .nums is,v=>∃ a,v=.ref a/\SL K H a (is.map V.int)/\is.length<=sizeLine
def LU(K:G8)(H:Hp):C1 A2->Z (Str×XD)->Prop
 | none,fs=>fs=[]
 | some dx,fs=>∃ j,H dx=some (.xd j)/\∀ f,(fs.lookup f=none/\j.lookup f=none)\/∃ d v,fs.lookup f=some d/\j.lookup f=some v/\RS K H d v
def QA(H:Hp)(e C:A2)(dct:C1 A2):Prop:=H e=some (.ext (MT e C dct))\/∃ o,H e=some (.frz o (.ext (MT e C dct)))
theorem QA.mono{e:A2}(h:QA H e C dct)(s:Zp H H'):QA H' e C dct:=h.imp (s _ _) λ⟨o,z⟩=>⟨o,s _ _ z⟩
theorem QA.ok{P:Df}{e:A2}(x:QA H e C dct)(k:Ms P w H h):MT e C dct h:=by
 rcases x with x | ⟨o,x⟩
 ·exact(show Yl P w H h e (.ext (MT e C dct)) from k e _ x).1
 ·exact(show Yl P w H h e (.frz o (.ext (MT e C dct))) from k e _ x).2.1
def QD(K:G8)(H:Hp)(c:Str)(fs:Z (Str×XD))(v:V):Prop:=∃ e C dct,v=.ref e/\QA H e C dct/\Yy K c C/\LU K H dct fs
def PZ(kvs:Z (Z Vp×Int)):Z (Z Vp×V):=kvs.map λp=>(p.1,V.int p.2)
structure LV (x:Str):Prop where
 ok:PyData.strOk x=true
 le:x.length<=sizeLine
instance (x:Str):Decidable (LV x):=decidable_of_iff (PyData.strOk x=true/\x.length<=sizeLine) ⟨λh=>⟨h.1,h.2⟩,λh=>⟨h.ok,h.le⟩⟩
theorem LV.of{x:Str}(h:PyData.strOk x=true)(h':x.length<=sizeLine):LV x:=⟨h,h'⟩
mutual
def Rp(K:G8)(H:Hp):Dat->V->Prop
 | .non,v=>v=.non
 | .bl b,v=>v=.bl b
 | .int i,v=>v=.int i
 | .str x,v=>v=.str x/\LV x
 | .tup ds,v=>ds.length<=sizeLine/\∃ a vs,v=.ref a/\E3 K H a vs/\Wf K H ds vs
 | .lst ds,v=>ds.length<=sizeLine/\∃ a vs,v=.ref a/\SL K H a vs/\Wf K H ds vs
 | .dct kvs,v=>kvs.length<=sizeLine/\∃ a,v=.ref a/\H a=some (.dT (PZ kvs))
 | .exc c fs,v=>QD K H c fs v
def Wf(K:G8)(H:Hp):Z Dat->Z V->Prop
 | [],vs=>vs=[]
 | d::ds,vs=>∃ v r,vs=v::r/\Rp K H d v/\Wf K H ds r
end
abbrev AS:=A2->Bool
def av(H:Hp)(A:AS):Hp:=λa=>if A a=true then none else H a
theorem Ws{A:AS}{a:A2}{o:HO}(h:H a=some o)(hA:A a=false):av H A a=some o:=by unfold av;rw[hA];exact h
theorem Q1{A:AS}{a:A2}{o:HO}(h:av H A a=some o):A a=false/\H a=some o:=by
 unfold av at h;split at h
 ·cases h
 ·rename_i q;exact⟨by simpa using q,h⟩
theorem Yn{A:AS}:Zp (av H A) H:=λb o e=>(Q1 e).2
theorem Wv{A:AS}(h:Zp H H'):Zp (av H A) (av H' A):=λb o e=>Ws (h b o (Q1 e).2) (Q1 e).1
theorem Ts{A B:AS}(h:∀ a,B a=true->A a=true):Zp (av H A) (av H B):=λb o e=>by
 obtain⟨h1,h2⟩:=Q1 e;refine Ws h2 ?_;cases q:B b with
 | false=>rfl
 | true=>rw[h b q] at h1;cases h1
def no:AS:=λ_=>false
theorem SV:av H no=H:=by funext a;simp[av,no]
theorem Zp.sl{a:A2}(e:Zp H H')(h:SL K H a xs):SL K H' a xs:=by
 rcases h with(h | ⟨o,h⟩) | h
 ·exact .inl (.inl (e _ _ h))
 ·exact .inl (.inr ⟨o,e _ _ h⟩)
 ·exact .inr h
variable{fs:Z (Str×XD)}{ds:Z Dat}{A A':AS}{p:A2}{t:TT}{G:Int->Int->Dat}
theorem SL.sq{a:A2}(h:SL K H a xs):Dd K H a xs:=by
 rcases h with h | ⟨its,n,h1,h2,h3⟩
 ·exact .inl h
 ·refine .inr ⟨_,its.toArray,n,h1,rfl,rfl,rfl,?_,by simpa using h3⟩
  have:=h3.length;simp only[AU];lia
theorem SL.get{X:Cx}{a:A2}(h:SL X.K H a xs)(I:C' X aa σ H s) :
  ∃ (its:Z A1) (n:Nat),Y0 xs its/\s.heap.get? a=some { cls:=.type "list",data:=.seq its.toArray n }/\xs.length<=sizeLine:=by
 rcases h with h | ⟨its,n,h1,h2,h3⟩
 ·obtain⟨z,its,n,r,e⟩:=h.ok I.hok
  exact⟨its,n,r,e,z⟩
 ·exact⟨its,n,h3,I.kIn _ _ h1,h2⟩
theorem RS.mono(e:Zp H H'){d:XD}{v:V}(h:RS K H d v):RS K H' d v:=by
 cases d with
 | int i=>exact h
 | nums is=>obtain⟨a,e1,e2,e3⟩:=h;exact⟨a,e1,e.sl e2,e3⟩
theorem LU.mono(e:Zp H H')(h:LU K H dct fs):LU K H' dct fs:=by
 cases dct with
 | none=>exact h
 | some dx =>
  obtain⟨j,e1,e2⟩:=h;exact⟨j,e _ _ e1,λf=>(e2 f).imp id λ⟨d,v,a,b,c⟩=>⟨d,v,a,b,c.mono e⟩⟩
theorem QD.mono(e:Zp H H'){c:Str}{v:V}(h:QD K H c fs v):QD K H' c fs v:=by
 obtain⟨x,C,dct,e1,e2,e3,e4⟩:=h;exact⟨x,C,dct,e1,e2.mono e,e3,e4.mono e⟩
mutual
theorem Rp.mono(e:Zp H H'):∀ {d:Dat} {v:V},Rp K H d v->Rp K H' d v
 | .non,v,h=>by unfold Rp at h ⊢;exact h
 | .bl b,v,h=>by unfold Rp at h ⊢;exact h
 | .int i,v,h=>by unfold Rp at h ⊢;exact h
 | .str x,v,h=>by unfold Rp at h ⊢;exact h
 | .dct _,v,h=>by unfold Rp at h ⊢;obtain⟨hz,a,e1,e2⟩:=h;exact⟨hz,a,e1,e _ _ e2⟩
 | .exc _ _,v,h=>by unfold Rp at h ⊢;exact QD.mono e h
 | .tup ds,v,h=>by
  unfold Rp at h ⊢;obtain⟨hz,a,vs,e1,e2,e3⟩:=h;exact⟨hz,a,vs,e1,e.seqT e2,Wf.mono e e3⟩
 | .lst ds,v,h=>by
  unfold Rp at h ⊢;obtain⟨hz,a,vs,e1,e2,e3⟩:=h;exact⟨hz,a,vs,e1,e.sl e2,Wf.mono e e3⟩
theorem Wf.mono(e:Zp H H'):∀ {ds:Z Dat} {vs:Z V},Wf K H ds vs->Wf K H' ds vs
 | [],vs,h=>by unfold Wf at h ⊢;exact h
 | d::ds,vs,h=>by
  unfold Wf at h ⊢;obtain⟨v,r,e1,e2,e3⟩:=h;exact⟨v,r,e1,Rp.mono e e2,Wf.mono e e3⟩
end
theorem Vo:Wf K H [] []:=by unfold Wf;rfl
theorem Vh{d:Dat}{v:V}(h:Rp K H d v)(t:Wf K H ds vs):Wf K H (d::ds) (v::vs):=by unfold Wf;exact⟨v,vs,rfl,h,t⟩
theorem Yj(h:Wf K H [] vs):vs=[]:=by unfold Wf at h;exact h
theorem Zt{d:Dat}(h:Wf K H (d::ds) vs):∃ v r,vs=v::r/\Rp K H d v/\Wf K H ds r:=by unfold Wf at h;exact h
theorem Zw:∀ {ds:Z Dat} {vs:Z V},Wf K H ds vs->vs.length=ds.length
 | [],vs,h=>by rw[Yj h];rfl
 | d::ds,vs,h=>by
  obtain⟨v,r,e1,e2,e3⟩:=Zt h;rw[e1,BH,BH,Zw e3]
theorem Re:∀ {ds:Z Dat} {vs:Z V} {i:Nat} {d:Dat},Wf K H ds vs->ds[i]?=some d->∃ v,vs[i]?=some v/\Rp K H d v
 | [],vs,i,d,h,e=>by simp at e
 | d'::ds,vs,0,d,h,e=>by
  obtain⟨v,r,e1,e2,e3⟩:=Zt h;simp at e;subst e;exact⟨v,by rw[e1];rfl,e2⟩
 | d'::ds,vs,i+1,d,h,e=>by
  obtain⟨v,r,e1,e2,e3⟩:=Zt h;obtain⟨B,h1,h2⟩:=Re (i:=i) e3 (by simpa using e);exact⟨B,by rw[e1];simpa using h1,h2⟩
theorem Wq:∀ {ds es:Z Dat} {vs us:Z V},Wf K H ds vs->Wf K H es us->Wf K H (ds++es) (vs++us)
 | [],es,vs,us,h,k=>by rw[Yj h];exact k
 | d::ds,es,vs,us,h,k=>by
  obtain⟨v,r,e1,e2,e3⟩:=Zt h;subst e1;exact Vh e2 (Wq e3 k)
theorem Iq:∀ (n:Nat) {ds:Z Dat} {vs:Z V},Wf K H ds vs->Wf K H (ds.take n) (vs.take n)
 | 0,_,_,_=>by simp only[KZ];exact Vo
 | n+1,[],vs,h=>by rw[Yj h];simp only[List.take_nil];exact Vo
 | n+1,d::ds,vs,h=>by
  obtain⟨v,r,e1,e2,e3⟩:=Zt h;subst e1;exact Vh e2 (Iq n e3)
theorem Kx:∀ (n:Nat) {ds:Z Dat} {vs:Z V},Wf K H ds vs->Wf K H (ds.drop n) (vs.drop n)
 | 0,_,_,h=>h
 | n+1,[],vs,h=>by rw[Yj h];simp only[List.drop_nil];exact Vo
 | n+1,d::ds,vs,h=>by
  obtain⟨v,r,e1,e2,e3⟩:=Zt h;subst e1;exact Kx n e3
theorem Jz{d:Dat}{v:V}(h:Rp K H d v):Wf K H [d] [v]:=Vh h Vo
theorem ZH:∀ {ds:Z Dat} {vs:Z V} {d:Dat} {v:V} (i:Nat),Wf K H ds vs->Rp K H d v->Wf K H (ds.set i d) (vs.set i v)
 | [],vs,d,v,i,h,_=>by rw[Yj h];simp only[List.set_nil];exact Vo
 | d'::ds,vs,d,v,0,h,k=>by
  obtain⟨B,r,e1,e2,e3⟩:=Zt h;subst e1;exact Vh k e3
 | d'::ds,vs,d,v,i+1,h,k=>by
  obtain⟨B,r,e1,e2,e3⟩:=Zt h;subst e1;exact Vh e2 (ZH i e3 k)
theorem oZ:∀ {vs:Z V},Wf K H ds vs->Wf K H ds.reverse vs.reverse:=by
 induction ds with
 | nil=>intro vs h;rw[Yj h];exact Vo
 | cons d ds ih =>
  intro vs h;obtain⟨v,r,e1,e2,e3⟩:=Zt h;subst e1;rw[IH,IH];exact Wq (ih e3) (Jz e2)
theorem Mx:∀ (ns:Z Int),Wf K H (ns.map Dat.int) (ns.map V.int)
 | []=>Vo
 | n::ns=>Vh (by unfold Rp;rfl) (Mx ns)
theorem Ln:Rp K H .non .non:=by unfold Rp;rfl
theorem Vi{b:Bool}:Rp K H (.bl b) (.bl b):=by unfold Rp;rfl
theorem Yq{i:Int}:Rp K H (.int i) (.int i):=by unfold Rp;rfl
theorem Sj{x:Str}(h:LV x):Rp K H (.str x) (.str x):=by unfold Rp;exact⟨rfl,h⟩
theorem Cb{a:A2}(hz:ds.length<=sizeLine)(h:E3 K H a vs)(r:Wf K H ds vs):Rp K H (.tup ds) (.ref a):=by unfold Rp;exact⟨hz,a,vs,rfl,h,r⟩
theorem Gu{a:A2}(hz:ds.length<=sizeLine)(h:SL K H a vs)(r:Wf K H ds vs):Rp K H (.lst ds) (.ref a):=by unfold Rp;exact⟨hz,a,vs,rfl,h,r⟩
theorem F4{v:V}(h:Rp K H .non v):v=.non:=by unfold Rp at h;exact h
theorem O3{b:Bool}{v:V}(h:Rp K H (.bl b) v):v=.bl b:=by unfold Rp at h;exact h
theorem Jh{i:Int}{v:V}(h:Rp K H (.int i) v):v=.int i:=by unfold Rp at h;exact h
theorem Xw{x:Str}{v:V}(h:Rp K H (.str x) v):v=.str x/\LV x:=by unfold Rp at h;exact h
theorem Rt{v:V}(h:Rp K H (.tup ds) v):∃ a vs,v=.ref a/\E3 K H a vs/\Wf K H ds vs:=by unfold Rp at h;exact h.2
theorem ZW{v:V}(h:Rp K H (.tup ds) v):ds.length<=sizeLine:=by unfold Rp at h;exact h.1
theorem ju{v:V}(h:Rp K H (.lst ds) v):ds.length<=sizeLine:=by unfold Rp at h;exact h.1
theorem Qa{v:V}(h:Rp K H (.lst ds) v):∃ a vs,v=.ref a/\SL K H a vs/\Wf K H ds vs:=by unfold Rp at h;exact h.2
theorem kK{kvs:Z (Z Vp×Int)}{v:V}(h:Rp K H (.dct kvs) v):kvs.length<=sizeLine/\∃ a,v=.ref a/\H a=some (.dT (PZ kvs)):=by unfold Rp at h;exact h
theorem WQ{c:Str}{ds:Z (Str×XD)}{v:V}(h:Rp K H (.exc c ds) v):QD K H c ds v:=by unfold Rp at h;exact h
variable{xs:Z Dat}
def XO(K:G8)(H:Hp)(c f:Str)(ns:Z Int)(v:V):Prop:=∃ (e C dx:A2) (j:Z (Str×V)) (a:A2),v=.ref e/\H e=some (.ext (MT e C (some dx)))/\Yy K c C/\H dx=some (.xd j)/\(∀ g,g≠f->j.lookup g=none)/\j.lookup f=some (.ref a)/\H a=some (.lst (ns.map V.int))/\ns.length<=sizeLine
theorem XO.mono{c f:Str}{v:V}(h:XO K H c f ns v)(e:Zp H H'):XO K H' c f ns v:=by
 obtain⟨x,C,dx,j,a,h1,h2,h3,h4,h5,l,r,s⟩:=h;exact⟨x,C,dx,j,a,h1,e _ _ h2,h3,e _ _ h4,h5,l,e _ _ r,s⟩
theorem XO.rp{c f:Str}{v:V}(h:XO K H c f ns v):Rp K H (.exc c [(f,.nums ns)]) v:=by
 obtain⟨x,C,dx,j,a,h1,h2,h3,h4,h5,l,r,s⟩:=h;unfold Rp;refine⟨x,C,some dx,h1,.inl h2,h3,j,h4,λg=>?_⟩;by_cases hg:g=f
 ·subst hg;exact .inr ⟨.nums ns,.ref a,by simp[List.lookup],l,a,rfl,.inl (.inl r),s⟩
 ·exact .inl ⟨by simp only[List.lookup];rw[show(g==f)=false from by simpa using hg],h5 g hg⟩
def Pk(K:G8)(A:AS)(H:Hp)(d:Dat)(v:V):Prop :=
 Rp K (av H A) d v\/(∃ a vs ds,d=.lst ds/\v=.ref a/\ds.length<=sizeLine/\H a=some (.lst vs)/\Wf K (av H A) ds vs)\/(∃ c f ns,d=.exc c [(f,.nums ns)]/\XO K H c f ns v)\/∃ kvs a,d=.dct kvs/\v=.ref a/\kvs.length<=sizeLine/\H a=some (.dT (PZ kvs))
section
variable{K:G8}{A:AS}{H H':Hp}{d:Dat}{v:V}
theorem Pk.mono(e:Zp H H')(h:Pk K A H d v):Pk K A H' d v:=by
 rcases h with h | ⟨a,vs,ds,e1,e2,hz,e3,e4⟩ | ⟨c,f,ns,e1,e2⟩ | ⟨kvs,a,e1,e2,e3,e4⟩
 ·exact .inl (h.mono (Wv e))
 ·exact .inr (.inl ⟨a,vs,ds,e1,e2,hz,e _ _ e3,e4.mono (Wv e)⟩)
 ·exact .inr (.inr (.inl ⟨c,f,ns,e1,e2.mono e⟩))
 ·exact .inr (.inr (.inr ⟨kvs,a,e1,e2,e3,e _ _ e4⟩))
theorem Pk.rp(h:Pk K A H d v):Rp K H d v:=by
 rcases h with h | ⟨a,vs,ds,e1,e2,hz,e3,e4⟩ | ⟨c,f,ns,e1,e2⟩ | ⟨kvs,a,e1,e2,e3,e4⟩
 ·exact h.mono Yn
 ·subst e1 e2;exact Gu hz (.inl (.inl e3)) (e4.mono Yn)
 ·subst e1;exact e2.rp
 ·subst e1;unfold Rp;exact⟨e3,a,e2,e4⟩
theorem Pk.lenL(h:Pk K A H (.lst ds) v):ds.length<=sizeLine:=ju h.rp
theorem Pk.lenT(h:Pk K A H (.tup ds) v):ds.length<=sizeLine:=ZW h.rp
theorem Pk.non(h:Pk K A H .non v):v=.non:=F4 h.rp
theorem Pk.bl{b:Bool}(h:Pk K A H (.bl b) v):v=.bl b:=O3 h.rp
theorem Pk.int{i:Int}(h:Pk K A H (.int i) v):v=.int i:=Jh h.rp
theorem Pk.str{x:Str}(h:Pk K A H (.str x) v):v=.str x/\LV x:=Xw h.rp
theorem Pk.tup{ds:Z Dat}(h:Pk K A H (.tup ds) v):∃ a vs,v=.ref a/\E3 K H a vs/\Wf K (av H A) ds vs:=by
 rcases h with h | ⟨a,vs,ds,e1,e2,e3,e4⟩ | ⟨c,f,ns,e1,e2⟩ | ⟨kvs,a,e1,e2,e3,e4⟩
 ·obtain⟨a,vs,e1,e2,e3⟩:=Rt h
  exact⟨a,vs,e1,Yn.seqT e2,e3⟩
 ·cases e1
 ·cases e1
 ·cases e1
theorem Pk.lst{ds:Z Dat}(h:Pk K A H (.lst ds) v):∃ a vs,v=.ref a/\SL K H a vs/\Wf K (av H A) ds vs:=by
 rcases h with h | ⟨a,vs,ds',e1,e2,hz,e3,e4⟩ | ⟨c,f,ns,e1,e2⟩ | ⟨kvs,a,e1,e2,e3,e4⟩
 ·obtain⟨a,vs,e1,e2,e3⟩:=Qa h
  exact⟨a,vs,e1,Yn.sl e2,e3⟩
 ·cases e1;exact⟨a,vs,e2,.inl (.inl e3),e4⟩
 ·cases e1
 ·cases e1
end
mutual
def Mt:Dat->Dat->Bool
 | .non,.non=>true
 | .bl a,.bl b=>a==b
 | .bl a,.int j=>(if a then 1 else 0)==j
 | .int i,.bl b=>i==(if b then 1 else 0)
 | .int i,.int j=>i==j
 | .str x,.str y=>x==y
 | .lst xs,.lst ys=>OB xs ys
 | .tup xs,.tup ys=>OB xs ys
 | _,_=>false
def OB:Z Dat->Z Dat->Bool
 | [],[]=>true
 | x::xs,y::ys=>Mt x y&&OB xs ys
 | _,_=>false
end
def pd:Nat->Dat->Bool
 | 0,.lst _=>false
 | 0,.tup _=>false
 | n+1,.lst xs=>xs.all (pd n)
 | n+1,.tup xs=>xs.all (pd n)
 | _,.dct _=>false
 | _,.exc _ _=>false
 | _,.non=>true
 | _,.bl _=>true
 | _,.int _=>true
 | _,.str _=>true
mutual
def NH:Dat->PyData
 | .non=>.none
 | .bl b=>.bool b
 | .int i=>.int i
 | .str x=>.str x
 | .tup xs=>.tuple (Fc xs)
 | .lst xs=>.list (Fc xs)
 | .dct _=>.none
 | .exc _ _=>.none
def Fc:Z Dat->Z PyData
 | []=>[]
 | x::xs=>NH x::Fc xs
end
theorem Ce{n:Nat}(h:pd n (.lst xs)=true):∃ m,n=m+1/\∀ x∈xs,pd m x=true:=by
 cases n with
 | zero=>cases h
 | succ n=>exact⟨n,rfl,by simpa[pd] using h⟩
theorem VF{n:Nat}(h:pd n (.tup xs)=true):∃ m,n=m+1/\∀ x∈xs,pd m x=true:=by
 cases n with
 | zero=>cases h
 | succ n=>exact⟨n,rfl,by simpa[pd] using h⟩
theorem UM{n:Nat}{xs}(h:pd n (.dct xs)=true):False:=by cases n<;>cases h
theorem C7{n:Nat}{c xs}(h:pd n (.exc c xs)=true):False:=by cases n<;>cases h
mutual
theorem Ea:∀ {n m:Nat} (x y:Dat),pd n x=true->pd m y=true->PyData.eqv (NH x) (NH y)=Mt x y
 | n,m,.dct _,y,h,_=>(UM h).elim
 | n,m,.exc _ _,y,h,_=>(C7 h).elim
 | n,m,x,.dct _,_,h=>(UM h).elim
 | n,m,x,.exc _ _,_,h=>(C7 h).elim
 | n,m,.non,.non,_,_=>rfl
 | n,m,.non,.bl _,_,_=>rfl
 | n,m,.non,.int _,_,_=>rfl
 | n,m,.non,.str _,_,_=>rfl
 | n,m,.non,.tup _,_,_=>rfl
 | n,m,.non,.lst _,_,_=>rfl
 | n,m,.bl _,.non,_,_=>rfl
 | n,m,.bl _,.bl _,_,_=>rfl
 | n,m,.bl _,.int _,_,_=>rfl
 | n,m,.bl _,.str _,_,_=>rfl
 | n,m,.bl _,.tup _,_,_=>rfl
 | n,m,.bl _,.lst _,_,_=>rfl
 | n,m,.int _,.non,_,_=>rfl
 | n,m,.int _,.bl _,_,_=>rfl
 | n,m,.int _,.int _,_,_=>rfl
 | n,m,.int _,.str _,_,_=>rfl
 | n,m,.int _,.tup _,_,_=>rfl
 | n,m,.int _,.lst _,_,_=>rfl
 | n,m,.str _,.non,_,_=>rfl
 | n,m,.str _,.bl _,_,_=>rfl
 | n,m,.str _,.int _,_,_=>rfl
 | n,m,.str _,.str _,_,_=>rfl
 | n,m,.str _,.tup _,_,_=>rfl
 | n,m,.str _,.lst _,_,_=>rfl
 | n,m,.lst _,.non,_,_=>rfl
 | n,m,.lst _,.bl _,_,_=>rfl
 | n,m,.lst _,.int _,_,_=>rfl
 | n,m,.lst _,.str _,_,_=>rfl
 | n,m,.lst _,.tup _,_,_=>rfl
 | n,m,.lst xs,.lst ys,h,k=>by
  obtain⟨g,_,hx⟩:=Ce h;obtain⟨m',_,hy⟩:=Ce k;simp only[NH,PyData.eqv,Mt];exact Po xs ys hx hy
 | n,m,.tup _,.non,_,_=>rfl
 | n,m,.tup _,.bl _,_,_=>rfl
 | n,m,.tup _,.int _,_,_=>rfl
 | n,m,.tup _,.str _,_,_=>rfl
 | n,m,.tup _,.lst _,_,_=>rfl
 | n,m,.tup xs,.tup ys,h,k=>by
  obtain⟨g,_,hx⟩:=VF h;obtain⟨m',_,hy⟩:=VF k;simp only[NH,PyData.eqv,Mt];exact Po xs ys hx hy
theorem Po:∀ {n m:Nat} (xs ys:Z Dat),(∀ x∈xs,pd n x=true)->(∀ y∈ys,pd m y=true)->PyData.eqvAll (Fc xs) (Fc ys)=OB xs ys
 | n,m,[],[],_,_=>rfl
 | n,m,[],_::_,_,_=>rfl
 | n,m,_::_,[],_,_=>rfl
 | n,m,x::xs,y::ys,hx,hy=>by
  simp only[Fc,PyData.eqvAll,OB];rw[Ea (n:=n) (m:=m) x y (hx x AW) (hy y AW),Po (n:=n) (m:=m) xs ys (λz hz=>hx z (AV _ hz)) (λz hz=>hy z (AV _ hz))]
end
mutual
theorem El:∀ (n:Nat) (x:Dat),pd n x=true->(NH x).depth<=n
 | n,.dct _,h=>(UM h).elim
 | n,.exc _ _,h=>(C7 h).elim
 | n,.non,_=>CP _
 | n,.bl _,_=>CP _
 | n,.int _,_=>CP _
 | n,.str _,_=>CP _
 | n,.lst xs,h=>by
  obtain⟨m,e,hx⟩:=Ce h;subst e;simp only[NH,PyData.depth];exact ID (Gv m xs hx)
 | n,.tup xs,h=>by
  obtain⟨m,e,hx⟩:=VF h;subst e;simp only[NH,PyData.depth];exact ID (Gv m xs hx)
theorem Gv:∀ (n:Nat) (xs:Z Dat),(∀ x∈xs,pd n x=true)->PyData.depthAll (Fc xs)<=n
 | n,[],_=>CP _
 | n,x::xs,h=>by
  simp only[Fc,PyData.depthAll];exact Nat.max_le.mpr ⟨El n x (h x AW),Gv n xs λz hz=>h z (AV _ hz)⟩
end
section
variable{X:Cx}
mutual
theorem Rp.reads(I:C' X aa σ H s):∀ {n:Nat} (d:Dat) (v:V) (u:A1),pd n d=true->Rp X.K H d v->Yi v u->∃ as,Reads s.heap u (NH d) as/\(NH d).canLay0=true
 | n,.dct _,v,u,h,_,_=>(UM h).elim
 | n,.exc _ _,v,u,h,_,_=>(C7 h).elim
 | n,.non,v,u,_,i,r=>by cases F4 i;cases r;exact⟨_,.none,rfl⟩
 | n,.bl b,v,u,_,i,r=>by cases O3 i;cases r;exact⟨_,.bool b,rfl⟩
 | n,.int k,v,u,_,i,r=>by cases Jh i;obtain⟨t,rfl⟩:=r;exact⟨_,.int k t,rfl⟩
 | n,.str x,v,u,_,i,r=>by
  obtain⟨e,hs⟩:=Xw i;subst e;obtain⟨t,rfl⟩:=r;exact⟨_,.str x t,hs.ok⟩
 | n,.tup ds,v,u,h,i,r=>by
  obtain⟨m,_,hx⟩:=VF h;obtain⟨a,vs,e1,e2,e3⟩:=Rt i;subst e1;cases r;obtain⟨its,rv,⟨o,ho,hc,k,hd⟩,_⟩:=I.tuple e2;obtain⟨as,ra,hl⟩:=Wf.reads I ds vs its hx e3 rv;exact⟨_,.tuple ho hc hd (by simpa using ra),hl⟩
 | n,.lst ds,v,u,h,i,r=>by
  obtain⟨m,_,hx⟩:=Ce h;obtain⟨a,vs,e1,e2,e3⟩:=Qa i;subst e1;cases r;obtain⟨its,rv,⟨o,k,ho,hc,_,hd⟩,_⟩:=I.list e2.sq;obtain⟨as,ra,hl⟩:=Wf.reads I ds vs its hx e3 rv;exact⟨_,.list ho hc hd (by simpa using ra),hl⟩
theorem Wf.reads(I:C' X aa σ H s):∀ {n:Nat} (ds:Z Dat) (vs:Z V) (us:Z A1),(∀ x∈ds,pd n x=true)->Wf X.K H ds vs->Y0 vs us->∃ as,ReadsAll s.heap us (Fc ds) as/\PyData.canLayAll0 (Fc ds)=true
 | n,[],vs,us,_,i,r=>by
  rw[Yj i] at r;cases r;exact⟨_,.nil,rfl⟩
 | n,d::ds,vs,us,h,i,r=>by
  obtain⟨v,l,e1,e2,e3⟩:=Zt i;subst e1;cases r with
  | cons r1 r2 =>
   obtain⟨as,h1,l1⟩:=Rp.reads I d v _ (h d AW) e2 r1;obtain⟨bs,h2,l2⟩:=Wf.reads I ds l _ (λz hz=>h z (AV _ hz)) e3 r2;exact⟨_,.cons h1 h2,by simp only[Fc,PyData.canLayAll0,l1,l2];rfl⟩
end
theorem Rp.eqAt(I:C' X aa σ H s){A:C0}{n m:Nat}{d e:Dat}{v w:V}{D:A1}(hd:pd n d=true)(he:pd m e=true)(hn:n<=60)(hu:A.units+60<cLine)(r1:Rp X.K H d v)(r2:Rp X.K H e w)(M:Yi v u)(q2:Yi w D) :
  SeqAt.EqAt A s u D (Mt d e):=by
 obtain⟨as,a1,a2⟩:=Rp.reads I d v u hd r1 M;obtain⟨bs,b1,b2⟩:=Rp.reads I e w D he r2 q2;rw[← Ea d e hd he];have:=El n d hd;exact SeqAt.eqAt_reads _ _ A s u D as bs a1 b1 a2 b2 (by lia)
end
variable{xs:Z α}{z:Str}
def RE:C1 HO->Prop
 | some (.lst _)=>True
 | some (.dK _)=>True
 | some (.dT _)=>True
 | _=>False
def Ul(A:AS)(H:Hp):Prop:=∀ a,A a=true->RE (H a)
theorem Ul.new(m:Ul A H)(h:H p=none):A p=false:=by
 cases q:A p with
 | false=>rfl
 | true=>have:=m p q;rw[h] at this;exact this.elim
theorem Ul.mono(m:Ul A H)(e:Zp H H'):Ul A H':=λa h=>by
 have:=m a h;cases q:H a with
 | none=>rw[q] at this;exact this.elim
 | some o=>rw[q] at this;rw[e a o q];exact this
def ins(A:AS)(p:A2):AS:=λa=>A a||a==p
theorem bE:ins A p p=true:=by simp[ins]
theorem Lm{a:A2}(h:A a=true):ins A p a=true:=by simp[ins,h]
theorem X3{a:A2}(h:ins A p a=true):A a=true\/a=p:=by simpa[ins] using h
theorem nZ{a:A2}(h:A a=false)(hn:a≠p):ins A p a=false:=by simp[ins,h,hn]
structure G0 (A:AS) (H:Hp) (A':AS) (H':Hp):Prop where
 keep:∀ a o,H a=some o->A a=false->H' a=some o
 sub:∀ a,A' a=true->A a=true\/H a=none
theorem G0.refl(A:AS)(H:Hp):G0 A H A H:=⟨λ_ _ h _=>h,λ_ h=>.inl h⟩
theorem G0.same(e:Zp H H'):G0 A H A H':=⟨λa o h _=>e a o h,λ_ h=>.inl h⟩
theorem G0.trans{A t f:AS}{H H1 H2:Hp}(a:G0 A H t H1)(b:G0 t H1 f H2):G0 A H f H2 where
 keep:=λc o h hA=>b.keep c o (a.keep c o h hA) (by
  cases q:t c with
  | false=>rfl
  | true =>
   rcases a.sub c q with z | z
   ·rw[z] at hA;cases hA
   ·rw[z] at h;cases h)
 sub:=λc h=>by
  rcases b.sub c h with z | z
  ·exact a.sub c z
  ·cases d:A c with
   | true=>exact .inl rfl
   | false =>
    cases q:H c with
    | none=>exact .inr rfl
    | some o=>rw[a.keep c o q d] at z;cases z
theorem G0.av(s:G0 A H A' H'):Zp (av H A) (av H' A'):=λb o e=>by
 obtain⟨h1,h2⟩:=Q1 e;refine Ws (s.keep b o h2 h1) ?_;cases q:A' b with
 | false=>rfl
 | true =>
  rcases s.sub b q with z | z
  ·rw[z] at h1;cases h1
  ·rw[z] at h2;cases h2
inductive GX where
 | nest (dss:List (List Dat)) | dict (kvs:List (List Vp×Dat)) | err (c f:Str) (ns:List Int) | dik (kvs:List (Int×Dat))
def NV(K:G8)(A:AS)(H:Hp)(o:A2->Prop):GX->V->Prop
 | .nest dss,v=>∃ (a:A2) (as:Z A2),v=.ref a/\o a/\dss.length<=sizeLine/\H a=some (.lst (as.map V.ref))/\as.length=dss.length/\as.Nodup/\a∉as/\∀ (n:Nat) b ds,as[n]?=some b->dss[n]?=some ds->o b/\ds.length<=sizeLine/\∃ vs,H b=some (.lst vs)/\Wf K (av H A) ds vs
 | .dict kvs,v=>∃ (a:A2) (us:Z (Z Vp×V)),v=.ref a/\o a/\kvs.length<=sizeLine/\H a=some (.dT us)/\us.map (·.1)=kvs.map (·.1)/\Wf K (av H A) (kvs.map (·.2)) (us.map (·.2))
 | .err c f ns,v=>∃ (e C dx:A2) (j:Z (Str×V)) (a:A2),v=.ref e/\av H A e=some (.ext (MT e C (some dx)))/\Yy K c C/\av H A dx=some (.xd j)/\(∀ g,g≠f->j.lookup g=none)/\j.lookup f=some (.ref a)/\o a/\H a=some (.lst (ns.map V.int))/\ns.length<=sizeLine
 | .dik kvs,v=>∃ (a:A2) (us:Z (Vp×V)),v=.ref a/\o a/\kvs.length<=sizeLine/\H a=some (.dK us)/\us.map (·.1)=kvs.map (λp=>(Sum.inl p.1:Vp))/\Wf K (av H A) (kvs.map (·.2)) (us.map (·.2))
theorem NV.frame{o o':A2->Prop}{g:GX}{v:V}(h:NV K A H o g v)(ho:∀ b,o b->o' b)(hf:∀ b x,o b->H b=some x->H' b=some x)(ha:Zp (av H A) (av H' A')):NV K A' H' o' g v:=by
 cases g with
 | nest dss =>
  obtain⟨a,as,e1,e2,e3,e4,e5,t,J,e8⟩:=h;refine⟨a,as,e1,ho a e2,e3,hf _ _ e2 e4,e5,t,J,λn b ds M q2=>?_⟩;obtain⟨f1,f2,vs,f3,m⟩:=e8 n b ds M q2;exact⟨ho b f1,f2,vs,hf _ _ f1 f3,m.mono ha⟩
 | dict kvs =>
  obtain⟨a,us,e1,e2,e3,e4,e5,t⟩:=h;exact⟨a,us,e1,ho a e2,e3,hf _ _ e2 e4,e5,t.mono ha⟩
 | err c f ns =>
  obtain⟨x,C,dx,j,a,h1,h2,h3,h4,h5,l,r,s,h9⟩:=h;exact⟨x,C,dx,j,a,h1,ha _ _ h2,h3,ha _ _ h4,h5,l,ho a r,hf _ _ r s,h9⟩
 | dik kvs =>
  obtain⟨a,us,e1,e2,e3,e4,e5,t⟩:=h;exact⟨a,us,e1,ho a e2,e3,hf _ _ e2 e4,e5,t.mono ha⟩
inductive LH where
 | un | fz (d:Dat) | pk (d:Dat) | ow (ds:List Dat) | gx (g:GX)
abbrev Ev:=Z LH
abbrev Zzu:=Ev->C1 Dat
abbrev Zzv:=Ev->C1 (Z Dat)
def Bx(K:G8)(A:AS)(H:Hp)(o:A2->Prop):LH->C1 V->Prop
 | .un,_=>True
 | .fz d,x=>∃ v,x=some v/\Rp K (av H A) d v
 | .pk d,x=>∃ v,x=some v/\Pk K A H d v
 | .ow ds,x=>∃ a vs,x=some (.ref a)/\o a/\ds.length<=sizeLine/\H a=some (.lst vs)/\Wf K (av H A) ds vs
 | .gx g,x=>∃ v,x=some v/\NV K A H o g v
structure Bs where
 H₀:Hp
 R:AS
 st:Bool
structure F' (K:G8) (B:Bs) (A:AS) (H:Hp) (σ:St) (env:Ev):Prop where
 h0:Zp B.H₀ H
 r0:∀ a,B.R a=true->∃ o,B.H₀ a=some o
 ra:∀ a,B.R a=true->A a=true
 ar:∀ a,A a=true->B.R a=true\/B.H₀ a=none
 mu:Ul A H
 len:σ.length=env.length
 np:B.st=true->∀ (i:Nat) d,env[i]?≠some (.pk d)
 sl:∃ own:Nat->Addr->Prop,(∀ i j a,own i a->own j a->i=j)/\(∀ i a,own i a->A a=true/\B.R a=false) /\
  ∀ (i:Nat) s,env[i]?=some s->∃ x,σ[i]?=some x/\Bx K A H (own i) s x
theorem Bx.mono(e:Zp H H'){o:A2->Prop}{s:LH}{x:C1 V}(h:Bx K A H o s x):Bx K A H' o s x:=by
 cases s with
 | un=>trivial
 | fz d=>obtain⟨v,e1,e2⟩:=h;exact⟨v,e1,e2.mono (Wv e)⟩
 | pk d=>obtain⟨v,e1,e2⟩:=h;exact⟨v,e1,e2.mono e⟩
 | ow ds=>obtain⟨a,vs,e1,e2,hz,e3,e4⟩:=h;exact⟨a,vs,e1,e2,hz,e _ _ e3,e4.mono (Wv e)⟩
 | gx g=>obtain⟨v,e1,e2⟩:=h;exact⟨v,e1,e2.frame (λ_ z=>z) (λb x _ q=>e b x q) (Wv e)⟩
theorem F'.mono{B:Bs}{env:Ev}(k:F' K B A H σ env)(e:Zp H H'):F' K B A H' σ env:=by
 obtain⟨own,h1,h2,h4⟩:=k.sl;exact⟨k.h0.trans e,k.r0,k.ra,k.ar,k.mu.mono e,k.len,k.np,own,h1,h2,λi s q=>let ⟨x,q2,C⟩:=h4 i s q;⟨x,q2,C.mono e⟩⟩
def Rm(m:Bool)(K:G8)(A:AS)(H:Hp)(d:Dat)(v:V):Prop:=match m with
 | true=>Pk K A H d v
 | false=>Rp K (av H A) d v
theorem Rm.any{d:Dat}{v:V}(h:Rp K (av H A) d v):Rm m K A H d v:=by
 cases m with
 | true=>exact .inl h
 | false=>exact h
theorem Rm.pk{d:Dat}{v:V}(h:Rm m K A H d v):Pk K A H d v:=by
 cases m with
 | true=>exact h
 | false=>exact .inl h
theorem Rm.mono(e:Zp H H'){d:Dat}{v:V}(h:Rm m K A H d v):Rm m K A H' d v:=by
 cases m with
 | true=>exact Pk.mono e h
 | false=>exact Rp.mono (Wv e) h
def L1(m:Bool)(K:G8)(A:AS)(H:Hp):Z Dat->Z V->Prop
 | [],vs=>vs=[]
 | d::ds,vs=>∃ v r,vs=v::r/\Rm m K A H d v/\L1 m K A H ds r
theorem L1.rps:∀ {ds:Z Dat} {vs:Z V},L1 false K A H ds vs->Wf K (av H A) ds vs
 | [],vs,h=>by rw[show vs=[] from h];exact Vo
 | _::_,_,⟨v,r,e1,e2,e3⟩=>by rw[e1];exact Vh e2 (L1.rps e3)
theorem L1.full:∀ {ds:Z Dat} {vs:Z V},L1 m K A H ds vs->Wf K H ds vs
 | [],vs,h=>by rw[show vs=[] from h];exact Vo
 | _::_,_,⟨v,r,e1,e2,e3⟩=>by rw[e1];exact Vh e2.pk.rp (L1.full e3)
theorem L1.one{d:Dat}(h:L1 m K A H [d] vs):∃ v,vs=[v]/\Pk K A H d v:=by
 obtain⟨v,r,e1,e2,e3⟩:=h;exact⟨v,by rw[e1,show r=[] from e3],e2.pk⟩
variable{env:Ev}
theorem L1.two{d d':Dat}(h:L1 m K A H [d,d'] vs):∃ v B,vs=[v,B]/\Pk K A H d v/\Pk K A H d' B:=by
 obtain⟨v,r,e1,e2,B,r',e3,e4,e5⟩:=h;exact⟨v,B,by rw[e1,e3,show r'=[] from e5],e2.pk,e4.pk⟩
def T7(m:Bool)(K:G8)(A:AS)(H:Hp)(d:Dat)(Q:VK):Prop:=∀ v H',Zp H H'->Rm m K A H' d v->Q v H'
def A5(K:G8)(A:AS)(H:Hp)(ds:Z Dat)(Q:VK):Prop:=∀ p vs H',ds.length<=sizeLine->Zp H H'->H p=none->H' p=some (.lst vs)->Wf K (av H' (ins A p)) ds vs->Q (.ref p) H'
section
variable{m:Bool}{K:G8}{A:AS}{H H':Hp}{d:Dat}{ds:Z Dat}{Q:VK}
theorem T7.mono(h:T7 m K A H d Q)(e:Zp H H'):T7 m K A H' d Q:=λv H2 e2 r=>h v H2 (e.trans e2) r
theorem A5.mono(h:A5 K A H ds Q)(e:Zp H H'):A5 K A H' ds Q:=λp vs H2 hz e2 hn hp r=>h p vs H2 hz (e.trans e2) (e.free hn) hp r
theorem T7.any(h:T7 m K A H d Q):T7 false K A H d Q:=λv H' e r=>h v H' e (Rm.any r)
theorem T7.here{v:V}(h:T7 m K A H d Q)(r:Rp K (av H A) d v):Q v H:=h v H (Zp.refl H) (Rm.any r)
theorem T7.new(h:T7 m K A H (.lst ds) Q)(mu:Ul A H):A5 K A H ds Q:=λp vs H' hz e hn hp r=>by
 refine h _ H' e (Rm.any (Gu hz (.inl (.inl (Ws hp (mu.new hn)))) (r.mono (Ts λa q=>Lm q))))
theorem A5.at(h:A5 K A H ds Q)(hz:ds.length<=sizeLine)(r:Wf K (av H A) ds vs):∀ p,H p=none->Q (.ref p) (Yr H p (.lst vs)):=λp hp=>by
 refine h p vs _ hz (Zp.new hp) hp Zg (r.mono λb o e=>?_);obtain⟨h1,h2⟩:=Q1 e;have hb:b≠p:=Y8 h2 hp;exact Ws (by rw[Zc hb];exact h2) (nZ h1 hb)
theorem T7.tup{vs:Z V}(h:T7 m K A H (.tup ds) Q)(mu:Ul A H)(hz:ds.length<=sizeLine)(r:Wf K (av H A) ds vs):∀ p,H p=none->Q (.ref p) (Yr H p (.tup vs)):=λp hp=>by
 refine h _ _ (Zp.new hp) (Rm.any (Cb hz (.inl ((Ws Zg (mu.new hp)))) (r.mono (Wv (Zp.new hp)))))
end
def Yz(m:Bool)(X:Cx)(e:C3)(f:Zzu):Prop:=PE X e λσ H Q=>∃ env R A d,F' X.K R A H σ env/\f env=some d/\T7 m X.K A H d Q
def MH(X:Cx)(e:C3)(f:Zzv):Prop:=PE X e λσ H Q=>∃ env R A ds,F' X.K R A H σ env/\f env=some ds/\A5 X.K A H ds Q
def O1(m:Bool)(X:Cx)(es:Z C3)(f:Zzv):Prop:=PA X es λσ H Q=>∃ env R A ds,F' X.K R A H σ env/\f env=some ds/\∀ vs H',Zp H H'->L1 m X.K A H' ds vs->Q vs H'
def MK(X:Cx)(e:C3)(f:Ev->C1 Bool):Prop:=PT X e λσ H Q=>∃ env R A b,F' X.K R A H σ env/\f env=some b/\∀ H',Zp H H'->Q b H'
def P5(X:Cx)(e:C3)(f:Ev->C1 Bool):Prop:=PW X e λσ H Q=>∃ env R A b,F' X.K R A H σ env/\f env=some b/\∀ H',Zp H H'->Q b H'
theorem PE.weak{X:Cx}{t t':TE}(h:PE X e t)(w:∀ σ H Q,t' σ H Q->t σ H Q):PE X e t':=λaa s σ H Q I q=>h aa s σ H Q I (w σ H Q q)
theorem PT.weak{X:Cx}(h:PT X e t)(w:∀ σ H Q,t' σ H Q->t σ H Q):PT X e t':=λaa s σ H Q I q=>h aa s σ H Q I (w σ H Q q)
theorem PW.weak{X:Cx}(h:PW X e t)(w:∀ σ H Q,t' σ H Q->t σ H Q):PW X e t':=λd aa s σ H Q I q=>h d aa s σ H Q I (w σ H Q q)
theorem PA.weak{X:Cx}{e:Z C3}{t t':TA}(h:PA X e t)(w:∀ σ H Q,t' σ H Q->t σ H Q):PA X e t':=λpos aa s σ H Q I q=>h pos aa s σ H Q I (w σ H Q q)
theorem PS.weak{X:Cx}{e:C4}{t t':TS}(h:PS X e t)(w:∀ D σ H,t' D σ H->t D σ H):PS X e t':=λaa s σ H D I q=>h aa s σ H D I (w D σ H q)
theorem Sv.weak{X:Cx}{e:Z C4}{t t':TS}(h:Sv X e t)(w:∀ D σ H,t' D σ H->t D σ H):Sv X e t':=λaa s σ H D I q=>h aa s σ H D I (w D σ H q)
section
variable{m:Bool}{X:Cx}{e:C3}{f:Zzu}
theorem Yz.any(h:Yz false X e f):Yz m X e f:=h.weak λ_ _ _ ⟨env,R,A,d,k,M,q2⟩=>⟨env,R,A,d,k,M,q2.any⟩
def dL(g:Zzv):Ev->C1 Dat:=λenv=>(g env).map .lst
theorem MH.x{g:Zzv}(h:MH X e g):Yz m X e (dL g):=h.weak λ_ _ _ zz=>by
 obtain⟨env,R,A,d,k,M,q2⟩:=zz;unfold dL at M;cases q:g env with
 | none=>rw[q] at M;cases M
 | some ds =>
  rw[q] at M;cases M;exact⟨env,R,A,ds,k,q,q2.new k.mu⟩
theorem bind_some{β:Type}{a:C1 α}{g:α->C1 β}{b:β}(h:a.bind g=some b):∃ x,a=some x/\g x=some b:=by
 cases a with
 | none=>cases h
 | some x=>exact⟨x,rfl,h⟩
def U(i:Nat):Ev->C1 Dat:=λenv=>match env[i]? with
 | some (.fz d)=>some d
 | _=>none
def NQ:Z (Z Vp×Dat)->C1 (Z (Z Vp×Int))
 | []=>some []
 | (k,.int n)::r=>(NQ r).map ((k,n)::·)
 | _=>none
theorem cm:∀ {kvs:Z (Z Vp×Dat)} {b:Z (Z Vp×Int)},NQ kvs=some b->b.length=kvs.length
 | [],b,h=>by cases h;rfl
 | (k,.int n)::r,b,h=>by
   rw[NQ] at h;cases e:NQ r with
   | none=>rw[e] at h;cases h
   | some r'=>rw[e] at h;cases h;rw[BH,BH,cm e]
 | (k,.non)::r,b,h=>by cases h
 | (k,.bl _)::r,b,h=>by cases h
 | (k,.str _)::r,b,h=>by cases h
 | (k,.tup _)::r,b,h=>by cases h
 | (k,.lst _)::r,b,h=>by cases h
 | (k,.dct _)::r,b,h=>by cases h
 | (k,.exc _ _)::r,b,h=>by cases h
theorem ZG:∀ {kvs:Z (Z Vp×Dat)} {b:Z (Z Vp×Int)} {us:Z (Z Vp×V)},NQ kvs=some b->us.map (·.1)=kvs.map (·.1)->Wf K H (kvs.map (·.2)) (us.map (·.2))->us=PZ b
 | [],b,us,h,e1,_=>by
   cases h;cases us with
   | nil=>rfl
   | cons u us=>cases e1
 | (k,.int n)::r,b,us,h,e1,e2=>by
   rw[NQ] at h;cases e:NQ r with
   | none=>rw[e] at h;cases h
   | some r' =>
     rw[e] at h;cases h;cases us with
     | nil=>cases e1
     | cons u us =>
       obtain⟨v,a,z1,z2,W⟩:=Zt e2;rw[CC] at z1;injection z1 with z1 z4
       rw[CC,CC] at e1;injection e1 with e1 e3
       have ih:=ZG e e3 (z4▸W);have hv:u.2=.int n:=by rw[z1];exact Jh z2
       rw[ih];show u::PZ r'=(k,V.int n)::PZ r';rw[show u=(k,V.int n) from IW e1 hv]
 | (k,.non)::r,b,us,h,_,_=>by cases h
 | (k,.bl _)::r,b,us,h,_,_=>by cases h
 | (k,.str _)::r,b,us,h,_,_=>by cases h
 | (k,.tup _)::r,b,us,h,_,_=>by cases h
 | (k,.lst _)::r,b,us,h,_,_=>by cases h
 | (k,.dct _)::r,b,us,h,_,_=>by cases h
 | (k,.exc _ _)::r,b,us,h,_,_=>by cases h
def dP(i:Nat):Ev->C1 Dat:=λenv=>match env[i]? with
 | some (.fz d)=>some d
 | some (.pk d)=>some d
 | some (.ow ds)=>some (.lst ds)
 | some (.gx (.err c f ns))=>some (.exc c [(f,.nums ns)])
 | some (.gx (.dict kvs))=>(NQ kvs).map .dct
 | _=>none
theorem F'.fz{R:Bs}{d:Dat}(k:F' X.K R A H σ env)(h:env[i]?=some (.fz d)):∃ v,σ[i]?=some (some v)/\Rp X.K (av H A) d v:=by
 obtain⟨own,h1,h2,h4⟩:=k.sl;obtain⟨x,q2,v,e1,e2⟩:=h4 i _ h;subst e1;exact⟨v,q2,e2⟩
theorem F'.look{R:Bs}{d:Dat}(k:F' X.K R A H σ env)(h:dP i env=some d):∃ v,σ[i]?=some (some v)/\Pk X.K A H d v:=by
 obtain⟨own,h1,h2,h4⟩:=k.sl;unfold dP at h;split at h
 ·rename_i z e
  cases h;obtain⟨x,q2,v,e1,e2⟩:=h4 i _ e;subst e1;exact⟨v,q2,.inl e2⟩
 ·rename_i z e
  cases h;obtain⟨x,q2,v,e1,e2⟩:=h4 i _ e;subst e1;exact⟨v,q2,e2⟩
 ·rename_i z e
  cases h;obtain⟨x,q2,a,vs,e1,e2,hz,e3,e4⟩:=h4 i _ e;subst e1;exact⟨.ref a,q2,.inr (.inl ⟨a,vs,z,rfl,rfl,hz,e3,e4⟩)⟩
 ·rename_i c f ns e
  cases h;obtain⟨x,q2,v,e1,y,C,dx,j,a,h1,h2,h3,h4,h5,l,r,s,h9⟩:=h4 i _ e;subst e1;exact⟨v,q2,.inr (.inr (.inl ⟨c,f,ns,rfl,y,C,dx,j,a,h1,(Q1 h2).2,h3,(Q1 h4).2,h5,l,s,h9⟩))⟩
 ·rename_i kvs e
  obtain⟨x,q2,v,e1,a,us,g1,g2,g3,Y,g5,g6⟩:=h4 i _ e;subst e1;cases el:NQ kvs with
  | none=>rw[el] at h;cases h
  | some b =>
   rw[el] at h;cases h;exact⟨v,q2,.inr (.inr (.inr ⟨b,a,rfl,g1,by rw[cm el];exact g3,by rw[Y,ZG el g5 g6]⟩))⟩
 ·cases h
theorem xv(i:Nat){x:Str}{pos:Pos}(hN:X.N[i]?=some x:=by rfl)(hv:MN X.env.scope x:=by ext)(hd:C2 x:=by decide)
  (af:(x==("__classdict__" : Str))=false:=by decide):Yz m X (.Name x pos) (U i):=Yz.any ((Jm hN hv hd af).weak λσ H Q zz=>by
 obtain⟨env,R,A,d,k,M,q2⟩:=zz;unfold U at M;split at M
 ·rename_i z e
  cases M;obtain⟨v,h1,h2⟩:=k.fz e;exact⟨v,h1,q2.here h2⟩
 ·cases M)
theorem xo(i:Nat){x:Str}(hN:X.N[i]?=some x:=by rfl)(hv:MN X.env.scope x:=by ext)(hd:C2 x:=by decide)
  (af:(x==("__classdict__" : Str))=false:=by decide):Yz true X (.Name x pos) (dP i):=(Jm hN hv hd af).weak λσ H Q zz=>by
 obtain⟨env,R,A,d,k,M,q2⟩:=zz;obtain⟨v,h1,h2⟩:=k.look M;exact⟨v,h1,q2 v H (Zp.refl H) h2⟩
def dC(d:Dat):Ev->C1 Dat:=λ_=>some d
theorem di{i:Int}{j pos}:Yz m X (.Constant (.int i) j pos) (dC (.int i)):=Yz.any (jm.weak λ_ _ _ ⟨_,_,_,_,_,M,q2⟩=>by cases M;exact q2.here Yq)
theorem oW{b:Bool}{j pos}:Yz m X (.Constant (.bool b) j pos) (dC (.bl b)):=Yz.any (p5.weak λ_ _ _ ⟨_,_,_,_,_,M,q2⟩=>by cases M;exact q2.here Vi)
theorem QE{j pos}:Yz m X (.Constant .none j pos) (dC .non):=Yz.any (qU.weak λ_ _ _ ⟨_,_,_,_,_,M,q2⟩=>by cases M;exact q2.here Ln)
theorem RU{x:Str}{j pos}(h:LV x:=by ext):Yz m X (.Constant (.str x) j pos) (dC (.str x)):=Yz.any (eZ.weak λ_ _ _ ⟨_,_,_,_,_,M,q2⟩=>by cases M;exact q2.here (Sj h))
theorem kG{x:Str}{v:V}{d:Dat}(hg:Gl X x)(hm:X.mg x=some u)(r:Yi v u)(hr:∀ H,Rp X.K H d v)(hd:C2 x:=by decide):Yz m X (.Name x pos) (dC d) :=
 Yz.any ((qc hg hm r hd).weak λ_ _ _ ⟨_,_,_,_,_,M,q2⟩=>by cases M;exact q2.here (hr _))
end
variable{t':TI}{p:Pos}{B:Bs}
def rD(K:G8)(F:Dat->Dat->C1 Dat):R2:=λv u H Q=>∃ A x y d,Ul A H/\F x y=some d/\Pk K A H x v/\Pk K A H y u/\T7 false K A H d Q
def rN(K:G8)(F:Dat->Dat->C1 (Z Dat)):R2:=λv u H Q=>∃ A x y ds,Ul A H/\F x y=some ds/\Pk K A H x v/\Pk K A H y u/\A5 K A H ds Q
def R0(X:Cx)(f:A1->A1->Sem A1)(F:Dat->Dat->C1 Dat):Prop:=Sm X f (rD X.K F)
def UY(X:Cx)(f:A1->A1->Sem A1)(F:Dat->Dat->C1 (Z Dat)):Prop:=Sm X f (rN X.K F)
theorem Sm.weak{X:Cx}{f:A1->A1->Sem A1}{r r':R2}(h:Sm X f r)(w:∀ x y H Q,r' x y H Q->r x y H Q):Sm X f r':=λaa s σ H x y v u Q I S m q=>h aa s σ H x y v u Q I S m (w _ _ _ _ q)
theorem UY.d{X:Cx}{f:A1->A1->Sem A1}{F:Dat->Dat->C1 (Z Dat)}(h:UY X f F):R0 X f (λx y=>(F x y).map .lst):=Sm.weak h λv u H Q zz=>by
 obtain⟨A,x,y,d,mu,e,p1,p2,q⟩:=zz;dsimp only at e;cases z:F x y with
 | none=>rw[z] at e;cases e
 | some ds=>rw[z] at e;cases e;exact⟨A,x,y,ds,mu,z,p1,p2,q.new mu⟩
def dO(F:Dat->Dat->C1 α)(f g:Zzu):Ev->C1 α:=λenv=>(f env).bind λx=>(g env).bind λy=>F x y
section
variable{m m1 m2:Bool}{X:Cx}{a b:C3}{f g:Zzu}{F:Dat->Dat->C1 Dat}{G:Dat->Dat->C1 (Z Dat)}{pos:Pos}
theorem two{r:R2}{Q:VK}{R:Bs}{x y:Dat}(k:F' X.K R A H σ env)(e1:f env=some x)(e2:g env=some y)
  (h:∀ v u H2,Zp H H2->Pk X.K A H2 x v->Pk X.K A H2 y u->Ul A H2->r v u H2 Q) :
  QH r (λσ H Q=>∃ env R A d,F' X.K R A H σ env/\f env=some d/\T7 m1 X.K A H d Q) (λσ H Q=>∃ env R A d,F' X.K R A H σ env/\g env=some d/\T7 m2 X.K A H d Q) σ H Q :=
 ⟨env,R,A,x,k,e1,λv H1 s1 p1=>⟨env,R,A,y,k.mono s1,e2,λu H2 s2 p2=>h v u H2 (s1.trans s2) (p1.pk.mono s2) p2.pk (k.mu.mono (s1.trans s2))⟩⟩
theorem Iu{F:Dat->Dat->C1 α}{d:α}(h:dO F f g env=some d):∃ x y,f env=some x/\g env=some y/\F x y=some d:=by
 obtain⟨x,e1,h⟩:=bind_some h;obtain⟨y,e2,h⟩:=bind_some h;exact⟨x,y,e1,e2,h⟩
theorem cC{op:Operator}(ho:R0 X (binaryOp op) F)(ha:Yz m1 X a f)(hb:Yz m2 X b g):Yz m X (.BinOp a op b pos) (dO F f g):=Yz.any ((dg ho ha hb).weak λσ H Q zz=>by
 obtain⟨env,R,A,d,k,M,q2⟩:=zz;obtain⟨x,y,e1,e2,e3⟩:=Iu M;exact two k e1 e2 λv u H2 s p1 p2 mu=>⟨A,x,y,d,mu,e3,p1,p2,q2.mono s⟩)
theorem WD{op:Operator}(ho:UY X (binaryOp op) G)(ha:Yz m1 X a f)(hb:Yz m2 X b g):MH X (.BinOp a op b pos) (dO G f g):=(dg ho ha hb).weak λσ H Q zz=>by
 obtain⟨env,R,A,d,k,M,q2⟩:=zz;obtain⟨x,y,e1,e2,e3⟩:=Iu M;exact two k e1 e2 λv u H2 s p1 p2 mu=>⟨A,x,y,d,mu,e3,p1,p2,q2.mono s⟩
theorem b9{op:CmpOp}(ho:R0 X (compareOp op) F)(ha:Yz m1 X a f)(hb:Yz m2 X b g)(hm:behindInMarks op b=false):Yz m X (.Compare a [op] [b] pos) (dO F f g):=Yz.any ((lI ho ha hb hm).weak λσ H Q zz=>by
 obtain⟨env,R,A,d,k,M,q2⟩:=zz;obtain⟨x,y,e1,e2,e3⟩:=Iu M;exact two k e1 e2 λv u H2 s p1 p2 mu=>⟨A,x,y,d,mu,e3,p1,p2,q2.mono s⟩)
def dB(f:Zzu):Ev->C1 Bool:=λenv=>match f env with
 | some (.bl b)=>some b
 | _=>none
theorem P4{b:Bool}(h:dB f env=some b):f env=some (.bl b):=by
 unfold dB at h;split at h
 ·rename_i z e;cases h;exact e
 ·cases h
theorem Wt(ho:R0 X (compareOp op) F)(ha:Yz m1 X a f)(hb:Yz m2 X b g)(hm:behindInMarks op b=false):MK X (.Compare a [op] [b] pos) (dB (dO F f g)):=(mM ho ha hb hm).weak λσ H Q zz=>by
 obtain⟨env,R,A,d,k,M,q2⟩:=zz;obtain⟨x,y,e1,e2,e3⟩:=Iu (P4 M);show QH (rD X.K F) _ _ σ H (λx H'=>∃ k,x=.bl k/\Q k H');exact two k e1 e2 λv u H2 s p1 p2 mu=>⟨A,x,y,.bl d,mu,e3,p1,p2,λv H' s' r=>⟨d,r.pk.bl,q2 H' (s.trans s')⟩⟩
theorem bR(ho:ML X (rD X.K F))(ha:Yz m1 X a f)(hb:Yz m2 X b g)(hs:Ol b:=by exactλ_ _=>rfl):Yz m X (.Subscript a b pos) (dO F f g):=Yz.any ((XC ho ha hb hs).weak λσ H Q zz=>by
 obtain⟨env,R,A,d,k,M,q2⟩:=zz;obtain⟨x,y,e1,e2,e3⟩:=Iu M;exact two k e1 e2 λv u H2 s p1 p2 mu=>⟨A,x,y,d,mu,e3,p1,p2,q2.mono s⟩)
end
section
variable{m m1 m2:Bool}{X:Cx}{a b c:C3}{ak:Z C3}{f g h:Zzu}{t u:Ev->C1 Bool}{pos:Pos}
def R7(t u:Ev->C1 Bool):Ev->C1 Bool:=λenv=>(t env).bind λb=>if b=true then u env else some false
def G5(t u:Ev->C1 Bool):Ev->C1 Bool:=λenv=>(t env).bind λb=>if b=true then some true else u env
def Mb(t:Ev->C1 Bool):Ev->C1 Bool:=λenv=>(t env).map (!·)
theorem E6(ha:MK X a t):P5 X (.BoolOp .And [a] pos) t:=fx ha
theorem Nv(ha:MK X a t):P5 X (.BoolOp .Or [a] pos) t:=mZ ha
theorem Ig(ha:MK X a t)(hb:P5 X (.BoolOp .And (b::ak) pos) u):P5 X (.BoolOp .And (a::b::ak) pos) (R7 t u):=(gw ha hb).weak λσ H Q zz=>by
 obtain⟨env,R,A,d,k,M,q2⟩:=zz;obtain⟨x,e1,e2⟩:=bind_some M;refine⟨env,R,A,x,k,e1,λH1 s1=>?_⟩;cases x with
 | true =>
  rw[AF rfl] at e2 ⊢;exact⟨env,R,A,d,k.mono s1,e2,λH2 s2=>q2 H2 (s1.trans s2)⟩
 | false =>
  rw[AL BY] at e2 ⊢;cases e2;exact q2 H1 s1
theorem L4(ha:MK X a t)(hb:P5 X (.BoolOp .Or (b::ak) pos) u):P5 X (.BoolOp .Or (a::b::ak) pos) (G5 t u):=(kF ha hb).weak λσ H Q zz=>by
 obtain⟨env,R,A,d,k,M,q2⟩:=zz;obtain⟨x,e1,e2⟩:=bind_some M;refine⟨env,R,A,x,k,e1,λH1 s1=>?_⟩;cases x with
 | true =>
  rw[AF rfl] at e2 ⊢;cases e2;exact q2 H1 s1
 | false =>
  rw[AL BY] at e2 ⊢;exact⟨env,R,A,d,k.mono s1,e2,λH2 s2=>q2 H2 (s1.trans s2)⟩
theorem P5.pt(h:P5 X e t):MK X e t:=PW.pt h
theorem Bq(ha:MK X a t):MK X (.UnaryOp .Not a pos) (Mb t):=(qh ha).weak λσ H Q zz=>by
 obtain⟨env,R,A,d,k,M,q2⟩:=zz;unfold Mb at M;cases e:t env with
 | none=>rw[e] at M;cases M
 | some x =>
  rw[e] at M;cases M;exact⟨env,R,A,x,k,e,λH1 s1=>q2 H1 s1⟩
def TV(f g:Zzu):Ev->C1 Dat:=λenv=>(dB f env).bind λb=>if b=true then g env else some (.bl false)
def TY(f g:Zzu):Ev->C1 Dat:=λenv=>(dB f env).bind λb=>if b=true then some (.bl true) else g env
theorem dn{op}(ha:Yz m X a f):Yz m X (.BoolOp op [a] pos) f:=mD ha
theorem hY(ha:Yz m1 X a f)(hb:Yz false X (.BoolOp .And (b::ak) pos) g):Yz m X (.BoolOp .And (a::b::ak) pos) (TV f g):=Yz.any ((n9 ha hb).weak λσ H Q zz=>by
 obtain⟨env,R,A,d,k,M,q2⟩:=zz;obtain⟨x,e1,e2⟩:=bind_some M;refine⟨env,R,A,.bl x,k,P4 e1,λv H1 s1 p1=>⟨x,p1.pk.bl,?_⟩⟩;cases x with
 | true =>
  rw[AF rfl] at e2 ⊢;exact⟨env,R,A,d,k.mono s1,e2,q2.mono s1⟩
 | false =>
  rw[AL BY] at e2 ⊢;cases e2;exact(q2.mono s1).here Vi)
theorem oa(ha:Yz m1 X a f)(hb:Yz false X (.BoolOp .Or (b::ak) pos) g):Yz m X (.BoolOp .Or (a::b::ak) pos) (TY f g):=Yz.any ((pF ha hb).weak λσ H Q zz=>by
 obtain⟨env,R,A,d,k,M,q2⟩:=zz;obtain⟨x,e1,e2⟩:=bind_some M;refine⟨env,R,A,.bl x,k,P4 e1,λv H1 s1 p1=>⟨x,p1.pk.bl,?_⟩⟩;cases x with
 | true =>
  rw[AF rfl] at e2 ⊢;cases e2;exact(q2.mono s1).here Vi
 | false =>
  rw[AL BY] at e2 ⊢;exact⟨env,R,A,d,k.mono s1,e2,q2.mono s1⟩)
def qb:Dat->C1 Bool
 | .non=>some false
 | .bl b=>some b
 | .int i=>some (i != 0)
 | .str y=>some ((y.length:Int) != 0)
 | .lst xs=>some (!xs.isEmpty)
 | .tup xs=>some (!xs.isEmpty)
 | _=>none
def dT(f:Zzu):Ev->C1 Bool:=λenv=>(f env).bind qb
theorem Nr(r:Wf K H ds vs):vs.isEmpty=ds.isEmpty:=by
 cases ds with
 | nil=>rw[Yj r];rfl
 | cons d ds=>obtain⟨v,r',e,_⟩:=Zt r;rw[e];rfl
theorem R3(ha:Yz true X a f)(he:∀ c,isTrue a X.env c=(do let v ← c;standAt a.pos;holding [v] (truthy v)):=by intro _;rfl):MK X a (dT f):=(lr ha he).weak λσ H Q zz=>by
 obtain⟨env,R,A,b,k,M,q2⟩:=zz;obtain⟨x,e1,e2⟩:=bind_some M;refine⟨env,R,A,x,k,e1,λv H1 s1 p1=>⟨b,?_,q2 H1 s1⟩⟩;have p:Pk X.K A H1 x v:=p1;cases x with
 | non=>cases e2;rw[p.non];rfl
 | bl t=>cases e2;rw[p.bl];rfl
 | int i=>cases e2;rw[p.int];rfl
 | str y=>cases e2;obtain⟨e,h⟩:=p.str;rw[e];exact⟨h.le,rfl⟩
 | lst xs=>cases e2;obtain⟨r,vs,e,h1,h2⟩:=p.lst;rw[e];exact .inl ⟨vs,h1.sq,by rw[Nr h2]⟩
 | tup xs=>cases e2;obtain⟨r,vs,e,h1,h2⟩:=p.tup;rw[e];exact .inr (.inl ⟨vs,h1,by rw[Nr h2]⟩)
 | dct _=>cases e2
 | exc _ _=>cases e2
end
section
variable{m:Bool}{X:Cx}{e:C3}{es:Z C3}{f:Zzu}{fs:Zzv}{pos:Pos}
def Za:Ev->C1 (Z Dat):=λ_=>some []
def O(f:Zzu)(fs:Zzv):Ev->C1 (Z Dat):=λenv=>(f env).bind λd=>(fs env).map λds=>d::ds
theorem Z8:O1 m X [] Za:=Vb.weak λσ H Q ⟨env,R,A,ds,k,M,q2⟩=>by cases M;exact q2 [] H (Zp.refl H) rfl
theorem L(ha:Yz m X e f)(hr:O1 m X es fs)(hs:Z0 X.env e es:=by rfl):O1 m X (e::es) (O f fs):=(Yk ha hr hs).weak λσ H Q zz=>by
 obtain⟨env,R,A,ds,k,M,q2⟩:=zz;obtain⟨d,e1,e2⟩:=bind_some M;cases e3:fs env with
 | none=>rw[e3] at e2;cases e2
 | some r =>
  rw[e3] at e2;cases e2;exact⟨env,R,A,d,k,e1,λv H1 s1 p1=>⟨env,R,A,r,k.mono s1,e3,λvs H2 s2 p2=>q2 (v::vs) H2 (s1.trans s2) ⟨v,vs,rfl,p1.mono s2,p2⟩⟩⟩
def Wk(fs:Zzv):Ev->C1 Dat:=λenv=>(fs env).bind λds=>if ds.length<=1000 then some (.tup ds) else none
def T9(fs:Zzv):Ev->C1 (Z Dat):=λenv=>(fs env).bind λds=>if ds.length<=1000 then some ds else none
theorem cs{x1}(h:O1 false X es fs):Yz m X (.Tuple es x1 pos) (Wk fs):=Yz.any ((qm h).weak λσ H Q zz=>by
 obtain⟨env,R,A,d,k,M,q2⟩:=zz;obtain⟨ds,e1,e2⟩:=bind_some M;split at e2
 ·rename_i hz
  cases e2;have r:ds.length<=sizeLine:=DX (U5 hz);refine⟨env,R,A,ds,k,e1,λvs H1 s1 p1=>⟨?_,(q2.mono s1).tup (k.mu.mono s1) r p1.rps⟩⟩;rw[Zw p1.rps];exact r
 ·cases e2)
theorem Jq(h:O1 false X es fs):MH X (.List es pos) (T9 fs):=(bn h).weak λσ H Q zz=>by
 obtain⟨env,R,A,d,k,M,q2⟩:=zz;obtain⟨ds,e1,e2⟩:=bind_some M;split at e2
 ·rename_i hz
  cases e2;have r:d.length<=sizeLine:=DX (U5 hz);refine⟨env,R,A,d,k,e1,λvs H1 s1 p1=>⟨?_,(q2.mono s1).at r p1.rps⟩⟩;rw[Zw p1.rps];exact r
 ·cases e2
def G9(X:Cx)(f:A1)(F:Z Dat->C1 Dat):Prop:=V0 X f (λvs H Q=>∃ A ds d,Ul A H/\F ds=some d/\L1 true X.K A H ds vs/\T7 false X.K A H d Q)
def TL(X:Cx)(f:A1)(F:Z Dat->C1 (Z Dat)):Prop:=V0 X f (λvs H Q=>∃ A ds d,Ul A H/\F ds=some d/\L1 true X.K A H ds vs/\A5 X.K A H d Q)
theorem V0.weak{f:A1}{r:Z V->Hp->VK->Prop}(h:V0 X f r)(w:∀ xs H Q,r' xs H Q->r xs H Q):V0 X f r':=λaa s σ H xs us Q I rv q=>h aa s σ H xs us Q I rv (w _ _ _ q)
def dF(F:Z Dat->C1 α)(fs:Zzv):Ev->C1 α:=λenv=>(fs env).bind F
variable{x:Str}{p:Pos}{id T:String}{F:Z Dat->C1 Dat}{G:Z Dat->C1 (Z Dat)}
theorem ZA(hc:G9 X (.builtin id) F)(hm:X.mg x=none)(ha:O1 true X (e::es) fs)(hg:Gl X x:=by rfl)(hv:bootBuiltins x=some (.builtin id):=by ext)(hn:x≠"__name__" := by decide)(P:C2 x:=by decide)
  (he:Z0 X.env e es:=by rfl) (ac:Z1 pos X.env es:=by rfl):Yz m X (.Call (.Name x p) (e::es) [] pos) (dF F fs) :=
 Yz.any ((Da hc hg hm hv ha hn P he ac).weak λσ H Q zz=>by
  obtain⟨env,R,A,d,k,M,q2⟩:=zz;obtain⟨ds,e1,e2⟩:=bind_some M;exact⟨env,R,A,ds,k,e1,λvs H1 s1 p1=>⟨A,ds,d,k.mu.mono s1,e2,p1,q2.mono s1⟩⟩)
theorem Mr(hc:G9 X (.type T) F)(hm:X.mg x=none)(ha:O1 true X (e::es) fs)(hg:Gl X x:=by rfl)(hv:bootBuiltins x=some (.type T):=by ext)(hn:x≠"__name__" := by decide)(P:C2 x:=by decide)
  (he:Z0 X.env e es:=by rfl) (ac:Z1 pos X.env es:=by rfl):Yz m X (.Call (.Name x p) (e::es) [] pos) (dF F fs) :=
 Yz.any ((Ti hc hg hm hv ha hn P he ac).weak λσ H Q zz=>by
  obtain⟨env,R,A,d,k,M,q2⟩:=zz;obtain⟨ds,e1,e2⟩:=bind_some M;exact⟨env,R,A,ds,k,e1,λvs H1 s1 p1=>⟨A,ds,d,k.mu.mono s1,e2,p1,q2.mono s1⟩⟩)
theorem dZ(hc:TL X (.builtin id) G)(hm:X.mg x=none)(ha:O1 true X (e::es) fs)(hg:Gl X x:=by rfl)(hv:bootBuiltins x=some (.builtin id):=by ext)(hn:x≠"__name__" := by decide)(P:C2 x:=by decide)
  (he:Z0 X.env e es:=by rfl) (ac:Z1 pos X.env es:=by rfl):MH X (.Call (.Name x p) (e::es) [] pos) (dF G fs) :=
 (Da hc hg hm hv ha hn P he ac).weak λσ H Q zz=>by
  obtain⟨env,R,A,d,k,M,q2⟩:=zz;obtain⟨ds,e1,e2⟩:=bind_some M;exact⟨env,R,A,ds,k,e1,λvs H1 s1 p1=>⟨A,ds,d,k.mu.mono s1,e2,p1,q2.mono s1⟩⟩
theorem Lk(hc:TL X (.type T) G)(hm:X.mg x=none)(ha:O1 true X (e::es) fs)(hg:Gl X x:=by rfl)(hv:bootBuiltins x=some (.type T):=by ext)(hn:x≠"__name__" := by decide)(P:C2 x:=by decide)
  (he:Z0 X.env e es:=by rfl) (ac:Z1 pos X.env es:=by rfl):MH X (.Call (.Name x p) (e::es) [] pos) (dF G fs) :=
 (Ti hc hg hm hv ha hn P he ac).weak λσ H Q zz=>by
  obtain⟨env,R,A,d,k,M,q2⟩:=zz;obtain⟨ds,e1,e2⟩:=bind_some M;exact⟨env,R,A,ds,k,e1,λvs H1 s1 p1=>⟨A,ds,d,k.mu.mono s1,e2,p1,q2.mono s1⟩⟩
end
section
variable{m m1:Bool}{X:Cx}{o e:C3}{es:Z C3}{f:Zzu}{fs:Zzv}{pos aw al:Pos}{name:Str}{T id:String}{α:Type}
def OO(T:String):Dat->Bool
 | .str _=>T=="str"
 | .int _=>T=="int"
 | .lst _=>T=="list"
 | _=>false
theorem nn{d:Dat}{v:V}(h:OO T d=true)(p:Pk K A H d v):WV K T v H:=by
 cases d with
 | str x=>rw[p.str.1];show T="str";simpa[OO] using h
 | int x=>rw[p.int];show T="int";simpa[OO] using h
 | lst x=>obtain⟨a,vs,e,h1,h2⟩:=p.lst;rw[e];exact .inl ⟨by simpa[OO] using h,vs,h1.sq⟩
 | _=>cases h
def bB(X:Cx)(id:String)(F:Dat->Z Dat->C1 Dat):Prop:=MX X id (λv vs H Q=>∃ A x ds d,Ul A H/\F x ds=some d/\Pk X.K A H x v/\L1 true X.K A H ds vs/\T7 false X.K A H d Q)
def dM(T:String)(F:Dat->Z Dat->C1 α)(f:Zzu)(fs:Zzv):Ev->C1 α:=λenv=>(f env).bind λx=>if OO T x=true then(fs env).bind λds=>F x ds else none
theorem iA{F:Dat->Z Dat->C1 α}{d:α}(h:dM T F f fs env=some d):∃ x ds,f env=some x/\OO T x=true/\fs env=some ds/\F x ds=some d:=by
 obtain⟨x,e1,h⟩:=bind_some h;split at h
 ·rename_i ht
  obtain⟨ds,e2,h⟩:=bind_some h;exact⟨x,ds,e1,ht,e2,h⟩
 ·cases h
theorem MX.weak{r r':V->Z V->Hp->VK->Prop}(h:MX X id r)(w:∀ x xs H Q,r' x xs H Q->r x xs H Q):MX X id r':=λaa s σ H x xs v us Q I S rv q=>h aa s σ H x xs v us Q I S rv (w _ _ _ _ q)
variable{F:Dat->Z Dat->C1 Dat}{G:Dat->Z Dat->C1 (Z Dat)}
theorem cB(pa:PlainAttrs T)(slot:Slot T name id)(n:typeOf (.builtin id)=pure (.type "method_descriptor"))(hm:bB X id F)(ho:Yz m1 X o f)(ha:O1 true X (e::es) fs)
  (u:attributeBase o name X.env (eval o X.env)=eval o X.env:=by rfl)
  (ag:((backTo al (starEach (e::es) X.env)).all (λx=>!x.1)&&(backToKw al (keywordEach [] X.env)).all (λx=>x.1.isSome)
   && decide ((e::es).length+([]:Z Keyword).length+(if([]:Z Keyword).isEmpty then 0 else 1)<30))=true:=by rfl)
  (S:(aw.endLine==al.line)=true:=by rfl) (hs:Z0 X.env e es:=by rfl) (E:Z1 al X.env es:=by rfl) :
  Yz m X (.Call (.Attribute o name aw) (e::es) [] al) (dM T F f fs):=Yz.any ((SN pa slot n hm ho ha u ag S hs E).weak λσ H Q zz=>by
 obtain⟨env,R,A,d,k,M,q2⟩:=zz;obtain⟨x,ds,e1,ht,e2,e3⟩:=iA M;exact⟨env,R,A,x,k,e1,λv H1 s1 p1=>⟨nn ht p1.pk,env,R,A,ds,k.mono s1,e2,λvs H2 s2 p2=>⟨A,x,ds,d,k.mu.mono (s1.trans s2),e3,p1.pk.mono s2,p2,q2.mono (s1.trans s2)⟩⟩⟩)
def VE(X:Cx)(e:C1 C3)(f:Ev->C1 (C1 Int)):Prop:=PO X e λσ H Q=>∃ env R A i,F' X.K R A H σ env/\f env=some i/\∀ H',Zp H H'->Q i H'
def Jw:Ev->C1 (C1 Int):=λ_=>some none
def Q7(f:Zzu):Ev->C1 (C1 Int):=λenv=>match f env with
 | some (.int i)=>some (some i)
 | _=>none
theorem PO.weak{e:C1 C3}{t t':TO}(h:PO X e t)(w:∀ σ H Q,t' σ H Q->t σ H Q):PO X e t':=λaa s σ H Q I q=>h aa s σ H Q I (w σ H Q q)
theorem Ja:VE X none Jw:=gA.weak λσ H Q ⟨env,R,A,i,k,M,q2⟩=>by cases M;exact q2 H (Zp.refl H)
theorem Qz(h:Yz m X e f):VE X (some e) (Q7 f):=(ki h).weak λσ H Q zz=>by
 obtain⟨env,R,A,i,k,M,q2⟩:=zz;unfold Q7 at M;split at M
 ·rename_i n e1
  cases M;exact⟨env,R,A,_,k,e1,λv H1 s1 p1=>⟨n,p1.pk.int,q2 H1 s1⟩⟩
 ·cases M
def WR(X:Cx)(F:Dat->C1 Int->C1 Int->C1 Dat):Prop:=MJ X (λv lo hi H Q=>∃ A x d,Ul A H/\F x lo hi=some d/\Pk X.K A H x v/\T7 false X.K A H d Q)
def dS(F:Dat->C1 Int->C1 Int->C1 α)(f:Zzu)(g h:Ev->C1 (C1 Int)):Ev->C1 α:=λenv=>(f env).bind λx=>(g env).bind λl=>(h env).bind λu=>F x l u
variable{lo hi:C1 C3}{gl gh:Ev->C1 (C1 Int)}{p2:Pos}
theorem je{F:Dat->C1 Int->C1 Int->C1 α}{d:α}(h:dS F f gl gh env=some d):∃ x l u,f env=some x/\gl env=some l/\gh env=some u/\F x l u=some d:=by
 obtain⟨x,e1,h⟩:=bind_some h;obtain⟨l,e2,h⟩:=bind_some h;obtain⟨u,e3,h⟩:=bind_some h;exact⟨x,l,u,e1,e2,e3,h⟩
theorem ee{F:Dat->C1 Int->C1 Int->C1 Dat}(hr:WR X F)(he:Yz m1 X e f)(hl:VE X lo gl)(hu:VE X hi gh):Yz m X (.Subscript e (.Slice lo hi none p2) pos) (dS F f gl gh):=Yz.any ((jb hr he hl hu).weak λσ H Q zz=>by
 obtain⟨env,R,A,d,k,M,q2⟩:=zz;obtain⟨x,l,u,e1,e2,e3,e4⟩:=je M;exact⟨env,R,A,x,k,e1,λv H1 s1 p1=>⟨env,R,A,l,k.mono s1,e2,λH2 s2=>⟨env,R,A,u,k.mono (s1.trans s2),e3,λP G=>⟨A,x,d,k.mu.mono ((s1.trans s2).trans G),e4,p1.pk.mono (s2.trans G),q2.mono ((s1.trans s2).trans G)⟩⟩⟩⟩)
def YI(X:Cx)(g:A1->Sem A1)(F:Dat->C1 Dat):Prop:=NI X g (λv H Q=>∃ A x d,Ul A H/\F x=some d/\Pk X.K A H x v/\T7 false X.K A H d Q)
def dU(F:Dat->C1 Dat)(f:Zzu):Ev->C1 Dat:=λenv=>(f env).bind F
theorem XI{op:UnaryOp}{F:Dat->C1 Dat}(ho:YI X (unaryOp op) F)(ha:Yz m1 X e f):Yz m X (.UnaryOp op e pos) (dU F f):=Yz.any ((qj ho ha).weak λσ H Q zz=>by
 obtain⟨env,R,A,d,k,M,q2⟩:=zz;obtain⟨x,e1,e2⟩:=bind_some M;exact⟨env,R,A,x,k,e1,λv H1 s1 p1=>⟨A,x,d,k.mu.mono s1,e2,p1.pk,q2.mono s1⟩⟩)
end
section
variable{X:Cx}
def Ai(C:Int->Int->Prop)[∀ i j,Decidable (C i j)](g:Int->Int->Dat):Dat->Dat->C1 Dat
 | .int i,.int j=>if C i j then some (g i j) else none
 | _,_=>none
theorem R'{f:A1->A1->Sem A1}{C:Int->Int->Prop}[∀ i j,Decidable (C i j)](h:Sm X f (rI C g))(hg:∀ K H i j,Rp K H (G i j) (g i j)):R0 X f (Ai C G):=h.weak λv u H Q zz=>by
 obtain⟨A,x,y,d,mu,e,p1,p2,q⟩:=zz;unfold Ai at e;split at e
 ·rename_i i j
  split at e
  ·rename_i hc
   cases e;exact⟨i,j,p1.int,p2.int,hc,q.here (hg _ _ _ _)⟩
  ·cases e
 ·cases e
theorem Ke{f:A1->A1->Sem A1}(h:Sm X f (MV g))(hg:∀ K H i j,Rp K H (G i j) (g i j)):R0 X f (Ai (λ_ _=>True) G):=h.weak λv u H Q zz=>by
 obtain⟨A,x,y,d,mu,e,p1,p2,q⟩:=zz;unfold Ai at e;split at e
 ·rename_i i j
  rw[AF trivial] at e;cases e;exact⟨i,j,p1.int,p2.int,q.here (hg _ _ _ _)⟩
 ·cases e
instance:∀ i j,Decidable (PL i j):=λi j=>by unfold PL;infer_instance
instance:∀ i j,Decidable (SI i j):=λi j=>by unfold SI;infer_instance
instance:∀ i j,Decidable (SS i j):=λi j=>by unfold SS;infer_instance
def QN:=Ai (λ_ _=>True) λi j=>.int (i - j)
def Vw:=Ai SI λi j=>.int (i / j)
def T5:=Ai (λ_ j=>0<j) λi j=>.int (i % j)
def OJ:=Ai SS λi j=>.int (i*2^j.toNat)
def QK:=Ai (λ_ j=>0<=j) λi j=>.int (i / 2^j.toNat)
def Fs:=Ai (λ_ _=>True) λi j=>.int (Builtin.bitAnd i j)
def PF:=Ai (λ_ _=>True) λi j=>.int (Builtin.bitOr i j)
def UH:=Ai (λ_ _=>True) λi j=>.int (Builtin.bitXor i j)
def PX:=Ai (λ_ _=>True) λi j=>.bl (decide (i<j))
def cU:=Ai (λ_ _=>True) λi j=>.bl (decide (i<=j))
def PU:=Ai (λ_ _=>True) λi j=>.bl (decide (j<i))
def WH:=Ai (λ_ _=>True) λi j=>.bl (decide (j<=i))
theorem UJ:R0 X (binaryOp .Sub) QN:=Ke jr λ_ _ _ _=>Yq
theorem Vl:R0 X (binaryOp .FloorDiv) Vw:=R' lX λ_ _ _ _=>Yq
theorem U4:R0 X (binaryOp .Mod) T5:=R' lb λ_ _ _ _=>Yq
theorem SA:R0 X (binaryOp .LShift) OJ:=R' lA λ_ _ _ _=>Yq
theorem Y':R0 X (binaryOp .RShift) QK:=R' mL λ_ _ _ _=>Yq
theorem Xa:R0 X (binaryOp .BitAnd) Fs:=Ke gE λ_ _ _ _=>Yq
theorem SC:R0 X (binaryOp .BitOr) PF:=Ke o7 λ_ _ _ _=>Yq
theorem eH:R0 X (binaryOp .BitXor) UH:=Ke o9 λ_ _ _ _=>Yq
theorem TB:R0 X (compareOp .Lt) PX:=Ke gM λ_ _ _ _=>Vi
theorem gI:R0 X (compareOp .LtE) cU:=Ke q0 λ_ _ _ _=>Vi
theorem TM:R0 X (compareOp .Gt) PU:=Ke pc λ_ _ _ _=>Vi
theorem b5:R0 X (compareOp .GtE) WH:=Ke nu λ_ _ _ _=>Vi
theorem R0.or{f:A1->A1->Sem A1}{F G E:Dat->Dat->C1 Dat}(h:R0 X f F)(h':R0 X f G)(he:∀ x y d,E x y=some d->F x y=some d\/G x y=some d):R0 X f E:=λaa s σ H x y v u Q I S m zz=>by
 obtain⟨A,a,b,d,mu,e,p1,p2,q⟩:=zz;rcases he _ _ _ e with e | e
 ·exact h aa s σ H x y v u Q I S m ⟨A,a,b,d,mu,e,p1,p2,q⟩
 ·exact h' aa s σ H x y v u Q I S m ⟨A,a,b,d,mu,e,p1,p2,q⟩
def WO:Dat->C1 Dat
 | .int i=>some (.int (-i))
 | _=>none
def VD:Dat->C1 Dat
 | .int i=>some (.int (Builtin.bitNot i))
 | _=>none
theorem NI.weak{f:A1->Sem A1}{r r':V->Hp->VK->Prop}(h:NI X f r)(w:∀ x H Q,r' x H Q->r x H Q):NI X f r':=λaa s σ H x v Q I S q=>h aa s σ H x v Q I S (w _ _ _ q)
theorem ou:YI X (unaryOp .USub) WO:=NI.weak pX λv H Q zz=>by
 obtain⟨A,x,d,mu,e,p,q⟩:=zz;unfold WO at e;split at e
 ·cases e;exact⟨_,p.int,q.here Yq⟩
 ·cases e
theorem cz:YI X (unaryOp .Invert) VD:=NI.weak iu λv H Q zz=>by
 obtain⟨A,x,d,mu,e,p,q⟩:=zz;unfold VD at e;split at e
 ·cases e;exact⟨_,p.int,q.here Yq⟩
 ·cases e
theorem Pg{x:Str}(h:∀ c∈cl x,c<0x110000):PyData.strOk x=true:=by
 unfold PyData.strOk;rw[JD];intro c hc;exact AK (h c (by simpa[cl] using hc))
theorem Ia{x:Str}(h:PyData.strOk x=true):∀ c∈cl x,c<0x110000:=by
 unfold PyData.strOk at h;rw[JD] at h;intro c hc;exact BM (h c (by simpa[cl] using hc))
theorem gf{x y:Str}(h:PyData.strOk x=true)(k:PyData.strOk y=true):PyData.strOk (x++y)=true:=Pg λc hc=>by
 rw[WF] at hc;rcases BV.mp hc with z | z
 ·exact Ia h c z
 ·exact Ia k c z
theorem ZR(x y:Str):(x++y).length=x.length+y.length:=by rw[← Mm,WF,AX,Mm,Mm]
def XE:Dat->Dat->C1 Dat
 | .str x,.str y=>if x.length+y.length<=sizeLine then some (.str (x++y)) else none
 | _,_=>none
theorem jQ:R0 X (binaryOp .Add) XE:=my.weak λv u H Q zz=>by
 obtain⟨A,x,y,d,mu,e,p1,p2,q⟩:=zz;unfold XE at e;split at e
 ·rename_i i j
  split at e
  ·rename_i hz
   cases e;obtain⟨e1,k1⟩:=p1.str;obtain⟨e2,k2⟩:=p2.str;exact⟨i,j,e1,e2,hz,q.here (Sj (LV.of (gf k1.ok k2.ok) (by rw[ZR];exact hz)))⟩
  ·cases e
 ·cases e
def Xb:Dat->Dat->C1 (Z Dat)
 | .lst xs,.lst ys=>if xs.length+ys.length<=sizeLine then some (xs++ys) else none
 | _,_=>none
theorem US:UY X (binaryOp .Add) Xb:=λaa s σ H x y v u Q I S m zz=>by
 obtain⟨A,a,b,d,mu,e,p1,p2,q⟩:=zz;unfold Xb at e;split at e
 ·rename_i xs ys
  split at e
  ·rename_i hz
   cases e;obtain⟨l1,vs,e1,h1,r1⟩:=p1.lst;obtain⟨l2,us,e2,h2,r2⟩:=p2.lst;subst e1 e2;cases S;cases m;obtain⟨its,n,w1,g1,_⟩:=h1.get I;obtain⟨c,n2,w2,g2,_⟩:=h2.get I;have z1:=w1.length;have z2:=w2.length;have W:=Zw r1;have z4:=Zw r2;refine PySem.P.add_list g1 g2 ?_ (by rw[AU,AU];lia);have ea:its.toArray++c.toArray=(its++c).toArray:=by simp
   rw[ea];exact⟨.ref _,_,I.lnew (t':=s.toks) (w1.append w2) (by rw[AX];lia),rfl,q.at (by rw[AX];exact hz) (Wq r1 r2) _ I.fresh⟩
  ·cases e
 ·cases e
theorem kR(r:Wf K H ds vs)(h:ds.length≠0):vs≠[]:=by
 intro e;subst e;have:=Zw r;simp at this;lia
def Wu:Dat->Dat->C1 Dat
 | .int i,.int j=>some (.int (i+j))
 | .str x,.str y=>if x.length+y.length<=sizeLine then some (.str (x++y)) else none
 | .lst xs,.lst ys=>if xs.length+ys.length<=sizeLine then some (.lst (xs++ys)) else none
 | _,_=>none
theorem nY:R0 X (binaryOp .Add) (Ai (λ_ _=>True) λi j=>.int (i+j)):=Ke jU λ_ _ _ _=>Yq
theorem Wj:R0 X (binaryOp .Add) Wu:=by
 have h1:=R0.or (E:=λx y=>match x,y with | .int i,.int j=>some (.int (i+j)) | .str x,.str y=>if x.length+y.length<=sizeLine then some (.str (x++y)) else none | _,_=>none) (nY (X:=X)) jQ (λx y d e=>by
  split at e
  ·left;simp[Ai];exact by simpa using e
  ·right;simp only[XE];exact e
  ·cases e)
 refine R0.or h1 US.d λx y d e=>?_
 unfold Wu at e;split at e
 ·left;exact e
 ·left;exact e
 ·right
  rename_i xs ys;simp only[Xb];split at e
  ·rename_i hz;cases e;rw[AF hz];rfl
  ·cases e
 ·cases e
def d6:=Ai PL λi j=>.int (i*j)
theorem jo:R0 X (binaryOp .Mult) d6:=R' ph λ_ _ _ _=>Yq
def Dp:Dat->Dat->C1 Dat:=λx y=>if(pd 20 x&&pd 20 y)=true then some (.bl (Mt x y)) else none
def Hz:Dat->Dat->C1 Dat:=λx y=>if(pd 20 x&&pd 20 y)=true then some (.bl (!Mt x y)) else none
theorem E1(hu:X.A.units+64<cLine):R0 X (compareOp .Eq) Dp:=λaa s σ H x y v u Q I S m zz=>by
 obtain⟨A,a,b,d,mu,e,p1,p2,q⟩:=zz;unfold Dp at e;split at e
 ·rename_i hp
  rw[AY] at hp;cases e;obtain⟨as,a1,a2⟩:=Rp.reads I a x v hp.1 p1.rp S;obtain⟨bs,b1,b2⟩:=Rp.reads I b y u hp.2 p2.rp m;have:=El 20 a hp.1;refine SeqAt.compareEq_reads a1 b1 a2 b2 (by lia) ⟨.bl _,H,I,rfl,?_⟩;rw[Ea a b hp.1 hp.2];exact q.here Vi
 ·cases e
theorem Od(hu:X.A.units+64<cLine):R0 X (compareOp .NotEq) Hz:=λaa s σ H x y v u Q I S m zz=>by
 obtain⟨A,a,b,d,mu,e,p1,p2,q⟩:=zz;unfold Hz at e;split at e
 ·rename_i hp
  rw[AY] at hp;cases e;obtain⟨as,a1,a2⟩:=Rp.reads I a x v hp.1 p1.rp S;obtain⟨bs,b1,b2⟩:=Rp.reads I b y u hp.2 p2.rp m;have:=El 20 a hp.1;refine SeqAt.compareNe_reads a1 b1 a2 b2 (by lia) ⟨.bl _,H,I,rfl,?_⟩;rw[Ea a b hp.1 hp.2];exact q.here Vi
 ·cases e
def YB:Dat->Bool
 | .non=>true
 | _=>false
theorem dR{d:Dat}{v:V}(r:Rp K H d v):decide (v=V.non)=YB d:=by
 cases d with
 | non=>rw[F4 r];rfl
 | bl b=>rw[O3 r];rfl
 | int b=>rw[Jh r];rfl
 | str b=>rw[(Xw r).1];rfl
 | tup b=>obtain⟨a,_,e,_⟩:=Rt r;rw[e];rfl
 | lst b=>obtain⟨a,_,e,_⟩:=Qa r;rw[e];rfl
 | dct _=>obtain⟨_,a,e,_⟩:=kK r;rw[e];rfl
 | exc _ _=>obtain⟨_,_,_,e,_⟩:=WQ r;subst e;rfl
def UV:Dat->Dat->C1 Dat
 | x,.non=>some (.bl (YB x))
 | _,_=>none
def XB:Dat->Dat->C1 Dat
 | x,.non=>some (.bl (!YB x))
 | _,_=>none
theorem eI:R0 X (compareOp .Is) UV:=lu.weak λv u H Q zz=>by
 obtain⟨A,x,y,d,mu,e,p1,p2,q⟩:=zz;unfold UV at e;split at e
 ·cases e
  exact⟨p2.non,by rw[dR p1.rp];exact q.here Vi⟩
 ·cases e
theorem ly:R0 X (compareOp .IsNot) XB:=k9.weak λv u H Q zz=>by
 obtain⟨A,x,y,d,mu,e,p1,p2,q⟩:=zz;unfold XB at e;split at e
 ·cases e
  exact⟨p2.non,by rw[dR p1.rp];exact q.here Vi⟩
 ·cases e
def UP:Str->Str->Bool:=λi j=>!(Builtin.Str.occurrences j i 0 j.length 1).isEmpty
def MY:Dat->Dat->C1 Bool
 | x,.lst ys=>if(pd 20 x&&ys.all (pd 20))=true then some (ys.any λy=>Mt y x) else none
 | x,.tup ys=>if(pd 20 x&&ys.all (pd 20))=true then some (ys.any λy=>Mt y x) else none
 | .str i,.str j=>some (UP i j)
 | _,_=>none
def ME:Dat->Dat->C1 Dat:=λx y=>(MY x y).map .bl
def Hf:Dat->Dat->C1 Dat:=λx y=>(MY x y).map λb=>.bl (!b)
theorem Sb(I:C' X aa σ H s)(hu:X.A.units+64<cLine){a:Dat}{x:V}{v:A1}(ha:pd 20 a=true)(S:Rp X.K H a x)(g:Yi x v) :
  ∃ e:A1->Bool,∀ {ys:Z Dat} {vs:Z V} {us:Z A1},Wf X.K H ys vs->Y0 vs us->(∀ y∈ys,pd 20 y=true)->(∀ u∈us,SeqAt.EqAt X.A.in1 s u v (e u))/\us.any e=ys.any λy=>Mt y a:=by
 classical
 have b:X.A.in1.units+60<cLine:=by show X.A.units+1+60<cLine;lia
 have ah:∀ {y:Dat} {w:V} {u:A1},Rp X.K H y w->Yi w u->pd 20 y=true->SeqAt.EqAt X.A.in1 s u v (Mt y a):=λ{y w u} r q h=>Rp.eqAt I h ha (by decide) b r S q g
 let e:A1->Bool:=λu=>decide (∃ (y:Dat) (w:V),Rp X.K H y w/\Yi w u/\pd 20 y=true/\Mt y a=true)
 have he:∀ {y:Dat} {w:V} {u:A1},Rp X.K H y w->Yi w u->pd 20 y=true->e u=Mt y a:=λ{y w u} r q h=>by
  cases z:Mt y a with
  | true=>exact AK ⟨y,w,r,q,h,z⟩
  | false =>
   refine AH ?_;rintro⟨f,w',r',W,h',J⟩;have:=q.inj W;subst this;obtain⟨as,a1,a2⟩:=Rp.reads I y w u h r q;obtain⟨bs,b1,b2⟩:=Rp.reads I f w u h' r' q;have d:=SeqAt.Reads.unique _ _ _ _ _ a2 a1 b1;rw[← Ea y a h ha,d,Ea f a h' ha,J] at z;cases z
 refine⟨e,λ{ys}=>?_⟩;induction ys with
 | nil=>intro vs us r q _;rw[Yj r] at q;cases q;exact⟨λu hu=>(by cases hu),rfl⟩
 | cons y ys ih =>
  intro vs us r q hp;obtain⟨w,c,e1,r1,r2⟩:=Zt r;subst e1;cases q with
  | cons M q2 =>
   rename_i u us;obtain⟨h1,h2⟩:=ih r2 q2 λz hz=>hp z (AV _ hz)
   have hy:=hp y AW;refine⟨λD b=>?_,?_⟩
   ·rcases AZ.mp b with z | z
    ·subst z;rw[he r1 M hy];exact ah r1 M hy
    ·exact h1 D z
   ·rw[HD,HD,h2,he r1 M hy]
theorem QL(hu:X.A.units+64<cLine):R0 X (compareOp .In) ME:=λaa s σ H x y v u Q I S m zz=>by
 obtain⟨A,a,b,d,mu,e,p1,p2,q⟩:=zz;unfold ME at e;unfold MY at e;split at e
 ·rename_i ys
  split at e
  ·rename_i hp
   rw[AY,CW] at hp;cases e;obtain⟨l,vs,e1,h1,r1⟩:=p2.lst;subst e1;cases m;obtain⟨its,w1,pl,_⟩:=I.list h1.sq;obtain⟨f,hf⟩:=Sb I hu hp.1 p1.rp S;obtain⟨k1,k2⟩:=hf (r1.mono Yn) w1 hp.2;refine SeqAt.in_listAt f pl.isList (λw hw=>k1 w (by simpa using hw)) ⟨.bl _,H,I,rfl,?_⟩;rw[show its.toArray.any f=its.any f by simp,k2];exact q.here Vi
  ·cases e
 ·rename_i ys
  split at e
  ·rename_i hp
   rw[AY,CW] at hp;cases e;obtain⟨l,vs,e1,h1,r1⟩:=p2.tup;subst e1;cases m;obtain⟨its,w1,pl,_⟩:=I.tuple h1;obtain⟨f,hf⟩:=Sb I hu hp.1 p1.rp S;obtain⟨k1,k2⟩:=hf (r1.mono Yn) w1 hp.2;refine SeqAt.in_tupleAt f pl (λw hw=>k1 w (by simpa using hw)) ⟨.bl _,H,I,rfl,?_⟩;rw[show its.toArray.any f=its.any f by simp,k2];exact q.here Vi
  ·cases e
 ·rename_i i j
  cases e;obtain⟨e1,k1⟩:=p1.str;obtain⟨e2,k2⟩:=p2.str;exact kr aa s σ H x y v u Q I S m ⟨i,j,e1,e2,q.here Vi⟩
 ·cases e
theorem B4(hu:X.A.units+64<cLine):R0 X (compareOp .NotIn) Hf:=λaa s σ H x y v u Q I S m zz=>by
 obtain⟨A,a,b,d,mu,e,p1,p2,q⟩:=zz;unfold Hf at e;unfold MY at e;split at e
 ·rename_i ys
  split at e
  ·rename_i hp
   rw[AY,CW] at hp;cases e;obtain⟨l,vs,e1,h1,r1⟩:=p2.lst;subst e1;cases m;obtain⟨its,w1,pl,_⟩:=I.list h1.sq;obtain⟨f,hf⟩:=Sb I hu hp.1 p1.rp S;obtain⟨k1,k2⟩:=hf (r1.mono Yn) w1 hp.2;refine SeqAt.notIn_listAt f pl.isList (λw hw=>k1 w (by simpa using hw)) ⟨.bl _,H,I,rfl,?_⟩;rw[show its.toArray.any f=its.any f by simp,k2];exact q.here Vi
  ·cases e
 ·rename_i ys
  split at e
  ·rename_i hp
   rw[AY,CW] at hp;cases e;obtain⟨l,vs,e1,h1,r1⟩:=p2.tup;subst e1;cases m;obtain⟨its,w1,pl,_⟩:=I.tuple h1;obtain⟨f,hf⟩:=Sb I hu hp.1 p1.rp S;obtain⟨k1,k2⟩:=hf (r1.mono Yn) w1 hp.2;refine SeqAt.notIn_tupleAt f pl (λw hw=>k1 w (by simpa using hw)) ⟨.bl _,H,I,rfl,?_⟩;rw[show its.toArray.any f=its.any f by simp,k2];exact q.here Vi
  ·cases e
 ·rename_i i j
  cases e;obtain⟨e1,k1⟩:=p1.str;obtain⟨e2,k2⟩:=p2.str;exact kZ aa s σ H x y v u Q I S m ⟨i,j,e1,e2,q.here Vi⟩
 ·cases e
def Yf:Dat->Dat->C1 Dat
 | .lst xs,.int i=>B0 xs i
 | .tup xs,.int i=>B0 xs i
 | .str z,.int i=>(B0 (cl z) i).map λc=>.str ⟨#[c]⟩
 | _,_=>none
theorem cr{i:Int}{d:Dat}(r:Wf K H ds vs)(h:B0 ds i=some d):∃ v,B0 vs i=some v/\Rp K H d v:=by
 unfold B0 at h ⊢;rw[Zw r];obtain⟨j,e1,e2⟩:=bind_some h;obtain⟨v,h1,h2⟩:=Re r e2;exact⟨v,by rw[e1];exact h1,h2⟩
theorem qD{i:Int}{x:α}(h:B0 xs i=some x):x∈xs:=by
 unfold B0 at h;obtain⟨j,e1,e2⟩:=bind_some h;exact AI e2
theorem d8{c:Nat}(h:LV z)(hc:c∈cl z):LV ⟨#[c]⟩:=LV.of (Pg λc' f=>by
 have:c'=c:=by simpa[cl] using f
 rw[this];exact Ia h.ok c hc) (by rw[← Mm];simp[cl];decide)
theorem ML.weak{r r':R2}(h:ML X r)(w:∀ x y H Q,r' x y H Q->r x y H Q):ML X r':=λaq slice aa s σ H x y v u Q I S m q hs=>h aq slice aa s σ H x y v u Q I S m (w _ _ _ _ q) hs
theorem Zr:ML X (rD X.K Yf):=fc.weak λv u H Q zz=>by
 obtain⟨A,x,y,d,mu,e,p1,p2,q⟩:=zz;unfold Yf at e;split at e
 ·rename_i xs i
  obtain⟨l,vs,e1,h1,r1⟩:=p1.lst;obtain⟨w,h2,r2⟩:=cr r1 e;exact .inl ⟨l,vs,i,w,e1,p2.int,h1.sq,h2,q.here r2⟩
 ·rename_i xs i
  obtain⟨l,vs,e1,h1,r1⟩:=p1.tup;obtain⟨w,h2,r2⟩:=cr r1 e;exact .inr (.inl ⟨l,vs,i,w,e1,p2.int,h1,h2,q.here r2⟩)
 ·rename_i z i
  obtain⟨e1,k1⟩:=p1.str;cases hc:B0 (cl z) i with
  | none=>rw[hc] at e;cases e
  | some c =>
   rw[hc] at e;cases e;exact .inr (.inr ⟨z,i,c,e1,p2.int,k1.le,hc,q.here (Sj (d8 k1 (qD hc)))⟩)
 ·cases e
theorem ZC(lo hi:C1 Int)(r:Wf K H ds vs):Wf K H (Jn ds lo hi) (OF vs lo hi):=by
 unfold Jn OF;rw[Zw r];exact Iq _ (Kx _ r)
theorem gc{x:α}(h:x∈Jn xs lo hi):x∈xs:=List.mem_of_mem_drop (List.mem_of_mem_take h)
theorem bH{n:Nat}(h:xs.length<=n):(Jn xs lo hi).length<=n:=by unfold Jn;rw[CM,CH];lia
theorem MJ.weak{r':V->C1 Int->C1 Int->Hp->VK->Prop}(h:MJ X r)(w:∀ x lo hi H Q,r' x lo hi H Q->r x lo hi H Q):MJ X r':=λaa s σ H x v vl vu lo hi sl Q I S hs pl c q=>h aa s σ H x v vl vu lo hi sl Q I S hs pl c (w _ _ _ _ _ q)
def bc:Dat->C1 Int->C1 Int->C1 Dat
 | .lst xs,lo,hi=>some (.lst (Jn xs lo hi))
 | .str z,lo,hi=>some (.str (Txt.slice z lo hi))
 | .tup xs,lo,hi=>if HT.sIx xs.length 0 lo=0/\HT.sIx xs.length xs.length hi=xs.length then none else some (.tup (Jn xs lo hi))
 | _,_,_=>none
theorem jP(h:LV z):LV (Txt.slice z lo hi):=LV.of (Pg λc hc=>by
 rw[jF] at hc;exact Ia h.ok c (gc hc)) (BC (HH z _ _) h.le)
theorem jD:WR X bc:=kJ.weak λv lo hi H Q zz=>by
 obtain⟨A,x,d,mu,e,p1,q⟩:=zz;unfold bc at e;split at e
 ·rename_i xs
  cases e;obtain⟨l,vs,e1,h1,r1⟩:=p1.lst;exact .inl ⟨l,vs,e1,h1.sq,(q.new mu).at (bH p1.lenL) (ZC lo hi r1)⟩
 ·rename_i z
  cases e;obtain⟨e1,k1⟩:=p1.str;exact .inr (.inr ⟨z,e1,k1.le,q.here (Sj (jP k1))⟩)
 ·rename_i xs
  split at e
  ·cases e
  ·rename_i hn
   cases e;obtain⟨l,vs,e1,h1,r1⟩:=p1.tup;exact .inr (.inl ⟨l,vs,e1,h1,by rw[Zw r1];exact hn,q.tup mu (bH p1.lenT) (ZC lo hi r1)⟩)
 ·cases e
end
section
variable{X:Cx}{m:Bool}
def Vq:Z Dat->C1 Dat
 | [.lst xs]=>some (.int xs.length)
 | [.tup xs]=>some (.int xs.length)
 | [.str z]=>some (.int z.length)
 | _=>none
theorem V3:G9 X (.builtin "len") Vq:=mB.weak λvs H Q zz=>by
 obtain⟨A,ds,d,mu,e,p,q⟩:=zz;unfold Vq at e;split at e
 ·obtain⟨v,e1,p1⟩:=p.one
  obtain⟨l,us,e2,h1,r1⟩:=p1.lst;cases e;exact .inl ⟨l,us,by rw[e1,e2],.inl h1.sq,λ_=>by rw[Zw r1];exact q.here Yq⟩
 ·obtain⟨v,e1,p1⟩:=p.one
  obtain⟨l,us,e2,h1,r1⟩:=p1.tup;cases e;exact .inl ⟨l,us,by rw[e1,e2],.inr h1,λ_=>by rw[Zw r1];exact q.here Yq⟩
 ·obtain⟨v,e1,p1⟩:=p.one
  obtain⟨e2,h1⟩:=p1.str;cases e;exact .inr ⟨_,by rw[e1,e2],h1.le,q.here Yq⟩
 ·cases e
def Ni:Z Dat->C1 (Z Dat)
 | [.lst xs]=>some xs
 | [.tup xs]=>some xs
 | _=>none
theorem Li:TL X (.type "list") Ni:=K9.weak λvs H Q zz=>by
 obtain⟨A,ds,d,mu,e,p,q⟩:=zz;unfold Ni at e;split at e
 ·obtain⟨v,e1,p1⟩:=p.one
  obtain⟨l,us,e2,h1,r1⟩:=p1.lst;cases e;exact⟨l,us,by rw[e1,e2],.inl h1.sq,q.at p1.lenL r1⟩
 ·obtain⟨v,e1,p1⟩:=p.one
  obtain⟨l,us,e2,h1,r1⟩:=p1.tup;cases e;exact⟨l,us,by rw[e1,e2],.inr h1,q.at p1.lenT r1⟩
 ·cases e
def tupleD:Z Dat->C1 Dat
 | [.lst xs]=>some (.tup xs)
 | [.tup xs]=>some (.tup xs)
 | _=>none
theorem Ju:G9 X (.type "tuple") tupleD:=Fw.weak λvs H Q zz=>by
 obtain⟨A,ds,d,mu,e,p,q⟩:=zz;unfold tupleD at e;split at e
 ·obtain⟨v,e1,p1⟩:=p.one
  obtain⟨l,us,e2,h1,r1⟩:=p1.lst;cases e;exact⟨l,us,by rw[e1,e2],.inl ⟨h1.sq,q.tup mu p1.lenL r1⟩⟩
 ·obtain⟨v,e1,p1⟩:=p.one
  rcases p1 with p1 | ⟨_,_,_,z,_⟩ | ⟨_,_,_,z,_⟩ | ⟨_,_,z,_⟩
  ·obtain⟨l,us,e2,h1,r1⟩:=Rt p1
   cases e;exact⟨l,us,by rw[e1,e2],.inr ⟨Yn.seqT h1,by rw[← e2];exact q.here p1⟩⟩
  ·cases z
  ·cases z
  ·cases z
 ·cases e
def U8:Z Dat->C1 (Z Int)
 | []=>some []
 | .int i::r=>(U8 r).map (i::·)
 | _=>none
def OH:Z Dat->C1 (Z Bool)
 | []=>some []
 | .bl i::r=>(OH r).map (i::·)
 | _=>none
theorem Qv(ns:Z Int):U8 (ns.map .int)=some ns:=by
 induction ns with
 | nil=>rfl
 | cons n ns ih=>rw[CC,U8,ih];rfl
theorem bO(ns:Z Bool):OH (ns.map .bl)=some ns:=by
 induction ns with
 | nil=>rfl
 | cons n ns ih=>rw[CC,OH,ih];rfl
theorem Vg:∀ {ds:Z Dat} {ns:Z Int},U8 ds=some ns->ds=ns.map .int
 | [],_,h=>by cases h;rfl
 | d::ds,ns,h=>by
  cases d<;>try cases h
  rename_i i;rw[U8] at h;cases e:U8 ds with
  | none=>rw[e] at h;cases h
  | some r=>rw[e] at h;cases h;rw[Vg e];rfl
theorem Bt:∀ {ds:Z Dat} {ns:Z Bool},OH ds=some ns->ds=ns.map .bl
 | [],_,h=>by cases h;rfl
 | d::ds,ns,h=>by
  cases d<;>try cases h
  rename_i i;rw[OH] at h;cases e:OH ds with
  | none=>rw[e] at h;cases h
  | some r=>rw[e] at h;cases h;rw[Bt e];rfl
theorem Ys:∀ {ns:Z Int} {vs:Z V},Wf K H (ns.map .int) vs->vs=ns.map .int
 | [],vs,h=>Yj h
 | n::ns,vs,h=>by obtain⟨v,r,e,h1,h2⟩:=Zt h;rw[e,Jh h1,Ys h2];rfl
theorem Hi:∀ {ns:Z Bool} {vs:Z V},Wf K H (ns.map .bl) vs->vs=ns.map .bl
 | [],vs,h=>Yj h
 | n::ns,vs,h=>by obtain⟨v,r,e,h1,h2⟩:=Zt h;rw[e,O3 h1,Hi h2];rfl
def Q6(ns:Z Int):Z Int:=ns.mergeSort (λa b=>decide (a<=b))
theorem Wz(ns:Z Int):(Q6 ns).Perm ns:=List.mergeSort_perm ns _
theorem Ry(ns:Z Int):(Q6 ns).Pairwise (·<=·):=by
 have:=List.pairwise_mergeSort (le:=λa b:Int=>decide (a<=b)) (by intro a b c h1 h2;simp only[CK] at *;lia) (by intro a b;simp only[GB,CK];lia) ns;exact this.imp λh=>BM h
theorem Tt:∀ {xs ys:Z Int},xs.Perm ys->xs.Pairwise (·<=·)->ys.Pairwise (·<=·)->xs=ys
 | [],ys,p,_,_=>by rw[List.nil_perm.mp p]
 | x::xs,[],p,_,_=>by have:=p.length_eq;simp at this
 | x::xs,y::ys,p,h1,h2=>by
  have hx:=GQ.mp h1;have hy:=GQ.mp h2;have e:x=y:=by
   have m1:x∈y::ys:=p.mem_iff.mp AW;have m2:y∈x::xs:=p.mem_iff.mpr AW;rcases AZ.mp m1 with z | z
   ·exact z
   ·rcases AZ.mp m2 with w | w
    ·exact w.symm
    ·have a1:=hx.1 y w
     have a2:=hy.1 x z;lia
  subst e;rw[Tt (List.Perm.cons_inv p) hx.2 hy.2]
def dW:Z Dat->C1 (Z Dat)
 | [.lst xs]=>(U8 xs).bind λns=>if ns.length<64 then some ((Q6 ns).map .int) else none
 | _=>none
def RF:Z Dat->C1 Dat
 | [.lst xs]=>(OH xs).map λbs=>.bl (bs.all id)
 | _=>none
def RX:Z Dat->C1 Dat
 | [.lst xs]=>(OH xs).map λbs=>.bl (bs.any id)
 | _=>none
theorem map_some{α β:Type}{a:C1 α}{g:α->β}{b:β}(h:a.map g=some b):∃ x,a=some x/\g x=b:=by
 cases a with
 | none=>cases h
 | some x=>cases h;exact⟨x,rfl,rfl⟩
theorem k6(hc:X.calm=true):G9 X (.builtin "all") RF:=(jd hc).weak λvs H Q zz=>by
 obtain⟨A,ds,d,mu,e,p,q⟩:=zz;unfold RF at e;split at e
 ·obtain⟨v,e1,p1⟩:=p.one
  obtain⟨l,us,e2,h1,r1⟩:=p1.lst;obtain⟨bs,hb,e⟩:=map_some e;subst e;rw[Bt hb] at r1;have eu:=Hi r1;subst eu;exact⟨l,bs,by rw[e1,e2],h1.sq,q.here Vi⟩
 ·cases e
theorem jV(hc:X.calm=true):G9 X (.builtin "any") RX:=(iy hc).weak λvs H Q zz=>by
 obtain⟨A,ds,d,mu,e,p,q⟩:=zz;unfold RX at e;split at e
 ·obtain⟨v,e1,p1⟩:=p.one
  obtain⟨l,us,e2,h1,r1⟩:=p1.lst;obtain⟨bs,hb,e⟩:=map_some e;subst e;rw[Bt hb] at r1;have eu:=Hi r1;subst eu;exact⟨l,bs,by rw[e1,e2],h1.sq,q.here Vi⟩
 ·cases e
def OC:Z Dat->C1 Dat
 | [.int i,.int j]=>some (.int (if j > i then j else i))
 | _=>none
def QJ:Z Dat->C1 Dat
 | [.int i,.int j]=>some (.int (if j<i then j else i))
 | _=>none
theorem VH(hc:X.calm=true):G9 X (.builtin "max") OC:=(fo hc).weak λvs H Q zz=>by
 obtain⟨A,ds,d,mu,e,p,q⟩:=zz;unfold OC at e;split at e
 ·obtain⟨v,w,e1,p1,p2⟩:=p.two
  cases e;exact⟨_,_,by rw[e1,p1.int,p2.int],q.here Yq⟩
 ·cases e
theorem eB(hc:X.calm=true):G9 X (.builtin "min") QJ:=(mF hc).weak λvs H Q zz=>by
 obtain⟨A,ds,d,mu,e,p,q⟩:=zz;unfold QJ at e;split at e
 ·obtain⟨v,w,e1,p1,p2⟩:=p.two
  cases e;exact⟨_,_,by rw[e1,p1.int,p2.int],q.here Yq⟩
 ·cases e
def VT:Dat->C1 String
 | .non=>some "NoneType" | .bl _=>some "bool" | .int _=>some "int" | .str _=>some "str" | .tup _=>some "tuple" | .lst _=>some "list" | _=>none
def UA(T:String)(d:Dat):C1 Bool:=(VT d).bind λt=>OQ t T
def dI(T:String)(f:Zzu):Ev->C1 Dat:=λenv=>(f env).bind λd=>(UA T d).map .bl
theorem iY{A:C0}{Q:J1}{d:Dat}{v:V}{t:String}{b:Bool}(I:C' X aa σ H s)(r:Rp X.K H d v)(N:Yi v u)(ht:VT d=some t)(e:PySem.W.kitOne X.K (.type t) (.type T)=some b)(h:∀ tk,Q (.bool b) { s with toks:=tk }) :
  wpAny (model X.prog X.w) A (call (.builtin "isinstance") [u,.type T]) Q E s:=by
 cases d with
 | non=>cases ht;rw[F4 r] at N;exact Eb I N .non e h
 | bl y=>cases ht;rw[O3 r] at N;exact Eb I N (.bl y) e h
 | int y=>cases ht;rw[Jh r] at N;exact Eb I N (.int y) e h
 | str y=>cases ht;rw[(Xw r).1] at N;exact Eb I N (.str y) e h
 | tup ds =>
  cases ht;obtain⟨a,vs,e1,h1,_⟩:=Rt r;subst e1;cases N;obtain⟨its,_,⟨o,ho,hc,_⟩,_⟩:=I.tuple h1;exact CS kitx_tuple I.kIn ⟨o,ho,hc⟩ e (λz=>nomatch z) h
 | lst ds =>
  cases ht;obtain⟨a,vs,e1,h1,_⟩:=Qa r;subst e1;cases N;obtain⟨its,n,_,ho,_⟩:=h1.get I;exact CS LA I.kIn ⟨_,ho,rfl⟩ e (λz=>nomatch z) h
 | dct _=>cases ht
 | exc _ _=>cases ht
theorem WM{f:Zzu}{tx:Str}{p2:Pos}(he:Yz true X e f)(hg:Gl X "isinstance")(hm:X.mg "isinstance" = none)(hv:bootBuiltins "isinstance" = some (.builtin "isinstance"))(i:Gl X tx)(j:X.mg tx=none)(l:bootBuiltins tx=some (.type T))(n:tx≠"__name__" := by decide)(g:C2 tx:=by decide)
  (hs:starEach [e,.Name tx p2] X.env=(false,eval e X.env)::starEach [.Name tx p2] X.env:=by rfl):Yz m X (.Call (.Name "isinstance" p) [e,.Name tx p2] [] pos) (dI T f):=by
 have hc:V0 X (.builtin "isinstance") (λvs H Q=>∃ v A d b,vs=[v,.ty T]/\Ul A H/\UA T d=some b/\Pk X.K A H d v/\T7 false X.K A H (.bl b) Q):=by
  intro aa s σ H xs us Q I r ⟨v,A,d,b,e1,mu,e2,p1,q⟩;subst e1;obtain⟨u,w',rfl,N,a⟩:=Bk r;cases a;obtain⟨t,ht,Y⟩:=bind_some e2;exact iY I p1.rp N ht (lZ Y) λtk=>⟨.bl b,H,I.tok _,rfl,q.here Vi⟩
 refine Yz.any ((Da hc hg hm hv (Yk he (Yk (bN i j l n g) Vb) hs) (he:=hs)).weak λσ H Q ⟨env,R,A,d,k,M,q2⟩=>?_);obtain⟨x,e1,h⟩:=bind_some M;obtain⟨b,e2,h⟩:=map_some h;subst h;exact⟨env,R,A,x,k,e1,λv H1 s1 p1=>⟨v,A,x,b,rfl,k.mu.mono s1,e2,p1,q2.mono s1⟩⟩
end
variable{t:Ev->C1 Bool}{l:Z Gf}{lo:Int}{e T:A2}{g:Dat->Ev->C1 Ev}{src:Zzv}
def PY(st:Bool)(A:AS)(H:Hp)(t:AS)(H1:Hp):Prop:=match st with
 | true=>G0 A H t H1
 | false=>t=A/\Zp H H1
theorem PY.step{st:Bool}{t:AS}(h:PY st A H t H1):G0 A H t H1:=by
 cases st with
 | true=>exact h
 | false=>obtain⟨rfl,h⟩:=h;exact G0.same h
def OV(st:Bool)(K:G8)(A:AS)(H:Hp)(ds:Z Dat)(J:It):Prop:=∀ t H1,PY st A H t H1->Ul t H1 ->
 (∀ (i:Nat) x,ds[i]?=some x->J.go i H1/\∀ v H2,J.yld i H1 v H2->Zp H1 H2/\Rp K (av H2 t) x v)/\J.stop ds.length H1
def SZ(bb st:Bool)(X:Cx)(tg iter:C3)(src:Zzv):Prop:=NE bb X tg iter λσ H g=>∃ env R A ds,F' X.K R A H σ env/\src env=some ds /\
 ∀ J H',ds.length<=sizeLine->Zp H H'->OV st X.K A H' ds J->g J H'
abbrev ND:=SZ false
theorem NE.mono{X:Cx}{t:TI}(h:NE bb X tg iter t)(w:∀ σ H Q,t' σ H Q->t σ H Q):NE bb X tg iter t':=λaa s σ H Q I q=>h aa s σ H Q I (w σ H Q q)
theorem PI.weak{X:Cx}{t:TI}(h:PI X tg iter t)(w:∀ σ H Q,t' σ H Q->t σ H Q):PI X tg iter t':=NE.mono h w
section
variable{st:Bool}{X:Cx}{l:C3}{f:Zzu}{fs:Zzv}
def Uj(f:Zzu):Ev->C1 (Z Dat):=λenv=>match f env with
 | some (.lst xs)=>some xs
 | some (.tup xs)=>some xs
 | _=>none
theorem VG{a:A2}(h:∀ t H1,PY st A H t H1->Dd K H1 a vs)(r:Wf K (av H A) ds vs):OV st K A H ds (VV K a):=λt H1 b _=>by
 have h1:=h t H1 b;have r1:=r.mono b.step.av;refine⟨λi x e=>?_,⟨vs,h1,KN (Zw r)⟩⟩;obtain⟨v,e1,e2⟩:=Re r1 e;refine⟨⟨vs,v,h1,e1⟩,λB H2 ⟨e3,e4⟩=>?_⟩;subst e3;have:=e4 vs h1;rw[e1] at this;cases this;exact⟨Zp.refl _,e2⟩
theorem de{a:A2}(h:∀ t H1,PY st A H t H1->E3 K H1 a vs)(r:Wf K (av H A) ds vs):OV st K A H ds (YQ K a):=λt H1 b _=>by
 have h1:=h t H1 b;have r1:=r.mono b.step.av;refine⟨λi x e=>?_,⟨vs,h1,KN (Zw r)⟩⟩;obtain⟨v,e1,e2⟩:=Re r1 e;refine⟨⟨vs,v,h1,e1⟩,λB H2 ⟨e3,e4⟩=>?_⟩;subst e3;have:=e4 vs h1;rw[e1] at this;cases this;exact⟨Zp.refl _,e2⟩
theorem Gs(h:Yz false X l f):ND st X tg l (Uj f):=(eO h).weak λσ H g zz=>by
 obtain⟨env,R,A,ds,k,e,q⟩:=zz;unfold Uj at e;split at e
 ·rename_i xs e1
  cases e;refine .inl ⟨env,R,A,.lst ds,k,e1,λv H1 s1 p1=>?_⟩;obtain⟨a,vs,e2,h1,r1⟩:=Qa (show Rp X.K (av H1 A) (.lst ds) v from p1);subst e2;exact⟨a,rfl,⟨vs,(Yn.sl h1).sq⟩,q _ H1 p1.pk.lenL s1 (VG (vs:=vs) (λt H2 b=>(Yn.sl (b.step.av.sl h1)).sq) r1)⟩
 ·rename_i xs e1
  cases e;refine .inr ⟨env,R,A,.tup ds,k,e1,λv H1 s1 p1=>?_⟩;obtain⟨a,vs,e2,h1,r1⟩:=Rt (show Rp X.K (av H1 A) (.tup ds) v from p1);subst e2;exact⟨a,rfl,⟨vs,Yn.seqT h1⟩,q _ H1 p1.pk.lenT s1 (de (vs:=vs) (λt H2 b=>Yn.seqT (b.step.av.seqT h1)) r1)⟩
 ·cases e
theorem Rl(h:Yz true X l f):ND false X tg l (Uj f):=(eO h).weak λσ H g zz=>by
 obtain⟨env,R,A,ds,k,e,q⟩:=zz;unfold Uj at e;split at e
 ·rename_i xs e1
  cases e;refine .inl ⟨env,R,A,.lst ds,k,e1,λv H1 s1 p1=>?_⟩;obtain⟨a,vs,e2,h1,r1⟩:=p1.pk.lst;subst e2;exact⟨a,rfl,⟨vs,h1.sq⟩,q _ H1 p1.pk.lenL s1 (VG (vs:=vs) (λt H2 b=>(b.2.sl h1).sq) r1)⟩
 ·rename_i xs e1
  cases e;refine .inr ⟨env,R,A,.tup ds,k,e1,λv H1 s1 p1=>?_⟩;obtain⟨a,vs,e2,h1,r1⟩:=p1.pk.tup;subst e2;exact⟨a,rfl,⟨vs,h1⟩,q _ H1 p1.pk.lenT s1 (de (vs:=vs) (λt H2 b=>b.2.seqT h1) r1)⟩
 ·cases e
def rng(lo:Int)(n:Nat):Z Dat:=(List.range n).map λ(k:Nat)=>.int (lo+k)
theorem T4{n:Nat}:(rng lo n).length=n:=by simp[rng]
theorem dk{n:Nat}:OV st K A H (rng lo n) (RK lo n):=λt H1 b _=>by
 refine⟨λi x e=>?_,by show n<=(rng lo n).length;simp[rng]⟩;unfold rng at e;rw[AM] at e;by_cases hi:i<n
 ·rw[GE hi] at e
  cases e;exact⟨hi,λv H2 ⟨e1,e2⟩=>by subst e1 e2;exact⟨Zp.refl _,Yq⟩⟩
 ·rw[EJ (by simpa using hi)] at e
  cases e
def Uo(fs:Zzv):Ev->C1 (Z Dat):=λenv=>match fs env with
 | some [.int j]=>if -(2^62)<=j/\j<2^62/\j.toNat<=sizeLine then some (rng 0 j.toNat) else none
 | _=>none
def QR(fs:Zzv):Ev->C1 (Z Dat):=λenv=>match fs env with
 | some [.int i,.int j]=>if(-(2^62)<=i/\i<2^62/\-(2^62)<=j/\j<2^62)/\(j - i).toNat<=sizeLine then some (rng i (j - i).toNat) else none
 | _=>none
theorem Wh{a:C3}(hm:X.mg "range" = none)(ha:O1 true X [a] fs)(hg:Gl X "range" := by rfl)(hs:starEach [a] X.env=[(false,eval a X.env)]:=by rfl):ND st X tg (.Call (.Name "range" p) [a] [] pos) (Uo fs):=(fh hg hm ha hs).weak λσ H g zz=>by
 obtain⟨env,R,A,ds,k,e,q⟩:=zz;unfold Uo at e;split at e
 ·rename_i j e1
  split at e
  ·rename_i hj
   cases e;refine⟨env,R,A,_,k,e1,λvs H1 s1 p1=>?_⟩;obtain⟨v,e2,p2⟩:=p1.one;exact⟨j,by rw[e2,p2.int],hj.1,hj.2.1,q _ H1 (by rw[T4];exact hj.2.2) s1 dk⟩
  ·cases e
 ·cases e
theorem pH{a b:C3}(hm:X.mg "range" = none)(ha:O1 true X [a,b] fs)(hg:Gl X "range" := by rfl)(hs:starEach [a,b] X.env=[(false,eval a X.env),(false,eval b X.env)]:=by rfl)(u:starEach [b] X.env=[(false,eval b X.env)]:=by rfl):ND st X tg (.Call (.Name "range" p) [a,b] [] pos) (QR fs):=(mv hg hm ha hs u).weak λσ H g zz=>by
 obtain⟨env,R,A,ds,k,e,q⟩:=zz;unfold QR at e;split at e
 ·rename_i i j e1
  split at e
  ·rename_i hj
   cases e;refine⟨env,R,A,_,k,e1,λvs H1 s1 p1=>?_⟩;obtain⟨v,w,e2,p2,Q⟩:=p1.two;exact⟨i,j,by rw[e2,p2.int,Q.int],hj.1,q _ H1 (by rw[T4];exact hj.2) s1 dk⟩
  ·cases e
 ·cases e
def YL(f:Zzu):Ev->C1 (Z Dat):=λenv=>match f env with
 | some (.str z)=>some ((cl z).map λc=>.str ⟨#[c]⟩)
 | _=>none
theorem iv(h:Yz m X l f):ND st X tg l (YL f):=(fO h).weak λσ H g zz=>by
 obtain⟨env,R,A,ds,k,e,q⟩:=zz;unfold YL at e;split at e
 ·rename_i z e1
  cases e;refine⟨env,R,A,_,k,e1,λv H1 s1 p1=>?_⟩;obtain⟨e2,Y⟩:=p1.pk.str;refine⟨z,e2,q _ H1 (by rw[AD,Mm];exact Y.le) s1 λt H2 b _=>⟨λi x ex=>?_,by show _=_;rw[AD,Mm]⟩⟩;rw[AM] at ex;cases hc:(cl z)[i]? with
  | none=>rw[hc] at ex;cases ex
  | some c =>
   rw[hc] at ex;cases ex;have hi:i<z.length:=by rw[← Mm];exact(AE.mp hc).1
   refine⟨hi,λB P ⟨e3,c',e4,e5⟩=>?_⟩;subst e3 e5;have:c'=c:=by
    have h':(cl z)[i]?=some c':=by simpa[cl] using e4
    rw[hc] at h';exact(BF h').symm
   subst this;exact⟨Zp.refl _,Sj (d8 Y (AI hc))⟩
 ·cases e
end
def O4(is:Z Nat)(σ σ':St):Prop:=σ'.length=σ.length/\∀ j,j∉is->σ'[j]?=σ[j]?
def NK(is:Z Nat)(X:Cx)(tg:C3)(g:Dat->Ev->C1 Ev):Prop:=PG X tg λv σ H Q=>∃ env R A d env',F' X.K R A H σ env/\Rp X.K (av H A) d v/\g d env=some env'/\∀ σ',F' X.K R A H σ' env'->O4 is σ σ'->Q σ' H
def S'(is:Z Nat)(X:Cx)(a:Z C3)(g:Z Dat->Ev->C1 Ev):Prop:=NW X a λvs σ H Q=>∃ env R A ds env',F' X.K R A H σ env/\Wf X.K (av H A) ds vs/\g ds env=some env'/\∀ σ',F' X.K R A H σ' env'->O4 is σ σ'->Q σ' H
theorem F'.put(k:F' K B A H σ env)(i:Nat){d:Dat}{v:V}(r:Rp K (av H A) d v):F' K B A H (σ.set i (some v)) (env.set i (.fz d)):=by
 obtain⟨own,h1,h2,h4⟩:=k.sl;refine⟨k.h0,k.r0,k.ra,k.ar,k.mu,by rw[BJ,BJ];exact k.len,λhs j d'=>?_,λj a=>j≠i/\own j a,λj u a q W=>h1 j u a q.2 W.2,λj a q=>h2 j a q.2,λj s e=>?_⟩
 ·rw[BB]
  split
  ·split
   ·intro z;cases z
   ·intro z;cases z
  ·exact k.np hs j d'
 by_cases hj:i=j
 ·subst hj
  rw[BB] at e;rw[AF rfl] at e;split at e
  ·rename_i hl
   cases e;refine⟨some v,?_,v,rfl,r⟩;rw[BB,AF rfl,AF (by rw[k.len];exact hl)]
  ·cases e
 ·rw[BB,AL hj] at e
  obtain⟨x,M,q2⟩:=h4 j s e;refine⟨x,by rw[BB,AL hj];exact M,?_⟩;cases s with
  | un=>trivial
  | fz d=>exact q2
  | pk d=>exact q2
  | ow ds=>obtain⟨a,vs,e1,e2,e3⟩:=q2;exact⟨a,vs,e1,⟨AO hj,e2⟩,e3⟩
  | gx g=>obtain⟨v,e1,e2⟩:=q2;exact⟨v,e1,e2.frame (λ_ z=>⟨AO hj,z⟩) (λ_ _ _ z=>z) (Zp.refl _)⟩
theorem PG.weak{X:Cx}{e:C3}{t t':TG}(h:PG X e t)(w:∀ v σ H Q,t' v σ H Q->t v σ H Q):PG X e t':=λaa s σ H v u Q I r q=>h aa s σ H v u Q I r (w _ _ _ _ q)
theorem NW.weak{X:Cx}{e:Z C3}{t t':NF}(h:NW X e t)(w:∀ v σ H Q,t' v σ H Q->t v σ H Q):NW X e t':=λaa s σ H v u Q I r q=>h aa s σ H v u Q I r (w _ _ _ _ q)
section
variable{X:Cx}
def Yd(i:Nat):Dat->Ev->C1 Ev:=λd env=>some (env.set i (.fz d))
theorem jh{v:C1 V}:O4 [i] σ (σ.set i v):=⟨by rw[BJ],λj hj=>by rw[BB,AL (by intro e;exact hj (by simp[e]))]⟩
theorem Zs(i:Nat){x:Str}(hN:X.N.Nodup)(hi:X.N[i]?=some x:=by rfl)(hx:LZ X.env.scope x:=by ext)(hf:X.fn x=true\/X.env.scope.names.lookup x=some .local:=by ext):NK [i] X (.Name x pos) (Yd i):=(oq hN hi hx hf).weak λv σ H Q zz=>by
 obtain⟨env,R,A,d,env',k,r,e,q⟩:=zz;cases e;exact q _ (k.put i r) jh
def M9:Z Dat->Ev->C1 Ev:=λds env=>match ds with
 | []=>some env
 | _=>none
def W0(g:Dat->Ev->C1 Ev)(b:Z Dat->Ev->C1 Ev):Z Dat->Ev->C1 Ev:=λds env=>match ds with
 | d::ds=>(g d env).bind λenv'=>b ds env'
 | _=>none
theorem Mo:S' [] X [] M9:=p7.weak λvs σ H Q zz=>by
 obtain⟨env,R,A,ds,env',k,r,e,q⟩:=zz;unfold M9 at e;split at e
 ·cases e
  exact⟨Yj r,q σ k ⟨rfl,λ_ _=>rfl⟩⟩
 ·cases e
theorem W2{e:C3}{a:Z Nat}{b:Z Dat->Ev->C1 Ev}(h1:NK is X e g)(h2:S' a X es b)
  (hs:(assignEach (e::es) X.env).map (·.2)=assign e X.env::(assignEach es X.env).map (·.2):=by rfl):S' (is++a) X (e::es) (W0 g b):=(qx h1 h2 hs).weak λvs σ H Q zz=>by
 obtain⟨env,R,A,ds,env',k,r,e,q⟩:=zz;unfold W0 at e;split at e
 ·rename_i d ds'
  obtain⟨n,e1,e2⟩:=bind_some e;obtain⟨v,us,ev,r1,r2⟩:=Zt r;refine⟨v,us,ev,env,R,A,d,n,k,r1,e1,λσ1 k1 a1=>⟨n,R,A,ds',env',k1,r2,e2,λσ2 k2 a2=>q σ2 k2 ⟨by rw[a2.1,a1.1],λj hj=>?_⟩⟩⟩;rw[BV,not_or] at hj;rw[a2.2 j hj.2,a1.2 j hj.1]
 ·cases e
end
def To(fs:Z (C1 Nat))(env:Ev):Ev:=fs.map λo=>match o with
 | none=>.un
 | some j=>match env[j]? with
  | some (.fz d)=>.fz d
  | some (.pk d)=>.pk d
  | some (.ow ds)=>.pk (.lst ds)
  | _=>.un
theorem F'.inn(k:F' K B A H σ env)(fs:Z (C1 Nat)):F' K ⟨H,A,false⟩ A H (U0 fs σ) (To fs env):=by
 obtain⟨own,h1,h2,h4⟩:=k.sl;refine⟨Zp.refl H,λa h=>?_,λ_ h=>h,λ_ h=>.inl h,k.mu,by simp[U0,To],λz=>(by cases z),λ_ _=>False,λ_ _ _ h=>h.elim,λ_ _ h=>h.elim,λi s e=>?_⟩
 ·have:=k.mu a h
  cases q:H a with
  | none=>rw[q] at this;exact this.elim
  | some o=>exact⟨o,q⟩
 ·unfold To at e
  rw[AM] at e;unfold U0;rw[AM];cases hf:fs[i]? with
  | none=>rw[hf] at e;cases e
  | some o =>
   rw[hf] at e;cases o with
   | none=>cases e;exact⟨_,rfl,trivial⟩
   | some j =>
    simp only[KB,JM] at e ⊢;refine⟨_,rfl,?_⟩;split at e
    ·rename_i d hd
     obtain⟨x,M,q2⟩:=h4 j _ hd;subst e;rw[M];exact q2
    ·rename_i d hd
     obtain⟨x,M,q2⟩:=h4 j _ hd;subst e;rw[M];exact q2
    ·rename_i ds hd
     obtain⟨x,M,a,vs,e1,_,hz,e3,e4⟩:=h4 j _ hd;subst e;rw[M];exact⟨.ref a,e1,.inr (.inl ⟨a,vs,ds,rfl,rfl,hz,e3,e4⟩)⟩
    ·subst e;trivial
def Wm(g:Dat->Ev->C1 Ev)(t:Ev->C1 Bool)(f:Zzu)(env:Ev):Z Dat->C1 (Z Dat)
 | []=>some []
 | x::xs=>(g x env).bind λn=>(t n).bind λb=>if b=true then(f n).bind λy=>(Wm g t f env xs).map (y::·) else Wm g t f env xs
def Vn(src:Zzv)(fs:Z (C1 Nat))(g:Dat->Ev->C1 Ev)(t:Ev->C1 Bool)(f:Zzu):Ev->C1 (Z Dat):=λenv=>(src env).bind λds=>Wm g t f (To fs env) ds
theorem Lg{f:Zzu} :∀ {xs ys:Z Dat},Wm g t f env xs=some ys->ys.length<=xs.length
 | [],ys,h=>by cases h;exact AT _
 | x::xs,ys,h=>by
  rw[Wm] at h;obtain⟨n,e1,h⟩:=bind_some h;obtain⟨b,e2,h⟩:=bind_some h;split at h
  ·obtain⟨y,e3,h⟩:=bind_some h
   obtain⟨zs,e4,h⟩:=map_some h;subst h;exact ID (Lg e4)
  ·exact HS (Lg h)
def OX(X:Cx)(ay:Z C3)(t:Ev->C1 Bool):Prop:=NO X ay λσ H Q=>∃ env R A b,F' X.K R A H σ env/\t env=some b/\∀ H',Zp H H'->Q b H'
def Up:Ev->C1 Bool:=λ_=>some true
theorem NO.weak{X:Cx}{e:Z C3}{t t':TT}(h:NO X e t)(w:∀ σ H Q,t' σ H Q->t σ H Q):NO X e t':=λaa s σ H Q I q=>h aa s σ H Q I (w σ H Q q)
theorem D0{X:Cx}:OX X [] Up:=(ka (Y:=X)).weak λσ H Q ⟨env,R,A,b,k,e,q⟩=>by cases e;exact q H (Zp.refl H)
theorem Iy{X:Cx}{c:C3}(h:MK X c t):OX X [c] t:=pJ h
section
variable{X:Cx}
theorem dN{J:It}{fs:Z (C1 Nat)}{f:Zzu}{Q:VK}{ys:Z Dat}
  (c:∀ i∈is,fs[i]?=some none) (k:F' K B A H1 σ env) (Y:OV false K A H1 ds J) (hz:ds.length<=sizeLine) (hc:Wm g t f (To fs env) ds=some ys) (q:A5 K A H1 ys Q) :
  ∃ W:Nat->Nat->Z V->Hp->Prop,(∃ m,W 0 m [] H1)/\∀ i m zs H,W i m zs H ->
   (J.stop i H/\zs.length<=sizeLine/\∀ p,H p=none->Q (.ref p) (Yr H p (.lst zs))) \/
   (J.go i H/\zs.length<=sizeLine/\∃ N:Z V->Hp->Prop,(∀ M H',N M H'->∃ m',m'<m/\W (i+1) m' M H')/\∀ x H',J.yld i H x H'->(∃ env R A d env',F' K R A H' (U0 fs σ) env/\Rp K (av H' A) d x/\g d env=some env'/\∀ σ',F' K R A H' σ' env'->O4 is (U0 fs σ) σ' ->
    (UR (U0 fs σ) σ'/\∃ env R A b,F' K R A H' σ' env/\t env=some b/\∀ P,Zp H' P->if b=true then ∃ env R A d,F' K R A P σ' env/\f env=some d/\T7 false K A P d (λv H4=>N (zs++[v]) H4) else N zs P))):=by
 have hl:=Lg hc;refine⟨λi m zs H=>m=ds.length - i/\i<=ds.length/\Zp H1 H/\∃ us ak,Wm g t f (To fs env) (ds.drop i)=some ak/\us++ak=ys/\Wf K (av H A) us zs,
  ⟨ds.length,by simp,CP _,Zp.refl _,[],ys,by simpa using hc,rfl,Vo⟩,?_⟩
 rintro i m zs H ⟨rfl,hi,s1,us,ak,e1,e2,r⟩;have l:zs.length<=sizeLine:=by
  rw[Zw r];have:us.length<=ys.length:=by rw[← e2,AX];lia
  lia
 obtain⟨C,s⟩:=Y A H ⟨rfl,s1⟩ (k.mono s1).mu;by_cases ae:i<ds.length
 ·have hx:ds[i]?=some ds[i]:=by simp[ae]
  obtain⟨go,yl⟩:=C i _ hx;rw[EN ae,Wm] at e1;obtain⟨n,b1,e1⟩:=bind_some e1;obtain⟨b,b2,e1⟩:=bind_some e1;refine .inr ⟨go,l,λu H'=>i+1<=ds.length/\Zp H1 H'/\∃ us ak,Wm g t f (To fs env) (ds.drop (i+1))=some ak/\us++ak=ys/\Wf K (av H' A) us u,
   λu H' h=>⟨ds.length - (i+1),by lia,rfl,h⟩,λx H' hy=>?_⟩
  obtain⟨s2,S⟩:=yl x H' hy;refine⟨To fs env,⟨H1,A,false⟩,A,ds[i],n,(k.inn fs).mono (s1.trans s2),S,b1,λσ' k' w=>⟨⟨w.1.symm,λj v ej=>?_⟩,n,⟨H1,A,false⟩,A,b,k',b2,λP G=>?_⟩⟩
  ·have hj:j∉is:=λhj=>by
    have:=c j hj;unfold U0 at ej;rw[AM,this] at ej;cases ej
   rw[w.2 j hj];exact ej
  ·cases b with
   | true =>
    rw[AF rfl] at e1 ⊢;obtain⟨y,b3,e1⟩:=bind_some e1;obtain⟨a,D,e1⟩:=map_some e1;subst e1;refine⟨n,⟨H1,A,false⟩,A,y,k'.mono G,b3,λv H4 s4 rv=>⟨ae,((s1.trans s2).trans G).trans s4,us++[y],a,D,by rw[List.append_assoc];exact e2,Wq (r.mono (Wv ((s2.trans G).trans s4))) (Jz rv)⟩⟩
   | false =>
    rw[AL BY] at e1 ⊢;exact⟨ae,(s1.trans s2).trans G,us,ak,e1,e2,r.mono (Wv (s2.trans G))⟩
 ·have e:i=ds.length:=by lia
  subst e;rw[List.drop_length,Wm] at e1;cases e1;rw[GM] at e2;subst e2;exact .inl ⟨s,l,(q.mono s1).at (by lia) r⟩
variable{f:Zzu}
def VP(f:Zzu):Ev->C1 (Z Dat):=λenv=>match f env with
 | some (.lst xs)=>some xs
 | _=>none
theorem gi(h:Yz true X iter f):SZ true false X tg iter (VP f):=NE.mono (cv h) λσ H g zz=>by
 obtain⟨env,R,A,ds,k,e,q⟩:=zz;unfold VP at e;split at e
 ·rename_i xs e1
  cases e;refine⟨env,R,A,.lst ds,k,e1,λv H1 s1 p1=>?_⟩;obtain⟨a,vs,e2,h1,r1⟩:=p1.pk.lst;subst e2;exact⟨a,rfl,⟨vs,h1.sq⟩,q _ H1 p1.pk.lenL s1 (VG (vs:=vs) (λt H2 b=>(b.2.sl h1).sq) r1)⟩
 ·cases e
theorem cD(ap:Fn)(fs:Z (C1 Nat))(N:Z Str)(hp:X.env.scope=ap)(hc:X.calm=true\/(bb=true/\MM X))(hi:SZ bb false X tg iter src)
  (hb:∀ (C:A2) (s:A4) (H:Hp) (fp:Z A2),NK is (W3 X sc N C s H fp) tg g/\OX (W3 X sc N C s H fp) ay t/\Yz false (W3 X sc N C s H fp) az f)
  (c:∀ i∈is,fs[i]?=some none) (hs:∀ x,foldedSetIterable iter X.env x=pure x:=by intro _;rfl) (S:CompOk ap sc X.N N fs:=by exact CompOk.of (by kernel_rfl!)):MH X (.ListComp az [⟨tg,iter,ay,0⟩] sc pos) (Vn src fs g t f):=by
 refine PE.weak (pr (g:=λv σ H Q=>∃ env R A d env',F' X.K R A H σ env/\Rp X.K (av H A) d v/\g d env=some env'/\∀ σ',F' X.K R A H σ' env'->O4 is σ σ'->Q σ' H) (tt:=λσ H Q=>∃ env R A b,F' X.K R A H σ env/\t env=some b/\∀ H',Zp H H'->Q b H') (te:=λσ H Q=>∃ env R A d,F' X.K R A H σ env/\f env=some d/\T7 false X.K A H d Q) ap fs N hp S hc hi hb hs) λσ H Q ⟨env,R,A,ys,k,e,q⟩=>?_
 obtain⟨ds,e1,e2⟩:=bind_some e;exact⟨env,R,A,ds,k,e1,λJ H1 hz s1 Y=>dN c (k.mono s1) Y hz e2 (q.mono s1)⟩
theorem Tf(ap:Fn)(fs:Z (C1 Nat))(N:Z Str)(hp:X.env.scope=ap)(hc:X.calm=true)(hi:ND false X tg iter src)
 (hb:∀ (C:A2) (s:A4) (H:Hp) (fp:Z A2),NK is (W3 X sc N C s H fp) tg g/\OX (W3 X sc N C s H fp) ay t/\Yz false (W3 X sc N C s H fp) az f)
 (c:∀ i∈is,fs[i]?=some none) (hs:∀ x,foldedSetIterable iter X.env x=pure x:=by intro _;rfl) (S:CompOk ap sc X.N N fs:=by exact CompOk.of (by kernel_rfl!)):MH X (.ListComp az [⟨tg,iter,ay,0⟩] sc pos) (Vn src fs g t f):=cD ap fs N hp (.inl hc) hi hb c hs S
end
def N8(h base:Ff)(e T:A2)(cls:A1×C1 A1)(dct:C1 A2)(fl:A1):Prop :=
 ∃ oe vs oT ts,h.get? e=some oe/\(oe.cls,vs[2]?)=cls/\oe.dict=dct/\oe.data=.fields vs/\vs[1]?=some (.ref T)/\base.get? T=none/\T≠e/\h.get? T=some oT/\oT.data=.fields ts/\ts[3]?=some fl
def Aa(l:Z Gf)(ch:Z A2)(h h':Ff):Prop:=∀ b o,h.get? b=some o->b∉ch->(b∉Eu l->h'.get? b=some o)/\∃ sl,h'.get? b=some { o with slots:=sl }
theorem Aa.of{h1:Ff}(a:∀ b o,h.get? b=some o->b∉ch->h1.get? b=some o):Aa l ch h h1:=λc o q hc=>⟨λ_=>a c o q hc,o.slots,a c o q hc⟩
theorem Pa(f:Array A1->Array A1)(o:Obj):(Obj.mapFields f o).dict=o.dict:=by
 unfold Obj.mapFields;split<;>rfl
section
variable{M:Model}{A:C0}
theorem bF{env:Gf}{vs:Array A1}{head:A1}{j:Bool} 
   (i:A.frames=some (env::outer)) (hl:s.heap.FunFrames base (env::outer)) (hf:env.frame=some Lq_)
   (he:s.heap.get? e=some oe) (d:base.StaysIn s.heap) (F:base.get? e=none) (hd:oe.data=.fields vs) (hsz:1<vs.size)
   (h:∀ h' T,s.heap.objs.size<=T->base.StaysIn h'->h'.FunFrames base (env::outer)->N8 h' base e T (oe.cls,vs[2]?) oe.dict (rawInt Lq_)->Aa (env::outer) [e] s.heap h'->s.heap.objs.size<=h'.objs.size->Q () { s with heap:=h' }) :
   wpAny M A (do let a ← frameOf env;let pl ← entryPlaceOf Lq_ j;let b ← EntryCells.newEntry head a .none (rawInt Lq_) .none pl;setField (.ref e) 1 b) Q E s:=by
 have p:e∉(env::outer).filterMap (·.frame):=λhm=>by
   obtain⟨_,o,ho,k⟩:=hl.mem hm;rw[he] at ho;injection ho with ho;subst ho;exact k vs hd
 refine AA (wpAny_frameOf_fun i hl hf λh₁ hs₁=>?_);refine AA (wpAny_entryPlaceOf λpl ac=>?_);unfold EntryCells.newEntry newFields;refine AA (BK ?_ (ac.sizeOk5 _ _ _ _ _));have he₁:h₁.get? e=some oe:=(hs₁.2.1 e p).trans he;have kb₁:base.StaysIn h₁:=λb o c=>(hs₁.2.1 b λhm=>by rw[(hl.mem hm).1] at c;cases c).trans (d b o c)
 have he₂:=AB (h:=h₁) { cls:=.type "traceback",dict:=none,data:=.fields ([head,.ref Lq_,.none,rawInt Lq_,.none]++(if pl.isEmpty then List.replicate 6 Value.none else pl)).toArray } he₁;have l:s.heap.objs.size<=h₁.objs.size:=KN hs₁.1.symm;have m:h₁.objs.size≠e:=IV (AN he₁);have hd₃:=BS hd (·.setIfInBounds 1 (Value.ref h₁.objs.size));have he₃:=BI (Obj.mapFields (·.setIfInBounds 1 (Value.ref h₁.objs.size))) he₂ (DF hd₃);have hT₃:=(BA (h₁.push { cls:=.type "traceback",dict:=none,data:=.fields ([head,.ref Lq_,.none,rawInt Lq_,.none]++(if pl.isEmpty then List.replicate 6 Value.none else pl)).toArray })
   (Obj.mapFields (·.setIfInBounds 1 (Value.ref h₁.objs.size))) (AO m)).trans (AQ h₁ rfl)
 have keep:∀ b o,b≠e->h₁.get? b=some o ->
     ((h₁.push { cls:=.type "traceback",dict:=none,data:=.fields ([head,.ref Lq_,.none,rawInt Lq_,.none]++(if pl.isEmpty then List.replicate 6 Value.none else pl)).toArray }).update e (Obj.mapFields (·.setIfInBounds 1 (Value.ref h₁.objs.size)))).get? b=some o :=
   λb o f hb=>by
     rw[BA _ _ (AO f)];exact AB _ hb
 refine CQ he₂ hd hsz (h _ h₁.objs.size l ?_ ?_ ?_ ?_ ?_)
 · exactλb o c=>keep b o (λq=>by rw[q,F] at c;cases c) (kb₁ b o c)
 · refine hl.of_keeps λb o hb k=>?_
   obtain⟨sl,hs⟩:=hs₁.2.2 b o hb;have f:b≠e:=λq=>by rw[q,he] at hb;injection hb with hb;subst hb;exact k vs hd
   exact⟨_,keep b _ f hs,rfl⟩
 · exact⟨_,_,_,_,he₃,by rw[GC];simp[Array.getElem?_setIfInBounds],Pa _ _,hd₃,by simp[hsz],kb₁.fresh,m,hT₃,rfl,by first | (simp;done) | (rcases ac with rfl | ⟨_,_,_,_,_,_,_,rfl⟩<;>simp)⟩
 · intro b o hb f
   have n:b≠e:=λz=>f (by simp[z])
   obtain⟨sl,hs⟩:=hs₁.2.2 b o hb;exact⟨λg=>keep b o n ((hs₁.2.1 b g).trans hb),sl,keep b _ n hs⟩
 · rw[HX,EU];exact HS l
theorem QW{fl:A1} 
  (d:base.StaysIn s.heap) (hl:s.heap.FunFrames base l) (ht:N8 s.heap base e T cls dct fl)
  (h:∀ h',base.StaysIn h'->h'.FunFrames base l->N8 h' base e T cls dct .none->(∀ b o,s.heap.get? b=some o->b∉[T]->h'.get? b=some o)->h'.objs.size=s.heap.objs.size->Q () { s with heap:=h' }) :
  wpAny M A (setFlight (.ref e) none) Q E s:=by
 obtain⟨oe,vs,oT,ts,he,t,hdct,hd,h1,n,m,hT,g,h3⟩:=ht;have i:3<ts.size:=(EH.mp h3).1;have a:∀ b,b≠T->(s.heap.update T (Obj.mapFields (·.setIfInBounds 3 ((none:C1 A2).elim Value.none λf=>rawInt f)))).get? b=s.heap.get? b :=
  λb hb=>BA _ _ (AO hb)
 have j:∀ b o,s.heap.get? b=some o->(∀ vs,o.data≠.fields vs)->b≠T:=λb o hb k q=>by
  rw[q,hT] at hb;injection hb with hb;subst hb;exact k ts g
 unfold setFlight;refine AA (CA he hd h1 ?_);rw[AF (show(Value.ref T != Value.none)=true from by simp)];refine CQ hT g i (h _ (λb o c=>(a b λq=>by rw[q,n] at c;cases c).trans (d b o c))
  (hl.of_keeps λb o hb k=>⟨o,(a b (j b o hb k)).trans hb,rfl⟩) ?_ (λb o hb k=>(a b (λz=>k (by simp[z]))).trans hb) (HX ..))
 exact⟨oe,vs,_,_,(a e (AO m)).trans he,t,hdct,hd,h1,n,m,BI _ hT (DF (BS g _)),BS g _,by simp[i]⟩
theorem YF{env:Gf} 
  (i:A.frames=some (env::outer)) (hl:s.heap.FunFrames base (env::outer)) (hf:env.frame=some Lq_) (ht:N8 s.heap base e T cls dct .none) (d:base.StaysIn s.heap) (F:base.get? e=none)
  (h:∀ h' T',s.heap.objs.size<=T'->base.StaysIn h'->h'.FunFrames base (env::outer)->N8 h' base e T' cls dct (rawInt Lq_)->Aa (env::outer) [e,T] s.heap h'->s.heap.objs.size<=h'.objs.size->Q () { s with heap:=h' }):wpAny M A (noteFrame (.ref e) env) Q E s:=by
 obtain⟨oe,vs,oT,ts,he,t,hdct,hd,h1,n,m,hT,g,h3⟩:=ht;subst t hdct;unfold noteFrame;simp only[hf];refine AA (CA he hd h1 ?_);rw[AF (show(Value.ref T != Value.none)=true from by simp)];refine AA (CA hT g h3 ?_);rw[AL (show ¬ ((Value.none==rawInt Lq_)=true) from by simp[rawInt])];refine AA (CQ hT g (EH.mp h3).1 ?_);have a:∀ b,b≠T->(s.heap.update T (Obj.mapFields (·.setIfInBounds 3 Value.none))).get? b=s.heap.get? b:=λb hb=>BA _ _ (AO hb)
 have j:∀ b o,s.heap.get? b=some o->(∀ vs,o.data≠.fields vs)->b≠T:=λb o hb k q=>by
  rw[q,hT] at hb;injection hb with hb;subst hb;exact k ts g
 have hsz:(s.heap.update T (Obj.mapFields (·.setIfInBounds 3 Value.none))).objs.size=s.heap.objs.size:=HX ..;refine bF (s:={ s with heap:=s.heap.update T (Obj.mapFields (·.setIfInBounds 3 Value.none)) }) i (hl.of_keeps λb o hb k=>⟨o,(a b (j b o hb k)).trans hb,rfl⟩) hf ((a e (AO m)).trans he)
  (λb o c=>(a b λq=>by rw[q,n] at c;cases c).trans (d b o c)) F hd (EH.mp h1).1
  λh' T' J x1 x2 x3 y N=>h h' T' (by rw[← hsz];exact J) x1 x2 x3 (λb o hb hc=>?_) (by rw[← hsz];exact N)
 have f:b≠T:=λz=>hc (by simp[z])
 exact y b o ((a b f).trans hb) (λz=>hc (by simp at z;simp[z]))
theorem Dr{env:Gf}{vs:Array A1} 
  (i:A.frames=some (env::outer)) (hl:s.heap.FunFrames base (env::outer)) (hf:env.frame=some Lq_)
  (he:s.heap.get? e=some oe) (d:base.StaysIn s.heap) (F:base.get? e=none) (hd:oe.data=.fields vs) (h1:vs[1]?=some .none)
  (h:∀ h' T',s.heap.objs.size<=T'->base.StaysIn h'->h'.FunFrames base (env::outer)->N8 h' base e T' (oe.cls,vs[2]?) oe.dict (rawInt Lq_)->Aa (env::outer) [e] s.heap h'->s.heap.objs.size<=h'.objs.size->Q () { s with heap:=h' }):wpAny M A (noteFrame (.ref e) env) Q E s:=by
 unfold noteFrame;simp only[hf];refine AA (CA he hd h1 ?_);rw[AL (by decide)];exact bF i hl hf he d F hd (EH.mp h1).1 h
theorem im{env:Gf}{vs:Array A1} 
  (i:A.frames=some (env::outer)) (hl:s.heap.FunFrames base (env::outer)) (hf:env.frame=some Lq_)
  (he:s.heap.get? e=some oe) (d:base.StaysIn s.heap) (F:base.get? e=none) (hd:oe.data=.fields vs) (h1:vs[1]?=some .none)
  (h:∀ h' T',s.heap.objs.size<=T'->base.StaysIn h'->h'.FunFrames base (env::outer)->N8 h' base e T' (oe.cls,vs[2]?) oe.dict .none->Aa (env::outer) [e] s.heap h'->Q () { s with heap:=h' }):wpAny M A (leaving env (.ref e)) Q E s:=by
 unfold leaving;refine AA (Dr i hl hf he d F hd h1 λh' T' J x1 x2 x3 y N=>?_);refine QW (s:={ s with heap:=h' }) x1 x2 x3 λh2 y1 y2 y3 y4 y5=>h h2 T' J y1 y2 y3 (λb o hb hc=>?_)
 obtain⟨k1,sl,k2⟩:=y b o hb hc;have f:b∉[T']:=λz=>by
  have e1:b=T':=by simpa using z
  have e2:=AN hb;rw[e1] at e2;exact absurd (AR e2 J) (DA _)
 exact⟨λg=>y4 b o (k1 g) f,sl,y4 b _ k2 f⟩
theorem mS{env:Gf} 
  (i:A.frames=some (env::outer)) (hl:s.heap.FunFrames base (env::outer)) (hf:env.frame=some Lq_) (ht:N8 s.heap base e T cls dct .none) (d:base.StaysIn s.heap) (F:base.get? e=none)
  (h:∀ h' T',s.heap.objs.size<=T'->base.StaysIn h'->h'.FunFrames base (env::outer)->N8 h' base e T' cls dct .none->Aa (env::outer) [e,T] s.heap h'->Q () { s with heap:=h' }):wpAny M A (leaving env (.ref e)) Q E s:=by
 unfold leaving;refine AA (YF i hl hf ht d F λh' T' J x1 x2 x3 y N=>?_);refine QW (s:={ s with heap:=h' }) x1 x2 x3 λh2 y1 y2 y3 y4 y5=>h h2 T' J y1 y2 y3 (λb o hb hc=>?_)
 obtain⟨k1,sl,k2⟩:=y b o hb hc;have f:b∉[T']:=λz=>by
  have e1:b=T':=by simpa using z
  have e2:=AN hb;rw[e1] at e2;exact absurd (AR e2 J) (DA _)
 exact⟨λg=>y4 b o (k1 g) f,sl,y4 b _ k2 f⟩
end
variable{e:C3}
inductive Fl where
 | next (env:Ev) | ret (d:Dat) | brk (env:Ev) | cont (env:Ev) | exc (env:Ev) (c:Str) (fs:List (Str×XD)) | no
def UK(K:G8)(B:Bs)(H':Hp)(d:Dat)(v:V):Prop:=∀ ds,d=.lst ds->∃ p vs,v=.ref p/\B.H₀ p=none/\H' p=some (.lst vs)/\ds.length<=sizeLine/\Wf K (av H' (ins B.R p)) ds vs
def OK(pl:Bool)(H:Hp)(c:C1 A1):Prop:=c=some .none\/(pl=false/\A7 H c)
def Hh(X:Cx)(H:Hp)(c:C1 A1):Prop:=c=some .none\/(X.pl=false/\(A7 H c\/∃ e2,c=some (.ref e2)/\X.A.handled=some (.ref e2)))
theorem Hh.v{X:Cx}{c:C1 A1}(h:Hh X H c)(hn:X.A.handled=none):OK X.pl H c:=h.imp id λ⟨p,z⟩=>⟨p,z.elim id λ⟨e2,_,y⟩=>by rw[hn] at y;cases y⟩
theorem OK.x{X:Cx}{pl:Bool}{H:Hp}{c:C1 A1}(h:OK pl H c)(hp:X.pl=true->pl=true):Hh X H c:=by
 refine h.imp id λ⟨p,z⟩=>⟨?_,.inl z⟩
 cases q:X.pl with
 | false=>rfl
 | true=>rw[hp q] at p;exact nomatch p
theorem OK.f{pl:Bool}{c:C1 A1}(h:OK pl H c):A7 H c:=h.elim .inl λz=>z.2
theorem Hh.no{X:Cx}{c:C1 A1}(h:Hh X H c)(hp:X.pl=true):c=some .none:=h.elim id λ⟨z,_⟩=>by rw[hp] at z;cases z
def ba:Fl->Fl
 | .exc _ _ _=>.no
 | r=>r
structure QY (X:Cx) (aa:IA) (H:Hp) (h:Heap) (e C:Addr) (dct:Option Addr):Prop where
 lo:X.s₀.heap.objs.size<=e
 un:H e=none
 ob:(∃ o vs,h.get? e=some o/\o.cls=.ref C/\o.dict=dct/\o.data=.fields vs/\vs[1]?=some .none/\Hh X H vs[2]?)\/∃ T c2,X.s₀.heap.objs.size<=T/\H T=none/\(∀ p∈X.pn++aa,p.1≠T)/\N8 h X.base e T (.ref C,c2) dct .none/\Hh X H c2
 pe:∀ p∈X.pn++aa,p.1≠e
def Fu(H0 H:Hp)(dct:C1 A2):Prop:=∀ dx,dct=some dx->H0 dx=none/\∀ j f a,H dx=some (.xd j)->j.lookup f=some (.ref a)->H0 a=none/\∃ xs,H a=some (.lst xs)
theorem Fu.mono(h:Fu H1 H dct)(m:∀ b,H1 b=none->H0 b=none):Fu H0 H dct:=λdx e=>⟨m _ (h dx e).1,λj f a q l=>((h dx e).2 j f a q l).imp (m _) id⟩
theorem Fe{j:Z (Str×V)}(h1:H0 dx=none)(h2:H dx=some (.xd j))(h3:∀ f a,(f,V.ref a)∈j->H0 a=none/\∃ xs,H a=some (.lst xs)):Fu H0 H (some dx):=λdx' e=>by
 cases e;refine⟨h1,λfvs' f a q l=>?_⟩;rw[h2] at q;cases q;exact h3 f a (BU l)
theorem jf:Fu H0 H none:=λdx e=>by cases e
theorem Zp.none(s:Zp H H'){b:A2}(h:H' b=none):H b=none:=by
 cases q:H b with
 | none=>rfl
 | some o=>rw[s b o q] at h;cases h
def XW(X:Cx)(H0:Hp)(A:AS)(H:Hp)(σ:St)(c:Str)(fs:Z (Str×XD)):Prop :=
 ∀ (aa:IA) (s:A4) (e C:A2) (dct:C1 A2),C' X aa σ H s->Yy X.K c C->QY X aa H s.heap e C dct->LU X.K (av H A) dct fs->Fu H0 H dct->X.xe (.ref e) s
def K5(fr:Bool)(X:Cx)(B:Bs)(A:AS)(H:Hp)(D:KX):Fl->Prop
 | .next env'=>∀ A' H' σ',G0 A H A' H'->F' X.K B A' H' σ' env'->D.nx σ' H'
 | .brk env'=>∀ A' H' σ',G0 A H A' H'->F' X.K B A' H' σ' env'->D.bk σ' H'
 | .cont env'=>∀ A' H' σ',G0 A H A' H'->F' X.K B A' H' σ' env'->D.ct σ' H'
 | .ret d=>∀ v H',Zp B.H₀ H'->Rp X.K (av H' B.R) d v->(fr=true->UK X.K B H' d v)->D.rt v H'
 | .exc env' c fs=>∀ A' H' σ',G0 A H A' H'->F' X.K B A' H' σ' env'->XW X B.H₀ A' H' σ' c fs
 | .no=>False
def tS(fr:Bool)(X:Cx)(g:Ev->Fl):TS:=λD σ H=>∃ env B A,F' X.K B A H σ env/\B.st=true/\K5 fr X B A H D (g env)
def En(fr:Bool)(X:Cx)(st:C4)(g:Ev->Fl):Prop:=PS X st (tS fr X g)
def Xs(fr:Bool)(X:Cx)(st:Z C4)(g:Ev->Fl):Prop:=Sv X st (tS fr X g)
theorem K5.step{X:Cx}{D:KX}{r:Fl}(h:K5 fr X B A H D r)(s:G0 A H A' H'):K5 fr X B A' H' D r:=by
 cases r with
 | next e=>exactλf H2 σ2 s2 k=>h f H2 σ2 (s.trans s2) k
 | brk e=>exactλf H2 σ2 s2 k=>h f H2 σ2 (s.trans s2) k
 | cont e=>exactλf H2 σ2 s2 k=>h f H2 σ2 (s.trans s2) k
 | ret d=>exact h
 | exc e c fs=>exactλf H2 σ2 s2 k=>h f H2 σ2 (s.trans s2) k
 | no=>exact h
section
variable{X:Cx}{st:C4}{ak a b:Z C4}{c:C3}{g h:Ev->Fl}{f:Zzu}{fs:Zzv}
def Vv:Ev->Fl:=λenv=>.next env
def Zf(g h:Ev->Fl):Ev->Fl:=λenv=>match g env with
 | .next env'=>h env'
 | r=>r
theorem Wg:Xs fr X [] Vv:=qv.weak λD σ H ⟨env,B,A,k,l,q⟩=>q A H σ (G0.refl A H) k
theorem Zb(h1:En fr X st g)(h2:Xs fr X ak h):Xs fr X (st::ak) (Zf g h):=(Uw h1 h2).weak λD σ H zz=>by
 obtain⟨env,B,A,k,l,q⟩:=zz;refine⟨env,B,A,k,l,?_⟩;unfold Zf at q;split at q
 ·rename_i env' e
  rw[e];exactλA' H' σ' s k'=>⟨env',B,A',k',l,q.step s⟩
 ·rename_i r hn
  cases e:g env with
  | next env'=>exact absurd e (hn env')
  | brk e'=>rw[e] at q;exact q
  | cont e'=>rw[e] at q;exact q
  | ret d=>rw[e] at q;exact q
  | exc e' c fs=>rw[e] at q;exact q
  | no=>rw[e] at q;exact q
theorem Zh(h1:En fr X st g):Xs fr X [st] g:=Sa h1
theorem j7:En fr X (.Continue pos) (λenv=>.cont env):=kY.weak λD σ H ⟨env,B,A,k,l,q⟩=>q A H σ (G0.refl A H) k
def Qt(t:Ev->C1 Bool)(g h:Ev->Fl):Ev->Fl:=λenv=>match t env with
 | some true=>g env
 | some false=>h env
 | none=>.no
theorem U6(hc:MK X c t)(ha:Xs fr X a g)(hb:Xs fr X b h):En fr X (.If c a b pos) (Qt t g h):=(lH hc ha hb).weak λD σ H zz=>by
 obtain⟨env,B,A,k,l,q⟩:=zz;unfold Qt at q;split at q
 ·rename_i e
  refine⟨env,B,A,true,k,e,λH' s=>?_⟩;exact YV ⟨env,B,A,k.mono s,l,q.step (G0.same s)⟩
 ·rename_i e
  refine⟨env,B,A,false,k,e,λH' s=>?_⟩;exact cF ⟨env,B,A,k.mono s,l,q.step (G0.same s)⟩
 ·exact q.elim
def Nh(f:Zzu):Ev->Fl:=λenv=>match f env with
 | some _=>.next env
 | none=>.no
theorem Cf(he:Yz m X e f)(hs:swapsWith e none pos.line X.env=pure false:=by rfl):En fr X (.Expr e pos) (Nh f):=(Qn he hs).weak λD σ H zz=>by
 obtain⟨env,B,A,k,l,q⟩:=zz;unfold Nh at q;split at q
 ·rename_i d e
  exact⟨env,B,A,d,k,e,λv H' s _=>q A H' σ (G0.same s) (k.mono s)⟩
 ·exact q.elim
def Yg(f:Zzu):Ev->Fl:=λenv=>match f env with
 | some d=>.ret d
 | none=>.no
theorem SX{d:Dat}{v:V}(k:F' X.K B A H σ env)(s:Zp H H')(r:Rp X.K (av H' A) d v):Zp B.H₀ H'/\Rp X.K (av H' B.R) d v:=⟨k.h0.trans s,r.mono (Ts k.ra)⟩
theorem Y7(he:Yz false X e f):En false X (.Return (some e) pos) (Yg f):=(UX he).weak λD σ H zz=>by
 obtain⟨env,B,A,k,l,q⟩:=zz;unfold Yg at q;split at q
 ·rename_i d e
  exact⟨env,B,A,d,k,e,λv H' s r=>q v H' (SX k s r).1 (SX k s r).2 (λz=>by cases z)⟩
 ·exact q.elim
theorem o6{p:A2}(k:F' X.K B A H σ env)(hz:ds.length<=sizeLine)(s:Zp H H')(hn:H p=none)(hp:H' p=some (.lst vs))(r:Wf X.K (av H' (ins A p)) ds vs):B.H₀ p=none/\B.R p=false/\Wf X.K (av H' (ins B.R p)) ds vs:=by
 have h0:B.H₀ p=none:=k.h0.free hn;refine⟨h0,?_,r.mono (Ts λa ha=>?_)⟩
 ·cases q:B.R p with
  | false=>rfl
  | true=>obtain⟨o,ho⟩:=k.r0 p q;rw[h0] at ho;cases ho
 ·rcases X3 ha with z | z
  ·exact Lm (k.ra a z)
  ·subst z;exact bE
theorem S5(he:MH X e fs):En fr X (.Return (some e) pos) (Yg (dL fs)):=(UX he).weak λD σ H zz=>by
 obtain⟨env,B,A,k,l,q⟩:=zz;unfold Yg at q;split at q
 ·rename_i d e
  obtain⟨ds,e1,e2⟩:=map_some e;subst e2;refine⟨env,B,A,ds,k,e1,λp vs H' hz s hn hp r=>?_⟩;obtain⟨h1,h2,h3⟩:=o6 k hz s hn hp r;refine q (.ref p) H' (k.h0.trans s) (Gu hz (.inl (.inl (Ws hp h2))) (h3.mono (Ts λa ha=>Lm ha))) λ_ ds' G=>?_
  cases G;exact⟨p,vs,rfl,h1,hp,hz,h3⟩
 ·exact q.elim
theorem Xr{s:LH}(h:∀ (j:Nat) d,env[j]?≠some (.pk d))(hs:∀ d,s≠.pk d):∀ (j:Nat) d,(env.set i s)[j]?≠some (.pk d):=λj d=>by
 rw[BB];split
 ·split
  ·intro z;exact hs d (BF z)
  ·intro z;cases z
 ·exact h j d
theorem F'.own(k:F' K B A H σ env)(l:B.st=true)(h:env[i]?=some (.ow ds)) :
  ∃ a vs,σ[i]?=some (some (.ref a))/\H a=some (.lst vs)/\Wf K (av H A) ds vs/\ds.length<=sizeLine/\A a=true/\B.R a=false/\B.H₀ a=none /\
   (∀ ds' c,ds'.length<=sizeLine->Wf K (av H A) ds' c->G0 A H A (Yr H a (.lst c))/\F' K B A (Yr H a (.lst c)) σ (env.set i (.ow ds'))) /\
   G0 A H (λb=>A b&&b != a) H/\F' K B (λb=>A b&&b != a) H σ (env.set i (.fz (.lst ds))):=by
 obtain⟨own,h1,h2,h4⟩:=k.sl;obtain⟨x,M,a,vs,e1,e2,hz,e3,e4⟩:=h4 i _ h;subst e1;obtain⟨hA,hR⟩:=h2 i a e2;have h0:B.H₀ a=none:=by
  rcases k.ar a hA with z | z
  ·rw[z] at hR;cases hR
  ·exact z
 have m:∀ c,Zp (av H A) (av (Yr H a (.lst c)) A):=λc b o e=>by
  obtain⟨z1,z2⟩:=Q1 e;have hb:b≠a:=by intro z;rw[z,hA] at z1;cases z1
  exact Ws (by rw[Zc hb];exact z2) z1
 refine⟨a,vs,M,e3,e4,hz,hA,hR,h0,λds' c r r'=>⟨⟨λb o hb n=>?_,λb hb=>.inl hb⟩,?_⟩,⟨λb o hb _=>hb,λb hb=>.inl ?_⟩,?_⟩
 ·have hn:b≠a:=by intro z;rw[z,hA] at n;cases n
  rw[Zc hn];exact hb
 ·refine⟨λb o hb=>?_,k.r0,k.ra,k.ar,λb hb=>?_,by rw[BJ];exact k.len,λhs j d'=>Xr (k.np hs) (λ_ z=>by cases z) j d',own,h1,h2,λj s e=>?_⟩
  ·have hn:b≠a:=Y8 hb h0
   rw[Zc hn];exact k.h0 b o hb
  ·by_cases hn:b=a
   ·subst hn;rw[Zg];trivial
   ·rw[Zc hn];exact k.mu b hb
  ·by_cases hj:i=j
   ·subst hj
    rw[BB,AF rfl] at e;split at e
    ·cases e
     exact⟨_,M,a,c,rfl,e2,r,Zg,r'.mono (m c)⟩
    ·cases e
   ·rw[BB,AL hj] at e
    obtain⟨x,p1,p2⟩:=h4 j s e;refine⟨x,p1,?_⟩;cases s with
    | un=>trivial
    | fz d=>obtain⟨v,z1,z2⟩:=p2;exact⟨v,z1,z2.mono (m c)⟩
    | pk d =>
     exact absurd e (k.np l j d)
    | ow es =>
     obtain⟨b,us,z1,z2,W,z4,z5⟩:=p2;have hn:b≠a:=λz=>hj (h1 i j a e2 (z▸z2))
     exact⟨b,us,z1,z2,W,by rw[Zc hn];exact z4,z5.mono (m c)⟩
    | gx g =>
     obtain⟨v,z1,z2⟩:=p2;exact⟨v,z1,z2.frame (λ_ z=>z) (λb x ob z=>by
      have hn:b≠a:=λw=>hj (h1 i j a e2 (w▸ob))
      rw[Zc hn];exact z) (m c)⟩
 ·rw[AY] at hb;exact hb.1
 ·have less:Zp (av H A) (av H λb=>A b&&b != a):=Ts λb hb=>by rw[AY] at hb;exact hb.1
  refine⟨k.h0,k.r0,λb hb=>?_,λb hb=>?_,λb hb=>?_,by rw[BJ];exact k.len,λhs j d'=>Xr (k.np hs) (λ_ z=>by cases z) j d',λj b=>j≠i/\own j b,λj u b z J=>h1 j u b z.2 J.2,λj b z=>?_,λj s e=>?_⟩
  ·have hn:b≠a:=by intro z;rw[z,hR] at hb;cases hb
   simp[k.ra b hb,hn]
  ·rw[AY] at hb;exact k.ar b hb.1
  ·rw[AY] at hb;exact k.mu b hb.1
  ·have hn:b≠a:=λw=>z.1 (h1 j i a (w▸z.2) e2)
   simp[(h2 j b z.2).1,(h2 j b z.2).2,hn]
  ·by_cases hj:i=j
   ·subst hj
    rw[BB,AF rfl] at e;split at e
    ·cases e
     exact⟨_,M,.ref a,rfl,Gu hz (.inl (.inl (Ws e3 (by simp)))) (e4.mono less)⟩
    ·cases e
   ·rw[BB,AL hj] at e
    obtain⟨x,p1,p2⟩:=h4 j s e;refine⟨x,p1,?_⟩;cases s with
    | un=>trivial
    | fz d=>obtain⟨v,z1,z2⟩:=p2;exact⟨v,z1,z2.mono less⟩
    | pk d =>
     obtain⟨v,z1,z2⟩:=p2;refine⟨v,z1,?_⟩;rcases z2 with z2 | ⟨b,us,es,y1,y2,y3,y4,y5⟩ | z2
     ·exact .inl (z2.mono less)
     ·exact .inr (.inl ⟨b,us,es,y1,y2,y3,y4,y5.mono less⟩)
     ·exact .inr (.inr z2)
    | ow es =>
     obtain⟨b,us,z1,z2,W,z4,z5⟩:=p2;exact⟨b,us,z1,⟨AO hj,z2⟩,W,z4,z5.mono less⟩
    | gx g =>
     obtain⟨v,z1,z2⟩:=p2;exact⟨v,z1,z2.frame (λ_ z=>⟨AO hj,z⟩) (λ_ _ _ z=>z) less⟩
def Kz(i:Nat):Ev->Fl:=λenv=>match env[i]? with
 | some (.ow ds)=>.ret (.lst ds)
 | _=>.no
theorem Xq(i:Nat){x:Str}(hN:X.N[i]?=some x:=by rfl)(hv:MN X.env.scope x:=by ext)(hd:C2 x:=by decide)
  (af:(x==("__classdict__" : Str))=false:=by decide):En fr X (.Return (some (.Name x p)) pos) (Kz i):=(UX (Jm hN hv hd af)).weak λD σ H zz=>by
 obtain⟨env,B,A,k,l,q⟩:=zz;unfold Kz at q;split at q
 ·rename_i ds e
  obtain⟨a,vs,h1,h2,h3,hz,hA,hR,h0,_⟩:=k.own l e;have less:∀ b,ins B.R a b=true->A b=true:=λb hb=>by
   rcases X3 hb with z | z
   ·exact k.ra b z
   ·rw[z];exact hA
  have r:=h3.mono (Ts (H:=H) less);refine⟨.ref a,h1,q (.ref a) H k.h0 (Gu hz (.inl (.inl (Ws h2 hR))) (r.mono (Ts λb hb=>Lm hb))) λ_ ds' G=>?_⟩;cases G;exact⟨a,vs,rfl,h0,h2,hz,r⟩
 ·exact q.elim
def Y2(i:Nat)(f:Zzu):Ev->Fl:=λenv=>match f env with
 | some d=>.next (env.set i (.fz d))
 | none=>.no
def Ex(i:Nat)(f:Zzv):Ev->Fl:=λenv=>match f env with
 | some ds=>.next (env.set i (.ow ds))
 | none=>.no
theorem F'.putO(k:F' K B A H σ env)(l:B.st=true)(i:Nat){p:A2}(hz:ds.length<=sizeLine)(s:Zp H H')(hn:H p=none)(hp:H' p=some (.lst vs))(r:Wf K (av H' (ins A p)) ds vs) :
  G0 A H (ins A p) H'/\F' K B (ins A p) H' (σ.set i (some (.ref p))) (env.set i (.ow ds)):=by
 have st:G0 A H (ins A p) H':=⟨λa o h _=>s a o h,λa h=>by
  rcases X3 h with z | z
  ·exact .inl z
  ·rw[z];exact .inr hn⟩
 have m:A p=false:=k.mu.new hn;have h0:B.H₀ p=none:=k.h0.free hn;obtain⟨own,h1,h2,h4⟩:=k.sl;refine⟨st,k.h0.trans s,k.r0,λa h=>Lm (k.ra a h),λa h=>?_,λa h=>?_,by rw[BJ,BJ];exact k.len,λhs j d'=>Xr (k.np hs) (λ_ z=>by cases z) j d',
  λj a=>(j≠i/\own j a)\/(j=i/\a=p),λj u a z J=>?_,λj a z=>?_,λj sl e=>?_⟩
 ·rcases X3 h with z | z
  ·exact k.ar a z
  ·rw[z];exact .inr h0
 ·rcases X3 h with z | z
  ·exact k.mu.mono s a z
  ·rw[z,hp];trivial
 ·rcases z with z | z<;>rcases J with J | J
  ·exact h1 j u a z.2 J.2
  ·have:=(h2 j a z.2).1;rw[J.2,m] at this;cases this
  ·have:=(h2 u a J.2).1;rw[z.2,m] at this;cases this
  ·rw[z.1,J.1]
 ·rcases z with z | z
  ·exact⟨Lm (h2 j a z.2).1,(h2 j a z.2).2⟩
  ·refine⟨by rw[z.2];exact bE,?_⟩
   cases q:B.R a with
   | false=>rfl
   | true=>obtain⟨o,ho⟩:=k.r0 a q;rw[z.2,h0] at ho;cases ho
 ·by_cases hj:i=j
  ·subst hj
   rw[BB,AF rfl] at e;split at e
   ·rename_i hl
    cases e;exact⟨some (.ref p),by rw[BB,AF rfl,AF (by rw[k.len];exact hl)],p,vs,rfl,.inr ⟨rfl,rfl⟩,hz,hp,r⟩
   ·cases e
  ·rw[BB,AL hj] at e
   obtain⟨x,p1,p2⟩:=h4 j sl e;refine⟨x,by rw[BB,AL hj];exact p1,?_⟩;cases sl with
   | un=>trivial
   | fz d=>obtain⟨v,z1,z2⟩:=p2;exact⟨v,z1,z2.mono st.av⟩
   | pk d=>exact absurd e (k.np l j d)
   | ow es =>
    obtain⟨b,us,z1,z2,W,z4,z5⟩:=p2;exact⟨b,us,z1,.inl ⟨AO hj,z2⟩,W,s _ _ z4,z5.mono st.av⟩
   | gx g =>
    obtain⟨v,z1,z2⟩:=p2;exact⟨v,z1,z2.frame (λ_ z=>.inl ⟨AO hj,z⟩) (λb x _ z=>s b x z) st.av⟩
theorem Zu(i:Nat){x:Str}(hN:X.N.Nodup)(he:Yz false X e f)(hi:X.N[i]?=some x:=by rfl)(hx:LZ X.env.scope x:=by ext)(hs:swapsWith e (some (.Name x am)) pos.line X.env=pure false:=by rfl)
  (hf:X.fn x=true\/X.env.scope.names.lookup x=some .local:=by ext):En fr X (.Assign [.Name x am] e pos) (Y2 i f):=(L0 hN hi hx he hs hf).weak λD σ H zz=>by
 obtain⟨env,B,A,k,l,q⟩:=zz;unfold Y2 at q;split at q
 ·rename_i d e
  exact⟨env,B,A,d,k,e,λv H' s r=>q A H' _ (G0.same s) ((k.mono s).put i r)⟩
 ·exact q.elim
theorem Sl(i:Nat){x:Str}(hN:X.N.Nodup)(he:MH X e fs)(hi:X.N[i]?=some x:=by rfl)(hx:LZ X.env.scope x:=by ext)(hs:swapsWith e (some (.Name x am)) pos.line X.env=pure false:=by rfl)
  (hf:X.fn x=true\/X.env.scope.names.lookup x=some .local:=by ext):En fr X (.Assign [.Name x am] e pos) (Ex i fs):=(L0 hN hi hx he hs hf).weak λD σ H zz=>by
 obtain⟨env,B,A,k,l,q⟩:=zz;unfold Ex at q;split at q
 ·rename_i ds e
  refine⟨env,B,A,ds,k,e,λp vs H' hz s hn hp r=>?_⟩;obtain⟨h1,h2⟩:=k.putO l i hz s hn hp r;exact q _ H' _ h1 h2
 ·exact q.elim
variable{gg:Dat->Ev->C1 Ev}{tt:Ev->C1 Bool}
theorem Ci(i:Nat){x:Str}(hN:X.N.Nodup)(ap:Fn)(fs:Z (C1 Nat))(N:Z Str)(hp:X.env.scope=ap)(hc:X.calm=true)(hi:ND false X tg iter src)
  (hb:∀ (C:A2) (s:A4) (H:Hp) (fp:Z A2),NK is (W3 X sc N C s H fp) tg gg/\OX (W3 X sc N C s H fp) ay tt/\Yz false (W3 X sc N C s H fp) az f)
  (c:∀ i∈is,fs[i]?=some none) (E:X.N[i]?=some x:=by rfl) (hx:LZ X.env.scope x:=by ext) (S:CompOk ap sc X.N N fs:=by exact CompOk.of (by kernel_rfl!)) (hs:∀ x,foldedSetIterable iter X.env x=pure x:=by intro _;rfl) (ai:swapsWith (.ListComp az [⟨tg,iter,ay,0⟩] sc pos) (some (.Name x am)) aD.line X.env=pure true:=by rfl)
  (hf:X.fn x=true\/X.env.scope.names.lookup x=some .local:=by ext) :
  En fr X (.Assign [.Name x am] (.ListComp az [⟨tg,iter,ay,0⟩] sc pos) aD) (Y2 i (dL (Vn src fs gg tt f))):=(Xp (g:=λv σ H Q=>∃ env R A d env',F' X.K R A H σ env/\Rp X.K (av H A) d v/\gg d env=some env'/\∀ σ',F' X.K R A H σ' env'->O4 is σ σ'->Q σ' H) (tt:=λσ H Q=>∃ env R A b,F' X.K R A H σ env/\tt env=some b/\∀ H',Zp H H'->Q b H') (te:=λσ H Q=>∃ env R A d,F' X.K R A H σ env/\f env=some d/\T7 false X.K A H d Q) hN E hx ap fs N hp S hc hi hb hs ai hf).weak λD σ H zz=>by
 obtain⟨env,B,A,k,l,q⟩:=zz;unfold Y2 at q;split at q
 ·rename_i d e
  obtain⟨ys,e',G⟩:=map_some e;subst G;obtain⟨ds,e1,e2⟩:=bind_some e';have W:T7 false X.K A H (.lst ys) (λv H'=>D.nx (σ.set i (some v)) H'):=λv H' s r=>q A H' _ (G0.same s) ((k.mono s).put i r)
  exact⟨env,B,A,ds,k,e1,λJ H1 hz s1 Y=>dN (Q:=λv H'=>D.nx (σ.set i (some v)) H') c (k.mono s1) Y hz e2 ((W.new k.mu).mono s1)⟩
 ·exact q.elim
def RJ(f:Zzu)(g:Dat->Ev->C1 Ev):Ev->Fl:=λenv=>match (f env).bind λd=>g d env with
 | some env'=>.next env'
 | none=>.no
theorem mV{g:Dat->Ev->C1 Ev}(he:Yz false X e f)(hg:NK is X tg g)(hs:swapsWithSole [tg] e pos.line X.env=pure false:=by rfl)(hw:swappedStores [tg] e X.env=pure none:=by rfl)(h1:(assignEach [tg] X.env).map (·.2)=[assign tg X.env]:=by rfl):En fr X (.Assign [tg] e pos) (RJ f g):=(dw he hg hs hw h1).weak λD σ H zz=>by
 obtain⟨env,B,A,k,l,q⟩:=zz;unfold RJ at q;split at q
 ·rename_i env' e
  obtain⟨d,e1,e2⟩:=bind_some e;exact⟨env,B,A,d,k,e1,λv H' s r=>⟨env,B,A,d,env',k.mono s,r,e2,λσ' k' _=>q A H' σ' (G0.same s) k'⟩⟩
 ·exact q.elim
def Oe(g:Dat->Ev->C1 Ev)(body:Ev->Fl):Z Dat->Ev->Fl
 | [],env=>.next env
 | x::xs,env=>match g x env with
  | none=>.no
  | some n=>match body n with
   | .next e=>Oe g body xs e
   | .cont e=>Oe g body xs e
   | .brk e=>.next e
   | .ret d=>.ret d
   | .exc e c fs=>.exc e c fs
   | .no=>.no
def Uy(src:Zzv)(g:Dat->Ev->C1 Ev)(body:Ev->Fl):Ev->Fl:=λenv=>match src env with
 | none=>.no
 | some ds=>Oe g body ds env
theorem U2(hp:PassesOwn (model X.prog X.w) X.A X.env X.xe)(hc:X.calm=true)(hi:ND true X tg iter src)(hg:NK is X tg gg)(hb:Xs fr X body g)
  (hs:∀ x,foldedSetIterable iter X.env x=pure x:=by intro _;rfl):En fr X (.For tg iter body [] pos) (Uy src gg g):=(nX hp hc hi hg hb hs).weak λD σ H zz=>by
 obtain⟨env,B,A,k,l,q⟩:=zz;unfold Uy at q;split at q
 ·exact q.elim
 rename_i ds e;refine⟨env,B,A,ds,k,e,λJ H1 hz s1 Y=>?_⟩;refine⟨λi m σ' H'=>m=ds.length - i/\i<=ds.length/\∃ A' env',G0 A H1 A' H'/\F' X.K B A' H' σ' env'/\K5 fr X B A' H' D (Oe gg g (ds.drop i) env'),
  ⟨ds.length,by simp,CP _,A,env,G0.refl A H1,k.mono s1,by simpa using q.step (G0.same s1)⟩,?_⟩
 rintro i m σ' H' ⟨rfl,E,A',env',s',k',W⟩;obtain⟨C,s⟩:=Y A' H' s' k'.mu;by_cases ae:i<ds.length
 ·obtain⟨go,yl⟩:=C i _ (show ds[i]?=some ds[i] by simp[ae])
  refine .inr ⟨go,λσ2 H2=>i+1<=ds.length/\∃ f a,G0 A H1 f H2/\F' X.K B f H2 σ2 a/\K5 fr X B f H2 D (Oe gg g (ds.drop (i+1)) a),λσ2 H2 z=>⟨ds.length - (i+1),by lia,rfl,z⟩,λx H2 hy=>?_⟩;obtain⟨s2,S⟩:=yl x H2 hy;rw[EN ae,Oe] at W;split at W
  ·exact W.elim
  rename_i n e1;refine⟨env',B,A',ds[i],n,k'.mono s2,S,e1,λσ3 k3 _=>⟨n,B,A',k3,l,?_⟩⟩;have j:G0 A' H' A' H2:=G0.same s2;split at W
  ·rename_i e2 F
   rw[F];exactλb H4 σ4 s4 h=>⟨ae,b,e2,s'.trans (j.trans s4),h,W.step (j.trans s4)⟩
  ·rename_i e2 F
   rw[F];exactλb H4 σ4 s4 h=>⟨ae,b,e2,s'.trans (j.trans s4),h,W.step (j.trans s4)⟩
  ·rename_i e2 F
   rw[F];exactλb H4 σ4 s4 h=>W b H4 σ4 (j.trans s4) h
  ·rename_i d F
   rw[F];exact W
  ·rename_i e2 c2 f2 F
   rw[F];exactλb H4 σ4 s4 h=>W b H4 σ4 (j.trans s4) h
  ·exact W.elim
 ·have e:i=ds.length:=by lia
  subst e;rw[List.drop_length,Oe] at W;exact .inl ⟨s,W A' H' σ' (G0.refl _ _) k'⟩
def V1(t:Ev->C1 Bool)(body:Ev->Fl):Nat->Ev->Fl
 | 0,_=>.no
 | n+1,env=>match t env with
  | none=>.no
  | some false=>.next env
  | some true=>match body env with
   | .next e=>V1 t body n e
   | .cont e=>V1 t body n e
   | .brk e=>.next e
   | .ret d=>.ret d
   | .exc e c fs=>.exc e c fs
   | .no=>.no
theorem Ur{body:Ev->Fl}:∀ {n:Nat} {env:Ev} (k:Nat),V1 t body n env≠.no->V1 t body (n+k) env=V1 t body n env
 | 0,env,k,h=>absurd rfl h
 | n+1,env,k,h=>by
  rw[show n+1+k=(n+k)+1 by lia];simp only[V1] at h ⊢;split
  ·rfl
  ·rfl
  ·rename_i e1
   simp only[e1] at h;split
   ·rename_i e2 F;simp only[F] at h;exact Ur k h
   ·rename_i e2 F;simp only[F] at h;exact Ur k h
   ·rfl
   ·rfl
   ·rfl
   ·rfl
open Classical in
def D7(t:Ev->C1 Bool)(body:Ev->Fl):Ev->Fl:=λenv=>if h:∃ n,V1 t body n env≠.no then V1 t body (Classical.choose h) env else .no
theorem Bh{body:Ev->Fl}{n:Nat}(h:V1 t body n env≠.no):D7 t body env=V1 t body n env:=by
 unfold D7;have hx:∃ n,V1 t body n env≠.no:=⟨n,h⟩;rw[dif_pos hx];have hc:=Classical.choose_spec hx;have e1:=Ur n hc;have e2:=Ur (Classical.choose hx) h;rw[← e1,← e2,Nat.add_comm]
theorem bi(hp:PassesOwn (model X.prog X.w) X.A X.env X.xe)(hc:MK X c t)(hb:Xs fr X body g):En fr X (.While c body [] pos) (D7 t g):=(jl hp hc hb).weak λD σ H zz=>by
 obtain⟨env,B,A,k,l,q⟩:=zz;unfold D7 at q;split at q
 ·rename_i hx
  refine⟨λn σ' H'=>∃ A' env',F' X.K B A' H' σ' env'/\K5 fr X B A' H' D (V1 t g n env'),⟨_,A,env,k,q⟩,?_⟩;rintro n σ' H' ⟨A',env',k',W⟩;cases n with
  | zero=>exact W.elim
  | succ n =>
   rw[V1] at W;split at W
   ·exact W.elim
   ·rename_i e1
    refine⟨env',B,A',false,k',e1,λH1 s1=>?_⟩;refine cF ?_;exact W A' H1 σ' (G0.same s1) (k'.mono s1)
   ·rename_i e1
    refine⟨env',B,A',true,k',e1,λH1 s1=>?_⟩;refine YV ?_;refine⟨λσ2 H2=>∃ f a,F' X.K B f H2 σ2 a/\K5 fr X B f H2 D (V1 t g n a),λσ2 H2 z=>⟨n,DK n,z⟩,env',B,A',k'.mono s1,l,?_⟩;have j:G0 A' H' A' H1:=G0.same s1;split at W
    ·rename_i e2 F
     rw[F];exactλb H4 σ4 s4 h=>⟨b,e2,h,W.step (j.trans s4)⟩
    ·rename_i e2 F
     rw[F];exactλb H4 σ4 s4 h=>⟨b,e2,h,W.step (j.trans s4)⟩
    ·rename_i e2 F
     rw[F];exactλb H4 σ4 s4 h=>W b H4 σ4 (j.trans s4) h
    ·rename_i d F
     rw[F];exact W
    ·rename_i e2 c2 f2 F
     rw[F];exactλb H4 σ4 s4 h=>W b H4 σ4 (j.trans s4) h
    ·exact W.elim
 ·exact q.elim
def TR(X:Cx)(id:String)(F:Z Dat->Z Dat->C1 (Z Dat)):Prop:=MX X id (λv us H Q=>∃ A a vs ds as ds',Ul A H/\v=.ref a/\H a=some (.lst vs)/\Wf X.K (av H A) ds vs/\L1 false X.K A H as us/\F ds as=some ds'/\∀ w c,ds'.length<=sizeLine->Wf X.K (av H A) ds' c->Q w (Yr H a (.lst c)))
def Sn(i:Nat)(F:Z Dat->Z Dat->C1 (Z Dat))(fs:Zzv):Ev->Fl:=λenv=>match env[i]? with
 | some (.ow ds)=>match (fs env).bind λas=>F ds as with
  | some ds'=>.next (env.set i (.ow ds'))
  | none=>.no
 | _=>.no
theorem D9(i:Nat){x:Str}{id:String}{F:Z Dat->Z Dat->C1 (Z Dat)}(slot:Slot "list" name id)(n:typeOf (.builtin id)=pure (.type "method_descriptor"))(hm:TR X id F)(ha:O1 false X (e::es) fs)
  (hN:X.N[i]?=some x:=by rfl) (hv:MN X.env.scope x:=by ext) (hd:C2 x:=by decide) (af:(x==("__classdict__" : Str))=false:=by decide)
  (ai:swapsWith (.Call (.Attribute (.Name x p) name aw) (e::es) [] al) none pos.line X.env=pure false:=by rfl)
  (u:attributeBase (.Name x p) name X.env (eval (.Name x p) X.env)=eval (.Name x p) X.env:=by rfl)
  (ag:((backTo al (starEach (e::es) X.env)).all (λx=>!x.1)&&(backToKw al (keywordEach [] X.env)).all (λx=>x.1.isSome)
   && decide ((e::es).length+([]:Z Keyword).length+(if([]:Z Keyword).isEmpty then 0 else 1)<30))=true:=by rfl)
  (S:(aw.endLine==al.line)=true:=by rfl) (hs:Z0 X.env e es:=by rfl) (E:Z1 al X.env es:=by rfl) :
  En fr X (.Expr (.Call (.Attribute (.Name x p) name aw) (e::es) [] al) pos) (Sn i F fs):=(Qn (SN EV slot n hm (Jm hN hv hd af) ha u ag S hs E) ai).weak λD σ H zz=>by
 obtain⟨env,B,A,k,l,q⟩:=zz;unfold Sn at q;split at q
 ·rename_i ds e
  split at q
  ·rename_i ds' e2
   obtain⟨as,e3,e4⟩:=bind_some e2;obtain⟨a,vs,h1,h2,h3,_⟩:=k.own l e;refine⟨.ref a,h1,.inl ⟨rfl,vs,Dd.of h2⟩,env,B,A,as,k,e3,λus H2 s2 rs=>?_⟩;have k2:=k.mono s2;obtain⟨r,c,g1,g2,g3,_,_,_,_,Y,_⟩:=k2.own l e;rw[h1] at g1;cases g1;refine⟨A,a,c,ds,as,ds',k2.mu,rfl,g2,g3,rs,e4,λw g hz r2=>?_⟩;obtain⟨z1,z2⟩:=Y ds' g hz r2;exact q A _ σ ((G0.same s2).trans z1) z2
  ·exact q.elim
 ·exact q.elim
def Ug:Z Dat->Z Dat->C1 (Z Dat)
 | ds,[d]=>if ds.length<sizeLine then some (ds++[d]) else none
 | _,_=>none
theorem Dh:TR X "list.append" Ug:=MX.weak (id:="list.append") B6 λv us H Q zz=>by
 obtain⟨A,a,vs,ds,as,ds',mu,e1,h1,r1,r2,e2,q⟩:=zz;unfold Ug at e2;split at e2
 ·rename_i d
  split at e2
  ·rename_i hl
   cases e2;obtain⟨w,I,e3,T,e4⟩:=r2;refine⟨a,vs,w,e1,by rw[e3,show I=[] from e4],h1,by rw[Zw r1];exact hl,q _ _ (by simp;lia) (Wq r1 (Jz T))⟩
  ·cases e2
 ·cases e2
end
variable{g:Ev->Fl}
inductive Rs where
 | ok (d:Dat) | exc (c:Str) (fs:List (Str×XD)) | no
def Ui(n:Nat)(ds:Z Dat):Ev:=ds.map .fz++List.replicate (n - ds.length) .un
def Y9(n p:Nat)(g:Ev->Fl):Z Dat->Rs:=λds=>if ds.length=p then(match g (Ui n ds) with
 | .ret d=>.ok d
 | .next _=>.ok .non
 | .exc _ c fs=>.exc c fs
 | _=>.no) else .no
def VY(K:G8)(fr:Bool)(p:Nat)(F:Z Dat->Rs):Sp:=λvs H Q _=>vs.length=p/\∃ ds R d,Ul R H/\Wf K (av H R) ds vs/\F ds=.ok d/\∀ v H',Zp H H'->Rp K (av H' R) d v->(fr=true->UK K ⟨H,R,true⟩ H' d v)->Q v H'
structure NN (P:Program) (w:World) (K:G8) (mg:J') (base:Heap) (k:Nat) (x:Str) (ps:List Str) (fr:Bool) (F:List Dat->Rs):Prop where
 cal:VU P w K mg base k x ps (VY K fr ps.length F)
 len:∀ ds d,F ds=.ok d->ds.length=ps.length
theorem RE.some{o:C1 HO}(h:RE o):∃ u,o=Option.some u:=by
 cases o with
 | none=>exact h.elim
 | some u=>exact⟨u,rfl⟩
theorem K1{R:AS}{N:Z Str}(mu:Ul R H)(r:Wf K (av H R) ds vs)(hl:ds.length<=N.length):F' K ⟨H,R,true⟩ R H (G' N vs) (Ui N.length ds):=by
 have hn:=Zw r;refine⟨Zp.refl H,λa h=>(mu a h).some,λ_ h=>h,λ_ h=>.inl h,mu,by simp[G',Ui];lia,λ_ i d=>?_,λ_ _=>False,λ_ _ _ h=>h.elim,λ_ _ h=>h.elim,λi s e=>?_⟩
 ·unfold Ui
  rw[List.getElem?_append];split
  ·rw[AM]
   cases ds[i]?<;>simp
  ·rw[FS]
   split<;>simp
 ·unfold Ui at e
  unfold G';rw[List.getElem?_append] at e ⊢;simp only[AD] at e ⊢;rw[hn];split at e
  ·rename_i hi
   rw[AF hi];rw[AM] at e ⊢;cases hd:ds[i]? with
   | none=>rw[hd] at e;cases e
   | some d =>
    rw[hd] at e;cases e;obtain⟨v,h1,h2⟩:=Re r hd;rw[h1];exact⟨some v,rfl,v,rfl,h2⟩
  ·rename_i hi
   rw[AL hi];rw[FS] at e ⊢;split at e
   ·rename_i h2
    cases e;rw[AF h2];exact⟨none,rfl,trivial⟩
   ·cases e
theorem Pz{X:Cx}{N:Z Str}{p:Nat}{d:Dat}{R:AS}{Q:VK}(hp:p<=N.length)(mu:Ul R H)(r:Wf X.K (av H R) ds vs)(M:Y9 N.length p g ds=.ok d)
  (q:∀ v H',Zp H H'->Rp X.K (av H' R) d v->(fr=true->UK X.K ⟨H,R,true⟩ H' d v)->Q v H') :
  tS fr X g (KX.mk (λ_ H'=>Q .non H') Q (λ_ _=>False) (λ_ _=>False)) (G' N vs) H:=by
 unfold Y9 at M;split at M
 ·rename_i hl
  refine⟨Ui N.length ds,⟨H,R,true⟩,R,K1 mu r (by lia),rfl,?_⟩;split at M
  ·rename_i d' e
   cases M;rw[e];exactλv H' s r n=>q v H' s r n
  ·rename_i env e
   cases M;rw[e];exactλA' H' σ' s k=>q .non H' k.h0 Ln (λ_ ds e=>by cases e)
  ·cases M
  ·cases M
 ·cases M
section
variable{P:Df}{w:D1}{K:G8}{mg:J'}{base:Ff}
theorem cj{n p:Nat}{d:Dat}(h:Y9 n p g ds=.ok d):ds.length=p:=by
 unfold Y9 at h;split at h
 ·assumption
 ·cases h
theorem qi{P:Z α->Prop}(us:Z α)(hl:us.length=0)(h:P []):P us:=by cases us with | nil=>exact h | cons _ _=>cases hl
@[elab_as_elim] theorem NA{P:Z α->Prop}(us:Z α)(hl:us.length=1)(h:∀ a,P [a]):P us:=by
 cases us with
 | nil=>cases hl
 | cons a us=>exact qi (P:=λus=>P (a::us)) us (HI hl) (h a)
@[elab_as_elim] theorem LM{P:Z α->Prop}(us:Z α)(hl:us.length=2)(h:∀ a b,P [a,b]):P us:=by
 cases us with
 | nil=>cases hl
 | cons a us=>exact NA (P:=λus=>P (a::us)) us (HI hl) (h a)
@[elab_as_elim] theorem MR{P:Z α->Prop}(us:Z α)(hl:us.length=3)(h:∀ a b c,P [a,b,c]):P us:=by
 cases us with
 | nil=>cases hl
 | cons a us=>exact LM (P:=λus=>P (a::us)) us (HI hl) (h a)
@[elab_as_elim] theorem NG{P:Z α->Prop}(us:Z α)(hl:us.length=4)(h:∀ a b c d,P [a,b,c,d]):P us:=by
 cases us with
 | nil=>cases hl
 | cons a us=>exact MR (P:=λus=>P (a::us)) us (HI hl) (h a)
@[elab_as_elim] theorem df{P:Z α->Prop}(us:Z α)(hl:us.length=5)(h:∀ a b c d e,P [a,b,c,d,e]):P us:=by
 cases us with
 | nil=>cases hl
 | cons a us=>exact NG (P:=λus=>P (a::us)) us (HI hl) (h a)
@[elab_as_elim] theorem q5{P:Z α->Prop}(us:Z α)(hl:us.length=6)(h:∀ a b c d e f,P [a,b,c,d,e,f]):P us:=by
 cases us with
 | nil=>cases hl
 | cons a us=>exact df (P:=λus=>P (a::us)) us (HI hl) (h a)
theorem Yo{x:Str}{st:C4}{N:Z Str}(D:NZ K mg x st)(S:FnScope N ps (Z7 st))
  (j:dV x st ps)
  (hb:∀ (f:A2) (aj:A1) (A:C0) (outer:Z Gf) (s:A4) (H:Hp) (E:XK),G2 k (A.deeper (envOfC x (Z7 st) s.heap.objs.size f aj))->Xs fr (T6 Et P w K mg base N x (Z7 st) f aj A outer s H E).nox (Yb st) g) :
  NN P w K mg base (k+1) x ps fr (Y9 N.length ps.length g):=by
 have ac:ps.length<=N.length:=by have:=DY List.length S.pre;rw[CM] at this;lia
 refine⟨kh D S j (λvs H Q E h=>h.1) λf aj A outer s H vs Q E hr ⟨hl,ds,R,d,mu,r,M,q⟩=>⟨_,hb f aj A outer s H E hr,?_⟩,λds d h=>cj h⟩;exact Pz ac mu r M q
def QS(K:G8):Sp:=λvs H Q _=>∃ (a:A2) (ns:Z Int),vs=[.ref a]/\SL K H a (ns.map V.int)/\ns.length<=63/\∀ H',Q (.bl true) H'
theorem l6{x:Str}{st:C4}{f:A2}{N:Z Str}(F:LY K x x st f fd)(S:FnScope N ps (Z7 st))(l:ps.length=1)
  (hb:∀ (aj:A1) (A:C0) (outer:Z Gf) (s:A4) (H:Hp) (E:XK),G2 k (A.deeper (envOfC x (Z7 st) s.heap.objs.size f aj))->Xs false (T6 Et P w K mg base N x (Z7 st) f aj A outer s H E).nox (Yb st) g)
  (b:∀ ns:Z Int,ns.length<=63->Y9 N.length 1 g [.lst (ns.map .int)]=.ok (.bl true)):J3 P w K mg base Et (k+1) f fd ps (QS K):=by
 have ac:ps.length<=N.length:=by have:=DY List.length S.pre;rw[CM] at this;lia
 refine ig F S (λvs H Q E ⟨a,ns,e,_⟩=>by rw[e,l];rfl) λaj A outer s H vs Q E hr ⟨a,ns,e,hS,hl,q⟩=>⟨_,hb aj A outer s H E hr,?_⟩
 subst e;refine Pz (R:=no) (d:=.bl true) (by lia) (λa h=>by cases h) (ds:=[.lst (ns.map .int)]) ?_ (b ns hl) λv H' _ r _=>by rw[O3 r];exact q H'
 rw[SV];refine Jz (Gu ?_ hS (Mx ns));rw[AD];exact DX (U5 (by lia))
variable{X:Cx}{m:Bool}{fr:Bool}{F:Z Dat->Rs}{k:Nat}{x:Str}{ps:Z Str}{e:C3}{es:Z C3}{fs:Zzv}{p pos:Pos}
def VM:Rs->C1 Dat
 | .ok d=>some d
 | _=>none
theorem K3{r:Rs}{d:Dat}(h:VM r=some d):r=.ok d:=by cases r<;>cases h;rfl
def Zq(F:Z Dat->Rs)(fs:Zzv):Ev->C1 Dat:=λenv=>(fs env).bind λds=>VM (F ds)
theorem bz(C:NN X.prog X.w X.K X.mg X.base k x ps fr F)(hr:G2 k X.A)(ha:O1 false X (e::es) fs)(hg:Gl X x:=by rfl)
  (P:C2 x:=by decide) (he:Z0 X.env e es:=by rfl) (ac:Z1 pos X.env es:=by rfl) :
  Yz m X (.Call (.Name x p) (e::es) [] pos) (Zq F fs):=Yz.any ((jZ C.cal hr ha hg P he ac).weak λσ H Q zz=>by
 obtain⟨env,R,A,d,k,M,q2⟩:=zz;obtain⟨ds,e1,e2⟩:=bind_some M;have e3:=K3 e2;refine⟨env,R,A,ds,k,e1,λvs H1 s1 rs=>⟨by rw[Zw rs.rps];exact C.len ds d e3,ds,A,d,k.mu.mono s1,rs.rps,e3,λv H' s r _=>q2 v H' (s1.trans s) r⟩⟩)
mutual
def RQ:Dat->Bool
 | .lst _=>false
 | .dct _=>false
 | .exc _ _=>false
 | .tup xs=>TQ xs
 | .non=>true
 | .bl _=>true
 | .int _=>true
 | .str _=>true
def TQ:Z Dat->Bool
 | []=>true
 | x::xs=>RQ x&&TQ xs
end
theorem qt{a:A2}(mu:Ul A H)(h:E3 K H a vs):E3 K (av H A) a vs:=by
 rcases h with h | h
 ·left
  have hA:A a=false:=by
   cases q:A a with
   | false=>rfl
   | true =>
    have:=mu a q;rw[h] at this;exact this.elim
  exact Ws h hA
 ·exact .inr h
mutual
theorem Rp.pure(mu:Ul A H):∀ {d:Dat} {v:V},RQ d=true->Rp K H d v->Rp K (av H A) d v
 | .non,v,_,r=>by rw[F4 r];exact Ln
 | .bl b,v,_,r=>by rw[O3 r];exact Vi
 | .int b,v,_,r=>by rw[Jh r];exact Yq
 | .str b,v,_,r=>by obtain⟨e,h⟩:=Xw r;rw[e];exact Sj h
 | .lst _,v,h,_=>by cases h
 | .dct _,v,h,_=>by cases h
 | .exc _ _,v,h,_=>by cases h
 | .tup xs,v,h,r=>by
  obtain⟨a,vs,e,h1,h2⟩:=Rt r;subst e;exact Cb (ZW r) (qt mu h1) (Wf.pure mu (by simpa[RQ] using h) h2)
theorem Wf.pure(mu:Ul A H):∀ {ds:Z Dat} {vs:Z V},TQ ds=true->Wf K H ds vs->Wf K (av H A) ds vs
 | [],vs,_,r=>by rw[Yj r];exact Vo
 | d::ds,vs,h,r=>by
  obtain⟨v,us,e,r1,r2⟩:=Zt r;subst e;rw[TQ,AY] at h;exact Vh (Rp.pure mu h.1 r1) (Wf.pure mu h.2 r2)
end
end
section
variable{X:Cx}{m:Bool}
structure NR (K:G8) (mg:J') (x:Str) (d:Dat):Prop where
 ex:∃ v u,mg x=some u/\Yi v u/\∀ H,Rp K H d v
theorem NR.x{x:Str}{d:Dat}{p:Pos}(G:NR X.K X.mg x d)(hg:Gl X x)(hd:C2 x:=by decide):Yz m X (.Name x p) (dC d):=by
 obtain⟨v,u,h1,h2,h3⟩:=G.ex;exact kG hg h1 h2 h3 hd
end
def QG(sq:Hp->Z V->Prop):It :=
 ⟨λi H=>∃ xs x,sq H xs/\xs[i]?=some x,
  λi H v H'=>∃ p x,v=.ref p/\H p=none/\(∀ xs,sq H xs->xs[i]?=some x)/\H'=Yr H p (.tup [.int i,x]),
  λi H=>∃ xs,sq H xs/\xs.length=i⟩
theorem C'.turnedT{X:Cx}{xs:Z V}(I:C' X aa σ H s)(hf:∀ b∈ch,Dg X aa H b)
  (kk:∀ b o,b∉ch->s.heap.get? b=some o->h'.get? b=some o) (hT:s.heap.objs.size<=T) (rv:Y0 xs its) (hz:xs.length<=sizeLine) (ht:IsTup h' T its.toArray) :
  C' X aa σ (Yr H T (.tup xs)) { s with heap:=h',toks:=tk }:=by
 have hn:H T=none:=I.hok.fresh hT;have a:∀ b u,H b=some u->b∉ch:=λb u e z=>by rw[(hf b z).1] at e;cases e
 refine I.call' (ch:=ch) rfl ⟨λb o q n _ hx=>kk b o hx q,λb o q n _ hx=>⟨o.slots,kk b o hx q⟩,λb o q n hx=>?_,λb o q hx=>⟨o,kk b o hx q⟩,λb ys q=>?_,λb o u q=>?_,λb ps q=>⟨#[],?_⟩⟩ (λb u e=>?_) I.bare λb hb=>⟨(hf b hb).2.2.2.1,(hf b hb).2.1,(hf b hb).2.2.2.2.1,(hf b hb).2.2.2.2.2⟩
 ·rw[Zc (BG (AR (AN q) hT))];exact n
 ·rw[Zc (Y8 q hn)];exact q
 ·rw[Zc (Y8 q hn)];exact q
 ·rw[Zc (Y8 q hn),q];simp
 ·by_cases hb:b=T
  ·subst hb
   rw[Zg] at e;cases e;exact⟨hz,its,rv,ht⟩
  ·rw[Zc hb] at e
   refine(I.hok b u e).stay (λc v hc q=>?_) (λc q=>?_) λc ys q=>?_
   ·rcases hc with hc | hc
    ·subst hc;exact kk c v (a c u e) q
    ·exact kk c v (a c _ hc) q
   ·rw[Zc (Y8 q hn)];exact q
   ·rw[Zc (Y8 q hn)];exact q
theorem C'.turnedN{X:Cx}(I:C' X aa σ H s)(hf:∀ b∈ch,Dg X aa H b)
  (kk:∀ b o,b∉ch->s.heap.get? b=some o->h'.get? b=some o):C' X aa σ H { s with heap:=h',toks:=tk }:=by
 have a:∀ b u,H b=some u->b∉ch:=λb u e z=>by rw[(hf b z).1] at e;cases e
 refine I.call' (ch:=ch) rfl ⟨λb o q n _ hx=>kk b o hx q,λb o q n _ hx=>⟨o.slots,kk b o hx q⟩,λb o q n hx=>n,λb o q hx=>⟨o,kk b o hx q⟩,λb ys q=>q,λb o u q=>q,λb ps q=>⟨#[],by rw[q];simp⟩⟩ (λb u e=>?_) I.bare λb hb=>⟨(hf b hb).2.2.2.1,(hf b hb).2.1,(hf b hb).2.2.2.2.1,(hf b hb).2.2.2.2.2⟩
 refine(I.hok b u e).stay (λc v hc q=>?_) (λc q=>q) λc ys q=>q
 rcases hc with hc | hc
 ·subst hc;exact kk c v (a c u e) q
 ·exact kk c v (a c _ hc) q
theorem Av{P:Df}(a e it:A2)(m:Nat->Ff->Prop)(ah:Ff->Array A1->Prop)(sq:Hp->Z V->Prop)
  (hS:∀ h h' i,m i h->(∀ o,h.get? it=some o->h'.get? it=some o)->m i h')
  (S:∀ h i,m i h->∃ o,h.get? it=some o/\o.cls≠.type "enumerate" /\ ∀ v,o.data≠.cell v)
  (hA:∀ h ac,ah h ac->∃ o,h.get? a=some o/\o.cls≠.type "enumerate" /\ ∀ h' i,m i h'->∀ o',h'.get? it=some o'->o'.cls≠o.cls)
  (y:∀ A:C0,A.handled=none->a≠it->∀ ac:Array A1,Draws P w A it [it,a] ac.size (λi v=>ac[i]?=some v) (λi h=>m i h/\ah h ac))
  (hg:∀ (X:Cx) (aa:IA) (σ:St) (H:Hp) (s:A4) (xs:Z V),X.K=K->C' X aa σ H s->sq H xs->∃ its,Y0 xs its/\ah s.heap its.toArray)
  (hj:∀ (X:Cx) (aa:IA) (σ:St) (H:Hp) (s:A4) (xs ys:Z V),X.K=K->C' X aa σ H s->sq H xs->sq H ys->xs=ys) :
  OR P w K (.Tuple es k pos) (QG sq) [e,it] e (λi h=>(∃ F,IsEnum h e it i F)/\m i h) where
 mem:=by simp
 obj:=λi h st b hb=>by
  rcases AZ.mp hb with rfl | hb
  ·obtain⟨⟨F,z⟩,_⟩:=st;exact⟨_,z,λv q=>by cases q⟩
  ·rw[AJ.mp hb];obtain⟨o,h1,_,h2⟩:=S h i st.2;exact⟨o,h1,h2⟩
 keep:=λi h h' st kk=>by
  obtain⟨⟨F,z⟩,q⟩:=st;exact⟨⟨F,kk e (by simp) _ z⟩,hS h h' i q λo r=>kk it (by simp) o r⟩
 item:=by
  intro X g hw f hc i aa s σ H E I hf st C;subst g hw;obtain⟨xs,x,af,hx⟩:=C;obtain⟨its,rv,M⟩:=hg X aa σ H s xs f I af;obtain⟨u,hu,N⟩:=rv.get hx;obtain⟨⟨F,p⟩,j⟩:=st;obtain⟨oi,c,aj,_⟩:=S _ _ j;obtain⟨D,d,ak,R⟩:=hA _ _ M;have ag:a≠it:=by intro z;rw[z,c] at d;cases d;exact R _ _ j _ c rfl
  have J:e≠it:=by intro z;rw[← z,p] at c;cases c;exact aj rfl
  have al:e≠a:=by intro z;rw[← z,p] at d;cases d;exact ak rfl
  have W:=WalksT.enumerateD (y X.A.in1 (I.ok.hd hc) ag its.toArray) e J (by simp[J,al]) (by simp);have hi:i<its.toArray.size:=by rw[AU];exact(AE.mp hu).1
  refine W.item i s _ _ hi ⟨⟨F,p⟩,j,M⟩ λT B h' tk ap hT ao hM Y=>⟨.ref T,rfl,W.go es k pos i T _ _ _ hM λh2 l n=>?_⟩
  obtain⟨t,G,ai,rfl⟩:=ap;have aq:G=u:=by
   have:its[i]?=some G:=by simpa using ai
   rw[hu] at this;exact(BF this).symm
  subst aq;have am:IsTup h2 T #[.int i t,G]:=by
   obtain⟨o,ho,r⟩:=ao;exact⟨o,n T o (W.apart i T h' hM) ho,r⟩
  have I2:=C'.turnedT (s:=s) (h':=h2) (tk:=tk) (ch:=[e,it]) (its:=[.int i t,G]) (xs:=[.int i,x]) I hf (λb o hb q=>n b o hb (Y b o hb q)) hT (.cons ⟨t,rfl⟩ (.cons N .nil)) (by show 2<=sizeLine;decide) am;refine⟨.ref T,Yr H T (.tup [.int i,x]),I2,rfl,⟨T,x,rfl,I.hok.fresh hT,λys hy=>?_,rfl⟩,⟨l.1,l.2.1⟩,λb hb=>?_⟩
  ·rw[hj X aa σ H s ys xs f I hy af];exact hx
  ·rw[Zc ?_];exact(hf b hb).1
   intro z;have ae:b<s.heap.objs.size:=by
    rcases AZ.mp hb with rfl | hb
    ·exact AN p
    ·rw[AJ.mp hb];exact AN c
   exact absurd (AR ae (by rw[z];exact hT)) (DA _)
 done:=by
  intro X g hw f hc i aa s σ H E I hf st hs;subst g hw;obtain⟨xs,af,hl⟩:=hs;obtain⟨its,rv,M⟩:=hg X aa σ H s xs f I af;obtain⟨⟨F,p⟩,j⟩:=st;obtain⟨oi,c,aj,_⟩:=S _ _ j;obtain⟨D,d,ak,R⟩:=hA _ _ M;have ag:a≠it:=by intro z;rw[z,c] at d;cases d;exact R _ _ j _ c rfl
  have J:e≠it:=by intro z;rw[← z,p] at c;cases c;exact aj rfl
  have al:e≠a:=by intro z;rw[← z,p] at d;cases d;exact ak rfl
  have W:=WalksT.enumerateD (y X.A.in1 (I.ok.hd hc) ag its.toArray) e J (by simp[J,al]) (by simp);have hn:its.toArray.size=i:=by rw[AU,← rv.length];exact hl
  refine W.done s _ _ (by rw[hn];exact⟨⟨F,p⟩,j,M⟩) λh' tk Y=>⟨rfl,I.turnedN (ch:=[e,it]) hf λb o hb q=>Y b o hb q⟩
 self:=λA i s Q E st h=>by
  obtain⟨⟨F,z⟩,_⟩:=st;exact JN z h
section
variable{st:Bool}{X:Cx}{l:C3}{f:Zzu}
theorem pR(a e it:A2):OR X.prog X.w X.K (.Tuple es tk aC) (QG λH xs=>E3 X.K H a xs) [e,it] e (λi h=>(∃ F,IsEnum h e it i F)/\h.IsTupleIter it a i) :=
 Av a e it (λi h=>h.IsTupleIter it a i) (λh ac=>h.IsTuple a ac) _ (λh h' i q kk=>let ⟨o,h1,r⟩:=q;⟨o,kk o h1,r⟩)
  (λh i q=>let ⟨o,h1,h2,h3⟩:=q;⟨o,h1,by rw[h2];decide,λv z=>by rw[h3] at z;cases z⟩)
  (λh ac q=>let ⟨o,h1,h2,_⟩:=q;⟨o,h1,by rw[h2];decide,λh' i r o' e'=>by obtain⟨o2,g1,g2,_⟩:=r;rw[g1] at e';cases e';rw[g2,h2];decide⟩)
  (λA hh ag ac=>Draws.tupleD hh it a ag ac)
  (λY aa σ H s xs f I h=>by rw[← f] at h;obtain⟨its,r,p,_⟩:=I.tuple h;exact⟨its,r,p⟩)
  (λY aa σ H s xs ys f I h h'=>by rw[← f] at h h';exact I.tuple_inj h h')
theorem fe(a e it:A2):OR X.prog X.w X.K (.Tuple es tk aC) (QG λH xs=>Dd X.K H a xs) [e,it] e (λi h=>(∃ F,IsEnum h e it i F)/\h.IsListIter it a i) :=
 Av a e it (λi h=>h.IsListIter it a i) (λh ac=>h.IsList a ac) _ (λh h' i q kk=>let ⟨o,h1,r⟩:=q;⟨o,kk o h1,r⟩)
  (λh i q=>let ⟨o,h1,h2,h3⟩:=q;⟨o,h1,by rw[h2];decide,λv z=>by rw[h3] at z;cases z⟩)
  (λh ac q=>let ⟨o,h1,h2,_⟩:=q;⟨o,h1,by rw[h2];decide,λh' i r o' e'=>by obtain⟨o2,g1,g2,_⟩:=r;rw[g1] at e';cases e';rw[g2,h2];decide⟩)
  (λA hh ag ac=>Draws.list hh it a ag ac)
  (λY aa σ H s xs f I h=>by rw[← f] at h;obtain⟨its,r,p,_⟩:=I.list h;exact⟨its,r,p.isList⟩)
  (λY aa σ H s xs ys f I h h'=>by rw[← f] at h h';exact I.list_inj h h')
def Jl:Nat->Z Dat->Z Dat
 | _,[]=>[]
 | k,x::xs=>.tup [.int k,x]::Jl (k+1) xs
theorem Ih:∀ (xs:Z Dat) (k i:Nat),(Jl k xs)[i]?=(xs[i]?).map λx=>.tup [.int ((k+i:Nat):Int),x]
 | [],k,i=>by simp[Jl]
 | x::xs,k,0=>by simp[Jl]
 | x::xs,k,i+1=>by
  rw[Jl,List.getElem?_cons_succ,List.getElem?_cons_succ,Ih xs (k+1) i,show k+1+i=k+(i+1) by lia]
theorem J7:∀ (xs:Z Dat) (k:Nat),(Jl k xs).length=xs.length
 | [],_=>rfl
 | x::xs,k=>by rw[Jl,BH,BH,J7 xs]
def Xt(f:Zzu):Ev->C1 (Z Dat):=λenv=>(Uj f env).map (Jl 0)
theorem Ov{sq:Hp->Z V->Prop}(h:∀ t H1,PY st A H t H1->sq H1 vs)(r:Wf K (av H A) ds vs):OV st K A H (Jl 0 ds) (QG sq):=λt H1 b mu=>by
 have h1:=h t H1 b;have r1:=r.mono b.step.av;refine⟨λi x e=>?_,⟨vs,h1,by rw[J7];exact Zw r⟩⟩;rw[Ih] at e;obtain⟨d,e1,e2⟩:=map_some e;subst e2;obtain⟨v,e3,e4⟩:=Re r1 e1;refine⟨⟨vs,v,h1,e3⟩,λB H2 ⟨p,x,z1,z2,W,z4⟩=>?_⟩;subst z1 z4;have:=W vs h1;rw[e3] at this;cases this;refine⟨Zp.new z2,Cb (by show 2<=sizeLine;decide) (.inl (Ws Zg (mu.new z2))) (Vh ?_ (Jz (e4.mono (Wv (Zp.new z2)))))⟩;rw[KO];exact Yq
def mE(K:G8)(ta:TA):TI:=λσ H R=>ta σ H λvs H1=>∃ a,vs=[.ref a]/\(∃ xs,Dd K H1 a xs)/\R (QG λH xs=>Dd K H a xs) H1
def kP(K:G8)(ta:TA):TI:=λσ H R=>ta σ H λvs H1=>∃ a,vs=[.ref a]/\(∃ xs,E3 K H1 a xs)/\R (QG λH xs=>E3 K H a xs) H1
theorem dQ(I:C' X aa σ H s):∀ b∈[s.heap.objs.size+1,s.heap.objs.size],Dg X aa H b:=λb hb=>by
 rcases AZ.mp hb with rfl | hb
 ·exact I.fpOk (DH _) (I.hok.fresh (DH _))
 ·rw[AJ.mp hb];exact I.fpOk (AT _) (I.hok.fresh (AT _))
theorem bW(hg:Gl X "enumerate")(hm:X.mg "enumerate" = none)(hv:bootBuiltins "enumerate" = some (.type "enumerate"))(ha:PA X [l] ta)(hs:starEach [l] X.env=[(false,eval l X.env)]:=by rfl):PI X (.Tuple es tk aC) (.Call (.Name "enumerate" p) [l] [] pos) (mE X.K ta):=by
 intro aa s σ H R I h;refine Call_ (Jd I hg hm hv (EC (Wo (ha pos aa s σ H _ I h) λus s1 ⟨vs,H1,I1,r1,M⟩=>?_) hs rfl));obtain⟨a,e,⟨xs,hq⟩,q⟩:=M;subst e;obtain⟨u,rfl,N⟩:=Qf r1;cases N;obtain⟨its,rv,pl,hz⟩:=I1.list hq;refine call_enumerate_list pl.isList λh' h1 h2 h3 h4=>?_
 have I2:C' X aa σ H1 { s1 with heap:=h' }:=I1.kept (t':=s1.toks) h4;refine JN (s:={ s1 with heap:=h' }) h1 ?_;exact⟨s1.heap.objs.size+1,[s1.heap.objs.size+1,s1.heap.objs.size],_,_,H1,rfl,I2,fe a _ _,⟨⟨_,h1⟩,h2⟩,dQ I1,q⟩
theorem eG(hg:Gl X "enumerate")(hm:X.mg "enumerate" = none)(hv:bootBuiltins "enumerate" = some (.type "enumerate"))(ha:PA X [l] ta)(hs:starEach [l] X.env=[(false,eval l X.env)]:=by rfl):PI X (.Tuple es tk aC) (.Call (.Name "enumerate" p) [l] [] pos) (kP X.K ta):=by
 intro aa s σ H R I h;refine Call_ (Jd I hg hm hv (EC (Wo (ha pos aa s σ H _ I h) λus s1 ⟨vs,H1,I1,r1,M⟩=>?_) hs rfl));obtain⟨a,e,⟨xs,hq⟩,q⟩:=M;subst e;obtain⟨u,rfl,N⟩:=Qf r1;cases N;obtain⟨its,rv,pl,hz⟩:=I1.tuple hq;refine Di (show s1.heap.IsTuple a its.toArray from pl) λh' h1 h2 h3 h4=>?_
 have I2:C' X aa σ H1 { s1 with heap:=h' }:=I1.kept (t':=s1.toks) h4;refine JN (s:={ s1 with heap:=h' }) h1 ?_;exact⟨s1.heap.objs.size+1,[s1.heap.objs.size+1,s1.heap.objs.size],_,_,H1,rfl,I2,pR a _ _,⟨⟨_,h1⟩,h2⟩,dQ I1,q⟩
theorem ZB(hm:X.mg "enumerate" = none)(h:Yz false X l f)(hg:Gl X "enumerate" := by rfl)(hv:bootBuiltins "enumerate" = some (.type "enumerate"):=by ext)(hs:starEach [l] X.env=[(false,eval l X.env)]:=by rfl):ND st X (.Tuple es tk aC) (.Call (.Name "enumerate" p) [l] [] pos) (Xt f) :=
 ((bW hg hm hv (Yk h Vb hs) hs).or (eG hg hm hv (Yk h Vb hs) hs)).weak λσ H g zz=>by
 obtain⟨env,R,A,ds,k,e,q⟩:=zz;obtain⟨xs,C,e1⟩:=map_some e;subst e1;unfold Uj at C;split at C
 ·rename_i ys e1
  cases C;refine .inl ⟨env,R,A,.lst xs,k,e1,λv H1 s1 p1=>?_⟩;obtain⟨a,vs,e2,h1,r1⟩:=Qa (show Rp X.K (av H1 A) (.lst xs) v from p1);subst e2;exact⟨a,rfl,⟨vs,(Yn.sl h1).sq⟩,q _ H1 (by rw[J7];exact p1.pk.lenL) s1 (Ov (vs:=vs) (λt H2 b=>(Yn.sl (b.step.av.sl h1)).sq) r1)⟩
 ·rename_i ys e1
  cases C;refine .inr ⟨env,R,A,.tup xs,k,e1,λv H1 s1 p1=>?_⟩;obtain⟨a,vs,e2,h1,r1⟩:=Rt (show Rp X.K (av H1 A) (.tup xs) v from p1);subst e2;exact⟨a,rfl,⟨vs,Yn.seqT h1⟩,q _ H1 (by rw[J7];exact p1.pk.lenT) s1 (Ov (vs:=vs) (λt H2 b=>Yn.seqT (b.step.av.seqT h1)) r1)⟩
 ·cases C
theorem XV(hm:X.mg "enumerate" = none)(h:Yz true X l f)(hg:Gl X "enumerate" := by rfl)(hv:bootBuiltins "enumerate" = some (.type "enumerate"):=by ext)(hs:starEach [l] X.env=[(false,eval l X.env)]:=by rfl):ND false X (.Tuple es tk aC) (.Call (.Name "enumerate" p) [l] [] pos) (Xt f) :=
 ((bW hg hm hv (Yk h Vb hs) hs).or (eG hg hm hv (Yk h Vb hs) hs)).weak λσ H g zz=>by
 obtain⟨env,R,A,ds,k,e,q⟩:=zz;obtain⟨xs,C,e1⟩:=map_some e;subst e1;unfold Uj at C;split at C
 ·rename_i ys e1
  cases C;refine .inl ⟨env,R,A,.lst xs,k,e1,λv H1 s1 p1=>?_⟩;obtain⟨a,vs,e2,h1,r1⟩:=p1.pk.lst;subst e2;exact⟨a,rfl,⟨vs,h1.sq⟩,q _ H1 (by rw[J7];exact p1.pk.lenL) s1 (Ov (vs:=vs) (λt H2 b=>(b.2.sl h1).sq) r1)⟩
 ·rename_i ys e1
  cases C;refine .inr ⟨env,R,A,.tup xs,k,e1,λv H1 s1 p1=>?_⟩;obtain⟨a,vs,e2,h1,r1⟩:=p1.pk.tup;subst e2;exact⟨a,rfl,⟨vs,h1⟩,q _ H1 (by rw[J7];exact p1.pk.lenT) s1 (Ov (vs:=vs) (λt H2 b=>b.2.seqT h1) r1)⟩
 ·cases C
end
end L2
variable{I f t fI S aB:PySem.Addr}{G:Z L2.Dat->C1 (Z (PySem.Str×L2.XD))}{P:PySem.Program}{Q:C1 PySem.Value->PySem.Shared->Prop}{l:Z PySem.Env}{fs:L2.Zzv}{p2 aK:PySem.Pos}{g:L2.Ev->L2.Fl}{cd v:PySem.Value}{tk:PySem.Tok}{pl led:Bool}{ds:Z L2.Dat}{es:Array (Int×PySem.Value)}{r:L2.TJ}{ta:L2.TE}{fl:Z (PySem.Str×L2.XD)}{B:L2.Bs}{aA:IA}{c2:C1 PySem.Value}{sb:PySem.Str->C1 Bool}{tx f1 f2 f3:PySem.Str}{xs:Array Nat}{ep sl:Nat}{ks:Z Int}{Pv:Nat->PySem.Value->Prop}{ao:Z PySem.Str}{β:Type}{A':PySem.Around}{E':J1}{fa:L2.Zzu}{dss:Z (Z L2.Dat)}
namespace PySem


namespace F
theorem nolen_lr:typeLookup (.type "list_reverseiterator") "__len__" = pure none:=by rw[HB,FE];kernel_rfl
theorem hint_lr:typeLookup (.type "list_reverseiterator") "__length_hint__" = pure (some (.builtin "list_reverseiterator.__length_hint__")):=by rw[HB,FE];kernel_rfl
end F
section
variable{R:Result->A4->Prop}
variable{G:Array GenState->Array GenState->Prop}{n:Nat}{P:Nat->A1->Prop}{St:Nat->A4->Prop}
def VA(prog:Df)(w:D1)(A:C0)(I:A2)(St:Nat->A4->Prop):Prop:=∀ (s:A4) (Q:Bool->A4->Prop) (E:J1),St 0 s->(∀ tk,s.toks<=tk->Q false { s with toks:=tk })->wpAny (model prog w) A (Builtin.List.listLengthHint (.ref I)) Q E s
theorem Of(W:WalksS prog w A.in1 I fp wr G n P St)(hT:∀ i s,St i s->s.TypeIs (.ref I) T)(g:T="range_iterator" \/ T="list_reverseiterator")(hh:VA prog w A.in1 I St)(S:A2)(res:A1)(c₀:Nat)(l:St 0 s)(q:S∉fp)(M:I∈fp)
  (hS:s.heap.get? S=some { cls:=.type "list",data:=.seq #[] c₀ })
  (hR:∀ s' c c',Moved (S::wr) G s s'->s'.heap.get? S=some { cls:=.type "list",dict:=none,data:=.seq c c',slots:=#[] }->ItemsOf P c n->R (.ok (.ret res)) s') (hn:n<=sizeLine) :
  wpAny (model prog w) A.in1 (Builtin.List.listExtendWith (.ref S) (.ref I) res)
   (λfin s'=>match fin with | .done f=>R (.ok f) s' | .again c'=>c'.quiet=true/\codeAny (model prog w) A c' R s') (λe s'=>R (.error e) s') s:=by
 have a:S≠I:=λe=>q (e▸M)
 unfold Builtin.List.listExtendWith;refine AA (FP (hT 0 _ l) ?_);have h1:Builtin.List.listSameRef (.ref S) (.ref I)=false:=by simp[Builtin.List.listSameRef,a]
 have h2:(Value.type T==Value.type "list")=false:=by rcases g with rfl | rfl<;>decide
 have h3:(Value.type T==Value.type "tuple")=false:=by rcases g with rfl | rfl<;>decide
 simp only[h1,h2,h3,KR,FC,HG];refine AA (W.self 0 _ _ _ l ?_);refine AA (BN (hh s _ _ l λtk al=>?_));rw[AL (by rcases g with rfl | rfl<;>decide)];have hst₂:=W.frame 0 _ _ tk l al λb _ o e=>e
 refine AC ⟨GR F.plain_extend_loop _,codeAny_extend_loopS W hn _ q _ n 0 _ _ _ rfl (CP _) hst₂ hS (ItemsOf.nil P) λs' c c' hm d af=>?_⟩;exact hR s' c c' (Moved.trans W.gtrans ((Moved.refl W.grefl).then_heap al λb o hb e=>e) hm) d af
theorem Hs(W:WalksS prog w A.in1 I fp wr G n P St)(hT:∀ i s,St i s->s.TypeIs (.ref I) T)(g:T="range_iterator" \/ T="list_reverseiterator")(hh:VA prog w A.in1 I St)(S:A2)(l:St 0 s)(q:S∉fp)(M:I∈fp)
  (hS:s.heap.get? S=some { cls:=.type "list",data:=.seq #[] })
  (hR:∀ s' c c',Moved (S::wr) G s s'->s'.heap.get? S=some { cls:=.type "list",dict:=none,data:=.seq c c',slots:=#[] }->ItemsOf P c n->R (.ok (.ret .none)) s') (hn:n<=sizeLine) :
  wpAny (model prog w) A.in1 (Builtin.«list.__init__» ⟨[.ref S,.ref I],[]⟩)
   (λfin s'=>match fin with | .done f=>R (.ok f) s' | .again c'=>c'.quiet=true/\codeAny (model prog w) A c' R s') (λe s'=>R (.error e) s') s:=by
 show wpAny _ A.in1 (do let F ← Builtin.List.listItems (.ref S);Builtin.List.listUpdate (.ref S) (λ_=>#[]);letGo F.toList.reverse;Builtin.List.listExtendWith (.ref S) (.ref I) .none) _ _ s;refine AA ?_;unfold Builtin.List.listItems;refine AA (GH hS rfl (AC ?_));show wpAny _ A.in1 (updateSeq S (λ_=>#[]) >>= λ_=>letGo (#[]:Array A1).toList.reverse >>= λ_=>Builtin.List.listExtendWith (.ref S) (.ref I) .none) _ _ s;refine AA (KC hS rfl ?_);have hS₂:=BI (Obj.mapSeq (λ_=>(#[]:Array A1))) hS rfl;have a:∀ b o,b≠S->s.heap.get? b=some o->(s.heap.update S (Obj.mapSeq (λ_=>(#[]:Array A1)))).get? b=some o :=
  λb o hb e=>(BA _ _ (AO hb)).trans e
 refine AA (wpAny_letGo ?_);refine Of (hn:=hn) W hT g hh S .none _ (W.frame 0 s _ s.toks l (AT _) λb hb o e=>a b o (λh=>q (h▸hb)) e) q M hS₂ λs' c c' hm d af=>?_
 exact hR s' c c' (Moved.trans W.gtrans ((Moved.refl W.grefl).then_heap (AT _) λb o hb e=>a b o (λh=>hb (h▸AW)) e) hm) d af
end
section
variable{n:Nat}{P:Nat->A1->Prop}{St:Nat->A4->Prop}
theorem Cj{Q:J1}(W:WalksS prog w A.in1.in1 I fp wr (λa b=>b=a) n P St)(hT:∀ i s,St i s->s.TypeIs (.ref I) T)(g:T="range_iterator" \/ T="list_reverseiterator")(hh:VA prog w A.in1.in1 I St)(l:St 0 s)(x:∀ b∈fp,b<s.heap.objs.size)(M:I∈fp)
  (j:∀ h' tk c c',(∀ b o,b∉wr->s.heap.get? b=some o->h'.get? b=some o)->h'.get? s.heap.objs.size=some { cls:=.type "list",dict:=none,data:=.seq c c',slots:=#[] }->ItemsOf P c n->Q (.ref s.heap.objs.size) { s with heap:=h',toks:=tk }) (hn:n<=sizeLine) :
  wpAny (model prog w) A (call (.type "list") [.ref I]) Q E s:=by
 have q:s.heap.objs.size∉fp:=λhm=>DA _ (x _ hm)
 refine callType_codes (Q₁:=λobj s₁=>obj=.ref s.heap.objs.size/\s₁={ s with heap:=s.heap.push { cls:=.type "list",data:=.seq #[] } }) F.called_list (F.typeCall_list_1 _) F.entry_list_init
  (code_list_new _ ⟨rfl,rfl⟩) λobj s₁ h₁=>?_
 obtain⟨rfl,rfl⟩:=h₁;have hS:(s.heap.push { cls:=.type "list",data:=.seq #[] }).get? s.heap.objs.size=some { cls:=.type "list",data:=.seq #[] }:=AQ _ rfl;refine⟨⟨_,hS,rfl⟩,F.args_list_init_2 _ _,Hs (hn:=hn) W hT g hh _ (W.frame 0 s _ s.toks l (AT _) λb _ o e=>AB _ e) q M hS λs' c c' hm d af=>?_⟩;refine⟨rfl,?_⟩;rw[KS hm];refine j s'.heap s'.toks c c' (λb o hb e=>hm.heap b o (λy=>?_) (AB _ e)) d af;rcases AZ.mp y with e' | y
 ·exact absurd (AN e) (by rw[e'];exact DA _)
 ·exact hb y
end
theorem jW(it:A2)(St:Nat->A4->Prop)(hT:∀ s,St 0 s->s.TypeIs (.ref it) "list_reverseiterator"):VA prog w A it St:=λs Q E l j=>by
 unfold Builtin.List.listLengthHint;refine AA (IM (hT s l) F.nolen_lr ?_);show wpAny _ _ (specialOf (Value.ref it) (Str.ofString "__length_hint__") >>= _) _ _ _;refine AA (IM (hT s l) F.hint_lr ?_)
 (generalize a:("list_reverseiterator.__length_hint__" : String)=c;(fail_if_success (clear a c));wp_delta;rw[show splitId c=some ("list_reverseiterator","__length_hint__") from by subst a;decide +kernel];subst a)
 refine AA (GN (b:=true) (hT s l) (by rw[IX];kernel_rfl) ?_);exact AC (j s.toks (AT _))
theorem Sw{l h:A2}(hh:A.handled=some (.ref h))(R:L2.ChX s.heap h)(c:s.heap.IsRevIter it l (-1))
   (j:∀ h',ExtBut it s.heap h'->Q none { s with heap:=h' }):wpAny (model prog w) A (pyNext (.ref it)) Q E s:=by
 obtain⟨o,ho,hc,hd⟩:=id c;unfold pyNext;refine AA (GS (CF (name:=Str.ofString "__next__") c.typeIs F.slot_lri_next
   (BX F.slot_lri_next c.typeIs F.entry_lri_next ?_ (F.args_lri_next_1 _))))
 unfold Builtin.«list_reverseiterator.__next__»;refine AA (ER (a:=(Value.ref it,[])) rfl ?_);try dsimp only
 refine AA (CA ho hd (x:=rawInt (-1)) rfl ?_);show wpAny _ _ (if(-1:Int)<0 then _ else _) _ _ s;rw[AF (by decide)];refine AA (HM ?_);first
 | show wpAny _ _ (newExc (.type "StopIteration") [] >>= _) _ _ _
 | (refine AA ?_;show wpAny _ _ (newExc (.type "StopIteration") [] >>= _) _ _ _)
 refine AA ?_;simp only[newExc,newTuple];refine AA (BK ?_ (by size_fits));refine AA (m:=firstArgMember _ _) (ER (a:=Value.none) (by first | rfl | (simp only[firstArgMember];rfl)) ?_);refine BK ?_ (by size_fits);refine L2.Z3f (A:=A.in1) (h:=h) (h0:=s.heap) hh (AQ _ rfl) rfl (by simp;lia) R (λa o' v x a1 a2 a3=>⟨AB _ (AB _ a1),λz=>?_⟩) ?_
 · have ae:=AN a1
   rw[z] at ae;exact absurd ae (FB.mpr (by first | (rw[EU];exact DH _) | (show _<=(Heap.push _ _).objs.size;rw[EU];exact DH _)))
 refine AA (GN (T:="StopIteration") (b:=true) ⟨_,BI _ (AQ _ rfl) rfl,rfl⟩ KI ?_);refine AC (j _ λb ob hb eo=>?_);have y:=AN eo;refine(BA _ _ ?_).trans (AB _ (AB _ eo));intro z;rw[← z] at y;exact absurd y (FB.mpr (by first | (rw[EU];exact DH _) | (show _<=(Heap.push _ _).objs.size;rw[EU];exact DH _)))
def XF(A:C0)(hs:IA):Prop:=A.handled=none\/∃ e,A.handled=some (.ref e)/\∀ h:Ff,(∀ p∈hs,h.get? p.1=some p.2)->L2.ChX h e
theorem da(k:L2.HdS A h):∃ hs:Z (A2×Obj),XF A hs/\∀ p∈hs,h.get? p.1=some p.2/\∃ v x,p.2.data=.fields v/\v[2]?=some x:=by
 rcases k with z | ⟨e,z,oe,ve,h1,h2,h3 | ⟨e2,o2,v2,h3,h4,h5,l⟩⟩
 ·exact⟨[],.inl z,λp hp=>by cases hp⟩
 ·exact⟨[(e,oe)],.inr ⟨e,z,λh' k=>⟨oe,ve,k _ (AJ.mpr rfl),h2,.inl h3⟩⟩,λp hp=>by rw[AJ.mp hp];exact⟨h1,ve,_,h2,h3⟩⟩
 ·refine⟨[(e,oe),(e2,o2)],.inr ⟨e,z,λh' k=>⟨oe,ve,k (e,oe) (by simp),h2,.inr ⟨e2,o2,v2,h3,k (e2,o2) (by simp),h5,l⟩⟩⟩,λp hp=>?_⟩
  rcases AZ.mp hp with rfl | hp
  ·exact⟨h1,ve,_,h2,h3⟩
  ·rw[AJ.mp hp];exact⟨h4,v2,_,h5,l⟩
theorem Walks.listH(hs:IA)(hh:XF A hs)(I c:A2)(ag:c≠I)(hn:∀ p∈hs,p.1≠I)(ac:Array A1) :
  Walks prog w A I (I::c::hs.map (·.1)) [I] ac.size (λi v=>ac[i]?=some v) (λi h=>(h.IsListIter I c i/\h.IsList c ac)/\∀ p∈hs,h.get? p.1=some p.2) where
 sub:=λb hb=>by simp at hb;simp[hb]
 frame:=λ_ _ _ st Y=>⟨⟨st.1.1.at λo e=>Y I (by simp) o e,st.1.2.at λo e=>Y c (by simp) o e⟩,λp hp=>Y p.1 (AV _ (AV _ (GF hp))) p.2 (st.2 p hp)⟩
 item:=λi s Q E hi st j=>by
  refine HY st.1.1 st.1.2 (x:=ac[i]) (by simp[hi]) λh' f d=>?_
  exact j _ h' s.toks (by simp[hi]) ⟨⟨f,st.1.2.extBut d.extBut ag⟩,λp hp=>(d.2 p.1 (hn p hp)).trans (st.2 p hp)⟩ λb o hb e=>d.extBut b o (λh=>hb (by simp[h])) e
 done:=λs Q E st j=>by
  rcases hh with hh | ⟨e,hh,hc⟩
  ·exact IG hh st.1.1 st.1.2 (by simp) λh' a=>j h' s.toks λb o hb e=>a b o (λh=>hb (by simp[h])) e
  ·exact L2.Pj hh (hc _ st.2) st.1.1 st.1.2 (by simp) λh' a=>j h' s.toks λb o hb e=>a b o (λh=>hb (by simp[h])) e
 self:=λ_ _ _ _ st j=>wpAny_pyIter_listiter st.1.1 j
theorem Walks.listRevH(hs:IA)(hh:XF A hs)(I l:A2)(ag:l≠I)(hn:∀ p∈hs,p.1≠I)(ac:Array A1) :
  Walks prog w A I (I::l::hs.map (·.1)) [I] ac.size (λi v=>ac[ac.size - 1 - i]?=some v) (λi h=>i<=ac.size/\h.IsRevIter I l ((ac.size:Int) - 1 - (i:Int))/\h.IsList l ac/\∀ p∈hs,h.get? p.1=some p.2) where
 sub:=λb hb=>by simp at hb;simp[hb]
 frame:=λ_ _ _ x Y=>⟨x.1,x.2.1.at λo e=>Y I (by simp) o e,x.2.2.1.at λo e=>Y l (by simp) o e,λp hp=>Y p.1 (AV _ (AV _ (GF hp))) p.2 (x.2.2.2 p hp)⟩
 item:=λi s Q E hi x j=>by
  have e:(ac.size:Int) - 1 - (i:Int)=((ac.size - 1 - i:Nat):Int):=by lia
  have c:=x.2.1;rw[e] at c;have hx:ac[ac.size - 1 - i]?=some (ac[ac.size - 1 - i]'(by lia)):=BZ (by lia);refine wpAny_pyNext_rev_item c x.2.2.1 hx λh' f d=>?_
  have e2:((ac.size - 1 - i:Nat):Int) - 1=(ac.size:Int) - 1 - ((i+1:Nat):Int):=by lia
  rw[e2] at f;exact j _ h' s.toks hx ⟨hi,f,x.2.2.1.at λo eo=>(d.2 l ag).trans eo,λp hp=>(d.2 p.1 (hn p hp)).trans (x.2.2.2 p hp)⟩ λb o hb eo=>d.extBut b o (λh=>hb (by simp[h])) eo
 done:=λs Q E x j=>by
  have e:(ac.size:Int) - 1 - (ac.size:Int) = -1:=by lia
  have c:=x.2.1;rw[e] at c;rcases hh with hh | ⟨e,hh,hc⟩
  ·exact wpAny_pyNext_rev_end hh c λh' a=>j h' s.toks λb o hb eo=>a b o (λh=>hb (by simp[h])) eo
  ·exact Sw hh (hc _ x.2.2.2) c λh' a=>j h' s.toks λb o hb eo=>a b o (λh=>hb (by simp[h])) eo
 self:=λ_ _ _ _ x j=>wpAny_pyIter_revIter x.2.1 j
end PySem
variable{T:PySem.Addr}{ix:PySem.Expr}
namespace L2
open PySem PySem.Spec PyProof.Rows
section
variable{X:Cx}{f:Zzu}
theorem Yt(h:Ff)(o:Obj):(h.push o).objs.size=h.objs.size+1:=by cases h;exact Array.size_push ..
def RO(fs:Zzv):Ev->C1 (Z Dat):=λenv=>match fs env with
 | some [.lst xs]=>some xs.reverse
 | _=>none
theorem Y0.rev:∀ {xs:Z V} {us:Z A1},Y0 xs us->Y0 xs.reverse us.reverse
 | [],[],_=>.nil
 | x::xs,u::us,.cons h r=>by rw[IH,IH];exact(Y0.rev r).append (.cons h .nil)
theorem pC{p1 M q2:Pos}(r:Gl X "list")(x:X.mg "list" = none)(y:Gl X "reversed")(z:X.mg "reversed" = none)(ha:O1 true X [e] fs)(hc:MU X:=by first | exact MU.calm rfl | (exact MM.n ‹_›) | assumption)
   (G:bootBuiltins "list" = some (.type "list"):=by ext) (P:bootBuiltins "reversed" = some (.type "reversed"):=by ext)
   (m:starEach [.Call (.Name "reversed" p2) [e] [] q2] X.env=[(false,eval (.Call (.Name "reversed" p2) [e] [] q2) X.env)]:=by rfl)
   (ac:starEach [e] X.env=[(false,eval e X.env)]:=by rfl) :
   MH X (.Call (.Name "list" p1) [.Call (.Name "reversed" p2) [e] [] q2] [] M) (RO fs):=by
 intro aa s σ H Q I ⟨env,R,A,ds,k,e1,q⟩;unfold RO at e1;split at e1
 case h_2=>cases e1
 rename_i xs j;cases e1;refine Call_ (Jd I r x G (callWith_type1 ?_ m rfl));rw[m];refine JB ?_;refine Call_ (Jd I y z P (callWith_type1 (Wo (ha q2 aa s σ H (λvs H1=>∃ v,Zp H H1/\vs=[v]/\Pk X.K A H1 (.lst xs) v) I ⟨env,R,A,[.lst xs],k,j,λvs H1 s1 r1=>?_⟩) λus s1 ⟨vs,H1,I1,r1,v,sm,ev,pv⟩=>?_) ac rfl))
 · obtain⟨v,e3,p1⟩:=r1.one
   exact⟨v,s1,e3,p1⟩
 subst ev;obtain⟨a,ys,ea,h1,r2⟩:=pv.lst;subst ea;obtain⟨u,rfl,N⟩:=Qf r1;cases N;obtain⟨its,h,pl,hz⟩:=I1.list h1.sq;refine call_reversed_list pl.isList ?_;refine JK ?_;have ae:=I1.hok;obtain⟨D,d,_⟩:=id pl.isList;have ag:a≠s1.heap.objs.size:=BG (AN d);obtain⟨hs,g,t⟩:=da (show HdS X.A.in1.in1 s1.heap from hc _ _ _ _ I1);have f:∀ p∈hs,s1.heap.get? p.1=some p.2:=λp hp=>(t p hp).1
 have ap:∀ p∈hs,p.1≠s1.heap.objs.size:=λp hp=>BG (AN (f p hp))
 have W:=(Walks.listRevH (prog:=X.prog) (w:=X.w) (A:=X.A.in1.in1) hs g s1.heap.objs.size a ag ap its.toArray).toS;have J:=h.length;refine Cj W (T:="list_reverseiterator") (λi s st=>st.2.1.typeIs) (.inr rfl) (jW _ _ λs st=>st.2.1.typeIs) ⟨CP _,?_,pl.isList.at λo eo=>AB _ eo,λp hp=>AB _ (f p hp)⟩ ?_ (by simp) ?_ ?_
 · refine⟨_,AQ _ rfl,rfl,?_⟩
   simp[revObj]
 · intro b hb
   rcases AZ.mp hb with rfl | hb
   · rw[Yt];exact DK _
   · rcases AZ.mp hb with rfl | hb
     · exact AR (AN d) (by rw[Yt];lia)
     · obtain⟨p,hp,rfl⟩:=CL.mp hb
       exact AR (AN (f p hp)) (by rw[Yt];lia)
 · intro h' tk c c' Y hl hi
   have kp:∀ b o,s1.heap.get? b=some o->h'.get? b=some o:=λb o F=>Y b o (λhm=>by
     have ae:=AN F;rw[AJ.mp hm] at ae;exact DA _ ae) (AB _ F)
   have B:c.toList=its.reverse:=by
     apply II;intro i;by_cases E:i<its.length
     · have C:i<c.size:=by rw[hi.1];simpa using E
       have:=hi.2 i c[i] (by simp[C]);rw[DP,BZ C,List.getElem?_reverse E];simpa using this.symm
     · rw[EJ (l:=c.toList) (by rw[BD,hi.1];simpa using E),EJ (l:=its.reverse) (by rw[IT];exact IE E)]
   generalize hS:({ heap:=s1.heap.push (revObj a ((its.toArray.size:Int) - 1)),gens:=s1.gens,drawn:=s1.drawn,toks:=s1.toks,os:=s1.os }:A4).heap.objs.size=S at hl ⊢;have af:s1.heap.objs.size<=S:=by
     rw[← hS];show _<=(Heap.push _ _).objs.size;rw[Yt];exact DH _
   have I2:C' X aa σ (Yr H1 S (.lst ys.reverse)) { s1 with heap:=h',toks:=tk }:=I1.laid kp af (show Yl X.prog X.w _ h' _ (.lst ys.reverse) from⟨by rw[IT];exact hz,c.toList,c',by rw[B];exact h.rev,by rw[Array.toArray_toList];exact hl⟩);exact⟨.ref S,_,I2,rfl,(q.mono sm).at (vs:=ys.reverse) (by rw[IT,← Zw r2];exact hz) (oZ r2) _ (I1.hok.fresh af)⟩
 · rw[AU,← J];exact hz
def TH:Z Dat->C1 Dat
 | [.int i]=>some (.int i)
 | [.bl b]=>some (.int (if b then 1 else 0))
 | _=>none
theorem d4:G9 X (.type "int") TH:=gy.weak λvs H Q zz=>by
 obtain⟨A,ds,d,mu,e,p,q⟩:=zz;unfold TH at e;split at e
 ·obtain⟨v,e1,p1⟩:=p.one
  cases e;exact .inl ⟨_,by rw[e1,p1.int],q.here Yq⟩
 ·obtain⟨v,e1,p1⟩:=p.one
  cases e;exact .inr ⟨_,by rw[e1,p1.bl],q.here Yq⟩
 ·cases e
def WC:Dat->Dat->C1 Dat
 | .str x,.int k=>if 1<=k/\k<=1000/\x.length<=1000 then some (.str (Txt.mul x k)) else none
 | _,_=>none
theorem eW(x:Array α)(c:α):∀ (n:Nat) (B:Array α),c∈(List.replicate n x).foldl (·++·) B->c∈B\/c∈x
 | 0,B,h=>.inl h
 | n+1,B,h=>by
  rw[List.replicate_succ,List.foldl_cons] at h;rcases eW x c n _ h with h | h
  ·rcases Array.mem_append.mp h with h | h
   ·exact .inl h
   ·exact .inr h
  ·exact .inr h
theorem jt{x:Str}{k:Int}(h:PyData.strOk x=true):PyData.strOk (Txt.mul x k)=true:=by
 unfold Txt.mul;split
 ·unfold PyData.strOk Str.empty;simp
 ·split
  ·exact h
  ·unfold PyData.strOk at h ⊢
   rw[JD] at h ⊢;intro c hc;rcases eW x.cps c _ _ hc with z | z
   ·simp at z
   ·exact h c z
theorem lC:R0 X (binaryOp .Mult) WC:=λaa s σ H x y v u Q I S m zz=>by
 obtain⟨A,a,b,d,mu,e,p1,p2,q⟩:=zz;unfold WC at e;split at e
 ·rename_i z k
  split at e
  ·rename_i hz
   cases e;obtain⟨e1,k1⟩:=p1.str;have e2:=p2.int;subst e1 e2;obtain⟨t,rfl⟩:=S;obtain⟨t',rfl⟩:=m;have hl:(Txt.mul z k).length<=1000*1000:=len_mul_leN hz.2.2 hz.2.1;refine SB.mul (mulOk_of 1000 1000 hz.2.2 hz.2.1 (by lia) (by decide) (by decide)) λt' k'=>⟨.str (Txt.mul z k),H,I.tok _,⟨_,rfl⟩,q.here (Sj (LV.of (jt k1.ok) (BC hl (by decide))))⟩
  ·cases e
 ·cases e
def Km:Dat->Dat->C1 Dat
 | .int i,.int j=>d6 (.int i) (.int j)
 | .str x,.int k=>WC (.str x) (.int k)
 | _,_=>none
theorem Gz:R0 X (binaryOp .Mult) Km:=R0.or jo lC λx y d e=>by
 unfold Km at e;split at e
 ·exact .inl e
 ·exact .inr e
 ·cases e
end
end L2
namespace L2
open PySem
section
variable{g:Array GenState}{d:Drawn}{t:Nat}{os:OsState}
variable{nm q:Str}{N:A2}{bs aF:Z A1}{sub:Z A1}{aL:String}
theorem Ft(T:OwnTail h [.type "ValueError",.type "Exception",.type "BaseException",.type "object"] bm){e t0:A2}{x:A1}{Q:J1}
  (hC:h.get? C=some (excClassObj nm q C N bs bm hdct sn sub ab col dd k0 k1 k2 k3 k5 newId)) (he:h.get? e=some { cls:=.ref C,dict:=dct,data:=.fields #[.ref t0,.none,.none,.none,.bool false,.none] })
  (hq:∀ h',h'.get? e=some { cls:=.ref C,dict:=dct,data:=.fields #[.ref h.objs.size,.none,.none,.none,.bool false,.none] }->(∀ b o,b≠e->h.get? b=some o->h'.get? b=some o)->h.objs.size<=h'.objs.size->Q .none ⟨h',g,d,t,os⟩) :
  wpAny (model prog w) A (call (.builtin "ValueError.__init__") [.ref e,x]) Q E ⟨h,g,d,t,os⟩:=by
 have F:=EI;refine FK (ET F.init.plain F.initEntry (wpAny_check_init_subU F T hC he rfl ?_));have a:=AB { cls:=.type "tuple",data:=.seq #[x] } he
 wp_walk
 refine hq _ ?_ ?_ ?_
 ·rw[BI _ a rfl]
  rfl
 ·intro b o hb c
  rw[BA _ _ (AO hb)];exact AB _ c
 ·rw[Heap.size_after_update,EU];exact DH _
end
end L2
variable{aJ:Bool}
namespace L2
open PySem PySem.Spec PyProof.Rows PySem.W
open PySem.Builtin PySem.Builtin.ObjectAttr
def Qe:Z A1:=[.type "ValueError",.type "Exception",.type "BaseException",.type "object"]
section
variable{K:Frag}{x a b:A2}{cd:ClassData}{R:Result->A4->Prop}
theorem bS{g:Obj}{od:C1 Obj}(X:K.In s.heap)(I:InstAt s.heap x g C od)(hc:clsIn K C=some cd)(hm:cd.mro=.ref a::.ref b::Qe)(ha:findIn K (.ref C) name=some none)
  (h:wpAny (model prog w) A.in1 (storeInOwnDict (.ref x) (.ref C) (.str name tk) name v false)
   (λfin s'=>match fin with | .done f=>R (.ok f) s' | .again c'=>c'.quiet=true/\codeAny (model prog w) A c' R s') (λe s'=>R (.error e) s') s) :
  codeAny (model prog w) A (.call (.builtin "object.__setattr__") ⟨[.ref x,.str name tk,v],[]⟩) R s:=by
 have c:=PySem.F.store_object;have sub:Looks (model prog w) s.heap (isInstance (.ref x) (.type "object")) true:=I.type.andThen (looks_mroIn X (by unfold mroIn;rw[hc,Option.bind_some,hm];rfl));refine ET c.slot.plain c.entry (@check_slot (model prog w) _ _ s "object.__setattr__" "object" "__setattr__" (.ref x) [.str name tk,v] [] _ c.kind c.split sub (c.args (.ref x) (.str name tk) v) ?_);have d:Looks (model prog w) s.heap (mroOf (.ref C)) cd.mro:=(looks_clsIn X hc).andThen .now;rw[osa_eq,refuse_eq];refine AA (AA (I.type.here (AA (d.here ?_))));rw[hm,refuseLoop_ref,refuseLoop_ref,show Qe=[.type "ValueError",.type "Exception",.type "BaseException",.type "object"] from rfl,PySem.F.store_ValueError.passes];refine AC (AA (I.type.here (AA ((looks_findIn X ha).here (AA ?_)))));exact AC h
end
section
variable{g:Array GenState}{d:Drawn}{t:Nat}{os:OsState}{x:A2}{oC:Obj}{cd:ClassData}
theorem kx{o:Obj}{Q:Fin->A4->Prop}(hx:h.get? x=some o)(hc:o.cls=.ref C)(f:∀ c,o.data≠.cls c)(X:o.dict=none)(hC:h.get? C=some oC)(af:oC.data=.cls cd)(J:cd.hasDict=true)
   (hq:∀ h' N,h'.get? x=some { cls:=o.cls,dict:=some h.objs.size,data:=o.data,slots:=o.slots }->h'.Ns1 h.objs.size (λy=>if y=name then some v else none)->(∀ b ob,b≠x->h.get? b=some ob->h'.get? b=some ob)->h.objs.size<h'.objs.size->Q (.done (.ret .none)) ⟨h',g,d,N,os⟩) :
   wpAny (model prog w) A (storeInOwnDict (.ref x) (.ref C) (.str name tk) name v false) Q E ⟨h,g,d,t,os⟩:=by
 unfold storeInOwnDict;repeat (first | (with_reducible refine BE hx ?_;rw[hc]) | with_reducible refine BE hC ?_ | wp_step)
 rw[af];refine AC ?_;rw[J,AL (by decide),X];show wpAny _ _ (if(!true||!typeHasDict (Value.ref C))=true then pure none else _) _ _ _;rw[AL (by simp[typeHasDict])];have hx₁:(h.push { cls:=.type "dict",data:=.dict #[] }).get? x=some o:=AB _ hx;have q:x≠h.objs.size:=BG (AN hx);split
 · rename_i c p
   exact absurd p (f c)
 · refine AA (wpAny_alloc' ?_)
   refine AA (wpAny_update' hx₁ ?_);refine AC ?_;have r:((h.push { cls:=.type "dict",data:=.dict #[] }).update x λo=>{ cls:=o.cls,dict:=some h.objs.size,data:=o.data,slots:=o.slots }).get? h.objs.size
       = some { cls:=.type "dict",data:=.dict #[] } :=
     (Heap.get?_update_ne _ _ _ _ q.symm).trans (Heap.get?_push_at rfl rfl)
   have T:((h.push { cls:=.type "dict",data:=.dict #[] }).update x λo=>{ cls:=o.cls,dict:=some h.objs.size,data:=o.data,slots:=o.slots }).Ns h.objs.size (λ_=>none) :=
     ⟨_,#[],_,r,rfl,λe he=>absurd he (by simp),λ_=>rfl⟩
   show wpAny _ _ (storeInDict h.objs.size (.str name tk) name v) _ _ _;unfold storeInDict newKeyGuard;refine AA (AC (AA (wpAny_nsSet1 (Heap.Ns1.of_empty T) λh' F hs=>?_)));obtain⟨n,s,u,a,j,k⟩:=F.count (Within.cons name v Within.nil);refine AA (wpAny_lookBehind a (by rw[j];exact pastItsLine_dict (BC k (by rw[BH,HJ,EF];lia))) ?_)
   wp_walk
   have ai:h'.get? x=some { cls:=o.cls,dict:=some h.objs.size,data:=o.data,slots:=o.slots }:=by
     refine(hs.2 x q).trans (BI _ hx₁ ?_);have i:=(Heap.get?_some_iff.mp hx).2;obtain⟨oc,od,z,m⟩:=o;cases z<;>first | rfl | exact i
   refine hq h' _ ai F (λb ob l hb=>?_) ?_
   · exact(hs.2 b (BG (AN hb))).trans ((Heap.get?_update_ne _ _ _ _ l).trans (AB _ hb))
   · have h1:=hs.1
     rw[Heap.size_after_update,EU] at h1;lia
theorem nQ{o:Obj}{ns:Z Str}{Q:Fin->A4->Prop}(hx:h.get? x=some o)(hc:o.cls=.ref C)(m:o.dict=some dx)(B:h.Ns1 dx mA)(hw:Within mA ns)(hsz:ns.length<=1000)(hC:h.get? C=some oC)(af:oC.data=.cls cd)(J:cd.hasDict=true)
   (hq:∀ h' N,h'.Ns1 dx (λy=>if y=name then some v else mA y)->(∀ b ob,b≠dx->h.get? b=some ob->h'.get? b=some ob)->h.objs.size<=h'.objs.size->Q (.done (.ret .none)) ⟨h',g,d,N,os⟩) :
   wpAny (model prog w) A (storeInOwnDict (.ref x) (.ref C) (.str name tk) name v false) Q E ⟨h,g,d,t,os⟩:=by
 unfold storeInOwnDict;repeat (first | (with_reducible refine BE hx ?_;rw[hc]) | with_reducible refine BE hC ?_ | wp_step)
 rw[af];refine AC ?_;rw[J,AL (by decide),m];refine AC ?_;show wpAny _ _ (storeInDict dx (.str name tk) name v) _ _ _;unfold storeInDict newKeyGuard;refine AA (AC (AA (wpAny_nsSet1 B λh' F hs=>?_)));obtain⟨n,s,u,a,j,k⟩:=F.count (Within.cons name v hw);refine AA (wpAny_lookBehind a (by rw[j];exact pastItsLine_dict (BC k (by rw[BH,EF];lia))) ?_)
 wp_walk
 exact hq h' _ F (λb ob l hb=>(hs.2 b l).trans hb) (by have h1:h'.objs.size=h.objs.size:=hs.1;lia)
end
open PySem.Builtin PySem.Builtin.ObjectAttr
section
variable{g:Array GenState}{d:Drawn}{t:Nat}{os:OsState}{x:A2}{oC o:Obj}{cd:ClassData}{K:Frag}
theorem lp{Q:Fin->A4->Prop}(X:K.In h)(hx:h.get? x=some o)(hc:o.cls=.ref C)(f:∀ c,o.data≠.cls c)(m:o.dict=some dx)(B:h.Ns1 dx mA)(hv:mA name=some v)
   (hf:findIn K (.ref C) name=some none) (hC:h.get? C=some oC) (af:oC.data=.cls cd) (J:cd.hasDict=true) (hq:Q (.done (.ret v)) ⟨h,g,d,t,os⟩) :
   wpAny (model prog w) A (Builtin.«object.__getattribute__» ⟨[.ref x,.str name tk],[]⟩) Q E ⟨h,g,d,t,os⟩:=by
 have b:=looks_findIn (M:=model prog w) X hf;unfold Builtin.«object.__getattribute__»;repeat (first | (with_reducible refine BE hx ?_;rw[hc]) | with_reducible refine b.at ?_ | wp_step)
 split
 · rename_i c p
   exact absurd p (f c)
 unfold instanceDict;repeat (first | (with_reducible refine BE hx ?_;rw[hc]) | with_reducible refine BE hC ?_ | wp_step)
 rw[af];refine AC ?_;rw[J,AL (by decide),m];refine AC ?_;unfold inDict;repeat (first | (with_reducible refine wpAny_nsGet B.ns ?_;rw[hv]) | wp_step)
 exact hq
theorem pf{R:Result->A4->Prop}(X:K.In h)(hx:h.get? x=some o)(hc:o.cls=.ref C)(f:∀ c,o.data≠.cls c)(m:o.dict=some dx)(B:h.Ns1 dx mA)(hv:mA name=some v)
  (hf:findIn K (.ref C) name=some none) (hC:h.get? C=some oC) (af:oC.data=.cls cd) (J:cd.hasDict=true) (p:Looks (model prog w) h (isInstance (.ref x) (.type "BaseException")) true) (hq:R (.ok (.ret v)) ⟨h,g,d,t,os⟩) :
  codeAny (model prog w) A (.call (.builtin "BaseException.__getattribute__") ⟨[.ref x,.str name tk],[]⟩) R ⟨h,g,d,t,os⟩:=by
 have Y:builtinKind "BaseException.__getattribute__" = some .slot:=by ext
 have a:splitId "BaseException.__getattribute__" = some ("BaseException","__getattribute__"):=by ext
 refine ET PySem.F.excAttr_ValueError.ga.plain PySem.F.entry_bexc_ga (@check_slot (model prog w) _ _ ⟨h,g,d,t,os⟩ "BaseException.__getattribute__" "BaseException" "__getattribute__" (.ref x) [.str name tk] [] _ Y a p (PySem.F.args_bexc_ga (.ref x) (.str name tk)) ?_);exact lp X hx hc f m B hv hf hC af J hq
theorem qP{a:Bool}{Q:J1}(X:K.In h)(hx:h.get? x=some o)(hc:o.cls=.ref C)(f:∀ c,o.data≠.cls c)(m:o.dict=some dx)(B:h.Ns1 dx mA)(hv:mA name=some v)
   (hf:findIn K (.ref C) name=some none) (hC:h.get? C=some oC) (af:oC.data=.cls cd) (J:cd.hasDict=true) (p:Looks (model prog w) h (isInstance (.ref x) (.type "BaseException")) true)
   (e:findIn K (.ref C) "__getattribute__" = some (some (.builtin "BaseException.__getattribute__"))) (i:findIn K (.ref C) "__getattr__" = some none) (hh:handedOut v=pure v) (hq:Q v ⟨h,g,d,t+1,os⟩) :
   wpAny (model prog w) A (getAttr (.ref x) name a) Q E ⟨h,g,d,t,os⟩:=by
 have b:=looks_findIn (M:=model prog w) X e;have L2:=looks_findIn (M:=model prog w) X i;have f3:=PySem.F.excAttr_ValueError.ga.bind (.ref x);have hx0:(a&&onTheHeap (Value.builtin "BaseException.__getattribute__"))=false:=by cases a<;>rfl
 have j:(Value.builtin "BaseException.__getattribute__" == Value.builtin "object.__getattribute__")=false:=by ext
 have k:(onTheHeap (Value.ref C)&&Value.builtin "BaseException.__getattribute__" == Value.builtin "object.__getattribute__")=false:=by rw[j];rfl
 unfold getAttr;repeat (any_goals (first | assumption | (with_reducible refine BE hx ?_;rw[hc]) | with_reducible refine b.at ?_ | with_reducible refine L2.at ?_ | wp_step))
 refine pf X hx hc f m B hv hf hC af J p ?_;show wpAny _ _ (handedOut v) _ _ _;rw[hh];exact AC hq
end
open PySem.Builtin PySem.Builtin.ObjectAttr
section
variable{g:Array GenState}{d:Drawn}{t:Nat}{os:OsState}{x:A2}{o:Obj}{K:Frag}
theorem pz{R:Result->A4->Prop}(hx:h.get? x=some o)(hc:o.cls=.ref C)(hs:Looks (model prog w) h (isSubtype (.ref C) (.type "object")) true)(hq:R (.ok (.ret (.ref C))) ⟨h,g,d,t,os⟩) :
   codeAny (model prog w) A (.call (.builtin "getset_descriptor.__get__") ⟨[.builtin "object.__class__",.ref x,.ref C],[]⟩) R ⟨h,g,d,t,os⟩:=by
 have a:(⟨h,g,d,t,os⟩:A4).TypeIs (.builtin "object.__class__") "getset_descriptor" := GK;have b:Looks (model prog w) h (isSubtype (.ref C) (.type (".".intercalate ("object.__class__".cutAt '.').dropLast))) true:=by rw[PySem.F.owner_object_class];exact hs
 refine ET PySem.F.slot_gs_get.plain PySem.F.entry_gs_get (PySem.F.slot_gs_get.check _ _ _ _ _ _ _ _ a (PySem.F.args_gs_get _ _ _) ?_);repeat (any_goals (first | assumption | (with_reducible refine BE hx ?_;rw[hc]) | with_reducible refine b.at ?_ | wp_step))
 refine⟨FY _ (by ext),CV PySem.F.entry_object_class ?_⟩;repeat (any_goals (first | assumption | (with_reducible refine BE hx ?_;rw[hc]) | wp_step))
theorem py{Q:Fin->A4->Prop}(X:K.In h)(hx:h.get? x=some o)(hc:o.cls=.ref C)(ha:findIn K (.ref C) "__class__" = some (some (.builtin "object.__class__")))(hs:Looks (model prog w) h (isSubtype (.ref C) (.type "object")) true)(hq:Q (.done (.ret (.ref C))) ⟨h,g,d,t,os⟩) :
   wpAny (model prog w) A (Builtin.«object.__getattribute__» ⟨[.ref x,.str "__class__" tk],[]⟩) Q E ⟨h,g,d,t,os⟩:=by
 have a:(⟨h,g,d,t,os⟩:A4).TypeIs (.builtin "object.__class__") "getset_descriptor" := GK;have b:=looks_findIn (M:=model prog w) X ha;have l:=GK;have f6:=PySem.F.slot_gs_get.lookup;have f7:=PySem.F.slot_gs_set.lookup;repeat (any_goals (first | assumption | (with_reducible refine BE hx ?_;rw[hc]) | with_reducible refine b.at ?_ | wp_step))
 refine pz hx hc hs ?_;repeat (any_goals (first | assumption | wp_step))
theorem pN(X:K.In h)(hx:h.get? x=some o)(hc:o.cls=.ref C)(ha:findIn K (.ref C) "__class__" = some (some (.builtin "object.__class__")))(hs:Looks (model prog w) h (isSubtype (.ref C) (.type "object")) true)
   (p:Looks (model prog w) h (isInstance (.ref x) (.type "BaseException")) true) (e:findIn K (.ref C) "__getattribute__" = some (some (.builtin "BaseException.__getattribute__"))) (i:findIn K (.ref C) "__getattr__" = some none) (hq:Q (some (.ref C)) ⟨h,g,d,t+1,os⟩) :
   wpAny (model prog w) A (getAttr? (.ref x) "__class__") Q E ⟨h,g,d,t,os⟩:=by
 have b:=looks_findIn (M:=model prog w) X e;have L2:=looks_findIn (M:=model prog w) X i;have f3:=PySem.F.excAttr_ValueError.ga.bind (.ref x);have j:(Value.builtin "BaseException.__getattribute__" == Value.builtin "object.__getattribute__")=false:=by ext
 have k:(onTheHeap (Value.ref C)&&Value.builtin "BaseException.__getattribute__" == Value.builtin "object.__getattribute__")=false:=by rw[j];rfl
 have Y:builtinKind "BaseException.__getattribute__" = some .slot:=by ext
 have a:splitId "BaseException.__getattribute__" = some ("BaseException","__getattribute__"):=by ext
 unfold getAttr? getAttrBy?;repeat (any_goals (first | assumption | (with_reducible refine BE hx ?_;rw[hc]) | with_reducible refine b.at ?_ | with_reducible refine L2.at ?_ | wp_step))
 refine ET PySem.F.excAttr_ValueError.ga.plain PySem.F.entry_bexc_ga (@check_slot (model prog w) _ _ ⟨h,g,d,t+1,os⟩ "BaseException.__getattribute__" "BaseException" "__getattribute__" (.ref x) [.str "__class__" t] [] _ Y a p (PySem.F.args_bexc_ga (.ref x) (.str "__class__" t)) ?_);refine py X hx hc ha hs ?_;repeat (any_goals (first | assumption | wp_step))
structure I7 (K:Frag) (C:Addr):Prop where
 cd:∃ cd,clsIn K C=some cd/\cd.hasDict=true/\∃ a b,cd.mro=.ref a::.ref b::Qe
 cl:findIn K (.ref C) "__class__" = some (some (.builtin "object.__class__"))
 ga:findIn K (.ref C) "__getattribute__" = some (some (.builtin "BaseException.__getattribute__"))
 gh:findIn K (.ref C) "__getattr__" = some none
 sa:findIn K (.ref C) "__setattr__" = some (some (.builtin "object.__setattr__"))
theorem I7.sub(c:I7 K C)(X:K.In h)(T:String)(hT:Qe.contains (.type T)=true){M:Model}:Looks M h (isSubtype (.ref C) (.type T)) true:=by
 obtain⟨cd,hc,_,a,b,hm⟩:=c.cd;have x:Value.type T∈Qe:=by simpa using hT
 exact looks_mroIn X (by unfold mroIn;rw[hc,Option.bind_some,hm];simp[x])
theorem I7.ld(c:I7 K C)(X:K.In h):∃ oC cd,h.get? C=some oC/\oC.data=.cls cd/\cd.hasDict=true:=by
 obtain⟨cd,hc,hd,_⟩:=c.cd;unfold clsIn at hc;split at hc
 ·rename_i c' d' Q sl' ho
  cases hc;exact⟨_,_,X _ _ ho,rfl,hd⟩
 ·cases hc
def jA(x C:A2)(h:Ff):Prop:=∃ o,h.get? x=some o/\o.cls=.ref C
theorem qK(c:I7 K C):KitX K (.ref x) (.ref C) (jA x C) where
 ty:=λM h _ ⟨o,h1,h2⟩=>h2▸(Looks.ld h1).andThen .now
 it:=λM h X _=>by
  obtain⟨oC,cd,h1,h2,_⟩:=c.ld X;intro A' Q' E' s' k q;unfold isType loadHead;refine AA (wpAny_loadPart (k _ _ h1) ?_);rw[h2];exact AC q
 ne:=λh tp dd its n sl X a=>by
  obtain⟨oC,cd,h1,h2,_⟩:=c.ld X;refine JO.mpr λq=>?_
  have e:C=tp:=Value.ref.inj (DO.mp q);subst e;rw[h1] at a;cases a;cases h2
 ca:=λ{prog w A E Q s} X p k=>by
  obtain⟨o,h1,h2⟩:=p;obtain⟨h,g,d,t,os⟩:=s;exact pN X h1 h2 c.cl (c.sub X "object" (by decide)) ((h2▸(Looks.ld h1).andThen .now:Looks _ _ (typeOf (.ref x)) (.ref C)).andThen (c.sub X "BaseException" (by decide))) c.ga c.gh k
end
end L2
namespace L2
open PySem PySem.Spec PyProof.Rows
theorem Kr(ok:Ms P w H h)(k:Aa l ch h h')(hc:∀ b∈ch,H b=none)(hf:∀ b∈Eu l,H b=none):Ms P w H h':=λa o e=>by
 have ah:∀ b u,H b≠none->h.get? b=some u->h'.get? b=some u:=λb u n q=>(k b u q λz=>n (hc b z)).1 λz=>n (hf b z)
 exact(ok a o e).stay (λb u z q=>ah b u (by rcases z with z | z<;>simp_all) q) (λ_ q=>q) λ_ _ q=>q
theorem YH(k:Aa l ch h h')(hc:∀ b∈ch,H b=none):Un (Eu l) ch H H h h' where
 keep:=λb o q n hf hx=>(k b o q hx).1 hf
 slot:=λb o q n hf hx=>(k b o q hx).2
 free:=λb o q n hx=>n
 there:=λb o q hx=>by obtain⟨sl,z⟩:=(k b o q hx).2;exact⟨_,z⟩
 tups:=λb xs q=>q
 frzs:=λb o u q=>q
 tbls:=λb ps q=>⟨#[],by simpa using q⟩
def MC(P:Df)(w:D1)(base:Ff)(pl:Bool:=false):A3:=λouter H s E ev s'=>∃ e C dct T H' c2,ev=.ref e/\s'.os=s.os/\AllBare s'.gens/\Un (Eu outer) [] H H' s.heap s'.heap/\Ms P w H' s'.heap /\
 s.heap.objs.size<=e/\s.heap.objs.size<=T/\H' e=none/\H' T=none/\N8 s'.heap base e T (.ref C,c2) dct .none/\OK pl H' c2/\Fu H H' dct/\E (.ref C) dct H'
theorem C'.noBase{X:Cx}(I:C' X aa σ H s){e:A2}(h:X.s₀.heap.objs.size<=e):X.base.get? e=none:=by
 cases q:X.base.get? e with
 | none=>rfl
 | some o=>exact absurd (AN (I.ok.bs e o q).1) (FB.mpr h)
theorem Ii{Y:Cx}{N:Z Str}{E:XK}{e:A2} 
  (I:C' (T6 (MC P w base pl) P w K mg base N ai scope f cd A outer s H E) aa σ H' s') (x:QY Y aa H' s'.heap e C dct) (t:Y={ T6 (MC P w base pl) P w K mg base N ai scope f cd A outer s H E with pl:=pl }) (ae:Fu H H' dct) (q:E (.ref C) dct H') :
  (T6 (MC P w base pl) P w K mg base N ai scope f cd A outer s H E).xe (.ref e) s':=by
 subst t;have i:(A.deeper (envOfC ai scope s.heap.objs.size f cd)).frames=some (envOfC ai scope s.heap.objs.size f cd::outer):=I.ok.frames;have hl:s'.heap.FunFrames base (envOfC ai scope s.heap.objs.size f cd::outer):=I.stack;have d:base.StaysIn s'.heap:=I.bk;have lo:s.heap.objs.size<=e:=x.lo;have F:base.get? e=none:=I.noBase x.lo;have bs:Un (Eu outer) [] H H' s.heap s'.heap:=I.base;have g:∀ b∈Eu (envOfC ai scope s.heap.objs.size f cd::outer),H' b=none:=I.stkFree;have fin:∀ (h':Ff) (T':A2) (c2:C1 A1) (ch:Z A2),OK pl H' c2->(∀ b∈ch,H' b=none/\s.heap.objs.size<=b)->s.heap.objs.size<=T'->H' T'=none->N8 h' base e T' (.ref C,c2) dct .none->Aa (envOfC ai scope s.heap.objs.size f cd::outer) ch s'.heap h' ->
   MC P w base pl outer H s E (.ref e) { s' with heap:=h' }:=λh' T' c2 ch af R hT h ht kp=>by
  have a:∀ {b:A2} {o:Obj},s.heap.get? b=some o->b∉ch:=λ{b o} q z=>absurd (AN q) (FB.mpr (R b z).2)
  have c:∀ {b:A2} {o:Obj},s.heap.get? b=some o->b∉Eu outer->b∉Eu (envOfC ai scope s.heap.objs.size f cd::outer):=λ{b o} q n z=>by
   rcases AZ.mp (I.stkSub b z) with e1 | e1
   ·have:b=s.heap.objs.size:=e1
    exact absurd (AN q) (by rw[this];exact DA _)
   ·exact n e1
  refine⟨e,C,dct,T',H',c2,rfl,I.os,I.bare,⟨?_,?_,?_,?_,bs.tups,bs.frzs,bs.tbls⟩,Kr I.hok kp (λb z=>(R b z).1) g,lo,hT,x.un,h,ht,af,ae,q⟩
  ·exactλb o q n hf hx=>(kp b o (bs.keep b o q n hf hx) (a q)).1 (c q hf)
  ·intro b o q n hf hx
   obtain⟨sl,z⟩:=bs.slot b o q n hf hx;obtain⟨sl',J⟩:=(kp b _ z (a q)).2;exact⟨sl',J⟩
  ·exactλb o q n hx=>bs.free b o q n hx
  ·intro b o q hx
   obtain⟨o',z⟩:=bs.there b o q hx;obtain⟨sl,J⟩:=(kp b o' z (a q)).2;exact⟨_,J⟩
 have sz:s.heap.objs.size<=s'.heap.objs.size:=I.sz;rcases x.ob with⟨o,vs,he,hc,hd,G,h1,hp⟩ | ⟨T,c2,hT,h,_,ht,hp⟩
 ·refine im i hl rfl he d F G h1 λh' T' k z1 z2 W z4=>?_
  rw[hc,hd] at W;exact fin h' T' _ [e] (hp.v (I.ok.hd rfl)) (λb hb=>by rw[AJ.mp hb];exact⟨x.un,lo⟩) (BC sz k) (I.hok.fresh k) W z4
 ·refine mS i hl rfl ht d F λh' T' k z1 z2 W z4=>?_
  refine fin h' T' _ [e,T] (hp.v (I.ok.hd rfl)) (λb hb=>?_) (BC sz k) (I.hok.fresh k) W z4;rcases AZ.mp hb with e1 | e1
  ·rw[e1];exact⟨x.un,lo⟩
  ·rw[AJ.mp e1];exact⟨h,hT⟩
def RB(K:G8)(fr:Bool)(R:AS)(H:Hp)(Q:VK)(E:XK):Rs->Prop
 | .ok d=>∀ v H',Zp H H'->Rp K (av H' R) d v->(fr=true->UK K ⟨H,R,true⟩ H' d v)->Q v H'
 | .exc c fs=>∀ C dct H',Zp H H'->Yy K c C->LU K (av H' R) dct fs->E (.ref C) dct H'
 | .no=>False
def mJ(K:G8)(fr:Bool)(p:Nat)(F:Z Dat->Rs):Sp:=λvs H Q E=>vs.length=p/\∃ ds R,Ul R H/\Wf K (av H R) ds vs/\RB K fr R H Q E (F ds)
structure MG (P:Program) (w:World) (K:G8) (mg:J') (base:Heap) (k:Nat) (x:Str) (ps:List Str) (fr:Bool) (F:List Dat->Rs) (pl:Bool:=false):Prop where
 ex:∃ f fd,J3 P w K mg base (MC P w base pl) k f fd ps (mJ K fr ps.length F)/\mg x=some (.ref f)/\PySem.W.keepIn K (.ref f)=true/\M5 K fd ps []
 len:∀ ds,F ds≠.no->ds.length=ps.length
theorem LY.okX{x:Str}{st:C4}{N:Z Str}(F:LY K x ai st f fd)(S:FnScope N ps (Z7 st))(len:∀ vs H Q E,sp vs H Q E->vs.length=ps.length)
  (a:∀ (aj:A1) (A:C0) (outer:Z Gf) (s:A4) (H:Hp) (vs:Z V) (Q:VK) (E:XK),G2 k (A.deeper (envOfC ai (Z7 st) s.heap.objs.size f aj))->sp vs H Q E ->
   ∃ t,Sv (T6 CX P w K mg base N ai (Z7 st) f aj A outer s H E) (Yb st) t/\t { nx:=λ_ H'=>Q .non H',rt:=Q } (G' N vs) H):J3 P w K mg base CX (k+1) f fd ps sp:=by
 obtain⟨oc,od,kV,au,pm,an,aj,ct,m,rfl,lk,af⟩:=F.ex;exact YZ lk af S len λA outer s H vs Q E hr j=>a aj A outer s H vs Q E hr j
theorem Lr{n p:Nat}(h:Y9 n p g ds≠.no):ds.length=p:=by
 unfold Y9 at h;split at h
 ·assumption
 ·exact absurd rfl h
theorem me{N:Z Str}{E:XK}{p:Nat}{R:AS}{Q:VK}(hp:p<=N.length)(mu:Ul R H)(r:Wf K (av H R) ds vs)
  (q:RB K fr R H Q E (Y9 N.length p g ds)) :
  tS fr (T6 (MC P w base) P w K mg base N ai scope f cd A outer s H E) g (KX.mk (λ_ H'=>Q .non H') Q (λ_ _=>False) (λ_ _=>False)) (G' N vs) H:=by
 unfold Y9 at q;split at q
 ·rename_i hl
  refine⟨Ui N.length ds,⟨H,R,true⟩,R,K1 mu r (by lia),rfl,?_⟩;split at q
  ·rename_i d' e
   rw[e];exactλv H' s r n=>q v H' s r n
  ·rename_i env e
   rw[e];exactλA' H' σ' s k=>q .non H' k.h0 Ln (λ_ ds e=>by cases e)
  ·rename_i env c fs e
   rw[e];exactλA' H' σ' st k aa s' e C dct I hc x hf ae=>Ii I x rfl ae (q C dct H' k.h0 hc (hf.mono (Ts k.ra)))
  ·exact q.elim
 ·exact q.elim
theorem mX{x:Str}{st:C4}{N:Z Str}(D:NZ K mg x st)(S:FnScope N ps (Z7 st))
  (j:dV x st ps)
  (hb:∀ (f:A2) (aj:A1) (A:C0) (outer:Z Gf) (s:A4) (H:Hp) (E:XK),G2 k (A.deeper (envOfC x (Z7 st) s.heap.objs.size f aj))->Xs fr (T6 (MC P w base) P w K mg base N x (Z7 st) f aj A outer s H E) (Yb st) g) :
  MG P w K mg base (k+1) x ps fr (Y9 N.length ps.length g):=by
 have ac:ps.length<=N.length:=by have:=DY List.length S.pre;rw[CM] at this;lia
 obtain⟨f,fd,F,hm⟩:=D.ex;refine⟨⟨f,fd,F.okX S (λvs H Q E h=>h.1) λaj A outer s H vs Q E hr ⟨hl,ds,R,mu,r,q⟩=>⟨_,hb f aj A outer s H E hr,?_⟩,hm,F.kp,F.binds j⟩,λds h=>Lr h⟩;exact me ac mu r q
section
variable{X:Cx}{F:Z Dat->Rs}{x:Str}{es:Z C3}
def QT(X:Cx)(fr:Bool)(F:Z Dat->Rs)(fs:Zzv):TE:=λσ H Q=>∃ env B A ds,F' X.K B A H σ env/\fs env=some ds/\match F ds with
 | .ok d=>∀ v H',Zp H H'->Rp X.K (av H' A) d v->Q v H'
 | .exc c fl=>∀ A' H' σ',G0 A H A' H'->F' X.K B A' H' σ' env->σ'=σ->XW X B.H₀ A' H' σ' c fl
 | .no=>False
theorem Np(C:MG X.prog X.w X.K X.mg X.base k x ps fr F pl)(hr:G2 k X.A)(ha:O1 false X (e::es) fs)(hg:Gl X x:=by rfl)
  (P:C2 x:=by decide) (he:Z0 X.env e es:=by rfl) (ac:Z1 pos X.env es:=by rfl) (hp:X.pl=true->pl=true:=by first | exactλ_=>rfl | exactλz=>nomatch z) :
  PE X (.Call (.Name x p) (e::es) [] pos) (QT X fr F fs):=by
 obtain⟨f,fd,i,hm,Y,hb⟩:=C.ex;intro aa s σ H Q I ⟨env,B,A,ds,kk,e1,q⟩;refine CN (V8 I hg hm ?_ P);refine GA (h₀:=X.base) I.ok.mod.kin Y (Wo (ha pos aa s σ H (λvs H1=>Zp H H1/\Wf X.K (av H1 A) ds vs) I ⟨env,B,A,ds,kk,e1,λvs H1 s1 rs=>⟨s1,rs.rps⟩⟩) λus s1 ⟨vs,H1,I1,r,sm,rs⟩=>⟨I1.kIn,?_⟩) he ac;have ag:F ds≠.no:=λz=>by rw[z] at q;exact q
 have hl:us.length=ps.length:=by rw[← r.length,Zw rs];exact C.len ds ag
 let E:XK:=λcls dct H'=>∃ c fl C,F ds=.exc c fl/\cls=.ref C/\Yy X.K c C/\Zp H1 H'/\LU X.K (av H' A) dct fl
 refine FK (EG (i.run X.A X.stack s1 H1 ⟨us,[]⟩ us vs Q E hr I1.env0 (by simpa using hb s1 us I1.kIn (by simpa using hl)) r ⟨by rw[Zw rs];exact C.len ds ag,ds,A,kk.mu.mono sm,rs,?_⟩) λl s' hq=>?_)
 ·unfold RB
  split
  ·rename_i d hd
   rw[hd] at q;exactλv H' s2 r2 _=>q v H' (sm.trans s2) r2
  ·rename_i c fl hd
   exactλC dct H' s2 hc hf=>⟨c,fl,C,hd,rfl,hc,s2,hf⟩
  ·rename_i hd
   exact ag hd
 ·cases l with
  | error ev =>
   obtain⟨ex,C,dct,T,H',c2,rfl,ho,m,un,hok,h1,h2,h3,h4,ht,af,ae,c,fl,g,M,n,hc,j,hf⟩:=hq;cases n;rw[M] at q;have I2:C' X aa σ H' s':=I1.call' (ch:=[]) ho un hok m (λb z=>absurd z (by simp));have sz:X.s₀.heap.objs.size<=s1.heap.objs.size:=I1.sz;have np:∀ {a:A2},s1.heap.objs.size<=a->∀ p∈X.pn++aa,p.1≠a:=λ{a} ha p hp z=>by
    have:=(I1.pin p hp).1;rw[z] at this;exact absurd (AN this) (FB.mpr ha)
   exact q A H' σ (G0.same (sm.trans j)) (kk.mono (sm.trans j)) rfl aa s' ex C dct I2 hc ⟨BC sz h1,h3,.inr ⟨T,c2,BC sz h2,h4,np h2,ht,af.x hp⟩,np h1⟩ hf (ae.mono λb z=>kk.h0.none (sm.none z))
  | ok fl =>
   cases fl with
   | ret u=>exact I1.after hq
   | next=>exact False.elim hq
   | brk=>exact False.elim hq
   | cont=>exact False.elim hq
def Kk(i:Nat)(F:Z Dat->Rs)(fs:Zzv):Ev->Fl:=λenv=>match fs env with
 | none=>.no
 | some ds=>match F ds with
  | .ok d=>.next (env.set i (.fz d))
  | .exc c fl=>.exc env c fl
  | .no=>.no
theorem V'(i:Nat)(hN:X.N.Nodup)(he:PE X e (QT X aJ F fs))(hi:X.N[i]?=some x:=by rfl)(hx:LZ X.env.scope x:=by ext)(hs:swapsWith e (some (.Name x am)) pos.line X.env=pure false:=by rfl)
  (hf:X.fn x=true\/X.env.scope.names.lookup x=some .local:=by ext):En fr X (.Assign [.Name x am] e pos) (Kk i F fs):=(L0 hN hi hx he hs hf).weak λD σ H zz=>by
 obtain⟨env,B,A,k,l,q⟩:=zz;unfold Kk at q;split at q
 ·exact q.elim
 rename_i ds e1;refine⟨env,B,A,ds,k,e1,?_⟩;split at q
 ·rename_i d hd
  exactλv H' s r=>q A H' _ (G0.same s) ((k.mono s).put i r)
 ·rename_i c fl hd
  exactλA' H' σ' s k' _=>q A' H' σ' s k'
 ·exact q.elim
def SD(F:Z Dat->Rs)(fs:Zzv):Ev->Fl:=λenv=>match fs env with
 | none=>.no
 | some ds=>match F ds with
  | .ok d=>.ret d
  | .exc c fl=>.exc env c fl
  | .no=>.no
theorem l4(he:PE X e (QT X aJ F fs)):En false X (.Return (some e) pos) (SD F fs):=(UX he).weak λD σ H zz=>by
 obtain⟨env,B,A,k,l,q⟩:=zz;unfold SD at q;split at q
 ·exact q.elim
 rename_i ds e1;refine⟨env,B,A,ds,k,e1,?_⟩;split at q
 ·rename_i d hd
  exactλv H' s r=>q v H' (SX k s r).1 (SX k s r).2 (λz=>by cases z)
 ·rename_i c fl hd
  exactλA' H' σ' s k' _=>q A' H' σ' s k'
 ·exact q.elim
end
variable{vs:Z C3}
theorem jG:∀ i:Fin 1000,(Str.ofString (toString (i.val:Int))).length<=3:=by ext
theorem O5{i:Int}(h0:0<=i)(h1:i<1000):(Str.ofString (toString i)).length<=3:=by
 have:=jG ⟨i.toNat,by lia⟩;have e:((i.toNat:Nat):Int)=i:=by lia
 rw[e] at this;exact this
theorem O0:∀ (ts:Z Str) (k:Nat) (B:Str),(textFrom k B ts).length<=B.length+piled ts
 | [],k,B=>by rw[piled_nil];exact AT _
 | t::ts,k,B=>by
  have h:=O0 ts (k+1) (B++(if k > 0 then ", " else "" : String)++t);rw[piled_cons];have e:(B++(if k > 0 then ", " else "" : String)++t).length<=B.length+2+t.length:=by
   rw[GT,GT];have:(Str.ofString (if k > 0 then ", " else "")).length<=2:=by split<;>decide
   lia
  show(textFrom (k+1) (B++(if k > 0 then ", " else "" : String)++t) ts).length<=_;lia
def D4(ns:Z Int):Prop:=ns.length<=500/\∀ n∈ns,0<=n/\n<1000
theorem oY(h:D4 ns):(PyData.shown (.list (ns.map PyData.int))).length<=3000:=by
 have ah:∀ ns:Z Int,(∀ n∈ns,0<=n/\n<1000)->piled (PyData.shownAll (ns.map PyData.int))<=5*ns.length:=by
  intro ns;induction ns with
  | nil=>intro _;simp[PyData.shownAll,piled_nil]
  | cons n ns ih =>
   intro hn;have h1:=ih λm hm=>hn m (AV _ hm)
   have h2:=hn n AW;rw[CC,PyData.shownAll,piled_cons,BH];have:(PyData.shown (.int n)).length<=3:=by rw[PyData.shown];exact O5 h2.1 h2.2
   lia
 have Y:=ah ns h.2;have h5:=h.1;rw[PyData.shown];show(textFrom 0 "[" _++"]").length<=_;rw[GT];have:=O0 (PyData.shownAll (ns.map PyData.int)) 0 "[";have e1:(Str.ofString "[").length=1:=by decide
 have e2:(Str.ofString "]").length=1:=by decide
 lia
theorem Dl:∀ {ns:Z Int},(∀ n∈ns,0<=n/\n<1000)->PyData.showableAll (ns.map PyData.int)=true
 | [],_=>by simp[PyData.showableAll]
 | n::ns,h=>by
  have h2:=h n AW;rw[CC,PyData.showableAll,Dl λm hm=>h m (AV _ hm),Bool.and_true,PyData.showable];have h3:n.natAbs<2^1920:=AR (show n.natAbs<2^10 by lia) (CY (by decide) (by decide));by_cases h0:n.natAbs=0
  ·rw[h0];decide
  ·exact AK ((Nat.log2_lt h0).mpr h3)
theorem Nm:∀ (ns:Z Int),PyData.hasDictAll (ns.map PyData.int)=false
 | []=>by simp[PyData.hasDictAll]
 | n::ns=>by rw[CC,PyData.hasDictAll,Nm ns,PyData.hasDict];rfl
theorem Pl:∀ (ns:Z Int),PyData.depthAll (ns.map PyData.int)=0
 | []=>by simp[PyData.depthAll]
 | n::ns=>by rw[CC,PyData.depthAll,Pl ns,PyData.depth];rfl
theorem Pq:∀ {ns:Z Int} {its:Z A1},Y0 (ns.map V.int) its->ReadsAll h its (ns.map PyData.int) []
 | [],[],_=>.nil
 | [],_::_,r=>by have:=r.length;simp at this
 | _::_,[],r=>by have:=r.length;simp at this
 | n::ns,v::its,r=>by
  cases r with
  | cons h1 r' =>
   obtain⟨t,rfl⟩:=h1;exact .cons (as:=[]) (bs:=[]) (.int n t) (Pq r')
section
variable{X:Cx}
def WE(K:G8)(te:TE)(r:TJ):TJ:=λσ H B Q=>te σ H λx H1=>((∃ i:Int,x=.int i/\0<=i/\i<1000)\/∃ a ns,x=.ref a/\SL K H1 a (ns.map V.int)/\D4 ns)/\B.length<=100000/\∀ y:Str,y.length<=3000->r σ H1 (B++y) Q
theorem Ca(hr:G1 k X.A)(he:PE X e te)(b:PJ X vs r):PJ X (.FormattedValue e (-1) none pos::vs) (WE X.K te r):=by
 intro aa s σ H B Q I hz h;refine joinParts_cons (FormattedValue_plain (Wo (he aa s σ H _ I h) λv s1 ⟨x,H1,I1,r1,hx,af,q⟩=>?_));have M:∀ y:Str,y.length<=3000->(B++y).length<=sizeLine:=λy hy=>by rw[GT,EF];lia
 rcases hx with⟨i,rfl,h0,h1⟩ | ⟨a,ns,rfl,hS,c⟩
 ·obtain⟨t,rfl⟩:=r1
  have hy:(Str.ofString (toString i)).length<=3000:=BC (O5 h0 h1) (by decide);refine formatField_int_small ?_ ⟨M _ hy,b aa _ σ H1 _ Q (I1.tok _) (M _ hy) (q _ hy)⟩;by_cases d:i.natAbs=0
  ·rw[d];decide
  ·exact(Nat.log2_lt d).mpr (AR (show i.natAbs<2^10 by lia) (CY (by decide) (by decide)))
 ·cases r1
  obtain⟨its,n,w1,g1,_⟩:=hS.get I1;have hy:=oY c;have rd:Reads s1.heap (.ref a) (.list (ns.map PyData.int)) [a]:=.list g1 rfl rfl (by simpa using Pq w1);refine formatField_of_reads (h₀:=s1.heap) rd (by rw[PyData.showable];exact Dl c.2) (PyData.noDict_hsm (by rw[PyData.hasDict];exact Nm ns)) hr.gd (by rw[PyData.depth,Pl];have:=hr.un;lia) (λ_ _ q=>q) (λh' u tk Y=>?_) (BC hy (by decide));exact⟨M _ hy,b aa _ σ H1 _ Q (I1.kept Y) (M _ hy) (q _ hy)⟩
theorem Ly(hr:G2 k X.A)(he:PE X e te)(b:PJ X vs r):PJ X (.FormattedValue e (-1) none pos::vs) (WE X.K te r):=Ca hr.n he b
end
end L2
variable{T':PySem.Addr}{pn:IA}{σ1:L2.St}
namespace L2
open PySem PySem.Spec PyProof.Rows PySem.W
theorem mT{K:Frag}{N:A2}{n:Str}(X:K.In h)(G:h.Ns N mg)(e:nsIn K N n=some (some v)):mg n=some v:=by
 obtain⟨o,es,ep,ho,hd,_,hf⟩:=G;unfold nsIn at e;split at e
 ·rename_i c d i g sl q
  have:=X _ _ q;rw[ho] at this;cases this;cases hd;split at e
  ·rename_i j he
   cases e;rw[← hf];unfold nsFind findBy;rw[← Array.find?_toList,he];rfl
  ·split at e<;>cases e
 ·cases e
def R5(K:Frag)(C fI D:A2):Bool:=match K.lookup C with
 | some ⟨.type "type",_,.cls cd,sl⟩=>(match cd.mro,sl.toList with
  | .ref g::bm,[_,_,_,_,some (.builtin n),_]=>g==C&&n=="ValueError.__new__" && !cd.hasDel&&cd.hasDict&&bm==.ref D::Qe&&tailIn K Qe bm&&nsOkIn K cd.ns&&nsIn K cd.ns "__init__" == some (some (.ref fI))
  | _,_=>false)
 | _=>false
theorem Xx{K:Frag}{D:A2}(X:K.In h)(q:R5 K C fI D=true):∃ nm qn N bs sn sub ab col dd k0 k1 k2 k3 k5 mN,
  h.get? C=some (excClassObj nm qn C N bs (.ref D::Qe) true sn sub ab col dd k0 k1 k2 k3 k5 "ValueError.__new__")/\h.Ns N mN/\mN "__init__" = some (.ref fI)/\OwnTail h Qe (.ref D::Qe):=by
 unfold R5 at q;split at q
 ·rename_i dd cd sl ho
  split at q
  ·rename_i g bm k0 k1 k2 k3 n k5 hm hs
   simp only[AY,DO,JP] at q;obtain⟨⟨⟨⟨⟨⟨⟨rfl,rfl⟩,b⟩,a⟩,rfl⟩,ht⟩,hok⟩,c⟩:=q;obtain⟨nm,bs,mro,ns,qn,hd,sn,sub,ab,col,del⟩:=cd;dsimp only at hm b hok c a;subst hm b a;have af:sl=#[k0,k1,k2,k3,some (.builtin "ValueError.__new__"),k5]:=by
    obtain⟨l⟩:=sl;simp only at hs;rw[hs]
   subst af;have G:h.Ns ns (h.nsMap ns):=.of_isNs (isNs_of_in X hok);exact⟨nm,qn,ns,bs,sn,sub,ab,col,dd,k0,k1,k2,k3,k5,_,X _ _ ho,G,mT X G c,tail_of_in X ht⟩
  ·cases q
 ·cases q
def G4(e C:A2)(dct:C1 A2)(h:Ff):Prop:=∃ t:A2,h.get? e=some { cls:=.ref C,dict:=dct,data:=.fields #[.ref t,.none,.none,.none,.bool false,.none] }
theorem m6{a:A2}{o:HO}(h:H a=some o):Yr H a o=H:=by
 funext b;unfold Yr;split
 ·rename_i e;rw[e,h]
 ·rfl
theorem VC{e:A2}(x:G4 e C dct h):Yl P w H h e (.ext (G4 e C dct)):=by
 obtain⟨t,ht⟩:=x;exact⟨⟨t,ht⟩,⟨_,ht⟩,λh1 h2 ⟨t,q⟩ k=>⟨t,k _ q⟩⟩
structure LO (K:Frag) (mg:J') (D:Addr):Prop where
 mg:mg "CalmError" = some (.ref D)
 ga:specialIn K (.ref D) "__getattribute__" = some (some (.builtin "type.__getattribute__"))
 rd:readsIn K D (.type "type")=true
 fi:findCls K (.ref D) (.type "type") "__init__" = some (.val (.builtin "ValueError.__init__"))
section
variable{X:Cx}{es:Z C3}{t:TA}{D:A2}
def SF(K:Frag)(t:TA):TE:=λσ H Q=>t σ H λvs H1=>∃ e C dct v fI D,vs=[.ref e,v]/\H1 e=some (.ext (G4 e C dct))/\R5 K C fI D=true/\Q .non H1
theorem Il{pl:Sem Bool}(B:LO X.K X.mg D)(ha:PA X (e::es) t)(hg:Gl X "CalmError" := by rfl)(he:Z0 X.env e es:=by rfl)(ac:Z1 pos X.env es:=by rfl)
  (ht:eval (.Call (.Attribute (.Name "CalmError" p) "__init__" aw) (e::es) [] pos) X.env=(do
   let E ← eval (.Name "CalmError" p) X.env
   standAt aw.atName
   let (f,first) ← holding [E] (getMethod E "__init__" pl)
   callWith pos f first (backTo pos (starEach (e::es) X.env)) (backToKw pos (keywordEach [] X.env))):=by rfl) :
  PE X (.Call (.Attribute (.Name "CalmError" p) "__init__" aw) (e::es) [] pos) (SF X.K t):=by
 intro aa s σ H Q I h;refine methodCall_KW (pl:=pl) (V8 I hg B.mg ?_ (by decide)) ht;refine method_cls I.kIn B.ga (cls_value I.kIn B.rd B.fi rfl ?_);refine PyProof.Rows.callWith_builtin1 (Wo (ha pos aa _ σ H _ (I.tok _) h) λus s1 ⟨vs,H1,I1,r,ex,C,dct,v,fI,D',ev,hx,hc,q⟩=>?_) he ac;subst ev;obtain⟨u,w',rfl,r1,r2⟩:=Bk r;cases r1;obtain⟨nm,qn,N,bs,sn,sub,ab,col,dd,k0,k1,k2,k3,k5,mN,hC,hN,hi,T⟩:=Xx I1.kIn hc;obtain⟨⟨t0,P⟩,_,_⟩:=(show Yl X.prog X.w H1 s1.heap ex (.ext (G4 ex C dct)) from I1.hok ex _ hx);obtain⟨hh,g,d,tk,os⟩:=s1;refine Ft T hC P λh' a Y hsz=>⟨.non,H1,?_,rfl,q⟩
 have:=I1.write (h':=h') (x:=ex) (e:=ex) (o:=.ext (G4 ex C dct)) (t':=tk) (by rw[hx];trivial) (.inl rfl) (λb u hb q=>Y b u hb q) ⟨_,a⟩ (VC ⟨_,a⟩);rw[m6 hx] at this;exact this
def TF(K:Frag)(ta tv:TE)(f:Str):TS:=λD σ H=>tv σ H λy H1=>ta σ H1 λx H2=>∃ a C dct fI D',x=.ref a/\H2 a=some (.ext (G4 a C dct))/\R5 K C fI D'=true/\I7 K C/\findIn K (.ref C) f=some none /\
 match dct with
 | none=>∀ dx,H2 dx=none->dx≠a->D.nx σ (Yr (Yr H2 a (.ext (G4 a C (some dx)))) dx (.xd [(f,y)]))
 | some dx=>False
theorem P0{o:C3}{f:Str}(ha:PE X o ta)(hv:PE X aq tv)(hs:swapsWith aq (some (.Attribute o f am)) pos.line X.env=pure false:=by rfl):PS X (.Assign [.Attribute o f am] aq pos) (TF X.K ta tv f):=by
 intro aa s σ H D I h;refine plainObj_wpAny_Assign_Attribute (Wo (hv aa s σ H _ I h) λu s1 ⟨y,H1,I1,m,q⟩=>Wo (ha aa s1 σ H1 _ I1 q) λE s2 ⟨x,H2,I2,S,a,C,dct,fI,D',ex,ea,hc,xc,hf,q2⟩=>?_) hs;subst ex;obtain rfl:E=Value.ref a:=S;cases dct with
 | some dx=>exact q2.elim
 | none =>
  obtain⟨⟨t0,P⟩,_,_⟩:=(show Yl X.prog X.w H2 s2.heap a (.ext (G4 a C none)) from I2.hok a _ ea);obtain⟨cd,af,J,r,t,hm⟩:=xc.cd;obtain⟨oC,Q,hC,p,A⟩:=xc.ld I2.kIn;have W:InstAt s2.heap a { cls:=.ref C,dict:=none,data:=.fields #[.ref t0,.none,.none,.none,.bool false,.none] } C none:=⟨P,rfl,rfl,trivial⟩;refine set_plain I2.kIn W xc.sa ?_;refine bS (s:={ s2 with toks:=s2.toks+1 }) I2.kIn W af hm hf ?_;obtain⟨hh,g,d,tk,os⟩:=s2;refine kx P rfl (λc z=>by cases z) rfl hC p A λh' N ai B Y hsz=>?_
  have ae:a<hh.objs.size:=AN P;have i:H2 hh.objs.size=none:=I2.hok.fresh (AT _);have G:hh.objs.size≠a:=IV ae;have j:∀ b,b≠a->b≠hh.objs.size->Yr (Yr H2 a (.ext (G4 a C (some hh.objs.size)))) hh.objs.size (.xd [(f,y)]) b=H2 b:=λb h1 h2=>by rw[Zc h2,Zc h1]
  have k:∀ {b:A2} {o:HO},H2 b=some o->b≠hh.objs.size:=λ{b o} q z=>by rw[z,i] at q;cases q
  have un:Un X.fs [] H2 (Yr (Yr H2 a (.ext (G4 a C (some hh.objs.size)))) hh.objs.size (.xd [(f,y)])) hh h':=by
   refine⟨λb o q n _ _=>Y b o (λz=>by rw[z,ea] at n;cases n) q,λb o q n _ _=>⟨o.slots,Y b o (λz=>by rw[z,ea] at n;cases n) q⟩,λb o q n _=>?_,λb o q _=>?_,λb xs q=>?_,λb o u q=>?_,λb ps q=>?_⟩
   ·rw[j b (λz=>by rw[z,ea] at n;cases n) (λz=>by rw[z] at q;exact absurd (AN q) (DA _))];exact n
   ·by_cases z:b=a
    ·subst z;exact⟨_,ai⟩
    ·exact⟨_,Y b o z q⟩
   ·rw[j b (λz=>by rw[z,ea] at q;cases q) (k q)];exact q
   ·rw[j b (λz=>by rw[z,ea] at q;cases q) (k q)];exact q
   ·exact⟨#[],by rw[j b (λz=>by rw[z,ea] at q;cases q) (k q)];simpa using q⟩
  have hok:Ms X.prog X.w (Yr (Yr H2 a (.ext (G4 a C (some hh.objs.size)))) hh.objs.size (.xd [(f,y)])) h':=by
   intro b o q;by_cases z2:b=hh.objs.size
   ·subst z2
    rw[Zg] at q;cases q;refine⟨_,B,λg=>?_⟩;show O8 (List.lookup g [(f,y)]) (if g=f then some u else none);by_cases e:g=f
    ·subst e;simp[List.lookup,O8];exact m
    ·have e':(g==f)=false:=by simpa using e
     simp[List.lookup,e',e,O8]
   ·by_cases z1:b=a
    ·subst z1
     rw[Zc z2,Zg] at q;cases q;exact VC ⟨t0,ai⟩
    ·rw[j b z1 z2] at q
     refine(I2.hok b o q).stay (λc v z w=>Y c v (λzz=>?_) w) (λc w=>?_) λc xs w=>?_
     ·rcases z with z | z
      ·exact z1 (z.symm.trans zz)
      ·rw[zz,ea] at z;cases z
     ·rw[j c (λzz=>by rw[zz,ea] at w;cases w) (k w)];exact w
     ·rw[j c (λzz=>by rw[zz,ea] at w;cases w) (k w)];exact w
  exact⟨σ,_,I2.un (h':=h') (t':=N) un hok,q2 _ i G⟩
end
variable{e:A2}{env:Ev}{v:V}{Q:Unit->A4->Prop}{h2:Ff}
def NJ(K:Frag)(C:A2)(p:Nat)(G:Z Dat->C1 (Z (Str×XD))):Sp:=λvs H Q _=>∃ e ws ds R fl,vs=.ref e::ws/\ws.length=p/\H e=some (.ext (G4 e C none))/\Ul R H/\R e=false/\Wf K (av H R) ds ws/\G ds=some fl /\
 ∀ H' dct,(∀ c o,c≠e->H c=some o->H' c=some o)->H' e=some (.ext (G4 e C dct))->LU K (av H' R) dct fl->Fu H H' dct->Q .non H'
structure LJ (P:Program) (w:World) (K:Frag) (mg:J') (base:Heap) (k:Nat) (c:Str) (p:Nat) (G:List Dat->Option (List (Str×XD))):Prop where
 ex:∃ C fI D fd ps,Yy K c C/\mg c=some (.ref C)/\keepIn K (.ref C)=true/\R5 K C fI D=true/\I7 K C/\isFn K (.ref fI)=true/\J3 P w K mg base Et k fI fd ps (NJ K C p G)/\M5 K fd ps []
 len:∀ ds fl,G ds=some fl->ds.length=p
 few:p<=10
theorem LU.of_ne{K:Frag}{fs:Z (Str×XD)}{g:Ff->Prop}(he:H e=some (.ext g))(k:∀ c o,c≠e->H c=some o->H' c=some o)(h:LU K H dct fs):LU K H' dct fs:=by
 have ne:∀ {c:A2} {o:HO},H c=some o->(∀ g,o≠.ext g)->H' c=some o:=λ{c o} q n=>k c o (λz=>by rw[z,he] at q;exact n _ (BF q).symm) q
 cases dct with
 | none=>exact h
 | some dx =>
  obtain⟨j,e1,e2⟩:=h;refine⟨j,ne e1 (λ_ z=>by cases z),λf=>(e2 f).imp id λ⟨d,v,a,b,c⟩=>⟨d,v,a,b,?_⟩⟩;cases d with
  | int i=>exact c
  | nums is =>
   obtain⟨a,z1,z2,W⟩:=c;refine⟨a,z1,?_,W⟩;rcases z2 with(z | ⟨o,z⟩) | z
   ·exact .inl (.inl (ne z (λ_ w=>by cases w)))
   ·exact .inl (.inr ⟨o,ne z (λ_ w=>by cases w)⟩)
   ·exact .inr z
def MP(H:Hp)(a:A2):Hp:=λb=>if b=a then none else H b
theorem Dq{a b:A2}(h:b≠a):MP H a b=H b:=by unfold MP;rw[AL h]
theorem K4{a:A2}:MP H a a=none:=by unfold MP;rw[AF rfl]
theorem Ie{a b:A2}(h:H b=none):MP H a b=none:=by unfold MP;split<;>first | rfl | exact h
theorem C'.drop{X:Cx}{a:A2}{g:Ff->Prop}(I:C' X aa σ H s)(ha:H a=some (.ext g)):C' X aa σ (MP H a) s:=by
 have ne:∀ {b:A2} {o:HO},H b=some o->(∀ g,o≠.ext g)->MP H a b=some o:=λ{b o} q n=>by rw[Dq (λz=>by rw[z,ha] at q;exact n _ (BF q).symm)];exact q
 refine⟨I.ok,I.os,I.bare,⟨I.base.keep,I.base.slot,λb o q n hx=>Ie (I.base.free b o q n hx),I.base.there,λb xs q=>ne (I.base.tups b xs q) (λ_ z=>by cases z),λb o u q=>ne (I.base.frzs b o u q) (λ_ z=>by cases z),λb ps q=>?_⟩,I.loc,I.cell,Ie I.free,λx c e=>Ie (I.freeC x c e),λp hp=>?_,λb o q=>?_,I.len⟩
 ·obtain⟨f,z⟩:=I.base.tbls b ps q
  exact⟨f,ne z (λ_ z=>by cases z)⟩
 ·obtain⟨h1,h2,h3⟩:=I.pin p hp
  exact⟨h1,Ie h2,h3⟩
 ·have hb:b≠a:=λz=>by rw[z,K4] at q;cases q
  rw[Dq hb] at q;exact(I.hok b o q).stay (λ_ _ _ w=>w) (λc w=>ne w (λ_ z=>by cases z)) λc xs w=>ne w (λ_ z=>by cases z)
theorem ZM{ex:A2}{o:HO}(h:Fu (Yr H ex o) H' dct)(hx:∃ g,H' ex=some (.ext g))(s:Zp H0 H):Fu H0 (MP H' ex) dct:=λdx e=>by
 have m:∀ b,Yr H ex o b=none->H0 b=none:=λb z=>by
  have hb:b≠ex:=λw=>by rw[w,Zg] at z;cases z
  rw[Zc hb] at z;exact s.none z
 refine⟨m _ (h dx e).1,λj f a q l=>?_⟩;have W:H' dx=some (.xd j):=by
  have hb:dx≠ex:=λw=>by rw[w,K4] at q;cases q
  rw[Dq hb] at q;exact q
 obtain⟨y1,xs,y2⟩:=(h dx e).2 j f a W l;refine⟨m _ y1,xs,?_⟩;have ha:a≠ex:=λw=>by
  obtain⟨g,hg⟩:=hx;rw[w,hg] at y2;cases y2
 rw[Dq ha];exact y2
theorem R6{a:A2}{o:HO}(h:H a=none):Zp H (Yr H a o):=λb u e=>by rw[Zc (λz=>by rw[z,h] at e;cases e)];exact e
section
variable{X:Cx}{e:C3}{es:Z C3}{n:Nat}{c:Str}
def Vy(c:Str)(G:Z Dat->C1 (Z (Str×XD)))(fs:Zzv):Ev->Fl:=λenv=>match (fs env).bind G with
 | none=>.no
 | some fl=>.exc env c fl
theorem Aq{A:AS}(M:LJ X.prog X.w X.K X.mg X.base k c n G)(hr:G2 (k+1) X.A)
  (I:C' X aa σ H s) (kk:F' X.K B A H σ env) (r:Y0 vs us) (rs:Wf X.K (av H A) ds vs) (hG:G ds=some fl) {C fI D:A2} (S:Yy X.K c C) (hx:R5 X.K C fI D=true) {fd:C5} {ps:Z Str} (af:isFn X.K (.ref fI)=true) (F:J3 X.prog X.w X.K X.mg X.base Et k fI fd ps (NJ X.K C n G)) (hb:M5 X.K fd ps [])
  (q:∀ H' σ',σ'=σ->Zp H H'->F' X.K B A H' σ env->XW X B.H₀ A H' σ c fl) :
  wpAny (model X.prog X.w) X.A (call (.ref C) us) (λv s'=>∃ ex t dct,v=.ref ex/\(∃ o,s'.heap.get? C=some o)/\s'.heap.get? ex=some { cls:=.ref C,dict:=dct,data:=.fields #[.ref t,.none,.none,.none,.bool false,.none] }/\X.K.In s'.heap/\X.xe (.ref ex) s') X.xe s:=by
 obtain⟨nm,qn,N,bs,sn,sub,ab,col,dd,k0,k1,k2,k3,k5,mN,hC,hN,hi,T⟩:=Xx I.kIn hx;have f:∃ y,s.heap.get? fI=some y/\y.cls=.type "function" := by
  have:=DO.mp af;obtain⟨y,h1,h2⟩:=Option.map_eq_some_iff.mp this;exact⟨y,I.kIn _ _ h1,h2⟩
 obtain⟨y,f,R⟩:=f;have J:us.length<=sizeLine:=by
  have h1:=r.length;have h2:=Zw rs;have h3:=M.len ds fl hG;have h4:=M.few;exact DX (U5 (by lia))
 obtain⟨hh,g,d,tk,os⟩:=s;refine Xd (hrest:=J) EI (by decide) EI T hC hN hi f R λh' ex m hm=>?_
 obtain⟨t0,P,_,_⟩:=hm.there;have i:H ex=none:=I.hok.fresh m;have I2:C' X aa σ (Yr H ex (.ext (G4 ex C none))) ⟨h',g,d,tk,os⟩:=I.laid (h':=h') (t':=tk) (a:=ex) (o:=.ext (G4 ex C none)) hm.keeps m (VC ⟨t0,P⟩);have x:A ex=false:=by
  cases z:A ex with
  | false=>rfl
  | true=>obtain⟨o,ho⟩:=(kk.mu ex z).some;rw[i] at ho;cases ho
 have h:Zp H (Yr H ex (.ext (G4 ex C none))):=R6 i;let Q':VK:=λv H'=>v=.non/\∃ dct,(∀ c o,c≠ex->Yr H ex (.ext (G4 ex C none)) c=some o->H' c=some o)/\H' ex=some (.ext (G4 ex C dct))/\LU X.K (av H' A) dct fl/\Fu (Yr H ex (.ext (G4 ex C none))) H' dct
 have j:NJ X.K C n G (.ref ex::vs) (Yr H ex (.ext (G4 ex C none))) Q' E0:=⟨ex,vs,ds,A,fl,rfl,by rw[Zw rs];exact M.len ds fl hG,Zg,kk.mu.mono h,x,rs.mono (Wv h),hG,λH' dct h1 h2 h3 h4=>⟨rfl,dct,h1,h2,h3,h4⟩⟩;have W:(Value.ref ex::us).length=ps.length:=by
  have e1:=F.len _ _ _ _ j;have e2:=r.length;rw[BH] at e1 ⊢;lia
 refine FK (EG (F.run _ X.stack ⟨h',g,d,tk,os⟩ _ ⟨Value.ref ex::us,[]⟩ (Value.ref ex::us) (V.ref ex::vs) Q' E0 (hr.make C us []) (I2.env0.make C us []) (by simpa using hb _ (Value.ref ex::us) I2.kIn (by simpa using W)) (.cons rfl r) j) λl s' hq=>?_);cases l with
 | error e=>exact False.elim hq
 | ok aq =>
  cases aq with
  | ret u =>
   obtain⟨v,H',I3,rv,ev,dct,h1,h2,h3,h4⟩:=I2.after hq;subst ev;have eu:u=.none:=rv;subst eu;refine⟨rfl,?_⟩;obtain⟨⟨t1,ag⟩,_,_⟩:=(show Yl X.prog X.w H' s'.heap ex (.ext (G4 ex C dct)) from I3.hok ex _ h2);have I4:=I3.drop h2;have sm:Zp H (MP H' ex):=λb o q=>by
    have hb:b≠ex:=λz=>by rw[z,i] at q;cases q
    rw[Dq hb];exact h1 b o hb (by rw[Zc hb];exact q)
   have E:X.s₀.heap.objs.size<=ex:=BC I.sz m;obtain⟨nm',qn',N',bs',sn',sub',ab',col',ac,k0',k1',k2',k3',k5',mN',Q,_,_,_⟩:=Xx I3.kIn hx;refine⟨ex,t1,dct,rfl,⟨_,Q⟩,ag,I3.kIn,?_⟩;refine q (MP H' ex) σ rfl sm (kk.mono sm) aa s' ex C dct I4 S ⟨E,K4,.inl ⟨_,_,ag,rfl,rfl,rfl,rfl,.inl rfl⟩,λp hp z=>?_⟩ ?_ (ZM h4 ⟨_,h2⟩ kk.h0)
   ·have:=(I.pin p hp).1
    rw[z] at this;exact absurd (AN this) (FB.mpr m)
   ·exact h3.of_ne (e:=ex) (Ws h2 x) λc o hc q=>Ws (by rw[Dq hc];exact(Q1 q).2) (Q1 q).1
  | next=>exact False.elim hq
  | brk=>exact False.elim hq
  | cont=>exact False.elim hq
theorem Op(M:LJ X.prog X.w X.K X.mg X.base k c n G)(hr:G2 (k+1) X.A)(hc:X.calm=true)(ha:O1 false X (e::es) fs)(hg:Gl X c:=by rfl)(P:C2 c:=by decide)
  (he:Z0 X.env e es:=by rfl) (ac:Z1 al X.env es:=by rfl):En fr X (.Raise (some (.Call (.Name c p) (e::es) [] al)) none pos) (Vy c G fs):=by
 intro aa s σ H D I ⟨env,B,A,kk,l,q⟩;obtain⟨C,fI,D',fd,ps,S,hm,Q,hx,xc,af,F,hb⟩:=M.ex;unfold Vy at q;split at q
 ·exact q.elim
 rename_i fl aj;obtain⟨ds,e1,hG⟩:=bind_some aj;obtain⟨nm,qn,N,bs,sn,sub,ab,col,dd,k0,k1,k2,k3,k5,mN,hC,hN,hi,T⟩:=Xx I.kIn hx;have ah:wpAny (model X.prog X.w) X.A (eval (.Call (.Name c p) (e::es) [] al) X.env) (λv s'=>∃ ex t dct,v=.ref ex/\(∃ o,s'.heap.get? C=some o)/\s'.heap.get? ex=some { cls:=.ref C,dict:=dct,data:=.fields #[.ref t,.none,.none,.none,.bool false,.none] }/\X.K.In s'.heap/\X.xe (.ref ex) s') X.xe s:=by
  refine CN (V8 I hg hm ?_ P);refine callWith_K (h₀:=X.base) I.ok.mod.kin Q (Wo (ha al aa s σ H (λvs H1=>Zp H H1/\Wf X.K (av H1 A) ds vs) I ⟨env,B,A,ds,kk,e1,λvs H1 s1 rs=>⟨s1,rs.rps⟩⟩) λus s1 ⟨vs,H1,I1,r,sm,rs⟩=>⟨I1.kIn,?_⟩) he ac;exact Aq M hr I1 (kk.mono sm) r rs hG S hx af F hb λH' σ' _ j k2=>q A H' σ (G0.same (sm.trans j)) k2
 rw[KL];refine AA (DL (Nb (C:=C) (nm:=nm) (q:=qn) (N:=N) (bs:=bs) (bm:=.ref D'::Qe) (hdct:=true) (sn:=sn) (sub:=sub) (ab:=ab) (col:=col) (dd:=dd) (k0:=k0) (k1:=k1) (k2:=k2) (k3:=k3) (k5:=k5) (newId:="ValueError.__new__") (by simp[Qe]) (I.ok.hd hc) (AA (BO ah (λv s₃ h₃=>AA (DL (AC ?_))) λ_ _ x=>x))));obtain⟨ex,t,dct,rfl,_,hex,f,a⟩:=h₃;obtain⟨o,lk⟩:∃ o,X.K.lookup C=some o:=by
  unfold R5 at hx;split at hx
  ·rename_i ho;exact⟨_,ho⟩
  ·cases hx
 have e2:=(I.kIn _ _ lk).symm.trans hC;cases e2;exact⟨ex,.ref t,dct,rfl,f _ _ lk,hex,a⟩
end
def Ux(ns:Z Int):Bool:=decide (ns.length<=500)&&ns.all λn=>decide (0<=n)&&decide (n<1000)
theorem Er(h:Ux ns=true):D4 ns:=by
 unfold Ux at h;rw[AY,CW] at h;refine⟨BM h.1,λn hn=>?_⟩;have:=h.2 n hn;rw[AY] at this;exact⟨BM this.1,BM this.2⟩
def gW(f:Str):Z Dat->C1 (Z (Str×XD))
 | [.lst xs]=>(U8 xs).bind λns=>if Ux ns=true then some [(f,.nums ns)] else none
 | _=>none
def OA(n:Nat)(σ:St)(H:Hp)(r:TJ):Prop:=∀ (B:Str) (Q:VK),B.length<=n->(∀ z,Q (.str z) H)->r σ H B Q
theorem Ot{n:Nat} :OA n σ H bC:=λB Q _ q=>q B
theorem Me{n:Nat}{c:Str}(hr:OA (n+c.length) σ H r)(h:n+c.length<=100000):OA n σ H (cy c r):=λB Q ha q=>by
 have e:(B++c).length=B.length+c.length:=GT _ _;exact⟨by rw[e,EF];lia,hr _ Q (by rw[e];lia) q⟩
theorem Jt{n:Nat}{K:Frag}(hr:OA (n+3000) σ H r)(h:n<=90000)(hv:σ[i]?=some (some v))(hs:(∃ i:Int,v=.int i/\0<=i/\i<1000)\/∃ a ns,v=.ref a/\SL K H a (ns.map V.int)/\D4 ns):OA n σ H (WE K (Ml i) r):=λB Q ha q =>
 ⟨v,hv,hs,by lia,λy hy=>hr _ Q (by rw[GT];lia) q⟩
section
variable{K:Frag}
end
section
variable{X:Cx}
theorem Om{M:Model}{x:Str}(I:C' X aa σ H s)(hN:X.N.Nodup)(hi:X.N[i]?=some x)(Y:X.env.kindOf x=some .local)
   (h:∀ s',C' X aa (σ.set i none) H s'->Q () s'):wpAny M A (do bindName X.env x .none;unbindBehindTheSuite X.env x pos) Q E s:=by
 obtain⟨m,hn,hl⟩:=id I.loc;have t:(X.env.scope.kind==.class||(X.env.scope.kind==.module&&X.env.locals != X.env.globals))=false:=by rw[I.ok.kind];rfl
 have cne:=I.cne;refine wpAny_nameGoes_keeps Y hn t λh' v F hs=>?_
 obtain⟨T,_,_,C,_⟩:=id hn;refine h _ ⟨I.ok,I.os,I.bare,⟨λb o e n hb hx=>?_,λb o e n hb hx=>?_,I.base.free,λb o e hx=>?_,I.base.tups,I.base.frzs,I.base.tbls⟩,⟨_,F,λj y B e1 e2 e3=>?_⟩,λy c e=>?_,I.free,I.freeC,λp hp=>?_,λb ob e=>?_,by simpa using I.len⟩
 · exact(hs.2 b (BG (AR (AN e) I.ok.above))).trans (I.base.keep b o e n hb hx)
 · obtain⟨sl,e1⟩:=I.base.slot b o e n hb hx
   exact⟨sl,(hs.2 b (BG (AR (AN e) I.ok.above))).trans e1⟩
 · obtain⟨o',e1⟩:=I.base.there b o e hx
   exact⟨o',(hs.2 b (BG (AR (AN e) I.ok.above))).trans e1⟩
 · by_cases hj:j=i
   · subst hj
     rw[BB] at e2;simp at e2
   · rw[GO (AO hj)] at e2
     obtain⟨D,r',q⟩:=hl j y B e1 e2 e3;refine⟨D,r',?_⟩;rcases q with⟨k,e⟩ | ⟨k,c,e,z⟩
     · refine .inl ⟨k,?_⟩
       have:y≠x:=λe=>hj (X5 hN e1 (e▸hi))
       simp[this,e]
     · exact .inr ⟨k,c,e,z.sameBut hs (cne y c e)⟩
 · obtain⟨w',z⟩:=I.cell y c e
   exact⟨w',z.sameBut hs (cne y c e)⟩
 · obtain⟨e,n,ne,G,d⟩:=I.pin p hp
   exact⟨(hs.2 p.1 ne).trans e,n,ne,G,d⟩
 · refine(I.hok b ob e).stay (λc w' hc q=>(hs.2 c ?_).trans q) (λ_ q=>q) λ_ _ q=>q
   rintro rfl;rcases hc with rfl | hc
   · rw[I.free] at e;cases e
   · rw[I.free] at hc;cases hc
theorem C'.track{a:A2}{o:HO}(I:C' X aa σ H s)(ha:H a=none)(lo:X.s₀.heap.objs.size<=a)(hl:a≠X.env.locals)(hc:∀ x c,X.env.cells.lookup x=some c->c≠a)(hp:∀ p∈X.pn++aa,p.1≠a)(ok:Yl X.prog X.w (Yr H a o) s.heap a o):C' X aa σ (Yr H a o) s:=by
 have sm:Zp H (Yr H a o):=R6 ha;refine⟨I.ok,I.os,I.bare,⟨I.base.keep,I.base.slot,λb ob q n hx=>?_,I.base.there,λb xs q=>sm _ _ (I.base.tups b xs q),λb o u q=>sm _ _ (I.base.frzs b o u q),λb ps q=>?_⟩,I.loc,I.cell,?_,λx c e=>?_,λp h=>?_,λb u q=>?_,I.len⟩
 ·rw[Zc (λz=>by rw[z] at q;exact absurd (AN q) (FB.mpr lo))]
  exact I.base.free b ob q n hx
 ·obtain⟨f,z⟩:=I.base.tbls b ps q
  exact⟨f,sm _ _ z⟩
 ·rw[Zc (AO hl)];exact I.free
 ·rw[Zc (hc x c e)];exact I.freeC x c e
 ·obtain⟨h1,h2,h3⟩:=I.pin p h
  exact⟨h1,by rw[Zc (hp p h)];exact h2,h3⟩
 ·by_cases z:b=a
  ·subst z;rw[Zg] at q;cases q;exact ok
  ·rw[Zc z] at q
   exact(I.hok b u q).stay (λ_ _ _ w=>w) (λc w=>sm _ _ w) λc xs w=>sm _ _ w
abbrev Cx.inTry(X:Cx)(pn:IA)(E:J1):Cx:={ X with pn:=pn,xe:=E }
abbrev Cx.inH(X:Cx)(pn:IA)(e:A2):Cx:={ X with A:=X.A.mark (some (.ref e)),calm:=false,pn:=pn,xe:=λ_ _=>False }
theorem C'.toTry(I:C' X aa σ H s):C' (X.inTry (X.pn++aa) E) [] σ H s :=
 ⟨⟨I.ok.mod,I.ok.kind,I.ok.glob,I.ok.blt,I.ok.above,I.ok.inj,I.ok.has,I.ok.cab,I.ok.hd,I.ok.frames,I.ok.stk,I.ok.exf,I.ok.bs,I.ok.bsz,I.ok.noex,I.ok.exfs,I.ok.funs,I.ok.frf⟩,I.os,I.bare,I.base,I.loc,I.cell,I.free,I.freeC,λp hp=>I.pin p (by simpa using hp),I.hok,I.len⟩
theorem C'.ofTry(ok:X.Ok)(I:C' (X.inTry (X.pn++aa) E) aA σ H s):C' X aa σ H s :=
 ⟨ok,I.os,I.bare,I.base,I.loc,I.cell,I.free,I.freeC,λp hp=>I.pin p (CI _ hp),I.hok,I.len⟩
theorem C'.toH(I:C' X aa σ H s):C' (X.inH (X.pn++aa) e) [] σ H s :=
 ⟨⟨I.ok.mod,I.ok.kind,I.ok.glob,I.ok.blt,I.ok.above,I.ok.inj,I.ok.has,I.ok.cab,(λz=>nomatch z),I.ok.frames,I.ok.stk,I.ok.exf,I.ok.bs,I.ok.bsz,I.ok.noex,I.ok.exfs,I.ok.funs,I.ok.frf⟩,I.os,I.bare,I.base,I.loc,I.cell,I.free,I.freeC,λp hp=>I.pin p (by simpa using hp),I.hok,I.len⟩
theorem C'.ofH(ok:X.Ok)(I:C' (X.inH (X.pn++aa) e) aA σ H s):C' X aa σ H s :=
 ⟨ok,I.os,I.bare,I.base,I.loc,I.cell,I.free,I.freeC,λp hp=>I.pin p (CI _ hp),I.hok,I.len⟩
end
theorem F'.clr{K:Frag}{A:AS}(k:F' K B A H σ env)(i:Nat):F' K B A H (σ.set i none) (env.set i .un):=by
 obtain⟨own,h1,h2,h4⟩:=k.sl;refine⟨k.h0,k.r0,k.ra,k.ar,k.mu,by rw[BJ,BJ];exact k.len,λl j d=>?_,own,h1,h2,λj s e=>?_⟩
 ·rw[BB]
  split
  ·split<;>simp
  ·exact k.np l j d
 ·rw[BB] at e
  split at e
  ·rename_i b
   split at e
   ·rename_i hl
    cases e;exact⟨none,by rw[BB,AF b,AF (by rw[k.len];exact hl)],trivial⟩
   ·cases e
  ·rename_i b
   obtain⟨x,e1,e2⟩:=h4 j s e;exact⟨x,by rw[BB,AL b];exact e1,e2⟩
def ZE(i:Nat):Fl->Fl
 | .next e=>.next (e.set i .un)
 | .brk e=>.brk (e.set i .un)
 | .cont e=>.cont (e.set i .un)
 | .ret d=>.ret d
 | .exc _ _ _=>.no
 | .no=>.no
def NB(g:Ev->Fl)(k:Ev->Str->Z (Str×XD)->Fl):Ev->Fl:=λenv=>match g env with
 | .exc env' c fl=>k env' c fl
 | r=>r
def RW(sub:Str->Bool)(i:Nat)(g h:Ev->Fl):Ev->Fl:=NB g λenv' c fl=>if sub c=true then ZE i (h (env'.set i (.fz (.exc c fl)))) else .no
abbrev Cx.pls(X:Cx)(b:Bool):Cx:={ X with pl:=b }
section
variable{X:Cx}{b:Bool}
theorem C'.pls(I:C' X aa σ H s):C' (X.pls b) aa σ H s :=
 ⟨⟨I.ok.mod,I.ok.kind,I.ok.glob,I.ok.blt,I.ok.above,I.ok.inj,I.ok.has,I.ok.cab,I.ok.hd,I.ok.frames,I.ok.stk,I.ok.exf,I.ok.bs,I.ok.bsz,I.ok.noex,I.ok.exfs,I.ok.funs,I.ok.frf⟩,I.os,I.bare,I.base,I.loc,I.cell,I.free,I.freeC,I.pin,I.hok,I.len⟩
theorem C'.unpls(I:C' (X.pls b) aa σ H s):C' X aa σ H s :=
 ⟨⟨I.ok.mod,I.ok.kind,I.ok.glob,I.ok.blt,I.ok.above,I.ok.inj,I.ok.has,I.ok.cab,I.ok.hd,I.ok.frames,I.ok.stk,I.ok.exf,I.ok.bs,I.ok.bsz,I.ok.noex,I.ok.exfs,I.ok.funs,I.ok.frf⟩,I.os,I.bare,I.base,I.loc,I.cell,I.free,I.freeC,I.pin,I.hok,I.len⟩
end
theorem Kc(k:Aa l ch h h')(hT:h.objs.size<=T')(y:∀ b o,h'.get? b=some o->b∉[T']->h2.get? b=some o):Aa l ch h h2:=λb o hb hc=>by
 obtain⟨k1,sl,k2⟩:=k b o hb hc;have f:b∉[T']:=λz=>by
  have e1:b=T':=by simpa using z
  rw[e1] at hb;exact absurd (AN hb) (FB.mpr hT)
 exact⟨λhl=>y b o (k1 hl) f,sl,y b _ k2 f⟩
structure Ld (X:Cx) (aa:IA) (σ:St) (H:Hp) (s:Shared) (e C T:Addr) (dct:Option Addr) (c2:Option Value):Prop where
 J:C' X aa σ H s
 sb:X.base.StaysIn s.heap
 ff:s.heap.FunFrames X.base (X.env::X.outer)
 tr:N8 s.heap X.base e T (.ref C,c2) dct .none
 lo:X.s₀.heap.objs.size<=e
 un:H e=none
 pe:∀ p∈X.pn++aa,p.1≠e
 tl:X.s₀.heap.objs.size<=T
 tn:H T=none
 tp:∀ p∈X.pn++aa,p.1≠T
section
variable{X:Cx}
theorem C'.nloc(J:C' X aa σ H s){a:A2}{o:Obj}{vs:Array A1}(ho:s.heap.get? a=some o)(hd:o.data=.fields vs):a≠X.env.locals/\∀ y c,X.env.cells.lookup y=some c->c≠a:=by
 refine⟨λz=>?_,λy c hc z=>?_⟩
 ·obtain⟨m,⟨o',es,ep,f,u,_⟩,_⟩:=J.loc
  rw[z,f] at ho;cases ho;rw[hd] at u;cases u
 ·obtain⟨v,o',f,u⟩:=J.cell y c hc
  rw[z,ho] at f;cases f;rw[hd] at u;cases u
theorem C'.kpx(J:C' X aa σ H s)(j:X.stack=X.env::X.outer)(kp:Aa (X.env::X.outer) ch s.heap h2)(R:∀ b∈ch,H b=none/\X.s₀.heap.objs.size<=b/\(∃ o vs,s.heap.get? b=some o/\o.data=.fields vs)/\∀ p∈X.pn++aa,p.1≠b):C' X aa σ H { s with heap:=h2 } :=
 J.call' (s':={ s with heap:=h2 }) (ch:=ch) rfl (by rw[j];exact YH kp λb hb=>(R b hb).1) (Kr J.hok kp (λb hb=>(R b hb).1) (by rw[← j];exact J.stkFree)) J.bare λb hb=>by
  obtain⟨_,h1,⟨o,vs,h2,h3⟩,h4⟩:=R b hb;have:=J.nloc h2 h3;exact⟨.inr h1,this.1,this.2,h4⟩
theorem Ld.land{M:Model}(Lq_:Ld X aa σ H s e C T dct c2)(j:X.stack=X.env::X.outer)(k:∀ s',Ld X aa σ H s' e C T dct c2->Q () s'):wpAny M A (setFlight (.ref e) none) Q E s :=
 QW Lq_.sb Lq_.ff Lq_.tr λh3 y1 y2 y3 y4 y5=>k _ ⟨Lq_.J.kpx j (ch:=[T]) (.of λb o hb hc=>y4 b o hb hc) λb hb=>by
  obtain⟨oe,ve,oT,ts,g1,g2,g3,Y,g5,g6,g7,P,g9,ah⟩:=Lq_.tr;rw[AJ.mp hb];exact⟨Lq_.tn,Lq_.tl,⟨_,_,P,g9⟩,Lq_.tp⟩,y1,y2,y3,Lq_.lo,Lq_.un,Lq_.pe,Lq_.tl,Lq_.tn,Lq_.tp⟩
theorem XR{b:Bool}{k:Ev->Str->Z (Str×XD)->Fl}{h₀:ExceptHandler}{hs:Z ExceptHandler}(hb:∀ pn E,Xs fr ((X.inTry pn E).pls b) body g)
  (hh:∀ aa (D:KX) B A H env' c fl t H1 σ1 s1 e C T dct c2,G0 A H t H1->F' X.K B t H1 σ1 env'->B.st=true->Yy X.K c C->LU X.K (av H1 t) dct fl->Ld X aa σ1 H1 s1 e C T dct c2->Hh (X.pls b) H1 c2->K5 fr X B A H D (k env' c fl)->wpAny (model X.prog X.w) X.A (handleBy (.ref e) X.env (h₀::hs)) (SP X aa D) X.xe s1)
  (j:X.stack=X.env::X.outer/\X.env.frame=some X.env.locals):En fr X (.Try body (h₀::hs) [] [] pos) (NB g k):=by
 intro aa s σ H D I ⟨env,B,A,kk,l,q⟩;refine wpAny_Try_except (BO (hb (X.pn++aa) _ [] s σ H D I.toTry.pls ⟨env,B,A,kk,l,?_⟩) (λf s₁ hs=>?_) (λe s₁ hx=>hx))
 ·unfold NB at q
  cases eg:g env with
  | next e'=>rw[eg] at q;exact q
  | brk e'=>rw[eg] at q;exact q
  | cont e'=>rw[eg] at q;exact q
  | ret d=>rw[eg] at q;exact q
  | no=>rw[eg] at q;exact q
  | exc env' c fl =>
   rw[eg] at q;intro t H1 σ1 ag k1 aA s1 e C dct I1 S x Q ae;have n:C' X aa σ1 H1 s1:=I1.unpls.ofTry I.ok;have i:X.A.frames=some (X.env::X.outer):=by rw[← j.1];exact n.ok.frames
   have hl:s1.heap.FunFrames X.base (X.env::X.outer):=by rw[← j.1];exact n.stack
   have F:X.base.get? e=none:=n.noBase x.lo;have M:∀ {a:A2},(∀ p∈(X.pn++aa)++aA,p.1≠a)->∀ p∈X.pn++aa,p.1≠a:=λ{a} z p hp=>z p (CI _ hp)
   have after:∀ (h2:Ff) (T':A2) (c2:C1 A1) (ch:Z A2),Hh (X.pls b) H1 c2->s1.heap.objs.size<=T'->X.base.StaysIn h2->h2.FunFrames X.base (X.env::X.outer)->N8 h2 X.base e T' (.ref C,c2) dct .none->Aa (X.env::X.outer) ch s1.heap h2->(∀ b∈ch,H1 b=none/\X.s₀.heap.objs.size<=b/\(∃ o vs,s1.heap.get? b=some o/\o.data=.fields vs)/\∀ p∈X.pn++aa,p.1≠b)->wpAny (model X.prog X.w) X.A (handleBy (.ref e) X.env (h₀::hs)) (SP X aa D) X.xe { s1 with heap:=h2 }:=λh2 T' c2 ch r af m ai aj kp R =>
    hh aa D B A H env' c fl t H1 σ1 _ e C T' dct c2 ag k1 l S Q ⟨n.kpx j.1 kp R,m,ai,aj,x.lo,x.un,M x.pe,BC n.sz af,n.hok.fresh af,λp hp z=>by
     have:=(n.pin p hp).1;rw[z] at this;exact absurd (AN this) (FB.mpr af)⟩ r q
   show wpAny _ _ _ _ _ _;rcases x.ob with⟨o,vs,he,hc,hd,G,h1,ac⟩ | ⟨T0,c2,hT,h,ak,ht,ac⟩
   ·refine Dr i hl j.2 he n.bk F G h1 λh' T' J x1 x2 x3 y N=>?_
    refine QW (s:={ s1 with heap:=h' }) x1 x2 x3 λh2 y1 y2 y3 y4 y5=>?_
    rw[hc,hd] at y3;refine after h2 T' _ [e] ac J y1 y2 y3 (Kc y J y4) λb hb=>?_
    rw[AJ.mp hb];exact⟨x.un,x.lo,⟨_,_,he,G⟩,M x.pe⟩
   ·refine YF i hl j.2 ht n.bk F λh' T' J x1 x2 x3 y N=>?_
    refine QW (s:={ s1 with heap:=h' }) x1 x2 x3 λh2 y1 y2 y3 y4 y5=>?_
    refine after h2 T' _ [e,T0] ac J y1 y2 y3 (Kc y J y4) λb hb=>?_
    obtain⟨oe,ve,oT,ts,g1,g2,g3,Y,g5,g6,g7,P,g9,ah⟩:=id ht;rcases AZ.mp hb with z | z
    ·rw[z];exact⟨x.un,x.lo,⟨_,_,g1,Y⟩,M x.pe⟩
    ·rw[AJ.mp z];exact⟨h,hT,⟨_,_,P,g9⟩,M ak⟩
 ·cases f with
  | next=>obtain⟨σ',H',I',W⟩:=hs;exact AC ⟨σ',H',I'.unpls.ofTry I.ok,W⟩
  | brk=>obtain⟨σ',H',I',W⟩:=hs;exact⟨σ',H',I'.unpls.ofTry I.ok,W⟩
  | cont=>obtain⟨σ',H',I',W⟩:=hs;exact⟨σ',H',I'.unpls.ofTry I.ok,W⟩
  | ret u=>obtain⟨v,σ',H',I',r',W⟩:=hs;exact⟨v,σ',H',I'.unpls.ofTry I.ok,r',W⟩
end
section
variable{X:Cx}{h:Ev->Fl}{b₀:C4}{suite:Z C4}{T n:Str}{np:Pos}{sub:Str->Bool}{DT:A2}
theorem ma(hb:∀ pn E,Xs fr (X.inTry pn E) body g)(hh:∀ pn e,Sv (X.inH pn e) (b₀::suite) (λD σ H=>NL (X.inH pn e).A H/\tS fr (X.inH pn e) h D σ H))(hN:X.N.Nodup)(hi:X.N[i]?=some n)(hx:LZ X.env.scope n)(hT:X.mg T=some (.ref DT))
  (p:∀ c C,Yy X.K c C->sub c=true->exmOne X.K (.ref C) (.ref DT)=some true) (Y:X.env.kindOf n=some .local:=by rfl) (hg:Gl X T:=by rfl) (P:C2 T:=by decide)
  (j:X.stack=X.env::X.outer/\X.env.frame=some X.env.locals:=by exact⟨rfl,rfl⟩)
  (hf:X.fn n=true\/X.env.scope.names.lookup n=some .local:=by ext) (a:X.calm=true:=by rfl) :
  En fr X (.Try body [.ExceptHandler (some (.Name T np)) (some n) (b₀::suite) aK] [] [] pos) (RW sub i g h):=by
 refine XR (b:=X.pl) hb (λaa D B A H env' c fl t H1 σ1 s1 e C T' dct c2 ag k1 l S Q Lq_ r q=>?_) j;split at q
 case isFalse=>exact q.elim
 rename_i F;have r:A7 H1 c2:=(Hh.v r (Lq_.J.ok.hd a)).f;obtain⟨oe,ve,oT,ts,g1,g2,_⟩:=id Lq_.tr;have LT:Looks (model X.prog X.w) s1.heap (typeOf (.ref e)) (.ref C):=(JA g2).1▸(Looks.ld g1).andThen .now;refine GY (GI (V8 (Lq_.J.toH (e:=e)) hg hT ?_ P)) (by intro z;cases z);refine(exm_one (M:=model X.prog X.w) Lq_.J.kIn LT (p c C S F)).here ?_;show codeAny _ _ _ _ _;refine codeAny_handlers_suite_as (Lq_.land j.1 λG L3=>?_);obtain⟨m,s,_,_,e1,e2,e3,e4,_⟩:=id L3.tr;have af:s[2]?=c2:=(JA e2).2;have el:=L3.J.nloc e1 e4;have I:MT e C dct G.heap:=⟨m,e1,(JA e2).1,e3,λcc z=>by rw[e4] at z;cases z⟩;have J4:C' X aa σ1 (Yr H1 e (.frz m (.ext (MT e C dct)))) G:=L3.J.track Lq_.un Lq_.lo el.1 el.2 Lq_.pe ⟨e1,I,⟨_,e1⟩,λha hb ⟨o,z1,z2⟩ k=>⟨o,k _ z1,z2⟩⟩;have sm:Zp H1 (Yr H1 e (.frz m (.ext (MT e C dct)))):=R6 Lq_.un;have ae:t e=false:=by
  cases y:t e with
  | false=>rfl
  | true=>obtain⟨o,ho⟩:=(k1.mu e y).some;rw[Lq_.un] at ho;cases ho
 refine Kj J4 hN hi hx (v:=.ref e) rfl (λs5 J5=>?_) hf;have rp:Rp X.K (av (Yr H1 e (.frz m (.ext (MT e C dct)))) t) (.exc c fl) (.ref e):=by
  unfold Rp;exact⟨e,C,dct,rfl,.inr ⟨m,Ws Zg ae⟩,S,Q.mono (Wv sm)⟩
 have k5:=(k1.mono sm).put i rp;have aj:K5 fr (X.inH (X.pn++aa) e) B t (Yr H1 e (.frz m (.ext (MT e C dct)))) (KX.mk (λσ' H'=>D.nx (σ'.set i none) H') D.rt (λσ' H'=>D.bk (σ'.set i none) H') (λσ' H'=>D.ct (σ'.set i none) H')) (h (env'.set i (.fz (.exc c fl)))):=by
  have q2:=q.step (ag.trans (G0.same sm));unfold ZE at q2;cases x:h (env'.set i (.fz (.exc c fl))) with
  | next e'=>rw[x] at q2;exactλA' H' σ' s' k'=>q2 A' H' _ s' (k'.clr i)
  | brk e'=>rw[x] at q2;exactλA' H' σ' s' k'=>q2 A' H' _ s' (k'.clr i)
  | cont e'=>rw[x] at q2;exactλA' H' σ' s' k'=>q2 A' H' _ s' (k'.clr i)
  | ret d=>rw[x] at q2;exact q2
  | exc e' c' f'=>rw[x] at q2;exact q2.elim
  | no=>rw[x] at q2;exact q2
 refine BO (hh (X.pn++aa) e [] s5 _ _ _ J5.toH ⟨.inr ⟨e,m,s,_,rfl,Zg,e4,by rw[af];exact r.mono sm⟩,_,B,t,k5,l,aj⟩) (λf s6 hs=>?_) (λ_ _ z=>z.elim);show wpAny _ _ _ _ _ _;cases f with
 | next=>obtain⟨σ',H',I',W⟩:=hs;exact Om (I'.ofH Lq_.J.ok) hN hi Y λs7 R=>⟨_,H',R,W⟩
 | brk=>obtain⟨σ',H',I',W⟩:=hs;exact Om (I'.ofH Lq_.J.ok) hN hi Y λs7 R=>⟨_,H',R,W⟩
 | cont=>obtain⟨σ',H',I',W⟩:=hs;exact Om (I'.ofH Lq_.J.ok) hN hi Y λs7 R=>⟨_,H',R,W⟩
 | ret u=>obtain⟨v,σ',H',I',r',W⟩:=hs;exact Om (I'.ofH Lq_.J.ok) hN hi Y λs7 R=>⟨v,_,H',R,r',W⟩
end
section
variable{X:Cx}{e:C3}{f:Zzu}
def MZ(sb:Str->C1 Bool)(f:Zzu):Ev->C1 Dat:=λenv=>(f env).bind λd=>match d with
 | .exc c _=>(sb c).map .bl
 | _=>none
theorem eY{c:Str}{a:A1}{b:Bool}{Q:J1}(I:C' X aa σ H s)(r:Rp X.K H (.exc c fl) v)(N:Yi v u)(Y:∀ C,Yy X.K c C->kitOne X.K (.ref C) a=some b/\I7 X.K C)(h:∀ tk,Q (.bool b) { s with toks:=tk }) :
  wpAny (model X.prog X.w) A (call (.builtin "isinstance") [u,a]) Q E s:=by
 obtain⟨ex,C,dct,e1,e2,e3,e4⟩:=WQ r;subst e1;cases N;obtain⟨o,h1,h2,_⟩:=e2.ok I.hok;obtain⟨d,xc⟩:=Y C e3;exact kia_one (qK xc) I.kIn ⟨o,h1,h2⟩ d (λz=>nomatch z) h
theorem n4{x:Str}{D:A2}(hg:Gl X x)(hm:X.mg x=some (.ref D))(hd:C2 x:=by decide):PE X (.Name x p) (λσ H Q=>Q (.ref D) H):=λaa s σ H Q I h=>V8 I hg hm ⟨.ref D,H,I,rfl,h⟩ hd
theorem hD{D:A2}(he:Yz true X e f)(j:X.mg tx=some (.ref D))(Y:∀ c C b,Yy X.K c C->sb c=some b->kitOne X.K (.ref C) (.ref D)=some b/\I7 X.K C)(hm:X.mg "isinstance" = none)(hg:Gl X "isinstance" := by rfl)(i:Gl X tx:=by rfl)(hv:bootBuiltins "isinstance" = some (.builtin "isinstance"):=by ext)(g:C2 tx:=by decide)
  (hs:starEach [e,.Name tx p2] X.env=(false,eval e X.env)::starEach [.Name tx p2] X.env:=by rfl):Yz m X (.Call (.Name "isinstance" p) [e,.Name tx p2] [] pos) (MZ sb f):=by
 have hc:V0 X (.builtin "isinstance") (λvs H Q=>∃ v A d b c fl,vs=[v,.ref D]/\Ul A H/\d=.exc c fl/\sb c=some b/\Pk X.K A H d v/\T7 false X.K A H (.bl b) Q):=by
  intro aa s σ H xs us Q I r ⟨v,A,d,b,c,fl,e1,mu,e2,e3,p1,q⟩;subst e1 e2;obtain⟨u,w',rfl,N,a⟩:=Bk r;cases a;exact eY I p1.rp N (λC hC=>Y c C b hC e3) λtk=>⟨.bl b,H,I.tok _,rfl,q.here Vi⟩
 refine Yz.any ((Da hc hg hm hv (Yk he (Yk (n4 i j g) Vb) hs) (he:=hs)).weak λσ H Q ⟨env,R,A,d,k,M,q2⟩=>?_);obtain⟨x,e1,h⟩:=bind_some M;cases x with
 | exc c fl =>
  obtain⟨b,e2,h⟩:=map_some h;subst h;exact⟨env,R,A,_,k,e1,λv H1 s1 p1=>⟨v,A,_,b,c,fl,rfl,k.mu.mono s1,rfl,e2,p1,q2.mono s1⟩⟩
 | _=>cases h
theorem ql{T:String}(he:Yz true X e f)(j:X.mg tx=none)(l:bootBuiltins tx=some (.type T))(n:tx≠"__name__")(Y:∀ c C b,Yy X.K c C->sb c=some b->kitOne X.K (.ref C) (.type T)=some b/\I7 X.K C)(hm:X.mg "isinstance" = none)(hg:Gl X "isinstance" := by rfl)(i:Gl X tx:=by rfl)(hv:bootBuiltins "isinstance" = some (.builtin "isinstance"):=by ext)(g:C2 tx:=by decide)
  (hs:starEach [e,.Name tx p2] X.env=(false,eval e X.env)::starEach [.Name tx p2] X.env:=by rfl):Yz m X (.Call (.Name "isinstance" p) [e,.Name tx p2] [] pos) (MZ sb f):=by
 have hc:V0 X (.builtin "isinstance") (λvs H Q=>∃ v A d b c fl,vs=[v,.ty T]/\Ul A H/\d=.exc c fl/\sb c=some b/\Pk X.K A H d v/\T7 false X.K A H (.bl b) Q):=by
  intro aa s σ H xs us Q I r ⟨v,A,d,b,c,fl,e1,mu,e2,e3,p1,q⟩;subst e1 e2;obtain⟨u,w',rfl,N,a⟩:=Bk r;cases a;exact eY I p1.rp N (λC hC=>Y c C b hC e3) λtk=>⟨.bl b,H,I.tok _,rfl,q.here Vi⟩
 refine Yz.any ((Da hc hg hm hv (Yk he (Yk (bN i j l n g) Vb) hs) (he:=hs)).weak λσ H Q ⟨env,R,A,d,k,M,q2⟩=>?_);obtain⟨x,e1,h⟩:=bind_some M;cases x with
 | exc c fl =>
  obtain⟨b,e2,h⟩:=map_some h;subst h;exact⟨env,R,A,_,k,e1,λv H1 s1 p1=>⟨v,A,_,b,c,fl,rfl,k.mu.mono s1,rfl,e2,p1,q2.mono s1⟩⟩
 | _=>cases h
def XD.d:XD->Dat
 | .int i=>.int i
 | .nums is=>.lst (is.map .int)
def QX(ok:Str->Bool)(fd:Str)(f:Zzu):Ev->C1 Dat:=λenv=>(f env).bind λd=>match d with
 | .exc c fl=>if ok c=true then(fl.lookup fd).map XD.d else none
 | _=>none
theorem ny{K:Frag}{d:XD}(h:RS K H d v):Rp K H d.d v:=by
 cases d with
 | int i=>cases h;exact Yq
 | nums is =>
  obtain⟨a,e1,e2,e3⟩:=h;subst e1;exact Gu (by rw[AD];exact e3) e2 (Mx is)
theorem UE{fd:Str}{okc:Str->Bool}(he:Yz false X e f)(Y:∀ c C,Yy X.K c C->okc c=true->I7 X.K C/\findIn X.K (.ref C) fd=some none)(hb:attributeBase e fd X.env (eval e X.env)=eval e X.env:=by rfl):Yz m X (.Attribute e fd pos) (QX okc fd f):=by
 refine Yz.any ?_;intro aa s σ H Q I ⟨env,R,A,d,k,M,q2⟩;obtain⟨x,e1,h⟩:=bind_some M;cases x with
 | exc c fl =>
  dsimp only at h;split at h
  case isFalse=>cases h
  rename_i hok;obtain⟨xd,e2,h⟩:=map_some h;subst h;refine qN hb (Wo (he aa s σ H (λv H1=>Zp H H1/\Rp X.K (av H1 A) (.exc c fl) v) I ⟨env,R,A,_,k,e1,λv H1 s1 p1=>?_⟩) λu s1 ⟨v,H1,I1,N,sm,r⟩=>?_)
  ·exact⟨s1,p1⟩
  obtain⟨ex,C,dct,z1,z2,W,z4⟩:=WQ r;subst z1;cases N;obtain⟨o,h1,h2,h3,h4⟩:=(z2.mono Yn).ok I1.hok;obtain⟨xc,hf⟩:=Y c C W hok;cases dct with
  | none =>
   have z4:fl=[]:=z4;subst z4;cases e2
  | some dx =>
   obtain⟨j,y1,y2⟩:=z4;rcases y2 fd with⟨y3,_⟩ | ⟨d',n,y3,y4,y5⟩
   ·rw[y3] at e2;cases e2
   ·rw[y3] at e2;cases e2
    obtain⟨mA,B,T⟩:=(show Yl X.prog X.w H1 s1.heap dx (.xd j) from I1.hok dx _ (Q1 y1).2);have hr:=T fd;rw[y4] at hr;obtain⟨b,hu,l⟩:∃ b,mA fd=some b/\Yi n b:=by
     cases hm:mA fd with
     | none=>rw[hm] at hr;exact hr.elim
     | some b=>rw[hm] at hr;exact⟨b,rfl,hr⟩
    obtain⟨oC,cd,hC,af,J⟩:=xc.ld I1.kIn;have LT:Looks (model X.prog X.w) s1.heap (typeOf (.ref ex)) (.ref C):=h2▸(Looks.ld h1).andThen .now;have hh:handedOut b=pure b:=by
     refine handedOut_of ?_;cases xd with
     | int i=>cases y5;obtain⟨t,rfl⟩:=l;rfl
     | nums is=>obtain⟨a,z,_⟩:=y5;subst z;cases l;rfl
    obtain⟨hh',g,d,tk,os⟩:=s1;refine qP (K:=X.K) I1.kIn h1 h2 h4 h3 B hu hf hC af J (LT.andThen (xc.sub I1.kIn "BaseException" (by decide))) xc.ga xc.gh hh ?_;exact⟨n,H1,I1.tok _,l,(q2.mono sm).here (ny y5)⟩
 | _=>cases h
end
end L2
variable{src:L2.Zzv}{b₀:PySem.Stmt}{np aP aV aE aW:PySem.Pos}{k1 k2:L2.Ev->L2.Fl}{aH aQ:Z PySem.Stmt}{dc:PySem.Value}
namespace L2
open PySem
def MW(xs:Array Nat):Prop:=∀ i k (h1:i<k) (h2:k<xs.size),xs[i]<xs[k]
theorem X9(xs:Array Nat)(j:Nat)(hr:MW xs):∀ (fuel lo hi:Nat),hi - lo<=fuel->lo<=hi->hi<=xs.size->(∀ k (h:k<xs.size),k<lo->xs[k]<j)->(∀ k (h:k<xs.size),hi<=k->j<=xs[k]) ->
  SetTable.below.go xs j fuel lo hi<=xs.size/\(∀ k (h:k<xs.size),k<SetTable.below.go xs j fuel lo hi->xs[k]<j)/\(∀ k (h:k<xs.size),SetTable.below.go xs j fuel lo hi<=k->j<=xs[k])
 | 0,lo,hi,hf,hl,hh,h1,h2=>by
  have:lo=hi:=by lia
  subst this;exact⟨hh,h1,h2⟩
 | fuel+1,lo,hi,hf,hl,hh,h1,h2=>by
  rw[SetTable.below.go];split
  ·rename_i ae
   dsimp only;have hm:(lo+hi) / 2<xs.size:=by lia
   have hg:xs.getD ((lo+hi) / 2) j=xs[(lo+hi) / 2]:=by simp[Array.getD,hm]
   rw[hg];split
   ·rename_i hx
    refine X9 xs j hr fuel _ _ (by lia) (by lia) hh (λk h Y=>?_) h2;rcases DN k ((lo+hi) / 2) with h3 | h3
    ·exact LG (hr k _ h3 hm) hx
    ·have:k=(lo+hi) / 2:=by lia
     subst this;exact hx
   ·rename_i hx
    refine X9 xs j hr fuel _ _ (by lia) (by lia) (by lia) h1 (λk h Y=>?_);rcases DN ((lo+hi) / 2) k with h3 | h3
    ·exact DX (EY (IE hx) (hr _ k h3 h))
    ·have:k=(lo+hi) / 2:=by lia
     subst this;exact IE hx
  ·have:lo=hi:=by lia
   subst this;exact⟨hh,h1,h2⟩
theorem X2(hr:MW xs)(j:Nat):SetTable.below xs j<=xs.size/\(∀ k (h:k<xs.size),k<SetTable.below xs j->xs[k]<j)/\(∀ k (h:k<xs.size),SetTable.below xs j<=k->j<=xs[k]) :=
 X9 xs j hr xs.size 0 xs.size (by lia) (CP _) (AT _) (λk h Y=>by lia) (λk h Y=>by lia)
theorem bh(hr:MW xs)(hi:i<=xs.size)(h1:∀ k (h:k<xs.size),k<i->xs[k]<j)(h2:∀ k (h:k<xs.size),i<=k->j<=xs[k]):SetTable.below xs j=i:=by
 obtain⟨a,b,c⟩:=X2 hr j;rcases Nat.lt_trichotomy (SetTable.below xs j) i with h | h | h
 ·have Y:SetTable.below xs j<xs.size:=by lia
  have:=c _ Y (AT _);have:=h1 _ Y h;lia
 ·exact h
 ·have Y:i<xs.size:=by lia
  have:=b _ Y h;have:=h2 _ Y (AT _);lia
theorem mW(hr:MW xs)(i:Nat)(hi:i<xs.size):SetTable.below xs (xs[i]+1)=i+1 :=
 bh hr (by lia) (λk h Y=>by
  rcases DN k i with h3 | h3
  ·exact CU (hr k i h3 hi)
  ·have:k=i:=by lia
   subst this;exact DK _) (λk h Y=>hr i k (by lia) h)
theorem mG(hr:MW xs):SetTable.below xs 0=0:=bh hr (CP _) (λk h Y=>by lia) (λk h Y=>CP _)
theorem Fq:MW xs↔xs.toList.Pairwise (· < ·):=by
 rw[FM];constructor
 ·intro h i j hi hj b
  have:=h i j b (by simpa using hj);simpa using this
 ·intro h i j b hj
  have:=h i j (by simp;lia) (by simpa using hj) b;simpa using this
theorem fL(xs:Array α)(p:Nat)(x:α)(hp:p<=xs.size):(SetTable.insertAt xs p x).toList=xs.toList.take p++x::xs.toList.drop p:=by
 unfold SetTable.insertAt;simp;rw[CG (by rw[CH,BD];exact AT _)]
theorem mR(hr:MW xs)(hn:¬ xs[SetTable.below xs j]?=some j):MW (SetTable.insertAt xs (SetTable.below xs j) j):=by
 obtain⟨a,b,c⟩:=X2 hr j;rw[Fq,fL _ _ _ a,List.pairwise_append];have hp:=Fq.mp hr;refine⟨hp.sublist (JL _ _),GQ.mpr ⟨λy hy=>?_,hp.sublist (List.drop_sublist _ _)⟩,λy hy z hz=>?_⟩
 ·obtain⟨k,Y,rfl⟩:=IN.mp hy
  rw[CH,BD] at Y;have n:SetTable.below xs j+k<xs.size:=by lia
  have h1:=c _ n (by lia);rw[List.getElem_drop,IP];rcases Nat.eq_or_lt_of_le h1 with h2 | h2
  ·exfalso
   apply hn;have hb:SetTable.below xs j<xs.size:=by lia
   rw[BZ hb];congr 1
   have h3:=c _ hb (AT _);rcases DW k with h0 | h0
   ·subst h0;simpa using h2.symm
   ·have:=hr (SetTable.below xs j) (SetTable.below xs j+k) (by lia) n
    lia
  ·exact h2
 ·obtain⟨k,Y,rfl⟩:=IN.mp hy
  rw[CM,BD] at Y;have n:k<xs.size:=by lia
  rw[List.getElem_take,IP];have h1:=b k n (by lia);rcases AZ.mp hz with rfl | hz
  ·exact h1
  ·obtain⟨m,hm,rfl⟩:=IN.mp hz
   rw[CH,BD] at hm;have h2:=c (SetTable.below xs j+m) (by lia) (by lia);rw[List.getElem_drop,IP];lia
structure LI (t:SetTable):Prop where
 ris:MW t.place
 dum:t.dummies=#[]
theorem gH(n:Nat):MW (Array.range n):=λi k h1 h2=>by simpa using h1
theorem f5:MW #[]:=λi k h1 h2=>by simp at h2
theorem LI.fresh(a b:Nat)(led:Bool):LI (SetTable.fresh a b led):=⟨f5,rfl⟩
theorem LI.standIn(t:SetTable)(n:Nat):LI (t.standIn n):=⟨gH n,rfl⟩
theorem cL(j:Nat):SetTable.has #[] j=false:=by unfold SetTable.has;simp
theorem oo{t:SetTable}(h:LI t)(e:t.slot j=.empty):¬ t.place[SetTable.below t.place j]?=some j:=by
 unfold SetTable.slot at e;dsimp only at e;split at e
 ·cases e
 ·rename_i hn;intro z;apply hn;rw[z];simp
theorem Cz{t:SetTable}(h:LI t)(j:Nat):t.slot j≠.dummy:=by
 unfold SetTable.slot;dsimp only;rw[h.dum,cL];split
 ·simp
 ·simp
theorem eT{t:SetTable}(h:LI t)(hashAt:Nat->Int)(hs:Int)(ag:∀ i,hashAt i≠hs):∀ (fuel:Nat) (p:SetTable.Probe),p.dummy=none->∀ m,SetTable.probe.go t hashAt hs fuel p=some m->∃ j,m=.empty j none/\t.slot j=.empty
 | 0,p,hd,m,e=>by rw[SetTable.probe.go] at e;cases e
 | fuel+1,p,hd,m,e=>by
  rw[SetTable.probe.go] at e;have b:∀ p:SetTable.Probe,p.dummy=none->(t.advance p).dummy=none:=λp hp=>by
   unfold SetTable.advance;split
   ·exact hp
   ·exact hp
  split at e
  ·rename_i es
   cases e;exact⟨p.j,by rw[hd],es⟩
  ·rename_i es
   exact absurd es (Cz h _)
  ·split at e
   ·rename_i hq
    exact absurd (by simpa using hq) (ag _)
   ·exact eT h hashAt hs ag fuel _ (b p hd) m e
theorem nM{t:SetTable}(h:LI t){hs:Int}{d:Bool}(e:t.freeSlot hs=some (j,d)):d=false/\t.slot j=.empty:=by
 unfold SetTable.freeSlot at e;split at e
 ·rename_i u dm hp
  obtain⟨j2,e1,e2⟩:=eT h (λ_=>hs+1) hs (λi=>by lia) _ _ rfl _ hp;cases e1;cases e;exact⟨rfl,e2⟩
 ·cases e
theorem LI.put{t:SetTable}(h:LI t)(e:t.slot j=.empty):LI (t.put j).1:=by
 unfold SetTable.put;exact⟨mR h.ris (oo h e),by dsimp only;rw[h.dum,cL,AL (by decide)]⟩
theorem LI.orStandIn{t:SetTable}(h:LI t)(n:Nat):LI (t.orStandIn n):=by
 unfold SetTable.orStandIn;split
 ·exact h
 ·exact LI.standIn t n
theorem A6(t:SetTable)(n:Nat):(t.orStandIn n).led=t.led:=by unfold SetTable.orStandIn SetTable.standIn;split<;>rfl
theorem g4{t:SetTable}(h:LI t)(es:Array (Int×A1))(hs:Int)(x:A1):LI (layNew t es hs x).2.1/\(layNew t es hs x).2.1.led=t.led/\List.Perm (layNew t es hs x).1.toList (es.push (hs,x)).toList:=by
 unfold layNew;split
 ·rename_i slot H e
  obtain⟨_,e2⟩:=nM h e;dsimp only;exact⟨(h.put e2).orStandIn _,by rw[A6];rfl,SetTable.insertAt_perm es _ _⟩
 ·exact⟨LI.standIn _ _,rfl,EM _⟩
theorem G7(f:Nat->C1 (Nat×Nat))(hf:∀ j p,f j=some p->p.1=j):∀ n,(((List.range n).filterMap f).map (·.1)).Pairwise (· < ·)/\∀ x∈((List.range n).filterMap f).map (·.1),x<n
 | 0=>by simp
 | n+1=>by
  obtain⟨a,b⟩:=G7 f hf n;rw[JS,List.filterMap_append,BR];cases e:f n with
  | none =>
   simp only[EL,e,List.filterMap_nil,KH,GM];exact⟨a,λx hx=>CU (b x hx)⟩
  | some p =>
   have hp:=hf n p e;simp only[EL,e,List.filterMap_nil,CC,KH];refine⟨List.pairwise_append.mpr ⟨a,List.pairwise_singleton _ _,λx hx y hy=>?_⟩,λx hx=>?_⟩
   ·rw[AJ.mp hy,hp];exact b x hx
   ·rcases BV.mp hx with h | h
    ·exact CU (b x h)
    ·rw[AJ.mp h,hp];exact DK _
theorem mY{b c f:Nat}{plain:Bool}{a:Array Int}{t:SetTable}{d:Array Nat}(e:SetTable.laid b c f led plain a=some (t,d)):LI t/\t.led=led:=by
 unfold SetTable.laid at e;cases ho:SetTable.layClean b a with
 | none=>rw[ho] at e;cases e
 | some owner =>
  rw[ho] at e;cases e;refine⟨⟨?_,rfl⟩,rfl⟩;rw[Fq];dsimp only;exact(G7 (λj=>(owner.getD j none).map (j,·)) (λj p hp=>by
   cases h:owner.getD j none with
   | none=>rw[h] at hp;cases hp
   | some q=>rw[h] at hp;cases hp;rfl) (b+1)).1
theorem Gc(xs:Z α):∀ (n:Nat),n<=xs.length->(List.range n).filterMap (xs[·]?)=xs.take n
 | 0,_=>by simp
 | n+1,h=>by
  rw[JS,List.filterMap_append,Gc xs n (by lia),HE,AG (by lia)];simp[AG (show n<xs.length by lia)]
theorem Ny{t:SetTable}(h:LI t)(es:Array (Int×A1))(c:Nat):LI (relayAll t es c).2.1/\(relayAll t es c).2.1.led=t.led/\List.Perm (relayAll t es c).1.toList es.toList:=by
 unfold relayAll;split
 ·rename_i t' d e
  dsimp only;split
  ·rename_i hc
   rw[AY] at hc;obtain⟨a,b⟩:=mY e;refine⟨a,b,?_⟩;have hp:List.Perm d.toList (List.range es.size):=by
    have:=hc.1;unfold coversAll at this;exact List.isPerm_iff.mp this
   rw[Array.toList_filterMap];have h2:=hp.filterMap (es[·]?);refine h2.trans ?_;have h3:=Gc es.toList es.size (by simp);simp only[DP] at h3;rw[h3];rw[CG (by simp)]
  ·exact⟨LI.standIn _ _,rfl,EM _⟩
 ·exact⟨LI.standIn _ _,rfl,EM _⟩
end L2
variable{xs:Array PySem.Value}
namespace L2
open PySem PySem.Spec PyProof.Rows
def TC:A1->Int
 | .int i _=>i
 | _=>0
def RN(es:Array (Int×A1)):Z Int:=es.toList.map λe=>TC e.2
def Um(es:Array (Int×A1))(ep:Nat)(t:SetTable):Obj:={ cls:=.type "set",dict:=none,data:=.set es ep t,slots:=#[] }
def SK(P:Df)(w:D1)(h:Ff)(a:A2)(led:Bool)(ks:Z Int):Prop :=
 ∃ es ep t,h.get? a=some (Um es ep t)/\ElemsOf (intKind P w) es.toList/\(RN es).Perm ks/\es.size<scanBound/\t.fits es.size=true/\LI t/\t.led=led
theorem Pd{k:Int}(h:Value.isInt k v=true):∃ t,v=.int k t:=Value.isInt_shape h
theorem ku(r:ElemsOf (intKind P w) es.toList)(k:Int):(es.toList.findIdx? λe=>(intKind P w).is k e.2).isSome=decide (k∈RN es):=by
 rw[FF,List.findIdx?_isSome,IZ,CK];unfold RN;rw[CL];constructor
 ·rintro⟨e,he,Y⟩
  obtain⟨t,ht⟩:=Pd Y;exact⟨e,he,by rw[ht];rfl⟩
 ·rintro⟨e,he,Y⟩
  obtain⟨⟨k',f,_⟩,_⟩:=r e he;refine⟨e,he,?_⟩;obtain⟨t,ht⟩:=Pd f;rw[ht] at Y;cases Y;exact f
theorem Kw{a:A2}{t:SetTable}(ho:h.get? a=some (Um es ep t))(i:Array (Int×A1))(t':SetTable):(h.update a (Obj.putSet i t')).get? a=some (Um i (ep+1) t'):=by
 have:=BI (Obj.putSet i t') ho rfl;exact this
def Q9(ks:Z Int)(k:Int):Z Int:=if k∈ks then ks else ks++[k]
theorem pE{a:A2}{k:Int}{Q:Bool->A4->Prop}(hS:SK P w s.heap a led ks)(hroom:ks.length+1<scanBound)
   (h:∀ b h',SameBut a s.heap h'->SK P w h' a led (Q9 ks k)->Q b { s with heap:=h' }) :
   wpAny (model P w) A (setAddHashed a (.int k tk) (hashInt k)) Q E s:=by
 obtain⟨es,ep,t,ho,r,hp,hb,hf,hT,g⟩:=hS;have l:(intKind P w).is k (.int k tk)=true:=intKind_is _ _ _ _;have J:es.size=ks.length:=by rw[← BD,← hp.length_eq];unfold RN;rw[AD]
 unfold setAddHashed setAddHashedIn;refine BN (AA (FI ho rfl hf ?_));dsimp only;rw[byScan_of (knd:=intKind P w) rfl hb r];simp only[↓reduceIte];unfold setAddByScan;refine AA ?_;refine AA (HM ?_);refine AA (wpAny_setScan_of (knd:=intKind P w) l ho rfl hf r ?_);have B:=ku r k;cases hr:List.findIdx? (λe=>(intKind P w).is k e.2) es.toList with
 | some j =>
   rw[hr] at B;have Y:k∈ks:=hp.mem_iff.mp (BM B.symm);dsimp only;refine AC (AC ?_);have:=h false s.heap (SameBut.refl a s.heap) ⟨es,ep,t,ho,r,by unfold Q9;rw[AF Y];exact hp,hb,hf,hT,g⟩;cases s;exact this
 | none =>
   rw[hr] at B;have Y:k∉ks:=λhm=>by have:=JE B.symm;exact this (hp.mem_iff.mpr hm)
   dsimp only;obtain⟨l1,l2,l3⟩:=g4 hT es (hashInt k) (.int k tk);have d:=layNew_fits t es (hashInt k) (.int k tk);show wpAny _ _ (match layNew t es (hashInt k) (.int k tk) with | (es,t,wasDummy,y)=>_) _ _ _;generalize C:layNew t es (hashInt k) (.int k tk)=Lq_ at l1 l2 l3 d ⊢;obtain⟨c,t1,H,y⟩:=Lq_;dsimp only at l1 l2 l3 d ⊢;rw[Array.toList_push] at l3;have z:ElemsOf (intKind P w) c.toList:=(r.push (knd:=intKind P w) l rfl).perm l3;have hsz1:c.size=es.size+1:=by rw[← BD,l3.length_eq,AX,BD];rfl
   have p:c.size<scanBound:=by lia
   have aE:(RN c).Perm (ks++[k]):=by
     have:=l3.map λe:Int×A1=>TC e.2
     rw[BR] at this;exact this.trans (hp.append (EM _))
   have D:Q9 ks k=ks++[k]:=by unfold Q9;rw[AL Y]
   have fin:∀ h' q v t2,SameBut a s.heap h'->h'.get? a=some (Um q v t2)->List.Perm q.toList c.toList->t2.fits q.size=true->LI t2->t2.led=led->Q true { s with heap:=h' }:=λh' q v t2 o m G X x W =>
     h true h' o ⟨q,v,t2,m,z.perm G,by rw[D];exact(G.map _).trans aE,by rw[← BD,G.length_eq,BD];exact p,X,x,W⟩
   have F:∀ (b:Bool) (f:Bool->Sem Unit) {s1:A4} {Q':Unit->A4->Prop},(f true=rule "set.scan.the-table-gave-way")->(f false=pure ())->Q' () s1->wpAny (model P w) A (f b) Q' E s1:=λb f s1 Q' h1 h2 hq=>by
     cases b with
     | true=>rw[h1];exact HM hq
     | false=>rw[h2];exact AC hq
   refine AA (F _ _ rfl rfl ?_);split
   · refine AA ?_
     rw[hashByValue_scannable 8 rfl];refine AC ?_;simp only[plainKind,↓reduceIte];refine AA (HU ho rfl ?_ (FJ p));have n:=Kw ho c t1;have u:=DM s.heap a (Obj.putSet c t1);split
     · obtain⟨r1,r2,T⟩:=Ny l1 c (SetTable.grown c.size)
       have i:=relayAll_fits t1 c (SetTable.grown c.size);refine AA (F _ _ rfl rfl ?_);refine AA (HU n rfl ?_ (FJ (by rw[← BD,T.length_eq,BD];exact p)));exact AC (AC (fin _ _ _ _ (u.trans (DM _ a _)) (Kw n _ _) T i r1 (by rw[r2,l2,g])))
     · exact AC (AC (fin _ _ _ _ u n (EM _) d l1 (by rw[l2,g])))
   · refine AA (AC ?_)
     simp only[↓reduceIte];refine AA (HU ho rfl ?_ (FJ p));have n:=Kw ho c t1;have u:=DM s.heap a (Obj.putSet c t1);split
     · obtain⟨r1,r2,T⟩:=Ny l1 c (SetTable.grown c.size)
       have i:=relayAll_fits t1 c (SetTable.grown c.size);refine AA (F _ _ rfl rfl ?_);refine AA (HU n rfl ?_ (FJ (by rw[← BD,T.length_eq,BD];exact p)));exact AC (AC (fin _ _ _ _ (u.trans (DM _ a _)) (Kw n _ _) T i r1 (by rw[r2,l2,g])))
     · exact AC (AC (fin _ _ _ _ u n (EM _) d l1 (by rw[l2,g])))
def fm(val:Nat->Int)(i:Nat):Z Int:=((List.range i).map val).foldl Q9 []
theorem dr(val:Nat->Int)(i:Nat):fm val (i+1)=Q9 (fm val i) (val i):=by unfold fm;rw[JS,BR,List.foldl_append];rfl
theorem fC(ks:Z Int)(k:Int):(Q9 ks k).length<=ks.length+1:=by unfold Q9;split<;>simp
theorem VI(val:Nat->Int):∀ i,(fm val i).length<=i
 | 0=>AT _
 | i+1=>by rw[dr];have:=fC (fm val i) (val i);have:=VI val i;lia
theorem SK.heap{a:A2}(hS:SK P w h a led ks)(e:∀ o,h.get? a=some o->h'.get? a=some o):SK P w h' a led ks:=by
 obtain⟨es,ep,t,ho,r⟩:=hS;exact⟨es,ep,t,e _ ho,r⟩
section
variable{R:Result->A4->Prop}{G:Array GenState->Array GenState->Prop}{n:Nat}{St:Nat->A4->Prop}
theorem jI(W:WalksS P w A.in1 I fp wr G n Pv St)(S:A2)(q:S∉fp)(val:Nat->Int)(a:∀ i v,Pv i v->∃ t,v=.int (val i) t)(hb:n+1<scanBound) :
  ∀ (k i:Nat) (s:A4),n - i=k->i<=n->St i s->SK P w s.heap S led (fm val i) ->
   (∀ s',Moved (S::wr) G s s'->SK P w s'.heap S led (fm val n)->R (.ok (.ret .none)) s') ->
   codeAny (model P w) A (.builtin "set.update.loop" ⟨[.ref S,.ref I],[]⟩) R s:=by
 have hw:S∉wr:=λh=>q (W.sub _ h)
 have up:∀ b∈wr,b∈S::wr:=λb h=>AV _ h
 intro k;induction k with
 | zero =>
  intro i s Y hi l hS hR;obtain rfl:i=n:=by lia
  refine CV F.entry_set_update_loop ?_;rw[FN HP _];show wpAny _ A.in1 (pyNext (.ref I) >>= _) _ _ s;refine AA (W.done s _ _ l λs' hm=>?_);exact AC (hR s' (hm.mono up) (hS.heap λo e=>hm.heap S o hw e))
 | succ k ih =>
  intro i s Y hi l hS hR;have ae:i<n:=by lia
  refine CV F.entry_set_update_loop ?_;rw[FN HP _];show wpAny _ A.in1 (pyNext (.ref I) >>= _) _ _ s;refine AA (W.item i s _ _ ae l λv s' g f hm=>?_);obtain⟨t,rfl⟩:=a i v g;have d:=hS.heap (h':=s'.heap) λo e=>hm.heap S o hw e
  show wpAny _ A.in1 (holding [Value.int (val i) t] (setAdd S (.int (val i) t)) >>= _) _ _ s';refine AA (BN ?_);unfold setAdd;refine BN (AA ((intKind P w).pyHash (k:=val i) (intKind_is _ _ _ _) ?_));refine pE (s:={ s' with toks:=s'.toks+1 }) d (by have:=VI val i;lia) λb h' sb j=>?_
  rw[← dr] at j;refine AC ⟨GR HP _,ih (i+1) _ (by lia) ae (W.frame _ s' _ _ f (DH _) λb hb o e=>?_) j λc m p=>?_⟩
  ·rw[sb.2 b λh=>q (h▸hb)];exact e
  ·refine hR c (Moved.trans W.gtrans ((hm.mono up).then_heap (DH _) λb o hb e=>?_) m) p
   rw[sb.2 b λh=>hb (by rw[h];exact AW)];exact e
end
abbrev Nn(w:D1):Bool:=!w.params.followText "set-order"
abbrev Vk(w:D1):Obj:=Um #[] 0 (.fresh 0 0 (Nn w))
theorem nl(a:A1){Q₁:J1}(h:Q₁ (.ref s.heap.objs.size) { s with heap:=s.heap.push (Vk w) }) :
  codeAny (model P w) A (.call (.builtin "set.__new__") ⟨[.type "set",a],[]⟩) (wants Q₁ E) s:=by
 refine JZ ?_;show wpAny _ A.in1 (do checkBuiltinCall "set.__new__" ⟨[.type "set",a],[]⟩;again (.builtin "set.__new__" ⟨[.type "set",a],[]⟩)) _ _ s;refine AA (ER (F.newCall_set_1 a) (AC ⟨GR F.plain_set_new _,CV F.entry_set_new ?_⟩));rw[FN F.plain_set_new _];unfold Builtin.«set.__new__» Builtin.Frozenset.newClass;have p:=sub_set_self;obtain⟨hp,g,d,tk,os⟩:=s;dsimp only
 wp_walk
 refine JX (AC ?_);dsimp only;simp only[newObj];exact AA (wpAny_alloc (AC (AC h)))
theorem f9(h:Ff):SK P w (h.push (Vk w)) h.objs.size (Nn w) []:=⟨#[],0,_,AQ _ rfl,λe he=>by simp at he,EM _,by decide,by rfl,LI.fresh _ _ _,rfl⟩
end L2
namespace PySem
namespace F
theorem Az:Manifest.owners.lookup (String.ofList ['r','o','t','a','r','e','t','i','_','t','e','s'].reverse)=some Manifest.sig_set_iterator:=by kernel_rfl
theorem slot_sit_next:Slot "set_iterator" "__next__" "set_iterator.__next__" :=
 .of (owner:="set_iterator") (n:="__next__") (by rw[HB,FE];kernel_rfl) (by ext) (by ext) (by ext)
  (by first | exact .inl (by ext) | exact .inr (by ext)) (by rw[IX];kernel_rfl)
theorem entry_sit_next:entryFor table "set_iterator.__next__" = some Builtin.«set_iterator.__next__» := entryFor_of_tree (by kernel_rfl)
theorem args_sit_next_1(a:A1):argsOk "set_iterator.__next__" ⟨[a],[]⟩:=by
 unfold argsOk;rw[signature?_of (id:="set_iterator.__next__") (n:=['_','_','t','x','e','n','_','_']) (o:=['r','o','t','a','r','e','t','i','_','t','e','s']) (by kernel_rfl) Az];kernel_rfl
theorem slot_sit_iter:Slot "set_iterator" "__iter__" "set_iterator.__iter__" :=
 .of (owner:="set_iterator") (n:="__iter__") (by rw[HB,FE];kernel_rfl) (by ext) (by ext) (by ext)
  (by first | exact .inl (by ext) | exact .inr (by ext)) (by rw[IX];kernel_rfl)
theorem args_sit_iter_1(a:A1):argsOk "set_iterator.__iter__" ⟨[a],[]⟩:=by
 unfold argsOk;rw[signature?_of (id:="set_iterator.__iter__") (n:=['_','_','r','e','t','i','_','_']) (o:=['r','o','t','a','r','e','t','i','_','t','e','s']) (by kernel_rfl) Az];kernel_rfl
theorem entry_sit_iter:entryFor table "set_iterator.__iter__" = some Builtin.«dict_keyiterator.__iter__» :=
 entryFor_alias (id':="dict_keyiterator.__iter__") (by kernel_rfl) (by first | rfl | decide +kernel | (unfold String.splitOn;simp +decide [String.splitOnAux])) (by ext) (by kernel_rfl)
end F
end PySem
namespace L2
open PySem PySem.Spec PyProof.Rows
theorem oL{src:Source}{n:Nat}{Q:Nat->A4->Prop}(hn:n≠0)(h:∀ i d,i<n->Q i { s with drawn:=d }):wpAny (model P w) A (choose src n) Q E s:=λΓ p hΓ=>⟨hn,h _ _ (FH _ (Nat.pos_of_ne_zero hn))⟩
theorem Pr{xs:Z α}(hi:i<xs.length):(xs[i]::xs.eraseIdx i).Perm xs:=by
 rw[CT];have h1:=(List.perm_middle (a:=xs[i]) (l₁:=xs.take i) (l₂:=xs.drop (i+1))).symm;rw[List.getElem_cons_drop,FO] at h1;exact h1
theorem dG:∀ (n:Nat) (xs:Z α) (s:A4) (Q:Z α->A4->Prop),xs.length=n->(∀ ys d,ys.Perm xs->Q ys { s with drawn:=d })->wpAny (model P w) A (drawOrder n xs) Q E s
 | 0,xs,s,Q,hl,h=>by
  have:xs=[]:=List.eq_nil_of_length_eq_zero hl;subst this;unfold drawOrder;have:=h [] s.drawn (EM _);exact AC (by cases s;exact this)
 | n+1,[],s,Q,hl,h=>by simp at hl
 | n+1,x::xs,s,Q,hl,h=>by
  unfold drawOrder;refine AA (oL (by simp) λi d hi=>?_);have hg:(x::xs)[i]?=some ((x::xs)[i]):=AG hi;rw[hg];dsimp only;refine AA (dG n ((x::xs).eraseIdx i) _ _ (by rw[List.length_eraseIdx_of_lt hi];lia) λys d' hp=>?_);refine AC (h _ d' ?_);exact(List.Perm.cons _ hp).trans (Pr hi)
theorem eK(next:Nat->Nat):∀ (fuel k:Nat) (left:Z α) (out:Array α),left.length=fuel->(pickOrder.go next fuel k left out).toList.Perm (out.toList++left)
 | 0,k,left,out,hl=>by
  have:left=[]:=List.eq_nil_of_length_eq_zero hl;subst this;rw[pickOrder.go];simp
 | fuel+1,k,left,out,hl=>by
  rw[pickOrder.go];have hi:next k % left.length<left.length:=FH _ (by lia);rw[AG hi];dsimp only;refine(eK next fuel (k+1) _ _ (by rw[List.length_eraseIdx_of_lt hi];lia)).trans ?_;rw[Array.toList_push,List.append_assoc];exact List.Perm.append_left _ (Pr hi)
theorem Ch(next:Nat->Nat)(xs:Array α):(pickOrder next xs).toList.Perm xs.toList:=by
 have:=eK next xs.size 0 xs.toList #[] (by simp);unfold pickOrder;simpa using this
def dY(first:A1)(i:Nat)(S:A2)(n ep:Nat):Obj:={ cls:=.type "set_iterator",data:=.fields #[first,rawInt i,.ref S,rawInt n,rawInt ep] }
def Gp(h:Ff)(I:A2)(first:A1)(i:Nat)(S:A2)(n ep:Nat):Prop:=∃ o,h.get? I=some o/\o.cls=.type "set_iterator" /\ o.data=.fields #[first,rawInt i,.ref S,rawInt n,rawInt ep]
theorem Ah{sl':Nat}{t:SetTable}{x:A1}(c:Gp s.heap I (rawInt sl) i S es.size ep)(hS:s.heap.get? S=some (Um es ep t))(hf:t.fits es.size=true)
  (b:∀ (A:C0) (E:J1) (Q:C1 (A1×Nat)->A4->Prop),Q (some (x,sl')) s->wpAny (model P w) A (setNext S sl i ep) Q E s)
  (j:∀ h',Gp h' I (rawInt sl') (i+1) S es.size ep->SameBut I s.heap h'->Q (some x) { s with heap:=h' }):wpAny (model P w) A (pyNext (.ref I)) Q E s:=by
 obtain⟨o,ho,hc,hd⟩:=id c;have hT:s.TypeIs (.ref I) "set_iterator" := ⟨o,ho,hc⟩;unfold pyNext;refine AA (GS (CF (name:=Str.ofString "__next__") hT F.slot_sit_next
  (BX F.slot_sit_next hT F.entry_sit_next ?_ (F.args_sit_next_1 _))))
 unfold Builtin.«set_iterator.__next__»;refine AA (ER (a:=(Value.ref I,[])) rfl ?_);dsimp only;refine AA (IY ho hd ?_);dsimp only[rawInt];refine AA (FR hS rfl hf ?_);rw[AL (by simp)];refine AA (b _ _ _ ?_);dsimp only;refine AA (CQ ho hd (by simp) ?_);have n:=BI (Obj.mapFields (·.setIfInBounds 0 (Value.int sl' 0))) ho (DF (BS hd _));have d:=BS hd (·.setIfInBounds 0 (Value.int sl' 0));refine AA (CQ n d (by simp) ?_);have m:=BI (Obj.mapFields (·.setIfInBounds 1 (Value.int ((i:Int)+1) 0))) n (DF (BS d _));have g:=BS d (·.setIfInBounds 1 (Value.int ((i:Int)+1) 0));refine AC ⟨x,rfl,AC (j _ ⟨_,m,?_,?_⟩ ((DM ..).trans (DM ..)))⟩
 ·rw[GC,GC];exact hc
 ·rw[g];simp[rawInt]
theorem b6{o:Obj}{vs:Array A1}(hh:A.handled=none)(ho:s.heap.get? I=some o)(hd:o.data=.fields vs)(hz:2<vs.size)(j:∀ h',ExtBut I s.heap h'->Q none { s with heap:=h' }) :
   wpAny (model P w) A.in1 (do setField (.ref I) 2 .none;let e ← newExc (.type "StopIteration") [];raiseNew e) (λfin s'=>∃ v,fin=Fin.done (Flow.ret v)/\wpAny (model P w) A (pure (some v)) Q E s')
     (λe s'=>wpAny (model P w) A (do let b ← isInstance e (.type "StopIteration");if b=true then pure none else throw e) Q E s') s:=by
 refine AA (CQ ho hd hz ?_);refine AA ?_;simp only[newExc,newTuple];refine AA (BK ?_ (by size_fits));refine AA (m:=firstArgMember _ _) (ER (a:=Value.none) (by first | rfl | (simp only[firstArgMember];rfl)) ?_);refine BK ?_ (by size_fits);simp only[raiseNew];refine AA (JI ?_);first | rw[show A.in1.handled=none from hh] | rw[hh]
 refine AA (AC (KF ?_));refine AA (GN (T:="StopIteration") (b:=true) ⟨_,AQ _ rfl,rfl⟩ KI ?_);exact AC (j _ (((DM ..).extBut.push _).push _))
theorem cI{t:SetTable}(hh:A.handled=none)(c:Gp s.heap I (rawInt sl) i S es.size ep)(hS:s.heap.get? S=some (Um es ep t))(hf:t.fits es.size=true)
  (b:∀ (A:C0) (E:J1) (Q:C1 (A1×Nat)->A4->Prop),Q none s->wpAny (model P w) A (setNext S sl i ep) Q E s)
  (j:∀ h',ExtBut I s.heap h'->Q none { s with heap:=h' }):wpAny (model P w) A (pyNext (.ref I)) Q E s:=by
 obtain⟨o,ho,hc,hd⟩:=id c;have hT:s.TypeIs (.ref I) "set_iterator" := ⟨o,ho,hc⟩;unfold pyNext;refine AA (GS (CF (name:=Str.ofString "__next__") hT F.slot_sit_next
  (BX F.slot_sit_next hT F.entry_sit_next ?_ (F.args_sit_next_1 _))))
 unfold Builtin.«set_iterator.__next__»;refine AA (ER (a:=(Value.ref I,[])) rfl ?_);dsimp only;refine AA (IY ho hd ?_);dsimp only[rawInt];refine AA (FR hS rfl hf ?_);rw[AL (by simp)];refine AA (b _ _ _ ?_);dsimp only;exact b6 hh ho hd (by simp) j
theorem il{D:A2}{t:SetTable}{ps:Z Nat}{q:Nat}{x:Int×A1}(c:Gp s.heap I (.ref D) i S es.size ep)(hS:s.heap.get? S=some (Um es ep t))(hf:t.fits es.size=true)
  (y:s.heap.IsTuple D (ps.map λp:Nat=>rawInt p).toArray) (hq:ps[i]?=some q) (hx:es[q]?=some x)
  (j:∀ h',Gp h' I (.ref D) (i+1) S es.size ep->SameBut I s.heap h'->Q (some x.2) { s with heap:=h' }):wpAny (model P w) A (pyNext (.ref I)) Q E s:=by
 obtain⟨o,ho,hc,hd⟩:=id c;obtain⟨od,R,af,nd,f⟩:=y;have hT:s.TypeIs (.ref I) "set_iterator" := ⟨o,ho,hc⟩;unfold pyNext;refine AA (GS (CF (name:=Str.ofString "__next__") hT F.slot_sit_next
  (BX F.slot_sit_next hT F.entry_sit_next ?_ (F.args_sit_next_1 _))))
 unfold Builtin.«set_iterator.__next__»;refine AA (ER (a:=(Value.ref I,[])) rfl ?_);dsimp only;refine AA (IY ho hd ?_);dsimp only[rawInt];refine AA (FR hS rfl hf ?_);rw[AL (by simp)];refine AA (GH R f ?_);have hg:((ps.map λp:Nat=>rawInt p).toArray)[((i:Int)).toNat]?=some (rawInt q):=by simp[hq]
 dsimp only;rw[hg];dsimp only[rawInt];unfold setNextDrawn;refine AA (AA (FI hS rfl hf ?_));dsimp only;simp only[BP,bne_self_eq_false,FC,HG,hx];refine AC ?_;refine AA (CQ ho hd (by simp) ?_);have m:=BI (Obj.mapFields (·.setIfInBounds 1 (Value.int ((i:Int)+1) 0))) ho (DF (BS hd _));have g:=BS hd (·.setIfInBounds 1 (Value.int ((i:Int)+1) 0));refine AC ⟨x.2,rfl,AC (j _ ⟨_,m,?_,?_⟩ (DM ..))⟩
 ·rw[GC];exact hc
 ·rw[g];simp[rawInt]
theorem j0{D:A2}{t:SetTable}{ps:Z Nat}(hh:A.handled=none)(c:Gp s.heap I (.ref D) i S es.size ep)(hS:s.heap.get? S=some (Um es ep t))(hf:t.fits es.size=true)
  (y:s.heap.IsTuple D (ps.map λp:Nat=>rawInt p).toArray) (hq:ps[i]?=none)
  (j:∀ h',ExtBut I s.heap h'->Q none { s with heap:=h' }):wpAny (model P w) A (pyNext (.ref I)) Q E s:=by
 obtain⟨o,ho,hc,hd⟩:=id c;obtain⟨od,R,af,nd,f⟩:=y;have hT:s.TypeIs (.ref I) "set_iterator" := ⟨o,ho,hc⟩;unfold pyNext;refine AA (GS (CF (name:=Str.ofString "__next__") hT F.slot_sit_next
  (BX F.slot_sit_next hT F.entry_sit_next ?_ (F.args_sit_next_1 _))))
 unfold Builtin.«set_iterator.__next__»;refine AA (ER (a:=(Value.ref I,[])) rfl ?_);dsimp only;refine AA (IY ho hd ?_);dsimp only[rawInt];refine AA (FR hS rfl hf ?_);rw[AL (by simp)];refine AA (GH R f ?_);have hg:((ps.map λp:Nat=>rawInt p).toArray)[((i:Int)).toNat]?=none:=by simpa using hq
 dsimp only;rw[hg];dsimp only;refine AA (CQ ho hd (by simp) ?_);have n:=BI (Obj.mapFields (·.setIfInBounds 0 (Value.int 0 0))) ho (DF (BS hd _));have d:=BS hd (·.setIfInBounds 0 (Value.int 0 0));exact b6 hh n d (by simp) λh' he=>j h' λb o hb e=>he b o hb ((DM s.heap I (Obj.mapFields (·.setIfInBounds 0 (Value.int 0 0)))).extBut b o hb e)
theorem Ek{Q:Bool->A4->Prop}(h:Q (w.params.followText "set-order") s):wpAny (model P w) A setsByText Q E s:=by
 unfold setsByText;exact AA (JX (AC h))
theorem Al{t:SetTable}{Q:C1 (A1×Nat)->A4->Prop}(hb:w.params.followText "set-order" = true)(hS:s.heap.get? S=some (Um es ep t))(hf:t.fits es.size=true)
  (h:Q (((pickOrder (w.params.setOrder S ep) es)[i]?).map λe=>(e.2,sl)) s):wpAny (model P w) A (setNext S sl i ep) Q E s:=by
 unfold setNext;refine AA (FI hS rfl hf ?_);dsimp only;refine AA (Ek ?_);rw[hb,AF rfl,AL (by simp)];unfold setWalk;refine AA (AA (FI hS rfl hf ?_));dsimp only;refine AA (Ek ?_);rw[hb,AF rfl];refine AA (JX (AC ?_));exact AC h
theorem Xo{t:SetTable}{Q:C1 (A1×Nat)->A4->Prop}(hb:w.params.followText "set-order" = false)(hS:s.heap.get? S=some (Um es ep t))(hf:t.fits es.size=true)(ac:(!t.plain&&decide (es.size > 1))=false)(g:t.led=true)
  (h:Q (match es[SetTable.below t.place sl]?,t.place[SetTable.below t.place sl]? with | some (_,x),some j=>some (x,j+1) | _,_=>none) s):wpAny (model P w) A (setNext S sl i ep) Q E s:=by
 unfold setNext;refine AA (FI hS rfl hf ?_);dsimp only;refine AA (Ek ?_);rw[hb,AL (by decide)];refine HC (λf=>absurd f (by show ¬ ((!t.plain&&decide (es.size > 1))=true);rw[ac];decide)) (λ_=>?_);refine AA ?_;show wpAny _ _ (if(!t.led&&!es.isEmpty)=true then unsupported "set:maker-not-led" else pure ()) _ _ _;rw[g,AL (by simp)];exact AC (AC h)
def U'(t:SetTable):Nat->Nat
 | 0=>0
 | i+1=>t.place.getD i 0+1
theorem eD{t:SetTable}(hT:LI t)(hi:i<=t.place.size):SetTable.below t.place (U' t i)=i:=by
 cases i with
 | zero=>exact mG hT.ris
 | succ i =>
  have E:i<t.place.size:=hi;show SetTable.below t.place (t.place.getD i 0+1)=i+1;rw[show t.place.getD i 0=t.place[i] by simp[Array.getD,E]];exact mW hT.ris i E
theorem fF{t:SetTable}(hh:A.handled=none)(ag:S≠I)(hb:w.params.followText "set-order" = false)(hf:t.fits es.size=true)(ac:(!t.plain&&decide (es.size > 1))=false)(g:t.led=true)(hT:LI t) :
  Walks P w A I [I,S] [I] es.size (λi v=>(es[i]?).map (·.2)=some v) (λi h=>i<=es.size/\Gp h I (rawInt (U' t i)) i S es.size ep/\h.get? S=some (Um es ep t)) where
 sub:=λb hb=>by simp at hb;simp[hb]
 frame:=λi h h' st Y=>⟨st.1,(by obtain⟨o,a,b⟩:=st.2.1;exact⟨o,Y I (by simp) o a,b⟩),Y S (by simp) _ st.2.2⟩
 item:=λi s Q E hi st j=>by
  have l:t.place.size=es.size:=by unfold SetTable.fits at hf;simp at hf;exact hf.1
  have hx:es[i]?=some es[i]:=BZ hi;have hp:t.place[i]?=some t.place[i]:=BZ (by lia);refine Ah (sl':=U' t (i+1)) (x:=es[i].2) st.2.1 st.2.2 hf (λA E Q q=>Xo hb st.2.2 hf ac g ?_) λh' h1 h2=>?_
  ·rw[eD hT (by lia),hx,hp]
   have:U' t (i+1)=t.place[i]+1:=by show t.place.getD i 0+1=_;simp[Array.getD,show i<t.place.size by lia]
   rw[this] at q;exact q
  ·exact j _ h' s.toks (by rw[hx];rfl) ⟨hi,h1,by rw[h2.2 S ag];exact st.2.2⟩ λb o hb e=>by rw[h2.2 b (λz=>hb (by simp[z]))];exact e
 done:=λs Q E st j=>by
  have l:t.place.size=es.size:=by unfold SetTable.fits at hf;simp at hf;exact hf.1
  refine cI hh st.2.1 st.2.2 hf (λA E Q q=>Xo hb st.2.2 hf ac g ?_) λh' h1=>j h' s.toks λb o hb e=>h1 b o (λz=>hb (by simp[z])) e
  rw[eD hT (by lia),Array.getElem?_eq_none (by lia)];exact q
 self:=λi s Q E st j=>by
  obtain⟨o,ho,hc,hd⟩:=st.2.1;have c:s.TypeIs (.ref I) "set_iterator" := ⟨o,ho,hc⟩;refine HV c F.slot_sit_iter (BX F.slot_sit_iter c F.entry_sit_iter ?_ (F.args_sit_iter_1 _));show wpAny _ _ (ret (.ref I)) _ _ s;exact AC ⟨_,rfl,"set_iterator",_,c,F.slot_sit_next.lookup,j⟩
theorem qw{t:SetTable}(hh:A.handled=none)(ag:S≠I)(hb:w.params.followText "set-order" = true)(hf:t.fits es.size=true) :
  Walks P w A I [I,S] [I] es.size (λi v=>((pickOrder (w.params.setOrder S ep) es)[i]?).map (·.2)=some v) (λi h=>i<=es.size/\Gp h I (rawInt (0:Nat)) i S es.size ep/\h.get? S=some (Um es ep t)) where
 sub:=λb hb=>by simp at hb;simp[hb]
 frame:=λi h h' st Y=>⟨st.1,(by obtain⟨o,a,b⟩:=st.2.1;exact⟨o,Y I (by simp) o a,b⟩),Y S (by simp) _ st.2.2⟩
 item:=λi s Q E hi st j=>by
  have hsz:(pickOrder (w.params.setOrder S ep) es).size=es.size:=by have:=(Ch (w.params.setOrder S ep) es).length_eq;simpa using this
  have hx:(pickOrder (w.params.setOrder S ep) es)[i]?=some ((pickOrder (w.params.setOrder S ep) es)[i]):=BZ (by lia);refine Ah (sl':=0) (x:=((pickOrder (w.params.setOrder S ep) es)[i]).2) st.2.1 st.2.2 hf (λA E Q q=>Al hb st.2.2 hf ?_) λh' h1 h2=>?_
  ·rw[hx];exact q
  ·exact j _ h' s.toks (by rw[hx];rfl) ⟨hi,h1,by rw[h2.2 S ag];exact st.2.2⟩ λb o hb e=>by rw[h2.2 b (λz=>hb (by simp[z]))];exact e
 done:=λs Q E st j=>by
  have hsz:(pickOrder (w.params.setOrder S ep) es).size=es.size:=by have:=(Ch (w.params.setOrder S ep) es).length_eq;simpa using this
  refine cI hh st.2.1 st.2.2 hf (λA E Q q=>Al hb st.2.2 hf ?_) λh' h1=>j h' s.toks λb o hb e=>h1 b o (λz=>hb (by simp[z])) e
  rw[Array.getElem?_eq_none (by lia)];exact q
 self:=λi s Q E st j=>by
  obtain⟨o,ho,hc,hd⟩:=st.2.1;have c:s.TypeIs (.ref I) "set_iterator" := ⟨o,ho,hc⟩;refine HV c F.slot_sit_iter (BX F.slot_sit_iter c F.entry_sit_iter ?_ (F.args_sit_iter_1 _));show wpAny _ _ (ret (.ref I)) _ _ s;exact AC ⟨_,rfl,"set_iterator",_,c,F.slot_sit_next.lookup,j⟩
theorem n3{D:A2}{t:SetTable}{ps:Z Nat}(hh:A.handled=none)(ag:S≠I)(T:D≠I)(hf:t.fits es.size=true)(l:ps.Perm (List.range es.size)) :
  Walks P w A I [I,S,D] [I] es.size (λi v=>(ps[i]?).bind (λq=>(es[q]?).map (·.2))=some v) (λi h=>i<=es.size/\Gp h I (.ref D) i S es.size ep/\h.get? S=some (Um es ep t)/\h.IsTuple D (ps.map λp:Nat=>rawInt p).toArray) where
 sub:=λb hb=>by simp at hb;simp[hb]
 frame:=λi h h' st Y=>⟨st.1,(by obtain⟨o,a,b⟩:=st.2.1;exact⟨o,Y I (by simp) o a,b⟩),Y S (by simp) _ st.2.2.1,st.2.2.2.at λo e=>Y D (by simp) o e⟩
 item:=λi s Q E hi st j=>by
  have hl:ps.length=es.size:=by have:=l.length_eq;simpa using this
  have hq:ps[i]?=some (ps[i]'(by lia)):=AG (by lia);have ae:ps[i]'(by lia)<es.size:=CZ.mp (l.mem_iff.mp (HW _));refine il st.2.1 st.2.2.1 hf st.2.2.2 hq (BZ ae) λh' h1 h2=>?_
  exact j _ h' s.toks (by rw[hq];show Option.map _ _=_;rw[BZ ae];rfl) ⟨hi,h1,by rw[h2.2 S ag];exact st.2.2.1,st.2.2.2.at λo e=>by rw[h2.2 D T];exact e⟩ λb o hb e=>by rw[h2.2 b (λz=>hb (by simp[z]))];exact e
 done:=λs Q E st j=>by
  have hl:ps.length=es.size:=by have:=l.length_eq;simpa using this
  exact j0 hh st.2.1 st.2.2.1 hf st.2.2.2 (EJ (by lia)) λh' h1=>j h' s.toks λb o hb e=>h1 b o (λz=>hb (by simp[z])) e
 self:=λi s Q E st j=>by
  obtain⟨o,ho,hc,hd⟩:=st.2.1;have c:s.TypeIs (.ref I) "set_iterator" := ⟨o,ho,hc⟩;refine HV c F.slot_sit_iter (BX F.slot_sit_iter c F.entry_sit_iter ?_ (F.args_sit_iter_1 _));show wpAny _ _ (ret (.ref I)) _ _ s;exact AC ⟨_,rfl,"set_iterator",_,c,F.slot_sit_next.lookup,j⟩
end L2
variable{es:Z PySem.Expr}{Q:Unit->PySem.Shared->Prop}
namespace PySem.F
theorem entry_set_iter:entryFor table "set.__iter__" = some Builtin.«frozenset.__iter__» :=
 entryFor_alias (id':="frozenset.__iter__") (by kernel_rfl) (by first | rfl | decide +kernel | (unfold String.splitOn;simp +decide [String.splitOnAux])) (by ext) (by kernel_rfl)
end PySem.F
namespace L2
open PySem PySem.Spec PyProof.Rows
def SW(P:Df)(w:D1)(h':Ff)(I S F:Nat)(es:Array (Int×A1)):Prop :=
 ∃ (fp:Z A2) (vs:Z A1) (Pv:Nat->A1->Prop) (St:Nat->Ff->Prop),(∀ A:C0,A.handled=none->Walks P w A I fp [I] es.size Pv St)/\St 0 h'/\(∀ i v,Pv i v->vs[i]?=some v)/\vs.Perm (es.toList.map (·.2))/\I∈fp/\(∀ b∈fp,b<h'.objs.size)/\(∀ b∈fp,b=S\/F<=b)/\F<=I
theorem h8{es:Array (Int×A1)}{t:SetTable}{Q:J1}(hS:s.heap.get? S=some (Um es ep t))(hf:t.fits es.size=true)(hT:LI t)(g:t.led=Nn w)(hb:es.size<scanBound)
  (j:∀ I h' d,SW P w h' I S s.heap.objs.size es->(∀ b o,s.heap.get? b=some o->h'.get? b=some o)->Q (.ref I) { s with heap:=h',drawn:=d }):wpAny (model P w) A (pyIter (.ref S)) Q E s:=by
 have c:s.TypeIs (.ref S) "set" := ⟨_,hS,rfl⟩;refine HV c F.slot_set_iter (BX F.slot_set_iter c F.entry_set_iter ?_ (F.args_set_iter_1 _));unfold Builtin.«frozenset.__iter__»;refine AA (ER (a:=S) (by first | rfl | kernel_rfl) ?_);unfold Builtin.Frozenset.sizeOf;refine AA (AA (FR hS rfl hf (AC ?_)));unfold setDrawn;refine AA (AA (FI hS rfl hf ?_));dsimp only;refine AA (Ek (AC ?_));have h:S<s.heap.objs.size:=AN hS;refine HC (λf=>?_) (λf=>?_)
 ·refine AA (dG es.size (List.range es.size) _ _ (by simp) λps d l=>?_)
  simp only[newTuple];have ac:ps.length=es.size:=by have:=l.length_eq;simpa using this
  refine AA (BK ?_ (by show(ps.map λi:Nat=>rawInt i).toArray.size<=sizeLine;rw[AU,AD,ac];exact FJ hb));have r:=AB { cls:=Value.type "tuple",data:=Data.seq (ps.map λi:Nat=>rawInt i).toArray } hS;refine AA (wpAny_setEpoch_of (s:={ s with heap:=s.heap.push _,drawn:=d }) r rfl hf ?_);simp only[newFields];refine AA (BK ?_ (by size_fits));refine AC ⟨_,rfl,"set_iterator",_,⟨_,AQ _ rfl,rfl⟩,F.slot_sit_next.lookup,j _ _ d ?_ λb o e=>AB _ (AB _ e)⟩;refine⟨[(s.heap.push _).objs.size,S,s.heap.objs.size],ps.map (λq=>((es[q]?).map (·.2)).getD .none),_,_,λA hh=>n3 (es:=es) (ep:=ep) (t:=t) (ps:=ps) hh (by rw[Yt];exact BG (CU h)) (by rw[Yt];exact BG (DK _)) hf l,?_,?_,?_,by simp,?_,?_,?_⟩
  ·exact⟨CP _,⟨_,AQ _ rfl,rfl,rfl⟩,AB _ r,⟨_,AB _ (AQ _ rfl),rfl,0,rfl⟩⟩
  ·intro i v hv
   cases hq:ps[i]? with
   | none=>rw[hq] at hv;cases hv
   | some q =>
    rw[hq] at hv;rw[AM,hq];show some (((es[q]?).map (·.2)).getD .none)=_;rw[show(es[q]?).map (·.2)=some v from hv];rfl
  ·refine(l.map _).trans ?_
   rw[show(List.range es.size).map (λq=>((es[q]?).map (·.2)).getD .none)=es.toList.map (·.2) from ?_];apply List.ext_getElem
   ·simp
   ·intro k h1 h2
    have Y:k<es.size:=by simpa using h1
    simp[Y]
  ·intro b m
   rw[Yt];show b<(Heap.push _ _).objs.size+1;rw[Yt];rcases AZ.mp m with e | e
   ·rw[e,Yt];exact DK _
   ·rcases AZ.mp e with e | e
    ·rw[e];exact CU (CU h)
    ·rw[AJ.mp e];exact CU (DK _)
  ·intro b m
   rcases AZ.mp m with e | e
   ·rw[e,Yt];exact .inr (DH _)
   ·rcases AZ.mp e with e | e
    ·exact .inl e
    ·rw[AJ.mp e];exact .inr (AT _)
  ·show _<=(Heap.push _ _).objs.size
   rw[Yt];exact DH _
 ·refine AA (AC ?_)
  refine AA (wpAny_setEpoch_of hS rfl hf ?_);simp only[newFields];refine AA (BK ?_ (by size_fits));refine AC ⟨_,rfl,"set_iterator",_,⟨_,AQ _ rfl,rfl⟩,F.slot_sit_next.lookup,j _ _ s.drawn ?_ λb o e=>AB _ e⟩;have x:∀ b∈[s.heap.objs.size,S],b<(s.heap.push (dY (rawInt (0:Nat)) 0 S es.size ep)).objs.size:=λb hb=>by
   rw[Yt];rcases AZ.mp hb with e | e
   ·rw[e];exact DK _
   ·rw[AJ.mp e];exact CU h
  have u:∀ b∈[s.heap.objs.size,S],b=S\/s.heap.objs.size<=b:=λb hb=>by
   rcases AZ.mp hb with e | e
   ·rw[e];exact .inr (AT _)
   ·exact .inl (AJ.mp e)
  have p:Gp (s.heap.push (dY (rawInt (0:Nat)) 0 S es.size ep)) s.heap.objs.size (rawInt (0:Nat)) 0 S es.size ep:=⟨_,AQ _ rfl,rfl,rfl⟩;cases n:w.params.followText "set-order" with
  | true =>
   refine⟨[s.heap.objs.size,S],(pickOrder (w.params.setOrder S ep) es).toList.map (·.2),_,_,λA hh=>qw (t:=t) hh (BG h) n hf,⟨CP _,p,AB _ hS⟩,λi v hv=>?_,(Ch _ es).map _,by simp,x,u,AT _⟩;rw[AM,DP];exact hv
  | false =>
   have ac:(!t.plain&&decide (es.size > 1))=false:=by
    rw[n] at f;have:¬ ((!t.plain&&decide (es.size > 1))=true):=λz=>f (show(!false&&(!t.plain&&decide (es.size > 1)))=true by rw[z];rfl)
    simpa using this
   refine⟨[s.heap.objs.size,S],es.toList.map (·.2),_,_,λA hh=>fF (t:=t) (ep:=ep) hh (BG h) n hf ac (by rw[g];unfold Nn;rw[n];rfl) hT,⟨CP _,p,AB _ hS⟩,λi v hv=>?_,EM _,by simp,x,u,AT _⟩;rw[AM,DP];exact hv
theorem Ab:typeLookup (.type "set") "__len__" = pure (some (.builtin "set.__len__")):=by rw[HB,FE];kernel_rfl
theorem nK{Q:Bool->A4->Prop}(hT:s.TypeIs (.ref S) "set")(h:Q false s):wpAny (model P w) A (Builtin.List.listLengthHint (.ref S)) Q E s:=by
 unfold Builtin.List.listLengthHint;refine AA (IM hT Ab ?_)
 (generalize a:("set.__len__" : String)=c;(fail_if_success (clear a c));wp_delta;rw[show splitId c=some ("set","__len__") from by subst a;decide +kernel];subst a)
 refine AA (GN (b:=true) hT (by rw[IX];kernel_rfl) ?_);refine HC (λf=>absurd f (by decide)) (λ_=>?_);refine HC (λ_=>?_) (λf=>absurd (by ext) f);refine AA (FP hT ?_);exact AC h
theorem mh{vs:Z A1}{B:Array A1}{n:Nat}(h:ItemsOf Pv B n)(hp:∀ i v,Pv i v->vs[i]?=some v)(hn:vs.length=n):B.toList=vs:=by
 apply II;intro i;by_cases hi:i<B.size
 ·rw[DP,BZ hi]
  exact(hp i _ (h.2 i _ (BZ hi))).symm
 ·rw[EJ (by rw[BD];lia),EJ (by rw[hn,← h.1];lia)]
theorem iK{Q:Z A1->A4->Prop}(hh:A.handled=none)(hS:SK P w s.heap S (Nn w) ks)
  (j:∀ vs h' tk d,(∃ ns,IntsAre vs ns/\ns.Perm ks)->(∀ b o,s.heap.get? b=some o->h'.get? b=some o)->s.heap.objs.size<=h'.objs.size->Q vs { s with heap:=h',toks:=tk,drawn:=d }):wpAny (model P w) A (collect (.ref S)) Q E s:=by
 obtain⟨es,ep,t,ho,r,hp,hb,hf,hT,g⟩:=hS;unfold collect;refine AA (HL (CV F.entry_proto_collect ?_));rw[FN F.plain_proto_collect _];show wpAny _ A.in1 (newList [] >>= λl=>again (.builtin "list.__iadd__" ⟨[l,.ref S],[]⟩)) _ _ s;refine AA (BK ?_);refine AC ⟨GR F.plain_list_iadd _,CV F.entry_list_iadd ?_⟩;rw[FN F.plain_list_iadd _];show wpAny _ A.in1 (Builtin.List.listExtendWith (.ref s.heap.objs.size) (.ref S) (.ref s.heap.objs.size)) _ _ _;unfold Builtin.List.listExtendWith;have h:S<s.heap.objs.size:=AN ho;have n:=AB { cls:=Value.type "list",data:=Data.seq ([]:Z A1).toArray } ho;refine AA (FP (T:="set") ⟨_,n,rfl⟩ ?_);have g1:Builtin.List.listSameRef (.ref s.heap.objs.size) (.ref S)=false:=by simp[Builtin.List.listSameRef,IV h]
 have g2:(Value.type "set" == Value.type "list")=false:=by decide
 have g3:(Value.type "set" == Value.type "tuple")=false:=by decide
 simp only[g1,g2,g3,KR,FC,HG];refine AA (h8 n hf hT g hb λI h' d sw kp=>?_);have m:=kp _ _ n;refine AA (BN (nK ⟨_,m,rfl⟩ ?_));refine HC (λ_=>?_) (λf=>absurd (by ext) f);refine AA (HM ?_);obtain⟨fp,vs,Pv,St,W,st,x,D,M,ae,p,G⟩:=sw;rw[Yt] at p G;have C:(s.heap.push { cls:=Value.type "list",data:=Data.seq ([]:Z A1).toArray }).get? s.heap.objs.size=some { cls:=Value.type "list",data:=Data.seq ([]:Z A1).toArray }:=AQ _ rfl;have H:=kp _ _ C;have q:s.heap.objs.size∉fp:=λhm=>by
  rcases p _ hm with e | e
  ·exact IV h e
  ·exact Nat.not_succ_le_self _ e
 refine AA ?_;show wpAny _ _ (updateSeq s.heap.objs.size (·.push .none) >>= λ_=>updateSeq s.heap.objs.size (·.pop)) _ _ _;refine AA (KC H rfl ?_);have N:=BI (Obj.mapSeq (·.push Value.none)) H rfl;refine KC (hz:=by seq_fits) N rfl ?_;have R:=BI (Obj.mapSeq (·.pop)) N rfl;have a:∀ b o,b≠s.heap.objs.size->h'.get? b=some o->((h'.update s.heap.objs.size (Obj.mapSeq (·.push Value.none))).update s.heap.objs.size (Obj.mapSeq (·.pop))).get? b=some o:=λb o hb e=>(BA _ _ (AO hb)).trans ((BA _ _ (AO hb)).trans e)
 have X:=W A.in1 hh;have J:vs.length=es.size:=by have:=D.length_eq;simpa using this
 refine AC ⟨GR F.plain_extend_loop _,codeAny_extend_loopS (X.toS) (FJ hb) _ q _ es.size 0 _ _ _ rfl (CP _) (X.frame 0 _ _ st λb hb o e=>a b o (λz=>q (z▸hb)) e) R (ItemsOf.nil _) λs' B c hm hA af=>?_⟩;show wpAny _ A (load s.heap.objs.size >>= _) _ _ s';refine AA (wpAny_load hA ?_);rw[KS hm];refine AC (j _ _ _ _ ?_ (λb o e=>hm.heap b o (λy=>?_) (a b o (BG (AN e)) (kp _ _ (AB _ e)))) (DX (AN hA)))
 ·have e:=mh af x J
  show ∃ ns,IntsAre B.toList ns/\_;rw[e];refine⟨vs.map TC,?_,?_⟩
  ·have u:∀ v∈vs,∃ k t,v=Value.int k t:=λv hv=>by
    obtain⟨e,he,rfl⟩:=CL.mp (D.mem_iff.mp hv);obtain⟨⟨k,Y,_⟩,_⟩:=r e he;obtain⟨t,ht⟩:=Pd Y;exact⟨k,t,ht⟩
   clear D e x J;induction vs with
   | nil=>exact .nil
   | cons v vs ih =>
    obtain⟨k,t,rfl⟩:=u v AW;exact .cons k t (ih λv hv=>u v (AV _ hv))
  ·refine(D.map TC).trans ?_
   rw[EX];exact hp
 ·have i:=AN e
  rcases AZ.mp y with z | z
  ·exact BG i z
  ·rw[AJ.mp z] at i
   exact DA _ (AR i (Nat.le_of_succ_le G))
end L2
namespace Sq
open PySem PyProof PyProof.Rows
section
variable{a₀:Array Keyed}{p:Array (Nat×Nat×Nat)}
end
section
variable{r:Int->Int->Prop}{a b out:Z Keyed}{ia ib:Nat}
end
section
variable{a b:Array Keyed}{n0:Nat}
end
section
variable{a₀:Array Keyed}
end
end Sq
namespace L2
open PySem PySem.Spec PyProof.Rows
theorem cw(ns:Z Int):fm (λi=>ns.getD i 0) ns.length=ns.foldl Q9 []:=by
 unfold fm;congr 1
 apply List.ext_getElem
 ·simp
 ·intro i h1 h2
  simp[List.getD_eq_getElem?_getD,AG h2]
section
variable{X:Cx}
theorem C'.drawn(d:Drawn)(I:C' X aa σ H s):C' X aa σ H { s with drawn:=d }:=⟨I.ok,I.os,I.bare,I.base,I.loc,I.cell,I.free,I.freeC,I.pin,I.hok,I.len⟩
theorem addK_nd(h:ks.Nodup)(k:Int):(Q9 ks k).Nodup:=by
 unfold Q9;split
 ·exact h
 ·rename_i Y
  exact GG.mpr ⟨h,DB.mpr ⟨by simp,EB⟩,λa ha b hb=>by
   rw[AJ.mp hb];intro e;exact Y (e▸ha)⟩
theorem Gg:∀ (ns ks:Z Int),ks.Nodup->(ns.foldl Q9 ks).Nodup
 | [],_,h=>h
 | n::ns,ks,h=>Gg ns _ (addK_nd h n)
theorem Dn(ns:Z Int):(ns.foldl Q9 []).length<=ns.length:=by rw[← cw];exact VI _ _
end
end L2
set_option maxHeartbeats 4000000
namespace L2
open PySem PySem.Spec PyProof.Rows
section
variable{X:Cx}
theorem Gh:∀ {its:Z A1} {ns:Z Int},Y0 (ns.map V.int) its->∃ xs:Z (Int×Tok),its=xs.map (λp=>Value.int p.1 p.2)/\xs.map (·.1)=ns
 | [],[],_=>⟨[],rfl,rfl⟩
 | [],_::_,r=>by have:=r.length;simp at this
 | _::_,[],r=>by have:=r.length;simp at this
 | v::its,n::ns,r=>by
  cases r with
  | cons h r' =>
   obtain⟨xs,e1,e2⟩:=Gh r';obtain⟨t,rfl⟩:=h;exact⟨(n,t)::xs,by rw[e1];rfl,by rw[CC,e2]⟩
def oK(K:G8):Z V->Hp->VK->Prop:=λxs H Q=>∃ (p:A2) (ns:Z Int),xs=[.ref p]/\Dd K H p (ns.map V.int)/\Q (.int ns.sum) H
def YE:Z Dat->C1 Dat
 | [.lst xs]=>(U8 xs).map λns=>.int ns.sum
 | _=>none
theorem kW{b:A2}{vs ws:Z A1}{Q:J1}(ht:IsTup s.heap t vs.toArray)(hb:IsTup s.heap b ws.toArray)(hv:vs=[])(h0:Q (.ref b) s):wpAny (model P w) A (binaryOp .Add (.ref t) (.ref b)) Q E s:=by
 obtain⟨⟨cls,dd,data,sl⟩,ho,hc,n,hd⟩:=id ht;obtain⟨⟨a,j,data2,k⟩,m,af,n2,g⟩:=id hb;simp only at hc hd af g;subst hc hd af g;exact LC ⟨_,ho,rfl⟩ ⟨_,m,rfl⟩ JV KQ HZ HN (HF _ _)
  (tuple_addW0 t b vs.toArray ws.toArray n n2 dd j sl k (by simp[hv])) ⟨ho,m,h0⟩
theorem Pk.tupR{A:AS}{v:V}(h:Pk K A H (.tup ds) v):Rp K (av H A) (.tup ds) v:=by
 rcases h with h | ⟨a,vs,ds,e1,e2,e3,e4⟩ | ⟨_,_,_,e1,_⟩ | ⟨_,_,e1,_⟩
 ·exact h
 ·cases e1
 ·cases e1
 ·cases e1
def OG:Dat->Dat->C1 Dat
 | .tup xs,.tup ys=>if xs.length+ys.length<=sizeLine then some (.tup (xs++ys)) else none
 | _,_=>none
theorem VQ:R0 X (binaryOp .Add) OG:=λaa s σ H x y v u Q I S m zz=>by
 obtain⟨A,a,b,d,mu,e,p1,p2,q⟩:=zz;unfold OG at e;split at e
 ·rename_i xs ys
  split at e
  ·rename_i hz
   cases e;obtain⟨l1,vs,e1,h1,r1⟩:=p1.tup;obtain⟨l2,us,e2,h2,r2⟩:=p2.tup;have z1:=Zw r1;have z2:=Zw r2;have w1:=p1.tupR;have w2:=p2.tupR;by_cases hx:xs=[]
   ·subst hx e1 e2
    cases S;cases m;obtain⟨its,y1,g1,_⟩:=I.tuple h1;obtain⟨c,y2,g2,_⟩:=I.tuple h2;have hn:its=[]:=by
     have:=y1.length;rw[z1] at this;exact EZ.mp this.symm
    refine kW g1 g2 hn ⟨.ref l2,H,I,rfl,?_⟩;exact q.here w2
   ·refine ot aa s σ H x y v u Q I S m ⟨l1,l2,vs,us,e1,e2,h1,h2,kR r1 (by simpa using hx),by lia,λhy=>?_,λhy=>?_⟩
    ·have:ys=[]:=by subst hy;exact EZ.mp z2.symm
     subst this;rw[GM] at q;rw[e1] at w1;exact q.here w1
    ·exact q.tup mu (by rw[AX];exact hz) (Wq r1 r2)
  ·cases e
 ·cases e
end
end L2
variable{gg:L2.Dat->L2.Ev->C1 L2.Ev}{env':L2.Ev}
namespace L2
open PySem PySem.Spec PyProof.Rows PySem.W
def Mh(ao:Z Str)(t:Str):Str->C1 Bool:=λc=>if c∈ao then some (decide (c=t)) else none
def B2(ao:Z Str):Str->C1 Bool:=λc=>if c∈ao then some true else none
def Vd(ao:Z Str):Str->Bool:=λc=>decide (c∈ao)
def OS(K:Frag)(mg:J')(tx:Str)(sb:Str->C1 Bool):Prop:=∃ D,mg tx=some (.ref D)/\∀ c C b,Yy K c C->sb c=some b->kitOne K (.ref C) (.ref D)=some b/\I7 K C
def WB(K:Frag)(mg:J')(tx:Str)(T:String)(sb:Str->C1 Bool):Prop:=∀ c C b,Yy K c C->sb c=some b->kitOne K (.ref C) (.type T)=some b/\I7 K C
def UL(K:Frag)(mg:J')(T:Str)(sub:Str->Bool):Prop:=∃ D,mg T=some (.ref D)/\∀ c C,Yy K c C->sub c=true->exmOne K (.ref C) (.ref D)=some true
def QU(K:Frag)(okc:Str->Bool)(fd:Str):Prop:=∀ c C,Yy K c C->okc c=true->I7 K C/\findIn K (.ref C) fd=some none
section
variable{X:Cx}{f:Zzu}{h:Ev->Fl}{suite:Z C4}{T n:Str}{sub:Str->Bool}
theorem OW(he:Yz true X e f)(hC:OS X.K X.mg tx sb)(hm:X.mg "isinstance" = none)(hg:Gl X "isinstance" := by rfl)(i:Gl X tx:=by rfl)(hv:bootBuiltins "isinstance" = some (.builtin "isinstance"):=by ext)(g:C2 tx:=by decide)
  (hs:starEach [e,.Name tx p2] X.env=(false,eval e X.env)::starEach [.Name tx p2] X.env:=by rfl):Yz m X (.Call (.Name "isinstance" p) [e,.Name tx p2] [] pos) (MZ sb f):=by
 obtain⟨D,h1,h2⟩:=hC;exact hD he h1 h2 hm hg i hv g hs
end
section
variable{K:Frag}
theorem qT{D:A2}(hm:mg tx=some (.ref D))(h:∀ c∈ao,∃ C,Yy K c C/\kitOne K (.ref C) (.ref D)=some (decide (c=tx))/\I7 K C):OS K mg tx (Mh ao tx):=by
 refine⟨D,hm,λc C b hc hb=>?_⟩;unfold Mh at hb;split at hb
 ·rename_i hr
  cases hb;obtain⟨g,h1,h2,h3⟩:=h c hr;unfold Yy at hc h1;rw[hc] at h1;cases h1;exact⟨h2,h3⟩
 ·cases hb
theorem fq{T:String}(h:∀ c∈ao,∃ C,Yy K c C/\kitOne K (.ref C) (.type T)=some true/\I7 K C):WB K mg tx T (B2 ao):=by
 refineλc C b hc hb=>?_
 unfold B2 at hb;split at hb
 ·rename_i hr
  cases hb;obtain⟨g,h1,h2,h3⟩:=h c hr;unfold Yy at hc h1;rw[hc] at h1;cases h1;exact⟨h2,h3⟩
 ·cases hb
theorem gB{T:Str}{D:A2}(hm:mg T=some (.ref D))(h:∀ c∈ao,∃ C,Yy K c C/\exmOne K (.ref C) (.ref D)=some true):UL K mg T (Vd ao):=by
 refine⟨D,hm,λc C hc hb=>?_⟩;obtain⟨g,h1,h2⟩:=h c (BM hb);unfold Yy at hc h1;rw[hc] at h1;cases h1;exact h2
theorem ft{fd:Str}(h:∀ c∈ao,∃ C,Yy K c C/\I7 K C/\findIn K (.ref C) fd=some none):QU K (Vd ao) fd:=λc C hc hb=>by
 obtain⟨g,h1,h2⟩:=h c (BM hb);unfold Yy at hc h1;rw[hc] at h1;cases h1;exact h2
end
section
variable{X:Cx}
theorem lq:MX X "list.extend" (λx vs H Q=>∃ l b xs zs,x=.ref l/\vs=[.ref b]/\H l=some (.lst xs)/\SL X.K H b zs/\xs.length+zs.length<=sizeLine/\Q .non (Yr H l (.lst (xs++zs)))):=by
 intro aa s σ H x vs v us Q I S rv h;obtain⟨l,b,xs,zs,rfl,rfl,g,m,hz,q⟩:=h;cases S;obtain⟨u,rfl,N⟩:=rv.one;cases N;obtain⟨z,its,n,r,hl,e⟩:=I.lstM g;obtain⟨c,n2,r2,e2,am⟩:=m.get I;have W:=r2.length;have hsz:its.toArray.size+c.toArray.size<=sizeLine:=by rw[AU,AU];lia
 have a:¬ (!its.toArray.isEmpty&&Builtin.List.listTooLong (its.toArray.size+c.toArray.size))=true:=by
  rw[h6 hsz,KM];exact BY
 refine JT PySem.F.slot_list_extend ⟨_,e,rfl⟩ PySem.F.entry_list_extend (PySem.F.args_list_extend_2 _ _)
  (AutoSeq1.list_extend_list_list_0 l its.toArray n b c.toArray n2 a (by rw[AU];lia) (by lia)) ⟨e,e2,?_⟩
 refine⟨.non,_,I.lset (its':=its++c) g e (by simp) (r.append r2) ?_,rfl,q⟩;rw[AX];lia
def P3:Z Dat->Z Dat->C1 (Z Dat)
 | ds,[.lst es]=>if ds.length+es.length<=sizeLine then some (ds++es) else none
 | _,_=>none
theorem hO:TR X "list.extend" P3:=MX.weak (id:="list.extend") lq λv us H Q zz=>by
 obtain⟨A,a,vs,ds,as,ds',mu,e1,h1,r1,r2,e2,q⟩:=zz;unfold P3 at e2;split at e2
 ·rename_i es
  split at e2
  ·rename_i hl
   cases e2;obtain⟨w,I,e3,T,e4⟩:=r2;obtain⟨b,zs,e5,hS,r5⟩:=Qa T;subst e5;have l1:=Zw r1;have l2:=Zw r5;refine⟨a,b,vs,zs,e1,by rw[e3,show I=[] from e4],h1,Yn.sl hS,by lia,q _ _ (by rw[AX];exact hl) (Wq r1 r5)⟩
  ·cases e2
 ·cases e2
end
section
variable{X:Cx}{f:Zzu}{vs:Z C3}{r:Ev->Str->C1 Str}
end
end L2
variable{env:L2.Ev}{j:Int}
namespace L2
open PySem PySem.Spec PyProof.Rows PySem.W PySem.Builtin PySem.Builtin.Str
section
variable{X:Cx}
end
end L2
namespace L2
open PySem PySem.Spec PyProof.Rows PySem.W
def XG:Ev->Fl:=λ_=>.no
theorem ZD{X:Cx}{st:C4}:En fr X st XG:=λaa s σ H D I ⟨env,B,A,k,l,q⟩=>q.elim
section
variable{X:Cx}{n:Nat}{c:Str}
theorem gJ(M:LJ X.prog X.w X.K X.mg X.base k c n G)(hr:G2 (k+1) X.A)(hc:X.calm=true)(hg:Gl X c:=by rfl)(P:C2 c:=by decide)
  : En fr X (.Raise (some (.Call (.Name c p) [] [] al)) none pos) (Vy c G Za):=by
 intro aa s σ H D I ⟨env,B,A,kk,l,q⟩;obtain⟨C,fI,D',fd,ps,S,hm,Q,hx,xc,af,F,hb⟩:=M.ex;unfold Vy at q;split at q
 ·exact q.elim
 rename_i fl aj;obtain⟨ds,e1,hG⟩:=bind_some aj;obtain⟨nm,qn,N,bs,sn,sub,ab,col,dd,k0,k1,k2,k3,k5,mN,hC,hN,hi,T⟩:=Xx I.kIn hx;have ah:wpAny (model X.prog X.w) X.A (eval (.Call (.Name c p) [] [] al) X.env) (λv s'=>∃ ex t dct,v=.ref ex/\(∃ o,s'.heap.get? C=some o)/\s'.heap.get? ex=some { cls:=.ref C,dict:=dct,data:=.fields #[.ref t,.none,.none,.none,.bool false,.none] }/\X.K.In s'.heap/\X.xe (.ref ex) s') X.xe s:=by
  refine CN (V8 I hg hm ?_ P);refine callWith_K0 I.kIn Q ?_;cases e1;exact Aq M hr I kk .nil Vo hG S hx af F hb λH' σ' _ j k2=>q A H' σ (G0.same j) k2
 rw[KL];refine AA (DL (Nb (C:=C) (nm:=nm) (q:=qn) (N:=N) (bs:=bs) (bm:=.ref D'::Qe) (hdct:=true) (sn:=sn) (sub:=sub) (ab:=ab) (col:=col) (dd:=dd) (k0:=k0) (k1:=k1) (k2:=k2) (k3:=k3) (k5:=k5) (newId:="ValueError.__new__") (by simp[Qe]) (I.ok.hd hc) (AA (BO ah (λv s₃ h₃=>AA (DL (AC ?_))) λ_ _ x=>x))));obtain⟨ex,t,dct,rfl,_,hex,f,a⟩:=h₃;obtain⟨o,lk⟩:∃ o,X.K.lookup C=some o:=by
  unfold R5 at hx;split at hx
  ·rename_i ho;exact⟨_,ho⟩
  ·cases hx
 have e2:=(I.kIn _ _ lk).symm.trans hC;cases e2;exact⟨ex,.ref t,dct,rfl,f _ _ lk,hex,a⟩
end
def gZ:Z Dat->C1 (Z (Str×XD))
 | []=>some []
 | _=>none
theorem cX:∀ ds fl,gZ ds=some fl->ds.length=0:=λds fl h=>by
 unfold gZ at h;split at h
 ·rfl
 ·cases h
section
variable{K:Frag}
theorem hL{st:C4}{D:A2}{z:Str}(F:LY K "__init__" ai st fI fd)(S:FnScope ["self"] ["self"] (Z7 st))(hx:R5 K C aB D=true)
  (hb:∀ (aj:A1) (A:C0) (outer:Z Gf) (s:A4) (H:Hp) (E:XK),G2 k (A.deeper (envOfC ai (Z7 st) s.heap.objs.size fI aj)) ->
   Sv (T6 Et P w K mg base ["self"] ai (Z7 st) fI aj A outer s H E).nox (Yb st) (RD (SF K (R8 (Ml 0) (R8 (tC (.str z)) NT))))) :
  J3 P w K mg base Et (k+1) fI fd ["self"] (NJ K C 0 gZ):=by
 refine F.ok S (λvs H Q E ⟨e,ws,ds,R,fl,ev,hl,_⟩=>by rw[ev,BH,hl];rfl) λaj A outer s H vs Q E hr ⟨e,ws,ds,R,fl,ev,hl,he,mu,re,rs,hG,q⟩=>⟨_,hb aj A outer s H E hr,?_⟩
 subst ev;have ew:ws=[]:=EZ.mp hl;subst ew;have G:ds=[]:=EZ.mp (cX ds fl hG);subst G;cases hG;exact⟨.ref e,rfl,e,C,none,.str z,aB,D,rfl,he,hx,q H none (λ_ _ _ h=>h) he rfl jf⟩
end
section
variable{X:Cx}
def RP(K:Frag)(ta tv:TE)(f:Str):TS:=λD σ H=>tv σ H λy H1=>ta σ H1 λx H2=>∃ a C dx j fI D',x=.ref a/\H2 a=some (.ext (G4 a C (some dx)))/\H2 dx=some (.xd j)/\j.length<=100/\j.lookup f=none/\R5 K C fI D'=true/\I7 K C/\findIn K (.ref C) f=some none /\
 D.nx σ (Yr H2 dx (.xd (j++[(f,y)])))
theorem O2(f g:Str)(y:β):∀ (l:Z (Str×β)),(l++[(f,y)]).lookup g=match l.lookup g with | some v=>some v | none=>if g=f then some y else none
 | []=>by
   by_cases e:g=f
   · subst e;simp[List.lookup]
   · have e':(g==f)=false:=by simpa using e
     simp[List.lookup,e',e]
 | (h,z)::l=>by
   rw[List.cons_append,EQ,EQ];cases hh:(g==h) with
   | true=>rfl
   | false=>exact O2 f g y l
theorem F5{z:Str}{v:β}:∀ {l:Z (Str×β)},l.lookup z=some v->z∈l.map (·.1)
 | [],h=>by simp at h
 | (k,w)::l,h=>by
   rw[EQ] at h;cases hh:(z==k) with
   | true=>rw[DO.mp hh];simp
   | false=>rw[hh] at h;exact AV _ (F5 h)
theorem Ox{o:C3}{f:Str}(ha:PE X o ta)(hv:PE X aq tv)(hs:swapsWith aq (some (.Attribute o f am)) pos.line X.env=pure false:=by rfl):PS X (.Assign [.Attribute o f am] aq pos) (RP X.K ta tv f):=by
 intro aa s σ H D I h;refine plainObj_wpAny_Assign_Attribute (Wo (hv aa s σ H _ I h) λu s1 ⟨y,H1,I1,m,q⟩=>Wo (ha aa s1 σ H1 _ I1 q) λE s2 ⟨x,H2,I2,S,a,C,dx,j,fI,D',ex,ea,G,M,k,hc,xc,hf,q2⟩=>?_) hs;subst ex;obtain rfl:E=Value.ref a:=S;obtain⟨⟨t0,P⟩,_,_⟩:=(show Yl X.prog X.w H2 s2.heap a (.ext (G4 a C (some dx))) from I2.hok a _ ea);obtain⟨mA,B,T⟩:=(show Yl X.prog X.w H2 s2.heap dx (.xd j) from I2.hok dx _ G);obtain⟨cd,af,J,r,t,hm⟩:=xc.cd;obtain⟨oC,Q,hC,p,A⟩:=xc.ld I2.kIn;have i:=B;obtain⟨od,es,ep,R,hcod⟩:=B;have W:InstAt s2.heap a { cls:=.ref C,dict:=some dx,data:=.fields #[.ref t0,.none,.none,.none,.bool false,.none] } C (some od):=⟨P,rfl,rfl,R⟩;refine set_plain I2.kIn W xc.sa ?_;refine bS (s:={ s2 with toks:=s2.toks+1 }) I2.kIn W af hm hf ?_;obtain⟨hh,g,d,tk,os⟩:=s2;have hw:Within mA (j.map (·.1)):=λz hz=>by
  have:=T z;cases e:j.lookup z with
  | none =>
   rw[e] at this;cases e2:mA z with
   | none=>exact absurd e2 hz
   | some v=>rw[e2] at this;exact this.elim
  | some v=>exact F5 e
 refine nQ P rfl rfl i hw (by rw[AD];lia) hC p A λh' N F Y hsz=>?_
 have nd:∀ {b:A2} {o:HO},H2 b=some o->(∀ l,o≠.xd l)->b≠dx:=λ{b o} q n z=>by rw[z,G] at q;cases q;exact n _ rfl
 have n0:∀ {b:A2},H2 b=none->b≠dx:=λ{b} q z=>by rw[z,G] at q;cases q
 have un:Un X.fs [] H2 (Yr H2 dx (.xd (j++[(f,y)]))) hh h':=by
  refine⟨λb o q n _ _=>Y b o (n0 n) q,λb o q n _ _=>⟨o.slots,Y b o (n0 n) q⟩,λb o q n _=>by rw[Zc (n0 n)];exact n,λb o q _=>?_,λb xs q=>by rw[Zc (nd q (λ_ z=>by cases z))];exact q,λb o u q=>by rw[Zc (nd q (λ_ z=>by cases z))];exact q,λb ps q=>⟨#[],by rw[Zc (nd q (λ_ z=>by cases z))];simpa using q⟩⟩;by_cases z:b=dx
  ·subst z
   obtain⟨od2,_,_,h2,_⟩:=F;exact⟨_,h2⟩
  ·exact⟨_,Y b o z q⟩
 have hok:Ms X.prog X.w (Yr H2 dx (.xd (j++[(f,y)]))) h':=by
  intro b o q;by_cases z2:b=dx
  ·subst z2
   rw[Zg] at q;cases q;refine⟨_,F,λg=>?_⟩;show O8 (List.lookup g (j++[(f,y)])) (if g=f then some u else mA g);rw[O2];by_cases e:g=f
   ·subst e
    rw[k];simp[O8];exact m
   ·have:=T g
    cases e3:j.lookup g with
    | none=>rw[e3] at this;simpa[e] using this
    | some v=>rw[e3] at this;simpa[e] using this
  ·rw[Zc z2] at q
   refine(I2.hok b o q).stay (λc v z w=>Y c v (λzz=>?_) w) (λc w=>?_) λc xs w=>?_
   ·rcases z with z | z
    ·exact z2 (z.symm.trans zz)
    ·rw[zz,G] at z;cases z
   ·rw[Zc (λzz=>by rw[zz,G] at w;cases w)];exact w
   ·rw[Zc (λzz=>by rw[zz,G] at w;cases w)];exact w
 exact⟨σ,_,I2.un (h':=h') (t':=N) un hok,q2⟩
end
variable{x1 x2 x3:Str}{E:XK}{env:Gf}{e:A2}
def S0(i:Int):Bool:=decide (0<=i)&&decide (i<1000)
theorem L8{i:Int}(h:S0 i=true):0<=i/\i<1000:=by
 unfold S0 at h;rw[AY] at h;exact⟨BM h.1,BM h.2⟩
def gC(f1 f2 f3:Str):Z Dat->C1 (Z (Str×XD))
 | [.lst xs,.int i,.int j]=>(U8 xs).bind λns=>if(Ux ns&&S0 i&&S0 j)=true then some [(f1,.nums ns),(f2,.int i),(f3,.int j)] else none
 | _=>none
def gK(f1 f2 f3:Str):Z Dat->C1 (Z (Str×XD))
 | [.lst xs,.lst ys,.int i]=>(U8 xs).bind λns=>(U8 ys).bind λB=>if(Ux ns&&Ux B&&S0 i)=true then some [(f1,.nums ns),(f2,.nums B),(f3,.int i)] else none
 | _=>none
section
variable{K:Frag}
theorem j'{st:C4}{D:A2}(F:LY K "__init__" ai st fI fd)(S:FnScope ["self",x1,x2,x3] ["self",x1,x2,x3] (Z7 st))(hx:R5 K C aB D=true)(xc:I7 K C)(h1:findIn K (.ref C) f1=some none)(h2:findIn K (.ref C) f2=some none)(h3:findIn K (.ref C) f3=some none)
  (ac:f1≠f2) (ae:f1≠f3) (ag:f2≠f3)
  (hb:∀ (aj:A1) (A:C0) (outer:Z Gf) (s:A4) (H:Hp) (E:XK),G2 k (A.deeper (envOfC ai (Z7 st) s.heap.objs.size fI aj)) ->
   Sv (T6 Et P w K mg base ["self",x1,x2,x3] ai (Z7 st) fI aj A outer s H E).nox (Yb st) (F0 (RD (SF K (R8 (Ml 0) (R8 (Og r) NT)))) (F0 (TF K (Ml 0) (PQ (RY K) (R8 (Ml 1) NT)) f1) (F0 (RP K (Ml 0) (Ml 2) f2) (RP K (Ml 0) (Ml 3) f3)))))
  (hj:∀ (H:Hp) (e a:A2) (ns:Z Int) (i j:Int),SL K H a (ns.map V.int)->D4 ns->0<=i->i<1000->0<=j->j<1000->OA 0 [some (.ref e),some (.ref a),some (.int i),some (.int j)] H r) :
  J3 P w K mg base Et (k+1) fI fd ["self",x1,x2,x3] (NJ K C 3 (gC f1 f2 f3)):=by
 refine F.ok S (λvs H Q E ⟨e,ws,ds,R,fl,ev,hl,_⟩=>by rw[ev,BH,hl];rfl) λaj A outer s H vs Q E hr ⟨e,ws,ds,R,fl,ev,hl,he,mu,re,rs,hG,q⟩=>⟨_,hb aj A outer s H E hr,?_⟩
 subst ev;unfold gC at hG;split at hG
 ·rename_i xs i j
  obtain⟨ns,hn,hG⟩:=bind_some hG;split at hG
  ·rename_i hs
   cases hG;rw[AY,AY] at hs;obtain⟨⟨hs,hi⟩,Y⟩:=hs;have hs:=Er hs;obtain⟨f,I⟩:=L8 hi;obtain⟨ah,aa⟩:=L8 Y;obtain⟨v,r',e1,r1,r2⟩:=Zt rs;obtain⟨v2,r'',e2,T,r4⟩:=Zt r2;obtain⟨v3,r''',e3,r5,r6⟩:=Zt r4;have e4:=Yj r6;have e5:=Jh T;have t:=Jh r5;subst e1 e2 e3 e4 e5 t;obtain⟨a,us,e3,hS,N⟩:=Qa r1;rw[Vg hn] at N;have e4:=Ys N;subst e3 e4;have d:SL K H a (ns.map V.int):=Yn.sl hS;show F0 _ _ _ [some (.ref e),some (.ref a),some (.int i),some (.int j)] H;refine⟨.ref e,rfl,?_⟩;refine hj H e a ns i j d hs f I ah aa Str.empty _ (by decide) λz=>?_
   refine⟨e,C,none,.str z,aB,D,rfl,he,hx,?_⟩;refine⟨.ref a,rfl,a,ns.map V.int,rfl,.inl d.sq,λl p=>?_⟩;have M:l≠e:=λz=>by rw[z,he] at p;cases p
   refine⟨.ref e,rfl,e,C,none,aB,D,rfl,by rw[Zc (AO M)];exact he,hx,xc,h1,λdx m n=>?_⟩;have u:dx≠l:=λz=>by rw[z,Zg] at m;cases m
   have X:H dx=none:=by rw[Zc u] at m;exact m
   have nR:∀ {b:A2},H b=none->R b=false:=λ{b} z=>by
    cases y:R b with
    | false=>rfl
    | true=>obtain⟨o,ho⟩:=(mu b y).some;rw[z] at ho;cases ho
   have B:∀ (G:Hp) (o o':HO),Yr (Yr G dx o) dx o'=Yr G dx o':=λG o o'=>by funext b;unfold Yr;split<;>rfl
   have a1:(f2==f1)=false:=by simpa using AO ac
   have a2:(f3==f1)=false:=by simpa using AO ae
   have a3:(f3==f2)=false:=by simpa using AO ag
   have ak:List.lookup f2 [(f1,V.ref l)]=none:=by simp[List.lookup,a1]
   have al:List.lookup f3 [(f1,V.ref l),(f2,V.int i)]=none:=by simp[List.lookup,a2,a3]
   refine⟨.int i,rfl,.ref e,rfl,e,C,dx,[(f1,.ref l)],aB,D,rfl,by rw[Zc (AO n),Zg],Zg,by simp,ak,hx,xc,h2,?_⟩;refine⟨.int j,rfl,.ref e,rfl,e,C,dx,[(f1,.ref l),(f2,.int i)],aB,D,rfl,by rw[Zc (AO n),Zc (AO n),Zg],Zg,by simp,al,hx,xc,h3,?_⟩;rw[B,B];refine q _ (some dx) (λc o hc h=>?_) ?_ ?_ (Fe X Zg λg a hm=>by simp at hm;obtain⟨_,rfl⟩:=hm;exact⟨p,_,by rw[Zc (AO u),Zc M,Zg]⟩)
   ·have c1:c≠dx:=λz=>by rw[z,X] at h;cases h
    have c2:c≠l:=λz=>by rw[z,p] at h;cases h
    rw[Zc c1,Zc hc,Zc c2];exact h
   ·rw[Zc (AO n),Zg]
   ·refine⟨[(f1,.ref l),(f2,.int i),(f3,.int j)],Ws Zg (nR X),λg=>?_⟩
    by_cases g1:g=f1
    ·subst g1
     refine .inr ⟨.nums ns,.ref l,by simp[List.lookup],by simp[List.lookup],l,rfl,.inl (.inl (Ws ?_ (nR p))),?_⟩
     ·rw[Zc (AO u),Zc M,Zg]
     ·exact DX (U5 (by have:=hs.1;lia))
    have b1:(g==f1)=false:=by simpa using g1
    by_cases g2:g=f2
    ·subst g2
     exact .inr ⟨.int i,.int i,by simp[List.lookup,b1],by simp[List.lookup,b1],rfl⟩
    have b2:(g==f2)=false:=by simpa using g2
    by_cases g3:g=f3
    ·subst g3
     exact .inr ⟨.int j,.int j,by simp[List.lookup,b1,b2],by simp[List.lookup,b1,b2],rfl⟩
    have b3:(g==f3)=false:=by simpa using g3
    exact .inl ⟨by simp[List.lookup,b1,b2,b3],by simp[List.lookup,b1,b2,b3]⟩
  ·cases hG
 ·cases hG
theorem oA{st:C4}{D:A2}(F:LY K "__init__" ai st fI fd)(S:FnScope ["self",x1,x2,x3] ["self",x1,x2,x3] (Z7 st))(hx:R5 K C aB D=true)(xc:I7 K C)(h1:findIn K (.ref C) f1=some none)(h2:findIn K (.ref C) f2=some none)(h3:findIn K (.ref C) f3=some none)
  (ac:f1≠f2) (ae:f1≠f3) (ag:f2≠f3)
  (hb:∀ (aj:A1) (A:C0) (outer:Z Gf) (s:A4) (H:Hp) (E:XK),G2 k (A.deeper (envOfC ai (Z7 st) s.heap.objs.size fI aj)) ->
   Sv (T6 Et P w K mg base ["self",x1,x2,x3] ai (Z7 st) fI aj A outer s H E).nox (Yb st) (F0 (RD (SF K (R8 (Ml 0) (R8 (Og r) NT)))) (F0 (TF K (Ml 0) (PQ (RY K) (R8 (Ml 1) NT)) f1) (F0 (RP K (Ml 0) (PQ (RY K) (R8 (Ml 2) NT)) f2) (RP K (Ml 0) (Ml 3) f3)))))
  (hj:∀ (H:Hp) (e a b:A2) (ns B:Z Int) (j:Int),SL K H a (ns.map V.int)->D4 ns->SL K H b (B.map V.int)->D4 B->0<=j->j<1000->OA 0 [some (.ref e),some (.ref a),some (.ref b),some (.int j)] H r) :
  J3 P w K mg base Et (k+1) fI fd ["self",x1,x2,x3] (NJ K C 3 (gK f1 f2 f3)):=by
 refine F.ok S (λvs H Q E ⟨e,ws,ds,R,fl,ev,hl,_⟩=>by rw[ev,BH,hl];rfl) λaj A outer s H vs Q E hr ⟨e,ws,ds,R,fl,ev,hl,he,mu,re,rs,hG,q⟩=>⟨_,hb aj A outer s H E hr,?_⟩
 subst ev;unfold gK at hG;split at hG
 ·rename_i xs ys j
  obtain⟨ns,hn,hG⟩:=bind_some hG;obtain⟨B,hm,hG⟩:=bind_some hG;split at hG
  ·rename_i hs
   cases hG;rw[AY,AY] at hs;obtain⟨⟨hs,hi⟩,Y⟩:=hs;have hs:=Er hs;have ht:=Er hi;obtain⟨ah,aa⟩:=L8 Y;obtain⟨v,rA,e1,r1,r2⟩:=Zt rs;obtain⟨v2,rB,e2,T,r4⟩:=Zt r2;obtain⟨v3,rC,e3,r5,r6⟩:=Zt r4;have e4:=Yj r6;have t:=Jh r5;subst e1 e2 e3 e4 t;obtain⟨a,us,e3,hS,N⟩:=Qa r1;rw[Vg hn] at N;have e4:=Ys N;subst e3 e4;obtain⟨b,I,J,hT,i⟩:=Qa T;rw[Vg hm] at i;have e8:=Ys i;subst J e8;have d:SL K H a (ns.map V.int):=Yn.sl hS;have af:SL K H b (B.map V.int):=Yn.sl hT;show F0 _ _ _ [some (.ref e),some (.ref a),some (.ref b),some (.int j)] H;refine⟨.ref e,rfl,?_⟩;refine hj H e a b ns B j d hs af ht ah aa Str.empty _ (by decide) λz=>?_
   refine⟨e,C,none,.str z,aB,D,rfl,he,hx,?_⟩;refine⟨.ref a,rfl,a,ns.map V.int,rfl,.inl d.sq,λl p=>?_⟩;have M:l≠e:=λz=>by rw[z,he] at p;cases p
   refine⟨.ref e,rfl,e,C,none,aB,D,rfl,by rw[Zc (AO M)];exact he,hx,xc,h1,λdx m n=>?_⟩;have u:dx≠l:=λz=>by rw[z,Zg] at m;cases m
   have X:H dx=none:=by rw[Zc u] at m;exact m
   have nR:∀ {b:A2},H b=none->R b=false:=λ{b} z=>by
    cases y:R b with
    | false=>rfl
    | true=>obtain⟨o,ho⟩:=(mu b y).some;rw[z] at ho;cases ho
   have keep:∀ c o,c≠e->H c=some o->Yr (Yr (Yr H l (.lst (ns.map V.int))) e (.ext (G4 e C (some dx)))) dx (.xd [(f1,.ref l)]) c=some o:=λc o hc h=>by
    have c1:c≠dx:=λz=>by rw[z,X] at h;cases h
    have c2:c≠l:=λz=>by rw[z,p] at h;cases h
    rw[Zc c1,Zc hc,Zc c2];exact h
   have x:SL K (Yr (Yr (Yr H l (.lst (ns.map V.int))) e (.ext (G4 e C (some dx)))) dx (.xd [(f1,.ref l)])) b (B.map V.int):=by
    rcases af with(z | ⟨o,z⟩) | z
    ·exact .inl (.inl (keep b _ (λw=>by rw[w,he] at z;cases z) z))
    ·exact .inl (.inr ⟨o,keep b _ (λw=>by rw[w,he] at z;cases z) z⟩)
    ·exact .inr z
   refine⟨.ref b,rfl,b,B.map V.int,rfl,.inl x.sq,λl2 W=>?_⟩;have g1:l2≠dx:=λz=>by rw[z,Zg] at W;cases W
   have g2:l2≠e:=λz=>by rw[z,Zc (AO n),Zg] at W;cases W
   have g3:l2≠l:=λz=>by rw[z,Zc (AO u),Zc M,Zg] at W;cases W
   have f:H l2=none:=by rw[Zc g1,Zc g2,Zc g3] at W;exact W
   have a1:(f2==f1)=false:=by simpa using AO ac
   have a2:(f3==f1)=false:=by simpa using AO ae
   have a3:(f3==f2)=false:=by simpa using AO ag
   have ak:List.lookup f2 [(f1,V.ref l)]=none:=by simp[List.lookup,a1]
   have al:List.lookup f3 [(f1,V.ref l),(f2,V.ref l2)]=none:=by simp[List.lookup,a2,a3]
   refine⟨.ref e,rfl,e,C,dx,[(f1,.ref l)],aB,D,rfl,by rw[Zc (AO g2),Zc (AO n),Zg],by rw[Zc (AO g1),Zg],by simp,ak,hx,xc,h2,?_⟩;refine⟨.int j,rfl,.ref e,rfl,e,C,dx,[(f1,.ref l),(f2,.ref l2)],aB,D,rfl,by rw[Zc (AO n),Zc (AO g2),Zc (AO n),Zg],Zg,by simp,al,hx,xc,h3,?_⟩;refine q _ (some dx) (λc o hc h=>?_) ?_ ?_ (Fe X Zg λg a hm=>by simp at hm;rcases hm with⟨_,rfl⟩ | ⟨_,rfl⟩<;>first | exact⟨p,_,by rw[Zc (AO u),Zc (AO u),Zc (AO g3),Zc (AO u),Zc M,Zg]⟩ | exact⟨f,_,by rw[Zc g1,Zc g1,Zg]⟩)
   ·have c1:c≠dx:=λz=>by rw[z,X] at h;cases h
    have c3:c≠l2:=λz=>by rw[z,f] at h;cases h
    rw[Zc c1,Zc c1,Zc c3];exact keep c o hc h
   ·rw[Zc (AO n),Zc (AO n),Zc (AO g2),Zc (AO n),Zg]
   ·refine⟨[(f1,.ref l),(f2,.ref l2),(f3,.int j)],Ws Zg (nR X),λg=>?_⟩
    by_cases G:g=f1
    ·subst G
     refine .inr ⟨.nums ns,.ref l,by simp[List.lookup],by simp[List.lookup],l,rfl,.inl (.inl (Ws ?_ (nR p))),?_⟩
     ·rw[Zc (AO u),Zc (AO u),Zc (AO g3),Zc (AO u),Zc M,Zg]
     ·exact DX (U5 (by have:=hs.1;lia))
    have b1:(g==f1)=false:=by simpa using G
    by_cases am:g=f2
    ·subst am
     refine .inr ⟨.nums B,.ref l2,by simp[List.lookup,b1],by simp[List.lookup,b1],l2,rfl,.inl (.inl (Ws ?_ (nR f))),?_⟩
     ·rw[Zc g1,Zc g1,Zg]
     ·exact DX (U5 (by have:=ht.1;lia))
    have b2:(g==f2)=false:=by simpa using am
    by_cases ao:g=f3
    ·subst ao
     exact .inr ⟨.int j,.int j,by simp[List.lookup,b1,b2],by simp[List.lookup,b1,b2],rfl⟩
    have b3:(g==f3)=false:=by simpa using ao
    exact .inl ⟨by simp[List.lookup,b1,b2,b3],by simp[List.lookup,b1,b2,b3]⟩
  ·cases hG
 ·cases hG
end
theorem bP{f:Str}:∀ ds fl,gW f ds=some fl->ds.length=1:=λds fl h=>by
 unfold gW at h;split at h
 ·rfl
 ·cases h
theorem lG:∀ ds fl,gC f1 f2 f3 ds=some fl->ds.length=3:=λds fl h=>by
 unfold gC at h;split at h
 ·rfl
 ·cases h
theorem iT:∀ ds fl,gK f1 f2 f3 ds=some fl->ds.length=3:=λds fl h=>by
 unfold gK at h;split at h
 ·rfl
 ·cases h
theorem qY{D:A2}(q:R5 K C fI D=true)(cl:PySem.W.findIn K (.ref C) "__class__" = some (some (.builtin "object.__class__")))(ga:PySem.W.findIn K (.ref C) "__getattribute__" = some (some (.builtin "BaseException.__getattribute__")))(gh:PySem.W.findIn K (.ref C) "__getattr__" = some none)(sa:PySem.W.findIn K (.ref C) "__setattr__" = some (some (.builtin "object.__setattr__"))):I7 K C:=by
 refine⟨?_,cl,ga,gh,sa⟩;unfold R5 at q;split at q
 ·rename_i dd cd sl ho
  split at q
  ·rename_i g bm k0 k1 k2 k3 n k5 hm hs
   simp only[AY,DO,JP] at q;obtain⟨⟨⟨⟨⟨⟨⟨e1,_⟩,_⟩,a⟩,e2⟩,_⟩,_⟩,_⟩:=q;exact⟨cd,by unfold PySem.W.clsIn;rw[ho],a,g,D,by rw[hm,e2]⟩
  ·cases q
 ·cases q
section
variable{M:Model}{E:J1}
theorem Ag(hf:env.frame=some Lq_)(ht:N8 s.heap base e T cls dct (rawInt Lq_))(h:Q () s):wpAny M A (noteFrame (.ref e) env) Q E s:=by
 obtain⟨oe,vs,oT,ts,he,t,hdct,hd,h1,n,m,hT,g,h3⟩:=ht;unfold noteFrame;simp only[hf];refine AA (CA he hd h1 ?_);rw[AF (show(Value.ref T != Value.none)=true from by simp)];refine AA (CA hT g h3 ?_);rw[AF (show((rawInt Lq_==rawInt Lq_)=true) from by simp)];exact AC h
theorem XX{fl:A1}{fr:C1 A2} 
  (d:base.StaysIn s.heap) (hl:s.heap.FunFrames base l) (ht:N8 s.heap base e T cls dct fl)
  (h:∀ h',base.StaysIn h'->h'.FunFrames base l->N8 h' base e T cls dct (fr.elim Value.none λf=>rawInt f)->(∀ b o,s.heap.get? b=some o->b∉[T]->h'.get? b=some o)->h'.objs.size=s.heap.objs.size->Q () { s with heap:=h' }) :
  wpAny M A (setFlight (.ref e) fr) Q E s:=by
 obtain⟨oe,vs,oT,ts,he,t,hdct,hd,h1,n,m,hT,g,h3⟩:=ht;have i:3<ts.size:=(EH.mp h3).1;have a:∀ b,b≠T->(s.heap.update T (Obj.mapFields (·.setIfInBounds 3 (fr.elim Value.none λf=>rawInt f)))).get? b=s.heap.get? b :=
  λb hb=>BA _ _ (AO hb)
 have j:∀ b o,s.heap.get? b=some o->(∀ vs,o.data≠.fields vs)->b≠T:=λb o hb k q=>by
  rw[q,hT] at hb;injection hb with hb;subst hb;exact k ts g
 unfold setFlight;refine AA (CA he hd h1 ?_);rw[AF (show(Value.ref T != Value.none)=true from by simp)];refine CQ hT g i (h _ (λb o c=>(a b λq=>by rw[q,n] at c;cases c).trans (d b o c))
  (hl.of_keeps λb o hb k=>⟨o,(a b (j b o hb k)).trans hb,rfl⟩) ?_ (λb o hb k=>(a b (λz=>k (by simp[z]))).trans hb) (HX ..))
 exact⟨oe,vs,_,_,(a e (AO m)).trans he,t,hdct,hd,h1,n,m,BI _ hT (DF (BS g _)),BS g _,by simp[i]⟩
theorem iN(hf:env.frame=some Lq_)
  (d:base.StaysIn s.heap) (hl:s.heap.FunFrames base l) (ht:N8 s.heap base e T cls dct (rawInt Lq_))
  (h:∀ h',base.StaysIn h'->h'.FunFrames base l->N8 h' base e T cls dct .none->Aa l [T] s.heap h'->Q () { s with heap:=h' }):wpAny M A (leaving env (.ref e)) Q E s:=by
 unfold leaving;refine AA (Ag hf ht ?_);exact XX (fr:=none) d hl ht λh' y1 y2 y3 y4 y5=>h h' y1 y2 y3 (Aa.of λb o hb hc=>y4 b o hb hc)
theorem qg(hf:env.frame=some Lq_)
  (d:base.StaysIn s.heap) (hl:s.heap.FunFrames base l) (ht:N8 s.heap base e T cls dct (rawInt Lq_))
  (h:∀ h',base.StaysIn h'->h'.FunFrames base l->N8 h' base e T cls dct (rawInt Lq_)->Aa l [T] s.heap h'->E' (.ref e) { s with heap:=h' }):notedBy M A' env (cameBackBy M A env E') (.ref e) s:=by
 refine Ag (A:=A') (E:=cameBackBy M A env E') hf ht ?_;obtain⟨oe,vs,oT,ts,he,t,hdct,hd,h1,n,m,hT,g,h3⟩:=id ht;refine AA (CA he hd h1 ?_);rw[AL (show ¬ (Value.ref T==Value.none)=true from by simp)];rw[hf];exact XX (fr:=some Lq_) d hl ht λh' y1 y2 y3 y4 y5=>h h' y1 y2 y3 (Aa.of λb o hb hc=>y4 b o hb hc)
theorem bD(hf:env.frame=some Lq_)
  (d:base.StaysIn s.heap) (hl:s.heap.FunFrames base l) (ht:N8 s.heap base e T cls dct (rawInt Lq_))
  (h:∀ h',base.StaysIn h'->h'.FunFrames base l->N8 h' base e T cls dct (rawInt Lq_)->(∀ b o,s.heap.get? b=some o->b∉[T]->h'.get? b=some o)->E' (.ref e) { s with heap:=h' }):cameBackBy M A env E' (.ref e) s:=by
 obtain⟨oe,vs,oT,ts,he,t,hdct,hd,h1,n,m,hT,g,h3⟩:=id ht;refine AA (CA he hd h1 ?_);rw[AL (show ¬ (Value.ref T==Value.none)=true from by simp)];rw[hf];exact XX (fr:=some Lq_) d hl ht λh' y1 y2 y3 y4 y5=>h h' y1 y2 y3 y4
end
def OE(X:Cx)(E:XK):A1->A4->Prop:=λv s=>∃ (e C:A2) (dct:C1 A2) (aa:IA) (σ:St) (H:Hp),v=.ref e/\C' X aa σ H s/\X.s₀.heap.objs.size<=e/\H e=none/\(∀ p∈X.pn++aa,p.1≠e) /\
 ((∃ o vs,s.heap.get? e=some o/\o.cls=.ref C/\o.dict=dct/\o.data=.fields vs/\vs[1]?=some .none/\Hh X H vs[2]?)\/∃ T fl c2,X.s₀.heap.objs.size<=T/\H T=none/\(∀ p∈X.pn++aa,p.1≠T)/\N8 s.heap X.base e T (.ref C,c2) dct fl/\(fl=.none\/fl=rawInt X.env.locals)/\Hh X H c2)/\Fu X.H₀ H dct/\E (.ref C) dct H
theorem QY.lie{X:Cx}(I:C' X aa σ H s)(x:QY X aa H s.heap e C dct)(ae:Fu X.H₀ H dct)(q:E (.ref C) dct H):OE X E (.ref e) s :=
 ⟨e,C,dct,aa,σ,H,rfl,I,x.lo,x.un,x.pe,x.ob.imp id λ⟨T,c2,h1,h2,h3,h4,h5⟩=>⟨T,.none,c2,h1,h2,h3,h4,.inl rfl,h5⟩,ae,q⟩
theorem cS{X:Cx}(hA:A'.frames=X.A.frames)(j:X.stack=X.env::X.outer/\X.env.frame=some X.env.locals):PassesOwnAt (model X.prog X.w) A' X.A X.env (OE X E):=by
 rintro ev s1 ⟨e,C,dct,aa,σ,H,rfl,n,lo,un,pe,ob,ae,q⟩;have i:A'.frames=some (X.env::X.outer):=by rw[hA,← j.1];exact n.ok.frames
 have hl:s1.heap.FunFrames X.base (X.env::X.outer):=by rw[← j.1];exact n.stack
 have d:X.base.StaysIn s1.heap:=n.bk;have F:X.base.get? e=none:=n.noBase lo;have g:∀ b∈Eu (X.env::X.outer),H b=none:=by rw[← j.1];exact n.stkFree
 have nloc:∀ {a:A2} {o:Obj} {vs:Array A1},s1.heap.get? a=some o->o.data=.fields vs->a≠X.env.locals/\∀ y c,X.env.cells.lookup y=some c->c≠a:=λ{a o vs} ho hd=>by
  refine⟨λz=>?_,λy c hc z=>?_⟩
  ·obtain⟨m,⟨o',es,ep,f,u,_⟩,_⟩:=n.loc
   rw[z,f] at ho;cases ho;rw[hd] at u;cases u
  ·obtain⟨v,o',f,u⟩:=n.cell y c hc
   rw[z,ho] at f;cases f;rw[hd] at u;cases u
 have after:∀ (h2:Ff) (T':A2) (c2:C1 A1) (ch:Z A2),Hh X H c2->(X.s₀.heap.objs.size<=T'/\H T'=none/\∀ p∈X.pn++aa,p.1≠T')->N8 h2 X.base e T' (.ref C,c2) dct (rawInt X.env.locals)->Aa (X.env::X.outer) ch s1.heap h2->(∀ b∈ch,H b=none/\X.s₀.heap.objs.size<=b/\b≠X.env.locals/\(∀ y c,X.env.cells.lookup y=some c->c≠b)/\∀ p∈X.pn++aa,p.1≠b)->OE X E (.ref e) { s1 with heap:=h2 }:=λh2 T' c2 ch r hT tr kp R=>by
  have D:C' X aa σ H { s1 with heap:=h2 }:=n.call' (s':={ s1 with heap:=h2 }) (ch:=ch) rfl (by rw[j.1];exact YH kp λb hb=>(R b hb).1) (Kr n.hok kp (λb hb=>(R b hb).1) g) n.bare λb hb=>⟨.inr (R b hb).2.1,(R b hb).2.2.1,(R b hb).2.2.2.1,(R b hb).2.2.2.2⟩
  exact⟨e,C,dct,aa,σ,H,rfl,D,lo,un,pe,.inr ⟨T',_,c2,hT.1,hT.2.1,hT.2.2,tr,.inr rfl,r⟩,ae,q⟩
 have fresh:∀ {T':A2},s1.heap.objs.size<=T'->X.s₀.heap.objs.size<=T'/\H T'=none/\∀ p∈X.pn++aa,p.1≠T':=λ{T'} h=>⟨BC n.sz h,n.hok.fresh h,λp hp z=>by
  have:=(n.pin p hp).1;rw[z] at this;exact absurd (AN this) (FB.mpr h)⟩
 rcases ob with⟨o,vs,he,hc,hd,G,h1,r⟩ | ⟨T,fl,c2,l,x,t,ht,aj,r⟩
 ·have el:=nloc he G
  refine Dr (E:=cameBackBy (model X.prog X.w) X.A X.env (OE X E)) i hl j.2 he d F G h1 λh' T' k z1 z2 W z4 z5=>?_
  rw[hc,hd] at W;exact bD (s:={ s1 with heap:=h' }) j.2 z1 z2 W λh2 y1 y2 y3 y4=>after h2 T' _ [e] r (fresh k) y3 (Kc z4 k y4) λb hb=>by rw[AJ.mp hb];exact⟨un,lo,el.1,el.2,pe⟩
 ·obtain⟨oe,ve,oT,ts,g1,g2,g3,Y,g5,g6,g7,P,g9,ah⟩:=id ht
  have el:=nloc g1 Y;have B:=nloc P g9;rcases aj with aj | aj
  ·subst aj
   refine YF (E:=cameBackBy (model X.prog X.w) X.A X.env (OE X E)) i hl j.2 ht d F λh' T' k z1 z2 W z4 z5=>?_
   refine bD (s:={ s1 with heap:=h' }) j.2 z1 z2 W λh2 y1 y2 y3 y4=>after h2 T' _ [e,T] r (fresh k) y3 (Kc z4 k y4) λb hb=>?_
   rcases AZ.mp hb with e1 | e1
   ·rw[e1];exact⟨un,lo,el.1,el.2,pe⟩
   ·rw[AJ.mp e1];exact⟨x,l,B.1,B.2,t⟩
  ·subst aj
   exact qg j.2 d hl ht λh2 y1 y2 y3 kp=>after h2 T _ [T] r ⟨l,x,t⟩ y3 kp λb hb=>by rw[AJ.mp hb];exact⟨x,l,B.1,B.2,t⟩
theorem na{X:Cx}(j:X.stack=X.env::X.outer/\X.env.frame=some X.env.locals):PassesOwn (model X.prog X.w) X.A X.env (OE X E):=λe s h=>cS rfl j e s h
end L2
variable{f fb:L2.Zzu}{T y:PySem.Str}{t u:L2.Ev->C1 Bool}{z:L2.Dat}{xs ys:Z L2.Dat}{tk:Z (Z Nat)}{Lq_:Nat}
namespace L2
open PySem PySem.Spec PyProof.Rows
theorem qX{N:Z Str}{f:A2}{E:XK}{e T:A2} 
  (I:C' (T6 (MC P w base) P w K mg base N ai scope f cd A outer s H E) aa σ H' s') (lo:s.heap.objs.size<=e) (un:H' e=none) (hT:s.heap.objs.size<=T) (h:H' T=none) (ht:N8 s'.heap base e T (.ref C,c2) dct (rawInt s.heap.objs.size)) (r:OK false H' c2) (ae:Fu H H' dct) (q:E (.ref C) dct H') :
  (T6 (MC P w base) P w K mg base N ai scope f cd A outer s H E).xe (.ref e) s':=by
 have hl:s'.heap.FunFrames base (envOfC ai scope s.heap.objs.size f cd::outer):=I.stack;have d:base.StaysIn s'.heap:=I.bk;have bs:Un (Eu outer) [] H H' s.heap s'.heap:=I.base;have g:∀ b∈Eu (envOfC ai scope s.heap.objs.size f cd::outer),H' b=none:=I.stkFree;refine iN (env:=envOfC ai scope s.heap.objs.size f cd) rfl d hl ht λh' z1 z2 W kp=>?_
 have R:∀ b∈[T],H' b=none/\s.heap.objs.size<=b:=λb hb=>by rw[AJ.mp hb];exact⟨h,hT⟩
 have a:∀ {b:A2} {o:Obj},s.heap.get? b=some o->b∉[T]:=λ{b o} q z=>absurd (AN q) (FB.mpr (R b z).2)
 have c:∀ {b:A2} {o:Obj},s.heap.get? b=some o->b∉Eu outer->b∉Eu (envOfC ai scope s.heap.objs.size f cd::outer):=λ{b o} q n z=>by
  rcases AZ.mp (I.stkSub b z) with e1 | e1
  ·have:b=s.heap.objs.size:=e1
   exact absurd (AN q) (by rw[this];exact DA _)
  ·exact n e1
 refine⟨e,C,dct,T,H',c2,rfl,I.os,I.bare,⟨?_,?_,?_,?_,bs.tups,bs.frzs,bs.tbls⟩,Kr I.hok kp (λb z=>(R b z).1) g,lo,hT,un,h,W,r,ae,q⟩
 ·exactλb o q n hf hx=>(kp b o (bs.keep b o q n hf hx) (a q)).1 (c q hf)
 ·intro b o q n hf hx
  obtain⟨sl,z⟩:=bs.slot b o q n hf hx;obtain⟨sl',J⟩:=(kp b _ z (a q)).2;exact⟨sl',J⟩
 ·exactλb o q n hx=>bs.free b o q n hx
 ·intro b o q hx
  obtain⟨o',z⟩:=bs.there b o q hx;obtain⟨sl,J⟩:=(kp b o' z (a q)).2;exact⟨_,J⟩
theorem gu{N:Z Str}{f:A2}{E:XK} 
  (h:OE (T6 (MC P w base) P w K mg base N ai scope f cd A outer s H E) E v s'):(T6 (MC P w base) P w K mg base N ai scope f cd A outer s H E).xe v s':=by
 obtain⟨e,C,dct,aa,σ,H',rfl,J,lo,un,pe,ob,ae,q⟩:=h;rcases ob with⟨o,vs,a1,a2,a3,a4,a5,r⟩ | ⟨T,fl,c2,h1,h2,h3,h4,h5 | h5,r⟩
 ·exact Ii J ⟨lo,un,.inl ⟨o,vs,a1,a2,a3,a4,a5,r⟩,pe⟩ rfl ae q
 ·subst h5
  exact Ii J ⟨lo,un,.inr ⟨T,c2,h1,h2,h3,h4,r⟩,pe⟩ rfl ae q
 ·subst h5
  exact qX J lo un h1 h2 h4 (r.v (J.ok.hd rfl)) ae q
theorem Sv.wishE{X:Cx}{st:Z C4}{t:TS}(h:Sv (X.wish E) st t)(he:∀ v s,E v s->X.xe v s):Sv X st t:=λaa s σ H D I hw =>
 BO (h aa s σ H D (I.wish _) hw) (λ_ _ q=>q.unwish) he
abbrev NP(P:Df)(w:D1)(K:G8)(mg:J')(base:Ff)(N:Z Str)(ai:Str)(scope:Fn)(f:A2)(cd:A1)(A:C0)(outer:Z Gf)(s:A4)(H:Hp)(E:XK):Cx :=
 (T6 (MC P w base) P w K mg base N ai scope f cd A outer s H E).wish (OE (T6 (MC P w base) P w K mg base N ai scope f cd A outer s H E) E)
theorem p3{N:Z Str}{f:A2}{E:XK}{p:Nat}{R:AS}{Q:VK}(hp:p<=N.length)(mu:Ul R H)(r:Wf K (av H R) ds vs)
  (q:RB K fr R H Q E (Y9 N.length p g ds)) :
  tS fr (NP P w K mg base N ai scope f cd A outer s H E) g (KX.mk (λ_ H'=>Q .non H') Q (λ_ _=>False) (λ_ _=>False)) (G' N vs) H:=by
 unfold Y9 at q;split at q
 ·rename_i hl
  refine⟨Ui N.length ds,⟨H,R,true⟩,R,K1 mu r (by lia),rfl,?_⟩;split at q
  ·rename_i d' e
   rw[e];exactλv H' s r n=>q v H' s r n
  ·rename_i env e
   rw[e];exactλA' H' σ' s k=>q .non H' k.h0 Ln (λ_ ds e=>by cases e)
  ·rename_i env c fs e
   rw[e];exactλA' H' σ' st k aa s' e C dct I hc x hf ae=>QY.lie (I.unwish) ⟨x.lo,x.un,x.ob,x.pe⟩ ae (q C dct H' k.h0 hc (hf.mono (Ts k.ra)))
  ·exact q.elim
 ·exact q.elim
theorem UN{x:Str}{st:C4}{N:Z Str}(D:NZ K mg x st)(S:FnScope N ps (Z7 st))
  (j:dV x st ps)
  (hb:∀ (f:A2) (aj:A1) (A:C0) (outer:Z Gf) (s:A4) (H:Hp) (E:XK),G2 k (A.deeper (envOfC x (Z7 st) s.heap.objs.size f aj))->Xs fr (NP P w K mg base N x (Z7 st) f aj A outer s H E) (Yb st) g) :
  MG P w K mg base (k+1) x ps fr (Y9 N.length ps.length g):=by
 have ac:ps.length<=N.length:=by have:=DY List.length S.pre;rw[CM] at this;lia
 obtain⟨f,fd,F,hm⟩:=D.ex;refine⟨⟨f,fd,F.okX S (λvs H Q E h=>h.1) λaj A outer s H vs Q E hr ⟨hl,ds,R,mu,r,q⟩=>⟨_,Sv.wishE (hb f aj A outer s H E hr) λv s' z=>gu z,?_⟩,hm,F.kp,F.binds j⟩,λds h=>Lr h⟩;exact p3 ac mu r q
theorem N0{N:Z Str}{f:A2}{E:XK} :
  PassesOwn (model P w) (NP P w K mg base N ai scope f cd A outer s H E).A (NP P w K mg base N ai scope f cd A outer s H E).env (NP P w K mg base N ai scope f cd A outer s H E).xe :=
 na (X:=T6 (MC P w base) P w K mg base N ai scope f cd A outer s H E) ⟨rfl,rfl⟩
section
variable{X:Cx}
def hE:V->Z V->Hp->VK->Prop:=λx vs H Q=>∃ l xs i y,x=.ref l/\vs=[.int i,y]/\H l=some (.lst xs)/\0<=i/\i<=xs.length/\xs.length<sizeLine/\Q .non (Yr H l (.lst (xs.take i.toNat++y::xs.drop i.toNat)))
theorem Ak:∀ {vs:Z V} {us:Z A1} (n:Nat),Y0 vs us->Y0 (vs.take n) (us.take n)
 | _,_,0,_=>by simp;exact .nil
 | [],us,n+1,h=>by cases h;exact .nil
 | v::vs,us,n+1,h=>by cases h with | cons a b=>exact .cons a (Ak n b)
theorem B9:∀ {vs:Z V} {us:Z A1} (n:Nat),Y0 vs us->Y0 (vs.drop n) (us.drop n)
 | _,_,0,h=>h
 | [],us,n+1,h=>by cases h;exact .nil
 | v::vs,us,n+1,h=>by cases h with | cons a b=>exact B9 n b
theorem jj:YO X "list.insert" hE:=by
 intro aa s σ H x vs v us Q I S rv h;obtain⟨l,xs,i,y,rfl,rfl,g,h0,h1,hz,q⟩:=h;cases S;cases rv with
 | cons r1 r2 =>
  cases r2 with
  | cons N T =>
   cases T;obtain⟨t,rfl⟩:=r1;rename_i u;obtain⟨z,its,n,r,hl,e⟩:=I.lstM g;have a:¬ (!Builtin.List.listFitsIndex i)=true:=by
    have:(sizeLine:Nat)<2^62:=by decide
    rw[fitsIndex_both (by lia) (by lia)]
    decide
   refine JT F.slot_list_insert ⟨_,e,rfl⟩ F.entry_list_insert (F.args_list_insert_3 _ _ _) (AutoSeq1.list_insert_list_int_val_1 l its.toArray n i t u a (by rw[AU];lia)) ⟨e,?_⟩;refine⟨.non,_,I.lset (its':=its.take i.toNat++u::its.drop i.toNat) g e ?_ ((Ak _ r).append (.cons N (B9 _ r))) ?_,rfl,q⟩
   ·apply Array.toList_inj.mp
    have hm:(if i<0 then(i+(its.toArray.size:Int)).toNat else min i.toNat its.toArray.size)=i.toNat:=by
     rw[AL (by lia),AU,KD (by lia)]
    show((its.toArray.extract 0 (if i<0 then(i+(its.toArray.size:Int)).toNat else min i.toNat its.toArray.size)).push u++its.toArray.extract (if i<0 then(i+(its.toArray.size:Int)).toNat else min i.toNat its.toArray.size)).toList=_;rw[hm];simp[List.extract];exact CG (by rw[CH];lia)
   ·rw[AX,BH,CM,CH]
    lia
def Kg:Z Dat->Z Dat->C1 (Z Dat)
 | ds,[.int i,d]=>if 0<=i/\i<=ds.length/\ds.length<sizeLine then some (ds.take i.toNat++d::ds.drop i.toNat) else none
 | _,_=>none
theorem bJ:TR X "list.insert" Kg:=MX.weak (id:="list.insert") jj λv us H Q zz=>by
 obtain⟨A,a,vs,ds,as,ds',mu,e1,h1,r1,r2,e2,q⟩:=zz;unfold Kg at e2;split at e2
 ·rename_i i d
  split at e2
  ·rename_i hl
   cases e2;obtain⟨w,I,e3,T,e4⟩:=r2;obtain⟨w2,aa,e5,r5,t⟩:=e4;have hw:w=.int i:=(Rm.pk T).int;have J:=Zw r1;refine⟨a,vs,i,w2,e1,by rw[e3,e5,show aa=[] from t,hw],h1,hl.1,by rw[J];exact hl.2.1,by rw[J];exact hl.2.2,q _ _ (by rw[AX,BH,CM,CH];lia) (Wq (Iq _ r1) (Vh r5 (Kx _ r1)))⟩
  ·cases e2
 ·cases e2
def W1(c:Int):A1->Bool
 | .int z _=>z==c
 | _=>false
theorem SM:∀ {ns:Z Int} {us:Z A1},Y0 (ns.map V.int) us->∀ (j:Nat) (h:j<us.length) (h':j<ns.length),∃ t,us[j]=.int ns[j] t
 | [],us,r,j,h,h'=>by simp at h'
 | n::ns,us,r,j,h,h'=>by
  rw[CC] at r;cases r with
  | cons r1 r2 =>
   obtain⟨t,e⟩:=r1;subst e;cases j with
   | zero=>exact⟨t,rfl⟩
   | succ j=>exact SM r2 j (by simpa using h) (by simpa using h')
theorem pQ(r:Y0 (ns.map V.int) us){y:A1}(h:y∈us):∃ z t,y=.int z t:=by
 obtain⟨j,hj,rfl⟩:=List.getElem_of_mem h;have hl:=r.length;rw[AD] at hl;obtain⟨t,e⟩:=SM r j hj (by lia);exact⟨_,t,e⟩
theorem qZ:MX X "list.index" (λx vs H Q=>∃ (p:A2) (zs:Z Int) (c:Int),x=.ref p/\vs=[.int c]/\Dd X.K H p (zs.map V.int)/\c∈zs/\Q (.int ((zs.idxOf c:Nat):Int)) H):=by
 intro aa s σ H x vs v us Q I S rs h;obtain⟨p,zs,c,rfl,rfl,hq,hm,q⟩:=h;cases S;obtain⟨D,rfl,N⟩:=Qf rs;obtain⟨u,rfl⟩:=N;obtain⟨its,r',pl,hz⟩:=I.list hq;obtain⟨⟨cls,dd,data,sl⟩,ho,hc,n,hd⟩:=pl.isList;simp only at hc hd;subst hc hd;have a:=r'.length;rw[AD] at a hz;have hj:zs.idxOf c<zs.length:=List.idxOf_lt_length_iff.mpr hm;have af:sizeLine<2^63 - 1:=by decide
 refine JT HQ ⟨_,ho,rfl⟩ PySem.F.entry_list_index (PySem.F.args_list_index_2 _ _) (SeqAt.list_indexAt p _ n dd sl (.int c u) (W1 c) (zs.idxOf c) (by simpa[← a] using hj) (by lia) ?_ ?_) ⟨ho,λy hy=>?_,⟨.int _,H,I.tok _,⟨_,rfl⟩,q⟩⟩
 ·obtain⟨t,e⟩:=SM r' (zs.idxOf c) (by lia) hj
  show W1 c (its[zs.idxOf c]'(by lia))=true;rw[e];show(zs[zs.idxOf c]==c)=true;simpa using List.getElem_idxOf hj
 ·intro j hjs ae
  have b:j<zs.length:=by lia
  obtain⟨t,e⟩:=SM r' j (by lia) b;show W1 c (its[j]'(by lia))=false;rw[e];show(zs[j]==c)=false;have:=List.not_of_lt_findIdx (xs:=zs) (p:=(·==c)) (i:=j) (by simpa[List.idxOf] using ae);simpa using this
 ·obtain⟨z,t,rfl⟩:=pQ r' (by simpa using hy)
  exact SeqAt.EqAt.int_int z t c u
def Xe:Dat->Z Dat->C1 Dat
 | .lst xs,[.int c]=>(U8 xs).bind λzs=>if c∈zs then some (.int ((zs.idxOf c:Nat):Int)) else none
 | _,_=>none
theorem ci:bB X "list.index" Xe:=qZ.weak λv vs H Q zz=>by
 obtain⟨A,x,ds,d,mu,e,p,ps,q⟩:=zz;unfold Xe at e;split at e
 ·rename_i xs c
  obtain⟨l,us,e2,h1,r1⟩:=p.lst;obtain⟨v1,e3,p1⟩:=ps.one;obtain⟨zs,hy,e⟩:=bind_some e;split at e
  ·rename_i hc
   cases e;rw[Vg hy] at r1;have eu:=Ys r1;subst eu;exact⟨l,zs,c,e2,by rw[e3,p1.int],h1.sq,hc,q.here Yq⟩
  ·cases e
 ·cases e
end
section
variable{X:Cx}
def Tz(i:Nat)(fa fb:Zzu):Ev->Fl:=λenv=>match env[i]?,fb env,fa env with
 | some (.ow ds),some d,some (.int k)=>if 0<=k/\k<ds.length then .next (env.set i (.ow (ds.set k.toNat d))) else .no
 | _,_,_=>.no
theorem Eo(i:Nat){x:Str}(ha:Yz true X ix fa)(hb:Yz false X e fb)
  (hN:X.N[i]?=some x:=by rfl) (hv:MN X.env.scope x:=by ext) (hd:C2 x:=by decide) (af:(x==("__classdict__" : Str))=false:=by decide)
  (hs:swapsWithSole [.Subscript (.Name x p) ix am] e pos.line X.env=pure false:=by rfl) (hw:swappedStores [.Subscript (.Name x p) ix am] e X.env=pure none:=by rfl) (h1:(assignEach [.Subscript (.Name x p) ix am] X.env).map (·.2)=[assign (.Subscript (.Name x p) ix am) X.env]:=by rfl)
  (hq:∀ v,assign (.Subscript (.Name x p) ix am) X.env v=(do
   let E ← holding [v] (eval (.Name x p) X.env)
   let b ← holding [v,E] (eval ix X.env)
   standAt am
   holding [v,E,b] (setItem E b v)
   release [v,E,b] []):=by intro _;rfl) :
  En fr X (.Assign [.Subscript (.Name x p) ix am] e pos) (Tz i fa fb):=(dw hb (ni (Jm hN hv hd af) ha j4 hq) hs hw h1).weak λD σ H zz=>by
 obtain⟨env,B,A,k,l,q⟩:=zz;unfold Tz at q;split at q
 ·rename_i ds d j e1 e2 e3
  split at q
  ·rename_i hj
   refine⟨env,B,A,d,k,e2,λv H1 s1 r1=>?_⟩;have k1:=k.mono s1;obtain⟨a,vs,g1,g2,g3,_⟩:=k1.own l e1;refine⟨.ref a,g1,env,B,A,.int j,k1,e3,λw H2 s2 r2=>?_⟩;have k2:=k1.mono s2;obtain⟨r,c,m1,m2,m3,g,_,_,_,m4,_⟩:=k2.own l e1;rw[g1] at m1;cases m1;have C:w=.int j:=(Rm.pk r2).int;have J:=Zw m3;have f:Rp X.K (av H2 A) d v:=Rp.mono (Wv s2) r1;refine⟨a,c,j,j.toNat,rfl,C,m2,?_,?_⟩
   ·unfold OI;rw[AF hj.1,AF (by lia)]
   ·obtain⟨z1,z2⟩:=m4 (ds.set j.toNat d) (c.set j.toNat v) (by rw[BJ];exact g) (ZH _ m3 f)
    exact q A _ σ (((G0.same s1).trans (G0.same s2)).trans z1) z2
  ·exact q.elim
 ·exact q.elim
def Xg(j i:Nat)(fa:Zzv):Ev->Fl:=λenv=>match env[i]?,fa env with
 | some (.ow ds),some [.int k]=>if 0<=k/\k<ds.length then(match ds[k.toNat]? with
  | some d=>.next ((env.set i (.ow (ds.eraseIdx k.toNat))).set j (.fz d))
  | none=>.no) else .no
 | _,_=>.no
theorem oM(n:Nat)(r:Wf K H ds vs):Wf K H (ds.eraseIdx n) (vs.eraseIdx n):=by
 rw[CT,CT];exact Wq (Iq _ r) (Kx _ r)
theorem e7(j i:Nat){x:Str}(T:X.N.Nodup)(hj:X.N[j]?=some y)(hy:LZ X.env.scope y){C:C3}{g:Zzv}(ha:O1 true X [C] g)
  (hN:X.N[i]?=some x:=by rfl) (hv:MN X.env.scope x:=by ext) (hd:C2 x:=by decide) (af:(x==("__classdict__" : Str))=false:=by decide)
  (hs:swapsWith (.Call (.Attribute (.Name x p) "pop" aw) [C] [] al) (some (.Name y am)) pos.line X.env=pure false:=by rfl)
  (hf:X.fn y=true\/X.env.scope.names.lookup y=some .local:=by ext)
  (u:attributeBase (.Name x p) "pop" X.env (eval (.Name x p) X.env)=eval (.Name x p) X.env:=by rfl)
  (ag:((backTo al (starEach [C] X.env)).all (λx=>!x.1)&&(backToKw al (keywordEach [] X.env)).all (λx=>x.1.isSome)
   && decide (([C]).length+([]:Z Keyword).length+(if([]:Z Keyword).isEmpty then 0 else 1)<30))=true:=by rfl)
  (S:(aw.endLine==al.line)=true:=by rfl) (b:starEach [C] X.env=(false,eval C X.env)::starEach [] X.env:=by rfl) (E:(backTo al (starEach [] X.env)).any (·.1)=false:=by rfl) :
  En fr X (.Assign [.Name y am] (.Call (.Attribute (.Name x p) "pop" aw) [C] [] al) pos) (Xg j i g):=(L0 T hj hy (SN EV PySem.F.slot_list_pop PySem.F.type_list_pop (id:="list.pop") nL (Jm hN hv hd af) ha u ag S b E) hs hf).weak λD σ H zz=>by
 obtain⟨env,B,A,k,l,q⟩:=zz;unfold Xg at q;split at q
 ·rename_i ds n e1 e2
  split at q
  ·rename_i hn
   split at q
   ·rename_i d e3
    obtain⟨a,vs,h1,h2,h3,_⟩:=k.own l e1;refine⟨.ref a,h1,.inl ⟨rfl,vs,Dd.of h2⟩,env,B,A,[.int n],k,e2,λus H2 s2 rs=>?_⟩;have k2:=k.mono s2;obtain⟨r,c,g1,g2,g3,h,_,_,_,Y,_⟩:=k2.own l e1;rw[h1] at g1;cases g1;obtain⟨w,eu,f⟩:=rs.one;have hw:w=.int n:=f.int;have J:=Zw g3;obtain⟨v,e,I⟩:=Re g3 e3;have hsz:(sizeLine:Nat)<2^62:=by decide
    refine⟨a,c,n,n.toNat,v,rfl,by rw[eu,hw],g2,by lia,by lia,?_,e,?_⟩
    ·exact KG hn.1 (by lia)
    ·obtain⟨z1,z2⟩:=Y (ds.eraseIdx n.toNat) (c.eraseIdx n.toNat) (BC (List.length_eraseIdx_le _ _) h) (oM _ g3)
     exact q A _ _ ((G0.same s2).trans z1) (z2.put j (Rp.mono z1.av I))
   ·exact q.elim
  ·exact q.elim
 ·exact q.elim
end
variable{v:C3}{t l:A2}{xs:Array A1}{vs:Z A1}
theorem F'.gx{A:AS}{g:GX}(k:F' K B A H σ env)(l:B.st=true)(h:env[i]?=some (.gx g)) :
  ∃ (v:V) (o:A2->Prop),σ[i]?=some (some v)/\NV K A H o g v/\(∀ b,o b->A b=true/\B.H₀ b=none) /\
   ∀ (b:A2) (f:HO) (g':GX),o b->RE (some f)->NV K A (Yr H b f) o g' v->G0 A H A (Yr H b f)/\F' K B A (Yr H b f) σ (env.set i (.gx g')):=by
 obtain⟨own,h1,h2,h4⟩:=k.sl;obtain⟨x,M,v,e1,e2⟩:=h4 i _ h;subst e1;have c:∀ b,own i b->A b=true/\B.H₀ b=none:=λb ob=>by
  obtain⟨hA,hR⟩:=h2 i b ob;refine⟨hA,?_⟩;rcases k.ar b hA with z | z
  ·rw[z] at hR;cases hR
  ·exact z
 refine⟨v,own i,M,e2,c,λa f g' D S hg=>?_⟩;obtain⟨hA,h0⟩:=c a D;have m:Zp (av H A) (av (Yr H a f) A):=λb o e=>by
  obtain⟨z1,z2⟩:=Q1 e;have hb:b≠a:=by intro z;rw[z,hA] at z1;cases z1
  exact Ws (by rw[Zc hb];exact z2) z1
 refine⟨⟨λb o hb n=>?_,λb hb=>.inl hb⟩,?_⟩
 ·have hn:b≠a:=by intro z;rw[z,hA] at n;cases n
  rw[Zc hn];exact hb
 ·refine⟨λb o hb=>?_,k.r0,k.ra,k.ar,λb hb=>?_,by rw[BJ];exact k.len,λhs j d'=>Xr (k.np hs) (λ_ z=>by cases z) j d',own,h1,h2,λj s e=>?_⟩
  ·have hn:b≠a:=Y8 hb h0
   rw[Zc hn];exact k.h0 b o hb
  ·by_cases hn:b=a
   ·subst hn;rw[Zg];exact S
   ·rw[Zc hn];exact k.mu b hb
  ·by_cases hj:i=j
   ·subst hj
    rw[BB,AF rfl] at e;split at e
    ·cases e
     exact⟨_,M,v,rfl,hg⟩
    ·cases e
   ·rw[BB,AL hj] at e
    obtain⟨x,p1,p2⟩:=h4 j s e;refine⟨x,p1,?_⟩;cases s with
    | un=>trivial
    | fz d=>obtain⟨v,z1,z2⟩:=p2;exact⟨v,z1,z2.mono m⟩
    | pk d=>exact absurd e (k.np l j d)
    | ow es =>
     obtain⟨b,us,z1,z2,W,z4,z5⟩:=p2;have hn:b≠a:=λz=>hj (h1 i j a D (z▸z2))
     exact⟨b,us,z1,z2,W,by rw[Zc hn];exact z4,z5.mono m⟩
    | gx g2 =>
     obtain⟨w,z1,z2⟩:=p2;exact⟨w,z1,z2.frame (λ_ z=>z) (λb x ob z=>by
      have hn:b≠a:=λy=>hj (h1 i j a D (y▸ob))
      rw[Zc hn];exact z) m⟩
def Fv(A:AS)(S:A2->Bool):AS:=λb=>A b||S b
theorem F'.putG{A:AS}(k:F' K B A H σ env)(l:B.st=true)(i:Nat){g:GX}{v:V}{S:A2->Bool}(s:Zp H H')(hn:∀ p,S p=true->H p=none)(hm:∀ p,S p=true->RE (H' p))(r:NV K (Fv A S) H' (λb=>S b=true) g v) :
  G0 A H (Fv A S) H'/\F' K B (Fv A S) H' (σ.set i (some v)) (env.set i (.gx g)):=by
 have c:∀ {b},Fv A S b=true->A b=true\/S b=true:=λ{b} h=>by unfold Fv at h;rw[GB] at h;exact h
 have f:∀ {b},A b=true->Fv A S b=true:=λ{b} h=>by unfold Fv;rw[h];rfl
 have n:∀ {b},S b=true->Fv A S b=true:=λ{b} h=>by unfold Fv;rw[h,LB]
 have st:G0 A H (Fv A S) H':=⟨λa o h _=>s a o h,λa h=>(c h).imp id λz=>hn a z⟩;have m:∀ p,S p=true->A p=false:=λp hp=>k.mu.new (hn p hp)
 have h0:∀ p,S p=true->B.H₀ p=none:=λp hp=>k.h0.free (hn p hp)
 obtain⟨own,h1,h2,h4⟩:=k.sl;refine⟨st,k.h0.trans s,k.r0,λa h=>f (k.ra a h),λa h=>?_,λa h=>?_,by rw[BJ,BJ];exact k.len,λhs j d'=>Xr (k.np hs) (λ_ z=>by cases z) j d',
  λj a=>(j≠i/\own j a)\/(j=i/\S a=true),λj u a z J=>?_,λj a z=>?_,λj sl e=>?_⟩
 ·rcases c h with z | z
  ·exact k.ar a z
  ·exact .inr (h0 a z)
 ·rcases c h with z | z
  ·exact k.mu.mono s a z
  ·exact hm a z
 ·rcases z with z | z<;>rcases J with J | J
  ·exact h1 j u a z.2 J.2
  ·have:=(h2 j a z.2).1;rw[m a J.2] at this;cases this
  ·have:=(h2 u a J.2).1;rw[m a z.2] at this;cases this
  ·rw[z.1,J.1]
 ·rcases z with z | z
  ·exact⟨f (h2 j a z.2).1,(h2 j a z.2).2⟩
  ·refine⟨n z.2,?_⟩
   cases q:B.R a with
   | false=>rfl
   | true=>obtain⟨o,ho⟩:=k.r0 a q;rw[h0 a z.2] at ho;cases ho
 ·by_cases hj:i=j
  ·subst hj
   rw[BB,AF rfl] at e;split at e
   ·rename_i hl
    cases e;exact⟨some v,by rw[BB,AF rfl,AF (by rw[k.len];exact hl)],v,rfl,r.frame (λ_ z=>.inr ⟨rfl,z⟩) (λ_ _ _ z=>z) (Zp.refl _)⟩
   ·cases e
  ·rw[BB,AL hj] at e
   obtain⟨x,p1,p2⟩:=h4 j sl e;refine⟨x,by rw[BB,AL hj];exact p1,?_⟩;cases sl with
   | un=>trivial
   | fz d=>obtain⟨v,z1,z2⟩:=p2;exact⟨v,z1,z2.mono st.av⟩
   | pk d=>exact absurd e (k.np l j d)
   | ow es =>
    obtain⟨b,us,z1,z2,W,z4,z5⟩:=p2;exact⟨b,us,z1,.inl ⟨AO hj,z2⟩,W,s _ _ z4,z5.mono st.av⟩
   | gx g2 =>
    obtain⟨w,z1,z2⟩:=p2;exact⟨w,z1,z2.frame (λ_ z=>.inl ⟨AO hj,z⟩) (λb x _ z=>s b x z) st.av⟩
section
variable{X:Cx}
def Hq(dss:Z (Z Dat))(k:Int):C1 (Z Dat):=if 0<=k then dss[k.toNat]? else none
def QI(i:Nat)(fa:Zzu):Ev->C1 Dat:=λenv=>match env[i]?,fa env with
 | some (.gx (.nest dss)),some (.int k)=>(Hq dss k).map .lst
 | _,_=>none
theorem F'.nest{A:AS}(k:F' K B A H σ env)(h:env[i]?=some (.gx (.nest dss))) :
  ∃ (a:A2) (as:Z A2),σ[i]?=some (some (.ref a))/\H a=some (.lst (as.map V.ref))/\as.length=dss.length/\∀ (n:Nat) b ds,as[n]?=some b->dss[n]?=some ds->ds.length<=sizeLine/\∃ vs,H b=some (.lst vs)/\Wf K (av H A) ds vs:=by
 obtain⟨own,h1,h2,h4⟩:=k.sl;obtain⟨x,M,v,e1,a,as,e2,e3,e4,e5,t,J,e8,e9⟩:=h4 i _ h;subst e1 e2;exact⟨a,as,M,e5,t,λn b ds z1 z2=>⟨(e9 n b ds z1 z2).2.1,(e9 n b ds z1 z2).2.2⟩⟩
theorem Nf{k:Int}(h:Hq dss k=some ds):0<=k/\dss[k.toNat]?=some ds/\k=((k.toNat:Nat):Int):=by
 unfold Hq at h;split at h
 ·rename_i h0;exact⟨h0,h,(Int.toNat_of_nonneg h0).symm⟩
 ·cases h
theorem ZT(i:Nat){x:Str}(ha:Yz true X ix fa)(ac:Ol ix)
  (hN:X.N[i]?=some x:=by rfl) (hv:MN X.env.scope x:=by ext) (hd:C2 x:=by decide) (af:(x==("__classdict__" : Str))=false:=by decide) :
  Yz true X (.Subscript (.Name x p) ix pos) (QI i fa):=PE.weak (XC VZ (Jm hN hv hd af) ha ac) λσ H Q zz=>by
 obtain⟨env,B,A,d,k,e,q⟩:=zz;unfold QI at e;split at e
 ·rename_i dss n e1 e2
  obtain⟨ds,e3,e4⟩:=map_some e;subst e4;obtain⟨h0,e5,t⟩:=Nf e3;obtain⟨a,as,h1,h2,h3,h4⟩:=k.nest e1;refine⟨.ref a,h1,env,B,A,.int n,k,e2,λw H2 s2 r2=>?_⟩;have hw:w=.int n:=(Rm.pk r2).int;have ae:n.toNat<as.length:=by rw[h3];exact(AE.mp e5).1
  obtain⟨hz,vs,g1,g2⟩:=h4 n.toNat _ ds (AG ae) e5;refine⟨a,as.map V.ref,n,.ref as[n.toNat],rfl,hw,Dd.of (s2 _ _ h2),?_,q _ _ s2 (.inr (.inl ⟨_,vs,ds,rfl,rfl,hz,s2 _ _ g1,g2.mono (Wv s2)⟩))⟩;have s:B0 (as.map V.ref) ((n.toNat:Nat):Int)=some (.ref as[n.toNat]):=Kv (by rw[AM,AG ae];rfl)
  rwa [← t] at s
 ·cases e
def Nl(i:Nat)(fa:Zzu)(fs:Zzv):Ev->Fl:=λenv=>match env[i]?,fa env with
 | some (.gx (.nest dss)),some (.int k)=>match Hq dss k with
  | some ds=>match (fs env).bind λas=>Ug ds as with
   | some ds'=>.next (env.set i (.gx (.nest (dss.set k.toNat ds'))))
   | none=>.no
  | none=>.no
 | _,_=>.no
theorem TN (i:Nat) {x:Str} (ha:Yz true X ix fa) (ac:Ol ix) (hb:O1 false X (e::es) fs)
  (hN:X.N[i]?=some x:=by rfl) (hv:MN X.env.scope x:=by ext) (hd:C2 x:=by decide) (af:(x==("__classdict__" : Str))=false:=by decide)
  (ai:swapsWith (.Call (.Attribute (.Subscript (.Name x p) ix p2) "append" aw) (e::es) [] al) none pos.line X.env=pure false:=by rfl)
  (u:attributeBase (.Subscript (.Name x p) ix p2) "append" X.env (eval (.Subscript (.Name x p) ix p2) X.env)=eval (.Subscript (.Name x p) ix p2) X.env:=by rfl)
  (ag:((backTo al (starEach (e::es) X.env)).all (λx=>!x.1)&&(backToKw al (keywordEach [] X.env)).all (λx=>x.1.isSome)
   && decide ((e::es).length+([]:Z Keyword).length+(if([]:Z Keyword).isEmpty then 0 else 1)<30))=true:=by rfl)
  (S:(aw.endLine==al.line)=true:=by rfl) (hs:Z0 X.env e es:=by rfl) (E:Z1 al X.env es:=by rfl) :
  En fr X (.Expr (.Call (.Attribute (.Subscript (.Name x p) ix p2) "append" aw) (e::es) [] al) pos) (Nl i fa fs):=(Qn (SN EV DQ DR (id:="list.append") B6 (XC VZ (Jm hN hv hd af) ha ac) hb u ag S hs E) ai).weak λD σ H zz=>by
 obtain⟨env,B,A,k,l,q⟩:=zz;unfold Nl at q;split at q
 ·rename_i dss n e1 e2
  split at q
  ·rename_i ds e3
   split at q
   ·rename_i ds' e4
    obtain⟨ao,e5,t⟩:=bind_some e4;obtain⟨h0,J,e8⟩:=Nf e3;obtain⟨a,as,h1,h2,h3,h4⟩:=k.nest e1;refine⟨.ref a,h1,env,B,A,.int n,k,e2,λw H2 s2 r2=>?_⟩;have hw:w=.int n:=(Rm.pk r2).int;have ae:n.toNat<as.length:=by rw[h3];exact(AE.mp J).1
    obtain⟨hz,vs,g1,g2⟩:=h4 n.toNat _ ds (AG ae) J;refine⟨a,as.map V.ref,n,.ref as[n.toNat],rfl,hw,Dd.of (s2 _ _ h2),?_,.inl ⟨rfl,vs,Dd.of (s2 _ _ g1)⟩,env,B,A,ao,k.mono s2,e5,λus P G rs=>?_⟩
    ·have s:B0 (as.map V.ref) ((n.toNat:Nat):Int)=some (.ref as[n.toNat]):=Kv (by rw[AM,AG ae];rfl)
     rwa [← e8] at s
    have k3:=k.mono (s2.trans G);obtain⟨v,o,m1,m2,m3,m4⟩:=k3.gx l e1;rw[h1] at m1;cases m1;obtain⟨r,h,z1,z2,W,z4,z5,z6,z7,z8⟩:=m2;cases z1;have ap:h.map V.ref=as.map V.ref:=by
     have:=(s2.trans G) _ _ h2;rw[z4] at this;exact HO.lst.inj (BF this)
    have ah:h=as:=by
     have aj:∀ (l1 l2:Z A2),l1.map V.ref=l2.map V.ref->l1=l2:=λl1=>by
      induction l1 with
      | nil=>intro l2 hl;cases l2 with | nil=>rfl | cons=>cases hl
      | cons y l1 ih =>
       intro l2 hl;cases l2 with
       | nil=>cases hl
       | cons y2 l2=>simp at hl;rw[hl.1,ih l2 (by simpa using hl.2)]
     exact aj _ _ ap
    subst ah;obtain⟨ob,am,g,g3,Y⟩:=z8 n.toNat _ ds (AG ae) J;generalize C:h[n.toNat]=b at *;have F:b∈h:=by rw[← C];exact HW ae
    unfold Ug at t;split at t
    ·rename_i d
     split at t
     ·rename_i hl
      cases t;obtain⟨y,I,e9,T,aq⟩:=rs;have ar:us=[y]:=by rw[e9,show I=[] from aq]
      refine⟨b,g,y,rfl,ar,g3,by rw[Zw Y];exact hl,?_⟩;have hA:A b=true:=(m3 b ob).1;have m:Zp (av P A) (av (Yr P b (.lst (g++[y]))) A):=λc o2 ec=>by
       obtain⟨y1,y2⟩:=Q1 ec;have hc:c≠b:=by intro z;rw[z,hA] at y1;cases y1
       exact Ws (by rw[Zc hc];exact y2) y1
      have f:a≠b:=λz=>z7 (z▸F)
      have hg:NV X.K A (Yr P b (.lst (g++[y]))) o (.nest (dss.set n.toNat (ds++[d]))) (.ref a):=by
       refine⟨a,h,rfl,z2,by rw[BJ];exact W,by rw[Zc f];exact z4,by rw[BJ];exact z5,z6,z7,λj c es M q2=>?_⟩;by_cases hj:n.toNat=j
       ·subst hj
        rw[AG ae,C] at M;cases M;rw[BB,AF rfl,AF (by rw[← h3];exact ae)] at q2;cases q2;exact⟨ob,by rw[AX,DI];lia,g++[y],Zg,Wq (Y.mono m) (Jz (Rp.mono m T))⟩
       ·rw[BB,AL hj] at q2
        obtain⟨y1,y2,aa,y3,y4⟩:=z8 j c es M q2;have au:c≠b:=λz=>by
         obtain⟨Q,R⟩:=AE.mp M;have:=List.nodup_iff_pairwise_ne.mp z6;rw[FM] at this;rcases DN n.toNat j with ak | hge2
         ·exact this n.toNat j ae Q ak (by rw[C,R,z])
         ·exact this j n.toNat Q ae (by lia) (by rw[C,R,z])
        exact⟨y1,y2,aa,by rw[Zc au];exact y3,y4.mono m⟩
      obtain⟨w1,w2⟩:=m4 b (.lst (g++[y])) _ ob trivial hg;exact q A _ σ (((G0.same s2).trans (G0.same G)).trans w1) w2
     ·cases t
    ·cases t
   ·exact q.elim
  ·exact q.elim
 ·exact q.elim
end
section
variable{X:Cx}
def Ba(i:Nat)(src:Zzv)(fs:Z (C1 Nat))(gg:Dat->Ev->C1 Ev):Ev->Fl:=λenv=>match src env with
 | some ds=>if ds.all (λd=>(gg d (To fs env)).isSome)=true then .next (env.set i (.gx (.nest (List.replicate ds.length [])))) else .no
 | none=>.no
theorem mr{J:It}{fs:Z (C1 Nat)}{g:Dat->Ev->C1 Ev}{Q:VK}{A:AS} 
  (c:∀ i∈is,fs[i]?=some none) (k:F' K B A H1 σ env) (Y:OV false K A H1 ds J) (hz:ds.length<=sizeLine) (hc:∀ d∈ds,∃ e',g d (To fs env)=some e')
  (q:∀ (p:A2) (as:Z A2) (H':Hp),Zp H1 H'->H1 p=none->H' p=some (.lst (as.map V.ref))->as.length=ds.length->as.Nodup->p∉as->(∀ b∈as,H1 b=none/\H' b=some (.lst []))->Q (.ref p) H') :
  ∃ W:Nat->Nat->Z V->Hp->Prop,(∃ m,W 0 m [] H1)/\∀ i m zs H,W i m zs H ->
   (J.stop i H/\zs.length<=sizeLine/\∀ p,H p=none->Q (.ref p) (Yr H p (.lst zs))) \/
   (J.go i H/\zs.length<=sizeLine/\∃ N:Z V->Hp->Prop,(∀ M H',N M H'->∃ m',m'<m/\W (i+1) m' M H')/\∀ x H',J.yld i H x H'->(∃ env R A d env',F' K R A H' (U0 fs σ) env/\Rp K (av H' A) d x/\g d env=some env'/\∀ σ',F' K R A H' σ' env'->O4 is (U0 fs σ) σ' ->
    (UR (U0 fs σ) σ'/\∃ env R A b,F' K R A H' σ' env/\Up env=some b/\∀ P,Zp H' P->if b=true then(∀ p,P p=none->N (zs++[.ref p]) (Yr P p (.lst []))) else N zs P))):=by
 refine⟨λi m zs H=>m=ds.length - i/\i<=ds.length/\Zp H1 H/\∃ as:Z A2,zs=as.map V.ref/\as.length=i/\as.Nodup/\∀ b∈as,H1 b=none/\H b=some (.lst []),
  ⟨ds.length,by simp,CP _,Zp.refl _,[],rfl,rfl,EB,λb hb=>nomatch hb⟩,?_⟩
 rintro i m zs H ⟨rfl,hi,s1,as,rfl,I,T,has⟩;have l:(as.map V.ref).length<=sizeLine:=by rw[AD];lia
 obtain⟨C,s⟩:=Y A H ⟨rfl,s1⟩ (k.mono s1).mu;by_cases ae:i<ds.length
 ·have hx:ds[i]?=some ds[i]:=by simp[ae]
  obtain⟨go,yl⟩:=C i _ hx;obtain⟨n,b1⟩:=hc _ (HW ae);refine .inr ⟨go,l,λu H'=>i+1<=ds.length/\Zp H1 H'/\∃ as:Z A2,u=as.map V.ref/\as.length=i+1/\as.Nodup/\∀ b∈as,H1 b=none/\H' b=some (.lst []),
   λu H' h=>⟨ds.length - (i+1),by lia,rfl,h⟩,λx H' hy=>?_⟩
  obtain⟨s2,S⟩:=yl x H' hy;refine⟨To fs env,⟨H1,A,false⟩,A,ds[i],n,(k.inn fs).mono (s1.trans s2),S,b1,λσ' k' w=>⟨⟨w.1.symm,λj v ej=>?_⟩,n,⟨H1,A,false⟩,A,true,k',rfl,λP G=>?_⟩⟩
  ·have hj:j∉is:=λhj=>by
    have:=c j hj;unfold U0 at ej;rw[AM,this] at ej;cases ej
   rw[w.2 j hj];exact ej
  ·rw[AF rfl]
   intro p hp;have s4:Zp H1 P:=(s1.trans s2).trans G;have f:p∉as:=λz=>by
    have:=(s2.trans G) _ _ (has p z).2;rw[hp] at this;cases this
   refine⟨ae,λb o hb=>?_,as++[p],by rw[BR];rfl,by rw[AX,DI,I],GG.mpr ⟨T,DB.mpr ⟨by simp,EB⟩,λa ha b hb=>by rw[AJ.mp hb];intro z;exact f (z▸ha)⟩,λb hb=>?_⟩
   ·have hn:b≠p:=λz=>by have:=s4 b o hb;rw[z,hp] at this;cases this
    rw[Zc hn];exact s4 b o hb
   ·rcases BV.mp hb with hb | hb
    ·have hn:b≠p:=λz=>f (z▸hb)
     exact⟨(has b hb).1,by rw[Zc hn];exact(s2.trans G) _ _ (has b hb).2⟩
    ·rw[AJ.mp hb]
     exact⟨s4.free hp,Zg⟩
 ·have e:i=ds.length:=by lia
  subst e;refine .inl ⟨s,l,λp hp=>q p as _ (λb o hb=>?_) (s1.free hp) Zg I T (λz=>by have:=(has p z).2;rw[hp] at this;cases this) λb hb=>⟨(has b hb).1,?_⟩⟩
  ·have hn:b≠p:=λz=>by have:=s1 b o hb;rw[z,hp] at this;cases this
   rw[Zc hn];exact s1 b o hb
  ·have hn:b≠p:=λz=>by have:=(has b hb).2;rw[z,hp] at this;cases this
   rw[Zc hn];exact(has b hb).2
theorem c7(i:Nat){x:Str}{a:Pos}(hN:X.N.Nodup)(ap:Fn)(fs:Z (C1 Nat))(N:Z Str)(hp:X.env.scope=ap)(hc:X.calm=true)(hi:ND false X tg iter src)
  (hb:∀ (C:A2) (s:A4) (H:Hp) (fp:Z A2),NK is (W3 X sc N C s H fp) tg gg/\OX (W3 X sc N C s H fp) [] Up)
  (c:∀ i∈is,fs[i]?=some none) (E:X.N[i]?=some x:=by rfl) (hx:LZ X.env.scope x:=by ext) (S:CompOk ap sc X.N N fs:=by exact CompOk.of (by kernel_rfl!)) (hs:∀ x,foldedSetIterable iter X.env x=pure x:=by intro _;rfl) (ai:swapsWith (.ListComp (.List [] a) [⟨tg,iter,[],0⟩] sc pos) (some (.Name x am)) aD.line X.env=pure true:=by rfl)
  (hf:X.fn x=true\/X.env.scope.names.lookup x=some .local:=by ext) :
  En fr X (.Assign [.Name x am] (.ListComp (.List [] a) [⟨tg,iter,[],0⟩] sc pos) aD) (Ba i src fs gg):=(Xp (g:=λv σ H Q=>∃ env R A d env',F' X.K R A H σ env/\Rp X.K (av H A) d v/\gg d env=some env'/\∀ σ',F' X.K R A H σ' env'->O4 is σ σ'->Q σ' H) (tt:=λσ H Q=>∃ env R A b,F' X.K R A H σ env/\Up env=some b/\∀ H',Zp H H'->Q b H') (te:=λσ H Q=>∀ p,H p=none->Q (.ref p) (Yr H p (.lst []))) hN E hx ap fs N hp S hc hi (λC s H fp=>⟨(hb C s H fp).1,(hb C s H fp).2,(bn Vb).weak λσ H Q h=>⟨CP _,h⟩⟩) hs ai hf).weak λD σ H zz=>by
 obtain⟨env,B,A,k,l,q⟩:=zz;unfold Ba at q;split at q
 ·rename_i ds e
  split at q
  ·rename_i u
   refine⟨env,B,A,ds,k,e,λJ H1 hz s1 Y=>mr (Q:=λv H'=>D.nx (σ.set i (some v)) H') c (k.mono s1) Y hz (λd hd=>FQ.mp (CW.mp u d hd)) λp as H' s2 hn aE I T f has=>?_⟩;have h1:=k.putG l i (g:=.nest (List.replicate ds.length [])) (v:=.ref p) (S:=λb=>decide (b=p)||decide (b∈as)) (s1.trans s2) (λb hb=>?_) (λb hb=>?_) ⟨p,as,rfl,by simp,by rw[EW];exact hz,aE,by rw[EW];exact I,T,f,λn b es M q2=>?_⟩
   ·exact q _ H' _ h1.1 h1.2
   ·rw[GB,CK,CK] at hb
    rcases hb with z | z
    ·rw[z];exact s1.free hn
    ·exact s1.free (has b z).1
   ·rw[GB,CK,CK] at hb
    rcases hb with z | z
    ·rw[z,aE];trivial
    ·rw[(has b z).2];trivial
   ·have F:b∈as:=AI M
    have j:es=[]:=by
     have:=AI q2;exact(FU.mp this).2
    subst j;exact⟨by simp[F],CP _,[],(has b F).2,Vo⟩
  ·exact q.elim
 ·exact q.elim
end
section
variable{X:Cx}
end
section
variable{z TI TO i1 i2:A2}{f1 f2:Z A2}{n:Nat}{P1 P2:Nat->A1->Prop}{S1 S2:Nat->Ff->Prop}{a b:A1}
end
theorem Bv(q:h.IsTuple t xs)(o:Obj):(h.push o).IsTuple t xs:=by
 obtain⟨p,e,r⟩:=q;exact⟨p,AB _ e,r⟩
section
variable{st:Bool}{X:Cx}{l1 l2:C3}{tk:Nat}
end
theorem mj{Q:Z A1->A4->Prop}(hl:s.heap.IsTuple l vs.toArray)
  (h:Q vs { s with heap:=(s.heap.push (seqObj "list" #[] 0)).update s.heap.objs.size (Obj.mapSeq (·++vs.toArray)) }) (hsz:vs.length<=sizeLine) :
  wpAny (model prog w) A (collect (.ref l)) Q E s:=by
 obtain⟨o,ho,hc,n,hd⟩:=id hl;unfold collect;refine AA (HL (CV entry_proto_collect' ?_));show wpAny _ _ (do again (.builtin "list.__iadd__" ⟨[← newList [],.ref l],[]⟩)) _ _ s;refine AA (KU (AC ⟨FY _ (by ext),CV entry_list_iadd' ?_⟩));show wpAny _ _ (Builtin.List.listExtendWith (.ref s.heap.objs.size) (.ref l) (.ref s.heap.objs.size)) _ _ { s with heap:=s.heap.push (seqObj "list" #[] 0) };unfold Builtin.List.listExtendWith;have f:(s.heap.push (seqObj "list" #[] 0)).get? l=some o:=AB _ ho;refine AA (FP (T:="tuple") ⟨o,f,hc⟩ ?_);have ht:(Value.type "tuple" == Value.type "tuple")=true:=by rfl
 rw[AF (by rw[ht];simp)];refine AA (listItems_at f hd ?_);refine AA (listItems_at (xs:=#[]) (n:=0) (AQ _ rfl) rfl ?_);rw[AL (by simp)];refine AA (listUpdate_at (xs:=#[]) (n:=0) (AQ _ rfl) rfl ?_ (CP _) (by show(#[]++vs.toArray).size<=sizeLine+1;simp only[Array.size_append,AU,HJ];lia));refine AC ?_;show wpAny (model prog w) A (do
   let o ← load s.heap.objs.size
   match o.data with
   | .seq xs _=>pure xs.toList
   | _=>unsupported "internal:collect") Q E { s with heap:=(s.heap.push (seqObj "list" #[] 0)).update s.heap.objs.size (Obj.mapSeq (·++vs.toArray)) }
 refine AA (wpAny_load (get?_update_seq (AQ _ rfl) _) ?_);show wpAny _ _ (pure ((#[]:Array A1)++vs.toArray).toList) Q E _;rw[show((#[]:Array A1)++vs.toArray).toList=vs by simp];exact AC h
theorem qW{Q:J1}(hl:s.heap.IsTuple l vs.toArray)(M:IntsAre vs ns)(f:vs.length<64)
  (h:∀ (out:Array A1) (i:Z Int),IntsAre out.toList i->i.Perm ns->i.Pairwise (·<=·)->Q (.ref (s.heap.objs.size+1)) { s with heap:=sortedAll s.heap vs out }) :
  wpAny (model prog w) A (call (.builtin "sorted") [.ref l]) Q E s:=by
 refine Calls.call_function_entry kind_sorted plain_sorted entry_sorted (args_sorted1 _) ?_;unfold Builtin.«sorted»;refine AA (m:=checkCount "sorted" 1 1 _) (AC ?_);refine AA (mj hl ?_ (by rw[EF];lia));refine AA (KU ?_);have hsz:((s.heap.push (seqObj "list" #[] 0)).update s.heap.objs.size (Obj.mapSeq (·++vs.toArray))).objs.size=s.heap.objs.size+1:=by
  rw[HX,size_push']
 have C:(((s.heap.push (seqObj "list" #[] 0)).update s.heap.objs.size (Obj.mapSeq (·++vs.toArray))).push (seqObj "list" vs.toArray 0)).get? (s.heap.objs.size+1)=some (seqObj "list" vs.toArray 0):=by
  rw[← hsz];exact AQ _ rfl
 show wpAny _ _ _ _ _ { s with heap:=((s.heap.push (seqObj "list" #[] 0)).update s.heap.objs.size (Obj.mapSeq (·++vs.toArray))).push (seqObj "list" vs.toArray 0) };rw[hsz];refine AA (BN (BX slot_list_sort ⟨_,C,rfl⟩ entry_list_sort (list_sort_tree C M f λout i a1 a2 a3=>⟨_,rfl,?_⟩) (args_list_sort _)));exact AC ⟨_,rfl,h out i a1 a2 a3⟩
section
variable{X:Cx}
def qH(K:G8):Z V->Hp->VK->Prop:=λxs H Q=>∃ p ns,xs=[.ref p]/\E3 K H p (ns.map V.int)/\ns.length<64 /\
 ∀ (B:Z Int) (l:A2),B.Perm ns->B.Pairwise (·<=·)->H l=none->Q (.ref l) (Yr H l (.lst (B.map V.int)))
theorem Bz:V0 X (.builtin "sorted") (qH X.K):=by
 intro aa s σ H xs us Q I r h;obtain⟨p,ns,rfl,hq,f,q⟩:=h;obtain⟨u,rfl,S⟩:=Qf r;cases S;obtain⟨its,r',pl,hz⟩:=I.tuple hq;have J:=r'.length;rw[AD] at J;refine qW (show s.heap.IsTuple p its.toArray from pl) (Jb r') (by lia) λout B h1 h2 h3=>?_
 obtain⟨e,he⟩:=sortedAll_at s.heap its out;have hl:B.length=ns.length:=h2.length_eq;refine⟨.ref (s.heap.objs.size+1),Yr H (s.heap.objs.size+1) (.lst (B.map V.int)),I.laid (t':=s.toks) (λb o q=>sortedAll_old q) (DH _) ?_,rfl,q B _ h2 h3 (I.hok.fresh (DH _))⟩;refine⟨by rw[AD] at hz ⊢;lia,out.toList,e,Rj h1,?_⟩;rw[he]
def Iv:Z Dat->C1 (Z Dat)
 | [.lst xs]=>(U8 xs).bind λns=>if ns.length<64 then some ((Q6 ns).map .int) else none
 | [.tup xs]=>(U8 xs).bind λns=>if ns.length<64 then some ((Q6 ns).map .int) else none
 | _=>none
theorem Ap:TL X (.builtin "sorted") Iv:=(Bw.or Bz).weak λvs H Q zz=>by
 obtain⟨A,ds,d,mu,e,p,q⟩:=zz;unfold Iv at e;split at e
 ·rename_i xs
  obtain⟨v,e1,p1⟩:=p.one;obtain⟨l,us,e2,h1,r1⟩:=p1.lst;obtain⟨ns,hn,e⟩:=bind_some e;split at e
  ·rename_i f
   cases e;rw[Vg hn] at r1;have eu:=Ys r1;subst eu;refine .inl ⟨l,ns,by rw[e1,e2],h1.sq,f,λB c hp hs hl=>?_⟩;rw[Tt (hp.trans (Wz ns).symm) hs (Ry ns)];have h0:(64:Nat)<=sizeLine:=by decide
   exact q.at (by rw[AD,(Wz ns).length_eq];lia) (Mx _) c hl
  ·cases e
 ·rename_i xs
  obtain⟨v,e1,p1⟩:=p.one;obtain⟨l,us,e2,h1,r1⟩:=p1.tup;obtain⟨ns,hn,e⟩:=bind_some e;split at e
  ·rename_i f
   cases e;rw[Vg hn] at r1;have eu:=Ys r1;subst eu;refine .inr ⟨l,ns,by rw[e1,e2],h1,f,λB c hp hs hl=>?_⟩;rw[Tt (hp.trans (Wz ns).symm) hs (Ry ns)];have h0:(64:Nat)<=sizeLine:=by decide
   exact q.at (by rw[AD,(Wz ns).length_eq];lia) (Mx _) c hl
  ·cases e
 ·cases e
end
open HT in
theorem Ew{sl:A2}{Q:J1}(ht:IsTup s.heap t ac)(hs:s.heap.IsSliceOf sl vl vu .none)(pl:IsPart vl lo)(c:IsPart vu hi)
  (hw:(sIx ac.size 0 lo=0/\sIx ac.size ac.size hi=ac.size))
  (h:Q (.ref t) s)
  (hsz:ac.size<=sizeLine):wpAny (model prog w) A (getItem (.ref t) (.ref sl)) Q E s:=by
 obtain⟨os,b,o,B⟩:=id hs;have d:s.TypeIs (.ref sl) "slice" := ⟨os,b,o⟩;unfold getItem;try with_reducible refine BN ?_
 first | refine AA (AC ?_) | skip
 refine AA (wpAny_sequenceKey ht.typeIs (by decide) ?_);refine AA (CF (name:=Str.ofString "__getitem__") ht.typeIs EO
  (BX EO ht.typeIs entry_tuple_getitem ?_ (args_tuple_getitem _ _)))
 show wpAny _ _ (Builtin.Tuple.tupleItemsOf (.ref t) >>= _) _ _ s;refine AA (tupleItemsOf_ ht ?_);refine AA (FP d ?_);rw[AF (by decide)];refine AA (My hs pl c ?_);have a:(((sIx ac.size 0 lo:Nat):Int)==0&&(1:Int)==1&&(sIx ac.size ac.size hi - sIx ac.size 0 lo)==ac.size)=true:=by
  rw[hw.1,hw.2];simp
 show wpAny _ _ (if(((sIx ac.size 0 lo:Nat):Int)==0&&(1:Int)==1&&(sIx ac.size ac.size hi - sIx ac.size 0 lo)==ac.size)=true then _ else _) _ _ s;rw[AF a];unfold Builtin.Tuple.tupleIsExact;refine AA (AA (FP ht.typeIs (AC ?_)));rw[AF (by decide)];exact AA (HM (AC ⟨_,rfl,AC h⟩))
section
variable{X:Cx}
def q1(K:G8):V->C1 Int->C1 Int->Hp->VK->Prop:=λx lo hi H Q=>∃ a xs,x=.ref a/\E3 K H a xs /\
 (HT.sIx xs.length 0 lo=0/\HT.sIx xs.length xs.length hi=xs.length)/\Q (.ref a) H
theorem qk:MJ X (q1 X.K):=by
 intro aa s σ H x v vl vu lo hi sl Q I S hs pl c h;obtain⟨a,xs,rfl,hx,hw,q⟩:=h;cases S;obtain⟨its,r,ht,hz⟩:=I.tuple hx;have J:its.toArray.size=xs.length:=by rw[AU];exact r.length.symm
 refine⟨"tuple",_,PyProof.Rows.slot_tuple_getitem.lookup,ht.typeIs,?_⟩;exact Ew ht hs pl c (by rw[J];exact hw) ⟨.ref a,H,I,rfl,q⟩ (by rw[J];exact hz)
def LX:Dat->C1 Int->C1 Int->C1 Dat
 | .lst xs,lo,hi=>some (.lst (Jn xs lo hi))
 | .str z,lo,hi=>some (.str (Txt.slice z lo hi))
 | .tup xs,lo,hi=>some (.tup (Jn xs lo hi))
 | _,_,_=>none
theorem E4:WR X LX:=(jD.or qk).weak λv lo hi H Q zz=>by
 obtain⟨A,x,d,mu,e,p1,q⟩:=zz;unfold LX at e;split at e
 ·exact .inl ⟨A,.lst _,d,mu,e,p1,q⟩
 ·exact .inl ⟨A,.str _,d,mu,e,p1,q⟩
 ·rename_i xs
  by_cases hw:HT.sIx xs.length 0 lo=0/\HT.sIx xs.length xs.length hi=xs.length
  ·obtain⟨l,vs,e1,h1,r1⟩:=p1.tup
   cases e;have ec:Jn xs lo hi=xs:=by unfold Jn;rw[hw.1,hw.2];simp
   rw[ec] at q;exact .inr ⟨l,vs,e1,h1,by rw[Zw r1];exact hw,by rw[← e1];exact q.here (by rcases p1 with h | ⟨_,_,_,e9,_⟩ | ⟨_,_,_,e9,_⟩ | ⟨_,_,e9,_⟩;exact h;cases e9;cases e9;cases e9)⟩
  ·exact .inl ⟨A,.tup xs,d,mu,by show(if _ then none else _)=_;rw[AL hw];exact e,p1,q⟩
 ·cases e
end
set_option maxHeartbeats 3200000 in
theorem jv{Q:J1}
  (hh:A.handled=none) (hl:s.heap.IsTuple l ac) (hi:IntsAre ac.toList ns) (hb:ac.size+1<scanBound)
  (h:∀ (h':Ff) (tk:Nat),SK P w h' s.heap.objs.size (Nn w) (fm (λi=>ns.getD i 0) ac.size)->(∀ b o,s.heap.get? b=some o->h'.get? b=some o)->Q (.ref s.heap.objs.size) { s with heap:=h',toks:=tk }) :
  wpAny (model P w) A (call (.type "set") [.ref l]) Q E s:=by
 obtain⟨c,tl,hmro⟩:=F.called_set.mro;have hmade:=F.called_set.made;have p:=F.called_set.sub;refine FK (JZ ?_);show wpAny _ _ (callAny (.type "set") _) _ _ _;refine AC ⟨FY _ (by ext),CV F.entry_type_call ?_⟩;rw[Around.under_plain (weight_type_call_type "set" [.ref l] []) rfl];have h1:=F.called_set.notType;have h2:=F.called_set.canCreate;have hct:=F.typeCall_set_1 (.ref l);repeat (any_goals (first | assumption | wp_step))
 refine EG (nl (.ref l) (E:=E) (Q₁:=λobj s₁=>obj=.ref s.heap.objs.size/\s₁={ s with heap:=s.heap.push (Vk w) }) ⟨rfl,rfl⟩) λr s₁ hr=>?_
 cases r with
 | error e=>exact hr
 | ok fl =>
  cases fl with
  | ret obj =>
   obtain⟨rfl,rfl⟩:=hr;have hS:(s.heap.push (Vk w)).get? s.heap.objs.size=some (Vk w):=AQ _ rfl;have hT:Shared.TypeIs { s with heap:=s.heap.push (Vk w) } (.ref s.heap.objs.size) "set" := ⟨_,hS,rfl⟩;have hli:=F.called_set.init.lookup;have j:=F.called_set.init.bind (.ref s.heap.objs.size);repeat (any_goals (first | assumption | wp_step))
   refine EG (ET (R:=wants (λr s₂=>r=.none/\∃ h' tk,s₂={ s with heap:=h',toks:=tk }/\SK P w h' s.heap.objs.size (Nn w) (fm (λi=>ns.getD i 0) ac.size)/\(∀ b o,s.heap.get? b=some o->h'.get? b=some o)) E) F.called_set.init.plain F.entry_set_init (check_set_init_1 hT ?_)) λr₂ s₂ hr₂=>?_
   ·obtain⟨C,g,S,n,u⟩:=hl
    obtain⟨ocls,m,odata,k⟩:=C;simp only at S u;subst S;subst u;have x:(s.heap.push (Vk w)).get? l=some { cls:=.type "tuple",dict:=m,data:=.seq ac n,slots:=k }:=AB _ g;have hsls:=F.sub_tuple_set;have hslf:=F.sub_tuple_frozenset;have ag:(Value.type "tuple" == Value.type "dict")=false:=by decide
    have ak:(s.heap.push (Vk w)).IsTuple l ac:=⟨_,x,rfl,n,rfl⟩;unfold Builtin.«set.__init__» noKeywords Builtin.Frozenset.updateFrom;generalize D:pyIter=PI
    wp_walk
    subst D;refine FZ ak ?_;refine AA (HL ?_);have z:l<s.heap.objs.size:=AN g;have B:l≠(s.heap.push (Vk w)).objs.size:=by rw[Yt];exact BG (CU z)
    have q:s.heap.objs.size∉[(s.heap.push (Vk w)).objs.size,l]:=by
     rw[Yt];intro hm;rcases AZ.mp hm with e | e
     ·exact BG (DK _) e
     ·exact IV z (AJ.mp e)
    have a:∀ (i:Nat) (v:A1),ac[i]?=some v->∃ t,v=.int ((λi=>ns.getD i 0) i) t:=λi v hv=>IntsAre.int_at hi i v (by rw[DP];exact hv)
    refine jI ((Walks.tuple (show A.in1.in1.in1.handled=none from hh) _ l B ac).toS) s.heap.objs.size q (λi=>ns.getD i 0) a hb (ac.size - 0) 0 _ (by lia) (CP _)
     ⟨⟨_,AQ _ rfl,rfl,rfl⟩,(Bv ak _)⟩ ((f9 s.heap).heap λo e=>AB _ e) ?hR
    case hR =>
     intro s' hm d;rw[KS hm];show wpAny _ _ _ _ _ _;refine AC ?_;show wpAny _ _ (ret Value.none) _ _ _;refine AC ⟨rfl,_,_,rfl,d,λb o e=>hm.heap b o (λy=>?_) (AB _ (AB _ e))⟩;have ae:=AN e;rcases AZ.mp y with e' | y
     ·exact BG ae e'
     ·exact BG (CU ae) (by have h9:=AJ.mp y;rw[Yt] at h9;exact h9)
   ·cases r₂ with
    | error e=>exact hr₂
    | ok fl₂ =>
     cases fl₂ with
     | ret r =>
      obtain⟨rfl,h',tk,rfl,d,f⟩:=hr₂;repeat (any_goals (first | assumption | wp_step))
      exact h _ _ d f
     | _=>exact hr₂.elim
  | _=>exact hr.elim
section
variable{X:Cx}
end
theorem S9(q:h.IsList t xs)(e:∀ o,h.get? t=some o->h'.get? t=some o):h'.IsList t xs:=by
 obtain⟨o,ho,r⟩:=q;exact⟨o,e o ho,r⟩
theorem Am(ag:t≠it):∀ (n i:Nat) (s:A4) (Q:Z A1->A4->Prop),s.heap.IsListIter it t i->s.heap.IsList t ac->i+n<=ac.size ->
  (∀ h',h'.IsListIter it t (i+n)->SameBut it s.heap h'->Q ((ac.toList.drop i).take n) { s with heap:=h' })->wpAny (model prog w) A (draw (.ref it) n) Q E s
 | 0,i,s,Q,c,_,_,j=>by
  show wpAny _ _ (pure []) Q E s;exact AC (by simpa using j s.heap c (SameBut.refl ..))
 | n+1,i,s,Q,c,ht,M,j=>by
  have ae:i<ac.size:=by lia
  show wpAny _ _ (pyNext (.ref it) >>= _) Q E s;refine AA (HY c ht (x:=ac[i]) (by simp[ae]) λh₁ hit₁ hs₁=>?_);refine AA (BN (Am ag n (i+1) _ _ hit₁ (S9 ht λo e=>hs₁.extBut _ _ ag e) (by lia) λh₂ hit₂ hs₂=>AC ?_));have hd:ac.toList.drop i=ac[i]::ac.toList.drop (i+1):=by simp[EN,ae]
  have:=j h₂ (by rw[show i+(n+1)=i+1+n by lia];exact hit₂) (hs₁.trans hs₂);rw[hd,GD] at this;exact this
theorem L9{Q:Z A1->A4->Prop}(hh:A.handled=none)(ht:s.heap.IsList t ac)
  (j:∀ h',ExtBut s.heap.objs.size s.heap h'->Q ac.toList { s with heap:=h' }):wpAny (model prog w) A (unpackItems (.ref t) ac.size none) Q E s:=by
 have ae:t≠s.heap.objs.size:=by obtain⟨o,ho,_⟩:=ht;exact BG (AN ho)
 unfold unpackItems;refine AA ?_
 ·unfold notIterableAtAll
  refine AA (IM ht.typeIs slot_list_iter.lookup ?_);refine AC ?_;simp only[FC,HG];refine AA (BN (HR ht ?_));refine AA (BN (Am ae ac.size 0 _ _ ⟨_,AQ _ rfl,rfl,rfl⟩ (S9 ht λo e=>AB _ e) (by lia) λh₁ hit₁ hs₁=>?_));have u:List.take ac.size (List.drop 0 ac.toList)=ac.toList:=by
   rw[KY];exact CG (by simp)
  rw[u];rw[AL (by simp)];have ht₁:Heap.IsList h₁ t ac:=S9 (S9 ht λo e=>AB _ e) λo e=>hs₁.extBut _ _ ae e
  refine AA (BN (IG hh hit₁ ht₁ (by simp) λh₂ he₂=>?_));simp only[Option.isSome_none,FC,HG];refine AC (j h₂ λb o hb e=>he₂ b o hb (hs₁.extBut b o hb (AB _ e)))
theorem Ir{env:Gf}{a:Z C3}{x1}(hh:A.handled=none)(ht:s.heap.IsList t ac)
  (hn:(assignEach a env).length=ac.size) (b:(assignEach a env).findIdx? (·.1)=none)
  (h:∀ h',ExtBut s.heap.objs.size s.heap h'->wpAny (model prog w) A (assignInOrder ((assignEach a env).map (·.2)) ac.toList) Q E { s with heap:=h' }) :
  wpAny (model prog w) A (assign (.Tuple a x1 pos) env (.ref t)) Q E s:=by
 rw[assign_Tuple];refine AA (DL ?_);unfold unpack;rw[hn,b];exact AA (BN (L9 hh ht h))
section
variable{X:Cx}
def kt(K:G8)(n:Nat)(t:NF):TG:=λv σ H Q=>∃ a xs,v=.ref a/\Dd K H a xs/\xs.length=n/\t xs σ H Q
theorem i3{t:NF}{n:Nat}(hc:X.calm=true)(h:NW X es t)
  (hn:(assignEach es X.env).length=n:=by rfl) (l:(assignEach es X.env).findIdx? (·.1)=none:=by rfl):PG X (.Tuple es k pos) (λv σ H Q=>bU X.K n t v σ H Q\/kt X.K n t v σ H Q):=by
 intro aa s σ H v u Q I r hw;rcases hw with hw | hw
 ·exact pp hc h hn l aa s σ H v u Q I r hw
 obtain⟨a,xs,e1,hq,hl,hw⟩:=hw;subst e1;cases r;obtain⟨its,rv,pl,hz⟩:=I.list hq;refine Ir (I.ok.hd hc) pl.isList (by simp[hn,← hl,rv.length]) l λh' hx=>?_
 have I1:C' X aa σ H { s with heap:=h' }:=I.kept (t':=s.toks) λb o e=>hx b o (BG (AN e)) e
 exact h aa _ σ H xs _ Q I1 (by simpa using rv) hw
def Kp(n:Nat)(b:Z Dat->Ev->C1 Ev):Dat->Ev->C1 Ev:=λd env=>match d with
 | .tup ds=>if ds.length=n then b ds env else none
 | .lst ds=>if ds.length=n then b ds env else none
 | _=>none
theorem Gq{b:Z Dat->Ev->C1 Ev}{n:Nat}(hc:X.calm=true)(h:S' is X es b)
  (hn:(assignEach es X.env).length=n:=by rfl) (l:(assignEach es X.env).findIdx? (·.1)=none:=by rfl):NK is X (.Tuple es k pos) (Kp n b):=(i3 hc h hn l).weak λv σ H Q zz=>by
 obtain⟨env,R,A,d,env',k,r,e,q⟩:=zz;unfold Kp at e;split at e
 ·rename_i ds
  split at e
  ·rename_i hl
   obtain⟨a,vs,ev,h1,r1⟩:=Rt r;exact .inl ⟨a,vs,ev,Yn.seqT h1,by rw[Zw r1];exact hl,env,R,A,ds,env',k,r1,e,q⟩
  ·cases e
 ·rename_i ds
  split at e
  ·rename_i hl
   obtain⟨a,vs,ev,h1,r1⟩:=Qa r;exact .inr ⟨a,vs,ev,(Yn.sl h1).sq,by rw[Zw r1];exact hl,env,R,A,ds,env',k,r1,e,q⟩
  ·cases e
 ·cases e
end
theorem nE{Q:J1}(hh:A.handled=none)(hS:SK P w s.heap S (Nn w) ks)(f:ks.length<64)(T:ks.Nodup)
  (h:∀ (out:Array A1) (B:Z Int) (h':Ff) (tk:Nat) (d:Drawn) (Lq_:A2) (e:Nat),IntsAre out.toList B->B.Perm ks->B.Pairwise (·<=·)->(∀ b o,s.heap.get? b=some o->h'.get? b=some o)->s.heap.objs.size<=Lq_->h'.get? Lq_=some (seqObj "list" out e)->Q (.ref Lq_) { s with heap:=h',toks:=tk,drawn:=d }) :
  wpAny (model P w) A (call (.builtin "sorted") [.ref S]) Q E s:=by
 refine Calls.call_function_entry kind_sorted plain_sorted entry_sorted (args_sorted1 _) ?_;unfold Builtin.«sorted»;refine AA (m:=checkCount "sorted" 1 1 _) (AC ?_);refine AA (iK (A:=A.in1) hh hS λvs h' tk d hv kp g=>?_);obtain⟨ns,M,hp⟩:=hv;have J:vs.length=ns.length:=by
  clear hp;induction M with
  | nil=>rfl
  | cons n t hr ih=>simp[ih]
 refine AA (KU (hsz:=by have:=hp.length_eq;rw[EF];simp;lia) ?_);have C:(h'.push (seqObj "list" vs.toArray 0)).get? h'.objs.size=some (seqObj "list" vs.toArray 0):=AQ _ rfl;refine AA (BN (BX slot_list_sort ⟨_,C,rfl⟩ entry_list_sort (list_sort_tree C M (by rw[J,hp.length_eq];exact f) λout B a1 a2 a3=>⟨_,rfl,?_⟩) (args_list_sort _)));obtain⟨e,he⟩:=sortedHeap_at (out:=out) C;refine AC ⟨_,rfl,h out B _ tk d h'.objs.size e a1 (a2.trans hp) a3 (λb o F=>?_) g he⟩;have hb:=kp b o F;have ae:=AN hb;rw[sortedHeap_old (BG ae) (by rw[Yt];exact CU ae)];exact AB _ hb
section
variable{X:Cx}
def OZ(fs:Zzv):Ev->C1 (Z Dat):=λenv=>match fs env with
 | some [.tup xs]=>(U8 xs).bind λns=>if ns.length<64 then some ((Q6 (ns.foldl Q9 [])).map .int) else none
 | _=>none
theorem Cv{p1 M q2:Pos}(r:Gl X "sorted")(x:X.mg "sorted" = none)(y:Gl X "set")(z:X.mg "set" = none)(ha:O1 true X [e] fs)(hc:X.calm=true:=by rfl)
  (G:bootBuiltins "sorted" = some (.builtin "sorted"):=by ext) (P:bootBuiltins "set" = some (.type "set"):=by ext)
  (m:starEach [.Call (.Name "set" p2) [e] [] q2] X.env=[(false,eval (.Call (.Name "set" p2) [e] [] q2) X.env)]:=by rfl)
  (ac:starEach [e] X.env=[(false,eval e X.env)]:=by rfl) :
  MH X (.Call (.Name "sorted" p1) [.Call (.Name "set" p2) [e] [] q2] [] M) (OZ fs):=by
 intro aa s σ H Q I ⟨env,R,A,ds,k,e1,q⟩;unfold OZ at e1;split at e1
 case h_2=>cases e1
 rename_i xs j;obtain⟨ns,hn,e1⟩:=bind_some e1;split at e1
 case isFalse=>cases e1
 rename_i f;cases e1;refine CN (Jd I r x G (callWith_builtin1 ?_ m rfl));rw[m];refine JB ?_;refine Call_ (Jd I y z P (callWith_type1 (Wo (ha q2 aa s σ H (λvs H1=>∃ v,Zp H H1/\vs=[v]/\Pk X.K A H1 (.tup xs) v) I ⟨env,R,A,[.tup xs],k,j,λvs H1 s1 r1=>?_⟩) λus s1 ⟨vs,H1,I1,r1,v,sm,ev,pv⟩=>?_) ac rfl))
 ·obtain⟨v,e3,p1⟩:=r1.one
  exact⟨v,s1,e3,p1⟩
 subst ev;obtain⟨a,ys,ea,h1,r2⟩:=pv.tup;subst ea;obtain⟨u,rfl,N⟩:=Qf r1;cases N;rw[Vg hn] at r2;have eu:=Ys r2;subst eu;obtain⟨its,h,pl,hz⟩:=I1.tuple h1;have J:=h.length;rw[AD] at J;have hsz:its.toArray.size=ns.length:=by rw[AU];exact J.symm
 refine jv (I1.ok.hd hc) (show s1.heap.IsTuple a its.toArray from pl) (Jb h) (by rw[hsz];unfold scanBound;lia) λh' tk hS kp=>?_
 refine JK ?_;rw[hsz,cw] at hS;have Y:=Dn ns;refine nE (s:={ s1 with heap:=h',toks:=tk }) (I1.ok.hd hc) hS (by lia) (Gg ns [] EB) λout B h2 l d Lq_ c a1 a2 a3 n C he=>?_
 have i:s1.heap.objs.size<=Lq_:=by
  rcases DN Lq_ s1.heap.objs.size with ae | g
  ·exfalso
   obtain⟨es,ep,t,ho,_⟩:=hS;have:=AN ho;exact DA _ (EY C (LG ae this))
  ·exact g
 have E:B.length<=ns.length:=by rw[a2.length_eq];exact Y
 have h0:(64:Nat)<=sizeLine:=by decide
 have I2:C' X aa σ (Yr H1 Lq_ (.lst (B.map V.int))) { s1 with heap:=h2,toks:=l }:=I1.laid (λb o F=>n b o (kp b o F)) i (show Yl X.prog X.w _ h2 _ (.lst (B.map V.int)) from⟨by rw[AD];lia,out.toList,c,Rj a1,he⟩);have em:B=Q6 (ns.foldl Q9 []):=Tt (a2.trans (Wz _).symm) a3 (Ry _);subst em;exact⟨.ref Lq_,_,I2.drawn d,rfl,(q.mono sm).at (by rw[AD];lia) (Mx _) _ (I1.hok.fresh i)⟩
end
variable{k:C3}
def QF:Dat->C1 (Z Vp)
 | .tup [.int a,.int b]=>some [.inl a,.inl b]
 | _=>none
theorem VW{A:AS}{d:Dat}{v:V}{ks:Z Vp}(e:QF d=some ks)(r:Pk K A H d v):∃ p,v=.ref p/\H p=some (.tup (ks.map kV)):=by
 unfold QF at e;split at e
 ·rename_i a b
  cases e;obtain⟨p,vs,e1,h1,r1⟩:=r.tup;have ev:vs=[.int a,.int b]:=Ys (ns:=[a,b]) r1;subst ev;rcases h1 with h1 | ⟨_,_,_,_,_,_,_,_,h2⟩
  ·exact⟨p,e1,h1⟩
  ·exact absurd AW (h2 a)
 ·cases e
def Nd(kvs:Z (Z Vp×Dat))(ks:Z Vp):Bool:=(kvs.map (·.1)).any λx=>decide (x=ks)
theorem cx{us:Z (Z Vp×V)}{k:Z Vp}:(Ey us k).isSome=(us.map (·.1)).any λx=>decide (x=k):=by
 rw[List.any_map,← I0];congr 1
section
variable{X:Cx}{g:Zzu}
def SG(neg:Bool)(i:Nat)(f:Zzu):Ev->C1 Dat:=λenv=>match env[i]?,f env with
 | some (.gx (.dict kvs)),some d=>(QF d).map λks=>.bl (if neg then !Nd kvs ks else Nd kvs ks)
 | _,_=>none
theorem F'.dictA{A:AS}{kvs:Z (Z Vp×Dat)}(k:F' K B A H σ env)(h:env[i]?=some (.gx (.dict kvs))) :
  ∃ (a:A2) (us:Z (Z Vp×V)),σ[i]?=some (some (.ref a))/\H a=some (.dT us)/\us.map (·.1)=kvs.map (·.1):=by
 obtain⟨own,h1,h2,h4⟩:=k.sl;obtain⟨x,M,v,e1,a,us,e2,e3,e4,e5,t,J⟩:=h4 i _ h;subst e1 e2;exact⟨a,us,M,e5,t⟩
def P9(i:Nat)(fk fv:Zzu):Ev->Fl:=λenv=>match env[i]?,fv env,fk env with
 | some (.gx (.dict kvs)),some d,some y=>match QF y with
  | some ks=>if Nd kvs ks=false/\kvs.length<sizeLine then .next (env.set i (.gx (.dict (kvs++[(ks,d)])))) else .no
  | none=>.no
 | _,_,_=>.no
theorem hP(i:Nat){x:Str}(hu:X.A.units+1<cLine)(ha:Yz true X ix f)(hb:Yz false X e g)
  (hN:X.N[i]?=some x:=by rfl) (hv:MN X.env.scope x:=by ext) (hd:C2 x:=by decide) (af:(x==("__classdict__" : Str))=false:=by decide)
  (hs:swapsWith e (some (.Subscript (.Name x p) ix am)) pos.line X.env=pure false:=by rfl) :
  En fr X (.Assign [.Subscript (.Name x p) ix am] e pos) (P9 i f g):=(mQ hu (Jm hN hv hd af) ha hb hs).weak λD σ H zz=>by
 obtain⟨env,B,A,k,l,q⟩:=zz;unfold P9 at q;split at q
 ·rename_i kvs d y h1 h2 h3
  split at q
  ·rename_i ks Y
   split at q
   ·rename_i hc
    obtain⟨a,us,s1,s2,G⟩:=k.dictA h1;refine⟨env,B,A,d,k,h2,λv H1 h r1=>⟨.ref a,s1,env,B,A,y,k.mono h,h3,λu H2 j r2=>?_⟩⟩;obtain⟨b,e4,e5⟩:=VW Y r2.pk;subst e4;have sm:=h.trans j;have k3:=k.mono sm;obtain⟨v0,o,m1,m2,m3,m4⟩:=k3.gx l h1;rw[s1] at m1;cases m1;obtain⟨r,I,z1,z2,W,z4,z5,z6⟩:=m2;cases z1;have n:I=us:=by
     have:=sm _ _ s2;rw[z4] at this;exact HO.dT.inj (BF this)
    subst n;have C:Ey I ks=none:=by
     have:=cx (us:=I) (k:=ks);rw[G] at this;have h9:Nd kvs ks=false:=hc.1;unfold Nd at h9;rw[h9] at this;cases s:Ey I ks with
     | none=>rfl
     | some _=>rw[s] at this;cases this
    have w:I.length=kvs.length:=by have:=DY List.length G;rwa [AD,AD] at this
    have ep:Kd I ks v=I++[(ks,v)]:=hZ v C;refine⟨a,Yr H2 a (.dT (I++[(ks,v)])),rfl,by rw[← ep];exact RA.t (sm _ _ s2) e5 (by rw[w];exact hc.2),?_⟩;have hA:A a=true:=(m3 a z2).1;have m:Zp (av H2 A) (av (Yr H2 a (.dT (I++[(ks,v)]))) A):=λc o2 ec=>by
     obtain⟨y1,y2⟩:=Q1 ec;have hc:c≠a:=by intro z;rw[z,hA] at y1;cases y1
     exact Ws (by rw[Zc hc];exact y2) y1
    have hg:NV X.K A (Yr H2 a (.dT (I++[(ks,v)]))) o (.dict (kvs++[(ks,d)])) (.ref a):=by
     refine⟨a,I++[(ks,v)],rfl,z2,by rw[AX];exact hc.2,Zg,by rw[BR,BR,G];rfl,?_⟩;rw[BR,BR];exact Wq (z6.mono m) (Jz ((Rp.mono (Wv j) (show Rp X.K (av H1 A) d v from r1)).mono m))
    obtain⟨w1,w2⟩:=m4 a (.dT (I++[(ks,v)])) _ z2 trivial hg;exact q A _ σ ((G0.same sm).trans w1) w2
   ·exact q.elim
  ·exact q.elim
 ·exact q.elim
def hI(tk tv:TE):TE:=λσ H Q=>∀ p,H p=none->tk σ (Yr H p (.dT [])) λy H1=>tv σ H1 λx H2=>H2 p=some (.dT [])/\∃ ks b,y=.ref b/\H2 b=some (.tup (ks.map kV))/\Q (.ref p) (Yr H2 p (.dT [(ks,x)]))
theorem lT{env:Gf}{K:Type}[DecidableEq K]{knd:HeapKind prog w K}{Q:J1}
  (h:wpAny (model prog w) A (evalPairs (pairTrees [some k] [v] env pos)) (λvs s₁=>∃ b x ks,vs=[(.ref b,x)]/\knd.room A/\knd.is s₁.heap ks b/\s₁.heap.DictOfH knd s.heap.objs.size [] /\
   ∀ h',h'.DictOfH knd s.heap.objs.size (storedH [] ks b x)->SameBut s.heap.objs.size s₁.heap h'->Q (.ref s.heap.objs.size) { s₁ with heap:=h',toks:=s₁.toks+knd.draws ks }) E
   { s with heap:=s.heap.push { cls:=.type "dict",data:=.dict #[] } }) :
  wpAny (model prog w) A (eval (.Dict [some k] [v] pos) env) Q E s:=by
 rw[arm_eval_Dict,zip_pairTrees [some k] [v] env pos rfl rfl,dictDisplay_pairs (pairTrees [some k] [v] env pos) (by simp[pairTrees]) (by simp[pairTrees])];refine AA (DL (AA ?_));unfold subDict;refine AA (wpAny_alloc ?_);refine AA (BN ?_);rw[AF (by simp[pairTrees])];refine AA (BO h (λvs s₁ h₁=>?_) λ_ _ e=>e);obtain⟨b,x,ks,rfl,hr,Y,hm,hq⟩:=h₁;refine BN ?_;rw[List.forIn_cons];refine AA (AA (AA (wpAny_dictSet_heap hr Y hm (λh' a c=>AC ?_) (CP _))));show wpAny _ _ (forIn ([]:Z (A1×A1)) PUnit.unit _) _ _ _;rw[List.forIn_nil];exact AC (AC (AC (AC (hq h' a c))))
theorem ke{tk:TE}(hu:X.A.units+1<cLine)(Y:PE X k tk)(hv:PE X v tv):PE X (.Dict [some k] [v] pos) (hI tk tv):=by
 intro aa s σ H Q I q;have hn:=I.hok.fresh (AT s.heap.objs.size);have I1:=I.laid (a:=s.heap.objs.size) (o:=.dT []) (h':=s.heap.push { cls:=.type "dict",data:=.dict #[] }) (t':=s.toks) (λ_ _ q=>AB _ q) (AT _) (mU s.heap I.big);refine lT (knd:=tupleKind (Ve X.prog X.w)) (pairTrees_cons_walk (Wo (Y aa _ σ _ _ I1 (q _ hn)) λu s1 ⟨y,H1,I2,m,M⟩=>Wo (hv aa s1 σ H1 _ I2 M) λB s2 ⟨x,H2,I3,S,q2⟩=>pairTrees_nil_walk ?_));obtain⟨hp,ks,b,D,F,C⟩:=q2;subst D;cases (show u=Value.ref b from m);obtain⟨z,hd,xs,d,dd⟩:=cg I3.hok hp;cases d;refine⟨b,B,ks,rfl,(show X.A.units<cLine by lia),Cq I3.hok F,dd,λh' ac hs=>⟨.ref s.heap.objs.size,_,?_,rfl,C⟩⟩;obtain⟨q,es,ep,hq,h2,h3,h4,_,h5⟩:=ac;have r1:=(KT.put (H:=H2) (kvs:=[]) (xs:=[]) .nil ks F S);refine Cp I3 (by rw[hp];exact FL) hs ⟨q,hq⟩ ⟨by show 1<=sizeLine;decide,hd,_,r1.keeps λc ys ec=>?_,q,es,ep,hq,h2,h3,h4,h5⟩;rw[Zc (bG ec hp (λz=>nomatch z))];exact ec
def QP(i:Nat)(fk fv:Zzu):Ev->Fl:=λenv=>match fk env,fv env with
 | some y,some (.bl d)=>match QF y with
  | some ks=>.next (env.set i (.gx (.dict [(ks,.bl d)])))
  | none=>.no
 | _,_=>.no
theorem qE(i:Nat){x:Str}{n:C3}{a:Pos}(hN:X.N.Nodup)(hi:X.N[i]?=some x)(hx:LZ X.env.scope x)(hu:X.A.units+1<cLine)(ha:Yz true X n f)(hb:Yz false X e g)
  (hs:swapsWith (.Dict [some n] [e] a) (some (.Name x am)) pos.line X.env=pure false:=by rfl)
  (hf:X.fn x=true\/X.env.scope.names.lookup x=some .local:=by ext) :
  En fr X (.Assign [.Name x am] (.Dict [some n] [e] a) pos) (QP i f g):=(L0 hN hi hx (ke hu ha hb) hs hf).weak λD σ H zz=>by
 obtain⟨env,B,A,k,l,q⟩:=zz;unfold QP at q;split at q
 ·rename_i y d h1 h2
  split at q
  ·rename_i ks Y
   intro p hp;have m:Zp H (Yr H p (.dT [])):=Zp.new hp;refine⟨env,B,A,y,k.mono m,h1,λu H1 h r1=>⟨env,B,A,.bl d,(k.mono m).mono h,h2,λv H2 j r2=>⟨j _ _ (h _ _ Zg),?_⟩⟩⟩;obtain⟨b,e4,e5⟩:=VW Y r1.pk;refine⟨ks,b,e4,j _ _ e5,?_⟩;have r:Zp H (Yr H2 p (.dT [(ks,v)])):=λc o ec=>by
    rw[Zc (λz=>by rw[z,hp] at ec;cases ec)];exact j _ _ (h _ _ (m _ _ ec))
   have h9:=k.putG l i (g:=.dict [(ks,.bl d)]) (v:=.ref p) (S:=λb=>decide (b=p)) r (λb hb=>by rw[BM hb];exact hp) (λb hb=>by rw[BM hb,Zg];trivial) ⟨p,[(ks,v)],rfl,by simp,by show 1<=sizeLine;decide,Zg,rfl,Jz ?_⟩
   ·exact q _ _ _ h9.1 h9.2
   ·rw[(show Rp X.K (av H2 A) (.bl d) v from r2) |> O3];exact Vi
  ·exact q.elim
 ·exact q.elim
end
end L2
variable{f1 f2 f3:L2.Zzu}{F1 F2:L2.Dat->L2.Dat->C1 L2.Dat}{r:L2.Fl}{B v s0 m':Nat}{h:L2.Ev->L2.Fl}{q:Nat×Nat}{qs rs:Z (Nat×Nat)}{l:Z Nat}{as:Z L2.Dat}{lo:Int}{I:Nat×Nat->Prop}
namespace L2
open PySem PySem.Spec PyProof.Rows PySem.W
section
variable{X:Cx}{h₀:ExceptHandler}{hs:Z ExceptHandler}
variable{a b c:C3}{m1 m2 m3:Bool}
def RL(i:Nat)(f:Zzu):Ev->Fl:=λenv=>match env[i]?,f env with
 | some (.fz (.int x)),some (.int y)=>.next (env.set i (.fz (.int (x+y))))
 | _,_=>.no
theorem qL(i:Nat){x:Str}(hN:X.N.Nodup)(hi:X.N[i]?=some x)(hx:LZ X.env.scope x)(he:Yz m1 X e f1)
  (hf:X.fn x=true\/X.env.scope.names.lookup x=some .local:=by ext):En fr X (.AugAssign (.Name x am) .Add e pos) (RL i f1):=(iP hN hi hx he mH hf).weak λD σ H zz=>by
 obtain⟨env,B,A,k,l,q⟩:=zz;unfold RL at q;split at q
 ·rename_i n m h1 h2
  obtain⟨own,z1,z2,z4⟩:=k.sl;obtain⟨w,M,v,e1,e2⟩:=z4 i _ h1;subst e1;have ev:v=.int n:=Jh e2;subst ev;refine⟨.int n,M,env,B,A,.int m,k,h2,λy H1 s1 r1=>?_⟩;refine⟨n,m,rfl,r1.pk.int,?_⟩;exact q A H1 _ (G0.same s1) ((k.mono s1).put i Yq)
 ·exact q.elim
theorem pD(i:Nat){x:Str}(hu:X.A.units+1<cLine)(he:Yz true X e f1)(hN:X.N[i]?=some x:=by rfl)(hv:MN X.env.scope x:=by ext)(hd:C2 x:=by decide)(af:(x==("__classdict__" : Str))=false:=by decide)
  (hm:behindInMarks .In (.Name x p)=false:=by rfl):MK X (.Compare e [.In] [.Name x p] pos) (dB (SG false i f1)):=(kT (lz hu he (Jm hN hv hd af)) hm).weak λσ H Q zz=>by
 obtain⟨env,R,A,d,k,e1,q⟩:=zz;have e1:=P4 e1;unfold SG at e1;split at e1
 ·rename_i kvs s h1 h2
  obtain⟨ks,Y,e3⟩:=map_some e1;have e4:=Dat.bl.inj e3;subst e4;obtain⟨a,us,s1,s2,G⟩:=k.dictA h1;refine⟨env,R,A,s,k,h2,λy H1 sm r1=>⟨.ref a,s1,a,Ey us ks,rfl,?_,_,rfl,?_⟩⟩
  ·obtain⟨b,e4,e5⟩:=VW Y r1.pk
   subst e4;exact QQ.t (sm _ _ s2) e5
  ·rw[cx,G]
   exact q H1 sm
 ·cases e1
def By(F1 F2:Dat->Dat->C1 Dat)(f1 f2 f3:Zzu):Ev->C1 Bool:=λenv=>(f1 env).bind λx=>(f2 env).bind λy=>match F1 x y with
 | some (.bl true)=>(f3 env).bind λz=>match F2 y z with
  | some (.bl b)=>some b
  | _=>none
 | some (.bl false)=>some false
 | _=>none
theorem ir{o1 o2:CmpOp}(h1:R0 X (compareOp o1) F1)(h2:R0 X (compareOp o2) F2)(ha:Yz m1 X a f1)(hb:Yz m2 X b f2)(hc:Yz m3 X c f3)(hm:lastMarks [o1,o2] [b,c]=false:=by with_unfolding_all rfl) :
  MK X (.Compare a [o1,o2] [b,c] pos) (By F1 F2 f1 f2 f3):=(kU h1 h2 ha hb hc hm).weak λσ H Q zz=>by
 obtain⟨env,R,A,d,k,M,q2⟩:=zz;obtain⟨x,e1,M⟩:=bind_some M;obtain⟨y,e2,M⟩:=bind_some M;split at M
 ·rename_i e3
  obtain⟨z,e4,M⟩:=bind_some M;split at M
  ·rename_i bb e5
   cases M;refine⟨env,R,A,x,k,e1,λv H1 s1 p1=>⟨env,R,A,y,k.mono s1,e2,λu H2 s2 p2=>⟨A,x,y,.bl true,k.mu.mono (s1.trans s2),e3,p1.pk.mono s2,p2.pk,λw P G T=>⟨true,T.pk.bl,?_⟩⟩⟩⟩;rw[AF rfl];exact⟨env,R,A,z,k.mono ((s1.trans s2).trans G),e4,λt H4 s4 S=>⟨A,y,z,.bl _,k.mu.mono (((s1.trans s2).trans G).trans s4),e5,p2.pk.mono (G.trans s4),S.pk,λw2 H5 s5 r5=>⟨_,r5.pk.bl,q2 H5 ((((s1.trans s2).trans G).trans s4).trans s5)⟩⟩⟩
  ·cases M
 ·rename_i e3
  cases M;refine⟨env,R,A,x,k,e1,λv H1 s1 p1=>⟨env,R,A,y,k.mono s1,e2,λu H2 s2 p2=>⟨A,x,y,.bl false,k.mu.mono (s1.trans s2),e3,p1.pk.mono s2,p2.pk,λw P G T=>⟨false,T.pk.bl,?_⟩⟩⟩⟩;rw[AL (by decide)];exact⟨false,rfl,q2 P ((s1.trans s2).trans G)⟩
 ·cases M
end
end L2
variable{ks:Z Nat}
namespace L2
open PySem PySem.Spec PyProof.Rows
section
variable{κ:Type}[DecidableEq κ]{kd:HeapKind prog w κ}
end
section
variable{X:Cx}{F:Z Dat->Rs}
theorem VB{x:Str}(C:MG X.prog X.w X.K X.mg X.base k x ps fr F)(hr:G2 k X.A)(ha:O1 false X (e::es) fs)(hg:Gl X x:=by rfl)
  (P:C2 x:=by decide) (he:Z0 X.env e es:=by rfl) (ac:Z1 pos X.env es:=by rfl) (hp:X.pl=false:=by rfl) :
  Yz m X (.Call (.Name x p) (e::es) [] pos) (Zq F fs):=Yz.any ((Np C hr ha hg P he ac (λz=>by rw[hp] at z;cases z)).weak λσ H Q zz=>by
 obtain⟨env,B,A,d,kk,M,q2⟩:=zz;obtain⟨ds,e1,e2⟩:=bind_some M;have e3:=K3 e2;refine⟨env,B,A,ds,kk,e1,?_⟩;rw[e3];exactλv H' s r=>q2 v H' s r)
def U7(F:Z Dat->Rs)(fs:Zzv):Ev->Fl:=λenv=>match fs env with
 | none=>.no
 | some ds=>match F ds with
  | .ok _=>.next env
  | .exc c fl=>.exc env c fl
  | .no=>.no
theorem Oh(he:PE X e (QT X aJ F fs))(hs:swapsWith e none pos.line X.env=pure false:=by rfl):En fr X (.Expr e pos) (U7 F fs):=(Qn he hs).weak λD σ H zz=>by
 obtain⟨env,B,A,k,l,q⟩:=zz;unfold U7 at q;split at q
 ·exact q.elim
 rename_i ds e1;refine⟨env,B,A,ds,k,e1,?_⟩;split at q
 ·rename_i d hd
  try rw[hd]
  exactλv H' s r=>q A H' σ (G0.same s) (k.mono s)
 ·rename_i c fl hd
  try rw[hd]
  exactλA' H' σ' s k' _=>q A' H' σ' s k'
 ·exact q.elim
end
end L2
namespace L2
open PySem PySem.Spec PyProof.Rows PySem.W
section
variable{X:Cx}{b:Bool}
theorem SP.unpls{D:KX}{f:Flow}(h:SP (X.pls b) aa D f s):SP X aa D f s:=by
 cases f with
 | next=>obtain⟨σ',H',I,q⟩:=h;exact⟨σ',H',I.unpls,q⟩
 | brk=>obtain⟨σ',H',I,q⟩:=h;exact⟨σ',H',I.unpls,q⟩
 | cont=>obtain⟨σ',H',I,q⟩:=h;exact⟨σ',H',I.unpls,q⟩
 | ret u=>obtain⟨v,σ',H',I,r,q⟩:=h;exact⟨v,σ',H',I.unpls,r,q⟩
theorem Sv.unpls{st:Z C4}{t:TS}(h:Sv (X.pls b) st t):Sv X st t:=λaa s σ H D I hw =>
 BO (h aa s σ H D I.pls hw) (λ_ _ q=>q.unpls) λ_ _ z=>z
end
section
variable{K:Frag}
abbrev o5(P:Df)(w:D1)(K:G8)(mg:J')(base:Ff)(N:Z Str)(ai:Str)(scope:Fn)(f:A2)(cd:A1)(A:C0)(outer:Z Gf)(s:A4)(H:Hp)(E:XK):Cx :=
 (T6 (MC P w base true) P w K mg base N ai scope f cd A outer s H E).pls true
theorem ji{x:Str}{st:C4}{N:Z Str}(D:NZ K mg x st)(S:FnScope N ps (Z7 st))
  (j:dV x st ps)
  (hb:∀ (f:A2) (aj:A1) (A:C0) (outer:Z Gf) (s:A4) (H:Hp) (E:XK),G2 k (A.deeper (envOfC x (Z7 st) s.heap.objs.size f aj))->Xs fr (o5 P w K mg base N x (Z7 st) f aj A outer s H E) (Yb st) g) :
  MG P w K mg base (k+1) x ps fr (Y9 N.length ps.length g) true:=by
 have ac:ps.length<=N.length:=by have:=DY List.length S.pre;rw[CM] at this;lia
 obtain⟨f,fd,F,hm⟩:=D.ex;refine⟨⟨f,fd,F.okX S (λvs H Q E h=>h.1) λaj A outer s H vs Q E hr ⟨hl,ds,R,mu,r,q⟩=>⟨_,Sv.unpls (hb f aj A outer s H E hr),?_⟩,hm,F.kp,F.binds j⟩,λds h=>Lr h⟩;unfold Y9 at q;split at q
 ·rename_i hl
  refine⟨Ui N.length ds,⟨H,R,true⟩,R,K1 mu r (by lia),rfl,?_⟩;split at q
  ·rename_i d' e
   rw[e];exactλv H' s r n=>q v H' s r n
  ·rename_i env e
   rw[e];exactλA' H' σ' s k=>q .non H' k.h0 Ln (λ_ ds e=>by cases e)
  ·rename_i env c fs e
   rw[e];exactλA' H' σ' st k aa s' e C dct I hc x hf ae=>Ii I.unpls x rfl ae (q C dct H' k.h0 hc (hf.mono (Ts k.ra)))
  ·exact q.elim
 ·exact q.elim
structure MI (P:Program) (w:World) (K:G8) (mg:J') (base:Heap) (k:Nat) (x:Str) (ps:List Str) (fr:Bool) (F:List Dat->Rs):Prop where
 ex:∃ f fd,LD P w K mg base Et k f fd ps (VY K fr ps.length F)/\mg x=some (.ref f)/\PySem.W.keepIn K (.ref f)=true/\M5 K fd ps []
 len:∀ ds d,F ds=.ok d->ds.length=ps.length
theorem MI.d{x:Str}{F:Z Dat->Rs}(C:MI P w K mg base k x ps fr F):NN P w K mg base k x ps fr F:=by
 obtain⟨f,fd,i,r⟩:=C.ex;exact⟨⟨f,fd,i.x,r⟩,C.len⟩
theorem LY.okN{x:Str}{st:C4}{f:A2}{N:Z Str}(F:LY K x ai st f fd)(S:FnScope N ps (Z7 st))(len:∀ vs H Q E,sp vs H Q E->vs.length=ps.length)
  (a:∀ (aj:A1) (A:C0) (outer:Z Gf) (s:A4) (H:Hp) (vs:Z V) (Q:VK) (E:XK),G1 k (A.deeper (envOfC ai (Z7 st) s.heap.objs.size f aj))->MM (Dc Et P w K mg base N ai (Z7 st) f aj A outer s H E).nox->sp vs H Q E ->
   ∃ t,Sv (Dc Et P w K mg base N ai (Z7 st) f aj A outer s H E).nox (Yb st) t/\t { nx:=λ_ H'=>Q .non H',rt:=Q } (G' N vs) H):LD P w K mg base Et (k+1) f fd ps sp:=by
 obtain⟨oc,od,kV,au,pm,an,aj,ct,m,rfl,lk,af⟩:=F.ex;refine pO lk af S len λA outer s H vs Q E hr Y j=>?_
 obtain⟨t,h,q⟩:=a aj A outer s H vs Q E hr (show MM (Dc Et P w K mg base N ai (Z7 st) f aj A outer s H E).nox from⟨Y,rfl⟩) j;exact⟨t,h.nox,q⟩
theorem bt{x:Str}{st:C4}{N:Z Str}(D:NZ K mg x st)(S:FnScope N ps (Z7 st))
  (j:dV x st ps)
  (hb:∀ (f:A2) (aj:A1) (A:C0) (outer:Z Gf) (s:A4) (H:Hp) (E:XK),G1 k (A.deeper (envOfC x (Z7 st) s.heap.objs.size f aj))->MM (Dc Et P w K mg base N x (Z7 st) f aj A outer s H E).nox->Xs fr (Dc Et P w K mg base N x (Z7 st) f aj A outer s H E).nox (Yb st) g) :
  MI P w K mg base (k+1) x ps fr (Y9 N.length ps.length g):=by
 have ac:ps.length<=N.length:=by have:=DY List.length S.pre;rw[CM] at this;lia
 obtain⟨f,fd,F,hm⟩:=D.ex;refine⟨⟨f,fd,F.okN S (λvs H Q E h=>h.1) λaj A outer s H vs Q E hr hh ⟨hl,ds,R,d,mu,r,M,q⟩=>⟨_,hb f aj A outer s H E hr hh,?_⟩,hm,F.kp,F.binds j⟩,λds d h=>cj h⟩;exact Pz ac mu r M q
end
section
variable{X:Cx}{F:Z Dat->Rs}{x:Str}
theorem cK(C:MI X.prog X.w X.K X.mg X.base k x ps fr F)(hr:G1 k X.A)(hh:SH X)(ha:O1 false X (e::es) fs)(hg:Gl X x:=by rfl)
  (P:C2 x:=by decide) (he:Z0 X.env e es:=by rfl) (ac:Z1 pos X.env es:=by rfl) :
  Yz m X (.Call (.Name x p) (e::es) [] pos) (Zq F fs):=by
 obtain⟨f,fd,i,hm,Y,hb⟩:=C.ex;have ah:=li (dvs:=[]) (ds:=[]) (E:=E0) i hr hh hg hm Y hb .nil cZ ha P he ac (p:=p);have a:PE X (.Call (.Name x p) (e::es) [] pos) (cW (VY X.K fr ps.length F) (λσ H Q=>∃ env R A ds,F' X.K R A H σ env/\fs env=some ds/\∀ vs H',Zp H H'->L1 false X.K A H' ds vs->Q vs H')):=λaa s σ H Q I h=>ah aa s σ H Q I (by
  unfold UF;simp only[GM];exact h)
 refine Yz.any (a.weak λσ H Q ⟨env,R,A,d,k,M,q2⟩=>?_);obtain⟨ds,e1,e2⟩:=bind_some M;have e3:=K3 e2;refine⟨env,R,A,ds,k,e1,λvs H1 s1 rs=>⟨by rw[Zw rs.rps];exact C.len ds d e3,ds,A,d,k.mu.mono s1,rs.rps,e3,λv H' s r _=>q2 v H' (s1.trans s) r⟩⟩
end
structure XMakeN (P:Program) (w:World) (K:Frag) (mg:J') (base:Heap) (k:Nat) (c:Str) (p:Nat) (G:List Dat->Option (List (Str×XD))):Prop where
 ex:∃ C fI D fd ps,Yy K c C/\mg c=some (.ref C)/\keepIn K (.ref C)=true/\R5 K C fI D=true/\I7 K C/\isFn K (.ref fI)=true/\LD P w K mg base Et k fI fd ps (NJ K C p G)/\M5 K fd ps []
 len:∀ ds fl,G ds=some fl->ds.length=p
 few:p<=10
variable{P:Str->A2->Prop}{e:A2}{B:Bs}{b1 b2:C4}{T1 T2 q:Str}{l:Z (Str×A2)}
theorem XMakeN.x{P:Df}{w:D1}{K:Frag}{mg:J'}{base:Ff}{k:Nat}{c:Str}{p:Nat}{G:Z Dat->C1 (Z (Str×XD))}(M:XMakeN P w K mg base k c p G):LJ P w K mg base k c p G:=by
 obtain⟨C,fI,D,fd,ps,h1,h2,h3,h4,h5,l,r,s⟩:=M.ex;exact⟨⟨C,fI,D,fd,ps,h1,h2,h3,h4,h5,l,r.x,s⟩,M.len,M.few⟩
section
variable{P:Df}{K:Frag}
theorem dJ{x:Str}{st:C4}{D:A2}{f:Str}{r:TJ}(F:LY K "__init__" ai st fI fd)(S:FnScope ["self",x] ["self",x] (Z7 st))(hx:R5 K C aB D=true)(xc:I7 K C)(hf:findIn K (.ref C) f=some none)
  (hb:∀ (aj:A1) (A:C0) (outer:Z Gf) (s:A4) (H:Hp) (E:XK),G1 k (A.deeper (envOfC ai (Z7 st) s.heap.objs.size fI aj)) ->
   Sv (Dc Et P w K mg base ["self",x] ai (Z7 st) fI aj A outer s H E).nox (Yb st) (F0 (RD (SF K (R8 (Ml 0) (R8 (Og r) NT)))) (TF K (Ml 0) (PQ (RY K) (R8 (Ml 1) NT)) f)))
  (hj:∀ (H:Hp) (e a:A2) (ns:Z Int),SL K H a (ns.map V.int)->D4 ns->OA 0 [some (.ref e),some (.ref a)] H r) :
  LD P w K mg base Et (k+1) fI fd ["self",x] (NJ K C 1 (gW f)):=by
 refine F.okN S (λvs H Q E ⟨e,ws,ds,R,fl,ev,hl,_⟩=>by rw[ev,BH,hl];rfl) λaj A outer s H vs Q E hr hh ⟨e,ws,ds,R,fl,ev,hl,he,mu,re,rs,hG,q⟩=>⟨_,hb aj A outer s H E hr,?_⟩
 subst ev;unfold gW at hG;split at hG
 ·rename_i xs
  obtain⟨ns,hn,hG⟩:=bind_some hG;split at hG
  ·rename_i hs
   cases hG;have hs:=Er hs;obtain⟨v,r',e1,r1,r2⟩:=Zt rs;have e2:=Yj r2;subst e1 e2;obtain⟨a,us,e3,hS,N⟩:=Qa r1;rw[Vg hn] at N;have e4:=Ys N;subst e3 e4;have d:SL K H a (ns.map V.int):=Yn.sl hS;show F0 _ _ _ [some (.ref e),some (.ref a)] H;refine⟨.ref e,rfl,?_⟩;refine hj H e a ns d hs Str.empty _ (by decide) λz=>?_
   refine⟨e,C,none,.str z,aB,D,rfl,he,hx,?_⟩;refine⟨.ref a,rfl,a,ns.map V.int,rfl,.inl d.sq,λl p=>?_⟩;have M:l≠e:=λz=>by rw[z,he] at p;cases p
   refine⟨.ref e,rfl,e,C,none,aB,D,rfl,by rw[Zc (AO M)];exact he,hx,xc,hf,λdx m n=>?_⟩;have u:dx≠l:=λz=>by rw[z,Zg] at m;cases m
   have X:H dx=none:=by rw[Zc u] at m;exact m
   have nR:∀ {b:A2},H b=none->R b=false:=λ{b} z=>by
    cases y:R b with
    | false=>rfl
    | true=>obtain⟨o,ho⟩:=(mu b y).some;rw[z] at ho;cases ho
   refine q _ (some dx) (λc o hc h=>?_) ?_ ?_ (Fe X Zg λg a hm=>by simp at hm;obtain⟨_,rfl⟩:=hm;exact⟨p,_,by rw[Zc (AO u),Zc M,Zg]⟩)
   ·have c1:c≠dx:=λz=>by rw[z,X] at h;cases h
    have c2:c≠l:=λz=>by rw[z,p] at h;cases h
    rw[Zc c1,Zc hc,Zc c2];exact h
   ·rw[Zc (AO n),Zg]
   ·refine⟨[(f,.ref l)],Ws Zg (nR X),λg=>?_⟩
    by_cases eg:g=f
    ·subst eg
     refine .inr ⟨.nums ns,.ref l,by simp[List.lookup],by simp[List.lookup],l,rfl,.inl (.inl (Ws ?_ (nR p))),?_⟩
     ·rw[Zc (AO u),Zc M,Zg]
     ·exact DX (U5 (by have:=hs.1;lia))
    ·have e':(g==f)=false:=by simpa using eg
     exact .inl ⟨by simp[List.lookup,e'],by simp[List.lookup,e']⟩
  ·cases hG
 ·cases hG
end
theorem ey{K:Frag}{A:AS}(h:LU K H dct fl)(n:Fu H0 H dct)(t:∀ b,H0 b=none->A b=false):LU K (av H A) dct fl:=by
 cases dct with
 | none=>exact h
 | some dx =>
  obtain⟨j,e1,e2⟩:=h;refine⟨j,Ws e1 (t _ (n dx rfl).1),λf=>(e2 f).imp id λ⟨d,v,a,b,c⟩=>⟨d,v,a,b,?_⟩⟩;cases d with
  | int i=>exact c
  | nums is =>
   obtain⟨r,z1,z2,W⟩:=c;subst z1;have hn:=t _ (((n dx rfl).2 j f r e1 b).1);refine⟨r,rfl,?_,W⟩;rcases z2 with(z | ⟨o,z⟩) | z
   ·exact .inl (.inl (Ws z hn))
   ·exact .inl (.inr ⟨o,Ws z hn⟩)
   ·exact .inr z
def Ix(F:Z Dat->Rs):Z Dat->Rs:=λds=>match F ds with
 | .ok d=>if RQ d=true then .ok d else .no
 | r=>r
section
variable{X:Cx}{F:Z Dat->Rs}{x:Str}{e:C3}
theorem gr(C:MG X.prog X.w X.K X.mg X.base k x ps fr F pl)(hr:G2 k X.A)(ha:O1 true X (e::es) fs)(hg:Gl X x:=by rfl)
  (P:C2 x:=by decide) (he:Z0 X.env e es:=by rfl) (ac:Z1 pos X.env es:=by rfl) (hp:X.pl=true->pl=true:=by first | exactλ_=>rfl | exactλz=>nomatch z) :
  PE X (.Call (.Name x p) (e::es) [] pos) (QT X fr (Ix F) fs):=by
 obtain⟨f,fd,i,hm,Y,hb⟩:=C.ex;intro aa s σ H Q I ⟨env,B,A,ds,kk,e1,q⟩;refine CN (V8 I hg hm ?_ P);refine GA (h₀:=X.base) I.ok.mod.kin Y (Wo (ha pos aa s σ H (λvs H1=>Zp H H1/\Wf X.K H1 ds vs) I ⟨env,B,A,ds,kk,e1,λvs H1 s1 rs=>⟨s1,rs.full⟩⟩) λus s1 ⟨vs,H1,I1,r,sm,rs⟩=>⟨I1.kIn,?_⟩) he ac;have ag:F ds≠.no:=λz=>by unfold Ix at q;rw[z] at q;exact q
 have hl:us.length=ps.length:=by rw[← r.length,Zw rs];exact C.len ds ag
 let E:XK:=λcls dct H'=>∃ c fl C,F ds=.exc c fl/\cls=.ref C/\Yy X.K c C/\Zp H1 H'/\LU X.K H' dct fl
 refine FK (EG (i.run X.A X.stack s1 H1 ⟨us,[]⟩ us vs Q E hr I1.env0 (by simpa using hb s1 us I1.kIn (by simpa using hl)) r ⟨by rw[Zw rs];exact C.len ds ag,ds,no,(λa h=>by cases h),by rw[SV];exact rs,?_⟩) λl s' hq=>?_)
 ·unfold RB
  split
  ·rename_i d hd
   unfold Ix at q;rw[hd] at q;dsimp only at q;split at q
   ·rename_i d' hq
    split at hq
    ·rename_i D
     cases hq;exactλv H' s2 r2 _=>q v H' (sm.trans s2) (by rw[SV] at r2;exact Rp.pure (kk.mu.mono (sm.trans s2)) D r2)
    ·cases hq
   ·rename_i hq
    split at hq<;>cases hq
   ·exact q.elim
  ·rename_i c fl hd
   exactλC dct H' s2 hc hf=>⟨c,fl,C,hd,rfl,hc,s2,by rw[SV] at hf;exact hf⟩
  ·rename_i hd
   exact ag hd
 ·cases l with
  | error ev =>
   obtain⟨ex,C,dct,T,H',c2,rfl,ho,m,un,hok,h1,h2,h3,h4,ht,af,ae,c,fl,g,M,n,hc,j,hf⟩:=hq;cases n;unfold Ix at q;rw[M] at q;have I2:C' X aa σ H' s':=I1.call' (ch:=[]) ho un hok m (λb z=>absurd z (by simp));have sz:X.s₀.heap.objs.size<=s1.heap.objs.size:=I1.sz;have np:∀ {a:A2},s1.heap.objs.size<=a->∀ p∈X.pn++aa,p.1≠a:=λ{a} ha p hp z=>by
    have:=(I1.pin p hp).1;rw[z] at this;exact absurd (AN this) (FB.mpr ha)
   have t:∀ b,H1 b=none->A b=false:=λb z=>by
    cases y:A b with
    | false=>rfl
    | true=>obtain⟨o,ho⟩:=(kk.mu.mono sm b y).some;rw[z] at ho;cases ho
   exact q A H' σ (G0.same (sm.trans j)) (kk.mono (sm.trans j)) rfl aa s' ex C dct I2 hc ⟨BC sz h1,h3,.inr ⟨T,c2,BC sz h2,h4,np h2,ht,af.x hp⟩,np h1⟩ (ey hf ae t) (ae.mono λb z=>kk.h0.none (sm.none z))
  | ok fl =>
   cases fl with
   | ret u=>exact I1.after hq
   | next=>exact False.elim hq
   | brk=>exact False.elim hq
   | cont=>exact False.elim hq
end
variable{x:Str}
theorem G1.make(r:G1 (k+1) A)(C:A2)(us:Z A1)(kw:Z (Str×A1)):G1 k (A.under (.builtin "type.__call__" ⟨.ref C::us,kw⟩)) :=
 ⟨by have:=r.dp;rw[Pw];lia,by have:=r.un;rw[F6];lia,r.gd⟩
abbrev Cx.inR(X:Cx)(pn:IA)(e:A2):Cx:={ X with A:=X.A.mark (some (.ref e)),calm:=false,pn:=pn }
theorem dh{X:Cx}(j:X.stack=X.env::X.outer/\X.env.frame=some X.env.locals)(hm:(e,oe)∈pn)(hd:oe.data=.fields ve)(h2:ve[2]?=some .none):QM (X.inR pn e):=λaa σ H s I=>by
 obtain⟨a,b,c,d,_⟩:=I.pin (e,oe) (CI _ hm);refine .inr ⟨e,oe,ve,rfl,a,hd,h2,b,λz=>?_⟩;have z:e∈Eu X.stack:=z;rw[j.1] at z;unfold Eu at z;rw[EL,j.2] at z;rcases AZ.mp z with z | z
 ·exact c z
 ·exact d z
section
variable{X:Cx}{e:C3}{aR:Pos}{n:Nat}{c:Str}
theorem iO{A:AS}(M:XMakeN X.prog X.w X.K X.mg X.base k c n G)(hr:G1 (k+1) X.A)(hh:SH X)
  (I:C' X aa σ H s) (kk:F' X.K B A H σ env) (r:Y0 vs us) (rs:Wf X.K (av H A) ds vs) (hG:G ds=some fl) {C fI D:A2} (S:Yy X.K c C) (hx:R5 X.K C fI D=true) {fd:C5} {ps:Z Str} (af:isFn X.K (.ref fI)=true) (F:LD X.prog X.w X.K X.mg X.base Et k fI fd ps (NJ X.K C n G)) (hb:M5 X.K fd ps []) :
  wpAny (model X.prog X.w) X.A (call (.ref C) us) (λv s'=>∃ ex t dct H',v=.ref ex/\s'.heap.get? ex=some { cls:=.ref C,dict:=dct,data:=.fields #[.ref t,.none,.none,.none,.bool false,.none] }/\C' X aa σ H' s'/\Zp H H'/\X.s₀.heap.objs.size<=ex/\H' ex=none/\(∀ p∈X.pn++aa,p.1≠ex)/\LU X.K (av H' A) dct fl/\s.heap.objs.size<=ex/\Fu B.H₀ H' dct) E s:=by
 obtain⟨nm,qn,N,bs,sn,sub,ab,col,dd,k0,k1,k2,k3,k5,mN,hC,hN,hi,T⟩:=Xx I.kIn hx;have f:∃ y,s.heap.get? fI=some y/\y.cls=.type "function" := by
  have:=DO.mp af;obtain⟨y,h1,h2⟩:=Option.map_eq_some_iff.mp this;exact⟨y,I.kIn _ _ h1,h2⟩
 obtain⟨y,f,R⟩:=f;have J:us.length<=sizeLine:=by
  have h1:=r.length;have h2:=Zw rs;have h3:=M.len ds fl hG;have h4:=M.few;exact DX (U5 (by lia))
 obtain⟨hp,g,d,tk,os⟩:=s;refine Xd (hrest:=J) EI (by decide) EI T hC hN hi f R λh' ex m hm=>?_
 obtain⟨t0,P,_,_⟩:=hm.there;have i:H ex=none:=I.hok.fresh m;have I2:C' X aa σ (Yr H ex (.ext (G4 ex C none))) ⟨h',g,d,tk,os⟩:=I.laid (h':=h') (t':=tk) (a:=ex) (o:=.ext (G4 ex C none)) hm.keeps m (VC ⟨t0,P⟩);have x:A ex=false:=by
  cases z:A ex with
  | false=>rfl
  | true=>obtain⟨o,ho⟩:=(kk.mu ex z).some;rw[i] at ho;cases ho
 have h:Zp H (Yr H ex (.ext (G4 ex C none))):=R6 i;let Q':VK:=λv H'=>v=.non/\∃ dct,(∀ c o,c≠ex->Yr H ex (.ext (G4 ex C none)) c=some o->H' c=some o)/\H' ex=some (.ext (G4 ex C dct))/\LU X.K (av H' A) dct fl/\Fu (Yr H ex (.ext (G4 ex C none))) H' dct
 have j:NJ X.K C n G (.ref ex::vs) (Yr H ex (.ext (G4 ex C none))) Q' E0:=⟨ex,vs,ds,A,fl,rfl,by rw[Zw rs];exact M.len ds fl hG,Zg,kk.mu.mono h,x,rs.mono (Wv h),hG,λH' dct h1 h2 h3 h4=>⟨rfl,dct,h1,h2,h3,h4⟩⟩;have W:(Value.ref ex::us).length=ps.length:=by
  have e1:=F.len _ _ _ _ j;have e2:=r.length;rw[BH] at e1 ⊢;lia
 refine FK (EG (F.run _ X.stack ⟨h',g,d,tk,os⟩ _ ⟨Value.ref ex::us,[]⟩ (Value.ref ex::us) (V.ref ex::vs) Q' E0 (hr.make C us []) (hh _ _ _ _ I2) (I2.env0.make C us []) (by simpa using hb _ (Value.ref ex::us) I2.kIn (by simpa using W)) (.cons rfl r) j) λl s' hq=>?_);cases l with
 | error e=>exact False.elim hq
 | ok aq =>
  cases aq with
  | ret u =>
   obtain⟨v,H',I3,rv,ev,dct,h1,h2,h3,h4⟩:=I2.after hq;subst ev;have eu:u=.none:=rv;subst eu;refine⟨rfl,?_⟩;obtain⟨⟨t1,ag⟩,_,_⟩:=(show Yl X.prog X.w H' s'.heap ex (.ext (G4 ex C dct)) from I3.hok ex _ h2);have I4:=I3.drop h2;have sm:Zp H (MP H' ex):=λb o q=>by
    have hb:b≠ex:=λz=>by rw[z,i] at q;cases q
    rw[Dq hb];exact h1 b o hb (by rw[Zc hb];exact q)
   refine⟨ex,t1,dct,MP H' ex,rfl,ag,I4,sm,BC I.sz m,K4,λp hp z=>?_,?_,m,ZM h4 ⟨_,h2⟩ kk.h0⟩
   ·have:=(I.pin p hp).1
    rw[z] at this;exact absurd (AN this) (FB.mpr m)
   ·exact h3.of_ne (e:=ex) (Ws h2 x) λc o hc q=>Ws (by rw[Dq hc];exact(Q1 q).2) (Q1 q).1
  | next=>exact False.elim hq
  | brk=>exact False.elim hq
  | cont=>exact False.elim hq
theorem Z'(M:XMakeN X.prog X.w X.K X.mg X.base k c n G)(hr:G1 (k+1) X.A)(hh:QM X)(ha:O1 false X (e::es) fs)(hn:X.A.handled≠none)(d:X.pl=false:=by rfl)(j:X.stack=X.env::X.outer:=by rfl)(hg:Gl X c:=by rfl)(P:C2 c:=by decide)
  (he:Z0 X.env e es:=by rfl) (ac:Z1 al X.env es:=by rfl) {kn:Nat}:En fr X (.Raise (some (.Call (.Name c p) (e::es) [] al)) (some (.Constant .none kn aR)) pos) (Vy c G fs):=by
 intro aa s σ H D I ⟨env,B,A,kk,l,q⟩;obtain⟨C,fI,D',fd,ps,S,hm,Q,hx,xc,af,F,hb⟩:=M.ex;unfold Vy at q;split at q
 ·exact q.elim
 rename_i fl aj;obtain⟨ds,e1,hG⟩:=bind_some aj;obtain⟨nm,qn,N,bs,sn,sub,ab,col,dd,k0,k1,k2,k3,k5,mN,hC,hN,hi,T⟩:=Xx I.kIn hx;obtain⟨h,J⟩:∃ h,X.A.handled=some (.ref h):=by
  rcases hh _ _ _ _ I with z | ⟨h,_,_,z,_⟩
  ·exact absurd z hn
  ·exact⟨h,z⟩
 have ah:wpAny (model X.prog X.w) X.A (eval (.Call (.Name c p) (e::es) [] al) X.env) (λv s'=>∃ ex t dct H',v=.ref ex/\s'.heap.get? ex=some { cls:=.ref C,dict:=dct,data:=.fields #[.ref t,.none,.none,.none,.bool false,.none] }/\C' X aa σ H' s'/\Zp H H'/\X.s₀.heap.objs.size<=ex/\H' ex=none/\(∀ p∈X.pn++aa,p.1≠ex)/\LU X.K (av H' A) dct fl/\h≠ex/\Fu B.H₀ H' dct) X.xe s:=by
  refine CN (V8 I hg hm ?_ P);refine callWith_K (h₀:=X.base) I.ok.mod.kin Q (Wo (ha al aa s σ H (λvs H1=>Zp H H1/\Wf X.K (av H1 A) ds vs) I ⟨env,B,A,ds,kk,e1,λvs H1 s1 rs=>⟨s1,rs.rps⟩⟩) λus s1 ⟨vs,H1,I1,r,sm,rs⟩=>⟨I1.kIn,?_⟩) he ac;refine BO (iO (E:=X.xe) M hr hh.c I1 (kk.mono sm) r rs hG S hx af F hb) (λv s' ⟨ex,t,dct,H',z1,z2,W,z4,z5,z6,z7,z8,z9,am⟩=>⟨ex,t,dct,H',z1,z2,W,sm.trans z4,z5,z6,z7,z8,λz=>?_,am⟩) λ_ _ z=>z
  rcases hh _ _ _ _ I1 with y | ⟨h',_,_,y,y1,_⟩
  ·exact hn y
  ·rw[J] at y
   cases y;have:=AN y1;rw[z] at this;exact absurd this (FB.mpr z9)
 obtain⟨o,lk⟩:∃ o,X.K.lookup C=some o:=by
  unfold R5 at hx;split at hx
  ·rename_i ho;exact⟨_,ho⟩
  ·cases hx
 have e2:=(I.kIn _ _ lk).symm.trans hC;cases e2;rw[KL];refine AA (DL (kB (C:=C) (nm:=nm) (q:=qn) (N:=N) (bs:=bs) (bm:=.ref D'::Qe) (hdct:=true) (sn:=sn) (sub:=sub) (ab:=ab) (col:=col) (dd:=dd) (k0:=k0) (k1:=k1) (k2:=k2) (k3:=k3) (k5:=k5) (newId:="ValueError.__new__") (by simp[Qe]) J (AA (BO ah (λv s₃ h₃=>AA (DL (AC ?_))) λ_ _ x=>x))));obtain⟨ex,t,dct,H',rfl,hex,I3,sm,lo,un,pe,hf,ag,ae⟩:=h₃;obtain⟨i,vh,a,ak,ao⟩:∃ i vh,s₃.heap.get? h=some i/\i.data=.fields vh/\vh[2]?=some .none:=by
  rcases hh _ _ _ _ I3 with y | ⟨h',i,vh,y,y1,y2,y3,_⟩
  ·exact absurd y hn
  ·rw[J] at y
   cases y;exact⟨i,vh,y1,y2,y3⟩
 have nloc:ex≠X.env.locals/\∀ y c,X.env.cells.lookup y=some c->c≠ex:=by
  refine⟨λz=>?_,λy c hc z=>?_⟩
  ·obtain⟨m,⟨o',es,ep,f,u,_⟩,_⟩:=I3.loc
   rw[z,f] at hex;cases hex;cases u
  ·obtain⟨v,o',f,u⟩:=I3.cell y c hc
   rw[z,hex] at f;cases f;cases u
 refine⟨ex,.ref t,dct,rfl,I3.kIn _ _ lk,hex,ag,⟨i,vh,a,ak,ao⟩,AA (wpAny_Constant_none (AA (DL (AC ⟨rfl,rfl,λh' Y ai hz=>?_⟩))))⟩;have g:∀ b∈Eu (X.env::X.outer),H' b=none:=by rw[← j];exact I3.stkFree
 have kp:Aa (X.env::X.outer) [ex] s₃.heap h':=Aa.of λb o hb hc=>(Y b (by simpa using hc)).trans hb
 have R:∀ b∈[ex],b=ex:=λb hb=>AJ.mp hb
 have I4:C' X aa σ H' { s₃ with heap:=h' }:=I3.call' (s':={ s₃ with heap:=h' }) (ch:=[ex]) rfl (by rw[j];exact YH kp λb hb=>by rw[R b hb];exact un) (Kr I3.hok kp (λb hb=>by rw[R b hb];exact un) g) I3.bare λb hb=>by rw[R b hb];exact⟨.inr lo,nloc.1,nloc.2,pe⟩
 exact q A H' σ (G0.same sm) (kk.mono sm) aa { s₃ with heap:=h' } ex C dct I4 S ⟨lo,un,.inl ⟨_,_,ai,rfl,rfl,rfl,rfl,.inr ⟨d,.inr ⟨h,rfl,J⟩⟩⟩,pe⟩ hf ae
end
def PV(K:Frag)(mg:J')(T:Str)(known:Z Str):Prop:=∃ D,mg T=some (.ref D)/\∀ c C,c∈known->Yy K c C->exmOne K (.ref C) (.ref D)=some (decide (c=T))
def SJ(known:Z Str)(T1 T2:Str)(g k1 k2:Ev->Fl):Ev->Fl:=NB g λenv' c fl=>if c∈known then(if c=T1 then k1 env' else if c=T2 then k2 env' else .no) else .no
theorem C'.ofR{X:Cx}(ok:X.Ok)(hs:∀ p∈X.pn++aa,p∈pn)(I:C' (X.inR pn e) aA σ H s):C' X aa σ H s :=
 ⟨ok,I.os,I.bare,I.base,I.loc,I.cell,I.free,I.freeC,λp hp=>I.pin p (CI _ (hs p hp)),I.hok,I.len⟩
theorem SP.ofR{X:Cx}{D:KX}{f:Flow}(ok:X.Ok)(hs:∀ p∈X.pn++aa,p∈pn)(h:SP (X.inR pn e) [] D f s):SP X aa D f s:=by
 cases f with
 | next=>obtain⟨σ',H',I,q⟩:=h;exact⟨σ',H',I.ofR ok hs,q⟩
 | brk=>obtain⟨σ',H',I,q⟩:=h;exact⟨σ',H',I.ofR ok hs,q⟩
 | cont=>obtain⟨σ',H',I,q⟩:=h;exact⟨σ',H',I.ofR ok hs,q⟩
 | ret u=>obtain⟨v,σ',H',I,r,q⟩:=h;exact⟨v,σ',H',I.ofR ok hs,r,q⟩
theorem fK{o:Obj}{u:HO}(h:Fu H0 H dct)(he:H e=none):Fu H0 (Yr H e (.frz o u)) dct:=λdx G=>⟨(h dx G).1,λj f a q l=>by
 have hd:dx≠e:=λz=>by rw[z,Zg] at q;cases q
 rw[Zc hd] at q;obtain⟨h1,xs,h2⟩:=(h dx G).2 j f a q l;exact⟨h1,xs,R6 he _ _ h2⟩⟩
section
variable{X:Cx}{known:Z Str}
theorem Ld.suite{n:Ev->Fl}{t:AS}{D:KX}(Lq_:Ld X aa σ1 H1 s1 e C T' dct c2)(hp:∀ e,PassesOwnAt (model X.prog X.w) (X.A.mark (some (.ref e))) X.A X.env X.xe)
  (hh:∀ pn oe ve,(e,oe)∈pn->oe.data=.fields ve->ve[2]?=c2->Xs fr (X.inR pn e) (b1::aH) n) (h:F' X.K B t H1 σ1 env') (l:B.st=true) (q2:K5 fr X B t H1 D (n env')) (hx:c2=some .none\/∀ a b c,n env'≠.exc a b c) (j:X.stack=X.env::X.outer/\X.env.frame=some X.env.locals) :
  codeAny (model X.prog X.w) (X.A.mark (some (.ref e))) (.handlers (.ref e) [.ExceptHandler none none (b1::aH) aE] X.env) (λr s₂=>match r with
   | .ok f=>SP X aa D f s₂
   | .error x=>cameBackBy (model X.prog X.w) X.A X.env X.xe x s₂) s1:=by
 refine codeAny_handlers_suite (Lq_.land j.1 λG L3=>?_);obtain⟨m,s,_,_,e1,e2,e3,e4,_⟩:=id L3.tr;have I:s[2]?=c2:=(JA e2).2;have el:=L3.J.nloc e1 e4;have q:e∉X.fs:=λz=>by
  obtain⟨_,o,ho,k⟩:=L3.ff.mem (show e∈(X.env::X.outer).filterMap (·.frame) from by
   rw[EL,j.2];exact AV _ z)
  have ho:G.heap.get? e=some o:=ho;rw[e1] at ho;cases ho;exact k s e4
 have hs:∀ p∈X.pn++aa,p∈X.pn++aa++[(e,m)]:=λp hp=>CI _ hp
 have hm:(e,m)∈X.pn++aa++[(e,m)]:=CB _ (AJ.mpr rfl);have g:=L3.J;have J4:C' (X.inR (X.pn++aa++[(e,m)]) e) [] σ1 H1 G :=
  ⟨⟨g.ok.mod,g.ok.kind,g.ok.glob,g.ok.blt,g.ok.above,g.ok.inj,g.ok.has,g.ok.cab,(λz=>nomatch z),g.ok.frames,g.ok.stk,g.ok.exf,g.ok.bs,g.ok.bsz,g.ok.noex,g.ok.exfs,g.ok.funs,g.ok.frf⟩,g.os,g.bare,g.base,g.loc,g.cell,g.free,g.freeC,λp hp=>by
   rw[GM] at hp;rcases BV.mp hp with hp | hp
   ·exact g.pin p hp
   ·rw[AJ.mp hp]
    exact⟨e1,Lq_.un,el.1,q,λv z=>by rw[e4] at z;cases z⟩,g.hok,g.len⟩
 have u:K5 fr (X.inR (X.pn++aa++[(e,m)]) e) B t H1 D (n env'):=by
  cases F:n env' with
  | exc e' c' f' =>
   rw[F] at q2;rcases hx with hx | hx
   case inr=>exact absurd F (hx e' c' f')
   intro A' H' σ' s' k' i s5 e5 Y d5 I5 E N H M;obtain⟨p1,p2,Q,S,_⟩:=I5.pin (e,m) (CI _ hm);have sm:Zp H' (Yr H' e (.frz m (.own 0))):=R6 p2;have I6:C' X aa σ' (Yr H' e (.frz m (.own 0))) s5:=(I5.ofR g.ok hs).track p2 Lq_.lo el.1 el.2 Lq_.pe ⟨p1,_,p1⟩;have ne:∀ {a:A2},(∀ p∈(X.inR (X.pn++aa++[(e,m)]) e).pn++i,p.1≠a)->a≠e:=λ{a} z y=>z (e,m) (CI _ hm) y.symm
   have R:∀ {c:C1 A1},Hh (X.inR (X.pn++aa++[(e,m)]) e) H' c->Hh X (Yr H' e (.frz m (.own 0))) c:=λ{c} z=>z.imp id λ⟨z1,z2⟩=>⟨z1,.inl (z2.elim (λz=>z.mono sm) λzz=>by
    obtain⟨a,W,z4⟩:=zz;have z4:some (Value.ref e)=some (Value.ref a):=z4;cases z4;exact .inr ⟨e,m,s,W,Zg,e4,I.trans hx⟩)⟩
   exact q2 A' _ σ' (s'.trans (G0.same sm)) (k'.mono sm) aa s5 e5 Y d5 I6 E ⟨N.lo,by rw[Zc (ne N.pe)];exact N.un,N.ob.imp (λ⟨o,vs,a1,a2,a3,a4,a5,a6⟩=>⟨o,vs,a1,a2,a3,a4,a5,R a6⟩) λ⟨T,c2,a1,a2,a3,a4,a5⟩=>⟨T,c2,a1,by rw[Zc (ne a3)];exact a2,λp hp=>a3 p (CI _ (hs p hp)),a4,R a5⟩,λp hp=>N.pe p (CI _ (hs p hp))⟩ (H.mono (Wv sm)) (fK M p2)
  | next e'=>rw[F] at q2;exact q2
  | brk e'=>rw[F] at q2;exact q2
  | cont e'=>rw[F] at q2;exact q2
  | ret d=>rw[F] at q2;exact q2
  | no=>rw[F] at q2;exact q2
 exact BO (hh _ m s hm e4 I [] _ _ _ _ J4 ⟨_,B,t,h,l,u⟩) (λf s6 P=>P.ofR g.ok hs) (λev s6 z=>hp e ev s6 z)
theorem Ld.looks(Lq_:Ld X aa σ1 H1 s1 e C T' dct c2):Looks (model X.prog X.w) s1.heap (typeOf (.ref e)) (.ref C):=by
 obtain⟨oe,ve,oT,ts,g1,g2,_⟩:=Lq_.tr;exact(JA g2).1▸(Looks.ld g1).andThen .now
theorem oR(hp:∀ e,PassesOwnAt (model X.prog X.w) (X.A.mark (some (.ref e))) X.A X.env X.xe)(hb:∀ pn E,Xs fr ((X.inTry pn E).pls true) body g)
  (h1:∀ pn e,QM (X.inR pn e)->Xs fr (X.inR pn e) (b1::aH) k1) (k:∀ pn e,QM (X.inR pn e)->Xs fr (X.inR pn e) (b2::aQ) k2) (c1:PV X.K X.mg T1 known) (c2:PV X.K X.mg T2 known)
  (a:Gl X T1:=by rfl) (d:C2 T1:=by decide) (ak:Gl X T2:=by rfl) (i:C2 T2:=by decide)
  (j:X.stack=X.env::X.outer/\X.env.frame=some X.env.locals:=by exact⟨rfl,rfl⟩) :
  En fr X (.Try body [.ExceptHandler (some (.Name T1 aP)) none (b1::aH) aE,.ExceptHandler (some (.Name T2 aV)) none (b2::aQ) aW] [] [] pos) (SJ known T1 T2 g k1 k2):=by
 obtain⟨m,m1,x1⟩:=c1;obtain⟨D2,m2,x2⟩:=c2;refine XR (b:=true) hb (λaa D B A H env' c fl t H1 σ1 s1 e C T' dct c2 ag h l S Q Lq_ r q=>?_) j;split at q
 case isFalse=>exact q.elim
 rename_i f;have hn:=r.no rfl;have e1:=x1 c C f S;have e2:=x2 c C f S;refine GY (GI (V8 (Lq_.J.toH (e:=e)) a m1 ?_ d)) (by intro z;cases z);by_cases z1:c=T1
 ·rw[AK z1] at e1
  rw[AF z1] at q;exact(exm_one (M:=model X.prog X.w) Lq_.J.kIn Lq_.looks e1).here (Lq_.suite hp (λpn oe ve hm h3 h4=>h1 pn e (dh j hm h3 (h4.trans hn))) h l (q.step ag) (.inl hn) j)
 ·rw[AH z1] at e1
  rw[AL z1] at q;refine(exm_one (M:=model X.prog X.w) Lq_.J.kIn Lq_.looks e1).here ?_;show wpAny _ _ _ _ _ _;refine GY (GI (V8 (Lq_.J.toH (e:=e)) ak m2 ?_ i)) (by intro z;cases z);by_cases z2:c=T2
  ·rw[AK z2] at e2
   rw[AF z2] at q;exact(exm_one (M:=model X.prog X.w) Lq_.J.kIn Lq_.looks e2).here (Lq_.suite hp (λpn oe ve hm h3 h4=>k pn e (dh j hm h3 (h4.trans hn))) h l (q.step ag) (.inl hn) j)
  ·rw[AL z2] at q
   exact q.elim
end
variable{e:C3}{suite:Z C4}
theorem gt{P:Df}{K:Frag}{N:Z Str}{f:A2}{E:XK}(e:A2) :
  PassesOwnAt (model P w) ((NP P w K mg base N ai scope f cd A outer s H E).A.mark (some (.ref e))) (NP P w K mg base N ai scope f cd A outer s H E).A (NP P w K mg base N ai scope f cd A outer s H E).env (NP P w K mg base N ai scope f cd A outer s H E).xe :=
 cS (X:=T6 (MC P w base) P w K mg base N ai scope f cd A outer s H E) rfl ⟨rfl,rfl⟩
theorem io{K:Frag}{D:A2}(hm:mg T=some (.ref D))(h:∀ c∈ao,∃ C,Yy K c C/\exmOne K (.ref C) (.ref D)=some (decide (c=T))):PV K mg T ao:=by
 refine⟨D,hm,λc C hc hb=>?_⟩;obtain⟨g,h1,h2⟩:=h c hc;unfold Yy at hb h1;rw[hb] at h1;cases h1;exact h2
theorem G1.mark{v:C1 A1}(r:G1 k A):G1 k (A.mark v):=⟨r.dp,r.un,r.gd⟩
def SO(K:Frag)(mg:J')(T:Str)(known:Z Str)(b:Str->Bool):Prop:=∃ D,mg T=some (.ref D)/\∀ c C,c∈known->Yy K c C->exmOne K (.ref C) (.ref D)=some (b c)
def TZ(known:Z Str)(b1:Str->Bool)(g k1:Ev->Fl):Ev->Fl:=NB g λenv' c fl=>if c∈known then(if b1 c=true then ba (k1 env') else .no) else .no
theorem eU{X:Cx}{A:AS}{D:KX}(q:K5 fr X B A H D (ba r)):K5 fr X B A H D r/\∀ a b c,r≠.exc a b c:=by
 cases r with
 | exc _ _ _=>exact q.elim
 | next e=>exact⟨q,λ_ _ _ z=>nomatch z⟩
 | brk e=>exact⟨q,λ_ _ _ z=>nomatch z⟩
 | cont e=>exact⟨q,λ_ _ _ z=>nomatch z⟩
 | ret d=>exact⟨q,λ_ _ _ z=>nomatch z⟩
 | no=>exact q.elim
section
variable{X:Cx}{known:Z Str}{b1' b2':Str->Bool}
theorem pL(hp:∀ e,PassesOwnAt (model X.prog X.w) (X.A.mark (some (.ref e))) X.A X.env X.xe)(hb:∀ pn E,Xs fr (X.inTry pn E) body g)
  (h1:∀ pn e,Xs fr (X.inR pn e) (b1::aH) k1) (c1:SO X.K X.mg T1 known b1')
  (a:Gl X T1:=by rfl) (d:C2 T1:=by decide)
  (j:X.stack=X.env::X.outer/\X.env.frame=some X.env.locals:=by exact⟨rfl,rfl⟩) :
  En fr X (.Try body [.ExceptHandler (some (.Name T1 aP)) none (b1::aH) aE] [] [] pos) (TZ known b1' g k1):=by
 obtain⟨m,m1,x1⟩:=c1;refine XR (b:=X.pl) hb (λaa D B A H env' c fl t H1 σ1 s1 e C T' dct c2 ag h l S Q Lq_ r q=>?_) j;split at q
 case isFalse=>exact q.elim
 rename_i f;have e1:=x1 c C f S;refine GY (GI (V8 (Lq_.J.toH (e:=e)) a m1 ?_ d)) (by intro z;cases z);cases z1:b1' c with
 | true =>
  rw[z1] at e1 q;exact(exm_one (M:=model X.prog X.w) Lq_.J.kIn Lq_.looks e1).here (Lq_.suite hp (λpn oe ve _ _ _=>h1 pn e) h l ((eU q).1.step ag) (.inr (eU q).2) j)
 | false=>rw[z1] at q;exact q.elim
end
theorem nz{K:Frag}{D:A2}{b:Str->Bool}(hm:mg T=some (.ref D))(h:∀ c∈ao,∃ C,Yy K c C/\exmOne K (.ref C) (.ref D)=some (b c)):SO K mg T ao b:=by
 refine⟨D,hm,λc C hc hb=>?_⟩;obtain⟨g,h1,h2⟩:=h c hc;unfold Yy at hb h1;rw[hb] at h1;cases h1;exact h2
def DD(K:Frag)(n:Str)(st:C4):Prop:=∃ f oc od kV dc pm an cd ct sl,nsIn K mainGlobals n=some (some (.ref f))/\K.lookup f=some ⟨oc,od,.func (fnOf n n (Vc st) (Yb st) (Z7 st) .none kV dc pm an cd ct),sl⟩/\codeIn K cd n=true/\keepIn K (.ref f)=true
theorem qI{K:Frag}{n:Str}{st:C4}{f:A2}{kV:A1}{sl:Array (C1 A1)}(h1:nsIn K mainGlobals n=some (some (.ref f)))(h2:K.lookup f=some ⟨oc,od,.func (fnOf n n (Vc st) (Yb st) (Z7 st) .none kV dc pm an cd ct),sl⟩)(h3:codeIn K cd n=true)(h4:keepIn K (.ref f)=true):DD K n st:=⟨f,oc,od,kV,dc,pm,an,cd,ct,sl,h1,h2,h3,h4⟩
theorem fZ{K:Frag}{h:Ff}(X:K.In h)(G:h.Ns mainGlobals mg){n:Str}{st:C4}(d:DD K n st):NZ K mg n st:=by
 obtain⟨f,oc,od,kV,dc,pm,an,cd,ct,sl,h1,h2,h3,h4⟩:=d;exact⟨_,_,WW (st:=st) h2 h3 h4,mg_of X G h1⟩
def CD(K:Frag)(D C:A2)(q:Str)(i:C4):Prop:=∃ J fd,LY K "__init__" q i J fd/\keepIn K (.ref C)=true/\R5 K C J D=true/\I7 K C/\isFn K (.ref J)=true
theorem i0{K:Frag}{D J:A2}{i:C4}{b c d:C1 A2}{qs e:Array (C1 A1)}{f g kV a:A1}{cd:ClassData}(h1:K.lookup C=some ⟨f,b,.cls cd,qs⟩)(h2:nsIn K cd.ns "__init__" = some (some (.ref J)))(h3:K.lookup J=some ⟨g,d,.func (fnOf "__init__" q (Vc i) (Yb i) (Z7 i) .none kV dc pm c a ct),e⟩)(h4:codeIn K a q=true)(h5:keepIn K (.ref J)=true)(l:isFn K (.ref J)=true)(r:keepIn K (.ref C)=true)
  (r1:findIn K (.ref C) "__class__" = some (some (.builtin "object.__class__"))) (r2:findIn K (.ref C) "__getattribute__" = some (some (.builtin "BaseException.__getattribute__"))) (T:findIn K (.ref C) "__getattr__" = some none) (r4:findIn K (.ref C) "__setattr__" = some (some (.builtin "object.__setattr__"))) (x:R5 K C J D=true):CD K D C q i :=
 ⟨_,_,WW h3 h4 h5,r,x,qY x r1 r2 T r4,l⟩
theorem CD.xc{K:Frag}{D:A2}{i:C4}(h:CD K D C q i):I7 K C:=let ⟨_,_,_,_,_,x,_⟩:=h;x
def T8(P:Str->A2->Prop):Z (Str×A2)->Prop
 | []=>True
 | (n,C)::l=>P n C/\T8 P l
theorem T8.n:T8 P []:=trivial
theorem T8.c{n:Str}(h:P n C)(t:T8 P l):T8 P ((n,C)::l):=⟨h,t⟩
theorem T8.get{Q R:Str->A2->Prop}:∀ {l:Z (Str×A2)},T8 P l->T8 Q l->T8 R l->∀ c∈l.map (·.1),∃ C,P c C/\Q c C/\R c C
 | (n,C)::l,p,q,r,c,hc=>by
   rcases AZ.mp hc with e | e
   · subst e
     exact⟨C,p.1,q.1,r.1⟩
   · exact T8.get p.2 q.2 r.2 c e
abbrev YA(K:Frag)(l:Z (Str×A2)):Prop:=T8 (λc C=>nsIn K mainGlobals c=some (some (.ref C))) l
abbrev XA(K:Frag)(l:Z (Str×A2)):Prop:=T8 (λ_ C=>I7 K C) l
abbrev KA(K:Frag)(l:Z (Str×A2))(D:A1)(b:Str->Bool):Prop:=T8 (λc C=>kitOne K (.ref C) D=some (b c)) l
abbrev EA(K:Frag)(l:Z (Str×A2))(D:A2)(b:Str->Bool):Prop:=T8 (λc C=>exmOne K (.ref C) (.ref D)=some (b c)) l
section
variable{K:Frag}{D:A2}{b:Str->Bool}
theorem UC(y:YA K l)(x:XA K l)(t:KA K l (.ref D) λc=>decide (c=T))(hm:mg T=some (.ref D)):OS K mg T (Mh (l.map (·.1)) T):=qT hm λc hc=>let ⟨C,h1,h2,h3⟩:=T8.get y t x c hc;⟨C,h1,h2,h3⟩
theorem qM{T':String}(y:YA K l)(x:XA K l)(t:KA K l (.type T') λ_=>true):WB K mg T T' (B2 (l.map (·.1))):=fq λc hc=>let ⟨C,h1,h2,h3⟩:=T8.get y t x c hc;⟨C,h1,h2,h3⟩
theorem i9(y:YA K l)(t:EA K l D λ_=>true)(hm:mg T=some (.ref D)):UL K mg T (Vd (l.map (·.1))):=gB hm λc hc=>let ⟨C,h1,h2,_⟩:=T8.get y t y c hc;⟨C,h1,h2⟩
theorem cG(y:YA K l)(t:EA K l D λc=>decide (c=T))(hm:mg T=some (.ref D)):PV K mg T (l.map (·.1)):=io hm λc hc=>let ⟨C,h1,h2,_⟩:=T8.get y t y c hc;⟨C,h1,h2⟩
theorem iQ(y:YA K l)(t:EA K l D b)(hm:mg T=some (.ref D)):SO K mg T (l.map (·.1)) b:=nz hm λc hc=>let ⟨C,h1,h2,_⟩:=T8.get y t y c hc;⟨C,h1,h2⟩
abbrev FA(K:Frag)(l:Z (Str×A2))(x:Str):Prop:=T8 (λ_ C=>findIn K (.ref C) x=some none) l
theorem XM(y:YA K l)(z:XA K l)(t:FA K l x):QU K (Vd (l.map (·.1))) x:=ft λc hc=>let ⟨C,h1,h2,h3⟩:=T8.get y z t c hc;⟨C,h1,h2,h3⟩
end
section
variable{X:Cx}
end
section
variable{X:Cx}{n:Str}{sub:Str->Bool}{DT:A2}
end
section
variable{X:Cx}
def VX:Dat->Dat->C1 Dat
 | .tup xs,.tup ys=>(U8 xs).bind λns=>(U8 ys).map λB=>.bl (HT.lexLt ns B)
 | _,_=>none
theorem qS(hu:X.A.units+64<cLine):R0 X (compareOp .Lt) VX:=Sm.weak (iE (by lia)) λv u H Q zz=>by
 obtain⟨A,x,y,d,mu,e,p1,p2,q⟩:=zz;unfold VX at e;split at e
 ·obtain⟨ns,e1,e⟩:=bind_some e
  obtain⟨B,e2,e⟩:=map_some e;subst e;obtain⟨a,vs,z1,z2,W⟩:=p1.tup;obtain⟨b,us,w1,w2,p⟩:=p2.tup;rw[Vg e1] at W;rw[Vg e2] at p;rw[Ys W] at z2;rw[Ys p] at w2;exact⟨a,b,ns,B,z1,w1,z2,w2,q.here Vi⟩
 ·cases e
theorem oX(hc:MU X):V0 X (.builtin "sum") (oK X.K):=by
 intro aa s σ H xs us Q I r h;obtain⟨p,ns,rfl,hq,q⟩:=h;obtain⟨u,rfl,S⟩:=Qf r;cases S;obtain⟨its,r',pl,hz⟩:=I.list hq;have hl:=pl.isList;obtain⟨ys,e1,e2⟩:=Gh r';have a:s.heap.IsList p (intItems ys.toArray):=by
  have:intItems ys.toArray=its.toArray:=by rw[e1];simp[intItems]
  rw[this];exact hl
 obtain⟨hs,g,f⟩:=da (show HdS X.A.in1 s.heap from hc _ _ _ _ I);refine call_sum_walkG (iter_intList a λs₂ e st x c=>?_);subst e;refine⟨_,_,_,_,_,_,numAt ys.toArray,rfl,Walks.listH (A:=X.A.in1) hs g _ p c (λq hq=>BG (AN (f q hq).1)) (intItems ys.toArray),⟨st,λq hq=>AB _ (f q hq).1⟩,λb hb=>?_,(λ_ _=>intItems_at),λh' tk t' Y=>?_⟩
 ·rcases AZ.mp hb with z | hb
  ·exact x b (by rw[z];simp)
  ·rcases AZ.mp hb with z | hb
   ·exact x b (by rw[z];simp)
   ·obtain⟨q,hq,rfl⟩:=CL.mp hb
    exact AR (AN (f q hq).1) (by show _<=(Heap.push _ _).objs.size;rw[EU];exact DH _)
 have e:preSum (numAt ys.toArray) (intItems ys.toArray).size=ns.sum:=by
  have:(intItems ys.toArray).size=ys.toArray.size:=by simp[intItems]
  rw[this,preSum_eq,CG (by simp)];show(List.map (·.1) ys).sum=_;rw[e2]
 rw[e];exact⟨.int _,H,I.kept (h':=h') (t':=tk) (old_kept Y),⟨_,rfl⟩,q⟩
theorem kH(hc:MU X):G9 X (.builtin "sum") YE:=(oX hc).weak λvs H Q zz=>by
 obtain⟨A,ds,d,mu,e,p,q⟩:=zz;unfold YE at e;split at e
 ·obtain⟨v,e1,p1⟩:=p.one
  obtain⟨l,us,e2,h1,r1⟩:=p1.lst;obtain⟨ns,hn,e⟩:=map_some e;subst e;rw[Vg hn] at r1;have eu:=Ys r1;subst eu;exact⟨l,ns,by rw[e1,e2],h1.sq,q.here Yq⟩
 ·cases e
theorem g8{g:Dat->Ev->C1 Ev}(ap:Fn)(fs:Z (C1 Nat))(N:Z Str)(hp:X.env.scope=ap)(hq:MM X)(hi:SZ true false X tg iter src)
 (hb:∀ (C:A2) (s:A4) (H:Hp) (fp:Z A2),NK is (W3 X sc N C s H fp) tg g/\OX (W3 X sc N C s H fp) ay t/\Yz false (W3 X sc N C s H fp) az f)
 (c:∀ i∈is,fs[i]?=some none) (hs:∀ x,foldedSetIterable iter X.env x=pure x:=by intro _;rfl) (S:CompOk ap sc X.N N fs:=by exact CompOk.of (by kernel_rfl!)):MH X (.ListComp az [⟨tg,iter,ay,0⟩] sc pos) (Vn src fs g t f):=cD ap fs N hp (.inr ⟨rfl,hq⟩) hi hb c hs S
end
section
variable{X:Cx}{F:Z Dat->Rs}
theorem ip(C:MI X.prog X.w X.K X.mg X.base k x ps aJ F)(hr:G1 k X.A)(ha:O1 false X (e::es) fs)(hg:Gl X x:=by rfl)
  (P:C2 x:=by decide) (he:Z0 X.env e es:=by rfl) (ac:Z1 pos X.env es:=by rfl) :
  PE X (.Call (.Name x p) (e::es) [] pos) (λσ H Q=>NL X.A H/\∃ env R A d,F' X.K R A H σ env/\Zq F fs env=some d/\T7 false X.K A H d Q):=by
 obtain⟨f,fd,i,hm,Y,hb⟩:=C.ex;intro aa s σ H Q I ⟨hz,env,B,A,d,kk,e1,q⟩;obtain⟨ds,e2,e3⟩:=bind_some e1;have e4:=K3 e3;refine CN (V8 I hg hm ?_ P);refine GA (h₀:=X.base) I.ok.mod.kin Y (Wo (ha pos aa s σ H (λvs H1=>Zp H H1/\Wf X.K (av H1 A) ds vs) I ⟨env,B,A,ds,kk,e2,λvs H1 s1 rs=>⟨s1,rs.rps⟩⟩) λus s1 ⟨vs,H1,I1,r,sm,rs⟩=>⟨I1.kIn,?_⟩) he ac;have hl:us.length=ps.length:=by rw[← r.length,Zw rs];exact C.len ds d e4
 refine FK (EG (i.run X.A X.stack s1 H1 ⟨us,[]⟩ us vs Q E0 hr ((hz.mono sm).k I1.hok) I1.env0 (by simpa using hb s1 us I1.kIn (by simpa using hl)) r ⟨by rw[Zw rs];exact C.len ds d e4,ds,A,d,kk.mu.mono sm,rs,e4,λv H' s r _=>q v H' (sm.trans s) r⟩) λl s' hq=>?_);cases l with
 | error ev=>exact False.elim hq
 | ok fl =>
  cases fl with
  | ret u=>exact I1.after hq
  | next=>exact False.elim hq
  | brk=>exact False.elim hq
  | cont=>exact False.elim hq
theorem fy(i:Nat)(hN:X.N.Nodup)(hi:X.N[i]?=some y)(hx:LZ X.env.scope y)(C:MI X.prog X.w X.K X.mg X.base k x ps aJ F)(hr:G1 k X.A)(ha:O1 false X (e::es) fs)(hg:Gl X x:=by rfl)
  (P:C2 x:=by decide) (he:Z0 X.env e es:=by rfl) (ac:Z1 pos X.env es:=by rfl)
  (hs:swapsWith (.Call (.Name x p) (e::es) [] pos) (some (.Name y am)) aw.line X.env=pure false:=by rfl)
  (hf:X.fn y=true\/X.env.scope.names.lookup y=some .local:=by ext):Sv X [.Assign [.Name y am] (.Call (.Name x p) (e::es) [] pos) aw] (λD σ H=>NL X.A H/\tS fr X (Y2 i (Zq F fs)) D σ H) :=
 Sa ((L0 hN hi hx (ip C hr ha hg P he ac) hs hf).weak λD σ H zz=>by
  obtain⟨hz,env,B,A,k,l,q⟩:=zz;unfold Y2 at q;split at q
  ·rename_i d e
   exact⟨hz,env,B,A,d,k,e,λv H' s r=>q A H' _ (G0.same s) ((k.mono s).put i r)⟩
  ·exact q.elim)
end
section
variable{X:Cx}{n:Str}{sub:Str->Bool}
theorem kl(hb:∀ pn E,Xs fr (X.inTry pn E) body g)(hh:∀ pn e,Sv (X.inH pn e) (b₀::suite) (λD σ H=>NL (X.inH pn e).A H/\tS fr (X.inH pn e) h D σ H))(hC:UL X.K X.mg T sub)(hN:X.N.Nodup)(hi:X.N[i]?=some n)(hx:LZ X.env.scope n)(Y:X.env.kindOf n=some .local:=by rfl)(hg:Gl X T:=by rfl)(P:C2 T:=by decide)
  (j:X.stack=X.env::X.outer/\X.env.frame=some X.env.locals:=by exact⟨rfl,rfl⟩)
  (hf:X.fn n=true\/X.env.scope.names.lookup n=some .local:=by ext) (a:X.calm=true:=by rfl) :
  En fr X (.Try body [.ExceptHandler (some (.Name T np)) (some n) (b₀::suite) aK] [] [] pos) (RW sub i g h):=by
 obtain⟨D,h1,h2⟩:=hC;exact ma hb hh hN hi hx h1 h2 Y hg P j hf a
end
structure Bd where
 P:Program
 w:World
 K:G8
 mg:Str->Option Value
 base:Heap
abbrev Bd.F(b:Bd):=NZ b.K b.mg
abbrev Bd.D(b:Bd):=NN b.P b.w b.K b.mg b.base
abbrev Bd.X(b:Bd)(k:Nat)(x:Str)(ps:Z Str)(fr:Bool)(F:Z Dat->Rs)(pl:Bool:=false):=MG b.P b.w b.K b.mg b.base k x ps fr F pl
abbrev Bd.N(b:Bd):=MI b.P b.w b.K b.mg b.base
abbrev Bd.M(b:Bd):=LJ b.P b.w b.K b.mg b.base
abbrev Bd.R(b:Bd):=XMakeN b.P b.w b.K b.mg b.base
end L2
variable{N:L2.Ev->Prop}{w n y ah:Nat}{X:L2.Cx}{R:L2.Dat->Prop}{g:L2.Dat->L2.Ev->C1 L2.Ev}{F:Z L2.Dat->L2.Rs}{x:L2.Dat}{T:String}{ps ak:Z Nat}{c:PySem.Str}
namespace L2
open PySem PySem.Spec PyProof.Rows
def Zv:=@ZA true
def Z3:=@xv true
def Z4:=@di true
def We:=@oW false
def Va:=@ZA false
def Wa:=@MH.x true
def Q0:=@b9 false
def Zi:=@bR true
def Z5:=@xv false
def Zx{X:Cx}:=@bz X true
def Zn:=@bR false
def Y6:=@di false
def Zo:=@cC false
def Zm:=@cC true
def Zj{X:Cx}:=@bz X false
def Vu:=@MH.x false
def Zz:=@cs false
def J9:=@ee false
def Jk:=@cs true
def Y5:=@RU false
def Th:=@ee true
end L2
namespace K75
open PySem PySem.Spec PyProof.Rows L2
abbrev bQ:Z Str:=["_law_script","_law_n","_law_cell","_law_graph_here","_law_some","_law_name","_law_pairs","_law_got","_law_other"]
abbrev bo:Z Str:=["_law_graph_here","_law_name","_law_got","_law_pairs"]
abbrev bg:Z Str:=["_law_mode","_law_graph_here","_law_name","_law_most"]
abbrev cE:Z Str:=["_law_w","_law_word_here","_law_script","_law_first"]
abbrev bL:Z Str:=["_law_script","_law_first","_law_many","_law_size"]
abbrev J2:Z Str:=["Broken","Crowded","TooMany","CalledOff","Clash"]
abbrev du:Z Str:=["_law_script","_law_first","_law_n","_law_many"]
abbrev eX:Z Str:=["_law_graph_here","_law_name","_law_cell"]
abbrev VN:Z Str:=["graph","name","first","second","most"]
abbrev XN:Z Str:=["_law_k","_law_step","_law_graph_here"]
abbrev NY:Z Str:=["given","made","up","down","start"]
abbrev PK:Z Str:=["place","wire","one","other"]
abbrev ON:Z Str:=["graph","found","at","step"]
abbrev OT:Z Str:=["graph","stand","wire","up"]
abbrev PN:Z Str:=["self","one","other","wire"]
abbrev OU:Z Str:=["number","step","wire","up"]
abbrev OY:Z Str:=["steps","first","second"]
abbrev OM:Z Str:=["self","way","lost","by"]
abbrev O':Z Str:=["graph","stand","wires"]
abbrev NU:Z Str:=["graph","stand","step"]
abbrev OP:Z Str:=["graph","stand","wire"]
abbrev NX:Z Str:=["step","graph","stand"]
abbrev PD:Z Str:=["wires","one","other"]
abbrev NC:Z Str:=["graph","by","lost"]
abbrev LL:Z Str:=["graph","step"]
abbrev LS:Z Str:=["graph","most"]
abbrev M':Z Str:=["_law_script"]
abbrev MS:Z Str:=["self","way"]
abbrev K':Z Str:=["graph"]
def c_LETTERS:Dat:=.str "abcdefghijklmnopqrstuvwxyz"
def c_LONGEST_NAME:Dat:=.int 8
def c_MANY_SPOTS:Dat:=.int 64
def c_MOST_STEPS_AHEAD:Dat:=.int 22
def c_MOST_WIRES_AHEAD:Dat:=.int 9
def c_WORDS:Dat:=.tup [.str "given",.str "made",.str "up",.str "down",.str "start"]
def Lb:Ev->Fl:=(Zf (Qt (G5 (dB (dO PX (dF Vq (O (U 0) Za)) (dC (.int 1)))) (G5 (dB (dO PU (dF Vq (O (U 0) Za)) (dC c_LONGEST_NAME))) (dB (dO ME (U 0) (dC c_WORDS))))) (Yg (dC (.bl false))) Vv)
 (Yg (dF RF (O (dL (Vn (YL (U 0)) [none] (Yd 0) Up (dO ME (U 0) (dC c_LETTERS)))) Za))))
def Us:Z Dat->Rs:=Y9 1 1 Lb
def Cu:Ev->Fl:=(Yg (dL (Vn (Uj (dO Yf (U 0) (dC (.int 0)))) [none,none] (Kp 2 (W0 (Yd 0) (W0 (Yd 1) M9))) Up (U 0))))
def Cr:Z Dat->Rs:=Y9 1 1 Cu
def N4:Ev->Fl:=(Yg (dO Dp (dO Yf (dO Yf (dO Yf (U 0) (dC (.int 0))) (U 1)) (dC (.int 1))) (dC (.str "made"))))
def Uv:Z Dat->Rs:=Y9 2 2 N4
def WJ:Ev->Fl:=(Yg (dL (Vn (Uo (O (dF Vq (O (dO Yf (U 0) (dC (.int 0))) Za)) Za)) [none,some 0] (Yd 0) (dT (Zq Uv (O (U 1) (O (U 0) Za)))) (U 0))))
def WN:Z Dat->Rs:=Y9 1 1 WJ
def Hw:Ev->Fl:=(Yg (dL (Vn (Xt (dO Yf (U 0) (dC (.int 1)))) [none,none,some 1,some 2] (Kp 2 (W0 (Yd 0) (W0 (Yd 1) M9))) (R7 (dB (dO Dp (dO Yf (U 1) (dC (.int 0))) (U 2))) (dB (dO Dp (dO Yf (U 1) (dC (.int 1))) (U 3)))) (U 0))))
def He:Z Dat->Rs:=Y9 3 3 Hw
def Lz:Ev->Fl:=(Yg (dO Yf (dO Yf (dO Yf (U 0) (dC (.int 1))) (U 1)) (dC (.int 0))))
def Tj:Z Dat->Rs:=Y9 2 2 Lz
def Lv:Ev->Fl:=(Yg (dO Yf (dO Yf (dO Yf (U 0) (dC (.int 1))) (U 1)) (dC (.int 1))))
def L7:Z Dat->Rs:=Y9 2 2 Lv
def Hn:Ev->Fl:=(Yg (dO Yf (dO Yf (dO Yf (U 0) (dC (.int 1))) (U 1)) (dC (.int 2))))
def V9:Z Dat->Rs:=Y9 2 2 Hn
def Hl:Ev->Fl:=(Yg (dO Yf (dO Yf (dO Yf (U 0) (dC (.int 1))) (U 1)) (dC (.int 3))))
def Qy:Z Dat->Rs:=Y9 2 2 Hl
def WZ:Ev->Fl:=(Zf (Y2 1 (dC (.int 0)))
 (Zf (Uy (Uj (U 0)) (Yd 2) (Y2 1 (dO PF (U 1) (dO OJ (dC (.int 1)) (U 2)))))
 (Yg (U 1))))
def Mp:Z Dat->Rs:=Y9 3 1 WZ
def Lh:Ev->Fl:=(Yg (dO Dp (dO Fs (dO QK (U 0) (U 1)) (dC (.int 1))) (dC (.int 1))))
def Mz:Z Dat->Rs:=Y9 2 2 Lh
def WA:Ev->Fl:=(Zf (Y2 3 (Zq Mp (O (Zq V9 (O (U 0) (O (U 2) Za))) Za)))
 (Yg (dO Dp (dO Fs (dO Yf (U 1) (dC (.int 0))) (U 3)) (U 3))))
def B1:Z Dat->Rs:=Y9 4 3 WA
def Dy:Ev->Fl:=(Zf (Y2 3 (Zq Tj (O (U 0) (O (U 2) Za))))
 (Zf (Qt (dB (dO Dp (Zq Mz (O (dO Yf (U 1) (dC (.int 1))) (O (U 3) Za))) (Zq L7 (O (U 0) (O (U 2) Za))))) (Vy "Broken" (gW "way") (O (dL (T9 (O (U 2) Za))) Za)) Vv)
 (Zf (Y2 4 (dO Fs (dO Yf (U 1) (dC (.int 0))) (dU VD (Zq Mp (O (Zq V9 (O (U 0) (O (U 2) Za))) Za)))))
 (Zf (Y2 5 (Zq Mp (O (Zq Qy (O (U 0) (O (U 2) Za))) Za)))
 (Zf (Qt (dB (dO Hz (dO Fs (U 4) (U 5)) (dC (.int 0)))) (Vy "Crowded" (gW "way") (O (dL (T9 (O (U 2) Za))) Za)) Vv)
 (Yg (Wk (O (dO PF (U 4) (U 5)) (O (dO UH (dO Yf (U 1) (dC (.int 1))) (dO OJ (dC (.int 1)) (U 3))) Za)))))))))
def Ka:Z Dat->Rs:=Y9 6 3 Dy
def Gx:Ev->Fl:=(Yg (dL (Vn (Uo (O (dF Vq (O (dO Yf (U 0) (dC (.int 1))) Za)) Za)) [none,some 0,some 1] (Yd 0) (dT (Zq B1 (O (U 1) (O (U 2) (O (U 0) Za))))) (U 0))))
def Ru:Z Dat->Rs:=Y9 2 2 Gx
def WS:Ev->Fl:=(Zf (Ex 2 (T9 Za))
 (Zf (Y2 3 (U 1))
 (Zf (D7 (dB (dO XB (dO Yf (dO Yf (U 0) (U 3)) (dC (.int 2))) (dC .non))) (Zf (Sn 2 Ug (O (dO Yf (dO Yf (U 0) (U 3)) (dC (.int 3))) Za))
 (Y2 3 (dO Yf (dO Yf (U 0) (U 3)) (dC (.int 2))))))
 (Yg (dL (RO (O (dP 2) Za)))))))
def Ge:Z Dat->Rs:=Y9 4 2 WS
def Qw:Ev->Fl:=(SJ J2 "Broken" "Crowded" (SD Ka (O (U 0) (O (dS LX (dO Yf (U 1) (U 2)) Jw (Q7 (dC (.int 2)))) (O (U 3) Za)))) (Vy "Broken" (gW "way") (O (dL (dO Xb (Zq Ge (O (U 1) (O (U 2) Za))) (dL (T9 (O (U 3) Za))))) Za)) (Vy "Crowded" (gW "way") (O (dL (dO Xb (Zq Ge (O (U 1) (O (U 2) Za))) (dL (T9 (O (U 3) Za))))) Za)))
def Ec:Z Dat->Rs:=Y9 4 4 Qw
def Xm:Ev->Fl:=(Zf (Ex 2 (T9 (O (Wk (O (dO Yf (U 0) (dC (.int 2))) (O (dO Yf (U 0) (dC (.int 3))) (O (dC .non) (O (dC .non) Za))))) Za)))
 (Zf (QP 3 (Wk (O (dO Yf (U 0) (dC (.int 2))) (O (dO Yf (U 0) (dC (.int 3))) Za))) (dC (.bl true)))
 (Zf (Y2 4 (dC (.int 0)))
 (Zf (D7 (dB (dO PX (U 4) (dF Vq (O (dP 2) Za)))) (Zf (Y2 5 (Zq Ru (O (U 0) (O (dS LX (dO Yf (dP 2) (U 4)) Jw (Q7 (dC (.int 2)))) Za))))
 (Zf (Uy (Uj (U 5)) (Yd 6) (Zf (Kk 7 (Ix Ec) (O (U 0) (O (dP 2) (O (U 4) (O (U 6) Za)))))
 (Zf (Qt (dB (SG false 3 (U 7))) (λenv=>.cont env) Vv)
 (Zf (Qt (dB (dO WH (dF Vq (O (dP 2) Za)) (U 1))) (Vy "TooMany" gZ Za) Vv)
 (Zf (P9 3 (U 7) (dC (.bl true)))
 (Sn 2 Ug (O (Wk (O (dO Yf (U 7) (dC (.int 0))) (O (dO Yf (U 7) (dC (.int 1))) (O (U 4) (O (U 6) Za))))) Za)))))))
 (RL 4 (dC (.int 1))))))
 (Kz 2)))))
def Mu:Z Dat->Rs:=Y9 8 2 Xm
def M8:Ev->Fl:=(Yg (dF RX (O (dL (Vn (Uj (Zq He (O (U 0) (O (U 2) (O (U 3) Za))))) [none,some 0,some 1] (Yd 0) Up (Zq B1 (O (U 1) (O (U 2) (O (U 0) Za)))))) Za)))
def M6:Z Dat->Rs:=Y9 4 4 M8
def Os:Ev->Fl:=(Zf (Qt (dT (Zq M6 (O (U 0) (O (U 1) (O (U 2) (O (dC (.bl true)) Za)))))) (Yg (dC (.int 1))) Vv)
 (Zf (Qt (dT (Zq M6 (O (U 0) (O (U 1) (O (U 2) (O (dC (.bl false)) Za)))))) (Yg (dU WO (dC (.int 1)))) Vv)
 (Yg (dC (.int 0)))))
def Ei:Z Dat->Rs:=Y9 3 3 Os
def Ck:Ev->Fl:=(Zf (Y2 3 (dO Fs (Zq Mp (O (Zq V9 (O (U 0) (O (U 1) Za))) Za)) (dU VD (Zq Mp (O (Zq Qy (O (U 0) (O (U 1) Za))) Za)))))
 (Yg (dO Hz (dO Fs (U 3) (Zq Mp (O (Zq V9 (O (U 0) (O (U 2) Za))) Za))) (dC (.int 0)))))
def YJ:Z Dat->Rs:=Y9 4 3 Ck
def Jc:Ev->Fl:=(Yg (TY (Zq Uv (O (U 0) (O (Zq Tj (O (U 0) (O (U 1) Za))) Za))) (Zq Uv (O (U 0) (O (Zq Tj (O (U 0) (O (U 2) Za))) Za)))))
def Qx:Z Dat->Rs:=Y9 3 3 Jc
def Kq:Ev->Fl:=(Zf (Ex 1 (T9 Za))
 (Zf (Uy (Uo (O (dF Vq (O (dO Yf (U 0) (dC (.int 1))) Za)) Za)) (Yd 2) (Uy (Uo (O (dF Vq (O (dO Yf (U 0) (dC (.int 1))) Za)) Za)) (Yd 3) (Qt (R7 (dB (dO Hz (U 2) (U 3))) (R7 (dT (Zq Qx (O (U 0) (O (U 2) (O (U 3) Za))))) (dT (Zq YJ (O (U 0) (O (U 2) (O (U 3) Za))))))) (Sn 1 Ug (O (Wk (O (U 2) (O (U 3) Za))) Za)) Vv)))
 (Kz 1)))
def X6:Z Dat->Rs:=Y9 4 1 Kq
def K2:Ev->Fl:=(Zf (Kk 2 Mu (O (U 0) (O (U 1) Za)))
 (Zf (Y2 3 (Zq X6 (O (U 0) Za)))
 (Zf (Uy (Xt (U 2)) (Kp 2 (W0 (Yd 4) (W0 (Yd 5) M9))) (Zf (Y2 6 (Zq Ru (O (U 0) (O (dS LX (U 5) Jw (Q7 (dC (.int 2)))) Za))))
 (Uy (Uj (U 3)) (Kp 2 (W0 (Yd 7) (W0 (Yd 8) M9))) (Qt (R7 (dB (dO ME (U 7) (U 6))) (dB (dO ME (U 8) (U 6)))) (Vy "CalledOff" (gC "way" "lost" "by") (O (Zq Ge (O (U 2) (O (U 4) Za))) (O (U 8) (O (U 7) Za)))) Vv))))
 (Yg (U 2)))))
def Wc:Z Dat->Rs:=Y9 9 2 K2
def Hk:Ev->Fl:=(Yg (dL (Vn (Uj (U 2)) [none,some 0,some 1] (Yd 0) Up (Zq Ei (O (U 1) (O (U 2) (O (U 0) Za)))))))
def Sg:Z Dat->Rs:=Y9 3 3 Hk
def Fk:Ev->Fl:=(Yg (dL (Vn (Xt (U 0)) [none,none,some 1,some 2] (Kp 2 (W0 (Yd 0) (W0 (Yd 1) M9))) (dB (dO Hz (dO Yf (U 2) (U 0)) (dO Yf (U 3) (U 0)))) (U 1))))
def X8:Z Dat->Rs:=Y9 3 3 Fk
def Ub:Ev->Fl:=(Zf (Y2 2 (Zq WN (O (U 0) Za)))
 (Zf (Y2 3 (dL (Vn (Uj (U 1)) [none,some 0,some 2] (Yd 0) Up (Zq Sg (O (U 1) (O (dS LX (U 0) Jw (Q7 (dC (.int 2)))) (O (U 2) Za)))))))
 (Zf (Ex 4 (T9 Za))
 (Zf (Uy (Uo (O (dF Vq (O (U 1) Za)) Za)) (Yd 5) (Uy (QR (O (dO Wu (U 5) (dC (.int 1))) (O (dF Vq (O (U 1) Za)) Za))) (Yd 6) (Qt (dB (dO Dp (dO Yf (dO Yf (U 1) (U 5)) (dC (.int 1))) (dO Yf (dO Yf (U 1) (U 6)) (dC (.int 1))))) (Sn 4 P3 (O (dL (Vn (Uj (Zq X8 (O (U 2) (O (dO Yf (U 3) (U 5)) (O (dO Yf (U 3) (U 6)) Za))))) [none,some 5,some 6] (Yd 0) Up (Wk (O (U 1) (O (U 2) (O (U 0) Za)))))) Za)) Vv)))
 (Kz 4)))))
def Qb:Z Dat->Rs:=Y9 7 2 Ub
def Uq:Ev->Fl:=(Zf (Kk 2 Wc (O (U 0) (O (U 1) Za)))
 (Zf (Y2 3 (Zq Qb (O (U 0) (O (U 2) Za))))
 (Zf (Qt (dB (dO PU (dF Vq (O (U 3) Za)) (dC (.int 0)))) (Zf (Y2 4 (dO Yf (U 3) (dC (.int 0))))
 (Vy "Clash" (gK "one" "other" "wire") (O (Zq Ge (O (U 2) (O (dO Yf (U 4) (dC (.int 0))) Za))) (O (Zq Ge (O (U 2) (O (dO Yf (U 4) (dC (.int 1))) Za))) (O (dO Yf (U 4) (dC (.int 2))) Za))))) Vv)
 (Yg (U 2)))))
def Vt:Z Dat->Rs:=Y9 5 2 Uq
def Sc:Ev->Fl:=(Zf (Y2 1 (dO Yf (U 0) (dC (.int 2))))
 (Zf (Uy (Uo (O (dF Vq (O (dO Yf (U 0) (dC (.int 1))) Za)) Za)) (Yd 2) (Y2 1 (dO PF (dO PF (U 1) (Zq Mp (O (Zq V9 (O (U 0) (O (U 2) Za))) Za))) (Zq Mp (O (Zq Qy (O (U 0) (O (U 2) Za))) Za)))))
 (Yg (dL (Vn (Uo (O (dC c_MANY_SPOTS) Za)) [none,some 1] (Yd 0) (Mb (dT (Zq Mz (O (U 1) (O (U 0) Za))))) (U 0))))))
def Qh:Z Dat->Rs:=Y9 3 1 Sc
def Hg:Ev->Fl:=(Zf (Qt (G5 (dB (dO PU (dF Vq (O (dO Yf (U 0) (dC (.int 0))) Za)) (dC c_MOST_WIRES_AHEAD))) (dB (dO PU (dF Vq (O (dO Yf (U 0) (dC (.int 1))) Za)) (dC c_MOST_STEPS_AHEAD)))) (Yg (dC (.bl false))) Vv)
 (Yg (dO WH (dF Vq (O (Zq Qh (O (U 0) Za)) Za)) (dC (.int 2)))))
def Hj:Z Dat->Rs:=Y9 1 1 Hg
def Dv:Ev->Fl:=(Qt (G5 (Mb (dT (Zq Us (O (U 1) Za)))) (G5 (dB (dO ME (U 1) (Zq Cr (O (U 0) Za)))) (Mb (dT (Zq Hj (O (U 0) Za)))))) XG Vv)
def Jv:Z Dat->Rs:=Y9 2 2 Dv
def Ht:Ev->Fl:=(Qt (G5 (dB (dO Dp (U 1) (U 2))) (G5 (dB (dO Hf (U 1) (U 0))) (dB (dO Hf (U 2) (U 0))))) XG Vv)
def Ha:Z Dat->Rs:=Y9 3 3 Ht
def N5:Ev->Fl:=(Yg (Wk (O (dO Yf (U 0) (dC (.int 0))) (O (dO Yf (U 0) (dC (.int 1))) (O (Wk (O (U 1) Za)) (O (dO Yf (U 0) (dC (.int 3))) Za))))))
def Ee:Z Dat->Rs:=Y9 2 2 N5
def Rh:Ev->Fl:=(Yg (dL (Vn (Uo (O (dF Vq (O (dO Yf (U 0) (dC (.int 1))) Za)) Za)) [none,some 0] (Yd 0) (dT (Zq Uv (O (U 1) (O (Zq Tj (O (U 1) (O (U 0) Za))) Za)))) (U 0))))
def Qm:Z Dat->Rs:=Y9 1 1 Rh
def Pe:Ev->Fl:=(Zf (Nh (Zq Jv (O (U 0) (O (U 1) Za))))
 (Zf (Nh (Zq Ha (O (Zq Qm (O (U 0) Za)) (O (U 2) (O (U 3) Za)))))
 (Zf (Y2 4 (dF Vq (O (dO Yf (U 0) (dC (.int 0))) Za)))
 (Zf (Y2 5 (Zq Qh (O (U 0) Za)))
 (Zf (Y2 6 (Wk (O (U 4) (O (dC (.bl true)) (O (Zq V9 (O (U 0) (O (U 2) Za))) (O (Wk (O (dO Yf (U 5) (dC (.int 0))) Za)) Za))))))
 (Zf (Y2 7 (Wk (O (U 4) (O (dC (.bl false)) (O (Zq V9 (O (U 0) (O (U 3) Za))) (O (Wk (O (dO Yf (U 5) (dC (.int 1))) Za)) Za))))))
 (Zf (Ex 8 (dF Ni (O (dO Yf (U 0) (dC (.int 1))) Za)))
 (Zf (Tz 8 (U 2) (Zq Ee (O (dO Yf (dP 8) (U 2)) (O (dO Yf (U 5) (dC (.int 0))) Za))))
 (Zf (Tz 8 (U 3) (Zq Ee (O (dO Yf (dP 8) (U 3)) (O (dO Yf (U 5) (dC (.int 1))) Za))))
 (Yg (Wk (O (dO OG (dO Yf (U 0) (dC (.int 0))) (Wk (O (Wk (O (U 1) (O (dC (.str "made")) Za))) Za))) (O (dF tupleD (O (dO Wu (dP 8) (dL (T9 (O (U 6) (O (U 7) Za))))) Za)) (O (dO Yf (U 0) (dC (.int 2))) (O (dO Yf (U 0) (dC (.int 3))) Za)))))))))))))))
def Q5:Z Dat->Rs:=Y9 9 4 Pe
def Qu:Ev->Fl:=(Zf (TZ J2 (λ_=>true) (U7 Vt (O (U 0) (O (U 1) Za))) (Yg (dC (.bl false))))
 (Yg (dC (.bl true))))
def Tl:Z Dat->Rs:=Y9 2 2 Qu
def Cy:Ev->Fl:=(Yg (Zq Tl (O (Zq Q5 (O (U 0) (O (U 1) (O (U 2) (O (U 3) Za))))) (O (U 4) Za))))
def Rv:Z Dat->Rs:=Y9 5 5 Cy
def R4:Ev->Fl:=(Zf (U7 Wc (O (U 0) (O (U 2) Za)))
 (Zf (Nh (Zq Jv (O (U 0) (O (U 1) Za))))
 (Zf (Y2 3 (Zq Qm (O (U 0) Za)))
 (Zf (Uy (Uj (U 3)) (Yd 4) (Uy (Uj (U 3)) (Yd 5) (Qt (R7 (dB (dO Hz (U 4) (U 5))) (dT (Zq Rv (O (U 0) (O (U 1) (O (U 4) (O (U 5) (O (U 2) Za)))))))) (Yg (Wk (O (U 4) (O (U 5) (O (Zq Q5 (O (U 0) (O (U 1) (O (U 4) (O (U 5) Za))))) Za))))) Vv)))
 (Yg (dC .non))))))
def U1:Z Dat->Rs:=Y9 6 3 R4
def Ji:Ev->Fl:=(Zf (Y2 2 (dO Wu (dO Km (dC (.int 7919)) (U 1)) (dC (.int 12345))))
 (Zf (Qt (dB (dO PX (U 1) (dF Vq (O (U 0) Za)))) (Y2 2 (dO Wu (U 2) (dO Km (dO Yf (U 0) (U 1)) (dC (.int 6364136223846793005))))) Vv)
 (Yg (dO T5 (dO Km (U 2) (dC (.int 48271))) (dC (.int 1000000000039))))))
def W4:Z Dat->Rs:=Y9 3 2 Ji
def Js:Ev->Fl:=(Zf (Y2 2 (dC (.str "abcdefghijklmnopqrstuvwxyz")))
 (Zf (Y2 3 (dO Wu (dC (.int 2)) (dO T5 (U 0) (dC (.int 7)))))
 (Zf (Y2 4 (dO T5 (dO Vw (U 0) (dC (.int 7))) (U 3)))
 (Zf (Y2 5 (dC (.str "")))
 (Zf (Uy (Uo (O (U 3) Za)) (Yd 6) (Zf (Y2 7 (dC (.int 0)))
 (Zf (Qt (dB (dO Dp (U 6) (U 4))) (Y2 7 (U 1)) Vv)
 (Y2 5 (dO Wu (U 5) (dO Yf (U 2) (dO T5 (dO Wu (dO Wu (dO Vw (U 0) (dC (.int 49))) (dO Km (dC (.int 5)) (U 6))) (dO Km (dC (.int 7)) (U 7))) (dC (.int 26)))))))))
 (Zf (Qt (dB (dO ME (U 5) (dL (T9 (O (dC (.str "given")) (O (dC (.str "made")) (O (dC (.str "up")) (O (dC (.str "down")) (O (dC (.str "start")) Za))))))))) (Y2 5 (dO Wu (dS LX (U 5) (Q7 (dC (.int 1))) Jw) (dC (.str "q")))) Vv)
 (Yg (U 5))))))))
def Ma:Z Dat->Rs:=Y9 8 2 Js
def Qi:Ev->Fl:=(Zf (Ex 3 (T9 Za))
 (Zf (Uy (Uo (O (U 2) Za)) (Yd 4) (Zf (Y2 5 (Zq W4 (O (U 0) (O (dO Wu (U 1) (U 4)) Za))))
 (Zf (Y2 6 (dO T5 (U 5) (dO Wu (dF Vq (O (dP 3) Za)) (dC (.int 1)))))
 (Zf (Sn 3 Kg (O (U 6) (O (U 4) Za)))
 (Zf (Y2 7 (dO T5 (dO Vw (U 5) (dC (.int 64))) (dO QN (dF Vq (O (dP 3) Za)) (U 6))))
 (Sn 3 Kg (O (dO Wu (dO Wu (U 6) (dC (.int 1))) (U 7)) (O (U 4) Za))))))))
 (Kz 3)))
def S3:Z Dat->Rs:=Y9 8 3 Qi
def Tp:Ev->Fl:=(Zf (Ex 4 (T9 Za))
 (Zf (Uy (Uo (O (U 2) Za)) (Yd 5) (Zf (Y2 6 (Zq W4 (O (U 0) (O (dO Wu (U 1) (U 5)) Za))))
 (Zf (Y2 7 (dO T5 (U 6) (U 3)))
 (Zf (Y2 8 (dO T5 (dO Vw (U 6) (dC (.int 64))) (U 3)))
 (Qt (R7 (dB (dO Hz (U 7) (U 8))) (dB (dO Hf (Wk (O (dF QJ (O (U 7) (O (U 8) Za))) (O (dF OC (O (U 7) (O (U 8) Za))) Za))) (dP 4)))) (Sn 4 Ug (O (Wk (O (dF QJ (O (U 7) (O (U 8) Za))) (O (dF OC (O (U 7) (O (U 8) Za))) Za))) Za)) Vv)))))
 (Kz 4)))
def Mi:Z Dat->Rs:=Y9 9 4 Tp
def Qq:Ev->Fl:=(Zf (Y2 4 (Zq S3 (O (U 0) (O (U 1) (O (U 2) Za)))))
 (Zf (Y2 5 (dO Km (dC (.int 2)) (U 2)))
 (Zf (Y2 6 (Zq W4 (O (U 0) (O (dO Wu (U 1) (U 2)) Za))))
 (Zf (Y2 7 (Zq Mi (O (U 0) (O (dO Wu (dO Wu (U 1) (U 2)) (dC (.int 1))) (O (U 3) (O (U 5) Za))))))
 (Zf (Qt (dB (dO Dp (dO T5 (U 6) (dC (.int 3))) (dC (.int 0)))) (Y2 7 (dO Wu (U 7) (dL (Vn (Uo (O (dO QN (U 5) (dC (.int 1))) Za)) [none,some 7] (Yd 0) (dB (dO Hf (Wk (O (U 0) (O (dO Wu (U 0) (dC (.int 1))) Za))) (U 1))) (Wk (O (U 0) (O (dO Wu (U 0) (dC (.int 1))) Za))))))) Vv)
 (Zf (Uy (Uo (O (U 2) Za)) (Yd 8) (Zf (Y2 9 (dM "list" Xe (U 4) (O (U 8) Za)))
 (Zf (Y2 10 (dO Wu (dO Wu (U 9) (dC (.int 1))) (dM "list" Xe (dS LX (U 4) (Q7 (dO Wu (U 9) (dC (.int 1)))) Jw) (O (U 8) Za))))
 (Y2 7 (dO Wu (dL (Vn (Uj (U 7)) [none,some 9,some 10] (Yd 0) (dB (dO Hz (U 0) (Wk (O (U 1) (O (U 2) Za))))) (U 0))) (dL (T9 (O (Wk (O (U 9) (O (U 10) Za))) Za))))))))
 (Zf (Ba 11 (Uj (U 4)) [none] (Yd 0))
 (Zf (Ba 12 (Uj (U 4)) [none] (Yd 0))
 (Zf (Y2 13 (dC (.int 0)))
 (Zf (Y2 14 (dO T5 (dO Vw (U 6) (dC (.int 3))) (dC (.int 20))))
 (Zf (Uy (Uj (U 7)) (Kp 2 (W0 (Yd 15) (W0 (Yd 16) M9))) (Zf (Nl 12 (U 15) (O (U 14) Za))
 (Zf (Nl 11 (U 16) (O (U 14) Za))
 (Zf (Nl 12 (U 16) (O (dO Wu (U 14) (dC (.int 1))) Za))
 (Zf (Nl 11 (U 15) (O (dO Wu (U 14) (dC (.int 1))) Za))
 (Zf (Y2 13 (dO PF (U 13) (dO OJ (dC (.int 1)) (dO Wu (U 14) (dC (.int 1))))))
 (Y2 14 (dO Wu (U 14) (dC (.int 2))))))))))
 (Zf (Y2 17 (dO T5 (dO Vw (U 6) (dC (.int 60))) (dO OJ (dC (.int 1)) (U 2))))
 (Zf (Y2 18 (U 17))
 (Zf (Ex 19 (T9 Za))
 (Zf (Uy (Xt (U 4)) (Kp 2 (W0 (Yd 20) (W0 (Yd 8) M9))) (Zf (Sn 19 Ug (O (Wk (O (U 8) (O (dO Dp (dO Fs (dO QK (U 18) (U 8)) (dC (.int 1))) (dC (.int 0))) (O (dF tupleD (O (dL (dF Iv (O (QI 11 (U 20)) Za))) Za)) (O (dF tupleD (O (dL (dF Iv (O (QI 12 (U 20)) Za))) Za)) Za))))) Za))
 (Y2 18 (dO UH (U 18) (dO OJ (dC (.int 1)) (U 8))))))
 (Zf (Y2 21 (dO T5 (dO Vw (U 6) (dC (.int 2000))) (U 5)))
 (Zf (Ex 19 (dO Xb (dS LX (dP 19) (Q7 (U 21)) Jw) (dS LX (dP 19) Jw (Q7 (U 21)))))
 (Zf (Y2 22 (dO Vw (U 6) (dC (.int 40000))))
 (Zf (Y2 23 (dL (Vn (Uo (O (U 2) Za)) [none,some 22,some 0,some 1] (Yd 0) Up (Wk (O (Zq Ma (O (U 1) (O (U 0) Za))) (O (dO Yf (dL (T9 (O (dC (.str "given")) (O (dC (.str "made")) Za)))) (dO T5 (dO Vw (Zq W4 (O (U 2) (O (dO Wu (U 3) (U 0)) Za))) (dC (.int 4096))) (dC (.int 2)))) Za))))))
 (Yg (Wk (O (dF tupleD (O (U 23) Za)) (O (dF tupleD (O (dP 19) Za)) (O (U 13) (O (U 17) Za)))))))))))))))))))))))))
def Ql:Z Dat->Rs:=Y9 24 4 Qq
def V6:Ev->Fl:=(Zf (Ex 2 (dF Ni (O (dO Yf (U 0) (dC (.int 0))) Za)))
 (Zf (Tz 2 (U 1) (Wk (O (dO Yf (dO Yf (dP 2) (U 1)) (dC (.int 0))) (O (dC (.str "made")) Za))))
 (Yg (dO OG (Wk (O (dF tupleD (O (dP 2) Za)) Za)) (dS LX (U 0) (Q7 (dC (.int 1))) Jw)))))
def Tn:Z Dat->Rs:=Y9 3 2 V6
def Ud:Ev->Fl:=(Zf (Y2 2 (dC (.str "abcdefghijklmnopqrstuvwxyz")))
 (Zf (Y2 3 (dL (Vn (Uj (U 1)) [none] (Yd 0) Up (dO Yf (U 0) (dC (.int 0))))))
 (Zf (Uy (Uo (O (dC (.int 26)) Za)) (Yd 4) (Zf (Y2 5 (dC (.str "")))
 (Zf (Uy (Uo (O (dO Wu (dC (.int 1)) (dO T5 (U 0) (dC (.int 8)))) Za)) (Yd 6) (Y2 5 (dO Wu (U 5) (dO Yf (U 2) (dO T5 (dO Wu (dO Wu (dO Vw (U 0) (dC (.int 8))) (dO Km (dC (.int 11)) (U 6))) (U 4)) (dC (.int 26)))))))
 (Qt (R7 (dB (dO Hf (U 5) (U 3))) (dB (dO Hf (U 5) (dL (T9 (O (dC (.str "given")) (O (dC (.str "made")) (O (dC (.str "up")) (O (dC (.str "down")) (O (dC (.str "start")) Za)))))))))) (Yg (U 5)) Vv))))
 (Yg (dC (.str "zzzzzzzz"))))))
def Uh:Z Dat->Rs:=Y9 7 2 Ud
def Mc:Ev->Fl:=(Zf (Ex 2 (dF Ni (O (U 1) Za)))
 (Zf (Xg 3 2 (O (dO T5 (U 0) (dF Vq (O (dP 2) Za))) Za))
 (Yg (Wk (O (U 3) (O (dO Yf (dP 2) (dO T5 (dO Vw (U 0) (dC (.int 64))) (dF Vq (O (dP 2) Za)))) Za))))))
def Jx:Z Dat->Rs:=Y9 4 2 Mc
def Ds:Ev->Fl:=(Zf (Uy (Uj (U 3)) (Yd 4) (Zf (Y2 5 (Zq Rv (O (U 0) (O (U 1) (O (dO Yf (U 4) (dC (.int 0))) (O (dO Yf (U 4) (dC (.int 1))) (O (dC (.int 80)) Za)))))))
 (Qt (R7 (dT (U 5)) (G5 (dB (dO UV (U 2) (dC .non))) (dB (dO VX (U 4) (dS LX (U 2) Jw (Q7 (dC (.int 2)))))))) (Yg (dC (.bl false))) Vv)))
 (Zf (Qt (dB (dO UV (U 2) (dC .non))) (Yg (dC (.bl true))) Vv)
 (Zf (Qt (G5 (Mb (dT (dI "tuple" (U 2)))) (G5 (dB (dO Hz (dF Vq (O (U 2) Za)) (dC (.int 3)))) (dB (dO Dp (dO Yf (U 2) (dC (.int 0))) (dO Yf (U 2) (dC (.int 1))))))) (Yg (dC (.bl false))) Vv)
 (Zf (Uy (Uj (dS LX (U 2) Jw (Q7 (dC (.int 2))))) (Yd 6) (Zf (Qt (G5 (Mb (dT (dI "int" (U 6)))) (G5 (dT (dI "bool" (U 6))) (Mb (By cU PX (dC (.int 0)) (U 6) (dF Vq (O (dO Yf (U 0) (dC (.int 1))) Za)))))) (Yg (dC (.bl false))) Vv)
 (Qt (dB (dO Hz (dO Yf (dO Yf (dO Yf (U 0) (dC (.int 0))) (dO Yf (dO Yf (dO Yf (U 0) (dC (.int 1))) (U 6)) (dC (.int 0)))) (dC (.int 1))) (dC (.str "made")))) (Yg (dC (.bl false))) Vv)))
 (Yg (TV (dO Dp (dO Yf (U 2) (dC (.int 2))) (Zq Q5 (O (U 0) (O (U 1) (O (dO Yf (U 2) (dC (.int 0))) (O (dO Yf (U 2) (dC (.int 1))) Za)))))) (Zq Rv (O (U 0) (O (U 1) (O (dO Yf (U 2) (dC (.int 0))) (O (dO Yf (U 2) (dC (.int 1))) (O (dC (.int 80)) Za))))))))))))
def D5:Z Dat->Rs:=Y9 7 4 Ds
def Tq:Ev->Fl:=(Zf (Ex 2 (dF Ni (O (dO Yf (U 0) (dC (.int 1))) Za)))
 (Zf (Y2 3 (dO T5 (U 1) (dF Vq (O (dP 2) Za))))
 (Zf (Y2 4 (dO T5 (dO Vw (U 1) (dC (.int 32))) (dF Vq (O (dP 2) Za))))
 (Zf (RJ (dO Yf (dP 2) (U 4)) (Kp 4 (W0 (Yd 5) (W0 (Yd 6) (W0 (Yd 7) (W0 (Yd 8) M9))))))
 (Zf (Tz 2 (U 4) (Wk (O (U 5) (O (U 6) (O (dF tupleD (O (dL (OZ (O (dO OG (U 7) (dO Yf (dO Yf (dP 2) (U 3)) (dC (.int 2)))) Za))) Za)) (O (U 8) Za))))))
 (Yg (Wk (O (dO Yf (U 0) (dC (.int 0))) (O (dF tupleD (O (dP 2) Za)) (O (dO Yf (U 0) (dC (.int 2))) (O (dO Yf (U 0) (dC (.int 3))) Za)))))))))))
def Mj:Z Dat->Rs:=Y9 9 2 Tq
def Gi:Ev->Fl:=(Zf (Y2 1 (dL (T9 (O (MZ (Mh J2 "Broken") (U 0)) (O (MZ (Mh J2 "Crowded") (U 0)) (O (MZ (Mh J2 "CalledOff") (U 0)) (O (MZ (Mh J2 "TooMany") (U 0)) Za)))))))
 (Zf (Qt (G5 (dB (dO Hz (dF YE (O (dL (Vn (VP (U 1)) [none] (Yd 0) Up (dF TH (O (U 0) Za)))) Za)) (dC (.int 1)))) (Mb (dT (MZ (B2 J2) (U 0))))) (Yg (Wk (O (dC (.str "other")) Za))) Vv)
 (Zf (Qt (dT (MZ (Mh J2 "CalledOff") (U 0))) (Yg (Wk (O (dC (.str "called off")) (O (dL (dF Ni (O (QX (Vd J2) "way" (U 0)) Za))) (O (QX (Vd J2) "lost" (U 0)) (O (QX (Vd J2) "by" (U 0)) Za)))))) Vv)
 (Zf (Qt (dT (MZ (Mh J2 "TooMany") (U 0))) (Yg (Wk (O (dC (.str "many")) Za))) Vv)
 (Yg (Wk (O (dO Yf (dL (T9 (O (dC (.str "broken")) (O (dC (.str "crowded")) Za)))) (dF TH (O (MZ (Mh J2 "Crowded") (U 0)) Za))) (O (dL (dF Ni (O (QX (Vd J2) "way" (U 0)) Za))) Za))))))))
def W7:Z Dat->Rs:=Y9 2 1 Gi
def V2:Ev->Fl:=(Zf (Y2 4 (Wk (O (dC (.str "none")) Za)))
 (Zf (RW (Vd J2) 5 (Qt (dB (dO Dp (U 0) (dC (.int 0)))) (U7 Wc (O (U 1) (O (U 3) Za))) (U7 U1 (O (U 1) (O (U 2) (O (U 3) Za))))) (Y2 4 (Zq W7 (O (U 5) Za))))
 (Yg (U 4))))
def Wb:Z Dat->Rs:=Y9 6 4 V2
def Vr:Ev->Fl:=(Zf (Y2 3 (dF Vq (O (Zq Wc (O (U 0) (O (dC (.int 80)) Za))) Za)))
 (Zf (Uy (Uj (dL (T9 (O (Wk (O (Zq Mj (O (U 0) (O (U 2) Za))) (O (dC (.int 80)) Za))) (O (Wk (O (U 0) (O (dF OC (O (dC (.int 1)) (O (dO QN (dO QN (U 3) (dC (.int 1))) (dO T5 (dO Vw (U 2) (dC (.int 1024))) (dC (.int 3)))) Za))) Za))) Za))))) (Kp 2 (W0 (Yd 4) (W0 (Yd 5) M9))) (Zf (Y2 6 (Zq Wb (O (dC (.int 0)) (O (U 4) (O (U 1) (O (U 5) Za))))))
 (Uy (Uj (dL (T9 (O (U 1) (O (dO Yf (dO Yf (dO Yf (U 0) (dC (.int 0))) (dC (.int 0))) (dC (.int 0))) (O (dC (.str "")) Za)))))) (Yd 7) (Qt (R7 (dB (dO Hz (U 6) (Wk (O (dC (.str "none")) Za)))) (dB (dO Hz (Zq Wb (O (dC (.int 1)) (O (U 4) (O (U 7) (O (U 5) Za))))) (U 6)))) (Yg (dC (.bl false))) Vv))))
 (Yg (dC (.bl true)))))
def U3:Z Dat->Rs:=Y9 8 3 Vr
def TD:Ev->Fl:=(Zf (Y2 1 (dO Yf (dL (T9 (O (dC (.int 1)) (O (dC (.int 2)) (O (dC (.int 2)) (O (dC (.int 3)) Za)))))) (dO T5 (Zq W4 (O (U 0) (O (dC (.int 0)) Za))) (dC (.int 4)))))
 (Zf (Y2 2 (Zq W4 (O (U 0) (O (dC (.int 2)) Za))))
 (Zf (Y2 3 (Zq Tn (O (Zq Ql (O (U 0) (O (dC (.int 3)) (O (U 1) (O (dO T5 (Zq W4 (O (U 0) (O (dC (.int 1)) Za))) (dC (.int 4))) Za))))) (O (dO T5 (dO Vw (U 2) (dC (.int 6))) (U 1)) Za))))
 (Zf (Y2 4 (dL (Vn (Xt (dO Yf (U 3) (dC (.int 1)))) [none,none,some 3] (Kp 2 (W0 (Yd 0) (W0 (Yd 1) M9))) (dB (dO Dp (dO Yf (dO Yf (dO Yf (U 2) (dC (.int 0))) (dO Yf (U 1) (dC (.int 0)))) (dC (.int 1))) (dC (.str "made")))) (U 0))))
 (Zf (Y2 5 (Zq Uh (O (dO Vw (U 2) (dC (.int 600))) (O (dO Yf (U 3) (dC (.int 0))) Za))))
 (Zf (Y2 6 (dL (T9 (O (Zq Jx (O (dO Vw (U 2) (dC (.int 7))) (O (U 4) Za))) (O (Zq Jx (O (dO Vw (U 2) (dC (.int 30011))) (O (U 4) Za))) Za)))))
 (Zf (Qt (Mb (dT (Zq U3 (O (U 3) (O (U 5) (O (dO Vw (U 2) (dC (.int 90000))) Za)))))) (Yg (dC (.bl false))) Vv)
 (Zf (Y2 7 (Zq U1 (O (U 3) (O (U 5) (O (dC (.int 80)) Za)))))
 (Zf (Qt (Mb (dT (Zq D5 (O (U 3) (O (U 5) (O (U 7) (O (U 6) Za))))))) (Yg (dC (.bl false))) Vv)
 (Zf (Qt (dB (dO Dp (U 1) (dC (.int 3)))) (Yg (dC (.bl true))) Vv)
 (Zf (Y2 8 (Zq Ql (O (U 0) (O (dC (.int 4)) (O (dC (.int 1)) (O (dC (.int 0)) Za))))))
 (Zf (Nh (Zq U1 (O (U 8) (O (Zq Uh (O (U 2) (O (dO Yf (U 8) (dC (.int 0))) Za))) (O (dC (.int 80)) Za)))))
 (Yg (dO Dp (Zq U1 (O (U 3) (O (U 5) (O (dC (.int 80)) Za)))) (U 7)))))))))))))))
def ZZ:Z Dat->Rs:=Y9 9 1 TD
theorem Tb{N P:Z Str}(h1:sc.kind=.function:=by rfl)(h2:sc.isCoroutine=false:=by rfl)(h3:sc.isGenerator=false:=by rfl)(h4:N.Nodup:=by ext)(h5:N.take P.length=P:=by rfl)(l:∀ x∈P,sc.names.lookup x=some .local\/sc.names.lookup x=some .cell:=by ext)(r:∀ y∈sc.names,y.2≠.free:=by ext):FnScope N P sc:=⟨h1,h2,h3,h4,h5,l,r⟩
def Td(i:Nat):C4:=PySem.Challenge.pw_calmwires_k75_the_first_that_parts.main.body.getD i (.Pass ⟨0,0,0,0⟩)
abbrev Eg:C4:=Td 12
theorem kM:FnScope ["text"] ["text"] (Z7 Eg):=Tb
abbrev Oy:C4:=Td 13
theorem l8:FnScope K' K' (Z7 Oy):=Tb
abbrev Ll:C4:=Td 15
theorem p0:FnScope ["graph","wire"] ["graph","wire"] (Z7 Ll):=Tb
abbrev SR:C4:=Td 14
theorem lU:FnScope K' K' (Z7 SR):=Tb
abbrev Si:C4:=Td 16
theorem ox:FnScope ["graph","wire","up"] ["graph","wire","up"] (Z7 Si):=Tb
abbrev Lf:C4:=Td 17
theorem iD:FnScope LL LL (Z7 Lf):=Tb
abbrev Lx:C4:=Td 18
theorem qf:FnScope LL LL (Z7 Lx):=Tb
abbrev Hy:C4:=Td 19
theorem lN:FnScope LL LL (Z7 Hy):=Tb
abbrev H9:C4:=Td 20
theorem fD:FnScope LL LL (Z7 H9):=Tb
abbrev WP:C4:=Td 21
theorem Ow:FnScope ["some","number","place"] ["some"] (Z7 WP):=Tb
abbrev L6:C4:=Td 22
theorem oN:FnScope ["number","place"] ["number","place"] (Z7 L6):=Tb
abbrev XQ:C4:=Td 24
theorem cQ:FnScope ["graph","stand","step","takes"] NU (Z7 XQ):=Tb
abbrev Xh:C4:=Td 25
theorem E9:FnScope ["graph","stand","step","wire","left","fills"] NU (Z7 Xh):=Tb
abbrev Rn:C4:=Td 27
theorem qR:FnScope ["graph","stand"] ["graph","stand"] (Z7 Rn):=Tb
abbrev XS:C4:=Td 29
theorem Cc:FnScope ["found","n","steps","at"] ["found","n"] (Z7 XS):=Tb
abbrev Le:C4:=Td 28
theorem gQ:FnScope ON ON (Z7 Le):=Tb
abbrev Pp:C4:=Td 26
theorem Ut:FnScope ["graph","most","found","seen","at","here","step","stand"] LS (Z7 Pp):=Tb
abbrev Mf:C4:=Td 32
theorem Cn:FnScope OT OT (Z7 Mf):=Tb
abbrev XY:C4:=Td 31
theorem fA:FnScope OP OP (Z7 XY):=Tb
abbrev YG:C4:=Td 33
theorem bx:FnScope ["graph","by","lost","kept"] NC (Z7 YG):=Tb
abbrev Je:C4:=Td 36
theorem Oc:FnScope NC NC (Z7 Je):=Tb
abbrev Fp:C4:=Td 35
theorem Eh:FnScope ["graph","pairs","by","lost"] K' (Z7 Fp):=Tb
abbrev XJ:C4:=Td 34
theorem Q2:FnScope ["graph","most","found","pairs","n","stand","here","by","lost"] LS (Z7 XJ):=Tb
abbrev Ro:C4:=Td 40
theorem pK:FnScope O' O' (Z7 Ro):=Tb
abbrev K7:C4:=Td 41
theorem pZ:FnScope PD PD (Z7 K7):=Tb
abbrev Vf:C4:=Td 39
theorem Wn:FnScope ["graph","found","wires","wanted","told","n","m"] ["graph","found"] (Z7 Vf):=Tb
abbrev E7:C4:=Td 38
theorem Qo:FnScope ["graph","most","found","told","first"] LS (Z7 E7):=Tb
abbrev Qp:C4:=Td 51
theorem Tw:FnScope ["graph","used","step"] K' (Z7 Qp):=Tb
abbrev Hr:C4:=Td 50
theorem oj:FnScope K' K' (Z7 Hr):=Tb
abbrev D6:C4:=Td 49
theorem Br:FnScope ["graph","name"] ["graph","name"] (Z7 D6):=Tb
abbrev Hu:C4:=Td 48
theorem o8:FnScope OY OY (Z7 Hu):=Tb
abbrev Lo:C4:=Td 47
theorem kf:FnScope ["step","spot"] ["step","spot"] (Z7 Lo):=Tb
abbrev Qj:C4:=Td 52
theorem Fz:FnScope K' K' (Z7 Qj):=Tb
abbrev Pb:C4:=Td 46
theorem Qr:FnScope ["graph","name","first","second","wire","spots","rise","fall","steps"] ["graph","name","first","second"] (Z7 Pb):=Tb
abbrev Lu:C4:=Td 54
theorem jL:FnScope LS LS (Z7 Lu):=Tb
abbrev Cg:C4:=Td 53
theorem kA:FnScope VN VN (Z7 Cg):=Tb
abbrev Xn:C4:=Td 55
theorem Em:FnScope ["graph","name","most","steps","first","second"] ["graph","name","most"] (Z7 Xn):=Tb
abbrev Gw:C4:=Td 57
theorem E8:FnScope ["_law_script","_law_k","_law_number"] ["_law_script","_law_k"] (Z7 Gw):=Tb
abbrev Dj:C4:=Td 58
theorem W6:FnScope ["_law_cell","_law_k","_law_letters","_law_size","_law_at","_law_word_here","_law_j","_law_shift"] ["_law_cell","_law_k"] (Z7 Dj):=Tb
abbrev Rc:C4:=Td 59
theorem Vj:FnScope ["_law_script","_law_first","_law_n","_law_order_here","_law_w","_law_cell","_law_at","_law_far"] ["_law_script","_law_first","_law_n"] (Z7 Rc):=Tb
abbrev Mq:C4:=Td 60
theorem V7:FnScope ["_law_script","_law_first","_law_many","_law_size","_law_pairs","_law_k","_law_cell","_law_i","_law_j"] bL (Z7 Mq):=Tb
abbrev Wx:C4:=Td 61
theorem Zl:FnScope ["_law_script","_law_first","_law_n","_law_many","_law_order_here","_law_size","_law_cell","_law_pairs","_law_w","_law_one","_law_two","_law_takes","_law_fills","_law_marks","_law_spots","_law_i","_law_j","_law_code","_law_seen","_law_steps","_law_d","_law_turn","_law_word_here","_law_wires"] du (Z7 Wx):=Tb
abbrev Tk:C4:=Td 62
theorem Md:FnScope ["_law_graph_here","_law_wire","_law_wires"] ["_law_graph_here","_law_wire"] (Z7 Tk):=Tb
abbrev Uc:C4:=Td 63
theorem W5:FnScope ["_law_cell","_law_wires","_law_letters","_law_there","_law_k","_law_word_here","_law_j"] ["_law_cell","_law_wires"] (Z7 Uc):=Tb
abbrev Sy:C4:=Td 64
theorem S7:FnScope ["_law_cell","_law_some","_law_left","_law_first"] ["_law_cell","_law_some"] (Z7 Sy):=Tb
abbrev E2:C4:=Td 65
theorem Qk:FnScope ["_law_graph_here","_law_name","_law_got","_law_pairs","_law_pair_here","_law_does","_law_k"] bo (Z7 E2):=Tb
abbrev Mn:C4:=Td 66
theorem W8:FnScope ["_law_graph_here","_law_cell","_law_steps","_law_i","_law_j","_law_wire","_law_up","_law_takes","_law_fills"] ["_law_graph_here","_law_cell"] (Z7 Mn):=Tb
abbrev Tx:C4:=Td 67
theorem E5:FnScope ["_law_e","_law_some"] ["_law_e"] (Z7 Tx):=Tb
abbrev J8:C4:=Td 68
theorem Uf:FnScope ["_law_mode","_law_graph_here","_law_name","_law_most","_law_answer","_law_e"] bg (Z7 J8):=Tb
abbrev Vz:C4:=Td 69
theorem Ym:FnScope ["_law_graph_here","_law_name","_law_cell","_law_many","_law_one","_law_most","_law_due","_law_word_here"] eX (Z7 Vz):=Tb
abbrev Dm:C4:=Td 70
theorem Sd:FnScope bQ M' (Z7 Dm):=Tb
structure Txt (K:G8) (mg:J'):Prop where
 b_ValueError:mg "ValueError" = none
 b_all:mg "all" = none
 b_any:mg "any" = none
 b_bool:mg "bool" = none
 b_enumerate:mg "enumerate" = none
 b_int:mg "int" = none
 b_isinstance:mg "isinstance" = none
 b_len:mg "len" = none
 b_list:mg "list" = none
 b_max:mg "max" = none
 b_min:mg "min" = none
 b_range:mg "range" = none
 b_reversed:mg "reversed" = none
 b_set:mg "set" = none
 b_sorted:mg "sorted" = none
 b_sum:mg "sum" = none
 b_tuple:mg "tuple" = none
 i_0:OS K mg "Broken" (Mh J2 "Broken")
 i_3:OS K mg "CalledOff" (Mh J2 "CalledOff")
 i_1:OS K mg "Crowded" (Mh J2 "Crowded")
 i_2:OS K mg "TooMany" (Mh J2 "TooMany")
 j_ValueError:WB K mg "ValueError" "ValueError" (B2 J2)
 k_8:UL K mg "CalmError" (Vd J2)
 q_0:PV K mg "Broken" J2
 q_1:PV K mg "Crowded" J2
 u_8:SO K mg "CalmError" J2 (λ_=>true)
 f_by:QU K (Vd J2) "by"
 f_lost:QU K (Vd J2) "lost"
 f_way:QU K (Vd J2) "way"
 c_LETTERS:NR K mg "LETTERS" c_LETTERS
 c_LONGEST_NAME:NR K mg "LONGEST_NAME" c_LONGEST_NAME
 c_MANY_SPOTS:NR K mg "MANY_SPOTS" c_MANY_SPOTS
 c_MOST_STEPS_AHEAD:NR K mg "MOST_STEPS_AHEAD" c_MOST_STEPS_AHEAD
 c_MOST_WIRES_AHEAD:NR K mg "MOST_WIRES_AHEAD" c_MOST_WIRES_AHEAD
 c_WORDS:NR K mg "WORDS" c_WORDS
abbrev TX(b:Bd):=Txt b.K b.mg
abbrev B3(b:Bd):Prop:=b.D 1 "is_name" ["text"] false Us
abbrev eN(b:Bd):Prop:=b.D 1 "names" K' true Cr
abbrev Ej(b:Bd):Prop:=b.D 1 "is_made" ["graph","wire"] false Uv
abbrev bM(b:Bd):Prop:=b.D 2 "made" K' true WN
abbrev P8(b:Bd):Prop:=b.D 1 "steps_of" ["graph","wire","up"] true He
abbrev Ed(b:Bd):Prop:=b.D 1 "wire_of" LL false Tj
abbrev Aj(b:Bd):Prop:=b.D 1 "is_rise" LL false L7
abbrev Tg(b:Bd):Prop:=b.D 1 "takes_of" LL false V9
abbrev S6(b:Bd):Prop:=b.D 1 "fills_of" LL false Qy
abbrev Fd(b:Bd):Prop:=b.D 1 "bits" ["some"] false Mp
abbrev N2(b:Bd):Prop:=b.D 1 "has_one" ["number","place"] false Mz
abbrev YR(b:Bd):Prop:=b.D 2 "can" NU false B1
abbrev cN(b:Bd):Prop:=b.X 3 "behind" NU false Ka true
abbrev Hx(b:Bd):Prop:=b.D 3 "steps_at" ["graph","stand"] true Ru
abbrev bY(b:Bd):Prop:=b.D 1 "way" ["found","n"] true Ge
abbrev YX(b:Bd):Prop:=b.N 1 "way" ["found","n"] true Ge
abbrev B5(b:Bd):Prop:=b.X 4 "come_to" ON false Ec
abbrev ZF(b:Bd):Prop:=b.X 5 "stands" LS true Mu
abbrev Nw(b:Bd):Prop:=b.D 3 "is_called" OT false M6
abbrev eL(b:Bd):Prop:=b.D 4 "wants" OP false Ei
abbrev bq(b:Bd):Prop:=b.D 2 "robs" NC false YJ
abbrev Dx(b:Bd):Prop:=b.D 2 "touches_made" NC false Qx
abbrev dz(b:Bd):Prop:=b.D 3 "rivals" K' true X6
abbrev Kf(b:Bd):Prop:=b.X 6 "sound" LS false Wc
abbrev F9(b:Bd):Prop:=b.D 5 "wants_of" O' true Sg
abbrev dj(b:Bd):Prop:=b.D 1 "unlike" PD true X8
abbrev So(b:Bd):Prop:=b.D 6 "clashes_among" ["graph","found"] true Qb
abbrev Nt(b:Bd):Prop:=b.X 7 "need_none" LS false Vt
abbrev Rg(b:Bd):Prop:=b.D 2 "free_spots" K' true Qh
abbrev X7(b:Bd):Prop:=b.D 3 "has_room" K' false Hj
abbrev De(b:Bd):Prop:=b.D 4 "need_room" ["graph","name"] false Jv
abbrev Fj(b:Bd):Prop:=b.D 3 "need_two" OY false Ha
abbrev Bb(b:Bd):Prop:=b.D 1 "waiting" ["step","spot"] false Ee
abbrev Rz(b:Bd):Prop:=b.D 2 "made_steps" K' true Qm
abbrev Ik(b:Bd):Prop:=b.D 5 "put_in" ["graph","name","first","second"] false Q5
abbrev Af(b:Bd):Prop:=b.D 8 "is_calm" LS false Tl
abbrev XH(b:Bd):Prop:=b.D 9 "parts" VN false Rv
abbrev X0(b:Bd):Prop:=b.X 10 "parted" ["graph","name","most"] false U1
abbrev Jg(b:Bd):Prop:=b.D 1 "_law_mix" ["_law_script","_law_k"] false W4
abbrev Nu(b:Bd):Prop:=b.D 1 "_law_word" ["_law_cell","_law_k"] false Ma
abbrev Kl(b:Bd):Prop:=b.D 2 "_law_order" ["_law_script","_law_first","_law_n"] true S3
abbrev Ga(b:Bd):Prop:=b.D 2 "_law_arrows" bL true Mi
abbrev Ks(b:Bd):Prop:=b.D 3 "_law_graph" du false Ql
abbrev R9(b:Bd):Prop:=b.D 1 "_law_with_made" ["_law_graph_here","_law_wire"] false Tn
abbrev Su(b:Bd):Prop:=b.D 1 "_law_new_name" ["_law_cell","_law_wires"] false Uh
abbrev No(b:Bd):Prop:=b.D 1 "_law_pair" ["_law_cell","_law_some"] false Jx
abbrev Ng(b:Bd):Prop:=b.D 10 "_law_good" bo false D5
abbrev G6(b:Bd):Prop:=b.D 1 "_law_spoilt" ["_law_graph_here","_law_cell"] false Mj
abbrev Du(b:Bd):Prop:=b.N 1 "_law_fields" ["_law_e"] false W7
abbrev Do(b:Bd):Prop:=b.D 11 "_law_refusal" bg false Wb
abbrev Q3(b:Bd):Prop:=b.D 12 "_law_refused_alike" eX false U3
section
variable{w:D1}{b:Bd}
theorem ek(T:Txt X.K X.mg)(hg:Gl X "LETTERS" := by rfl):Yz m X (.Name "LETTERS" p) (dC c_LETTERS):=T.c_LETTERS.x hg
theorem Fb(T:Txt X.K X.mg)(hg:Gl X "LONGEST_NAME" := by rfl):Yz m X (.Name "LONGEST_NAME" p) (dC c_LONGEST_NAME):=T.c_LONGEST_NAME.x hg
theorem kj(T:Txt X.K X.mg)(hg:Gl X "MANY_SPOTS" := by rfl):Yz m X (.Name "MANY_SPOTS" p) (dC c_MANY_SPOTS):=T.c_MANY_SPOTS.x hg
theorem Hb(T:Txt X.K X.mg)(hg:Gl X "MOST_STEPS_AHEAD" := by rfl):Yz m X (.Name "MOST_STEPS_AHEAD" p) (dC c_MOST_STEPS_AHEAD):=T.c_MOST_STEPS_AHEAD.x hg
theorem Gy(T:Txt X.K X.mg)(hg:Gl X "MOST_WIRES_AHEAD" := by rfl):Yz m X (.Name "MOST_WIRES_AHEAD" p) (dC c_MOST_WIRES_AHEAD):=T.c_MOST_WIRES_AHEAD.x hg
theorem qO(T:Txt X.K X.mg)(hg:Gl X "WORDS" := by rfl):Yz m X (.Name "WORDS" p) (dC c_WORDS):=T.c_WORDS.x hg
end
abbrev i_0:C4:=Kt (Td 2) 0
theorem lL:FnScope MS MS (Z7 i_0):=Tb
abbrev i_1:C4:=Kt (Td 3) 0
theorem fR:FnScope MS MS (Z7 i_1):=Tb
abbrev i_2:C4:=Kt (Td 4) 0
theorem ik:FnScope ["self"] ["self"] (Z7 i_2):=Tb
abbrev i_3:C4:=Kt (Td 5) 0
theorem m7:FnScope OM OM (Z7 i_3):=Tb
abbrev XZ:C4:=Kt (Td 6) 0
theorem iW:FnScope PN PN (Z7 XZ):=Tb
section
variable{P:Df}{w:D1}{K:G8}{mg:J'}{base:Ff}{b:Bd}
theorem gq{C D:A2}(B:LO K mg D)(z:CD K D C "Broken.__init__" i_0)(hc:Yy K "Broken" C)(hm:mg "Broken" = some (.ref C))(bl:mg "list" = none)(b:PySem.W.findIn K (.ref C) "way" = some none):XMakeN P w K mg base 1 "Broken" 1 (gW "way"):=let ⟨fI,fd,F,Y,hx,xc,a⟩:=z
 ⟨⟨C,fI,D,fd,MS,hc,hm,Y,hx,xc,a,dJ (k:=0) F lL hx xc b (λaj A outer s H E hr=>(Uw (Qn (Il B (Yk (pv 0) (Yk (Ep (D8 (Ca hr (pv 1) Co))) Vb)))) (Sa (P0 (pv 0) (Ti (Jj K) rfl bl (by ext) (Yk (pv 1) Vb)))))) (λH e a0 n0 l0 m0=>(Me (Jt Ot (by ext) rfl (.inr ⟨a0,n0,rfl,l0,m0⟩)) (by ext))),
  F.binds λ_ _ _ _ _ _ us hl=>LM us hl λ_ _=>rfl⟩,bP,by lia⟩
theorem oV{C D:A2}(B:LO K mg D)(z:CD K D C "Crowded.__init__" i_1)(hc:Yy K "Crowded" C)(hm:mg "Crowded" = some (.ref C))(bl:mg "list" = none)(b:PySem.W.findIn K (.ref C) "way" = some none):XMakeN P w K mg base 1 "Crowded" 1 (gW "way"):=let ⟨fI,fd,F,Y,hx,xc,a⟩:=z
 ⟨⟨C,fI,D,fd,MS,hc,hm,Y,hx,xc,a,dJ (k:=0) F fR hx xc b (λaj A outer s H E hr=>(Uw (Qn (Il B (Yk (pv 0) (Yk (Ep (D8 (Ca hr (pv 1) Co))) Vb)))) (Sa (P0 (pv 0) (Ti (Jj K) rfl bl (by ext) (Yk (pv 1) Vb)))))) (λH e a0 n0 l0 m0=>(Me (Jt Ot (by ext) rfl (.inr ⟨a0,n0,rfl,l0,m0⟩)) (by ext))),
  F.binds λ_ _ _ _ _ _ us hl=>LM us hl λ_ _=>rfl⟩,bP,by lia⟩
theorem ei{C D:A2}(B:LO K mg D)(z:CD K D C "TooMany.__init__" i_2)(hc:Yy K "TooMany" C)(hm:mg "TooMany" = some (.ref C))(bl:mg "list" = none)  : LJ P w K mg base 1 "TooMany" 0 gZ:=let ⟨fI,fd,F,Y,hx,xc,a⟩:=z
 ⟨⟨C,fI,D,fd,["self"],hc,hm,Y,hx,xc,a,hL (k:=0) F ik hx (λaj A outer s H E hr=>(Sa (Qn (Il B (Yk (pv 0) (Yk eZ Vb)))))),
  F.binds λ_ _ _ _ _ _ us hl=>NA us hl λ_=>rfl⟩,cX,by lia⟩
theorem nb{C D:A2}(B:LO K mg D)(z:CD K D C "CalledOff.__init__" i_3)(hc:Yy K "CalledOff" C)(hm:mg "CalledOff" = some (.ref C))(bl:mg "list" = none)(b:PySem.W.findIn K (.ref C) "way" = some none)(Q:PySem.W.findIn K (.ref C) "lost" = some none)(X:PySem.W.findIn K (.ref C) "by" = some none):LJ P w K mg base 1 "CalledOff" 3 (gC "way" "lost" "by"):=let ⟨fI,fd,F,Y,hx,xc,a⟩:=z
 ⟨⟨C,fI,D,fd,OM,hc,hm,Y,hx,xc,a,j' (k:=0) F m7 hx xc b Q X (by ext) (by ext) (by ext) (λaj A outer s H E hr=>(Uw (Qn (Il B (Yk (pv 0) (Yk (Ep (D8 (Ly hr (pv 2) (D8 (Ly hr (pv 3) (D8 (Ly hr (pv 1) Co))))))) Vb)))) (Uw (P0 (pv 0) (Ti (Jj K) rfl bl (by ext) (Yk (pv 1) Vb))) (Uw (Ox (pv 0) (pv 2)) (Sa (Ox (pv 0) (pv 3))))))) (λH e a0 n0 c i1 l0 m0 d v0 f v1=>(Me (Jt (Me (Jt (Me (Jt Ot (by ext) rfl (.inr ⟨a0,n0,rfl,l0,m0⟩)) (by ext)) (by ext) rfl (.inl ⟨i1,rfl,f,v1⟩)) (by ext)) (by ext) rfl (.inl ⟨c,rfl,d,v0⟩)) (by ext))),
  F.binds λ_ _ _ _ _ _ us hl=>NG us hl λ_ _ _ _=>rfl⟩,lG,by lia⟩
theorem kS{C D:A2}(B:LO K mg D)(z:CD K D C "Clash.__init__" XZ)(hc:Yy K "Clash" C)(hm:mg "Clash" = some (.ref C))(bl:mg "list" = none)(b:PySem.W.findIn K (.ref C) "one" = some none)(Q:PySem.W.findIn K (.ref C) "other" = some none)(X:PySem.W.findIn K (.ref C) "wire" = some none):LJ P w K mg base 1 "Clash" 3 (gK "one" "other" "wire"):=let ⟨fI,fd,F,Y,hx,xc,a⟩:=z
 ⟨⟨C,fI,D,fd,PN,hc,hm,Y,hx,xc,a,oA (k:=0) F iW hx xc b Q X (by ext) (by ext) (by ext) (λaj A outer s H E hr=>(Uw (Qn (Il B (Yk (pv 0) (Yk (Ep (D8 (Ly hr (pv 3) (D8 (Ly hr (pv 1) (D8 (Ly hr (pv 2) Co))))))) Vb)))) (Uw (P0 (pv 0) (Ti (Jj K) rfl bl (by ext) (Yk (pv 1) Vb))) (Uw (Ox (pv 0) (Ti (Jj K) rfl bl (by ext) (Yk (pv 2) Vb))) (Sa (Ox (pv 0) (pv 3))))))) (λH e a0 a1 n0 n1 c l0 m0 l1 m1 d v0=>(Me (Jt (Me (Jt (Me (Jt Ot (by ext) rfl (.inr ⟨a1,n1,rfl,l1,m1⟩)) (by ext)) (by ext) rfl (.inr ⟨a0,n0,rfl,l0,m0⟩)) (by ext)) (by ext) rfl (.inl ⟨c,rfl,d,v0⟩)) (by ext))),
  F.binds λ_ _ _ _ _ _ us hl=>NG us hl λ_ _ _ _=>rfl⟩,iT,by lia⟩
local macro_rules|`(tactic|ext)=>`(tactic|first|exactλ_ _ _ _ _ _ us hl=>NA us hl λ_=>rfl|exactλ_ _ _ _ _ _ us hl=>LM us hl λ_ _=>rfl|exactλ_ _ _ _ _ _ us hl=>MR us hl λ_ _ _=>rfl|exactλ_ _ _ _ _ _ us hl=>NG us hl λ_ _ _ _=>rfl|exactλ_ _ _ _ _ _ us hl=>df us hl λ_ _ _ _ _=>rfl)
theorem jk(d:b.F "is_name" Eg)(T:TX b)   : B3 b :=
 Yo d kM (by ext) (λ_ _ _ _ _ _ _ hr=>(by
  unfold Lb;refine(Zb (U6 (P5.pt (L4 (Wt TB (Zv V3 T.b_len (L (Z3 0) Z8)) (Z4) (Y4 _)) (L4 (Wt TM (Zv V3 T.b_len (L (Z3 0) Z8)) (Fb (m:=true) T) (Y4 _)) (Nv (Wt (QL hr.units) (Z3 0) (qO (m:=true) T) (by rfl)))))) (Zh (Y7 (We))) Wg)
  (Zh (Y7 (Va (k6 rfl) T.b_all (L (Wa ?c0) Z8)))))
  case c0=>exact Tf (Z7 Eg) [none] ["sign"] rfl rfl (iv (Z3 0)) (λ_ _ _ _=>⟨(Zs 0 (by ext)),D0,(Q0 (QL hr.units) (Z3 0) (ek (m:=true) T) (by rfl))⟩) (by decide)))
theorem nv(d:b.F "names" Oy)(T:TX b)   : eN b :=
 Yo d l8 (by ext) (λ_ _ _ _ _ _ _ hr=>(by
  unfold Cu;refine(Zh (S5 ?c0))
  case c0=>exact Tf (Z7 Oy) [none,none] ["name","kind"] rfl rfl (Rl (Zi Zr (Z3 0) (Z4))) (λ_ _ _ _=>⟨(Gq (n:=2) rfl (W2 (Zs 0 (by ext)) (W2 (Zs 1 (by ext)) Mo))),D0,(Z5 0)⟩) (by decide)))
theorem lY(d:b.F "is_made" Ll)(T:TX b)   : Ej b :=
 Yo d p0 (by ext) (λ_ _ _ _ _ _ _ hr=>(by
  unfold N4;exact(Zh (Y7 (Q0 (E1 hr.units) (Zi Zr (Zi Zr (Zi Zr (Z3 0) (Z4)) (Z3 1)) (Z4)) (RU (m:=true)) (Y4 _))))))
theorem lM(d:b.F "made" SR)(T:TX b) (a:Ej b):bM b :=
 Yo d lU (by ext) (λ_ _ _ _ _ _ _ hr=>(by
  unfold WJ;refine(Zh (S5 ?c0))
  case c0=>exact Tf (Z7 SR) [none,some 0] ["wire","graph"] rfl rfl (Wh T.b_range (L (Zv V3 T.b_len (L (Zi Zr (Z3 0) (Z4)) Z8)) Z8)) (λ_ _ _ _=>⟨(Zs 0 (by ext)),(Iy (R3 (Zx a hr.mono (L (Z5 1) (L (Z5 0) Z8))))),(Z5 0)⟩) (by decide)))
theorem jg(d:b.F "steps_of" Si)(T:TX b)   : P8 b :=
 Yo d ox (by ext) (λ_ _ _ _ _ _ _ hr=>(by
  unfold Hw;refine(Zh (S5 ?c0))
  case c0=>exact Tf (Z7 Si) [none,none,some 1,some 2] OU rfl rfl (XV T.b_enumerate (Zi Zr (Z3 0) (Z4))) (λ_ _ _ _=>⟨(Gq (n:=2) rfl (W2 (Zs 0 (by ext)) (W2 (Zs 1 (by ext)) Mo))),(Iy (P5.pt (Ig (Wt (E1 hr.units) (Zi Zr (Z3 1) (Z4)) (Z3 2) (Y4 _)) (E6 (Wt (E1 hr.units) (Zi Zr (Z3 1) (Z4)) (Z3 3) (Y4 _)))))),(Z5 0)⟩) (by decide)))
theorem qG(d:b.F "wire_of" Lf)(T:TX b)   : Ed b :=
 Yo d iD (by ext) (λ_ _ _ _ _ _ _ hr=>(by
  unfold Lz;exact(Zh (Y7 (Zn Zr (Zi Zr (Zi Zr (Z3 0) (Z4)) (Z3 1)) (Z4))))))
theorem lv(d:b.F "is_rise" Lx)(T:TX b)   : Aj b :=
 Yo d qf (by ext) (λ_ _ _ _ _ _ _ hr=>(by
  unfold Lv;exact(Zh (Y7 (Zn Zr (Zi Zr (Zi Zr (Z3 0) (Z4)) (Z3 1)) (Z4))))))
theorem pu(d:b.F "takes_of" Hy)(T:TX b)   : Tg b :=
 Yo d lN (by ext) (λ_ _ _ _ _ _ _ hr=>(by
  unfold Hn;exact(Zh (Y7 (Zn Zr (Zi Zr (Zi Zr (Z3 0) (Z4)) (Z3 1)) (Z4))))))
theorem ng(d:b.F "fills_of" H9)(T:TX b)   : S6 b :=
 Yo d fD (by ext) (λ_ _ _ _ _ _ _ hr=>(by
  unfold Hl;exact(Zh (Y7 (Zn Zr (Zi Zr (Zi Zr (Z3 0) (Z4)) (Z3 1)) (Z4))))))
theorem md(d:b.F "bits" WP)(T:TX b)   : Fd b :=
 Yo d Ow (by ext) (λ_ _ _ _ _ _ _ hr=>(by
  unfold WZ;exact(Zb (Zu 1 Ow.nd (Y6))
  (Zb (U2 BQ rfl (Gs (Z5 0)) (Zs 2 Ow.nd) (Zh (Zu 1 Ow.nd (Zo SC (Z3 1) (Zm SA (Z4) (Z3 2))))))
  (Zh (Y7 (Z5 1)))))))
theorem nr(d:b.F "has_one" L6)(T:TX b)   : N2 b :=
 Yo d oN (by ext) (λ_ _ _ _ _ _ _ hr=>(by
  unfold Lh;exact(Zh (Y7 (Q0 (E1 hr.units) (Zm Xa (Zm Y' (Z3 0) (Z3 1)) (Z4)) (Z4) (Y4 _))))))
theorem og(d:b.F "can" XQ)(T:TX b) (c:Fd b)(a:Tg b):YR b :=
 Yo d cQ (by ext) (λ_ _ _ _ _ _ _ hr=>(by
  unfold WA;exact(Zb (Zu 3 cQ.nd (Zj c hr.mono (L (Zj a hr.mono (L (Z5 0) (L (Z5 2) Z8))) Z8)))
  (Zh (Y7 (Q0 (E1 hr.units) (Zm Xa (Zi Zr (Z3 1) (Z4)) (Z3 3)) (Z3 3) (Y4 _)))))))
theorem nq(d:b.F "behind" Xh)(T:TX b)(i:b.M 1 "Broken" 1 (gW "way"))(j:b.M 1 "Crowded" 1 (gW "way"))(e:Ed b)(c:Fd b)(g:N2 b)(h:Aj b)(f:S6 b)(a:Tg b):cN b :=
 ji d E9 (by ext) (λ_ _ _ _ _ _ _ hr=>(by
  unfold Dy;exact(Zb (Zu 3 E9.nd (Zj e hr.mono (L (Z5 0) (L (Z5 2) Z8))))
  (Zb (U6 (Wt (E1 hr.units) (Zx g hr.mono (L (Zn Zr (Z3 1) (Z4)) (L (Z5 3) Z8))) (Zx h hr.mono (L (Z5 0) (L (Z5 2) Z8))) (Y4 _)) (Zh (Op i hr.mono rfl (L (Vu (Jq (L (Z5 2) Z8))) Z8))) Wg)
  (Zb (Zu 4 E9.nd (Zo Xa (Zi Zr (Z3 1) (Z4)) (XI (m:=true) cz (Zx c hr.mono (L (Zj a hr.mono (L (Z5 0) (L (Z5 2) Z8))) Z8)))))
  (Zb (Zu 5 E9.nd (Zj c hr.mono (L (Zj f hr.mono (L (Z5 0) (L (Z5 2) Z8))) Z8)))
  (Zb (U6 (Wt (Od hr.units) (Zm Xa (Z3 4) (Z3 5)) (Z4) (Y4 _)) (Zh (Op j hr.mono rfl (L (Vu (Jq (L (Z5 2) Z8))) Z8))) Wg)
  (Zh (Y7 (Zz (L (Zo SC (Z3 4) (Z3 5)) (L (Zo eH (Zi Zr (Z3 1) (Z4)) (Zm SA (Z4) (Z3 3))) Z8))))))))))))
theorem iw(d:b.F "steps_at" Rn)(T:TX b) (c:YR b):Hx b :=
 Yo d qR (by ext) (λ_ _ _ _ _ _ _ hr=>(by
  unfold Gx;refine(Zh (S5 ?c0))
  case c0=>exact Tf (Z7 Rn) [none,some 0,some 1] NX rfl rfl (Wh T.b_range (L (Zv V3 T.b_len (L (Zi Zr (Z3 0) (Z4)) Z8)) Z8)) (λ_ _ _ _=>⟨(Zs 0 (by ext)),(Iy (R3 (Zx c hr.mono (L (Z5 1) (L (Z5 2) (L (Z5 0) Z8)))))),(Z5 0)⟩) (by decide)))
theorem nS(d:b.F "way" XS)(T:TX b)   : YX b :=
 bt d Cc (by ext) (λ_ _ _ _ _ _ _ hr hd=>(by
  unfold WS;exact(Zb (Sl 2 Cc.nd (Jq Z8))
  (Zb (Zu 3 Cc.nd (Z5 1))
  (Zb (bi BQ (Wt ly (Zi Zr (Zi Zr (Z3 0) (Z3 3)) (Z4)) (QE (m:=true)) (Y4 _)) (Zb (D9 2 DQ DR Dh (L (Zn Zr (Zi Zr (Z3 0) (Z3 3)) (Z4)) Z8))
  (Zh (Zu 3 Cc.nd (Zn Zr (Zi Zr (Z3 0) (Z3 3)) (Z4))))))
  (Zh (S5 (pC (by rfl) T.b_list (by rfl) T.b_reversed (L (xo 2) Z8)))))))))
theorem pB(d:b.F "come_to" Le)(T:TX b)(i:b.R 1 "Broken" 1 (gW "way"))(j:b.R 1 "Crowded" 1 (gW "way"))(a:cN b)(e:YX b):B5 b :=
 UN d gQ (by ext) (λ_ _ _ _ _ _ _ hr=>(by
  unfold Qw;exact(Zh (oR (known:=J2) gt (λ_ _=>(Zh (l4 (Np a hr.mono (L (Z5 0) (L (J9 E4 (Zi Zr (Z3 1) (Z3 2)) Ja (Qz (Z4))) (L (Z5 3) Z8))))))) (λ_ _ hd=>(Zh (Z' i (hr.n.mono (by lia)).mark hd (L (Vu (WD US (cK (m:=true) e (hr.n.mono (by lia)).mark hd.c (L (Z5 1) (L (Z5 2) Z8))) (Wa (Jq (L (Z5 3) Z8))))) Z8) (by intro z;cases z)))) (λ_ _ hd=>(Zh (Z' j (hr.n.mono (by lia)).mark hd (L (Vu (WD US (cK (m:=true) e (hr.n.mono (by lia)).mark hd.c (L (Z5 1) (L (Z5 2) Z8))) (Wa (Jq (L (Z5 3) Z8))))) Z8) (by intro z;cases z)))) T.q_0 T.q_1))))
theorem ls(d:b.F "stands" Pp)(T:TX b)(e:b.M 1 "TooMany" 0 gZ)(a:Hx b)(c:B5 b):ZF b :=
 UN d Ut (by ext) (λ_ _ _ _ _ _ _ hr=>(by
  unfold Xm;exact(Zb (Sl 2 Ut.nd (Jq (L (Zz (L (Zn Zr (Z3 0) (Z4)) (L (Zn Zr (Z3 0) (Z4)) (L (QE (m:=false)) (L (QE (m:=false)) Z8))))) Z8)))
  (Zb (qE 3 Ut.nd rfl (DG rfl) (VO hr) (Jk (L (Zn Zr (Z3 0) (Z4)) (L (Zn Zr (Z3 0) (Z4)) Z8))) (We))
  (Zb (Zu 4 Ut.nd (Y6))
  (Zb (bi N0 (Wt TB (Z3 4) (Zv V3 T.b_len (L (xo 2) Z8)) (Y4 _)) (Zb (Zu 5 Ut.nd (Zj a hr.mono (L (Z5 0) (L (J9 E4 (Zi Zr (xo 2) (Z3 4)) Ja (Qz (Z4))) Z8))))
  (Zb (U2 N0 rfl (Gs (Z5 5)) (Zs 6 Ut.nd) (Zb (V' 7 Ut.nd (gr c hr.mono (L (Z3 0) (L (xo 2) (L (Z3 4) (L (Z3 6) Z8))))))
  (Zb (U6 (pD 3 (VO hr) (Z3 7)) (Zh j7) Wg)
  (Zb (U6 (Wt b5 (Zv V3 T.b_len (L (xo 2) Z8)) (Z3 1) (Y4 _)) (Zh (gJ e hr.mono rfl)) Wg)
  (Zb (hP 3 (VO hr) (Z3 7) (We))
  (Zh (D9 2 DQ DR Dh (L (Zz (L (Zn Zr (Z3 7) (Z4)) (L (Zn Zr (Z3 7) (Z4)) (L (Z5 4) (L (Z5 6) Z8))))) Z8))))))))
  (Zh (qL 4 Ut.nd rfl (DG rfl) (Y6))))))
  (Zh (Xq 2))))))))
theorem kC(d:b.F "is_called" Mf)(T:TX b) (c:YR b)(a:P8 b):Nw b :=
 Yo d Cn (by ext) (λ_ _ _ _ _ _ _ hr=>(by
  unfold M8;refine(Zh (Y7 (Va (jV rfl) T.b_any (L (Wa ?c0) Z8))))
  case c0=>exact Tf (Z7 Mf) [none,some 0,some 1] NX rfl rfl (Rl (Zx a hr.mono (L (Z5 0) (L (Z5 2) (L (Z5 3) Z8))))) (λ_ _ _ _=>⟨(Zs 0 (by ext)),D0,(Zj c hr.mono (L (Z5 1) (L (Z5 2) (L (Z5 0) Z8))))⟩) (by decide)))
theorem mO(d:b.F "wants" XY)(T:TX b) (a:Nw b):eL b :=
 Yo d fA (by ext) (λ_ _ _ _ _ _ _ hr=>(by
  unfold Os;exact(Zb (U6 (R3 (Zx a hr.mono (L (Z5 0) (L (Z5 1) (L (Z5 2) (L (We) Z8)))))) (Zh (Y7 (Y6))) Wg)
  (Zb (U6 (R3 (Zx a hr.mono (L (Z5 0) (L (Z5 1) (L (Z5 2) (L (We) Z8)))))) (Zh (Y7 (XI (m:=false) ou (Z4)))) Wg)
  (Zh (Y7 (Y6)))))))
theorem jX(d:b.F "robs" YG)(T:TX b) (c:Fd b)(a:Tg b)(f:S6 b):bq b :=
 Yo d bx (by ext) (λ_ _ _ _ _ _ _ hr=>(by
  unfold Ck;exact(Zb (Zu 3 bx.nd (Zo Xa (Zx c hr.mono (L (Zj a hr.mono (L (Z5 0) (L (Z5 1) Z8))) Z8)) (XI (m:=true) cz (Zx c hr.mono (L (Zj f hr.mono (L (Z5 0) (L (Z5 1) Z8))) Z8)))))
  (Zh (Y7 (Q0 (Od hr.units) (Zm Xa (Z3 3) (Zx c hr.mono (L (Zj a hr.mono (L (Z5 0) (L (Z5 2) Z8))) Z8))) (Z4) (Y4 _)))))))
theorem Py(d:b.F "touches_made" Je)(T:TX b) (a:Ej b)(e:Ed b):Dx b :=
 Yo d Oc (by ext) (λ_ _ _ _ _ _ _ hr=>(by
  unfold Jc;exact(Zh (Y7 (oa (m:=false) (Zx a hr.mono (L (Z5 0) (L (Zj e hr.mono (L (Z5 0) (L (Z5 1) Z8))) Z8))) (dn (Zj a hr.mono (L (Z5 0) (L (Zj e hr.mono (L (Z5 0) (L (Z5 2) Z8))) Z8)))))))))
theorem mm(d:b.F "rivals" Fp)(T:TX b) (a:Dx b)(c:bq b):dz b :=
 Yo d Eh (by ext) (λ_ _ _ _ _ _ _ hr=>(by
  unfold Kq;exact(Zb (Sl 1 Eh.nd (Jq Z8))
  (Zb (U2 BQ rfl (Wh T.b_range (L (Zv V3 T.b_len (L (Zi Zr (Z3 0) (Z4)) Z8)) Z8)) (Zs 2 Eh.nd) (Zh (U2 BQ rfl (Wh T.b_range (L (Zv V3 T.b_len (L (Zi Zr (Z3 0) (Z4)) Z8)) Z8)) (Zs 3 Eh.nd) (Zh (U6 (P5.pt (Ig (Wt (Od hr.units) (Z3 2) (Z3 3) (Y4 _)) (Ig (R3 (Zx a hr.mono (L (Z5 0) (L (Z5 2) (L (Z5 3) Z8))))) (E6 (R3 (Zx c hr.mono (L (Z5 0) (L (Z5 2) (L (Z5 3) Z8))))))))) (Zh (D9 1 DQ DR Dh (L (Zz (L (Z5 2) (L (Z5 3) Z8))) Z8))) Wg)))))
  (Zh (Xq 1))))))
theorem iC(d:b.F "sound" XJ)(T:TX b)(g:b.M 1 "CalledOff" 3 (gC "way" "lost" "by"))(c:ZF b)(f:dz b)(a:Hx b)(e:bY b):Kf b :=
 UN d Q2 (by ext) (λ_ _ _ _ _ _ _ hr=>(by
  unfold K2;exact(Zb (V' 2 Q2.nd (Np c hr.mono (L (Z5 0) (L (Z5 1) Z8))))
  (Zb (Zu 3 Q2.nd (Zj f hr.mono (L (Z5 0) Z8)))
  (Zb (U2 N0 rfl (ZB T.b_enumerate (Z5 2)) (Gq (n:=2) rfl (W2 (Zs 4 Q2.nd) (W2 (Zs 5 Q2.nd) Mo))) (Zb (Zu 6 Q2.nd (Zj a hr.mono (L (Z5 0) (L (J9 E4 (Z3 5) Ja (Qz (Z4))) Z8))))
  (Zh (U2 N0 rfl (Gs (Z5 3)) (Gq (n:=2) rfl (W2 (Zs 7 Q2.nd) (W2 (Zs 8 Q2.nd) Mo))) (Zh (U6 (P5.pt (Ig (Wt (QL hr.units) (Z3 7) (Z3 6) (by rfl)) (E6 (Wt (QL hr.units) (Z3 8) (Z3 6) (by rfl))))) (Zh (Op g hr.mono rfl (L (Zj e hr.mono (L (Z5 2) (L (Z5 4) Z8))) (L (Z5 8) (L (Z5 7) Z8))))) Wg))))))
  (Zh (Y7 (Z5 2))))))))
theorem i6(d:b.F "wants_of" Ro)(T:TX b) (a:eL b):F9 b :=
 Yo d pK (by ext) (λ_ _ _ _ _ _ _ hr=>(by
  unfold Hk;refine(Zh (S5 ?c0))
  case c0=>exact Tf (Z7 Ro) [none,some 0,some 1] ["wire","graph","stand"] rfl rfl (Rl (Z3 2)) (λ_ _ _ _=>⟨(Zs 0 (by ext)),D0,(Zj a hr.mono (L (Z5 1) (L (Z5 2) (L (Z5 0) Z8))))⟩) (by decide)))
theorem mw(d:b.F "unlike" K7)(T:TX b)   : dj b :=
 Yo d pZ (by ext) (λ_ _ _ _ _ _ _ hr=>(by
  unfold Fk;refine(Zh (S5 ?c0))
  case c0=>exact Tf (Z7 K7) [none,none,some 1,some 2] PK rfl rfl (XV T.b_enumerate (Z3 0)) (λ_ _ _ _=>⟨(Gq (n:=2) rfl (W2 (Zs 0 (by ext)) (W2 (Zs 1 (by ext)) Mo))),(Iy (Wt (Od hr.units) (Zi Zr (Z3 2) (Z3 0)) (Zi Zr (Z3 3) (Z3 0)) (Y4 _))),(Z5 1)⟩) (by decide)))
theorem O7(d:b.F "clashes_among" Vf)(T:TX b) (e:bM b)(a:F9 b)(c:dj b):So b :=
 Yo d Wn (by ext) (λ_ _ _ _ _ _ _ hr=>(by
  unfold Ub;refine(Zb (Zu 2 Wn.nd (Zj e hr.mono (L (Z5 0) Z8)))
  (Zb (Ci 3 Wn.nd (Z7 Vf) [none,some 0,some 2] ["stand","graph","wires"] rfl rfl (Rl (Z3 1)) (λ_ _ _ _=>⟨(Zs 0 (by ext)),D0,(Zj a hr.mono (L (Z5 1) (L (J9 E4 (Z3 0) Ja (Qz (Z4))) (L (Z5 2) Z8))))⟩) (by decide))
  (Zb (Sl 4 Wn.nd (Jq Z8))
  (Zb (U2 BQ rfl (Wh T.b_range (L (Zv V3 T.b_len (L (Z3 1) Z8)) Z8)) (Zs 5 Wn.nd) (Zh (U2 BQ rfl (pH T.b_range (L (Zm Wj (Z3 5) (Z4)) (L (Zv V3 T.b_len (L (Z3 1) Z8)) Z8))) (Zs 6 Wn.nd) (Zh (U6 (Wt (E1 hr.units) (Zi Zr (Zi Zr (Z3 1) (Z3 5)) (Z4)) (Zi Zr (Zi Zr (Z3 1) (Z3 6)) (Z4)) (Y4 _)) (Zh (D9 4 PySem.F.slot_list_extend PySem.F.type_list_extend hO (L (Vu ?c0) Z8))) Wg)))))
  (Zh (Xq 4))))))
  case c0=>exact Tf (Z7 Vf) [none,some 5,some 6] ["wire","n","m"] rfl rfl (Rl (Zx c hr.mono (L (Z5 2) (L (Zn Zr (Z3 3) (Z3 5)) (L (Zn Zr (Z3 3) (Z3 6)) Z8))))) (λ_ _ _ _=>⟨(Zs 0 (by ext)),D0,(Zz (L (Z5 1) (L (Z5 2) (L (Z5 0) Z8))))⟩) (by decide)))
theorem km(d:b.F "need_none" E7)(T:TX b)(f:b.M 1 "Clash" 3 (gK "one" "other" "wire"))(a:Kf b)(c:So b)(e:bY b):Nt b :=
 mX d Qo (by ext) (λ_ _ _ _ _ _ _ hr=>(by
  unfold Uq;exact(Zb (V' 2 Qo.nd (Np a hr.mono (L (Z5 0) (L (Z5 1) Z8))))
  (Zb (Zu 3 Qo.nd (Zj c hr.mono (L (Z5 0) (L (Z5 2) Z8))))
  (Zb (U6 (Wt TM (Zv V3 T.b_len (L (Z3 3) Z8)) (Z4) (Y4 _)) (Zb (Zu 4 Qo.nd (Zn Zr (Z3 3) (Z4)))
  (Zh (Op f hr.mono rfl (L (Zj e hr.mono (L (Z5 2) (L (Zn Zr (Z3 4) (Z4)) Z8))) (L (Zj e hr.mono (L (Z5 2) (L (Zn Zr (Z3 4) (Z4)) Z8))) (L (Zn Zr (Z3 4) (Z4)) Z8)))))) Wg)
  (Zh (Y7 (Z5 2))))))))
theorem nF(d:b.F "free_spots" Qp)(T:TX b) (c:Fd b)(f:S6 b)(g:N2 b)(a:Tg b):Rg b :=
 Yo d Tw (by ext) (λ_ _ _ _ _ _ _ hr=>(by
  unfold Sc;refine(Zb (Zu 1 Tw.nd (Zn Zr (Z3 0) (Z4)))
  (Zb (U2 BQ rfl (Wh T.b_range (L (Zv V3 T.b_len (L (Zi Zr (Z3 0) (Z4)) Z8)) Z8)) (Zs 2 Tw.nd) (Zh (Zu 1 Tw.nd (Zo SC (Zm SC (Z3 1) (Zx c hr.mono (L (Zj a hr.mono (L (Z5 0) (L (Z5 2) Z8))) Z8))) (Zx c hr.mono (L (Zj f hr.mono (L (Z5 0) (L (Z5 2) Z8))) Z8))))))
  (Zh (S5 ?c0))))
  case c0=>exact Tf (Z7 Qp) [none,some 1] ["spot","used"] rfl rfl (Wh T.b_range (L (kj (m:=true) T) Z8)) (λ_ _ _ _=>⟨(Zs 0 (by ext)),(Iy (Bq (R3 (Zx g hr.mono (L (Z5 1) (L (Z5 0) Z8)))))),(Z5 0)⟩) (by decide)))
theorem lB(d:b.F "has_room" Hr)(T:TX b) (c:Rg b):X7 b :=
 Yo d oj (by ext) (λ_ _ _ _ _ _ _ hr=>(by
  unfold Hg;exact(Zb (U6 (P5.pt (L4 (Wt TM (Zv V3 T.b_len (L (Zi Zr (Z3 0) (Z4)) Z8)) (Gy (m:=true) T) (Y4 _)) (Nv (Wt TM (Zv V3 T.b_len (L (Zi Zr (Z3 0) (Z4)) Z8)) (Hb (m:=true) T) (Y4 _))))) (Zh (Y7 (We))) Wg)
  (Zh (Y7 (Q0 b5 (Zv V3 T.b_len (L (Zx c hr.mono (L (Z5 0) Z8)) Z8)) (Z4) (Y4 _)))))))
theorem jp(d:b.F "need_room" D6)(T:TX b) (c:B3 b)(e:eN b)(a:X7 b):De b :=
 Yo d Br (by ext) (λ_ _ _ _ _ _ _ hr=>(by
  unfold Dv;exact(Zh (U6 (P5.pt (L4 (Bq (R3 (Zx c hr.mono (L (Z5 1) Z8)))) (L4 (Wt (QL hr.units) (Z3 1) (Zx e hr.mono (L (Z5 0) Z8)) (by rfl)) (Nv (Bq (R3 (Zx a hr.mono (L (Z5 0) Z8)))))))) (Zh ZD) Wg))))
theorem gO(d:b.F "need_two" Hu)(T:TX b)   : Fj b :=
 Yo d o8 (by ext) (λ_ _ _ _ _ _ _ hr=>(by
  unfold Ht;exact(Zh (U6 (P5.pt (L4 (Wt (E1 hr.units) (Z3 1) (Z3 2) (Y4 _)) (L4 (Wt (B4 hr.units) (Z3 1) (Z3 0) (by rfl)) (Nv (Wt (B4 hr.units) (Z3 2) (Z3 0) (by rfl)))))) (Zh ZD) Wg))))
theorem pS(d:b.F "waiting" Lo)(T:TX b)   : Bb b :=
 Yo d kf (by ext) (λ_ _ _ _ _ _ _ hr=>(by
  unfold N5;exact(Zh (Y7 (Zz (L (Zn Zr (Z3 0) (Z4)) (L (Zn Zr (Z3 0) (Z4)) (L (Zz (L (Z5 1) Z8)) (L (Zn Zr (Z3 0) (Z4)) Z8)))))))))
theorem i4(d:b.F "made_steps" Qj)(T:TX b) (a:Ej b)(e:Ed b):Rz b :=
 Yo d Fz (by ext) (λ_ _ _ _ _ _ _ hr=>(by
  unfold Rh;refine(Zh (S5 ?c0))
  case c0=>exact Tf (Z7 Qj) [none,some 0] ["step","graph"] rfl rfl (Wh T.b_range (L (Zv V3 T.b_len (L (Zi Zr (Z3 0) (Z4)) Z8)) Z8)) (λ_ _ _ _=>⟨(Zs 0 (by ext)),(Iy (R3 (Zx a hr.mono (L (Z5 1) (L (Zj e hr.mono (L (Z5 1) (L (Z5 0) Z8))) Z8))))),(Z5 0)⟩) (by decide)))
theorem i8(d:b.F "put_in" Pb)(T:TX b) (f:De b)(h:Fj b)(c:Rg b)(g:Bb b)(e:Rz b)(a:Tg b):Ik b :=
 Yo d Qr (by ext) (λ_ _ _ _ _ _ _ hr=>(by
  unfold Pe;exact(Zb (Cf (Zx f hr.mono (L (Z5 0) (L (Z5 1) Z8))))
  (Zb (Cf (Zx h hr.mono (L (Zj e hr.mono (L (Z5 0) Z8)) (L (Z5 2) (L (Z5 3) Z8)))))
  (Zb (Zu 4 Qr.nd (Va V3 T.b_len (L (Zi Zr (Z3 0) (Z4)) Z8)))
  (Zb (Zu 5 Qr.nd (Zj c hr.mono (L (Z5 0) Z8)))
  (Zb (Zu 6 Qr.nd (Zz (L (Z5 4) (L (We) (L (Zj a hr.mono (L (Z5 0) (L (Z5 2) Z8))) (L (Zz (L (Zn Zr (Z3 5) (Z4)) Z8)) Z8))))))
  (Zb (Zu 7 Qr.nd (Zz (L (Z5 4) (L (We) (L (Zj a hr.mono (L (Z5 0) (L (Z5 3) Z8))) (L (Zz (L (Zn Zr (Z3 5) (Z4)) Z8)) Z8))))))
  (Zb (Sl 8 Qr.nd (Lk Li T.b_list (L (Zi Zr (Z3 0) (Z4)) Z8)))
  (Zb (Eo 8 (Z3 2) (Zj g hr.mono (L (Zn Zr (xo 8) (Z3 2)) (L (Zn Zr (Z3 5) (Z4)) Z8))))
  (Zb (Eo 8 (Z3 3) (Zj g hr.mono (L (Zn Zr (xo 8) (Z3 3)) (L (Zn Zr (Z3 5) (Z4)) Z8))))
  (Zh (Y7 (Zz (L (Zo VQ (Zi Zr (Z3 0) (Z4)) (Jk (L (Zz (L (Z5 1) (L (Y5) Z8))) Z8))) (L (Mr (m:=false) Ju T.b_tuple (L (Zm Wj (xo 8) (Wa (Jq (L (Z5 6) (L (Z5 7) Z8))))) Z8)) (L (Zn Zr (Z3 0) (Z4)) (L (Zn Zr (Z3 0) (Z4)) Z8))))))))))))))))))
theorem mI(d:b.F "is_calm" Lu)(T:TX b) (a:Nt b):Af b :=
 Yo d jL (by ext) (λ_ _ _ _ _ _ _ hr=>(by
  unfold Qu;exact(Zb (pL (known:=J2) (b1':=(λ_=>true)) (λ_=>PassesOwnAt.never) (λ_ _=>(Zh (Oh (Np a hr.mono (L (Z5 0) (L (Z5 1) Z8)))))) (λ_ _=>(Zh (Y7 (We)))) T.u_8)
  (Zh (Y7 (We))))))
theorem jE(d:b.F "parts" Cg)(T:TX b) (a:Af b)(c:Ik b):XH b :=
 Yo d kA (by ext) (λ_ _ _ _ _ _ _ hr=>(by
  unfold Cy;exact(Zh (Y7 (Zj a hr.mono (L (Zj c hr.mono (L (Z5 0) (L (Z5 1) (L (Z5 2) (L (Z5 3) Z8))))) (L (Z5 4) Z8)))))))
theorem lJ(d:b.F "parted" Xn)(T:TX b) (a:Kf b)(f:De b)(e:Rz b)(g:XH b)(c:Ik b):X0 b :=
 UN d Em (by ext) (λ_ _ _ _ _ _ _ hr=>(by
  unfold R4;exact(Zb (Oh (Np a hr.mono (L (Z5 0) (L (Z5 2) Z8))))
  (Zb (Cf (Zx f hr.mono (L (Z5 0) (L (Z5 1) Z8))))
  (Zb (Zu 3 Em.nd (Zj e hr.mono (L (Z5 0) Z8)))
  (Zb (U2 N0 rfl (Gs (Z5 3)) (Zs 4 Em.nd) (Zh (U2 N0 rfl (Gs (Z5 3)) (Zs 5 Em.nd) (Zh (U6 (P5.pt (Ig (Wt (Od hr.units) (Z3 4) (Z3 5) (Y4 _)) (E6 (R3 (Zx g hr.mono (L (Z5 0) (L (Z5 1) (L (Z5 4) (L (Z5 5) (L (Z5 2) Z8)))))))))) (Zh (Y7 (Zz (L (Z5 4) (L (Z5 5) (L (Zj c hr.mono (L (Z5 0) (L (Z5 1) (L (Z5 4) (L (Z5 5) Z8))))) Z8)))))) Wg)))))
  (Zh (Y7 (QE (m:=false))))))))))
theorem ii(d:b.F "_law_mix" Gw)(T:TX b)   : Jg b :=
 Yo d E8 (by ext) (λ_ _ _ _ _ _ _ hr=>(by
  unfold Ji;exact(Zb (Zu 2 E8.nd (Zo Wj (Zm Gz (Z4) (Z3 1)) (Z4)))
  (Zb (U6 (Wt TB (Z3 1) (Zv V3 T.b_len (L (Z3 0) Z8)) (Y4 _)) (Zh (Zu 2 E8.nd (Zo Wj (Z3 2) (Zm Gz (Zi Zr (Z3 0) (Z3 1)) (Z4))))) Wg)
  (Zh (Y7 (Zo U4 (Zm Gz (Z3 2) (Z4)) (Z4))))))))
theorem jz(d:b.F "_law_word" Dj)(T:TX b)   : Nu b :=
 Yo d W6 (by ext) (λ_ _ _ _ _ _ _ hr=>(by
  unfold Js;exact(Zb (Zu 2 W6.nd (Y5))
  (Zb (Zu 3 W6.nd (Zo Wj (Z4) (Zm U4 (Z3 0) (Z4))))
  (Zb (Zu 4 W6.nd (Zo U4 (Zm Vl (Z3 0) (Z4)) (Z3 3)))
  (Zb (Zu 5 W6.nd (Y5))
  (Zb (U2 BQ rfl (Wh T.b_range (L (Z3 3) Z8)) (Zs 6 W6.nd) (Zb (Zu 7 W6.nd (Y6))
  (Zb (U6 (Wt (E1 hr.units) (Z3 6) (Z3 4) (Y4 _)) (Zh (Zu 7 W6.nd (Z5 1))) Wg)
  (Zh (Zu 5 W6.nd (Zo Wj (Z3 5) (Zi Zr (Z3 2) (Zm U4 (Zm Wj (Zm Wj (Zm Vl (Z3 0) (Z4)) (Zm Gz (Z4) (Z3 6))) (Zm Gz (Z4) (Z3 7))) (Z4)))))))))
  (Zb (U6 (Wt (QL hr.units) (Z3 5) (Wa (Jq (L (Y5) (L (Y5) (L (Y5) (L (Y5) (L (Y5) Z8))))))) (by rfl)) (Zh (Zu 5 W6.nd (Zo Wj (Th E4 (Z3 5) (Qz (Z4)) Ja) (RU (m:=true))))) Wg)
  (Zh (Y7 (Z5 5)))))))))))
theorem Ct(d:b.F "_law_order" Rc)(T:TX b) (a:Jg b):Kl b :=
 Yo d Vj (by ext) (λ_ _ _ _ _ _ _ hr=>(by
  unfold Qi;exact(Zb (Sl 3 Vj.nd (Jq Z8))
  (Zb (U2 BQ rfl (Wh T.b_range (L (Z3 2) Z8)) (Zs 4 Vj.nd) (Zb (Zu 5 Vj.nd (Zj a hr.mono (L (Z5 0) (L (Zo Wj (Z3 1) (Z3 4)) Z8))))
  (Zb (Zu 6 Vj.nd (Zo U4 (Z3 5) (Zm Wj (Zv V3 T.b_len (L (xo 3) Z8)) (Z4))))
  (Zb (D9 3 PySem.F.slot_list_insert PySem.F.type_list_insert bJ (L (Z5 6) (L (Z5 4) Z8)))
  (Zb (Zu 7 Vj.nd (Zo U4 (Zm Vl (Z3 5) (Z4)) (Zm UJ (Zv V3 T.b_len (L (xo 3) Z8)) (Z3 6))))
  (Zh (D9 3 PySem.F.slot_list_insert PySem.F.type_list_insert bJ (L (Zo Wj (Zm Wj (Z3 6) (Z4)) (Z3 7)) (L (Z5 4) Z8)))))))))
  (Zh (Xq 3))))))
theorem Ac(d:b.F "_law_arrows" Mq)(T:TX b) (a:Jg b):Ga b :=
 Yo d V7 (by ext) (λ_ _ _ _ _ _ _ hr=>(by
  unfold Tp;exact(Zb (Sl 4 V7.nd (Jq Z8))
  (Zb (U2 BQ rfl (Wh T.b_range (L (Z3 2) Z8)) (Zs 5 V7.nd) (Zb (Zu 6 V7.nd (Zj a hr.mono (L (Z5 0) (L (Zo Wj (Z3 1) (Z3 5)) Z8))))
  (Zb (Zu 7 V7.nd (Zo U4 (Z3 6) (Z3 3)))
  (Zb (Zu 8 V7.nd (Zo U4 (Zm Vl (Z3 6) (Z4)) (Z3 3)))
  (Zh (U6 (P5.pt (Ig (Wt (Od hr.units) (Z3 7) (Z3 8) (Y4 _)) (E6 (Wt (B4 hr.units) (Jk (L (Va (eB rfl) T.b_min (L (Z3 7) (L (Z3 8) Z8))) (L (Va (VH rfl) T.b_max (L (Z3 7) (L (Z3 8) Z8))) Z8))) (xo 4) (by rfl))))) (Zh (D9 4 DQ DR Dh (L (Zz (L (Va (eB rfl) T.b_min (L (Z3 7) (L (Z3 8) Z8))) (L (Va (VH rfl) T.b_max (L (Z3 7) (L (Z3 8) Z8))) Z8))) Z8))) Wg))))))
  (Zh (Xq 4))))))
theorem jK(d:b.F "_law_graph" Wx)(T:TX b) (e:Kl b)(a:Jg b)(c:Ga b)(f:Nu b):Ks b :=
 Yo d Zl (by ext) (λ_ _ _ _ _ _ _ hr=>(by
  unfold Qq;refine(Zb (Zu 4 Zl.nd (Zj e hr.mono (L (Z5 0) (L (Z5 1) (L (Z5 2) Z8)))))
  (Zb (Zu 5 Zl.nd (Zo Gz (Z4) (Z3 2)))
  (Zb (Zu 6 Zl.nd (Zj a hr.mono (L (Z5 0) (L (Zo Wj (Z3 1) (Z3 2)) Z8))))
  (Zb (Zu 7 Zl.nd (Zj c hr.mono (L (Z5 0) (L (Zo Wj (Zm Wj (Z3 1) (Z3 2)) (Z4)) (L (Z5 3) (L (Z5 5) Z8))))))
  (Zb (U6 (Wt (E1 hr.units) (Zm U4 (Z3 6) (Z4)) (Z4) (Y4 _)) (Zh (Zu 7 Zl.nd (Zo Wj (Z3 7) (Wa ?c0)))) Wg)
  (Zb (U2 BQ rfl (Wh T.b_range (L (Z3 2) Z8)) (Zs 8 Zl.nd) (Zb (Zu 9 Zl.nd (cB (m:=false) EV HQ PySem.F.type_list_index ci (Z3 4) (L (Z3 8) Z8)))
  (Zb (Zu 10 Zl.nd (Zo Wj (Zm Wj (Z3 9) (Z4)) (cB (m:=true) EV HQ PySem.F.type_list_index ci (Th E4 (Z3 4) (Qz (Zm Wj (Z3 9) (Z4))) Ja) (L (Z3 8) Z8))))
  (Zh (Zu 7 Zl.nd (Zo Wj (Wa ?c1) (Wa (Jq (L (Zz (L (Z5 9) (L (Z5 10) Z8))) Z8)))))))))
  (Zb (c7 11 Zl.nd (Z7 Wx) [none] ["_law_d"] rfl rfl (Rl (Z3 4)) (λ_ _ _ _=>⟨(Zs 0 (by ext)),D0⟩) (by decide))
  (Zb (c7 12 Zl.nd (Z7 Wx) [none] ["_law_d"] rfl rfl (Rl (Z3 4)) (λ_ _ _ _=>⟨(Zs 0 (by ext)),D0⟩) (by decide))
  (Zb (Zu 13 Zl.nd (Y6))
  (Zb (Zu 14 Zl.nd (Zo U4 (Zm Vl (Z3 6) (Z4)) (Z4)))
  (Zb (U2 BQ rfl (Gs (Z5 7)) (Gq (n:=2) rfl (W2 (Zs 15 Zl.nd) (W2 (Zs 16 Zl.nd) Mo))) (Zb (TN 12 (Z3 15) (λ_ _=>rfl) (L (Z5 14) Z8))
  (Zb (TN 11 (Z3 16) (λ_ _=>rfl) (L (Z5 14) Z8))
  (Zb (TN 12 (Z3 16) (λ_ _=>rfl) (L (Zo Wj (Z3 14) (Z4)) Z8))
  (Zb (TN 11 (Z3 15) (λ_ _=>rfl) (L (Zo Wj (Z3 14) (Z4)) Z8))
  (Zb (Zu 13 Zl.nd (Zo SC (Z3 13) (Zm SA (Z4) (Zm Wj (Z3 14) (Z4)))))
  (Zh (Zu 14 Zl.nd (Zo Wj (Z3 14) (Z4))))))))))
  (Zb (Zu 17 Zl.nd (Zo U4 (Zm Vl (Z3 6) (Z4)) (Zm SA (Z4) (Z3 2))))
  (Zb (Zu 18 Zl.nd (Z5 17))
  (Zb (Sl 19 Zl.nd (Jq Z8))
  (Zb (U2 BQ rfl (ZB T.b_enumerate (Z5 4)) (Gq (n:=2) rfl (W2 (Zs 20 Zl.nd) (W2 (Zs 8 Zl.nd) Mo))) (Zb (D9 19 DQ DR Dh (L (Zz (L (Z5 8) (L (Q0 (E1 hr.units) (Zm Xa (Zm Y' (Z3 18) (Z3 8)) (Z4)) (Z4) (Y4 _)) (L (Mr (m:=false) Ju T.b_tuple (L (Wa (dZ Ap T.b_sorted (L (ZT 11 (Z3 20) (λ_ _=>rfl)) Z8))) Z8)) (L (Mr (m:=false) Ju T.b_tuple (L (Wa (dZ Ap T.b_sorted (L (ZT 12 (Z3 20) (λ_ _=>rfl)) Z8))) Z8)) Z8))))) Z8))
  (Zh (Zu 18 Zl.nd (Zo eH (Z3 18) (Zm SA (Z4) (Z3 8)))))))
  (Zb (Zu 21 Zl.nd (Zo U4 (Zm Vl (Z3 6) (Z4)) (Z3 5)))
  (Zb (Sl 19 Zl.nd (WD US (Th E4 (xo 19) (Qz (Z3 21)) Ja) (Th E4 (xo 19) Ja (Qz (Z3 21)))))
  (Zb (Zu 22 Zl.nd (Zo Vl (Z3 6) (Z4)))
  (Zb (Ci 23 Zl.nd (Z7 Wx) [none,some 22,some 0,some 1] cE rfl rfl (Wh T.b_range (L (Z3 2) Z8)) (λ_ _ _ _=>⟨(Zs 0 (by ext)),D0,(Zz (L (Zj f hr.mono (L (Z5 1) (L (Z5 0) Z8))) (L (Zn Zr (Wa (Jq (L (Y5) (L (Y5) Z8)))) (Zm U4 (Zm Vl (Zx a hr.mono (L (Z5 2) (L (Zo Wj (Z3 3) (Z3 0)) Z8))) (Z4)) (Z4))) Z8)))⟩) (by decide))
  (Zh (Y7 (Zz (L (Mr (m:=false) Ju T.b_tuple (L (Z3 23) Z8)) (L (Mr (m:=false) Ju T.b_tuple (L (xo 19) Z8)) (L (Z5 13) (L (Z5 17) Z8))))))))))))))))))))))))))
  case c0=>exact Tf (Z7 Wx) [none,some 7] ["_law_k","_law_pairs"] rfl rfl (Wh T.b_range (L (Zm UJ (Z3 5) (Z4)) Z8)) (λ_ _ _ _=>⟨(Zs 0 (by ext)),(Iy (Wt (B4 hr.units) (Jk (L (Z5 0) (L (Zo Wj (Z3 0) (Z4)) Z8))) (Z3 1) (by rfl))),(Zz (L (Z5 0) (L (Zo Wj (Z3 0) (Z4)) Z8)))⟩) (by decide)
  case c1=>exact Tf (Z7 Wx) [none,some 9,some 10] ["_law_pair_here","_law_one","_law_two"] rfl rfl (Rl (Z3 7)) (λ_ _ _ _=>⟨(Zs 0 (by ext)),(Iy (Wt (Od hr.units) (Z3 0) (Jk (L (Z5 1) (L (Z5 2) Z8))) (Y4 _))),(Z5 0)⟩) (by decide)))
theorem Ls(d:b.F "_law_with_made" Tk)(T:TX b)   : R9 b :=
 Yo d Md (by ext) (λ_ _ _ _ _ _ _ hr=>(by
  unfold V6;exact(Zb (Sl 2 Md.nd (Lk Li T.b_list (L (Zi Zr (Z3 0) (Z4)) Z8)))
  (Zb (Eo 2 (Z3 1) (Zz (L (Zn Zr (Zi Zr (xo 2) (Z3 1)) (Z4)) (L (Y5) Z8))))
  (Zh (Y7 (Zo VQ (Jk (L (Mr (m:=false) Ju T.b_tuple (L (xo 2) Z8)) Z8)) (Th E4 (Z3 0) (Qz (Z4)) Ja))))))))
theorem Ob(d:b.F "_law_new_name" Uc)(T:TX b)   : Su b :=
 Yo d W5 (by ext) (λ_ _ _ _ _ _ _ hr=>(by
  unfold Ud;exact(Zb (Zu 2 W5.nd (Y5))
  (Zb (Ci 3 W5.nd (Z7 Uc) [none] ["_law_wire"] rfl rfl (Rl (Z3 1)) (λ_ _ _ _=>⟨(Zs 0 (by ext)),D0,(Zn Zr (Z3 0) (Z4))⟩) (by decide))
  (Zb (U2 BQ rfl (Wh T.b_range (L (Z4) Z8)) (Zs 4 W5.nd) (Zb (Zu 5 W5.nd (Y5))
  (Zb (U2 BQ rfl (Wh T.b_range (L (Zm Wj (Z4) (Zm U4 (Z3 0) (Z4))) Z8)) (Zs 6 W5.nd) (Zh (Zu 5 W5.nd (Zo Wj (Z3 5) (Zi Zr (Z3 2) (Zm U4 (Zm Wj (Zm Wj (Zm Vl (Z3 0) (Z4)) (Zm Gz (Z4) (Z3 6))) (Z3 4)) (Z4)))))))
  (Zh (U6 (P5.pt (Ig (Wt (B4 hr.units) (Z3 5) (Z3 3) (by rfl)) (E6 (Wt (B4 hr.units) (Z3 5) (Wa (Jq (L (Y5) (L (Y5) (L (Y5) (L (Y5) (L (Y5) Z8))))))) (by rfl))))) (Zh (Y7 (Z5 5))) Wg)))))
  (Zh (Y7 (Y5))))))))
theorem p9(d:b.F "_law_pair" Sy)(T:TX b)   : No b :=
 Yo d S7 (by ext) (λ_ _ _ _ _ _ _ hr=>(by
  unfold Mc;exact(Zb (Sl 2 S7.nd (Lk Li T.b_list (L (Z3 1) Z8)))
  (Zb (e7 3 2 S7.nd rfl (DG rfl) (L (Zm U4 (Z3 0) (Zv V3 T.b_len (L (xo 2) Z8))) Z8))
  (Zh (Y7 (Zz (L (Z5 3) (L (Zn Zr (xo 2) (Zm U4 (Zm Vl (Z3 0) (Z4)) (Zv V3 T.b_len (L (xo 2) Z8)))) Z8)))))))))
theorem jy(d:b.F "_law_good" E2)(T:TX b) (g:XH b)(c:Ik b):Ng b :=
 Yo d Qk (by ext) (λ_ _ _ _ _ _ _ hr=>(by
  unfold Ds;exact(Zb (U2 BQ rfl (Gs (Z5 3)) (Zs 4 Qk.nd) (Zb (Zu 5 Qk.nd (Zj g hr.mono (L (Z5 0) (L (Z5 1) (L (Zn Zr (Z3 4) (Z4)) (L (Zn Zr (Z3 4) (Z4)) (L (Y6) Z8)))))))
  (Zh (U6 (P5.pt (Ig (R3 (Z3 5)) (E6 (P5.pt (L4 (Wt eI (Z3 2) (QE (m:=true)) (Y4 _)) (Nv (Wt (qS hr.units) (Z3 4) (Th E4 (Z3 2) Ja (Qz (Z4))) (Y4 _)))))))) (Zh (Y7 (We))) Wg))))
  (Zb (U6 (Wt eI (Z3 2) (QE (m:=true)) (Y4 _)) (Zh (Y7 (We))) Wg)
  (Zb (U6 (P5.pt (L4 (Bq (R3 (WM (m:=true) (T:="tuple") (Z3 2) (by rfl) T.b_isinstance (by ext) (by rfl) T.b_tuple (by ext)))) (L4 (Wt (Od hr.units) (Zv V3 T.b_len (L (Z3 2) Z8)) (Z4) (Y4 _)) (Nv (Wt (E1 hr.units) (Zi Zr (Z3 2) (Z4)) (Zi Zr (Z3 2) (Z4)) (Y4 _)))))) (Zh (Y7 (We))) Wg)
  (Zb (U2 BQ rfl (Gs (J9 E4 (Z3 2) Ja (Qz (Z4)))) (Zs 6 Qk.nd) (Zb (U6 (P5.pt (L4 (Bq (R3 (WM (m:=true) (T:="int") (Z3 6) (by rfl) T.b_isinstance (by ext) (by rfl) T.b_int (by ext)))) (L4 (R3 (WM (m:=true) (T:="bool") (Z3 6) (by rfl) T.b_isinstance (by ext) (by rfl) T.b_bool (by ext))) (Nv (Bq (ir gI TB (Z4) (Z3 6) (Zv V3 T.b_len (L (Zi Zr (Z3 0) (Z4)) Z8)))))))) (Zh (Y7 (We))) Wg)
  (Zh (U6 (Wt (Od hr.units) (Zi Zr (Zi Zr (Zi Zr (Z3 0) (Z4)) (Zi Zr (Zi Zr (Zi Zr (Z3 0) (Z4)) (Z3 6)) (Z4))) (Z4)) (RU (m:=true)) (Y4 _)) (Zh (Y7 (We))) Wg))))
  (Zh (Y7 (hY (m:=false) (b9 (m:=true) (E1 hr.units) (Zi Zr (Z3 2) (Z4)) (Zx c hr.mono (L (Z5 0) (L (Z5 1) (L (Zn Zr (Z3 2) (Z4)) (L (Zn Zr (Z3 2) (Z4)) Z8))))) (Y4 _)) (dn (Zj g hr.mono (L (Z5 0) (L (Z5 1) (L (Zn Zr (Z3 2) (Z4)) (L (Zn Zr (Z3 2) (Z4)) (L (Y6) Z8))))))))))))))))
theorem A9(d:b.F "_law_spoilt" Mn)(T:TX b)   : G6 b :=
 Yo d W8 (by ext) (λ_ _ _ _ _ _ _ hr=>(by
  unfold Tq;exact(Zb (Sl 2 W8.nd (Lk Li T.b_list (L (Zi Zr (Z3 0) (Z4)) Z8)))
  (Zb (Zu 3 W8.nd (Zo U4 (Z3 1) (Zv V3 T.b_len (L (xo 2) Z8))))
  (Zb (Zu 4 W8.nd (Zo U4 (Zm Vl (Z3 1) (Z4)) (Zv V3 T.b_len (L (xo 2) Z8))))
  (Zb (mV (Zn Zr (xo 2) (Z3 4)) (Gq (n:=4) rfl (W2 (Zs 5 W8.nd) (W2 (Zs 6 W8.nd) (W2 (Zs 7 W8.nd) (W2 (Zs 8 W8.nd) Mo))))))
  (Zb (Eo 2 (Z3 4) (Zz (L (Z5 5) (L (Z5 6) (L (Mr (m:=false) Ju T.b_tuple (L (Wa (Cv (by rfl) T.b_sorted (by rfl) T.b_set (L (Zm VQ (Z3 7) (Zi Zr (Zi Zr (xo 2) (Z3 3)) (Z4))) Z8))) Z8)) (L (Z5 8) Z8))))))
  (Zh (Y7 (Zz (L (Zn Zr (Z3 0) (Z4)) (L (Mr (m:=false) Ju T.b_tuple (L (xo 2) Z8)) (L (Zn Zr (Z3 0) (Z4)) (L (Zn Zr (Z3 0) (Z4)) Z8))))))))))))))
theorem A0(d:b.F "_law_fields" Tx)(T:TX b)   : Du b :=
 bt d E5 (by ext) (λ_ _ _ _ _ _ _ hr hd=>(by
  unfold Gi;refine(Zb (Zu 1 E5.nd (Vu (Jq (L (OW (m:=false) (tx:="Broken") (sb:=Mh J2 "Broken") (Z3 0) T.i_0 T.b_isinstance) (L (OW (m:=false) (tx:="Crowded") (sb:=Mh J2 "Crowded") (Z3 0) T.i_1 T.b_isinstance) (L (OW (m:=false) (tx:="CalledOff") (sb:=Mh J2 "CalledOff") (Z3 0) T.i_3 T.b_isinstance) (L (OW (m:=false) (tx:="TooMany") (sb:=Mh J2 "TooMany") (Z3 0) T.i_2 T.b_isinstance) Z8)))))))
  (Zb (U6 (P5.pt (L4 (Wt (Od hr.units) (Zv (kH hd.n) T.b_sum (L (Wa ?c0) Z8)) (Z4) (Y4 _)) (Nv (Bq (R3 (ql (m:=true) (sb:=B2 J2) (Z3 0) T.b_ValueError (by ext) (by ext) T.j_ValueError T.b_isinstance)))))) (Zh (Y7 (Zz (L (Y5) Z8)))) Wg)
  (Zb (U6 (R3 (OW (m:=true) (tx:="CalledOff") (sb:=Mh J2 "CalledOff") (Z3 0) T.i_3 T.b_isinstance)) (Zh (Y7 (Zz (L (Y5) (L (Vu (Lk Li T.b_list (L (UE (m:=true) (okc:=Vd J2) (Z5 0) T.f_way) Z8))) (L (UE (m:=false) (okc:=Vd J2) (Z5 0) T.f_lost) (L (UE (m:=false) (okc:=Vd J2) (Z5 0) T.f_by) Z8))))))) Wg)
  (Zb (U6 (R3 (OW (m:=true) (tx:="TooMany") (sb:=Mh J2 "TooMany") (Z3 0) T.i_2 T.b_isinstance)) (Zh (Y7 (Zz (L (Y5) Z8)))) Wg)
  (Zh (Y7 (Zz (L (Zn Zr (Wa (Jq (L (Y5) (L (Y5) Z8)))) (Mr (m:=true) d4 T.b_int (L (OW (m:=true) (tx:="Crowded") (sb:=Mh J2 "Crowded") (Z3 0) T.i_1 T.b_isinstance) Z8))) (L (Vu (Lk Li T.b_list (L (UE (m:=true) (okc:=Vd J2) (Z5 0) T.f_way) Z8))) Z8)))))))))
  case c0=>exact g8 (Z7 Tx) [none] ["_law_one"] rfl hd (gi (Z3 1)) (λ_ _ _ _=>⟨(Zs 0 (by ext)),D0,(Mr (m:=false) d4 T.b_int (L (Z3 0) Z8))⟩) (by decide)))
theorem Xy(d:b.F "_law_refusal" J8)(T:TX b) (a:Kf b)(c:X0 b)(e:Du b):Do b :=
 Yo d Uf (by ext) (λ_ _ _ _ _ _ _ hr=>(by
  unfold V2;exact(Zb (Zu 4 Uf.nd (Zz (L (Y5) Z8)))
  (Zb (kl (i:=5) (sub:=Vd J2) (λ_ _=>(Zh (U6 (Wt (E1 hr.units) (Z3 0) (Z4) (Y4 _)) (Zh (Oh (Np a hr.mono (L (Z5 1) (L (Z5 3) Z8))))) (Zh (Oh (Np c hr.mono (L (Z5 1) (L (Z5 2) (L (Z5 3) Z8))))))))) (λ_ _=>(fy 4 Uf.nd rfl (DG rfl) e (hr.n.mono (by lia)).mark (L (Z5 5) Z8))) T.k_8 Uf.nd rfl (DG rfl))
  (Zh (Y7 (Z5 4)))))))
theorem Sz(d:b.F "_law_refused_alike" Vz)(T:TX b) (a:Kf b)(c:Do b)(e:G6 b):Q3 b :=
 Yo d Ym (by ext) (λ_ _ _ _ _ _ _ hr=>(by
  unfold Vr;exact(Zb (Zu 3 Ym.nd (Va V3 T.b_len (L (VB (m:=true) a hr.mono (L (Z5 0) (L (Y6) Z8))) Z8)))
  (Zb (U2 BQ rfl (Gs (Vu (Jq (L (Zz (L (Zj e hr.mono (L (Z5 0) (L (Z5 2) Z8))) (L (Y6) Z8))) (L (Zz (L (Z5 0) (L (Va (VH rfl) T.b_max (L (Z4) (L (Zm UJ (Zm UJ (Z3 3) (Z4)) (Zm U4 (Zm Vl (Z3 2) (Z4)) (Z4))) Z8))) Z8))) Z8))))) (Gq (n:=2) rfl (W2 (Zs 4 Ym.nd) (W2 (Zs 5 Ym.nd) Mo))) (Zb (Zu 6 Ym.nd (Zj c hr.mono (L (Y6) (L (Z5 4) (L (Z5 1) (L (Z5 5) Z8))))))
  (Zh (U2 BQ rfl (Gs (Vu (Jq (L (Z5 1) (L (Zn Zr (Zi Zr (Zi Zr (Z3 0) (Z4)) (Z4)) (Z4)) (L (Y5) Z8)))))) (Zs 7 Ym.nd) (Zh (U6 (P5.pt (Ig (Wt (Od hr.units) (Z3 6) (Jk (L (Y5) Z8)) (Y4 _)) (E6 (Wt (Od hr.units) (Zx c hr.mono (L (Y6) (L (Z5 4) (L (Z5 7) (L (Z5 5) Z8))))) (Z3 6) (Y4 _))))) (Zh (Y7 (We))) Wg))))))
  (Zh (Y7 (We)))))))
theorem fS{f:A2}(d:LY b.K "law" "law" Dm f fd)(T:TX b) (a:Jg b)(j:R9 b)(e:Su b)(c:X0 b)(i:Ks b)(k:No b)(h:Q3 b)(l:Ng b)(hl:∀ ns:Z Int,ns.length<=63->ZZ [.lst (ns.map .int)]=.ok (.bl true)):J3 b.P b.w b.K b.mg b.base Et 13 f fd M' (QS b.K) :=
 l6 (N:=bQ) (ps:=M') (st:=Dm) (g:=TD) d Sd rfl (λ_ _ _ _ _ _ hr=>(by
  unfold TD;exact(Zb (Zu 1 Sd.nd (Zn Zr (Wa (Jq (L (Y6) (L (Y6) (L (Y6) (L (Y6) Z8)))))) (Zm U4 (Zx a hr.mono (L (Z5 0) (L (Y6) Z8))) (Z4))))
  (Zb (Zu 2 Sd.nd (Zj a hr.mono (L (Z5 0) (L (Y6) Z8))))
  (Zb (Zu 3 Sd.nd (Zj j hr.mono (L (Zj i hr.mono (L (Z5 0) (L (Y6) (L (Z5 1) (L (Zo U4 (Zx a hr.mono (L (Z5 0) (L (Y6) Z8))) (Z4)) Z8))))) (L (Zo U4 (Zm Vl (Z3 2) (Z4)) (Z3 1)) Z8))))
  (Zb (Ci 4 Sd.nd (Z7 Dm) [none,none,some 3] XN rfl rfl (XV T.b_enumerate (Zi Zr (Z3 3) (Z4))) (λ_ _ _ _=>⟨(Gq (n:=2) rfl (W2 (Zs 0 (by ext)) (W2 (Zs 1 (by ext)) Mo))),(Iy (Wt (E1 hr.units) (Zi Zr (Zi Zr (Zi Zr (Z3 2) (Z4)) (Zi Zr (Z3 1) (Z4))) (Z4)) (RU (m:=true)) (Y4 _))),(Z5 0)⟩) (by decide))
  (Zb (Zu 5 Sd.nd (Zj e hr.mono (L (Zo Vl (Z3 2) (Z4)) (L (Zn Zr (Z3 3) (Z4)) Z8))))
  (Zb (Zu 6 Sd.nd (Vu (Jq (L (Zj k hr.mono (L (Zo Vl (Z3 2) (Z4)) (L (Z5 4) Z8))) (L (Zj k hr.mono (L (Zo Vl (Z3 2) (Z4)) (L (Z5 4) Z8))) Z8)))))
  (Zb (U6 (Bq (R3 (Zx h hr.mono (L (Z5 3) (L (Z5 5) (L (Zo Vl (Z3 2) (Z4)) Z8)))))) (Zh (Y7 (We))) Wg)
  (Zb (Zu 7 Sd.nd (VB (m:=false) c hr.mono (L (Z5 3) (L (Z5 5) (L (Y6) Z8)))))
  (Zb (U6 (Bq (R3 (Zx l hr.mono (L (Z5 3) (L (Z5 5) (L (Z5 7) (L (Z5 6) Z8))))))) (Zh (Y7 (We))) Wg)
  (Zb (U6 (Wt (E1 hr.units) (Z3 1) (Z4) (Y4 _)) (Zh (Y7 (We))) Wg)
  (Zb (Zu 8 Sd.nd (Zj i hr.mono (L (Z5 0) (L (Y6) (L (Y6) (L (Y6) Z8))))))
  (Zb (Cf (VB (m:=true) c hr.mono (L (Z5 8) (L (Zj e hr.mono (L (Z5 2) (L (Zn Zr (Z3 8) (Z4)) Z8))) (L (Y6) Z8)))))
  (Zh (Y7 (Q0 (E1 hr.units) (VB (m:=true) c hr.mono (L (Z5 3) (L (Z5 5) (L (Y6) Z8)))) (Z3 7) (Y4 _)))))))))))))))))) hl
end
end K75
variable{p:Nat×Nat}{z:PySem.Str}{m:Nat}
namespace L2
open PySem PySem.Spec PyProof.Rows
def Gd(r:Fl)(N:Ev->Prop)(R:Dat->Prop):Prop:=match r with
 | .next e=>N e
 | .ret d=>R d
 | _=>False
structure Go (r:Fl) (N:Ev->Prop) (R:Dat->Prop):Prop where
 of:Gd r N R
section
variable{g:Ev->Fl}{d:Dat}
theorem Go.mono{N':Ev->Prop}{g:Dat->Prop}(q:Go r N R)(hN:∀ e,N e->N' e)(hR:∀ d,R d->g d):Go r N' g:=by
 cases r with
 | next e=>exact⟨hN e q.of⟩
 | ret d=>exact⟨hR d q.of⟩
 | _=>exact q.of.elim
theorem Yh(q:N env):Go (Vv env) N R:=⟨q⟩
theorem Z9(q:Go (g env) (λe=>Go (h e) N R) R):Go (Zf g h env) N R:=by
 unfold Zf;cases e:g env with
 | next e'=>rw[e] at q;exact q.of
 | ret d=>rw[e] at q;exact⟨q.of⟩
 | _=>rw[e] at q;exact q.of.elim
theorem Zk(e:f env=some d)(q:N (env.set i (.fz d))):Go (Y2 i f env) N R:=by unfold Y2;rw[e];exact⟨q⟩
theorem Q8(e:fs env=some ds)(q:N (env.set i (.ow ds))):Go (Ex i fs env) N R:=by unfold Ex;rw[e];exact⟨q⟩
theorem go_ret(e:f env=some d)(q:R d):Go (Yg f env) N R:=by unfold Yg;rw[e];exact⟨q⟩
theorem Ku(e:env[i]?=some (.ow ds))(q:R (.lst ds)):Go (Kz i env) N R:=by unfold Kz;rw[e];exact⟨q⟩
theorem dH(e:t env=some true)(q:Go (g env) N R):Go (Qt t g h env) N R:=by unfold Qt;rw[e];exact q
theorem Vs(e:t env=some false)(q:Go (h env) N R):Go (Qt t g h env) N R:=by unfold Qt;rw[e];exact q
theorem Sr{b:Bool}(e:t env=some b)(M:b=true->Go (g env) N R)(q2:b=false->Go (h env) N R):Go (Qt t g h env) N R:=by
 cases b with
 | true=>exact dH e (M rfl)
 | false=>exact Vs e (q2 rfl)
theorem kI(e:f env=some d)(e2:gg d env=some env')(q:N env'):Go (RJ f gg env) N R:=by
 unfold RJ;rw[e];dsimp only[Option.bind];rw[e2];exact⟨q⟩
theorem Jr{F:Z Dat->Z Dat->C1 (Z Dat)}{ds':Z Dat}(e:env[i]?=some (.ow ds))(e2:fs env=some as)(e3:F ds as=some ds')(q:N (env.set i (.ow ds'))):Go (Sn i F fs env) N R:=by
 unfold Sn;rw[e];dsimp only;rw[e2];dsimp only[Option.bind];rw[e3];exact⟨q⟩
theorem bZ(P:Nat->Ev->Prop):∀ (ds:Z Dat) (k:Nat) (env:Ev),P k env->(∀ i d e,ds[i]?=some d->P (k+i) e->∃ e1,gg d e=some e1/\Go (g e1) (P (k+i+1)) R)->(∀ e,P (k+ds.length) e->N e)->Go (Oe gg g ds env) N R
 | [],k,env,h0,_,hN=>⟨hN env h0⟩
 | d::ds,k,env,h0,hs,hN=>by
  obtain⟨e1,a1,a2⟩:=hs 0 d env rfl h0;rw[Oe,a1];dsimp only;cases e:g e1 with
  | next e' =>
   rw[e] at a2;exact bZ P ds (k+1) e' a2.of (λi d e hi hp=>by
    have:=hs (i+1) d e (by simpa using hi) (by rw[show k+(i+1)=k+1+i by lia];exact hp);rw[show k+1+i+1=k+(i+1)+1 by lia];exact this) (λe hp=>hN e (by rw[BH,show k+(ds.length+1)=k+1+ds.length by lia];exact hp))
  | ret d'=>rw[e] at a2;exact⟨a2.of⟩
  | _=>rw[e] at a2;exact a2.of.elim
theorem V4(P:Nat->Ev->Prop)(e:src env=some ds)(h0:P 0 env)(hs:∀ i d e,ds[i]?=some d->P i e->∃ e1,gg d e=some e1/\Go (g e1) (P (i+1)) R)(hN:∀ e,P ds.length e->N e):Go (Uy src gg g env) N R:=by
 unfold Uy;rw[e];exact bZ P ds 0 env h0 (λi d e hi hp=>by simpa using hs i d e hi (by simpa using hp)) (λe hp=>hN e (by simpa using hp))
theorem Go.ne(q:Go r N R):r≠.no:=λz=>by rw[z] at q;exact q.of
theorem iX(W:Nat->Ev->Prop)(h0:W n env)(hs:∀ n e,W n e->(t e=some false/\N e)\/(t e=some true/\Go (g e) (λe'=>∃ m,m<n/\W m e') R)):Go (D7 t g env) N R:=by
 have ah:∀ n e,W n e->Go (V1 t g (n+1) e) N R:=by
  intro n;induction n using strongRecOn with
  | _ n ih =>
   intro e hw;rcases hs n e hw with⟨a,b⟩ | ⟨a,b⟩
   ·rw[V1,a];exact⟨b⟩
   ·rw[V1,a]
    dsimp only;cases eg:g e with
    | next e' =>
     rw[eg] at b;obtain⟨m,hm,f⟩:=b.of;have q:=ih m hm e' f;dsimp only;have:=Ur (n - (m+1)) q.ne;rw[show m+1+(n - (m+1))=n by lia] at this;rw[this];exact q
    | ret d=>rw[eg] at b;exact⟨b.of⟩
    | _=>rw[eg] at b;exact b.of.elim
 have q:=ah n env h0;rw[Bh q.ne];exact q
theorem Y1{p:Nat}(hp:ds.length=p)(q:Go (g (Ui n ds)) (λ_=>R .non) R):∃ d,Y9 n p g ds=.ok d/\R d:=by
 unfold Y9;rw[AF hp];cases e:g (Ui n ds) with
 | next e'=>rw[e] at q;exact⟨_,rfl,q.of⟩
 | ret d=>rw[e] at q;exact⟨_,rfl,q.of⟩
 | _=>rw[e] at q;exact q.of.elim
end
variable{z:α}
theorem U9{d:Dat}(h:(rng lo n)[i]?=some d):i<n/\d=.int (lo+i):=by
 unfold rng at h;rw[AM] at h;by_cases hi:i<n
 ·rw[GE hi] at h
  exact⟨hi,(BF h).symm⟩
 ·rw[EJ (by simpa using hi)] at h
  cases h
theorem Wi(h:fs env=some [.int n])(hn:n<=100000):Uo fs env=some (rng 0 n):=by
 unfold Uo;rw[h];dsimp only;rw[AF ⟨by lia,by lia,by rw[EF];simp;lia⟩,BP]
theorem Oj{i:Int}(h:PL i j):Km (.int i) (.int j)=some (.int (i*j)):=AF h
theorem bd{i:Int}(h:0<j):T5 (.int i) (.int j)=some (.int (i % j)):=AF h
theorem p4{i:Int}(h:SI i j):Vw (.int i) (.int j)=some (.int (i / j)):=AF h
theorem Z6{F:Dat->Dat->C1 α}{g:Zzu}{y:Dat}(h1:f env=some x)(h2:g env=some y)(h3:F x y=some z):dO F f g env=some z:=by unfold dO;rw[h1,h2];exact h3
theorem Yv{F:Z Dat->C1 α}(h1:fs env=some xs)(h3:F xs=some z):dF F fs env=some z:=by unfold dF;rw[h1];exact h3
theorem Z2(h1:f env=some x)(h2:fs env=some xs):O f fs env=some (x::xs):=by unfold O;rw[h1,h2];rfl
theorem Ze{d:Dat}(h1:fs env=some xs)(h2:F xs=.ok d):Zq F fs env=some d:=by unfold Zq;rw[h1];show VM (F xs)=_;rw[h2];rfl
theorem Ya{b:Bool}(h:f env=some (.bl b)):dB f env=some b:=by unfold dB;rw[h]
theorem dv(z:Str)(ws:Z Str):(ws.map Dat.str).any (λy=>Mt y (.str z))=decide (z∈ws):=by
 induction ws with
 | nil=>simp
 | cons w ws ih =>
  rw[CC,HD,ih];have:Mt (.str w) (.str z)=(w==z):=by unfold Mt;rfl
  rw[this];by_cases e:w=z
  ·subst e;simp
  ·have e':(w==z)=false:=by simpa using e
   have e2:¬ z=w:=λq=>e q.symm
   rw[e'];simp[e2]
theorem YD(n:Nat)(z:Str):pd n (.str z)=true:=by cases n<;>rfl
theorem ZP(ws:Z Str):(ws.map Dat.str).all (pd 20)=true:=by
 induction ws with
 | nil=>rfl
 | cons w ws ih=>rw[CC,all_cons,ih,YD];rfl
theorem d7(z:Str)(ws:Z Str):MY (.str z) (.lst (ws.map .str))=some (decide (z∈ws)):=by
 unfold MY;dsimp only;rw[ZP,YD,KW,AF rfl,dv]
theorem en(z:Str)(ws:Z Str):MY (.str z) (.tup (ws.map .str))=some (decide (z∈ws)):=by
 unfold MY;dsimp only;rw[ZP,YD,KW,AF rfl,dv]
theorem ZS(z:Str)(ws:Z Str):ME (.str z) (.lst (ws.map .str))=some (.bl (decide (z∈ws))):=by unfold ME;rw[d7];rfl
theorem gG(z:Str)(ws:Z Str):ME (.str z) (.tup (ws.map .str))=some (.bl (decide (z∈ws))):=by unfold ME;rw[en];rfl
theorem Qc{a b:Bool}(h1:t env=some a)(h2:a=false->u env=some b):G5 t u env=some (a||b):=by
 unfold G5;rw[h1];cases a with
 | true=>rfl
 | false=>exact h2 rfl
theorem Ua{a b:Bool}(h1:t env=some a)(h2:a=true->u env=some b):R7 t u env=some (a&&b):=by
 unfold R7;rw[h1];cases a with
 | false=>rfl
 | true=>exact h2 rfl
theorem D3{F:Dat->C1 Int->C1 Int->C1 Dat}{l h:Ev->C1 (C1 Int)}{z:Dat}{a b:C1 Int}(h1:f env=some x)(h2:l env=some a)(h3:h env=some b)(h4:F x a b=some z):dS F f l h env=some z:=by
 unfold dS;rw[h1,h2,h3];exact h4
theorem Vx{i:Int}(h:f env=some (.int i)):Q7 f env=some (some i):=by unfold Q7;rw[h]
theorem Wd{j:Nat}(h:xs[j]?=some x):Yf (.lst xs) (.int j)=some x:=Kv h
theorem Sh{j:Nat}(h:xs[j]?=some x):Yf (.tup xs) (.int j)=some x:=Kv h
theorem iR(x y:Dat)(h0:0<=j)(h1:j<2):Yf (.lst [x,y]) (.int j)=some (if j=1 then y else x):=by
 rcases(show j=0\/j=1 by lia) with rfl | rfl<;>rfl
theorem Y3(h:fs env=some xs)(hl:xs.length<=1000):Wk fs env=some (.tup xs):=by unfold Wk;rw[h];exact AF hl
theorem Qs{d:Dat}(h:ds.length<=1000):Ug ds [d]=some (ds++[d]):=AF (EY h (by decide))
abbrev Ez(ns:Z Int):Dat:=.lst (ns.map .int)
abbrev Vm:Str:="abcdefghijklmnopqrstuvwxyz"
theorem j5:cl Vm=List.range' 97 26:=by ext
theorem nO(h0:0<=j)(h1:j<26):B0 (cl Vm) j=some (97+j.toNat):=by
 obtain⟨n,rfl⟩:∃ n:Nat,j=n:=⟨j.toNat,(Int.toNat_of_nonneg h0).symm⟩;refine Kv ?_;rw[j5,List.getElem?_range' (by lia)];simp
theorem Xi(h0:0<=j)(h1:j<26):Yf (.str Vm) (.int j)=some (.str ⟨#[97+j.toNat]⟩):=by
 show(B0 (cl Vm) j).map _=_;rw[nO h0 h1];rfl
theorem Bo{x y:Str}(h:x.length+y.length<=1000):Wu (.str x) (.str y)=some (.str (x++y)):=AF (BC h (by decide))
theorem iz:OQ "int" "bool" = some false:=by ext
theorem gs:OQ "int" "int" = some true:=by ext
theorem WI{d:Dat}{t:String}{b:Bool}(h:f env=some d)(ht:VT d=some t)(Y:OQ t T=some b):dI T f env=some (.bl b):=by
 unfold dI;rw[h];show(UA T d).map _=_;unfold UA;rw[ht];show Option.map _ (OQ t T)=_;rw[Y];rfl
theorem Qd{b:Bool}(h:f env=some (.bl b)):dT f env=some b:=by unfold dT;rw[h];rfl
theorem M7{b:Bool}(h:t env=some b):Mb t env=some (!b):=by unfold Mb;rw[h];rfl
theorem Wl{r:Rs}{s:Dat}(h:∃ d,r=.ok d/\d=s):r=.ok s:=by obtain⟨d,e,rfl⟩:=h;exact e
theorem mn(i:Str):Dp (.str i) (.str i)=some (.bl true):=by unfold Dp;rw[AF (by rfl)];unfold Mt;simp
theorem Wp{g:Zzv}(h:g env=some ds):dL g env=some (.lst ds):=by unfold dL;rw[h];rfl
theorem W9{fs:Z (C1 Nat)}(h1:src env=some xs)(h2:To fs env=env')(h3:Wm g t f env' xs=some ys):Vn src fs g t f env=some ys:=by
 unfold Vn;rw[h1,h2];exact h3
theorem Bu(h:f env=some (.tup xs)):Uj f env=some xs:=by unfold Uj;rw[h]
theorem cq(h:f env=some (.tup xs)):Xt f env=some (Jl 0 xs):=by unfold Xt;rw[Bu h];rfl
theorem Uu(D:α->Dat)(y:α->Dat):∀ (xs:Z α),(∀ x∈xs,∃ e1,g (D x) env=some e1/\t e1=some true/\f e1=some (y x))->Wm g t f env (xs.map D)=some (xs.map y)
 | [],_=>rfl
 | x::xs,h=>by
  obtain⟨e1,a1,a2,a3⟩:=h x AW;have ih:=Uu D y xs λz hz=>h z (AV _ hz)
  rw[CC,Wm,a1];dsimp only[Option.bind];rw[a2];dsimp only;rw[AF rfl,a3];dsimp only;rw[ih];rfl
theorem ZK(b:Bool):Dp (.str (if b then "made" else "given")) (.str "made")=some (.bl b):=by
 cases b
 ·show Dp (.str "given") (.str "made")=_
  unfold Dp;rw[AF (by rfl)];unfold Mt;rw[show(("given" : Str)=="made")=false by ext]
 ·exact mn _
theorem WY(i j:Bool):Dp (.bl i) (.bl j)=some (.bl (i==j)):=rfl
theorem N1(a b:Nat):Builtin.bitOr (a:Int) (b:Int)=((a ||| b:Nat):Int):=by
 unfold Builtin.bitOr Builtin.bitAnd Builtin.bitNot;have h1:decide (0<=-(a:Int) - 1)=false:=by simp;lia
 have h2:decide (0<=-(b:Int) - 1)=false:=by simp;lia
 rw[h1,h2];dsimp only;rw[show(-(-(a:Int) - 1) - 1).toNat=a by lia,show(-(-(b:Int) - 1) - 1).toNat=b by lia];lia
theorem Rx(a b:Nat):Builtin.bitAnd (a:Int) (b:Int)=((a &&& b:Nat):Int):=by
 unfold Builtin.bitAnd;rw[show decide (0<=(a:Int))=true by simp,show decide (0<=(b:Int))=true by simp];simp
def H3(ps:Z Nat):Nat:=ps.foldl (λa p=>a ||| 2^p) 0
theorem nB(ps:Z Nat):∀ (a j:Nat),(ps.foldl (λa p=>a ||| 2^p) a).testBit j=(a.testBit j||decide (j∈ps)):=by
 induction ps with
 | nil=>intro a j;simp
 | cons p ps ih =>
  intro a j;rw[List.foldl_cons,ih,FX,GZ];by_cases h:j=p
  ·subst h;simp
  ·have h':¬ p=j:=λe=>h e.symm
   simp[h,h']
theorem Ww(ps:Z Nat)(j:Nat):(H3 ps).testBit j=decide (j∈ps):=by unfold H3;rw[nB];simp
theorem hQ(ps:Z Nat):(ps.map λp:Nat=>(p:Int)).map Dat.int=ps.map λp:Nat=>Dat.int (p:Int):=by rw[EX];rfl
abbrev Zd(ps:Z Nat):Z Dat:=(ps.map λp:Nat=>(p:Int)).map Dat.int
theorem RV(p:Nat)(hp:p<=1000):OJ (.int 1) (.int (p:Int))=some (.int ((2^p:Nat):Int)):=by
 have:OJ (.int 1) (.int (p:Int))=some (.int (1*2^((p:Int)).toNat)):=AF ⟨by lia,by lia,by decide⟩;rw[this,BP,Int.one_mul];congr 2
theorem eM(n:Nat)(i:Int):pd n (.int i)=true:=by cases n<;>rfl
theorem pd_nats(ps:Z Nat):(Zd ps).all (pd 20)=true:=CW.mpr λx hx=>by
 obtain⟨i,_,rfl⟩:=CL.mp hx;exact eM 20 i
theorem ck(p:Nat)(ps:Z Nat):MY (.int (p:Int)) (.lst (Zd ps))=some (decide (p∈ps)):=by
 unfold MY;dsimp only;rw[pd_nats,eM,KW,AF rfl];congr 1
 rw[FF,IZ,CK];constructor
 ·rintro⟨x,hx,he⟩
  obtain⟨i,hi,rfl⟩:=CL.mp hx;obtain⟨q,hq,rfl⟩:=CL.mp hi;have:((q:Int)==(p:Int))=true:=by unfold Mt at he;exact he
  have:q=p:=by have h9:=eq_of_beq this;lia
  exact this▸hq
 ·intro h
  refine⟨.int (p:Int),GF (GF h),?_⟩;unfold Mt;simp
theorem eS(p:Nat)(ps:Z Nat):Hf (.int (p:Int)) (.lst (Zd ps))=some (.bl (!decide (p∈ps))):=by unfold Hf;rw[ck];rfl
theorem pY(bs:Z Bool):RF [.lst (bs.map .bl)]=some (.bl (bs.all id)):=by unfold RF;dsimp only;rw[bO];rfl
theorem Xf(a b:Nat):Builtin.bitXor (a:Int) (b:Int)=((a ^^^ b:Nat):Int):=by
 unfold Builtin.bitXor;rw[N1,Rx];have ah:∀ (x y:Nat),x ||| y=(x ^^^ y)+(x &&& y):=by
  intro x;induction x using strongRecOn with
  | _ x ih =>
   intro y;by_cases hx:x=0
   ·subst hx;simp
   ·have h:=ih (x / 2) (by lia) (y / 2)
    have e1:x ||| y=2*(x / 2 ||| y / 2)+(x ||| y) % 2:=by rw[← Nat.or_div_two];lia
    have e2:x ^^^ y=2*(x / 2 ^^^ y / 2)+(x ^^^ y) % 2:=by rw[← Nat.xor_div_two];lia
    have e3:x &&& y=2*(x / 2 &&& y / 2)+(x &&& y) % 2:=by rw[← Nat.and_div_two];lia
    have e4:(x ||| y) % 2=(x ^^^ y) % 2+(x &&& y) % 2:=by
     have t1:∀ z:Nat,z % 2=(z.testBit 0).toNat:=λz=>by rw[Nat.testBit_zero];by_cases q:z % 2=1<;>simp[q];lia
     rw[t1,t1,t1,FX,GW,EE];cases x.testBit 0<;>cases y.testBit 0<;>rfl
    lia
 have:=ah a b;lia
theorem Hc(a b:Nat):∃ c:Nat,Builtin.bitAnd (a:Int) (-(b:Int) - 1)=(c:Int)/\∀ j,c.testBit j=(a.testBit j&&!b.testBit j):=by
 refine⟨a ^^^ (a &&& b),?_,λj=>by rw[GW,EE];cases a.testBit j<;>cases b.testBit j<;>rfl⟩;have hx:=Xf a (a &&& b);unfold Builtin.bitXor at hx;rw[N1,Rx] at hx;have e1:a ||| (a &&& b)=a:=DJ λj=>by rw[FX,EE];cases a.testBit j<;>cases b.testBit j<;>rfl
 have e2:a &&& (a &&& b)=a &&& b:=DJ λj=>by rw[EE,EE];cases a.testBit j<;>cases b.testBit j<;>rfl
 rw[e1,e2] at hx;rw[← hx];unfold Builtin.bitAnd Builtin.bitNot;have h1:decide (0<=(a:Int))=true:=by simp
 have h2:decide (0<=-(b:Int) - 1)=false:=by simp;lia
 rw[h1,h2];dsimp only;rw[show(-(-(b:Int) - 1) - 1).toNat=b by lia,BP]
theorem cb(n j:Nat):QK (.int (n:Int)) (.int (j:Int))=some (.int ((n / 2^j:Nat):Int)):=by
 have:QK (.int (n:Int)) (.int (j:Int))=some (.int ((n:Int) / 2^((j:Int)).toNat)):=by unfold QK Ai;dsimp only;rw[AF (by lia)]
 rw[this,BP];congr 2
theorem d3(n j:Nat):Fs (.int ((n / 2^j:Nat):Int)) (.int 1)=some (.int (if n.testBit j then 1 else 0)):=by
 show some (Dat.int (Builtin.bitAnd ((n / 2^j:Nat):Int) ((1:Nat):Int)))=_;rw[Rx,Nat.and_one_is_mod,Nat.testBit_eq_decide_div_mod_eq];generalize n / 2^j=q;congr 2
 rcases(show q % 2=0\/q % 2=1 by lia) with h | h<;>simp[h]
theorem SY(a b:Nat):Fs (.int (a:Int)) (.int (b:Int))=some (.int ((a &&& b:Nat):Int)):=by
 show some (Dat.int (Builtin.bitAnd _ _))=_;rw[Rx]
theorem RZ(a b:Nat):PF (.int (a:Int)) (.int (b:Int))=some (.int ((a ||| b:Nat):Int)):=by
 show some (Dat.int (Builtin.bitOr _ _))=_;rw[N1]
theorem cV(a b:Nat):UH (.int (a:Int)) (.int (b:Int))=some (.int ((a ^^^ b:Nat):Int)):=by
 show some (Dat.int (Builtin.bitXor _ _))=_;rw[Xf]
theorem ml(b:Bool):Dp (.int (if b then 1 else 0)) (.int 1)=some (.bl b):=by cases b<;>rfl
theorem QC(a b:Nat):Dp (.int (a:Int)) (.int (b:Int))=some (.bl (a==b)):=by
 show some (Dat.bl ((a:Int)==(b:Int)))=_;congr 2
 rw[FF,DO,DO];lia
theorem ZI(i j:Int):Hz (.int i) (.int j)=some (.bl (!(i==j))):=rfl
theorem jO(bs:Z Bool):RX [.lst (bs.map .bl)]=some (.bl (bs.any id)):=by unfold RX;dsimp only;rw[bO];rfl
theorem Tu(h:fs env=some xs)(hl:xs.length<=1000):T9 fs env=some xs:=by unfold T9;rw[h];exact AF (BC hl (by decide))
theorem Yu(ps:Z Nat):Zd ps=ps.map λp:Nat=>Dat.int (p:Int):=hQ ps
theorem oH:OQ "tuple" "tuple" = some true:=by ext
theorem YM{F:Dat->C1 Dat}{z:Dat}(h1:f env=some x)(h2:F x=some z):dU F f env=some z:=by unfold dU;rw[h1];exact h2
theorem dA(D:α->Dat)(P:α->Prop):∀ (xs:Z Dat),(∀ x∈xs,∃ (e1:Ev) (y:α),g x env=some e1/\f e1=some (D y)/\P y)->∃ ys:Z α,Wm g Up f env xs=some (ys.map D)/\ys.length=xs.length/\∀ y∈ys,P y
 | [],_=>⟨[],rfl,rfl,λ_ h=>nomatch h⟩
 | x::xs,h=>by
  obtain⟨e1,y,a1,a2,a3⟩:=h x AW;obtain⟨ys,b1,b2,b3⟩:=dA D P xs λz hz=>h z (AV _ hz)
  refine⟨y::ys,?_,by rw[BH,BH,b2],λz hz=>?_⟩
  ·rw[Wm,a1]
   dsimp only[Option.bind,Up];rw[AF rfl,a2];dsimp only;rw[b1];rfl
  ·rcases AZ.mp hz with e | e
   ·exact e▸a3
   ·exact b3 z e
theorem f4{d:Dat}(h:d∈rng lo n):∃ i:Nat,i<n/\d=.int (lo+i):=by
 obtain⟨i,hi,e⟩:=List.getElem_of_mem h;have:=U9 (lo:=lo) (n:=n) (i:=i) (d:=d) (by rw[AG hi,e]);exact⟨i,this.1,this.2⟩
theorem Dt{d:Dat}(h:(Zd ps)[i]?=some d):∃ p:Nat,ps[i]?=some p/\d=.int (p:Int):=by
 rw[AM,AM] at h;obtain⟨y,hy,rfl⟩:=map_some h;obtain⟨p,hq,rfl⟩:=map_some hy;exact⟨p,hq,rfl⟩
theorem k7:(m &&& H3 ps)=H3 ps↔∀ p∈ps,m.testBit p=true:=by
 constructor
 ·intro h p hp
  have:(m &&& H3 ps).testBit p=true:=by rw[h,Ww];simpa using hp
  rw[EE] at this;exact(GP.mp this).1
 ·intro h
  apply DJ;intro j;rw[EE,Ww];by_cases hj:j∈ps
  ·simp[hj,h j hj]
  ·simp[hj]
structure St3 where
 w:Nat
 up:Bool
 takes:List Nat
 fills:List Nat
def St3.d(s:St3):Dat:=.tup [.int (s.w:Int),.bl s.up,.tup (Zd s.takes),.tup (Zd s.fills)]
structure G3 where
 wires:List (Str×Bool)
 steps:List St3
 marks:Nat
 code:Nat
variable{G:G3}
def Ta(w:Str×Bool):Dat:=.tup [.str w.1,.str (if w.2 then "made" else "given")]
def G3.d(G:G3):Dat:=.tup [.tup (G.wires.map Ta),.tup (G.steps.map St3.d),.int (G.marks:Int),.int (G.code:Int)]
theorem Jo(r m:Nat)(h:0<m):T5 (.int (r:Int)) (.int (m:Int))=some (.int ((r % m:Nat):Int)):=by
 rw[bd (by lia)];rfl
theorem Tc(r m:Nat)(h:0<m)(h2:m<1073741824):Vw (.int (r:Int)) (.int (m:Int))=some (.int ((r / m:Nat):Int)):=by
 rw[p4 ⟨by lia,by lia⟩];rfl
theorem TU(r m:Nat)(h:r<18446744073709551616):Km (.int (r:Int)) (.int (m:Int))=some (.int ((r*m:Nat):Int)):=by
 rw[Oj (.inl ⟨by lia,by lia⟩)];rfl
theorem Jp(r m:Nat):Wu (.int (r:Int)) (.int (m:Int))=some (.int ((r+m:Nat):Int)):=rfl
def Sx(s:St3)(m:Nat):Bool:=(m &&& H3 s.takes)==H3 s.takes
theorem Pn{s:St3} :Sx s m=true↔∀ p∈s.takes,m.testBit p=true:=by
 unfold Sx;rw[DO];exact k7
theorem gR(ps:Z Nat):∃ qs:Z Nat,(Q6 (ps.map λp:Nat=>(p:Int))).map Dat.int=Zd qs/\qs.Perm ps:=by
 refine⟨(Q6 (ps.map λp:Nat=>(p:Int))).map Int.toNat,?_,?_⟩
 ·show _=(((Q6 (ps.map λp:Nat=>(p:Int))).map Int.toNat).map λp:Nat=>(p:Int)).map Dat.int
  congr 1
  rw[EX];conv=>lhs;rw[← List.map_id (Q6 _)]
  apply List.map_congr_left;intro x hx;have:=(Wz _).mem_iff.mp hx;obtain⟨p,_,rfl⟩:=CL.mp this;simp
 ·have h:=(Wz (ps.map λp:Nat=>(p:Int))).map Int.toNat
  rw[EX] at h;have e:(Int.toNat ∘ λp:Nat=>(p:Int))=id:=by funext p;simp
  rw[e,List.map_id] at h;exact h
theorem hB(ps:Z Nat)(h:ps.length<64):∃ qs:Z Nat,dW [.lst (Zd ps)]=some (Zd qs)/\qs.Perm ps:=by
 obtain⟨qs,e,hp⟩:=gR ps;refine⟨qs,?_,hp⟩;unfold dW;dsimp only;rw[Qv];show(if(ps.map λp:Nat=>(p:Int)).length<64 then _ else _)=_;rw[AF (by rw[AD];exact h),e]
theorem Ps(x y:Str):(x++y).length=x.length+y.length:=ZR x y
theorem Ri{d:Dat}(e:env[i]?=some (.ow ds))(e1:fb env=some d)(e2:fa env=some (.int (k:Int)))(Y:k<ds.length)(q:N (env.set i (.ow (ds.set k d)))):Go (Tz i fa fb env) N R:=by
 unfold Tz;rw[e,e1,e2];dsimp only;rw[AF ⟨by lia,by lia⟩];exact⟨q⟩
theorem qe{j:Nat}{fa:Zzv}{d:Dat}(e:env[i]?=some (.ow ds))(e2:fa env=some [.int (k:Int)])(Y:ds[k]?=some d)(q:N ((env.set i (.ow (ds.eraseIdx k))).set j (.fz d))):Go (Xg j i fa env) N R:=by
 unfold Xg;rw[e,e2];dsimp only;have hl:k<ds.length:=(AE.mp Y).1;rw[AF ⟨by lia,by lia⟩,BP,Y];exact⟨q⟩
theorem Ou{d:Dat}(e:f env=some d)(q:N env):Go (Nh f env) N R:=by
 unfold Nh;rw[e];exact⟨q⟩
theorem ce{fs:Z (C1 Nat)}{h:Nat}(e:src env=some ds)(q:N (env.set i (.gx (.nest (List.replicate ds.length []))))):Go (Ba i src fs (Yd h) env) N R:=by
 unfold Ba;rw[e];dsimp only;rw[AF (show(ds.all λd=>(Yd h d (To fs env)).isSome)=true from CW.mpr λd _=>rfl)];exact⟨q⟩
def O6(tk:Z (Z Nat))(k x:Nat):Z (Z Nat):=tk.set k (tk.getD k []++[x])
theorem Jf(tk:Z (Z Nat))(k x:Nat):(O6 tk k x).length=tk.length:=by unfold O6;rw[BJ]
structure MO (Lq_ B:Nat) (tk:List (List Nat)):Prop where
 len:∀ l∈tk,l.length<=Lq_
 lt:∀ l∈tk,∀ p∈l,p<B
theorem MO.mono{L' B':Nat}(h:MO Lq_ B tk)(h1:Lq_<=L')(h2:B<=B'):MO L' B' tk:=⟨λl q=>BC (h.len l q) h1,λl q p z=>AR (h.lt l q p z) h2⟩
theorem MO.app(h:MO Lq_ B tk)(k x:Nat)(hx:x<B):MO (Lq_+1) B (O6 tk k x):=by
 have hg:(tk.getD k []).length<=Lq_/\∀ p∈tk.getD k [],p<B:=by
  cases e:tk[k]? with
  | none=>simp[List.getD,e]
  | some l=>have hm:=AI e;simp only[List.getD,e,JW];exact⟨h.len l hm,h.lt l hm⟩
 constructor
 ·intro l hl
  rcases DV hl with q | q
  ·exact HS (h.len l q)
  ·rw[q,AX];show _+1<=_;lia
 ·intro l hl p hp
  rcases DV hl with q | q
  ·exact h.lt l q p hp
  ·rw[q] at hp
   rcases BV.mp hp with z | z
   ·exact hg.2 p z
   ·rw[AJ.mp z];exact hx
theorem MO.nil(n:Nat):MO 0 0 (List.replicate n []):=⟨λl h=>by rw[(FU.mp h).2];exact AT _,λl h p hp=>by rw[(FU.mp h).2] at hp;cases hp⟩
theorem nj(n:Nat):(List.replicate n ([]:Z Dat))=(List.replicate n ([]:Z Nat)).map Zd:=by rw[List.map_replicate];rfl
theorem Oo{x:Nat}(e:env[i]?=some (.gx (.nest (tk.map Zd))))(h:MO Lq_ B tk)(C:Lq_<=1000)(Y:k<tk.length)(e1:fa env=some (.int (k:Int)))(e2:fs env=some [.int (x:Int)])(q:N (env.set i (.gx (.nest ((O6 tk k x).map Zd))))):Go (Nl i fa fs env) N R:=by
 unfold Nl;rw[e,e1];dsimp only;have s:Hq (tk.map Zd) (k:Int)=some (Zd tk[k]):=by
  unfold Hq;rw[AF (by lia),BP];simp[Y]
 rw[s,e2];dsimp only;have hl:=h.len _ (HW Y);rw[show(some [Dat.int (x:Int)]).bind (λas=>Ug (Zd tk[k]) as)=some (Zd (tk[k]++[x])) by
  show Ug (Zd tk[k]) [Dat.int (x:Int)]=_;rw[Qs (by rw[AD,AD];lia)];simp[Zd]]
 dsimp only;have:(tk.map Zd).set ((k:Int)).toNat (Zd (tk[k]++[x]))=(O6 tk k x).map Zd:=by
  unfold O6;rw[BP,map_set];congr 2
  simp[List.getD,Y]
 rw[this];exact⟨q⟩
theorem eJ(e:env[i]?=some (.gx (.nest (tk.map Zd))))(e1:fa env=some (.int (k:Int)))(Y:tk[k]?=some l):QI i fa env=some (.lst (Zd l)):=by
 unfold QI;rw[e,e1];dsimp only;unfold Hq;rw[AF (by lia),BP,AM,Y];rfl
theorem Aw(D E:α->Dat):∀ (xs:Z α),(∀ x∈xs,∃ e1 b,g (D x) env=some e1/\t e1=some b/\f e1=some (E x))->∃ ys:Z α,ys.Sublist xs/\Wm g t f env (xs.map D)=some (ys.map E)
 | [],_=>⟨[],.slnil,rfl⟩
 | x::xs,h=>by
  obtain⟨ys,h1,h2⟩:=Aw D E xs λz hz=>h z (AV _ hz)
  obtain⟨e1,b,a1,a2,a3⟩:=h x AW;cases b with
  | true=>exact⟨x::ys,h1.cons₂ x,by rw[CC,Wm,a1];show(t e1).bind _=_;rw[a2];show(f e1).bind _=_;rw[a3,h2];rfl⟩
  | false=>exact⟨ys,h1.cons x,by rw[CC,Wm,a1];show(t e1).bind _=_;rw[a2];exact h2⟩
theorem bv(r m:Nat)(h:m<=r):QN (.int (r:Int)) (.int (m:Int))=some (.int ((r - m:Nat):Int)):=by
 show some (Dat.int ((r:Int) - (m:Int)))=_;rw[Int.ofNat_sub h]
theorem Mw(ps:Z Nat):Vq [.lst (Zd ps)]=some (.int ((ps.length:Nat):Int)):=by
 show some (Dat.int ((Zd ps).length:Int))=_;rw[AD,AD]
theorem Nj(ps:Z Nat)(a w:Nat)(h:a<=ps.length)(hl:ps.length<=1000):Kg (Zd ps) [.int (a:Int),.int (w:Int)]=some (Zd (ps.take a++w::ps.drop a)):=by
 show(if _ then some _ else none)=_;rw[AF ⟨by lia,by rw[AD,AD];lia,by rw[AD,AD];exact EY hl (by decide)⟩,BP];simp[Zd,map_take,map_drop]
theorem Xu(ps:Z α)(a:Nat)(w:α):(ps.take a++w::ps.drop a).length=ps.length+1:=by
 rw[AX,BH,CM,CH];lia
theorem oS(ps:Z α)(a:Nat)(w:α):(ps.take a++w::ps.drop a).Perm (w::ps):=by
 have h:(ps.take a++w::ps.drop a).Perm (w::(ps.take a++ps.drop a)):=List.perm_middle;rw[FO] at h;exact h
theorem Kb(ps:Z Nat)(a w v:Nat):(ps.take a++w::ps.drop a).count v=ps.count v+(if w=v then 1 else 0):=by
 rw[(oS ps a w).count_eq,List.count_cons];by_cases h:w=v<;>simp[h]
theorem dq(xs:Z α)(t:Nat)(h:t<=xs.length):Jn xs (some (t:Int)) none=xs.drop t:=by
 unfold Jn;rw[HT.sIx_nat,HT.sIx_none,KD h,CG (by rw[CH];exact AT _)]
theorem lF(xs:Z α)(t:Nat)(h:t<=xs.length):Jn xs none (some (t:Int))=xs.take t:=by
 unfold Jn;rw[HT.sIx_nat,HT.sIx_none,KD h,KY,Nat.sub_zero]
theorem Oq(f:α->β)(xs:Z α)(a b:C1 Int):Jn (xs.map f) a b=(Jn xs a b).map f:=by
 unfold Jn;rw[AD,map_take,map_drop]
theorem jq(ps:Z Nat)(c:Nat):(ps.map λp:Nat=>(p:Int)).idxOf (c:Int)=ps.idxOf c:=by
 induction ps with
 | nil=>rfl
 | cons p ps ih =>
  rw[CC,FV,FV,ih];by_cases h:p=c
  ·subst h;rw[show((p:Int)==(p:Int))=true from EK _,show(p==p)=true from EK _]
  ·rw[show((p:Int)==(c:Int))=false from CJ.mpr (by lia),show(p==c)=false from CJ.mpr h]
theorem Ph(ps:Z Nat)(c:Nat)(h:c∈ps):Xe (.lst (Zd ps)) [.int (c:Int)]=some (.int ((ps.idxOf c:Nat):Int)):=by
 show((U8 (Zd ps)).bind λzs=>if(c:Int)∈zs then some (Dat.int ((zs.idxOf (c:Int):Nat):Int)) else none)=_;rw[Qv];show(if _ then some _ else none)=_;rw[AF (GF h),jq]
theorem Cw(h:xs.length+ys.length<=1000):Wu (.lst xs) (.lst ys)=some (.lst (xs++ys)):=AF (BC h (by decide))
theorem qu(h:xs.length+ys.length<=1000):Xb (.lst xs) (.lst ys)=some (xs++ys):=AF (BC h (by decide))
theorem Bl(h:xs.length+ys.length<=1000):OG (.tup xs) (.tup ys)=some (.tup (xs++ys)):=AF (BC h (by decide))
def Zy(p:Nat×Nat):Dat:=.tup [.int (p.1:Int),.int (p.2:Int)]
theorem Oi(p:Nat×Nat):pd 20 (Zy p)=true:=rfl
theorem Ar(p:Nat×Nat)(qs:Z (Nat×Nat)):∃ b,Hf (Zy p) (.lst (qs.map Zy))=some (.bl b):=by
 refine⟨!((qs.map Zy).any λy=>Mt y (Zy p)),?_⟩;unfold Hf MY;dsimp only;rw[AF]
 ·rfl
 ·rw[Oi,GU]
  exact CW.mpr λx hx=>by obtain⟨q,_,rfl⟩:=CL.mp hx;exact Oi q
theorem hK(a b:Nat):QJ [.int (a:Int),.int (b:Int)]=some (.int ((min a b:Nat):Int)):=by
 show some (Dat.int (if(b:Int)<(a:Int) then(b:Int) else(a:Int)))=_;congr 2
 split<;>lia
theorem hU(a b:Nat):OC [.int (a:Int),.int (b:Int)]=some (.int ((max a b:Nat):Int)):=by
 show some (Dat.int (if(b:Int) > (a:Int) then(b:Int) else(a:Int)))=_;congr 2
 split<;>lia
theorem ef(a b:Nat):Hz (.int (a:Int)) (.int (b:Int))=some (.bl (!(a==b))):=by
 rw[ZI];congr 3
 rw[FF];simp;lia
theorem Im(ps:Z Nat)(h:ps.length<64):∃ qs:Z Nat,Iv [.lst (Zd ps)]=some (Zd qs)/\qs.Perm ps:=hB ps h
theorem Ij(n:Nat):rng 0 n=(List.range n).map λk:Nat=>Dat.int (k:Int):=by
 unfold rng;congr 1
 funext k
 rw[DU]
theorem Bc{d:Dat}(h:(Jl 0 xs)[i]?=some d):∃ x,xs[i]?=some x/\d=.tup [.int (i:Int),x]:=by
 rw[Ih] at h;cases e:xs[i]? with
 | none=>rw[e] at h;cases h
 | some x=>rw[e] at h;cases h;exact⟨x,rfl,by rw[KO]⟩
theorem dE{F:Dat->Z Dat->C1 α}(h1:f env=some x)(ht:OO T x=true)(h2:fs env=some as)(h3:F x as=some z):dM T F f fs env=some z:=by
 unfold dM;rw[h1];show(if _ then _ else _)=_;rw[AF ht,h2];exact h3
theorem On(h:f env=some (.lst xs)):Uj f env=some xs:=by unfold Uj;rw[h]
theorem cn(h:f env=some (.lst xs)):Xt f env=some (Jl 0 xs):=by unfold Xt;rw[On h];rfl
theorem Uk(D E:α->Dat)(p:α->Bool):∀ (xs:Z α),(∀ x∈xs,∃ e1,g (D x) env=some e1/\t e1=some (p x)/\f e1=some (E x))->Wm g t f env (xs.map D)=some ((xs.filter p).map E)
 | [],_=>rfl
 | x::xs,h=>by
  have ih:=Uk D E p xs λz hz=>h z (AV _ hz)
  obtain⟨e1,a1,a2,a3⟩:=h x AW;rw[CC,Wm,a1];show(t e1).bind _=_;rw[a2];cases hp:p x with
  | true=>show(f e1).bind _=_;rw[a3,ih,List.filter_cons_of_pos hp];rfl
  | false=>rw[List.filter_cons_of_neg (by rw[hp];decide)];exact ih
theorem nD(zs:Z Int)(ps:Z Nat)(h:∀ z∈zs,∃ p∈ps,z=((p:Nat):Int)):∃ qs:Z Nat,(Q6 zs).map Dat.int=Zd qs/\qs.length=zs.length/\∀ q∈qs,q∈ps:=by
 have h':∀ z∈Q6 zs,∃ p∈ps,z=((p:Nat):Int):=λz hz=>h z ((Wz zs).mem_iff.mp hz)
 refine⟨(Q6 zs).map Int.toNat,?_,by rw[AD,(Wz zs).length_eq],λq hq=>?_⟩
 ·unfold Zd
  rw[EX,EX];refine List.map_congr_left λz hz=>?_
  obtain⟨p,_,rfl⟩:=h' z hz;show Dat.int ((p:Nat):Int)=Dat.int (((p:Nat):Int).toNat:Int);rw[BP]
 ·obtain⟨z,hz,rfl⟩:=CL.mp hq
  obtain⟨p,hp,rfl⟩:=h' z hz;rw[BP];exact hp
theorem Dw:∀ (ns ks:Z Int) (x:Int),x∈ns.foldl Q9 ks->x∈ks\/x∈ns
 | [],ks,x,h=>.inl h
 | n::ns,ks,x,h=>by
  rcases Dw ns (Q9 ks n) x h with q | q
  ·unfold Q9 at q
   split at q
   ·exact .inl q
   ·rcases BV.mp q with z | z
    ·exact .inl z
    ·exact .inr (AZ.mpr (.inl (AJ.mp z)))
  ·exact .inr (AV _ q)
theorem ic(ps:Z Nat)(h:fs env=some [.tup (Zd ps)])(hl:ps.length<64):∃ qs:Z Nat,OZ fs env=some (Zd qs)/\qs.length<=ps.length/\∀ q∈qs,q∈ps:=by
 unfold OZ;rw[h];dsimp only;rw[Qv];have hz:=Dn (ps.map λp:Nat=>(p:Int));obtain⟨qs,e,l,m⟩:=nD ((ps.map λp:Nat=>(p:Int)).foldl Q9 []) ps λz hz=>by
  rcases Dw _ _ _ hz with q | q
  ·cases q
  ·obtain⟨p,hp,rfl⟩:=CL.mp q;exact⟨p,hp,rfl⟩
 rw[AD] at hz;refine⟨qs,?_,by lia,m⟩;show(if _ then some _ else none)=_;rw[AF (by rw[AD];exact hl),e]
theorem Bp(xs:Z Dat)(a b:C1 Int):LX (.lst xs) a b=some (.lst (Jn xs a b)):=rfl
theorem jw(z:Str)(a b:C1 Int):LX (.str z) a b=some (.str (Txt.slice z a b)):=rfl
def Te(s:St3)(p:Nat×Nat):Nat×Nat:=((p.1 ^^^ (p.1 &&& H3 s.takes)) ||| H3 s.fills,p.2 ^^^ 2^s.w)
theorem UG(s:St3)(p:Nat×Nat)(j:Nat):(Te s p).1.testBit j=((p.1.testBit j&&!decide (j∈s.takes))||decide (j∈s.fills)):=by
 unfold Te;dsimp only;rw[FX,GW,EE,Ww,Ww];cases p.1.testBit j<;>cases decide (j∈s.takes)<;>rfl
theorem lw(s:St3)(p:Nat×Nat)(j:Nat):(Te s p).2.testBit j=(p.2.testBit j ^^ decide (s.w=j)):=by
 unfold Te;dsimp only;rw[GW,GZ]
structure QZ (G:G3) (I:Nat×Nat->Prop):Prop where
 ini:I (G.marks,G.code)
 lev:∀ p s,I p->s∈G.steps->Sx s p.1=true->p.2.testBit s.w≠s.up
 room:∀ p s,I p->s∈G.steps->Sx s p.1=true->∀ q∈s.fills,p.1.testBit q=true->q∈s.takes
 nxt:∀ p s,I p->s∈G.steps->Sx s p.1=true->I (Te s p)
 few:∀ l:List (Nat×Nat),l.Nodup->(∀ p∈l,I p)->l.length<=400
structure Rw where
 m:Nat
 c:Nat
 src:Option (Nat×Nat)
def Rw.st(r:Rw):Nat×Nat:=(r.m,r.c)
def Rw.d(r:Rw):Dat:=.tup [.int (r.m:Int),.int (r.c:Int),match r.src with | none=>.non | some p=>.int (p.1:Int),match r.src with | none=>.non | some p=>.int (p.2:Int)]
structure MF (G:G3) (I:Nat×Nat->Prop) (af:List Rw):Prop where
 zero:af[0]?=some ⟨G.marks,G.code,none⟩
 inv:∀ r∈af,I r.st
 nd:(af.map Rw.st).Nodup
 src:∀ i r,af[i]?=some r->0<i->∃ f k s c,r.src=some (f,k)/\f<i/\G.steps[k]?=some s/\af[f]?=some c/\Sx s c.m=true/\r.st=Te s c.st
variable{af:Z Rw}{r:Rw}
def Kh(af:Z Rw):Nat->Nat->Z Nat
 | 0,_=>[]
 | fu+1,n=>match (af[n]?).bind Rw.src with
  | none=>[]
  | some p=>Kh af fu p.1++[p.2]
theorem Lj(t:MF G I af):∀ (fu n:Nat),n<af.length->n<=fu->Kh af fu n=Kh af n n
 | 0,n,_,h=>by rw[show n=0 by lia]
 | fu+1,n,hl,h=>by
  obtain⟨r,hr⟩:∃ r,af[n]?=some r:=⟨_,AG hl⟩;rcases DW n with z | z
  ·subst z
   show(match (af[0]?).bind Rw.src with | none=>[] | some p=>Kh af fu p.1++[p.2])=[];rw[t.zero];rfl
  ·obtain⟨f,k,s,c,a1,a2,_,a4,_,_⟩:=t.src n r hr z
   have aj:=(AE.mp a4).1;obtain⟨g,rfl⟩:∃ g,n=g+1:=⟨n - 1,by lia⟩;rw[Kh,Kh,hr];show(match r.src with | none=>[] | some p=>Kh af fu p.1++[p.2])=(match r.src with | none=>[] | some p=>Kh af g p.1++[p.2]);rw[a1];show Kh af fu f++[k]=Kh af g f++[k];rw[Lj t fu f aj (by lia),Lj t g f aj (by lia)]
def S8(af:Z Rw)(n:Nat):Z Nat:=Kh af n n
theorem bu(af:Z Rw):S8 af 0=[]:=rfl
theorem cH(t:MF G I af){f:Nat}(hr:af[n]?=some r)(hs:r.src=some (f,k))(h0:0<n):S8 af n=S8 af f++[k]:=by
 obtain⟨f',k',s,c,a1,a2,_,a4,_,_⟩:=t.src n r hr h0;rw[hs] at a1;cases a1;have aj:=(AE.mp a4).1;obtain⟨g,rfl⟩:∃ g,n=g+1:=⟨n - 1,by lia⟩;unfold S8;rw[Kh,hr];show(match r.src with | none=>[] | some p=>Kh af g p.1++[p.2])=_;rw[hs];show Kh af g f++[k]=_;rw[Lj t g f aj (by lia)]
theorem pj(t:MF G I af)(hr:af[n]?=some r):r.src=none↔n=0:=by
 constructor
 ·intro h
  rcases DW n with z | z
  ·exact z
  ·obtain⟨f,k,s,c,a1,_⟩:=t.src n r hr z
   rw[h] at a1;cases a1
 ·rintro rfl
  rw[t.zero] at hr;cases hr;rfl
end L2
variable{f g:Nat×Nat->Nat}{d:L2.Dat}{j x:Nat}{G:L2.G3}{af:Z L2.Rw}{s:L2.St3}{u:PySem.Str×Bool}
namespace L2
theorem Ky[BEq α][LawfulBEq α]:∀ (l m:Z α),l.Nodup->(∀ x∈l,x∈m)->l.length<=m.length
 | [],_,_,_=>CP _
 | x::l,m,hn,hs=>by
  obtain⟨h1,h2⟩:=DB.mp hn;have hx:=hs x AW;have:=Ky l (m.erase x) h2 λy hy=>by
   refine(List.mem_erase_of_ne ?_).mpr (hs y (AV _ hy));rintro rfl;exact h1 hy
  rw[List.length_erase_of_mem hx] at this;have:=List.length_pos_of_mem hx;show l.length+1<=_;lia
theorem eC(R:Nat->α->Prop)(hR:∀ k a b,R k a->R k b->a=b)(N:Nat):∀ l:Z α,l.Nodup->(∀ p∈l,∃ k,k<N/\R k p)->l.length<=N:=by
 intro l hn hl;have:∃ ks:Z Nat,ks.length=l.length/\ks.Nodup/\∀ k∈ks,k<N/\∃ p∈l,R k p:=by
  revert hn hl;induction l with
  | nil=>intro _ _;exact⟨[],rfl,EB,by simp⟩
  | cons p l ih =>
   intro hn hl;obtain⟨h1,h2⟩:=DB.mp hn;obtain⟨ks,a1,a2,a3⟩:=ih h2 λq hq=>hl q (AV _ hq)
   obtain⟨k,Y,hr⟩:=hl p AW;refine⟨k::ks,by simp[a1],DB.mpr ⟨λhm=>?_,a2⟩,λk' f=>?_⟩
   ·obtain⟨_,g,e,v⟩:=a3 k hm
    exact h1 (hR k p g hr v▸e)
   ·rcases AZ.mp f with rfl | h
    ·exact⟨Y,p,AW,hr⟩
    ·obtain⟨b1,g,b2,b3⟩:=a3 k' h
     exact⟨b1,g,AV _ b2,b3⟩
 obtain⟨ks,a1,a2,a3⟩:=this;have:=Ky ks (List.range N) a2 λk Y=>CZ.mpr (a3 k Y).1
 rw[DE] at this;lia
def Ic(s0:Nat)(rs:Z (Nat×Nat))(f g:Nat×Nat->Nat)(d:Nat)(l:Z Nat):Prop:=∀ q,q∈l↔∃ t p,rs[t]?=some p/\((q=s0+2*t/\f p=d)\/(q=s0+2*t+1/\g p=d))
structure PM (G:G3) (s0:Nat) (one two:Nat->Nat) (rs:List (Nat×Nat)) (n d:Nat) (s:St3):Prop where
 w:s.w<n
 dl:d<2*n
 tk:Ic s0 rs (·.2) (·.1) d s.takes
 fl:Ic s0 rs (·.1) (·.2) d s.fills
 lev:(d=one s.w/\s.up=!G.code.testBit s.w)\/(d=two s.w/\s.up=G.code.testBit s.w)
structure RG (G:G3) (n s0:Nat) (one two:Nat->Nat) (rs:List (Nat×Nat)):Prop where
 ne:∀ q∈rs,q.1≠q.2
 ring:∀ w,w<n->(one w,two w)∈rs
 inj:∀ w v,w<n->v<n->(one w=one v\/two w=two v\/one w=two v)->w=v/\one w≠two v
 mks:∀ q,G.marks.testBit q=true↔∃ t,t<rs.length/\q=s0+2*t+1
 st:∀ s∈G.steps,∃ d,PM G s0 one two rs n d s
structure RI (G:G3) (n s0:Nat) (one two:Nat->Nat) (rs:List (Nat×Nat)) (k:Nat) (p:Nat×Nat):Prop where
 a:∀ t q,rs[t]?=some q->p.1.testBit (s0+2*t)=(k.testBit q.1 ^^ k.testBit q.2)
 b:∀ t q,rs[t]?=some q->p.1.testBit (s0+2*t+1)=!(k.testBit q.1 ^^ k.testBit q.2)
 o:∀ j,(∀ t,t<rs.length->j≠s0+2*t/\j≠s0+2*t+1)->p.1.testBit j=false
 c:∀ w,p.2.testBit w=(G.code.testBit w ^^ (decide (w<n)&&(k.testBit (one w) ^^ k.testBit (two w))))
theorem Ic.a{d:Nat}(h:Ic s0 rs f g d l){t:Nat}(e:rs[t]?=some q):s0+2*t∈l↔f q=d:=by
 rw[h];constructor
 ·rintro⟨t',p,e',⟨h1,h2⟩ | ⟨h1,_⟩⟩
  ·have:t'=t:=by lia
   subst this;rw[e] at e';cases e';exact h2
  ·lia
 ·exactλh2=>⟨t,q,e,.inl ⟨rfl,h2⟩⟩
theorem Ic.b{d:Nat}(h:Ic s0 rs f g d l){t:Nat}(e:rs[t]?=some q):s0+2*t+1∈l↔g q=d:=by
 rw[h];constructor
 ·rintro⟨t',p,e',⟨h1,_⟩ | ⟨h1,h2⟩⟩
  ·lia
  ·have:t'=t:=by lia
   subst this;rw[e] at e';cases e';exact h2
 ·exactλh2=>⟨t,q,e,.inr ⟨rfl,h2⟩⟩
theorem Ic.o{d:Nat}(h:Ic s0 rs f g d l)(e:∀ t,t<rs.length->j≠s0+2*t/\j≠s0+2*t+1):j∉l:=by
 intro hj;obtain⟨t,p,P,h1⟩:=(h j).mp hj;have:=e t (AE.mp P).1;rcases h1 with h1 | h1
 ·exact this.1 h1.1
 ·exact this.2 h1.1
theorem J6(k d j:Nat):(k ^^^ 2^d).testBit j=(k.testBit j ^^ decide (d=j)):=by
 rw[GW,GZ]
theorem gn{one two:Nat->Nat}(h:RG G n s0 one two rs)(hn:n<=4):QZ G λp=>∃ k,k<2^(2*n)/\RI G n s0 one two rs k p where
 ini:=by
  refine⟨0,IQ _,?_,?_,?_,?_⟩
  ·intro t q e
   simp only[IF,Bool.xor_false];rw[JO];intro hh;obtain⟨t',_,e'⟩:=(h.mks _).mp hh;lia
  ·intro t q e
   simp only[IF,Bool.xor_false,Bool.not_false];exact(h.mks _).mpr ⟨t,(AE.mp e).1,rfl⟩
  ·intro j hj
   rw[JO];intro hh;obtain⟨t',g,e'⟩:=(h.mks _).mp hh;exact(hj t' g).2 e'
  ·intro w;simp
 lev:=by
  rintro p s ⟨k,Y,hi⟩ hs hc;obtain⟨d,hd⟩:=h.st s hs;obtain⟨t,ht⟩:=FW (h.ring s.w hd.w);rw[hi.c,AK hd.w,GU];have hc:=Pn.mp hc;rcases hd.lev with⟨e1,e2⟩ | ⟨e1,e2⟩
  ·have:=hc _ ((hd.tk.b ht).mpr e1.symm)
   rw[hi.b t _ ht] at this;have hx:(k.testBit (one s.w) ^^ k.testBit (two s.w))=false:=by simpa using this
   rw[hx,e2];cases G.code.testBit s.w<;>simp
  ·have:=hc _ ((hd.tk.a ht).mpr e1.symm)
   rw[hi.a t _ ht] at this;have hx:(k.testBit (one s.w) ^^ k.testBit (two s.w))=true:=this;rw[hx,e2];cases G.code.testBit s.w<;>simp
 room:=by
  rintro p s ⟨k,Y,hi⟩ hs hc q hq hb;obtain⟨d,hd⟩:=h.st s hs;have hc:=Pn.mp hc;obtain⟨t,r,P,hh⟩:=(hd.fl q).mp hq;exfalso;rcases hh with⟨rfl,e1⟩ | ⟨rfl,e1⟩
  ·have:=hc _ ((hd.tk.b P).mpr e1)
   rw[hi.b t _ P] at this;rw[hi.a t _ P] at hb;rw[hb] at this;cases this
  ·have:=hc _ ((hd.tk.a P).mpr e1)
   rw[hi.a t _ P] at this;rw[hi.b t _ P,this] at hb;cases hb
 nxt:=by
  rintro p s ⟨k,Y,hi⟩ hs hc;obtain⟨d,hd⟩:=h.st s hs;have hc:=Pn.mp hc;have ae:k ^^^ 2^d<2^(2*n):=Nat.xor_lt_two_pow Y (Nat.pow_lt_pow_right (by lia) hd.dl);refine⟨k ^^^ 2^d,ae,?_,?_,?_,?_⟩
  ·intro t q e
   have ag:=h.ne q (AI e);have ha:=hi.a t q e;have hb:=hi.b t q e;have h1:=hd.tk.a e;have h2:=hd.fl.a e;have h3:=hd.tk.b e;rw[UG,J6,J6];by_cases e1:q.2=d
   ·have:=hc _ (h1.mpr e1)
    have e2:¬ q.1=d:=λe2=>ag (e2.trans e1.symm)
    rw[AK (h1.mpr e1),AH (mt h2.mp e2),AK e1.symm,AH (AO e2)];rw[ha] at this;revert this;cases k.testBit q.1<;>cases k.testBit q.2<;>simp
   ·by_cases e2:q.1=d
    ·have:=hc _ (h3.mpr e2)
     rw[AH (mt h1.mp e1),AK (h2.mpr e2),AH (AO e1),AK e2.symm];rw[hb] at this;revert this;cases k.testBit q.1<;>cases k.testBit q.2<;>simp
    ·rw[AH (mt h1.mp e1),AH (mt h2.mp e2),AH (AO e1),AH (AO e2),ha]
     simp
  ·intro t q e
   have ag:=h.ne q (AI e);have ha:=hi.a t q e;have hb:=hi.b t q e;have h1:=hd.tk.b e;have h2:=hd.fl.b e;have h3:=hd.tk.a e;rw[UG,J6,J6];by_cases e1:q.1=d
   ·have:=hc _ (h1.mpr e1)
    have e2:¬ q.2=d:=λe2=>ag (e1.trans e2.symm)
    rw[AK (h1.mpr e1),AH (mt h2.mp e2),AK e1.symm,AH (AO e2)];rw[hb] at this;revert this;cases k.testBit q.1<;>cases k.testBit q.2<;>simp
   ·by_cases e2:q.2=d
    ·have:=hc _ (h3.mpr e2)
     rw[AH (mt h1.mp e1),AK (h2.mpr e2),AH (AO e1),AK e2.symm];rw[ha] at this;revert this;cases k.testBit q.1<;>cases k.testBit q.2<;>simp
    ·rw[AH (mt h1.mp e1),AH (mt h2.mp e2),AH (AO e1),AH (AO e2),hb]
     simp
  ·intro j hj
   rw[UG,hi.o j hj,AH (hd.fl.o hj)];simp
  ·intro w
   rw[lw,hi.c,J6,J6];by_cases hw:w<n
   ·rw [AK hw,GU,GU]
    have ah:decide (s.w=w)=(decide (d=one w) ^^ decide (d=two w)):=by
     by_cases ew:s.w=w
     ·subst ew
      have ag:=(h.inj s.w s.w hd.w hd.w (.inl rfl)).2;rcases hd.lev with⟨e1,_⟩ | ⟨e1,_⟩
      ·rw[AK rfl,AK e1,AH (λe2=>ag (e1.symm.trans e2))];rfl
      ·rw[AK rfl,AK e1,AH (λe2=>ag (e2.symm.trans e1))];rfl
     ·have n1:¬ d=one w:=by
       intro C;rcases hd.lev with⟨e1,_⟩ | ⟨e1,_⟩
       ·exact ew (h.inj s.w w hd.w hw (.inl (e1.symm.trans C))).1
       ·exact ew (h.inj w s.w hw hd.w (.inr (.inr (C.symm.trans e1)))).1.symm
      have n2:¬ d=two w:=by
       intro C;rcases hd.lev with⟨e1,_⟩ | ⟨e1,_⟩
       ·exact ew (h.inj s.w w hd.w hw (.inr (.inr (e1.symm.trans C)))).1
       ·exact ew (h.inj s.w w hd.w hw (.inr (.inl (e1.symm.trans C)))).1
      rw[AH ew,AH n1,AH n2];rfl
    rw[ah];cases G.code.testBit w<;>cases k.testBit (one w)<;>cases k.testBit (two w)<;>cases decide (d=one w)<;>cases decide (d=two w)<;>rfl
   ·have:s.w≠w:=λe=>hw (e▸hd.w)
    rw[AH hw,AH this];simp
 few:=by
  intro l hl hp;have M:2^(2*n)<=256:=BC (CY (by lia) (show 2*n<=8 by lia)) (by decide);have:=eC (λk p=>RI G n s0 one two rs k p) (λk p q h1 h2=>?_) (2^(2*n)) l hl hp
  ·lia
  ·refine IW (DJ λj=>?_) (DJ λj=>by rw[h1.c,h2.c])
   by_cases hj:∀ t,t<rs.length->j≠s0+2*t/\j≠s0+2*t+1
   ·rw[h1.o j hj,h2.o j hj]
   ·simp only[Classical.not_forall] at hj
    obtain⟨t,ht,hj⟩:=hj;have e:rs[t]?=some rs[t]:=AG ht;by_cases e1:j=s0+2*t
    ·rw[e1,h1.a t _ e,h2.a t _ e]
    ·have e2:j=s0+2*t+1:=Classical.byContradiction λe2=>hj ⟨e1,e2⟩
     rw[e2,h1.b t _ e,h2.b t _ e]
end L2
variable{g:L2.Ev->L2.Fl}{b a:Nat}
namespace L2
def T3(ps:Z Nat)(w:Nat):Nat:=ps.idxOf w
def Uz(ps:Z Nat)(w:Nat):Nat:=ps.idxOf w+1+(ps.drop (ps.idxOf w+1)).idxOf w
theorem b8:∀ {ps:Z Nat} {d:Nat},ps[d]?=some w->ps.count w=1->(ps.take d).count w=0/\d=ps.idxOf w
 | [],_,h,_=>by cases h
 | p::ps,0,h,_=>by
  cases h;exact⟨rfl,by rw[FV];simp⟩
 | p::ps,d+1,h,hc=>by
  have h':ps[d]?=some w:=h;by_cases e:p=w
  ·subst e
   rw[IR] at hc;have:ps.count p=0:=by lia
   exact absurd (AI h') (List.count_eq_zero.mp this)
  ·rw[GJ e] at hc
   obtain⟨h1,h2⟩:=b8 h' hc;rw[GD,GJ e,FV,show(p==w)=false from CJ.mpr e];exact⟨h1,by simp[h2]⟩
theorem XT:∀ {ps:Z Nat} {d:Nat},ps[d]?=some w->ps.count w=2->((ps.take d).count w=0/\d=T3 ps w)\/((ps.take d).count w=1/\d=Uz ps w)
 | [],_,h,_=>by cases h
 | p::ps,0,h,_=>by
  cases h;exact .inl ⟨rfl,by unfold T3;rw[FV];simp⟩
 | p::ps,d+1,h,hc=>by
  have h':ps[d]?=some w:=h;by_cases e:p=w
  ·subst e
   rw[IR] at hc;obtain⟨h1,h2⟩:=b8 h' (by lia);refine .inr ⟨by rw[GD,IR,h1],?_⟩;unfold Uz;rw[FV,EK];show d+1=0+1+ps.idxOf p;lia
  ·rw[GJ e] at hc
   have e1:(p::ps).idxOf w=ps.idxOf w+1:=by rw[FV,show(p==w)=false from CJ.mpr e];rfl
   rw[GD,GJ e];unfold T3 Uz;rw[e1];rcases XT h' hc with⟨h1,h2⟩ | ⟨h1,h2⟩
   ·exact .inl ⟨h1,by unfold T3 at h2;lia⟩
   ·refine .inr ⟨h1,?_⟩
    unfold Uz at h2;show d+1=ps.idxOf w+1+1+(ps.drop (ps.idxOf w+1)).idxOf w;lia
theorem second:∀ {ps:Z Nat},ps.count v=2->v∈ps.drop (ps.idxOf v+1)
 | [],h=>by cases h
 | p::ps,h=>by
  rw[List.count_cons] at h;rw[FV];by_cases e:p=v
  ·subst e
   rw[show(p==p)=true from EK _] at h ⊢;show p∈ps;refine JF.mp ?_;simp at h;lia
  ·rw[show(p==v)=false from CJ.mpr e] at h ⊢
   show v∈ps.drop (ps.idxOf v+1);exact second (by simpa using h)
theorem ZV(h:w∈ps):ps[ps.idxOf w]?=some w:=by
 have hl:=GL h;rw[AG hl,List.getElem_idxOf hl]
theorem bw(h:ps.count w=2):ps[T3 ps w]?=some w:=ZV (JF.mp (by lia))
theorem YW(h:ps.count w=2):ps[Uz ps w]?=some w:=by
 have:=ZV (second h);rw[JG] at this;exact this
theorem qy(ps:Z Nat)(w:Nat):T3 ps w<Uz ps w:=by unfold T3 Uz;lia
structure NM (n:Nat) (ps:List Nat):Prop where
 len:ps.length=2*n
 cnt:∀ v,ps.count v=if v<n then 2 else 0
theorem NM.mem(h:NM n ps) :v∈ps↔v<n:=by
 rw[← JF,h.cnt];split<;>lia
theorem NM.two(h:NM n ps)(hv:v<n):ps.count v=2:=by rw[h.cnt,AF hv]
theorem NM.inj{n:Nat}{ps:Z Nat}(h:NM n ps)(w v:Nat)(hw:w<n)(hv:v<n)(e:T3 ps w=T3 ps v\/Uz ps w=Uz ps v\/T3 ps w=Uz ps v):w=v/\T3 ps w≠Uz ps v:=by
 have a1:=bw (h.two hw);have a2:=YW (h.two hw);have b1:=bw (h.two hv);have b2:=YW (h.two hv);have a:w=v:=by
  rcases e with e | e | e
  ·rw[e,b1] at a1;exact(BF a1).symm
  ·rw[e,b2] at a2;exact(BF a2).symm
  ·rw[e,b2] at a1;exact(BF a1).symm
 subst a;exact⟨rfl,by have:=qy ps w;lia⟩
theorem nH(tk:Z (Z Nat))(k x d:Nat)(Y:k<tk.length):(O6 tk k x).getD d []=if d=k then tk.getD d []++[x] else tk.getD d []:=by
 unfold O6;by_cases e:d=k
 ·subst e
  simp[List.getD,BB,Y]
 ·have e':¬ k=d:=λz=>e z.symm
  simp[List.getD,BB,e,e']
theorem dy(tk:Z (Z Nat))(k x d q:Nat)(Y:k<tk.length):q∈(O6 tk k x).getD d []↔q∈tk.getD d []\/(d=k/\q=x):=by
 rw[nH tk k x d Y];by_cases e:d=k
 ·rw[AF e];simp[e]
 ·rw[AL e];simp[e]
def NS(s0:Nat)(rs:Z (Nat×Nat))(f g:Nat×Nat->Nat)(tk:Z (Z Nat)):Prop:=∀ d,Ic s0 rs f g d (tk.getD d [])
variable{g:Nat×Nat->Nat}
theorem NS.nil(s0 m:Nat)(f g:Nat×Nat->Nat):NS s0 [] f g (List.replicate m []):=λd q=>by
 have:(List.replicate m ([]:Z Nat)).getD d []=[]:=by
  simp only[List.getD];cases e:(List.replicate m ([]:Z Nat))[d]? with
  | none=>rfl
  | some l=>have:=AI e;rw[(FU.mp this).2];rfl
 rw[this];simp
theorem NS.app(h:NS s0 rs f g tk)(p:Nat×Nat)(hf:f p<tk.length)(hg:g p<tk.length):NS s0 (rs++[p]) f g (O6 (O6 tk (f p) (s0+2*rs.length)) (g p) (s0+2*rs.length+1)):=λd q=>by
 rw[dy _ _ _ _ _ (by rw[Jf];exact hg),dy _ _ _ _ _ hf,h d q];constructor
 ·rintro((⟨t,r,e,h1⟩ | ⟨h1,h2⟩) | ⟨h1,h2⟩)
  ·exact⟨t,r,by rw[BW (AE.mp e).1];exact e,h1⟩
  ·exact⟨rs.length,p,by simp,.inl ⟨h2,h1.symm⟩⟩
  ·exact⟨rs.length,p,by simp,.inr ⟨h2,h1.symm⟩⟩
 ·rintro⟨t,r,e,h1⟩
  rcases DN t rs.length with hl | hl
  ·rw[BW hl] at e
   exact .inl (.inl ⟨t,r,e,h1⟩)
  ·rw[DC hl] at e
   have C:t - rs.length=0:=by
    rcases DW (t - rs.length) with z | z
    ·exact z
    ·rw[IC,AL (by lia)] at e;cases e
   rw[C] at e;cases e;have P:t=rs.length:=by lia
   subst P;rcases h1 with⟨h1,h2⟩ | ⟨h1,h2⟩
   ·exact .inl (.inr ⟨h2.symm,h1⟩)
   ·exact .inr ⟨h2.symm,h1⟩
theorem C6(hb:MO Lq_ B tk)(h:∀ l∈tk,l.Nodup)(k x:Nat)(hx:B<=x):∀ l∈O6 tk k x,l.Nodup:=by
 intro l hl;rcases DV hl with q | q
 ·exact h l q
 ·rw[q]
  cases e:tk[k]? with
  | none=>simp[List.getD,e]
  | some c =>
   have hm:=AI e;simp only[List.getD,e,JW];refine GG.mpr ⟨h c hm,DB.mpr ⟨by simp,EB⟩,λa ha b m=>?_⟩;have:=hb.lt c hm a ha;rw[AJ.mp m];lia
theorem Ic.perm{d:Nat}{c:Z Nat}(h:Ic s0 rs f g d l)(e:c.Perm l):Ic s0 rs f g d c:=λq=>by rw[e.mem_iff];exact h q
structure SB (B n:Nat) (s:St3):Prop where
 w:s.w<n
 t:∀ p∈s.takes,p<B
 f:∀ p∈s.fills,p<B
 tn:s.takes.Nodup
 fn:s.fills.Nodup
theorem ZN(h:l.Nodup)(hb:∀ p∈l,p<B):l.length<=B:=by
 have:=Ky l (List.range B) h λx hx=>CZ.mpr (hb x hx)
 rwa [DE] at this
structure Gb (B:Nat) (G:G3):Prop where
 w2:G.wires.length<=10
 s1:1<=G.steps.length
 s2:G.steps.length<=24
 st:∀ s∈G.steps,SB B G.wires.length s
 mks:G.marks<2^B
end L2
variable{f:L2.Zzu}{ps:Z (Nat×Nat)}
namespace L2
open PySem PySem.Spec PyProof.Rows
section
variable{fk fv:Zzu}
theorem hF{x y:Int}(e:env[i]?=some (.fz (.int x)))(e2:f env=some (.int y))(q:N (env.set i (.fz (.int (x+y))))):Go (RL i f env) N R:=by
 unfold RL;rw[e,e2];exact⟨q⟩
def Fi(p:Nat×Nat):Z Vp:=[.inl (p.1:Int),.inl (p.2:Int)]
theorem qF:Fi p=Fi q↔p=q:=by
 constructor
 ·intro h
  unfold Fi at h;simp only[List.cons.injEq,Sum.inl.injEq,and_true] at h;exact IW (by lia) (by lia)
 ·rintro rfl;rfl
theorem Lq(p:Nat×Nat):QF (Zy p)=some (Fi p):=rfl
def Ki(ps:Z (Nat×Nat)):Z (Z Vp×Dat):=ps.map λp=>(Fi p,.bl true)
theorem Px(ps:Z (Nat×Nat))(q:Nat×Nat):Nd (Ki ps) (Fi q)=decide (q∈ps):=by
 unfold Nd Ki;rw[EX,FF,IZ,CK];constructor
 ·rintro⟨x,hx,e⟩
  obtain⟨p,hp,rfl⟩:=CL.mp hx;have:Fi p=Fi q:=BM e;rw[← qF.mp this];exact hp
 ·intro h
  exact⟨Fi q,CL.mpr ⟨q,h,rfl⟩,AK rfl⟩
theorem ko(e:env[i]?=some (.gx (.dict (Ki ps))))(e2:f env=some (Zy q)):SG false i f env=some (.bl (decide (q∈ps))):=by
 unfold SG;rw[e,e2];dsimp only;rw[Lq];show some (Dat.bl (Nd (Ki ps) (Fi q)))=_;rw[Px]
theorem k8(e:env[i]?=some (.gx (.dict (Ki ps))))(e2:fv env=some (.bl true))(e3:fk env=some (Zy q))(hq:q∉ps)(hl:ps.length<=1000)(n:N (env.set i (.gx (.dict (Ki (ps++[q])))))):Go (P9 i fk fv env) N R:=by
 unfold P9;rw[e,e2,e3];dsimp only;rw[Lq];dsimp only;rw[AF ⟨by rw[Px,AH hq],by unfold Ki;rw[AD];exact EY hl (by decide)⟩];have:Ki ps++[(Fi q,Dat.bl true)]=Ki (ps++[q]):=by unfold Ki;rw[BR];rfl
 rw[this];exact⟨n⟩
theorem pG(e:fk env=some (Zy q))(e2:fv env=some (.bl true))(n:N (env.set i (.gx (.dict (Ki [q]))))):Go (QP i fk fv env) N R:=by
 unfold QP;rw[e,e2];dsimp only;rw[Lq];exact⟨n⟩
theorem q3{x y z:Dat}{b:Bool}(h1:f1 env=some x)(h2:f2 env=some y)(h3:f3 env=some z)(e1:F1 x y=some (.bl true))(e2:F2 y z=some (.bl b)):By F1 F2 f1 f2 f3 env=some b:=by
 unfold By;rw[h1];show(f2 env).bind _=_;rw[h2];dsimp only[Option.bind];rw[e1];dsimp only;rw[h3];dsimp only[Option.bind];rw[e2]
theorem fQ(h1:fs env=some [.lst xs]):RO fs env=some xs.reverse:=by unfold RO;rw[h1]
end
theorem N3:∀ xs:Z Dat,(∀ x∈xs,Mt x x=true)->OB xs xs=true
 | [],_=>by unfold OB;rfl
 | x::xs,h=>by unfold OB;rw[h x AW,N3 xs λy hy=>h y (AV _ hy)];rfl
theorem bp(h:∀ x∈xs,Mt x x=true/\pd 19 x=true):pd 20 (.lst xs)=true/\Mt (.lst xs) (.lst xs)=true:=by
 constructor
 ·show xs.all (pd 19)=true
  exact CW.mpr λx hx=>(h x hx).2
 ·unfold Mt;exact N3 xs λx hx=>(h x hx).1
theorem b'(h:pd 20 d=true/\Mt d d=true):Dp d d=some (.bl true):=by unfold Dp;rw[h.1,h.2];rfl
theorem qo(h:pd 20 d=true/\Mt d d=true):Hz d d=some (.bl false):=by unfold Hz;rw[h.1,h.2];rfl
theorem K0(i:Int):Mt (.int i) (.int i)=true:=by unfold Mt;exact EK i
theorem Bg(ps:Z Nat):pd 20 (.lst (Zd ps))=true/\Mt (.lst (Zd ps)) (.lst (Zd ps))=true:=bp λx hx=>by
 rw[Yu] at hx;obtain⟨p,_,rfl⟩:=CL.mp hx;exact⟨K0 _,rfl⟩
def OD(G:G3)(m k:Nat):Bool:=match G.steps[k]? with
 | some s=>Sx s m
 | none=>false
theorem hk(h:OD G m k=true):∃ s,G.steps[k]?=some s/\Sx s m=true:=by
 unfold OD at h;cases e:G.steps[k]? with
 | none=>rw[e] at h;cases h
 | some s=>rw[e] at h;exact⟨s,rfl,h⟩
def QB(G:G3)(m:Nat):Z Nat:=(List.range G.steps.length).filter (OD G m)
theorem iG{F:Z Rw}(h:af <+: F){r:Rw}(e:af[i]?=some r):F[i]?=some r:=by
 obtain⟨t,rfl⟩:=h;rw[BW (AE.mp e).1];exact e
theorem ja(h:k∈QB G m):OD G m k=true:=(ES.mp h).2
def m8(r:Fl)(N C:Ev->Prop)(R:Dat->Prop)(E:Str->Z (Str×XD)->Prop):Prop:=match r with
 | .next e=>N e
 | .cont e=>C e
 | .ret d=>R d
 | .exc _ c fl=>E c fl
 | _=>False
structure LP (r:Fl) (N C:Ev->Prop) (R:Dat->Prop) (E:Str->List (Str×XD)->Prop):Prop where
 of:m8 r N C R E
section
variable{C:Ev->Prop}{E:Str->Z (Str×XD)->Prop}
theorem Go.toE(q:Go r N R):LP r N C R E:=by
 cases r with
 | next e=>exact⟨q.of⟩
 | ret d=>exact⟨q.of⟩
 | _=>exact q.of.elim
theorem V5(q:LP (g env) (λe=>LP (h e) N C R E) C R E):LP (Zf g h env) N C R E:=by
 unfold Zf;cases e:g env with
 | next e'=>rw[e] at q;exact q.of
 | ret d=>rw[e] at q;exact⟨q.of⟩
 | cont d=>rw[e] at q;exact⟨q.of⟩
 | exc e' c fl=>rw[e] at q;exact⟨q.of⟩
 | _=>rw[e] at q;exact q.of.elim
theorem Ue(q:Go (g env) (λe=>LP (h e) N C R E) R):LP (Zf g h env) N C R E:=V5 q.toE
theorem Lp{b:Bool}(e:t env=some b)(M:b=true->LP (g env) N C R E)(q2:b=false->LP (h env) N C R E):LP (Qt t g h env) N C R E:=by
 unfold Qt;rw[e];cases b with
 | true=>exact M rfl
 | false=>exact q2 rfl
theorem Mv{a:Z Dat->C1 (Z (Str×XD))}(e:fs env=some ds)(e2:a ds=some fl)(q:E c fl):LP (Vy c a fs env) N C R E:=by
 unfold Vy;rw[e];dsimp only[Option.bind];rw[e2];exact⟨q⟩
theorem dX(P:Nat->Ev->Prop):∀ (ds:Z Dat) (k:Nat) (env:Ev),P k env->(∀ i d e,ds[i]?=some d->P (k+i) e->∃ e1,gg d e=some e1/\LP (g e1) (P (k+i+1)) (P (k+i+1)) R E)->(∀ e,P (k+ds.length) e->N e)->LP (Oe gg g ds env) N C R E
 | [],k,env,h0,_,hN=>⟨hN env h0⟩
 | d::ds,k,env,h0,hs,hN=>by
  obtain⟨e1,a1,a2⟩:=hs 0 d env rfl h0;rw[Oe,a1];dsimp only;have f:∀ e',P (k+0+1) e'->LP (Oe gg g ds e') N C R E:=λe' h'=>dX P ds (k+1) e' h' (λi d e hi hp=>by
   have:=hs (i+1) d e (by simpa using hi) (by rw[show k+(i+1)=k+1+i by lia];exact hp);rw[show k+1+i+1=k+(i+1)+1 by lia];exact this) (λe hp=>hN e (by rw[BH,show k+(ds.length+1)=k+1+ds.length by lia];exact hp))
  cases e:g e1 with
  | next e'=>rw[e] at a2;exact f e' a2.of
  | cont e'=>rw[e] at a2;exact f e' a2.of
  | ret d'=>rw[e] at a2;exact⟨a2.of⟩
  | exc e' c fl=>rw[e] at a2;exact⟨a2.of⟩
  | _=>rw[e] at a2;exact a2.of.elim
theorem C9(P:Nat->Ev->Prop)(e:src env=some ds)(h0:P 0 env)(hs:∀ i d e,ds[i]?=some d->P i e->∃ e1,gg d e=some e1/\LP (g e1) (P (i+1)) (P (i+1)) R E)(hN:∀ e,P ds.length e->N e):LP (Uy src gg g env) N C R E:=by
 unfold Uy;rw[e];exact dX P ds 0 env h0 (λi d e hi hp=>by simpa using hs i d e hi (by simpa using hp)) (λe hp=>hN e (by simpa using hp))
theorem LP.ne(q:LP r N C R E):r≠.no:=λz=>by rw[z] at q;exact q.of
theorem qp(W:Nat->Ev->Prop)(h0:W n env)(hs:∀ n e,W n e->(t e=some false/\N e)\/(t e=some true/\LP (g e) (λe'=>∃ m,m<n/\W m e') (λ_=>False) R E)):LP (D7 t g env) N C R E:=by
 have ah:∀ n e,W n e->LP (V1 t g (n+1) e) N C R E:=by
  intro n;induction n using strongRecOn with
  | _ n ih =>
   intro e hw;rcases hs n e hw with⟨a,b⟩ | ⟨a,b⟩
   ·rw[V1,a];exact⟨b⟩
   ·rw[V1,a]
    dsimp only;cases eg:g e with
    | next e' =>
     rw[eg] at b;obtain⟨m,hm,f⟩:=b.of;have q:=ih m hm e' f;dsimp only;have:=Ur (n - (m+1)) q.ne;rw[show m+1+(n - (m+1))=n by lia] at this;rw[this];exact q
    | ret d=>rw[eg] at b;exact⟨b.of⟩
    | exc e' c fl=>rw[eg] at b;exact⟨b.of⟩
    | _=>rw[eg] at b;exact b.of.elim
 have q:=ah n env h0;rw[Bh q.ne];exact q
theorem Oz{p:Nat}(hp:ds.length=p)(q:LP (g (Ui n ds)) (λ_=>R .non) (λ_=>False) R E):(∃ d,Y9 n p g ds=.ok d/\R d)\/∃ c fl,Y9 n p g ds=.exc c fl/\E c fl:=by
 unfold Y9;rw[AF hp];cases e:g (Ui n ds) with
 | next e'=>rw[e] at q;exact .inl ⟨_,rfl,q.of⟩
 | ret d=>rw[e] at q;exact .inl ⟨_,rfl,q.of⟩
 | exc e' c fl=>rw[e] at q;exact .inr ⟨_,_,rfl,q.of⟩
 | _=>rw[e] at q;exact q.of.elim
variable{e' e3:Ev}{sub:Str->Bool}
theorem Ef(e:fs env=some ds)(h:F ds=.exc c fl):U7 F fs env=.exc env c fl:=by unfold U7;rw[e];dsimp only;rw[h]
end
end L2
namespace L2
open PySem
def At(G:G3)(s:St3):Bool:=match G.wires[s.w]? with
 | some u=>u.2
 | none=>false
def Dk(G:G3):Prop:=∀ (i j:Nat) (l a:St3),i≠j->G.steps[i]?=some l->G.steps[j]?=some a->∀ q,q∈l.takes->q∉l.fills->q∈a.takes->At G l=false/\At G a=false
theorem fw{one two:Nat->Nat}(ds:Z Nat)(nd:ds.Nodup)(h:∀ (i:Nat) (s:St3),G.steps[i]?=some s->∃ d:Nat,ds[i]?=some d/\PM G s0 one two rs n d s):Dk G:=by
 intro i j l a b hi hj q hq _ k;exfalso;obtain⟨m,e1,h1⟩:=h i l hi;obtain⟨o,e2,h2⟩:=h j a hj;have hd:m=o:=by
  obtain⟨t,p,P,hp⟩:=(h1.tk q).mp hq;obtain⟨t',g,c,e⟩:=(h2.tk q).mp k;rcases hp with⟨a1,a2⟩ | ⟨a1,a2⟩<;>rcases e with⟨b1,b2⟩ | ⟨b1,b2⟩
  ·have:t=t':=by lia
   subst this;rw[P] at c;cases c;rw[← a2,← b2]
  ·lia
  ·lia
  ·have:t=t':=by lia
   subst this;rw[P] at c;cases c;rw[← a2,← b2]
 subst hd;obtain⟨l1,g1⟩:=AE.mp e1;obtain⟨l2,g2⟩:=AE.mp e2;have f:=FM.mp nd;rcases Nat.lt_or_gt_of_ne b with h0 | h0
 ·exact f i j l1 l2 h0 (g1.trans g2.symm)
 ·exact f j i l2 l1 h0 (g2.trans g1.symm)
end L2
namespace K75
open PySem PySem.Spec PyProof.Rows L2
theorem Hd(ns:Z Int)(k:Nat)(Y:k<=100000):∃ r:Nat,W4 [Ez ns,.int (k:Int)]=.ok (.int (r:Int))/\r<1000000000039:=by
 have:=Y1 (n:=3) (p:=2) (ds:=[Ez ns,.int (k:Int)]) (g:=Ji) (R:=λd=>∃ r:Nat,d=.int (r:Int)/\r<1000000000039) rfl ?_
 ·obtain⟨d,e,r,rfl,h⟩:=this
  exact⟨r,e,h⟩
 show Go (Ji [.fz (Ez ns),.fz (.int (k:Int)),.un]) _ _;unfold Ji;have fin:∀ z:Int,Go (Yg (dO T5 (dO Km (U 2) (dC (.int 48271))) (dC (.int 1000000000039))) [.fz (Ez ns),.fz (.int (k:Int)),.fz (.int z)]) (λ_=>False) (λd=>∃ r:Nat,d=.int (r:Int)/\r<1000000000039):=λz=>by
  refine go_ret (d:=.int (z*48271 % 1000000000039)) (Z6 (Z6 rfl rfl (Oj (.inr (by lia)))) rfl (bd (by lia))) ⟨(z*48271 % 1000000000039).toNat,?_,?_⟩
  ·congr 1;lia
  ·lia
 refine Z9 (Zk (d:=.int (7919*(k:Int)+12345)) (Z6 (Z6 rfl rfl (Oj (.inl (by lia)))) rfl rfl) ?_);refine Z9 (Sr (b:=decide ((k:Int)<((ns.map Dat.int).length:Int))) rfl (λhb=>?_) (λhb=>?_))
 ·have j:k<ns.length:=by have:=BM hb;rw[AD] at this;lia
  have A:Yf (Ez ns) (.int (k:Int))=some (.int ns[k]):=Wd (by simp[j]);refine Zk (d:=.int (7919*(k:Int)+12345+ns[k]*6364136223846793005)) (Z6 rfl (Z6 (Z6 rfl rfl A) rfl (Oj (.inr (by lia)))) rfl) ?_;exact(fin _).mono (λ_ h=>h.elim) λ_ h=>h
 ·refine Yh ?_
  exact(fin _).mono (λ_ h=>h.elim) λ_ h=>h
theorem ie(c k:Nat):∃ z:Str,Ma [.int (c:Int),.int (k:Int)]=.ok (.str z):=by
 have:=Y1 (n:=8) (p:=2) (ds:=[.int (c:Int),.int (k:Int)]) (g:=Js) (R:=λd=>∃ z:Str,d=.str z) rfl ?_
 ·obtain⟨d,e,z,rfl⟩:=this
  exact⟨z,e⟩
 unfold Js;obtain⟨n,hn,A⟩:∃ n:Nat,2+c % 7=n/\n<=8:=⟨_,rfl,by lia⟩;refine Z9 (Zk (d:=.str Vm) rfl ?_);refine Z9 (Zk (d:=.int (n:Int)) (by rw[← hn];exact Z6 rfl (Z6 rfl rfl (Jo c 7 (by lia))) (Jp 2 _)) ?_);refine Z9 (Zk (Z6 (Z6 rfl rfl (Tc c 7 (by lia) (by lia))) rfl (Jo (c / 7) n (by lia))) ?_);refine Z9 (Zk (d:=.str "") rfl ?_);generalize c / 7 % n=a;refine Z9 (V4 (ds:=rng 0 n) (λi e=>∃ (z:Str) (l w:LH),e=[.fz (.int (c:Int)),.fz (.int (k:Int)),.fz (.str Vm),.fz (.int (n:Int)),.fz (.int (a:Int)),.fz (.str z),l,w]/\z.length=i) (Wi (Z2 rfl rfl) (by lia)) ⟨"",.un,.un,rfl,by decide⟩ ?_ ?_)
 ·rintro i d e hi ⟨z,l,w,rfl,hz⟩
  obtain⟨I,rfl⟩:=U9 hi;rw[DU];refine⟨_,rfl,?_⟩;refine Z9 (Zk (d:=.int ((0:Nat):Int)) rfl ?_);have fin:∀ q:Nat,Go (Y2 5 (dO Wu (U 5) (dO Yf (U 2) (dO T5 (dO Wu (dO Wu (dO Vw (U 0) (dC (.int 49))) (dO Km (dC (.int 5)) (U 6))) (dO Km (dC (.int 7)) (U 7))) (dC (.int 26))))) [.fz (.int (c:Int)),.fz (.int (k:Int)),.fz (.str Vm),.fz (.int (n:Int)),.fz (.int (a:Int)),.fz (.str z),.fz (.int (i:Int)),.fz (.int (q:Int))]) (λe=>∃ (z:Str) (l w:LH),e=[.fz (.int (c:Int)),.fz (.int (k:Int)),.fz (.str Vm),.fz (.int (n:Int)),.fz (.int (a:Int)),.fz (.str z),l,w]/\z.length=i+1) (λd=>∃ z:Str,d=.str z):=λq=>by
   have hx:=Xi (j:=(((c / 49+5*i+7*q) % 26:Nat):Int)) (by lia) (by lia);refine Zk (Z6 rfl (Z6 rfl (Z6 (Z6 (Z6 (Z6 rfl rfl (Tc c 49 (by lia) (by lia))) (Z6 rfl rfl (TU 5 i (by lia))) (Jp _ _)) (Z6 rfl rfl (TU 7 q (by lia))) (Jp _ _)) rfl (Jo _ 26 (by lia))) hx) (Bo (by show z.length+1<=_;lia))) ?_;exact⟨_,_,_,rfl,by rw[Ps];show _+1=_;lia⟩
  refine Z9 (Sr (Ya (Z6 rfl rfl (QC i a))) (λhb=>?_) (λhb=>?_))
  ·exact Zk rfl (fin k)
  ·exact Yh (fin 0)
 ·rintro e ⟨z,l,w,rfl,hz⟩
  rw[T4] at hz;refine Z9 (Sr (b:=decide (z∈(NY:Z Str))) (Ya (Z6 rfl rfl (ZS z NY))) (λhb=>?_) (λhb=>?_))
  ·refine Zk (Z6 (D3 rfl (Vx rfl) rfl (jw z _ _)) rfl (Bo ?_)) (go_ret rfl ⟨_,rfl⟩)
   have:=HH z (some 1) none;show(Txt.slice z (some 1) none).length+1<=_;lia
  ·exact Yh (go_ret rfl ⟨_,rfl⟩)
theorem nt(ns:Z Int)(first n:Nat)(hf:first<=1000)(hn:n<=10):∃ ps:Z Nat,S3 [Ez ns,.int (first:Int),.int (n:Int)]=.ok (.lst (Zd ps))/\NM n ps:=by
 have:=Y1 (n:=8) (p:=3) (ds:=[Ez ns,.int (first:Int),.int (n:Int)]) (g:=Qi) (R:=λd=>∃ ps:Z Nat,d=.lst (Zd ps)/\NM n ps) rfl ?_
 ·obtain⟨d,e,z,rfl,h⟩:=this
  exact⟨z,e,h⟩
 unfold Qi;refine Z9 (Q8 (ds:=Zd []) rfl ?_);refine Z9 (V4 (ds:=rng 0 n) (λi e=>∃ (ps:Z Nat) (v4 v5 l w:LH),e=[.fz (Ez ns),.fz (.int (first:Int)),.fz (.int (n:Int)),.ow (Zd ps),v4,v5,l,w]/\NM i ps) (Wi (Z2 rfl rfl) (by lia)) ⟨[],.un,.un,.un,.un,rfl,rfl,λv=>by simp⟩ ?_ ?_)
 ·rintro i d e hi ⟨ps,v4,v5,l,w,rfl,ho⟩
  obtain⟨I,rfl⟩:=U9 hi;rw[DU];refine⟨_,rfl,?_⟩;obtain⟨c,ec,lc⟩:=Hd ns (first+i) (by lia);have hl:=ho.len;refine Z9 (Zk (Ze (xs:=[Ez ns,.int ((first+i:Nat):Int)]) (Z2 rfl (Z2 (Z6 rfl rfl (Jp _ _)) rfl)) ec) ?_);refine Z9 (Zk (Z6 rfl (Z6 (Yv (Z2 rfl rfl) (Mw ps)) rfl (Jp _ 1)) (Jo c (ps.length+1) (by lia))) ?_);have ha:c % (ps.length+1)<=ps.length:=by have:=FH c (show 0<ps.length+1 by lia);lia
  generalize c % (ps.length+1)=a at ha;refine Z9 (Jr (ds:=Zd ps) (as:=[.int (a:Int),.int (i:Int)]) rfl rfl (Nj ps a i ha (by lia)) ?_);have ak:=Xu ps a i;have f:=Kb ps a i;generalize ps.take a++i::ps.drop a=qs at ak f;refine Z9 (Zk (Z6 (Z6 rfl rfl (Tc c 64 (by lia) (by lia))) (Z6 (Yv (Z2 rfl rfl) (Mw qs)) rfl (bv _ a (by lia))) (Jo (c / 64) (qs.length - a) (by lia))) ?_);have hb:c / 64 % (qs.length - a)<qs.length - a:=FH _ (by lia);generalize c / 64 % (qs.length - a)=b at hb;refine Jr (ds:=Zd qs) (as:=[.int ((a+1+b:Nat):Int),.int (i:Int)]) rfl (Z2 (Z6 (Z6 rfl rfl (Jp a 1)) rfl (Jp _ b)) (Z2 rfl rfl)) (Nj qs (a+1+b) i (by lia) (by lia)) ?_;have W:=Xu qs (a+1+b) i;have af:=Kb qs (a+1+b) i;refine⟨_,_,_,_,_,rfl,by lia,λv=>?_⟩;rw[af,f,ho.cnt];by_cases h1:i=v
  ·subst h1;rw[AL (by lia),AF rfl,AF (by lia)]
  ·rw[AL h1]
   by_cases h2:v<i
   ·rw[AF h2,AF (by lia)]
   ·rw[AL h2,AL (by lia)]
 ·rintro e ⟨ps,v4,v5,l,w,rfl,ho⟩
  rw[T4] at ho;exact Ku rfl ⟨ps,rfl,ho⟩
structure LN (n m:Nat) (qs:List (Nat×Nat)):Prop where
 len:qs.length<=m
 lt:∀ q∈qs,q.1<q.2/\q.2<n
theorem LN.app(h:LN n m qs)(h':LN n m' rs):LN n (m+m') (qs++rs):=⟨by rw[AX];have:=h.len;have:=h'.len;lia,λq hq=>(BV.mp hq).elim (h.lt q) (h'.lt q)⟩
theorem LN.sub(h:LN n m qs)(s:rs.Sublist qs):LN n m rs:=⟨BC s.length_le h.len,λq hq=>h.lt q (s.subset hq)⟩
theorem LN.one(h1:q.1<q.2)(h2:q.2<n):LN n 1 [q]:=⟨AT _,λp hp=>by rw[AJ.mp hp];exact⟨h1,h2⟩⟩
theorem LN.mono(h:LN n m qs)(hm:m<=m'):LN n m' qs:=⟨BC h.len hm,h.lt⟩
theorem LN.nil(n m:Nat):LN n m []:=⟨CP _,λq hq=>by cases hq⟩
theorem l9(ns:Z Int)(first o size:Nat)(hf:first<=1000)(hm:o<=100)(hs:0<size):∃ qs:Z (Nat×Nat),Mi [Ez ns,.int (first:Int),.int (o:Int),.int (size:Int)]=.ok (.lst (qs.map Zy))/\LN size o qs:=by
 have:=Y1 (n:=9) (p:=4) (ds:=[Ez ns,.int (first:Int),.int (o:Int),.int (size:Int)]) (g:=Tp) (R:=λd=>∃ qs:Z (Nat×Nat),d=.lst (qs.map Zy)/\LN size o qs) rfl ?_
 ·obtain⟨d,e,z,rfl,h⟩:=this
  exact⟨z,e,h⟩
 unfold Tp;refine Z9 (Q8 (ds:=([]:Z (Nat×Nat)).map Zy) rfl ?_);refine Z9 (V4 (ds:=rng 0 o) (λi e=>∃ (qs:Z (Nat×Nat)) (v5 l w H:LH),e=[.fz (Ez ns),.fz (.int (first:Int)),.fz (.int (o:Int)),.fz (.int (size:Int)),.ow (qs.map Zy),v5,l,w,H]/\LN size i qs) (Wi (Z2 rfl rfl) (by lia)) ⟨[],.un,.un,.un,.un,rfl,LN.nil _ _⟩ ?_ ?_)
 ·rintro i d e hi ⟨qs,v5,l,w,H,rfl,hq⟩
  obtain⟨I,rfl⟩:=U9 hi;rw[DU];refine⟨_,rfl,?_⟩;obtain⟨c,ec,lc⟩:=Hd ns (first+i) (by lia);refine Z9 (Zk (Ze (xs:=[Ez ns,.int ((first+i:Nat):Int)]) (Z2 rfl (Z2 (Z6 rfl rfl (Jp _ _)) rfl)) ec) ?_);refine Z9 (Zk (Z6 rfl rfl (Jo c size hs)) ?_);refine Z9 (Zk (Z6 (Z6 rfl rfl (Tc c 64 (by lia) (by lia))) rfl (Jo _ size hs)) ?_);have ha:c % size<size:=FH _ hs;have hb:c / 64 % size<size:=FH _ hs;generalize c % size=a at ha;generalize c / 64 % size=b at hb;obtain⟨z,hz⟩:=Ar (min a b,max a b) qs;have P:∀ env:Ev,env[7]?=some (.fz (.int (a:Int)))->env[8]?=some (.fz (.int (b:Int)))->Wk (O (dF QJ (O (U 7) (O (U 8) Za))) (O (dF OC (O (U 7) (O (U 8) Za))) Za)) env=some (Zy (min a b,max a b)):=λenv r s=>by
   have J:U 7 env=some (.int (a:Int)):=by unfold U;rw[r]
   have e8:U 8 env=some (.int (b:Int)):=by unfold U;rw[s]
   exact Y3 (Z2 (Yv (Z2 J (Z2 e8 rfl)) (hK a b)) (Z2 (Yv (Z2 J (Z2 e8 rfl)) (hU a b)) rfl)) (by simp)
  refine Sr (Ua (Ya (Z6 rfl rfl (ef a b))) λ_=>Ya (Z6 (P _ rfl rfl) rfl hz)) (λhb=>?_) (λ_=>Yh ⟨qs,_,_,_,_,rfl,hq.mono (by lia)⟩);have ag:a≠b:=by
   have:=(GP.mp hb).1;simpa using this
  refine Jr (ds:=qs.map Zy) (as:=[Zy (min a b,max a b)]) (ds':=(qs++[(min a b,max a b)]).map Zy) rfl (Z2 (P _ rfl rfl) rfl) (by rw[Qs (by rw[AD];have:=hq.len;lia),BR];rfl) ⟨_,_,_,_,_,rfl,hq.app (LN.one (by show min a b<max a b;lia) (by show max a b<_;lia))⟩
 ·rintro e ⟨qs,v5,l,w,H,rfl,hq⟩
  rw[T4] at hq;exact Ku rfl ⟨qs,rfl,hq⟩
end K75
set_option maxHeartbeats 1000000
variable{one:Nat->Nat}
namespace K75
open PySem PySem.Spec PyProof.Rows L2
theorem kN(p q:Nat×Nat):Mt (Zy p) (Zy q)=decide (p=q):=by
 show(((p.1:Int)==(q.1:Int))&&(((p.2:Int)==(q.2:Int))&&true))=_;rw[FF];simp only[AY,DO,CK,and_true];constructor
 ·rintro⟨h1,h2⟩;exact IW (by lia) (by lia)
 ·rintro rfl;exact⟨rfl,rfl⟩
theorem jT(p q:Nat×Nat):Hz (Zy p) (Zy q)=some (.bl (!decide (p=q))):=by
 unfold Hz;rw[Oi,Oi,kN];rfl
theorem jR(ps:Z Nat)(t:Nat)(h:t<=ps.length):Jn (Zd ps) (some (t:Int)) none=Zd (ps.drop t):=by
 unfold Zd;rw[Oq,Oq,dq ps t h]
theorem oy(b:Bool):Dp (.int (if b then 1 else 0)) (.int 0)=some (.bl (!b)):=by cases b<;>rfl
theorem p'(h1:a<2^k)(h2:b<2^k):a ||| b<2^k:=Nat.or_lt_two_pow h1 h2
structure DS (s0:Nat) (rs:List (Nat×Nat)) (ps:List Nat) (code d:Nat) (s:St3):Prop where
 w:ps[d]?=some s.w
 tk:Ic s0 rs (·.2) (·.1) d s.takes
 fl:Ic s0 rs (·.1) (·.2) d s.fills
 up:s.up=!(code.testBit s.w ^^ decide ((ps.take d).count s.w % 2=1))
def X'(G:G3)(n:Nat)(rs:Z (Nat×Nat)):Prop:=G.wires.length=n/\G.steps.length=2*n/\(∀ q∈rs,q.1<2*n/\q.2<2*n)/\(∀ w,w<n->2<=(G.steps.map (·.w)).count w)/\rs.length<=17
theorem ZU(ns:Z Int)(first n o:Nat)(hf:first<=900)(A:1<=n)(ao:n<=4)(hm:o<=5):∃ (G:G3) (s0:Nat) (ps:Z Nat) (rs:Z (Nat×Nat)),Ql [Ez ns,.int (first:Int),.int (n:Int),.int (o:Int)]=.ok G.d/\RG G n s0 (T3 ps) (Uz ps) rs/\Gb 54 G/\(∀ ws,Dk ⟨ws,G.steps,G.marks,G.code⟩)/\X' G n rs:=by
 have:=Y1 (n:=24) (p:=4) (ds:=[Ez ns,.int (first:Int),.int (n:Int),.int (o:Int)]) (g:=Qq) (R:=λd=>∃ (G:G3) (s0:Nat) (ps:Z Nat) (rs:Z (Nat×Nat)),d=G.d/\RG G n s0 (T3 ps) (Uz ps) rs/\Gb 54 G/\(∀ ws,Dk ⟨ws,G.steps,G.marks,G.code⟩)/\X' G n rs) rfl ?_
 ·obtain⟨d,e,z,s0,ps,rs,rfl,h⟩:=this
  exact⟨z,s0,ps,rs,e,h⟩
 unfold Qq;obtain⟨ps,eo,ho⟩:=nt ns first n (by lia) (by lia);have ac:=ho.len;refine Z9 (Zk (Ze (xs:=[Ez ns,.int (first:Int),.int (n:Int)]) rfl eo) ?_);refine Z9 (Zk (Z6 rfl rfl (TU 2 n (by lia))) ?_);obtain⟨m,aP⟩:∃ m:Nat,2*n=m:=⟨_,rfl⟩;rw[aP] at ac ⊢;obtain⟨c,ec,lc⟩:=Hd ns (first+n) (by lia);refine Z9 (Zk (Ze (xs:=[Ez ns,.int ((first+n:Nat):Int)]) (Z2 rfl (Z2 (Z6 rfl rfl (Jp _ _)) rfl)) ec) ?_);obtain⟨qs,eq,hq⟩:=l9 ns (first+n+1) o m (by lia) (by lia) (by lia);refine Z9 (Zk (Ze (xs:=[Ez ns,.int ((first+n+1:Nat):Int),.int (o:Int),.int (m:Int)]) (Z2 rfl (Z2 (Z6 (Z6 rfl rfl (Jp _ _)) rfl (Jp _ 1)) rfl)) eq) ?_);refine Z9 (Go.mono (N:=λe=>∃ rs:Z (Nat×Nat),e=[.fz (Ez ns),.fz (.int (first:Int)),.fz (.int (n:Int)),.fz (.int (o:Int)),.fz (.lst (Zd ps)),.fz (.int (m:Int)),.fz (.int (c:Int)),.fz (.lst (rs.map Zy)),.un,.un,.un,.un,.un,.un,.un,.un,.un,.un,.un,.un,.un,.un,.un,.un]/\LN m 12 rs) ?_ ?_ (λ_ h=>h))
 ·refine Sr (Ya (Z6 (Z6 rfl rfl (Jo c 3 (by lia))) rfl (QC _ 0))) (λ_=>?_) (λ_=>Yh ⟨qs,rfl,hq.mono (by lia)⟩)
  obtain⟨ks,hs,hc⟩:=Aw (g:=Yd 0) (t:=dB (dO Hf (Wk (O (U 0) (O (dO Wu (U 0) (dC (.int 1))) Za))) (U 1))) (f:=Wk (O (U 0) (O (dO Wu (U 0) (dC (.int 1))) Za))) (env:=[.un,.fz (.lst (qs.map Zy))]) (λk:Nat=>Dat.int (k:Int)) (λk:Nat=>Zy (k,k+1)) (List.range (m - 1)) λk _=>by
   obtain⟨b,hb⟩:=Ar (k,k+1) qs;have P:Wk (O (U 0) (O (dO Wu (U 0) (dC (.int 1))) Za)) [.fz (.int (k:Int)),.fz (.lst (qs.map Zy))]=some (Zy (k,k+1)):=Y3 (Z2 rfl (Z2 (Z6 rfl rfl (Jp k 1)) rfl)) (by simp);exact⟨_,b,rfl,Ya (Z6 P rfl hb),P⟩
  rw[← Ij] at hc;have hp:LN m 7 (ks.map λk=>(k,k+1)):=⟨by have:=hs.length_le;rw[DE] at this;rw[AD];lia,λq hq=>by
   obtain⟨k,Y,rfl⟩:=CL.mp hq;have:=CZ.mp (hs.subset Y);exact⟨by show k<k+1;lia,by show k+1<m;lia⟩⟩
  have ak:=hq.len;have W:=hp.len;rw[AD] at W;refine Zk (Z6 rfl (Wp (W9 (xs:=rng 0 (m - 1)) (Wi (Z2 (Z6 rfl rfl (bv m 1 (by lia))) rfl) (by lia)) rfl hc)) (Cw (by rw[AD,AD];lia))) ⟨qs++ks.map λk=>(k,k+1),by rw[BR,EX];rfl,(hq.app hp).mono (by lia)⟩
 rintro e ⟨rs,rfl,hr⟩;clear eq hq qs;refine Z9 (V4 (ds:=rng 0 n) (λi e=>∃ (rs:Z (Nat×Nat)) (H v9 ar:LH),e=[.fz (Ez ns),.fz (.int (first:Int)),.fz (.int (n:Int)),.fz (.int (o:Int)),.fz (.lst (Zd ps)),.fz (.int (m:Int)),.fz (.int (c:Int)),.fz (.lst (rs.map Zy)),H,v9,ar,.un,.un,.un,.un,.un,.un,.un,.un,.un,.un,.un,.un,.un]/\LN m (12+i) rs/\∀ w,w<i->(T3 ps w,Uz ps w)∈rs) (Wi (Z2 rfl rfl) (by lia)) ⟨rs,.un,.un,.un,rfl,hr,λw hw=>absurd hw (by lia)⟩ ?_ ?_)
 ·rintro i d e hi ⟨rs,H,v9,ar,rfl,hr,az⟩
  obtain⟨I,rfl⟩:=U9 hi;rw[DU];refine⟨_,rfl,?_⟩;have y:i∈ps:=ho.mem.mpr I;have aK:ps.idxOf i<ps.length:=GL y;have h2:=second (ho.two I);have au:Uz ps i=ps.idxOf i+1+(ps.drop (ps.idxOf i+1)).idxOf i:=rfl;have aD:T3 ps i=ps.idxOf i:=rfl;refine Z9 (Zk (dE rfl rfl rfl (Ph ps i y)) ?_);generalize ps.idxOf i=one at aK h2 au aD;have aE:(ps.drop (one+1)).idxOf i<(ps.drop (one+1)).length:=GL h2;rw[CH] at aE;refine Z9 (Zk (Z6 (Z6 rfl rfl (Jp one 1)) (dE (x:=.lst (Zd (ps.drop (one+1)))) (D3 rfl (Vx (Z6 rfl rfl (Jp one 1))) rfl (by rw[Bp,jR ps _ (by lia)])) rfl rfl (Ph _ i h2)) (Jp _ _)) ?_);generalize (ps.drop (one+1)).idxOf i=x2 at aE au;have hc:=Uk (g:=Yd 0) (t:=dB (dO Hz (U 0) (Wk (O (U 1) (O (U 2) Za))))) (f:=U 0) (env:=[.un,.fz (.int (one:Int)),.fz (.int ((one+1+x2:Nat):Int))]) Zy Zy (λq=>!decide (q=(one,one+1+x2))) rs λq _ =>
   ⟨_,rfl,Ya (Z6 rfl (Y3 rfl (by simp)) (jT q (one,one+1+x2))),rfl⟩
  have hs:(rs.filter λq=>!decide (q=(one,one+1+x2))).Sublist rs:=List.filter_sublist;have hl:=hs.length_le;have W:=hr.len;refine Zk (Z6 (Wp (W9 (xs:=rs.map Zy) rfl rfl hc)) (Wp (Tu (xs:=[Zy (one,one+1+x2)]) (Z2 (Y3 rfl (by simp)) rfl) (by simp))) (Cw (by rw[AD];show _+1<=_;lia))) ⟨(rs.filter λq=>!decide (q=(one,one+1+x2)))++[(one,one+1+x2)],_,_,_,by rw[BR];rfl,?_,?_⟩
  ·exact((hr.sub hs).app (LN.one (by show one<one+1+x2;lia) (by show one+1+x2<m;lia))).mono (by lia)
  ·intro w hw
   by_cases e:(T3 ps w,Uz ps w)=(one,one+1+x2)
   ·rw[e];exact CB _ (AJ.mpr rfl)
   ·have S:w<i:=by
     rcases DN w i with h | h
     ·exact h
     ·have:w=i:=by lia
      subst this;exact absurd (IW aD au) e
    exact CI _ (ES.mpr ⟨az w S,by rw[AH e];rfl⟩)
 rintro e ⟨rs,H,v9,ar,rfl,hr,az⟩;rw[T4] at hr az;refine Z9 (ce (ds:=Zd ps) rfl ?_);refine Z9 (ce (ds:=Zd ps) rfl ?_);rw[AD,AD,ac,nj];refine Z9 (Zk (d:=.int ((0:Nat):Int)) rfl ?_);refine Z9 (Zk (Z6 (Z6 rfl rfl (Tc c 3 (by lia) (by lia))) rfl (Jo _ 20 (by lia))) ?_);have aQ:c / 3 % 20<20:=FH _ (by lia);generalize c / 3 % 20=s0 at aQ;refine Z9 (V4 (ds:=rs.map Zy) (λi e=>∃ (tk fl:Z (Z Nat)) (mk:Nat) (aA aB:LH),e=[.fz (Ez ns),.fz (.int (first:Int)),.fz (.int (n:Int)),.fz (.int (o:Int)),.fz (.lst (Zd ps)),.fz (.int (m:Int)),.fz (.int (c:Int)),.fz (.lst (rs.map Zy)),H,v9,ar,.gx (.nest (tk.map Zd)),.gx (.nest (fl.map Zd)),.fz (.int (mk:Int)),.fz (.int ((s0+2*i:Nat):Int)),aA,aB,.un,.un,.un,.un,.un,.un,.un]/\tk.length=m/\fl.length=m/\MO (2*i) (s0+2*i) tk/\MO (2*i) (s0+2*i) fl/\mk<2^(s0+2*i)/\(∀ l∈tk,l.Nodup)/\(∀ l∈fl,l.Nodup)/\NS s0 (rs.take i) (·.2) (·.1) tk/\NS s0 (rs.take i) (·.1) (·.2) fl/\∀ q,mk.testBit q=true↔∃ t,t<i/\q=s0+2*t+1) rfl ⟨_,_,0,.un,.un,rfl,EW,EW,(MO.nil m).mono (by lia) (by lia),(MO.nil m).mono (by lia) (by lia),IQ _,λl h=>by rw[(FU.mp h).2];exact EB,λl h=>by rw[(FU.mp h).2];exact EB,by rw[KZ];exact NS.nil _ _ _ _,by rw[KZ];exact NS.nil _ _ _ _,λq=>by simp⟩ ?_ ?_)
 ·rintro i d e hi ⟨tk,fl,mk,aA,aB,rfl,aL,aj,ht,M,am,aG,aH,aw,ax,aC⟩
  rw[AM] at hi;obtain⟨q,hq,rfl⟩:=map_some hi;have aR:=(AE.mp hq).1;have aM:=hr.lt q (AI hq);have aS:=hr.len;refine⟨_,rfl,?_⟩;have ag:=ht.mono (AT _) (show s0+2*i<=s0+2*i+2 by lia);have Q:=M.mono (AT _) (show s0+2*i<=s0+2*i+2 by lia);refine Z9 (Oo rfl Q (by lia) (k:=q.1) (by lia) rfl rfl ?_);refine Z9 (Oo rfl ag (by lia) (k:=q.2) (by lia) rfl rfl ?_);have aN:=ag.app q.2 (s0+2*i) (by lia);have X:=Q.app q.1 (s0+2*i) (by lia);refine Z9 (Oo (x:=s0+2*i+1) rfl X (by lia) (k:=q.2) (by rw[Jf];lia) rfl rfl ?_);refine Z9 (Oo (x:=s0+2*i+1) rfl aN (by lia) (k:=q.1) (by rw[Jf];lia) rfl rfl ?_);have aT:=aN.app q.1 (s0+2*i+1) (by lia);have aU:=X.app q.2 (s0+2*i+1) (by lia);have aV:=(ht.mono (AT _) (show s0+2*i<=s0+2*i+1 by lia)).app q.2 (s0+2*i) (by lia);have aW:=(M.mono (AT _) (show s0+2*i<=s0+2*i+1 by lia)).app q.1 (s0+2*i) (by lia);have aO:(rs.take i).length=i:=by rw[CM];lia
  have aF:rs.take (i+1)=rs.take i++[q]:=by rw[HE,hq];rfl
  refine Z9 (Zk (Z6 rfl (Z6 rfl (Z6 rfl rfl (Jp _ 1)) (RV (s0+2*i+1) (by lia))) (RZ mk _)) ?_);refine Zk (Z6 rfl rfl (Jp _ 2)) ⟨_,_,_,_,_,rfl,by rw[Jf,Jf,aL],by rw[Jf,Jf,aj],aT.mono (by lia) (by lia),aU.mono (by lia) (by lia),?_,?_,?_,?_,?_,?_⟩
  ·exact p' (AR am (CY (by lia) (by lia))) (Nat.pow_lt_pow_right (by lia) (by lia))
  ·exact C6 aV (C6 ht aG _ _ (AT _)) _ _ (AT _)
  ·exact C6 aW (C6 M aH _ _ (AT _)) _ _ (AT _)
  ·have:=aw.app q (by show q.2<_;lia) (by show q.1<_;lia)
   rw[aO] at this;rw[aF];exact this
  ·have:=ax.app q (by show q.1<_;lia) (by show q.2<_;lia)
   rw[aO] at this;rw[aF];exact this
  ·intro j
   rw[FX,GB,aC,GZ,CK];constructor
   ·rintro(⟨t,h1,h2⟩ | h1)
    ·exact⟨t,by lia,h2⟩
    ·exact⟨i,by lia,h1.symm⟩
   ·rintro⟨t,h1,h2⟩
    rcases DN t i with h | h
    ·exact .inl ⟨t,h,h2⟩
    ·have:t=i:=by lia
     subst this;exact .inr h2.symm
 rintro e ⟨tk,fl,mk,aA,aB,rfl,aL,aj,ht,M,am,aG,aH,aw,ax,aC⟩;rw[AD] at ht M am aw ax aC ⊢;rw[CG (AT _)] at aw ax;have aS:=hr.len;have ht:=ht.mono (L':=32) (B':=54) (by lia) (by lia);have M:=M.mono (L':=32) (B':=54) (by lia) (by lia);have am:mk<2^54:=AR am (CY (by lia) (by lia));refine Z9 (Zk (Z6 (Z6 rfl rfl (Tc c 60 (by lia) (by lia))) (Z6 rfl rfl (RV n (by lia))) (Jo _ (2^n) (IQ _))) ?_);have aI:c / 60 % 2^n<2^n:=FH _ (IQ _);generalize c / 60 % 2^n=code at aI;refine Z9 (Zk rfl ?_);refine Z9 (Q8 (ds:=([]:Z St3).map St3.d) rfl ?_);generalize (s0+2*rs.length)=s9;refine Z9 (V4 (ds:=Jl 0 (Zd ps)) (λi e=>∃ (a:Z St3) (seen:Nat) (H aJ:LH),e=[.fz (Ez ns),.fz (.int (first:Int)),.fz (.int (n:Int)),.fz (.int (o:Int)),.fz (.lst (Zd ps)),.fz (.int (m:Int)),.fz (.int (c:Int)),.fz (.lst (rs.map Zy)),H,v9,ar,.gx (.nest (tk.map Zd)),.gx (.nest (fl.map Zd)),.fz (.int (mk:Int)),.fz (.int (s9:Int)),aA,aB,.fz (.int (code:Int)),.fz (.int (seen:Int)),.ow (a.map St3.d),aJ,.un,.un,.un]/\a.length=i/\(∀ v,seen.testBit v=(code.testBit v ^^ decide ((ps.take i).count v % 2=1)))/\(∀ j s,a[j]?=some s->DS s0 rs ps code j s)/\∀ s∈a,SB 54 n s) rfl ⟨[],code,H,.un,rfl,rfl,λv=>by simp,λj s h=>(by simp at h),by simp⟩ ?_ ?_)
 ·rintro i d e hi ⟨a,seen,H,aJ,rfl,af,ap,B,ay⟩
  obtain⟨x,hx,rfl⟩:=Bc hi;obtain⟨w,hw,rfl⟩:=Dt hx;have aR:=(AE.mp hw).1;have aa:w<n:=ho.mem.mp (AI hw);refine⟨_,rfl,?_⟩;have e1:tk[i]?=some tk[i]:=AG (by lia);have e2:fl[i]?=some fl[i]:=AG (by lia);have n1:=aw i;have n2:=ax i;rw[show tk.getD i []=tk[i] by rw[List.getD,e1];rfl] at n1;rw[show fl.getD i []=fl[i] by rw[List.getD,e2];rfl] at n2;generalize al:tk[i]=tl at e1 n1;generalize hfl':fl[i]=aq at e2 n2;have t1:=ht.len _ (AI e1);have t2:=ht.lt _ (AI e1);have f1:=M.len _ (AI e2);have f2:=M.lt _ (AI e2);obtain⟨ta,ea,pa⟩:=Im tl (by lia);obtain⟨fa,F,pb⟩:=Im aq (by lia);refine Z9 (Jr (ds:=a.map St3.d) (as:=[(⟨w,!(seen.testBit w),ta,fa⟩:St3).d]) (ds':=(a++[(⟨w,!(seen.testBit w),ta,fa⟩:St3)]).map St3.d) rfl (Z2 (Y3 (Z2 rfl (Z2 (Z6 (Z6 (Z6 rfl rfl (cb seen w)) rfl (d3 seen w)) rfl (oy _)) (Z2 (Yv (Z2 (Wp (Yv (Z2 (eJ rfl rfl e1) rfl) ea)) rfl) rfl) (Z2 (Yv (Z2 (Wp (Yv (Z2 (eJ rfl rfl e2) rfl) F)) rfl) rfl) rfl)))) (by simp)) rfl) ?_ ?_)
  ·rw[Qs (by rw[AD];lia),BR];rfl
  ·refine Zk (Z6 rfl (Z6 rfl rfl (RV w (by lia))) (cV seen _)) ⟨_,_,_,_,rfl,by rw[AX,DI,af],?_,?_,λs hs=>?_⟩
   ·intro v
    rw[J6,ap,HE,hw];show(code.testBit v ^^ decide ((ps.take i).count v % 2=1) ^^ decide (w=v))=(code.testBit v ^^ decide ((ps.take i++[w]).count v % 2=1));rw[List.count_append,List.count_singleton];by_cases ew:w=v
    ·subst ew
     rw[show(w==w)=true from EK _,AK rfl,AF rfl];by_cases hp:(ps.take i).count w % 2=1
     ·rw[AK hp,AH (by lia)];cases code.testBit w<;>rfl
     ·rw[AH hp,AK (by lia)];cases code.testBit w<;>rfl
    ·rw[show(w==v)=false from CJ.mpr ew,AH ew];simp
   ·intro j s hj
    rcases DN j a.length with hl | hl
    ·rw[BW hl] at hj
     exact B j s hj
    ·rw[DC hl] at hj
     have C:j - a.length=0:=by
      rcases DW (j - a.length) with z | z
      ·exact z
      ·rw[IC,AL (by lia)] at hj;cases hj
     rw[C] at hj;cases hj;have ej:j=i:=by lia
     subst ej;exact⟨hw,n1.perm pa,n2.perm pb,by show(!(seen.testBit w))=_;rw[ap]⟩
   rcases BV.mp hs with h | h
   ·exact ay s h
   ·rw[AJ.mp h]
    exact⟨aa,λp hp=>t2 p (pa.mem_iff.mp hp),λp hp=>f2 p (pb.mem_iff.mp hp),pa.nodup_iff.mpr (aG _ (AI e1)),pb.nodup_iff.mpr (aH _ (AI e2))⟩
 rintro e ⟨a,seen,H,aJ,rfl,af,ap,B,ay⟩;rw[J7,AD,AD] at af;refine Z9 (Zk (Z6 (Z6 rfl rfl (Tc c 2000 (by lia) (by lia))) rfl (Jo _ m (by lia))) ?_);have aX:c / 2000 % m<m:=FH _ (by lia);generalize c / 2000 % m=t at aX;refine Z9 (Q8 (ds:=(a.drop t++a.take t).map St3.d) (by
  refine Z6 (D3 rfl (Vx rfl) rfl (Bp _ _ _)) (D3 rfl rfl (Vx rfl) (Bp _ _ _)) ?_;rw[Oq,Oq,dq a t (by lia),lF a t (by lia),qu (by rw[AD,AD,CH,CM];lia),BR]) ?_)
 refine Z9 (Zk (Z6 rfl rfl (Tc c 40000 (by lia) (by lia))) ?_);obtain⟨ws,ew,wl,_⟩:=dA (g:=Yd 0) (f:=Wk (O (Zq Ma (O (U 1) (O (U 0) Za))) (O (dO Yf (dL (T9 (O (dC (.str "given")) (O (dC (.str "made")) Za)))) (dO T5 (dO Vw (Zq W4 (O (U 2) (O (dO Wu (U 3) (U 0)) Za))) (dC (.int 4096))) (dC (.int 2)))) Za))) (env:=[.un,.fz (.int ((c / 40000:Nat):Int)),.fz (Ez ns),.fz (.int (first:Int))]) Ta (λ_=>True) (rng 0 n) λx hx=>by
  obtain⟨i,hi,rfl⟩:=f4 hx;rw[DU];obtain⟨z,ez⟩:=ie (c / 40000) i;obtain⟨r,er,_⟩:=Hd ns (first+i) (by lia);have p1:=iR (.str "given") (.str "made") (j:=((r / 4096 % 2:Nat):Int)) (by lia) (by lia);refine⟨[.fz (.int (i:Int)),.fz (.int ((c / 40000:Nat):Int)),.fz (Ez ns),.fz (.int (first:Int))],(z,decide (((r / 4096 % 2:Nat):Int)=1)),rfl,?_,trivial⟩;refine KP (Y3 (Z2 (Ze (xs:=[.int ((c / 40000:Nat):Int),.int (i:Int)]) rfl ez) (Z2 (Z6 (x:=.lst [.str "given",.str "made"]) rfl (Z6 (Z6 (Ze (xs:=[Ez ns,.int ((first+i:Nat):Int)]) (Z2 rfl (Z2 (Z6 rfl rfl (Jp _ _)) rfl)) er) rfl (Tc r 4096 (by lia) (by lia))) rfl (Jo _ 2 (by lia))) p1) rfl)) (by simp)) ?_;show some (Dat.tup [.str z,if((r / 4096 % 2:Nat):Int)=1 then .str "made" else .str "given"])=some (Dat.tup [.str z,.str (if decide (((r / 4096 % 2:Nat):Int)=1)=true then "made" else "given")]);by_cases hb:((r / 4096 % 2:Nat):Int)=1
  ·rw[AF hb,AK hb];rfl
  ·rw[AL hb,AH hb];rfl
 rw[T4] at wl;refine Z9 (Zk (d:=.lst (ws.map Ta)) (Wp (W9 (xs:=rng 0 n) (Wi (Z2 rfl rfl) (by lia)) rfl ew)) ?_);have D:(a.drop t++a.take t).Perm a:=by
  have:=List.perm_append_comm (l₁:=a.drop t) (l₂:=a.take t);rw[FO] at this;exact this
 have J:=D.length_eq;refine go_ret (Y3 (Z2 (Yv (Z2 rfl rfl) rfl) (Z2 (Yv (Z2 rfl rfl) rfl) rfl)) (by simp)) ⟨⟨ws,a.drop t++a.take t,mk,code⟩,s0,ps,rs,rfl,?_,?_,?_,wl,by show(a.drop t++a.take t).length=2*n;lia,λq hq=>⟨by have:=hr.lt q hq;lia,by have:=(hr.lt q hq).2;lia⟩,λw hw=>?_,by lia⟩
 ·exact {
   ne:=λq hq=>by have:=(hr.lt q hq).1;lia
   ring:=az
   inj:=λw v hw hv h=>ho.inj w v hw hv h
   mks:=aC
   st:=λs hs=>by
    obtain⟨d,hd⟩:=FW (D.mem_iff.mp hs);have q:=B d s hd;have aa:=(ay s (D.mem_iff.mp hs)).w;have u:=(AE.mp hd).1;refine⟨d,aa,by lia,q.tk,q.fl,?_⟩;have hu:=q.up;rcases XT q.w (ho.two aa) with⟨h1,h2⟩ | ⟨h1,h2⟩
    ·exact .inl ⟨h2,by rw[hu,h1];show(!(code.testBit s.w ^^ decide (0 % 2=1)))=(!code.testBit s.w);simp⟩
    ·exact .inr ⟨h2,by rw[hu,h1];show(!(code.testBit s.w ^^ decide (1 % 2=1)))=code.testBit s.w;simp⟩ }
 ·exact { w2:=by show ws.length<=10;lia,s1:=by show 1<=(a.drop t++a.take t).length;lia,s2:=by show(a.drop t++a.take t).length<=24;lia,st:=λs hs=>by show SB 54 ws.length s;rw[wl];exact ay s (D.mem_iff.mp hs),mks:=am }
 ·intro aY
  have T:((List.range m).drop t++(List.range m).take t).Nodup:=by
   have hp:((List.range m).drop t++(List.range m).take t).Perm (List.range m):=by
    have:=List.perm_append_comm (l₁:=(List.range m).drop t) (l₂:=(List.range m).take t);rw[FO] at this;exact this
   exact hp.nodup_iff.mpr List.nodup_range
  refine fw (n:=n) (s0:=s0) (one:=T3 ps) (two:=Uz ps) (rs:=rs) _ T λi s hi=>?_
  have ah:∀ d:Nat,a[d]?=some s->PM (⟨aY,a.drop t++a.take t,mk,code⟩:G3) s0 (T3 ps) (Uz ps) rs n d s:=λd hd=>by
   have q:=B d s hd;have aa:=(ay s (AI hd)).w;have u:=(AE.mp hd).1;refine⟨aa,by lia,q.tk,q.fl,?_⟩;have hu:=q.up;rcases XT q.w (ho.two aa) with⟨h1,h2⟩ | ⟨h1,h2⟩
   ·exact .inl ⟨h2,by rw[hu,h1];show(!(code.testBit s.w ^^ decide (0 % 2=1)))=(!code.testBit s.w);simp⟩
   ·exact .inr ⟨h2,by rw[hu,h1];show(!(code.testBit s.w ^^ decide (1 % 2=1)))=code.testBit s.w;simp⟩
  have E:(a.drop t++a.take t)[i]?=some s:=hi;rcases DN i (m - t) with h | h
  ·rw[BW (by rw[CH];lia),JG] at E
   refine⟨t+i,?_,ah _ E⟩;rw[BW (by rw[CH,DE];lia),JG,GE (by lia)]
  ·rw[DC (by rw[CH];lia),CH,JH] at E
   split at E
   ·rename_i ae
    refine⟨i - (a.length - t),?_,ah _ E⟩;have e9:i - (m - t)=i - (a.length - t):=by lia
    rw[DC (by rw[CH,DE];lia),CH,DE,JH,e9,AF ae,GE (by lia)]
   ·cases E
 ·have ai:a.map (·.w)=ps:=by
   refine II λd=>?_
   rw[AM];cases hd:a[d]? with
   | none =>
    have h1:=HA.mp hd;rw[HA.mpr (by lia)];rfl
   | some s=>rw[(B d s hd).w];rfl
  show 2<=((a.drop t++a.take t).map (·.w)).count w;rw[(D.map _).count_eq,ai,ho.cnt,AF hw];exact AT _
variable{r:Rw}
theorem bj(a b:Z Nat):Zd a++Zd b=Zd (a++b):=by unfold Zd;rw[BR,BR]
theorem Rq(f:α->Dat)(xs:Z α):Vq [.lst (xs.map f)]=some (.int ((xs.length:Nat):Int)):=by
 show some (Dat.int ((xs.map f).length:Int))=_;rw[AD]
theorem Q4(G:G3)(k:Nat)(s:St3)(h:G.steps[k]?=some s):V9 [G.d,.int (k:Int)]=.ok (.tup (Zd s.takes)):=by
 refine Wl (Y1 rfl ?_);unfold Hn;exact go_ret (Z6 (Z6 (Z6 rfl rfl rfl) rfl (Sh (x:=s.d) (by rw[AM,h];rfl))) rfl rfl) rfl
theorem Tv(ps:Z Nat)(hp:∀ p∈ps,p<=1000):Mp [.tup (Zd ps)]=.ok (.int (H3 ps:Int)):=by
 refine Wl (Y1 rfl ?_);unfold WZ;refine Z9 (Zk (d:=.int 0) rfl ?_);refine Z9 (V4 (ds:=Zd ps) (λi e=>∃ (z:Int) (v:LH),e=[.fz (.tup (Zd ps)),.fz (.int z),v]/\z=(((ps.take i).foldl (λa p=>a ||| 2^p) 0:Nat):Int)) rfl ⟨0,.un,rfl,rfl⟩ ?_ ?_)
 ·rintro i x e hi ⟨z,v,rfl,rfl⟩
  obtain⟨p,hq,rfl⟩:=Dt hi;have G:=hp p (AI hq);refine⟨_,rfl,?_⟩;refine Zk (d:=.int ((((ps.take (i+1)).foldl (λa p=>a ||| 2^p) 0:Nat)):Int)) (Z6 rfl (Z6 rfl rfl (RV p G)) ?_) ⟨_,_,rfl,rfl⟩;rw[RZ,HE,hq,List.foldl_append];rfl
 ·rintro e ⟨z,v,rfl,rfl⟩
  refine go_ret rfl ?_;rw[AD,AD,CG (AT _)];rfl
theorem K8(G:G3)(k:Nat)(s:St3)(h:G.steps[k]?=some s):Tj [G.d,.int (k:Int)]=.ok (.int (s.w:Int)):=by
 refine Wl (Y1 rfl ?_);unfold Lz;exact go_ret (Z6 (Z6 (Z6 rfl rfl rfl) rfl (Sh (x:=s.d) (by rw[AM,h];rfl))) rfl rfl) rfl
theorem bX(G:G3)(k:Nat)(s:St3)(h:G.steps[k]?=some s):L7 [G.d,.int (k:Int)]=.ok (.bl s.up):=by
 refine Wl (Y1 rfl ?_);unfold Lv;exact go_ret (Z6 (Z6 (Z6 rfl rfl rfl) rfl (Sh (x:=s.d) (by rw[AM,h];rfl))) rfl rfl) rfl
theorem Kn(G:G3)(k:Nat)(s:St3)(h:G.steps[k]?=some s):Qy [G.d,.int (k:Int)]=.ok (.tup (Zd s.fills)):=by
 refine Wl (Y1 rfl ?_);unfold Hl;exact go_ret (Z6 (Z6 (Z6 rfl rfl rfl) rfl (Sh (x:=s.d) (by rw[AM,h];rfl))) rfl rfl) rfl
theorem XU(n p:Nat):Mz [.int (n:Int),.int (p:Int)]=.ok (.bl (n.testBit p)):=by
 refine Wl (Y1 rfl ?_);unfold Lh;exact go_ret (Z6 (Z6 (Z6 rfl rfl (cb n p)) rfl (d3 n p)) rfl (ml _)) rfl
theorem YT(a:Nat):Hz (.int (a:Int)) (.int 0)=some (.bl (!(a==0))):=by
 rw[ZI];congr 3
 rw[FF,DO,DO];lia
theorem bA(G:G3)(hG:Gb 64 G)(m:Nat)(cd:Dat)(k:Nat)(s:St3)(h:G.steps[k]?=some s):B1 [G.d,.tup [.int (m:Int),cd],.int (k:Int)]=.ok (.bl (Sx s m)):=by
 refine Wl (Y1 rfl ?_);unfold WA;have hs:=hG.st s (AI h);refine Z9 (Zk (Ze (xs:=[.tup (Zd s.takes)]) (Z2 (Ze (xs:=[G.d,.int (k:Int)]) rfl (Q4 G k s h)) rfl) (Tv s.takes λp hp=>by have:=hs.t p hp;lia)) ?_);exact go_ret (Z6 (Z6 (Z6 rfl rfl rfl) rfl (SY m _)) rfl (QC _ _)) rfl
structure MQ (s:St3) (p:Nat×Nat):Prop where
 can:Sx s p.1=true
 lev:p.2.testBit s.w≠s.up
 room:∀ q∈s.fills,p.1.testBit q=true->q∈s.takes
theorem pW(G:G3)(hG:Gb 64 G)(p:Nat×Nat)(k:Nat)(s:St3)(h:G.steps[k]?=some s)(hf:MQ s p):Ka [G.d,Zy p,.int (k:Int)]=.ok (Zy (Te s p)):=by
 have hs:=hG.st s (AI h);have C:=hG.w2;have l:=hs.w;refine Wl (Y1 rfl ?_);unfold Dy;refine Z9 (Zk (Ze (xs:=[G.d,.int (k:Int)]) rfl (K8 G k s h)) ?_);refine Z9 (Vs (Ya (Z6 (Ze (xs:=[.int (p.2:Int),.int (s.w:Int)]) (Z2 (Z6 rfl rfl rfl) rfl) (XU p.2 s.w)) (Ze (xs:=[G.d,.int (k:Int)]) rfl (bX G k s h)) (by rw[WY,show(p.2.testBit s.w==s.up)=false by simpa using hf.lev]))) (Yh ?_));obtain⟨i,F,a⟩:=Hc p.1 (H3 s.takes);refine Z9 (Zk (d:=.int (i:Int)) (Z6 (Z6 rfl rfl rfl) (YM (Ze (xs:=[.tup (Zd s.takes)]) (Z2 (Ze (xs:=[G.d,.int (k:Int)]) rfl (Q4 G k s h)) rfl) (Tv s.takes λp hp=>by have:=hs.t p hp;lia)) (z:=.int (-(H3 s.takes:Int) - 1)) rfl) (by show some (Dat.int (Builtin.bitAnd _ _))=_;rw[F])) ?_);refine Z9 (Zk (d:=.int (H3 s.fills:Int)) (Ze (xs:=[.tup (Zd s.fills)]) (Z2 (Ze (xs:=[G.d,.int (k:Int)]) rfl (Kn G k s h)) rfl) (Tv s.fills λp hp=>by have:=hs.f p hp;lia)) ?_);have hz:i &&& H3 s.fills=0:=DJ λj=>by
  rw[EE,a,Ww,Ww,IF];by_cases h1:j∈s.fills
  ·by_cases h2:p.1.testBit j=true
   ·rw[AK (hf.room j h1 h2)];simp
   ·have:p.1.testBit j=false:=by simpa using h2
    rw[this];rfl
  ·rw[AH h1,KM]
 refine Z9 (Vs (Ya (Z6 (Z6 rfl rfl (SY i _)) rfl (by rw[hz];exact YT 0))) (Yh ?_));have em:i ||| H3 s.fills=(Te s p).1:=DJ λj=>by rw[FX,a,Ww,Ww,UG]
 refine go_ret (Y3 (xs:=[.int ((Te s p).1:Int),.int ((Te s p).2:Int)]) (Z2 (Z6 rfl rfl (by rw[RZ,em])) (Z2 (Z6 (Z6 rfl rfl rfl) (Z6 rfl rfl (RV s.w (by lia))) (cV p.2 _)) rfl)) (by simp)) rfl
theorem TW(r:Rw):LX r.d none (some 2)=some (Zy r.st):=rfl
theorem Nx(G:G3)(hG:Gb 64 G)(p:Nat×Nat):Ru [G.d,Zy p]=.ok (.lst (Zd (QB G p.1))):=by
 refine Wl (Y1 rfl ?_);unfold Gx;have u:=hG.s2;have hc:=Uk (g:=Yd 0) (t:=dT (Zq B1 (O (U 1) (O (U 2) (O (U 0) Za))))) (f:=U 0) (env:=[.un,.fz G.d,.fz (Zy p)]) (λk:Nat=>Dat.int (k:Int)) (λk:Nat=>Dat.int (k:Int)) (OD G p.1) (List.range G.steps.length) λk Y=>by
  have j:=CZ.mp Y;have e:G.steps[k]?=some G.steps[k]:=AG j;refine⟨[.fz (.int (k:Int)),.fz G.d,.fz (Zy p)],rfl,?_,rfl⟩;have:OD G p.1 k=Sx G.steps[k] p.1:=by unfold OD;rw[e]
  rw[this];exact Qd (Ze (xs:=[G.d,.tup [.int (p.1:Int),.int (p.2:Int)],.int (k:Int)]) rfl (bA G hG p.1 _ k _ e))
 rw[← Ij] at hc;refine go_ret (Wp (W9 (xs:=rng 0 G.steps.length) (Wi (Z2 (Yv (Z2 (x:=.tup (G.steps.map St3.d)) (Z6 rfl rfl rfl) rfl) (by show some (Dat.int ((G.steps.map St3.d).length:Int))=_;rw[AD])) rfl) (by lia)) rfl hc)) ?_;rw[Yu];rfl
def eh(G:G3):Rw:=⟨G.marks,G.code,none⟩
theorem UQ(M:af.length<=400)(t:MF G I af)(n:Nat)(hn:n<af.length):Ge [.lst (af.map Rw.d),.int (n:Int)]=.ok (.lst (Zd (S8 af n))):=by
 refine Wl (Y1 rfl ?_);unfold WS;refine Z9 (Q8 (ds:=Zd []) rfl ?_);refine Z9 (Zk rfl ?_);refine Z9 (iX (λm e=>∃ (a:Nat) (ks:Z Nat),e=[.fz (.lst (af.map Rw.d)),.fz (.int (n:Int)),.ow (Zd ks),.fz (.int (a:Int))]/\m=a/\a<af.length/\S8 af n=S8 af a++ks.reverse/\ks.length+a<=n) (n:=n) ⟨n,[],rfl,rfl,hn,by simp,by simp⟩ ?_);rintro m e ⟨a,ks,rfl,rfl,hl,hw,Y⟩;obtain⟨r,hr⟩:∃ r,af[m]?=some r:=⟨_,AG hl⟩;have A:Yf (.lst (af.map Rw.d)) (.int (m:Int))=some r.d:=Wd (by rw[AM,hr];rfl);rcases DW m with z | z
 ·left
  have hs:=(pj t hr).mpr z;subst z;refine⟨Ya (Z6 (x:=.non) (Z6 (Z6 rfl rfl A) rfl (by show some (match r.src with | none=>Dat.non | some p=>.int (p.1:Int))=_;rw[hs])) rfl rfl),?_⟩;rw[bu,List.nil_append] at hw;refine go_ret (Wp (fQ (xs:=Zd ks) (Z2 rfl rfl))) ?_;rw[hw];unfold Zd;rw[List.map_reverse,List.map_reverse]
 ·right
  obtain⟨f,k,s,c,a1,a2,a3,a4,a5,a6⟩:=t.src m r hr z;have g:Yf r.d (.int 2)=some (.int (f:Int)):=by show some (match r.src with | none=>Dat.non | some p=>.int (p.1:Int))=_;rw[a1]
  have b:Yf r.d (.int 3)=some (.int (k:Int)):=by show some (match r.src with | none=>Dat.non | some p=>.int (p.2:Int))=_;rw[a1]
  refine⟨Ya (Z6 (x:=.int (f:Int)) (Z6 (Z6 rfl rfl A) rfl g) rfl rfl),?_⟩;refine Z9 (Jr (ds:=Zd ks) (as:=[.int (k:Int)]) (ds':=Zd (ks++[k])) rfl (Z2 (Z6 (Z6 rfl rfl A) rfl b) rfl) (by rw[Qs (by unfold Zd;rw[AD,AD];lia),← bj];rfl) ?_);refine Zk (Z6 (Z6 rfl rfl A) rfl g) ⟨f,a2,f,ks++[k],rfl,rfl,by lia,?_,by rw[AX,DI];lia⟩;rw[hw,cH t hr a1 z,List.reverse_append];simp
theorem Es(t:MF G I af):∀ n,n<af.length->(S8 af n).length<=n/\∀ k∈S8 af n,k<G.steps.length:=by
 intro m;induction m using strongRecOn with
 | _ m ih =>
  intro hm;rcases DW m with z | z
  ·subst z;rw[bu];exact⟨AT _,by simp⟩
  ·obtain⟨r',v⟩:∃ r,af[m]?=some r:=⟨_,AG hm⟩
   obtain⟨f,k,s,c,a1,a2,a3,_,_,_⟩:=t.src m r' v z;obtain⟨h1,h2⟩:=ih f a2 (by lia);rw[cH t v a1 z,AX,DI];refine⟨by lia,λx hx=>?_⟩;rcases BV.mp hx with q | q
   ·exact h2 x q
   ·rw[AJ.mp q];exact(AE.mp a3).1
def Ra(ks:Z Nat):Z Int:=ks.map λk:Nat=>(k:Int)
theorem Rr(h1:ks.length<=500)(h2:∀ k∈ks,k<1000):Ux (Ra ks)=true:=by
 unfold Ux Ra;rw[AD,AK h1,GU,CW];intro n hn;obtain⟨k,Y,rfl⟩:=CL.mp hn;have:=h2 k Y;rw[AK (by lia),AK (by lia)];rfl
theorem Bj(l:Z Nat):U8 (Zd l)=some (Ra l):=Qv (Ra l)
def Fx(ks:Z Nat):Z (Str×XD):=[("way",.nums (Ra ks))]
theorem cT(h1:ks.length<=500)(h2:∀ k∈ks,k<1000):gW "way" [.lst (Zd ks)]=some (Fx ks):=by
 unfold gW;dsimp only;rw[Bj];dsimp only[Option.bind];rw[AF (Rr h1 h2)];rfl
def QV(c:Str):Prop:=c="Broken" \/ c="Crowded"
theorem ll(G:G3)(hG:Gb 64 G)(p:Nat×Nat)(k:Nat)(s:St3)(h:G.steps[k]?=some s)(hc:Sx s p.1=true)(hf:¬ MQ s p):∃ c,QV c/\Ka [G.d,Zy p,.int (k:Int)]=.exc c (Fx [k]):=by
 have hs:=hG.st s (AI h);have C:=hG.w2;have l:=hs.w;have Y:=(AE.mp h).1;have u:=hG.s2;have b:gW "way" [.lst (Zd [k])]=some (Fx [k]):=cT (by simp) λq hq=>by rw[AJ.mp hq];lia
 have:=Oz (n:=6) (p:=3) (ds:=[G.d,Zy p,.int (k:Int)]) (g:=Dy) (R:=λ_=>False) (E:=λc fl=>QV c/\fl=Fx [k]) rfl ?_
 ·rcases this with⟨d,_,z⟩ | ⟨c,fl,e,h1,h2⟩
  ·exact z.elim
  ·exact⟨c,h1,by rw[← h2];exact e⟩
 unfold Dy;refine Ue (Zk (Ze (xs:=[G.d,.int (k:Int)]) rfl (K8 G k s h)) ?_);refine V5 (Lp (Ya (Z6 (Ze (xs:=[.int (p.2:Int),.int (s.w:Int)]) (Z2 (Z6 rfl rfl rfl) rfl) (XU p.2 s.w)) (Ze (xs:=[G.d,.int (k:Int)]) rfl (bX G k s h)) (WY _ _))) (λ_=>Mv (ds:=[.lst (Zd [k])]) (Z2 (Wp (Tu (Z2 rfl rfl) (by simp))) rfl) b ⟨.inl rfl,rfl⟩) (λhb=>(Yh ?_:Go _ _ _).toE));have j:p.2.testBit s.w≠s.up:=by simpa using hb
 obtain⟨i,F,a⟩:=Hc p.1 (H3 s.takes);refine Ue (Zk (d:=.int (i:Int)) (Z6 (Z6 rfl rfl rfl) (YM (Ze (xs:=[.tup (Zd s.takes)]) (Z2 (Ze (xs:=[G.d,.int (k:Int)]) rfl (Q4 G k s h)) rfl) (Tv s.takes λp hp=>by have:=hs.t p hp;lia)) (z:=.int (-(H3 s.takes:Int) - 1)) rfl) (by show some (Dat.int (Builtin.bitAnd _ _))=_;rw[F])) ?_);refine Ue (Zk (d:=.int (H3 s.fills:Int)) (Ze (xs:=[.tup (Zd s.fills)]) (Z2 (Ze (xs:=[G.d,.int (k:Int)]) rfl (Kn G k s h)) rfl) (Tv s.fills λp hp=>by have:=hs.f p hp;lia)) ?_);refine V5 (Lp (Ya (Z6 (Z6 rfl rfl (SY i _)) rfl (YT _))) (λ_=>Mv (ds:=[.lst (Zd [k])]) (Z2 (Wp (Tu (Z2 rfl rfl) (by simp))) rfl) b ⟨.inr rfl,rfl⟩) (λy=>?_));exfalso;refine hf ⟨hc,j,λq h1 h2=>?_⟩;have hz:i &&& H3 s.fills=0:=by simpa using y
 have:=DY (Nat.testBit · q) hz;simp only[EE,a,Ww,IF,h2,GU,AK h1,Bool.and_true] at this;simpa using this
theorem b7(hr:af[n]?=some r):(O (U 0) (O (dS LX (dO Yf (U 1) (U 2)) Jw (Q7 (dC (.int 2)))) (O (U 3) Za))) [.fz G.d,.fz (.lst (af.map Rw.d)),.fz (.int (n:Int)),.fz (.int (k:Int))]=some [G.d,Zy r.st,.int (k:Int)] :=
 Z2 rfl (Z2 (D3 (Z6 rfl rfl (Wd (x:=r.d) (by rw[AM,hr];rfl))) rfl (Vx rfl) (TW r)) rfl)
theorem oU(G:G3)(hG:Gb 64 G)(af:Z Rw)(n k:Nat)(r:Rw)(s:St3)(hr:af[n]?=some r)(h:G.steps[k]?=some s)(hf:MQ s r.st):Ec [G.d,.lst (af.map Rw.d),.int (n:Int),.int (k:Int)]=.ok (Zy (Te s r.st)):=by
 show(match Qw [.fz G.d,.fz (.lst (af.map Rw.d)),.fz (.int (n:Int)),.fz (.int (k:Int))] with | .ret d=>Rs.ok d | .next _=>.ok .non | .exc _ c fs=>.exc c fs | _=>.no)=_;unfold Qw SJ NB SD;rw[b7 hr];dsimp only;rw[pW G hG r.st k s h hf]
theorem nG(hG:Gb 64 G)(t:MF G I af)(M:af.length<=400)(hr:af[n]?=some r)(h:G.steps[k]?=some s)(hc:Sx s r.m=true)(hf:¬ MQ s r.st):∃ c,QV c/\Ec [G.d,.lst (af.map Rw.d),.int (n:Int),.int (k:Int)]=.exc c (Fx (S8 af n++[k])):=by
 obtain⟨c,D,F⟩:=ll G hG r.st k s h hc hf;have Y:=(AE.mp h).1;have hn:=(AE.mp hr).1;have u:=hG.s2;obtain⟨w1,w2⟩:=Es t n hn;have b:gW "way" [.lst (Zd (S8 af n++[k]))]=some (Fx (S8 af n++[k])):=cT (by rw[AX,DI];lia) λq hq=>by
  rcases BV.mp hq with z | z
  ·have:=w2 q z;lia
  ·rw[AJ.mp z];lia
 have ha:(O (dL (dO Xb (Zq Ge (O (U 1) (O (U 2) Za))) (dL (T9 (O (U 3) Za))))) Za) [.fz G.d,.fz (.lst (af.map Rw.d)),.fz (.int (n:Int)),.fz (.int (k:Int))]=some [.lst (Zd (S8 af n++[k]))]:=by
  refine Z2 (Wp (ds:=Zd (S8 af n++[k])) ?_) rfl;unfold dO;rw[Ze (xs:=[.lst (af.map Rw.d),.int (n:Int)]) rfl (UQ M t n hn),Wp (Tu (xs:=[.int (k:Int)]) (Z2 rfl rfl) (by simp))];have hl:(Zd (S8 af n)).length=(S8 af n).length:=by unfold Zd;rw[AD,AD]
  show Xb (.lst (Zd (S8 af n))) (.lst (Zd [k]))=_;rw[← bj];unfold Xb;exact AF (by rw[hl];have:(Zd [k]).length=1:=rfl;rw[EF];lia)
 refine⟨c,D,?_⟩;show(match Qw [.fz G.d,.fz (.lst (af.map Rw.d)),.fz (.int (n:Int)),.fz (.int (k:Int))] with | .ret d=>Rs.ok d | .next _=>.ok .non | .exc _ c fs=>.exc c fs | _=>.no)=_;unfold Qw SJ NB SD;rw[b7 hr];dsimp only;rw[F];dsimp only;have hr:∀ c,Vy c (gW "way") (O (dL (dO Xb (Zq Ge (O (U 1) (O (U 2) Za))) (dL (T9 (O (U 3) Za))))) Za) [.fz G.d,.fz (.lst (af.map Rw.d)),.fz (.int (n:Int)),.fz (.int (k:Int))]=.exc [.fz G.d,.fz (.lst (af.map Rw.d)),.fz (.int (n:Int)),.fz (.int (k:Int))] c (Fx (S8 af n++[k])):=λc=>by
  unfold Vy;rw[ha];dsimp only[Option.bind];rw[b]
 rcases D with rfl | rfl
 ·rw[AF (by decide),AF rfl,hr]
 ·rw[AF (by decide),AL (by decide),AF rfl,hr]
abbrev TT(G:G3)(af:Z Rw):Prop:=MF G (λ_=>True) af
theorem kL(G:G3):TT G [eh G] where
 zero:=rfl
 inv:=λ_ _=>trivial
 nd:=DB.mpr ⟨by simp,EB⟩
 src:=λi r e h0=>by
  rw[IC,AL (by lia)] at e;cases e
theorem b4(t:TT G af){f:Nat}{c:Rw}(hf:af[f]?=some c)(hs:G.steps[k]?=some s)(hc:Sx s c.m=true)(hn:Te s c.st∉af.map Rw.st):TT G (af++[⟨(Te s c.st).1,(Te s c.st).2,some (f,k)⟩]) where
 zero:=by
  have:=t.zero;have hl:=(AE.mp this).1;rw[BW hl];exact this
 inv:=λ_ _=>trivial
 nd:=by
  rw[BR];refine GG.mpr ⟨t.nd,DB.mpr ⟨by simp,EB⟩,λa ha b hb=>?_⟩;have F:b=Te s c.st:=AJ.mp hb;rw[F];intro e;exact hn (e▸ha)
 src:=λi r e h0=>by
  rcases DN i af.length with hl | hl
  ·rw[BW hl] at e
   obtain⟨f',k',s',d,a1,a2,a3,a4,a5,a6⟩:=t.src i r e h0;exact⟨f',k',s',d,a1,a2,a3,by rw[BW (by lia)];exact a4,a5,a6⟩
  ·rw[DC hl] at e
   have aj:=(AE.mp hf).1;have C:i - af.length=0:=by
    rcases DW (i - af.length) with z | z
    ·exact z
    ·rw[IC,AL (by lia)] at e;cases e
   rw[C] at e;cases e;exact⟨f,k,s,c,rfl,by lia,hs,by rw[BW aj];exact hf,hc,rfl⟩
structure LR (G:G3) (ah:Nat) (af:List Rw):Prop where
 t:TT G af
 le:af.length<=ah
def bT(G:G3)(ah:Nat)(c:Str):Prop:=(c="TooMany" /\ ∃ af,TT G af/\ah<af.length)\/(QV c/\∃ (af:Z Rw) (r:Rw) (k:Nat) (s:St3),TT G af/\r∈af/\G.steps[k]?=some s/\Sx s r.m=true/\¬ MQ s r.st)
def VR(c:Str)(fl:Z (Str×XD)):Prop:=(QV c/\∃ ks:Z Nat,fl=Fx ks)\/(c="TooMany" /\ fl=[])
theorem Cs(e:fs env=some ds)(h:F ds=.ok d):Kk i F fs env=.next (env.set i (.fz d)):=by unfold Kk;rw[e];dsimp only;rw[h]
theorem Pi(e:fs env=some ds)(h:F ds=.exc c fl):Kk i F fs env=.exc env c fl:=by unfold Kk;rw[e];dsimp only;rw[h]
theorem iH(h:F ds=.ok d)(hp:RQ d=true):Ix F ds=.ok d:=by unfold Ix;rw[h];exact AF hp
theorem pU(h:F ds=.exc c fl):Ix F ds=.exc c fl:=by unfold Ix;rw[h]
theorem Pm(hG:Gb 64 G)(ah:Nat)(B:1<=ah)(o:ah<=400):(∃ d,Mu [G.d,.int (ah:Int)]=.ok d/\∃ af,d=.lst (af.map Rw.d)/\LR G ah af)\/∃ c fl,Mu [G.d,.int (ah:Int)]=.exc c fl/\bT G ah c/\VR c fl:=by
 refine Oz (R:=λd=>∃ af,d=.lst (af.map Rw.d)/\LR G ah af) (E:=λc fl=>bT G ah c/\VR c fl) rfl ?_;unfold Xm;refine Ue (Q8 (ds:=[eh G].map Rw.d) (Tu (Z2 (Y3 (Z2 (Z6 rfl rfl rfl) (Z2 (Z6 rfl rfl rfl) rfl)) (by simp)) rfl) (by simp)) ?_);refine Ue (pG (q:=(G.marks,G.code)) (Y3 (Z2 (Z6 rfl rfl rfl) (Z2 (Z6 rfl rfl rfl) rfl)) (by simp)) rfl ?_);refine Ue (Zk (d:=.int ((0:Nat):Int)) rfl ?_);refine V5 (qp (λm e=>∃ (af:Z Rw) (a:Nat) (v5 l w:LH),e=[.fz G.d,.fz (.int (ah:Int)),.ow (af.map Rw.d),.gx (.dict (Ki (af.map Rw.st))),.fz (.int (a:Int)),v5,l,w]/\TT G af/\a<=af.length/\m+a=400/\af.length<=ah) (n:=400) ⟨_,0,.un,.un,.un,rfl,kL G,by lia,rfl,B⟩ ?_);rintro m e ⟨af,a,v5,l,w,rfl,t,I,hm,h⟩;have J:dF Vq (O (dP 2) Za) [.fz G.d,.fz (.int (ah:Int)),.ow (af.map Rw.d),.gx (.dict (Ki (af.map Rw.st))),.fz (.int (a:Int)),v5,l,w]=some (.int (af.length:Int)):=Yv (Z2 rfl rfl) (Rq Rw.d af);rcases DN a af.length with hl | hl
 ·right
  obtain⟨r,hr⟩:∃ r,af[a]?=some r:=⟨_,AG hl⟩;have A:Yf (.lst (af.map Rw.d)) (.int (a:Int))=some r.d:=Wd (by rw[AM,hr];rfl);refine⟨Ya (Z6 rfl J (by show some (Dat.bl (decide ((a:Int)<(af.length:Int))))=_;rw[AK (by lia)])),?_⟩;refine Ue (Zk (Ze (xs:=[G.d,Zy r.st]) (Z2 rfl (Z2 (D3 (Z6 rfl rfl A) rfl (Vx rfl) (TW r)) rfl)) (Nx G hG r.st)) ?_);obtain⟨ks,C⟩:∃ ks:Z Nat,QB G r.st.1=ks:=⟨_,rfl⟩;have F:QB G r.m=ks:=C;have H:∀ k∈ks,OD G r.m k=true:=λk Y=>by rw[← F] at Y;exact ja Y
  rw[C];refine V5 (C9 (ds:=Zd ks) (λi e=>∃ (g:Z Rw) (l w:LH),e=[.fz G.d,.fz (.int (ah:Int)),.ow (g.map Rw.d),.gx (.dict (Ki (g.map Rw.st))),.fz (.int (a:Int)),.fz (.lst (Zd ks)),l,w]/\TT G g/\af <+: g/\g.length<=ah) rfl ⟨af,l,w,rfl,t,List.prefix_rfl,h⟩ ?_ ?_)
  ·rintro i d e hi ⟨g,l,w,rfl,tr,j,x⟩
   obtain⟨k,Y,rfl⟩:=Dt hi;have z:=H k (AI Y);obtain⟨s,hs,u⟩:=hk z;have v:=iG j hr;have M:g.length<=400:=by lia
   refine⟨_,rfl,?_⟩;by_cases hf:MQ s r.st
   case neg =>
    obtain⟨c,D,ec⟩:=nG hG tr M v hs u hf;refine V5 ⟨?_⟩;rw[Pi (ds:=[G.d,.lst (g.map Rw.d),.int (a:Int),.int (k:Int)]) rfl (pU ec)];exact⟨.inr ⟨D,g,r,k,s,tr,AI v,hs,u,hf⟩,.inl ⟨D,_,rfl⟩⟩
   refine V5 ⟨?_⟩;rw[Cs (d:=Zy (Te s r.st)) (ds:=[G.d,.lst (g.map Rw.d),.int (a:Int),.int (k:Int)]) rfl (iH (oU G hG g a k r s v hs hf) rfl)];refine V5 (Lp (Ya (ko (ps:=g.map Rw.st) (q:=Te s r.st) rfl rfl)) (λhb=>?_) (λhb=>?_))
   ·exact⟨⟨g,.fz (.int (k:Int)),.fz (Zy (Te s r.st)),rfl,tr,j,x⟩⟩
   have p:Te s r.st∉g.map Rw.st:=JE hb;refine(Yh ?_:Go _ _ _).toE;refine V5 (Lp (b:=decide ((ah:Int)<=(g.length:Int))) (Ya (Z6 (Yv (Z2 rfl rfl) (Rq Rw.d g)) rfl rfl)) (λy=>?_) (λy=>(Yh ?_:Go _ _ _).toE))
   ·have:=BM y
    exact Mv (ds:=[]) rfl rfl ⟨.inl ⟨rfl,_,b4 tr v hs u p,by rw[AX,DI];lia⟩,.inr ⟨rfl,rfl⟩⟩
   have ae:=JE y;refine Ue (k8 (ps:=g.map Rw.st) (q:=Te s r.st) rfl rfl rfl p (by rw[AD];lia) ?_);refine(Jr (ds:=g.map Rw.d) (as:=[(⟨(Te s r.st).1,(Te s r.st).2,some (a,k)⟩:Rw).d]) (ds':=(g++[(⟨(Te s r.st).1,(Te s r.st).2,some (a,k)⟩:Rw)]).map Rw.d) rfl (Z2 (Y3 (Z2 (Z6 rfl rfl rfl) (Z2 (Z6 rfl rfl rfl) rfl)) (by simp)) rfl) (by rw[Qs (by rw[AD];lia),BR];rfl) ?_).toE;refine⟨g++[⟨(Te s r.st).1,(Te s r.st).2,some (a,k)⟩],.fz (.int (k:Int)),.fz (Zy (Te s r.st)),?_,b4 tr v hs u p,j.trans (List.prefix_append _ _),by rw[AX,DI];lia⟩;rw[BR (f:=Rw.st)];rfl
  ·rintro e ⟨g,l,w,rfl,tr,j,x⟩
   have ac:=j.length_le;exact(hF rfl rfl ⟨m - 1,by lia,g,a+1,_,_,_,rfl,tr,by lia,by lia,x⟩:Go _ _ _).toE
 ·left
  refine⟨Ya (Z6 rfl J (by show some (Dat.bl (decide ((a:Int)<(af.length:Int))))=_;rw[AH (by lia)])),?_⟩;exact(Ku rfl ⟨af,rfl,t,h⟩:Go _ _ _).toE
theorem oO(G:G3)(hG:Gb 64 G)(i j:Nat)(l a:St3)(hi:G.steps[i]?=some l)(hj:G.steps[j]?=some a):∃ b:Bool,YJ [G.d,.int (i:Int),.int (j:Int)]=.ok (.bl b)/\(b=true->∃ q,q∈l.takes/\q∉l.fills/\q∈a.takes):=by
 have c:=hG.st l (AI hi);have k:=hG.st a (AI hj);have:=Y1 (n:=4) (p:=3) (ds:=[G.d,.int (i:Int),.int (j:Int)]) (g:=Ck) (R:=λd=>∃ b:Bool,d=.bl b/\(b=true->∃ q,q∈l.takes/\q∉l.fills/\q∈a.takes)) rfl ?_
 ·obtain⟨d,e,b,rfl,h⟩:=this
  exact⟨b,e,h⟩
 unfold Ck;obtain⟨kp,F,Q⟩:=Hc (H3 l.takes) (H3 l.fills);refine Z9 (Zk (d:=.int (kp:Int)) (Z6 (Ze (xs:=[.tup (Zd l.takes)]) (Z2 (Ze (xs:=[G.d,.int (i:Int)]) rfl (Q4 G i l hi)) rfl) (Tv l.takes λp hp=>by have:=c.t p hp;lia)) (YM (Ze (xs:=[.tup (Zd l.fills)]) (Z2 (Ze (xs:=[G.d,.int (i:Int)]) rfl (Kn G i l hi)) rfl) (Tv l.fills λp hp=>by have:=c.f p hp;lia)) (z:=.int (-(H3 l.fills:Int) - 1)) rfl) (by show some (Dat.int (Builtin.bitAnd _ _))=_;rw[F])) ?_);exact go_ret (Z6 (Z6 rfl (Ze (xs:=[.tup (Zd a.takes)]) (Z2 (Ze (xs:=[G.d,.int (j:Int)]) rfl (Q4 G j a hj)) rfl) (Tv a.takes λp hp=>by have:=k.t p hp;lia)) (SY kp _)) rfl (YT _)) ⟨_,rfl,λhb=>by
  obtain⟨q,hq⟩:=Nat.exists_testBit_of_ne_zero (show kp &&& H3 a.takes≠0 by simpa using hb);rw[EE,Q,Ww,Ww,Ww] at hq;simp only[AY,CK,JP,decide_eq_false_iff_not] at hq;exact⟨q,hq.1.1,hq.1.2,hq.2⟩⟩
theorem WT(h:G.wires[w]?=some u):Yf (.tup (G.wires.map Ta)) (.int (w:Int))=some (Ta u):=Sh (by rw[AM,h];rfl)
theorem Se(G:G3)(w:Nat)(u:Str×Bool)(h:G.wires[w]?=some u):Uv [G.d,.int (w:Int)]=.ok (.bl u.2):=by
 refine Wl (Y1 rfl ?_);unfold N4;exact go_ret (Z6 (Z6 (Z6 (Z6 rfl rfl rfl) rfl (WT h)) rfl rfl) rfl (ZK _)) rfl
theorem c5(h:G.wires[s.w]?=some u):At G s=u.2:=by unfold At;rw[h]
theorem oh{g:Zzu}{a b:Bool}(h1:f env=some (.bl a))(h2:g env=some (.bl b)):TY f g env=some (.bl (a||b)):=by
 unfold TY dB;rw[h1];cases a with
 | true=>rfl
 | false=>exact h2
theorem kX(G:G3)(hG:Gb 64 G)(i j:Nat)(l a:St3)(hi:G.steps[i]?=some l)(hj:G.steps[j]?=some a):Qx [G.d,.int (i:Int),.int (j:Int)]=.ok (.bl (At G l||At G a)):=by
 have c:=(hG.st l (AI hi)).w;have k:=(hG.st a (AI hj)).w;have b:G.wires[l.w]?=some G.wires[l.w]:=AG c;have ej:G.wires[a.w]?=some G.wires[a.w]:=AG k;refine Wl (Y1 rfl ?_);unfold Jc;rw[c5 b,c5 ej];exact go_ret (oh (Ze (xs:=[G.d,.int (l.w:Int)]) (Z2 rfl (Z2 (Ze (xs:=[G.d,.int (i:Int)]) rfl (K8 G i l hi)) rfl)) (Se G l.w _ b)) (Ze (xs:=[G.d,.int (a.w:Int)]) (Z2 rfl (Z2 (Ze (xs:=[G.d,.int (j:Int)]) rfl (K8 G j a hj)) rfl)) (Se G a.w _ ej))) rfl
theorem mK(G:G3)(hG:Gb 64 G):∃ qs:Z (Nat×Nat),X6 [G.d]=.ok (.lst (qs.map Zy))/\∀ p∈qs,p.1<24/\p.2<24/\¬ Dk G:=by
 have:=Y1 (n:=4) (p:=1) (ds:=[G.d]) (g:=Kq) (R:=λd=>∃ qs:Z (Nat×Nat),d=.lst (qs.map Zy)/\∀ p∈qs,p.1<24/\p.2<24/\¬ Dk G) rfl ?_
 ·obtain⟨d,e,qs,rfl,h⟩:=this
  exact⟨qs,e,h⟩
 unfold Kq;have u:=hG.s2;have J:∀ e:Ev,e[0]?=some (.fz G.d)->dF Vq (O (dO Yf (U 0) (dC (.int 1))) Za) e=some (.int ((G.steps.length:Nat):Int)):=λe he=>Yv (Z2 (x:=.tup (G.steps.map St3.d)) (Z6 (x:=G.d) (by unfold U;rw[he]) rfl rfl) rfl) (by show some (Dat.int ((G.steps.map St3.d).length:Int))=_;rw[AD])
 refine Z9 (Q8 (ds:=([]:Z (Nat×Nat)).map Zy) rfl ?_);refine Z9 (V4 (ds:=rng 0 G.steps.length) (λi e=>∃ (qs:Z (Nat×Nat)) (v2 v3:LH),e=[.fz G.d,.ow (qs.map Zy),v2,v3]/\qs.length<=24*i/\∀ p∈qs,p.1<24/\p.2<24/\¬ Dk G) (Wi (Z2 (J _ rfl) rfl) (by lia)) ⟨[],.un,.un,rfl,by simp,by simp⟩ ?_ ?_)
 ·rintro i d e hi ⟨qs,v2,v3,rfl,hl,hq⟩
  obtain⟨I,rfl⟩:=U9 hi;rw[DU];refine⟨_,rfl,?_⟩;obtain⟨l,o⟩:∃ s,G.steps[i]?=some s:=⟨_,AG I⟩;refine V4 (ds:=rng 0 G.steps.length) (λj e=>∃ (qs:Z (Nat×Nat)) (v3:LH),e=[.fz G.d,.ow (qs.map Zy),.fz (.int (i:Int)),v3]/\qs.length<=24*i+j/\∀ p∈qs,p.1<24/\p.2<24/\¬ Dk G) (Wi (Z2 (J _ rfl) rfl) (by lia)) ⟨qs,v3,rfl,hl,hq⟩ ?_ ?_
  ·rintro j d e hj ⟨qs,v3,rfl,hl,hq⟩
   obtain⟨aa,rfl⟩:=U9 hj;rw[DU];refine⟨_,rfl,?_⟩;obtain⟨a,r⟩:∃ s,G.steps[j]?=some s:=⟨_,AG aa⟩;obtain⟨b,hb,y⟩:=oO G hG i j l a o r;refine Sr (Ua (Ya (Z6 rfl rfl (ef i j))) λ_=>Ua (Qd (Ze (xs:=[G.d,.int (i:Int),.int (j:Int)]) rfl (kX G hG i j l a o r))) λ_=>Qd (Ze (xs:=[G.d,.int (i:Int),.int (j:Int)]) rfl hb)) (λhz=>?_) (λ_=>Yh ⟨qs,_,rfl,by lia,hq⟩);refine Jr (ds':=(qs++[(i,j)]).map Zy) (as:=[Zy (i,j)]) rfl (Z2 (Y3 (Z2 rfl (Z2 rfl rfl)) (by simp)) rfl) (by rw[Qs (by rw[AD];lia),BR];rfl) ⟨qs++[(i,j)],_,rfl,by rw[AX];show _+1<=_;lia,λp hp=>?_⟩;rcases BV.mp hp with z | z
   ·exact hq p z
   ·rw[AJ.mp z]
    obtain⟨h1,h2⟩:=GP.mp hz;obtain⟨h3,h4⟩:=GP.mp h2;obtain⟨q,M,q2,C⟩:=y h4;refine⟨by show i<24;lia,by show j<24;lia,λhn=>?_⟩;obtain⟨k1,k2⟩:=hn i j l a (by simpa using h1) o r q M q2 C;rw[k1,k2] at h3;cases h3
  ·rintro e ⟨qs,v3,rfl,hl,hq⟩
   rw[T4] at hl;exact⟨qs,_,_,rfl,by lia,hq⟩
 ·rintro e ⟨qs,v2,v3,rfl,hl,hq⟩
  exact Ku rfl ⟨qs,rfl,hq⟩
def SE(ks:Z Nat)(a b:Nat):Z (Str×XD):=[("way",.nums (Ra ks)),("lost",.int (a:Int)),("by",.int (b:Int))]
theorem iI(ks:Z Nat)(a b:Nat)(h:Ux (Ra ks)=true)(ha:a<1000)(hb:b<1000):gC "way" "lost" "by" [.lst (Zd ks),.int (a:Int),.int (b:Int)]=some (SE ks a b):=by
 unfold gC;dsimp only;rw[Bj];dsimp only[Option.bind];have hs:∀ w:Nat,w<1000->S0 (w:Int)=true:=λw hw=>by unfold S0;rw[AK (by lia),AK (by lia)];rfl
 rw[AF (by rw[h,hs a ha,hs b hb];rfl)];rfl
theorem dt(p:Nat)(ps:Z Nat):ME (.int (p:Int)) (.lst (Zd ps))=some (.bl (decide (p∈ps))):=by unfold ME;rw[ck];rfl
theorem jM(h:(qs.map L2.Zy)[i]?=some d):∃ p,qs[i]?=some p/\d=L2.Zy p:=by
 rw[AM] at h;obtain⟨p,h1,h2⟩:=map_some h;exact⟨p,h1,h2.symm⟩
theorem An(hG:Gb 64 G)(hm:ah<=400)(es:Mu [G.d,.int (ah:Int)]=.ok (.lst (af.map Rw.d)))(W:LR G ah af) :
  (∃ d,Wc [G.d,.int (ah:Int)]=.ok d/\d=.lst (af.map Rw.d))\/∃ c fl,Wc [G.d,.int (ah:Int)]=.exc c fl/\c="CalledOff" /\ (∃ (ks:Z Nat) (a b:Nat),fl=SE ks a b)/\¬ Dk G:=by
 have M:=W.le;have u:=hG.s2;refine Oz (R:=λd=>d=.lst (af.map Rw.d)) (E:=λc fl=>c="CalledOff" /\ (∃ (ks:Z Nat) (a b:Nat),fl=SE ks a b)/\¬ Dk G) rfl ?_;unfold K2;refine V5 ⟨?_⟩;rw[Cs (d:=.lst (af.map Rw.d)) (ds:=[G.d,.int (ah:Int)]) rfl es];obtain⟨qs,g,aM⟩:=mK G hG;refine Ue (Zk (Ze (xs:=[G.d]) rfl g) ?_);refine V5 (C9 (ds:=Jl 0 (af.map Rw.d)) (λi e=>∃ v4 v5 l w H:LH,e=[.fz G.d,.fz (.int (ah:Int)),.fz (.lst (af.map Rw.d)),.fz (.lst (qs.map Zy)),v4,v5,l,w,H]) (cn rfl) ⟨.un,.un,.un,.un,.un,rfl⟩ ?_ ?_)
 ·rintro n d e hn ⟨v4,v5,l,w,H,rfl⟩
  obtain⟨x,hx,rfl⟩:=Bc hn;rw[AM] at hx;obtain⟨r,hr,rfl⟩:=map_some hx;have f:=(AE.mp hr).1;refine⟨[.fz G.d,.fz (.int (ah:Int)),.fz (.lst (af.map Rw.d)),.fz (.lst (qs.map Zy)),.fz (.int (n:Int)),.fz r.d,l,w,H],rfl,?_⟩;refine Ue (Zk (Ze (xs:=[G.d,Zy r.st]) (Z2 rfl (Z2 (D3 rfl rfl (Vx rfl) (TW r)) rfl)) (Nx G hG r.st)) ?_);refine C9 (ds:=qs.map Zy) (λi e=>∃ w H:LH,e=[.fz G.d,.fz (.int (ah:Int)),.fz (.lst (af.map Rw.d)),.fz (.lst (qs.map Zy)),.fz (.int (n:Int)),.fz r.d,.fz (.lst (Zd (QB G r.st.1))),w,H]) rfl ⟨w,H,rfl⟩ ?_ ?_
  ·rintro i d e hi ⟨w,H,rfl⟩
   obtain⟨p,hp,rfl⟩:=jM hi;refine⟨[.fz G.d,.fz (.int (ah:Int)),.fz (.lst (af.map Rw.d)),.fz (.lst (qs.map Zy)),.fz (.int (n:Int)),.fz r.d,.fz (.lst (Zd (QB G r.st.1))),.fz (.int (p.1:Int)),.fz (.int (p.2:Int))],rfl,?_⟩;refine Lp (Ua (Ya (Z6 rfl rfl (dt p.1 _))) λ_=>Ya (Z6 rfl rfl (dt p.2 _))) (λhb=>?_) (λhb=>(Yh ⟨_,_,rfl⟩:Go _ _ _).toE);obtain⟨w1,w2⟩:=Es W.t n f;obtain⟨l1,l2,l3⟩:=aM p (AI hp);exact Mv (ds:=[.lst (Zd (S8 af n)),.int (p.2:Int),.int (p.1:Int)]) (Z2 (Ze (xs:=[.lst (af.map Rw.d),.int (n:Int)]) rfl (UQ (by lia) W.t n f)) rfl) (iI _ p.2 p.1 (Rr (by lia) λk Y=>by have:=w2 k Y;lia) (by lia) (by lia)) ⟨rfl,⟨_,_,_,rfl⟩,l3⟩
  ·rintro e ⟨w,H,rfl⟩
   exact⟨_,_,_,_,_,rfl⟩
 ·rintro e ⟨v4,v5,l,w,H,rfl⟩
  refine(go_ret rfl ?_:Go _ _ _).toE;rfl
theorem YU(a b:Int):Hz (.int a) (.int b)=some (.bl (!(a==b))):=by unfold Hz Mt;rfl
def Tr(p:α->Bool):Nat->Z α->Z Nat
 | _,[]=>[]
 | k,x::xs=>if p x=true then k::Tr p (k+1) xs else Tr p (k+1) xs
theorem Xz{g:Dat->Ev->C1 Ev}(D:α->Dat)(p:α->Bool):∀ (xs:Z α) (k:Nat),(∀ x∈xs,∀ n:Nat,∃ e1,g (.tup [.int (n:Int),D x]) env=some e1/\t e1=some (p x)/\f e1=some (.int (n:Int)))->Wm g t f env (Jl k (xs.map D))=some (Zd (Tr p k xs))
 | [],_,_=>rfl
 | x::xs,k,h=>by
  obtain⟨e1,a1,a2,a3⟩:=h x AW k;have ih:=Xz D p xs (k+1) λz hz=>h z (AV _ hz)
  rw[CC,Jl,Wm,a1];dsimp only[Option.bind];rw[a2];dsimp only;rw[Tr];cases hp:p x with
  | true=>rw[AF rfl,a3];dsimp only;rw[ih,AF rfl];rfl
  | false=>rw[AL (by decide),ih,AL (by decide)]
theorem P7(p:α->Bool):∀ (xs:Z α) (k j:Nat),j∈Tr p k xs->j<k+xs.length
 | [],k,j,h=>by cases h
 | x::xs,k,j,h=>by
  rw[BH];rw[Tr] at h;have ih:=P7 p xs (k+1) j;split at h
  ·rcases AZ.mp h with e | e
   ·lia
   ·have:=ih e;lia
  ·have:=ih h;lia
def RH(w:Nat)(up:Bool)(s:St3):Bool:=(s.w==w)&&(s.up==up)
theorem h7(G:G3)(w:Nat)(up:Bool):He [G.d,.int (w:Int),.bl up]=.ok (.lst (Zd (Tr (RH w up) 0 G.steps))):=by
 refine Wl (Y1 rfl ?_);unfold Hw;exact go_ret (Wp (W9 (xs:=Jl 0 (G.steps.map St3.d)) (env':=[.un,.un,.fz (.int (w:Int)),.fz (.bl up)]) (cq (Z6 rfl rfl rfl)) rfl (Xz St3.d (RH w up) G.steps 0 λs _ n=>⟨[.fz (.int (n:Int)),.fz s.d,.fz (.int (w:Int)),.fz (.bl up)],rfl,Ua (Ya (Z6 (Z6 rfl rfl rfl) rfl (QC s.w w))) λ_=>Ya (Z6 (Z6 rfl rfl rfl) rfl (WY s.up up)),rfl⟩))) rfl
theorem Gm(G:G3)(hG:Gb 64 G)(m:Nat)(cd:Dat)(w:Nat)(up:Bool):∃ b,M6 [G.d,.tup [.int (m:Int),cd],.int (w:Int),.bl up]=.ok (.bl b):=by
 have:=Y1 (n:=4) (p:=4) (ds:=[G.d,.tup [.int (m:Int),cd],.int (w:Int),.bl up]) (g:=M8) (R:=λd=>∃ b,d=.bl b) rfl ?_
 ·obtain⟨d,e,b,rfl⟩:=this
  exact⟨b,e⟩
 unfold M8;let q:Nat->Bool:=λk=>match G.steps[k]? with | some s=>Sx s m | none=>false
 have hc:Wm (Yd 0) Up (Zq B1 (O (U 1) (O (U 2) (O (U 0) Za)))) [.un,.fz G.d,.fz (.tup [.int (m:Int),cd])] (Zd (Tr (RH w up) 0 G.steps))=some (((Tr (RH w up) 0 G.steps).map q).map Dat.bl):=by
  rw[Yu,Uu (λp:Nat=>Dat.int (p:Int)) (λp:Nat=>.bl (q p)) _ λp hp=>?_,EX]
  ·rfl
  ·have hl:=P7 _ _ _ _ hp
   obtain⟨s,hs⟩:∃ s,G.steps[p]?=some s:=⟨_,AG (by lia)⟩;refine⟨[.fz (.int (p:Int)),.fz G.d,.fz (.tup [.int (m:Int),cd])],rfl,rfl,Ze (xs:=[G.d,.tup [.int (m:Int),cd],.int (p:Int)]) rfl ?_⟩;rw[bA G hG m cd p s hs];show _=Rs.ok (.bl (match G.steps[p]? with | some s=>Sx s m | none=>false));rw[hs]
 exact go_ret (Yv (Z2 (Wp (W9 (xs:=Zd (Tr (RH w up) 0 G.steps)) (env':=[.un,.fz G.d,.fz (.tup [.int (m:Int),cd])]) (by unfold Uj;rw[Ze (xs:=[G.d,.int (w:Int),.bl up]) rfl (h7 G w up)]) rfl hc)) rfl) (jO _)) ⟨_,rfl⟩
def VJ(G:G3)(m:Nat)(cd:Dat)(w:Nat):Int:=match Ei [G.d,.tup [.int (m:Int),cd],.int (w:Int)] with | .ok (.int i)=>i | _=>0
theorem gP(G:G3)(hG:Gb 64 G)(m:Nat)(cd:Dat)(w:Nat):Ei [G.d,.tup [.int (m:Int),cd],.int (w:Int)]=.ok (.int (VJ G m cd w)):=by
 have:=Y1 (n:=3) (p:=3) (ds:=[G.d,.tup [.int (m:Int),cd],.int (w:Int)]) (g:=Os) (R:=λd=>∃ i,d=.int i) rfl ?_
 ·obtain⟨d,e,i,rfl⟩:=this
  have e:Ei [G.d,.tup [.int (m:Int),cd],.int (w:Int)]=_:=e;unfold VJ;rw[e]
 unfold Os;obtain⟨b1,e1⟩:=Gm G hG m cd w true;obtain⟨b2,e2⟩:=Gm G hG m cd w false;refine Z9 (Sr (Qd (Ze (xs:=[G.d,.tup [.int (m:Int),cd],.int (w:Int),.bl true]) rfl e1)) (λhb=>go_ret rfl ⟨_,rfl⟩) (λhb=>Yh ?_));exact Z9 (Sr (Qd (Ze (xs:=[G.d,.tup [.int (m:Int),cd],.int (w:Int),.bl false]) rfl e2)) (λy=>go_ret rfl ⟨_,rfl⟩) (λy=>Yh (go_ret rfl ⟨_,rfl⟩)))
theorem Rb(f:α->Dat)(xs:Z α):Vq [.tup (xs.map f)]=some (.int ((xs.length:Nat):Int)):=by
 show some (Dat.int ((xs.map f).length:Int))=_;rw[AD]
def Pu(G:G3):Z Nat:=(List.range G.wires.length).filter λw=>match G.wires[w]? with | some u=>u.2 | none=>false
theorem lj(h:w∈Pu G):w<G.wires.length:=CZ.mp (ES.mp h).1
theorem lW(G:G3)(hG:Gb 64 G):WN [G.d]=.ok (.lst (Zd (Pu G))):=by
 refine Wl (Y1 rfl ?_);unfold WJ;have C:=hG.w2;have hc:=Uk (g:=Yd 0) (t:=dT (Zq Uv (O (U 1) (O (U 0) Za)))) (f:=U 0) (env:=[.un,.fz G.d]) (λk:Nat=>Dat.int (k:Int)) (λk:Nat=>Dat.int (k:Int)) (λw=>match G.wires[w]? with | some u=>u.2 | none=>false) (List.range G.wires.length) λk Y=>by
  have j:=CZ.mp Y;have e:G.wires[k]?=some G.wires[k]:=AG j;refine⟨[.fz (.int (k:Int)),.fz G.d],rfl,?_,rfl⟩;rw[e];exact Qd (Ze (xs:=[G.d,.int (k:Int)]) rfl (Se G k _ e))
 rw[← Ij] at hc;refine go_ret (Wp (W9 (xs:=rng 0 G.wires.length) (Wi (Z2 (Yv (Z2 (x:=.tup (G.wires.map Ta)) (Z6 rfl rfl rfl) rfl) (Rb Ta G.wires)) rfl) (by lia)) rfl hc)) ?_;unfold Pu;rw[Yu]
def Ss(G:G3)(p:Nat×Nat):Nat->Int:=VJ G p.1 (.int (p.2:Int))
theorem lS(G:G3)(hG:Gb 64 G)(p:Nat×Nat)(ws:Z Nat):Sg [G.d,Zy p,.lst (Zd ws)]=.ok (.lst ((ws.map (Ss G p)).map .int)):=by
 refine Wl (Y1 rfl ?_);unfold Hk;have hc:Wm (Yd 0) Up (Zq Ei (O (U 1) (O (U 2) (O (U 0) Za)))) [.un,.fz G.d,.fz (Zy p)] (Zd ws)=some ((ws.map (Ss G p)).map .int):=by
  rw[Yu,Uu (λw:Nat=>Dat.int (w:Int)) (λw:Nat=>.int (Ss G p w)) ws λw _=>⟨[.fz (.int (w:Int)),.fz G.d,.fz (Zy p)],rfl,rfl,Ze (xs:=[G.d,.tup [.int (p.1:Int),.int (p.2:Int)],.int (w:Int)]) rfl (gP G hG p.1 _ w)⟩,EX];rfl
 exact go_ret (Wp (W9 (xs:=Zd ws) rfl rfl hc)) rfl
theorem Xl{g:Dat->Ev->C1 Ev}(D E:α->Dat)(P:α->Bool):∀ (xs:Z α) (k:Nat),(∀ (i:Nat) (x:α),xs[i]?=some x->∃ e1,g (.tup [.int ((k+i:Nat):Int),D x]) env=some e1/\t e1=some (P x)/\f e1=some (E x))->Wm g t f env (Jl k (xs.map D))=some ((xs.filter P).map E)
 | [],k,_=>rfl
 | x::xs,k,h=>by
  have h1:=Xl D E P xs (k+1) λi y hy=>by
   have:=h (i+1) y (by simpa using hy);rw[show k+1+i=k+(i+1) by lia];exact this
  obtain⟨e1,a1,a2,a3⟩:=h 0 x rfl;rw[Nat.add_zero] at a1;rw[CC,Jl,Wm,a1];dsimp only[Option.bind];rw[a2];dsimp only;cases hb:P x with
  | true =>
   rw[AF rfl,a3,List.filter_cons,hb,AF rfl];dsimp only;rw[h1];rfl
  | false =>
   rw[AL (by decide),h1,List.filter_cons,hb,AL (by decide)]
def UO(ws:Z Nat)(f g:Nat->Int):Z Nat:=ws.filter λy=>!(f y==g y)
theorem l5(ws:Z Nat)(f g:Nat->Int):X8 [.lst (Zd ws),.lst ((ws.map f).map .int),.lst ((ws.map g).map .int)]=.ok (.lst (Zd (UO ws f g))):=by
 refine Wl (Y1 rfl ?_);unfold Fk;have e:=Xl (g:=Kp 2 (W0 (Yd 0) (W0 (Yd 1) M9))) (t:=dB (dO Hz (dO Yf (U 2) (U 0)) (dO Yf (U 3) (U 0)))) (f:=U 1) (env:=[.un,.un,.fz (.lst ((ws.map f).map .int)),.fz (.lst ((ws.map g).map .int))]) (λw:Nat=>Dat.int (w:Int)) (λw:Nat=>Dat.int (w:Int)) (λy=>!(f y==g y)) ws 0 λi x hx=>by
  rw[KO];exact⟨[.fz (.int (i:Int)),.fz (.int (x:Int)),.fz (.lst ((ws.map f).map .int)),.fz (.lst ((ws.map g).map .int))],rfl,Ya (Z6 (Z6 rfl rfl (Wd (x:=.int (f x)) (by rw[AM,AM,hx];rfl))) (Z6 rfl rfl (Wd (x:=.int (g x)) (by rw[AM,AM,hx];rfl))) (YU _ _)),rfl⟩
 rw[← Yu,← Yu] at e;exact go_ret (Wp (W9 (xs:=Jl 0 (Zd ws)) (cn rfl) rfl e)) rfl
def N6(t:Nat×Nat×Nat):Dat:=.tup [.int (t.1:Int),.int (t.2.1:Int),.int (t.2.2:Int)]
theorem nT(h:fs env=some [.int (a:Int),.int (b:Int)])(ha:a<=100000)(hb:b<=100000):QR fs env=some (rng (a:Int) (b - a)):=by
 unfold QR;rw[h];dsimp only;have e:((b:Int) - (a:Int)).toNat=b - a:=by lia
 rw[e,AF ⟨⟨by lia,by lia,by lia,by lia⟩,by rw[EF];lia⟩]
theorem jY{es:Z Dat}(h:ds.length+es.length<=10000000):P3 ds [.lst es]=some (ds++es):=AF (by rw[EF];lia)
structure UI (G:G3) (F:List Rw) (t:Nat×Nat×Nat):Prop where
 a:t.1<F.length
 b:t.2.1<F.length
 w:t.2.2<G.wires.length
theorem mb{F:Z Rw}(hG:Gb 64 G)(M:F.length<=400):∃ s:Z (Nat×Nat×Nat),Qb [G.d,.lst (F.map Rw.d)]=.ok (.lst (s.map N6))/\∀ t∈s,UI G F t:=by
 have C:=hG.w2;have:=Y1 (n:=7) (p:=2) (ds:=[G.d,.lst (F.map Rw.d)]) (g:=Ub) (R:=λd=>∃ s:Z (Nat×Nat×Nat),d=.lst (s.map N6)/\∀ t∈s,UI G F t) rfl ?_
 ·obtain⟨d,e,b,rfl,h⟩:=this
  exact⟨b,e,h⟩
 unfold Ub;refine Z9 (Zk (Ze (xs:=[G.d]) rfl (lW G hG)) ?_);have E:(Pu G).length<=G.wires.length:=by unfold Pu;exact BC (List.length_filter_le _ _) (by rw[DE];exact AT _)
 have u:∀ w∈Pu G,w<G.wires.length:=λw hw=>lj hw
 generalize Pu G=B at E u;let W:Rw->Dat:=λr=>.lst ((B.map (Ss G r.st)).map .int)
 have hc:Wm (Yd 0) Up (Zq Sg (O (U 1) (O (dS LX (U 0) Jw (Q7 (dC (.int 2)))) (O (U 2) Za)))) [.un,.fz G.d,.fz (.lst (Zd B))] (F.map Rw.d)=some (F.map W) :=
  Uu Rw.d W F λr _=>⟨[.fz r.d,.fz G.d,.fz (.lst (Zd B))],rfl,rfl,Ze (xs:=[G.d,Zy r.st,.lst (Zd B)]) (Z2 rfl (Z2 (D3 rfl rfl (Vx rfl) (TW r)) rfl)) (lS G hG r.st B)⟩
 refine Z9 (Zk (d:=.lst (F.map W)) (Wp (W9 (xs:=F.map Rw.d) rfl rfl hc)) ?_);refine Z9 (Q8 (ds:=([]:Z (Nat×Nat×Nat)).map N6) rfl ?_);have J:∀ e:Ev,e[1]?=some (.fz (.lst (F.map Rw.d)))->dF Vq (O (U 1) Za) e=some (.int ((F.length:Nat):Int)):=λe he=>Yv (Z2 (x:=.lst (F.map Rw.d)) (by unfold U;rw[he]) rfl) (Rq Rw.d F)
 refine Z9 (V4 (ds:=rng 0 F.length) (λi e=>∃ (s:Z (Nat×Nat×Nat)) (v5 l:LH),e=[.fz G.d,.fz (.lst (F.map Rw.d)),.fz (.lst (Zd B)),.fz (.lst (F.map W)),.ow (s.map N6),v5,l]/\s.length<=4000*i/\∀ t∈s,UI G F t) (Wi (Z2 (J _ rfl) rfl) (by lia)) ⟨[],.un,.un,rfl,by simp,by simp⟩ ?_ ?_)
 ·rintro n d e hn ⟨s,v5,l,rfl,S,o⟩
  obtain⟨A,rfl⟩:=U9 hn;rw[DU];refine⟨_,rfl,?_⟩;obtain⟨r,hr⟩:∃ r,F[n]?=some r:=⟨_,AG A⟩;refine V4 (ds:=rng ((n+1:Nat):Int) (F.length - (n+1))) (λj e=>∃ (s:Z (Nat×Nat×Nat)) (l:LH),e=[.fz G.d,.fz (.lst (F.map Rw.d)),.fz (.lst (Zd B)),.fz (.lst (F.map W)),.ow (s.map N6),.fz (.int (n:Int)),l]/\s.length<=4000*n+10*j/\∀ t∈s,UI G F t) (nT (Z2 (Z6 rfl rfl (Jp n 1)) (Z2 (J _ rfl) rfl)) (by lia) (by lia)) ⟨s,l,rfl,by lia,o⟩ ?_ ?_
  ·rintro j d e hj ⟨s,l,rfl,S,o⟩
   obtain⟨aa,rfl⟩:=U9 hj;obtain⟨m,hm⟩:∃ m:Nat,n+1+j=m:=⟨_,rfl⟩;rw[show((n+1:Nat):Int)+(j:Int)=(m:Int) by lia];refine⟨_,rfl,?_⟩;obtain⟨q,hq⟩:∃ r,F[m]?=some r:=⟨_,AG (by lia)⟩;have a:∀ (f:Rw->Dat) (k:Nat) (x:Rw),F[k]?=some x->Yf (.lst (F.map f)) (.int (k:Int))=some (f x):=λf k x hx=>Wd (by rw[AM,hx];rfl)
   refine Sr (Ya (Z6 (Z6 (Z6 rfl rfl (a _ _ _ hr)) rfl rfl) (Z6 (Z6 rfl rfl (a _ _ _ hq)) rfl rfl) (QC r.c q.c))) (λhb=>?_) (λhb=>Yh ⟨s,_,rfl,by lia,o⟩);have D:=l5 B (Ss G r.st) (Ss G q.st);have yl:(UO B (Ss G r.st) (Ss G q.st)).length<=B.length:=List.length_filter_le _ _;have v:∀ y∈UO B (Ss G r.st) (Ss G q.st),y∈B:=λy hy=>(ES.mp hy).1
   generalize UO B (Ss G r.st) (Ss G q.st)=ys at D yl v;have af:Wm (Yd 0) Up (Wk (O (U 1) (O (U 2) (O (U 0) Za)))) [.un,.fz (.int (n:Int)),.fz (.int (m:Int))] (Zd ys)=some (ys.map λy=>N6 (n,m,y)):=by
    rw[Yu];exact Uu (λy:Nat=>Dat.int (y:Int)) (λy:Nat=>N6 (n,m,y)) ys λy _=>⟨[.fz (.int (y:Int)),.fz (.int (n:Int)),.fz (.int (m:Int))],rfl,rfl,Y3 rfl (by simp)⟩
   refine Jr (ds:=s.map N6) (as:=[.lst (ys.map λy=>N6 (n,m,y))]) (ds':=(s++ys.map λy=>(n,m,y)).map N6) rfl (Z2 (Wp (W9 (xs:=Zd ys) (On (Ze (xs:=[.lst (Zd B),W r,W q]) (Z2 rfl (Z2 (Z6 rfl rfl (a _ _ _ hr)) (Z2 (Z6 rfl rfl (a _ _ _ hq)) rfl))) D)) rfl af)) rfl) (by rw[jY (by rw[AD,AD];lia),BR,EX];rfl) ⟨_,_,rfl,by rw[AX,AD];lia,λt ht=>?_⟩;rcases BV.mp ht with ht | ht
   ·exact o t ht
   ·obtain⟨y,hy,rfl⟩:=CL.mp ht
    exact⟨A,by show m<_;lia,u y (v y hy)⟩
  ·rintro e ⟨s,l,rfl,S,o⟩
   have hl:(rng ((n+1:Nat):Int) (F.length - (n+1))).length=F.length - (n+1):=by unfold rng;rw[AD,DE]
   rw[hl] at S;exact⟨s,_,_,rfl,by lia,o⟩
 ·rintro e ⟨s,v5,l,rfl,S,o⟩
  exact Ku rfl ⟨s,rfl,o⟩
theorem oE(a b:Z Nat)(w:Nat)(ha:Ux (Ra a)=true)(hb:Ux (Ra b)=true)(hw:w<1000):gK "one" "other" "wire" [.lst (Zd a),.lst (Zd b),.int (w:Int)]=some ([("one",.nums (Ra a)),("other",.nums (Ra b)),("wire",.int (w:Int))]:Z (Str×XD)):=by
 unfold gK;dsimp only;have e:∀ l:Z Nat,U8 (Zd l)=some (Ra l):=λl=>Qv (Ra l)
 rw[e a];dsimp only[Option.bind];rw[e b];dsimp only[Option.bind];have hs:S0 (w:Int)=true:=by unfold S0;rw[AK (by lia),AK (by lia)];rfl
 rw[AF (by rw[ha,hb,hs];rfl)]
theorem fU(e:Mu [G.d,.int (ah:Int)]=.exc c fl):Wc [G.d,.int (ah:Int)]=.exc c fl:=by
 show(match K2 [.fz G.d,.fz (.int (ah:Int)),.un,.un,.un,.un,.un,.un,.un] with | .ret d=>Rs.ok d | .next _=>.ok .non | .exc _ c fs=>.exc c fs | _=>.no)=_;unfold K2 Zf;rw[Pi (ds:=[G.d,.int (ah:Int)]) rfl e]
theorem Iw(e:fs env=some ds)(h:F ds=.ok d):U7 F fs env=.next env:=by unfold U7;rw[e];dsimp only;rw[h]
def F7:Z Str:=J2
def UT(c:Str)(fl:Z (Str×XD)):Prop:=VR c fl\/(c="CalledOff" /\ ∃ (ks:Z Nat) (a b:Nat),fl=SE ks a b)
theorem UT.known(h:UT c fl):c∈F7:=by
 rcases h with(⟨rfl | rfl,_⟩ | ⟨rfl,_⟩) | ⟨rfl,_⟩<;>(unfold F7;simp)
theorem Be(hG:Gb 64 G)(ah:Nat)(B:1<=ah)(o:ah<=400):(∃ af,Wc [G.d,.int (ah:Int)]=.ok (.lst (af.map Rw.d))/\LR G ah af)\/∃ c fl,Wc [G.d,.int (ah:Int)]=.exc c fl/\UT c fl:=by
 rcases Pm hG ah B o with⟨d,es,af,rfl,W⟩ | ⟨c,fl,es,hr,hs⟩
 ·rcases An hG o es W with⟨d,e,rfl⟩ | ⟨c,fl,e,rfl,hf,_⟩
  ·exact .inl ⟨af,e,W⟩
  ·exact .inr ⟨_,fl,e,.inr ⟨rfl,hf⟩⟩
 ·exact .inr ⟨c,fl,fU es,.inl hs⟩
theorem lR(hG:Gb 64 G)(hm:ah<=400)(es:Wc [G.d,.int (ah:Int)]=.ok (.lst (af.map Rw.d)))(W:LR G ah af) :
  (∃ d,Vt [G.d,.int (ah:Int)]=.ok d/\True)\/∃ c fl,Vt [G.d,.int (ah:Int)]=.exc c fl/\c="Clash" := by
 have M:af.length<=400:=BC W.le hm;have u:=hG.s2;have C:=hG.w2;obtain⟨s,e,o⟩:=mb hG M;refine Oz (R:=λd=>True) (E:=λc fl=>c="Clash") rfl ?_;unfold Uq;refine V5 ⟨?_⟩;rw[Cs (d:=.lst (af.map Rw.d)) (ds:=[G.d,.int (ah:Int)]) rfl es];refine Ue (Zk (Ze (xs:=[G.d,.lst (af.map Rw.d)]) rfl e) ?_);refine V5 (Lp (b:=decide ((0:Int)<((s.length:Nat):Int))) (Ya (Z6 (Yv (Z2 rfl rfl) (Rq N6 s)) rfl rfl)) (λhb=>?_) (λhb=>(Yh (go_ret rfl trivial:Go _ _ _).toE:Go _ _ _).toE));have:=BM hb;cases hc:s with
 | nil=>rw[hc] at this;simp at this
 | cons t l =>
  have ht:=o t (by rw[hc];exact AW);have s1:=Es W.t t.1 ht.a;have s2:=Es W.t t.2.1 ht.b;have hw:=ht.w;have ha:=ht.a;have hb:=ht.b;refine Ue (Zk (d:=N6 t) (Z6 rfl rfl (Wd (j:=0) (x:=N6 t) rfl)) ?_);exact Mv (Z2 (Ze (xs:=[.lst (af.map Rw.d),.int (t.1:Int)]) (Z2 rfl (Z2 (Z6 rfl rfl rfl) rfl)) (UQ M W.t t.1 ht.a)) (Z2 (Ze (xs:=[.lst (af.map Rw.d),.int (t.2.1:Int)]) (Z2 rfl (Z2 (Z6 rfl rfl rfl) rfl)) (UQ M W.t t.2.1 ht.b)) (Z2 (Z6 rfl rfl rfl) rfl))) (oE _ _ t.2.2 (Rr (by lia) λk Y=>by have:=s1.2 k Y;lia) (Rr (by lia) λk Y=>by have:=s2.2 k Y;lia) (by lia)) rfl
theorem j6{p:Nat}(hp:ds.length=p)(h:g (Ui n ds)=.ret d):Y9 n p g ds=.ok d:=by unfold Y9;rw[AF hp,h]
theorem bf{p:Nat}{e:Ev}(hp:ds.length=p)(h:g (Ui n ds)=.exc e c fl):Y9 n p g ds=.exc c fl:=by unfold Y9;rw[AF hp,h]
theorem mq(e:Wc [G.d,.int (ah:Int)]=.exc c fl):Vt [G.d,.int (ah:Int)]=.exc c fl:=by
 refine bf (n:=5) (p:=2) (g:=Uq) (ds:=[G.d,.int (ah:Int)]) (e:=[.fz G.d,.fz (.int (ah:Int)),.un,.un,.un]) rfl ?_;show Uq [.fz G.d,.fz (.int (ah:Int)),.un,.un,.un]=_;unfold Uq;rw[Zf,Pi (ds:=[G.d,.int (ah:Int)]) rfl e]
theorem cR{b:Bool}(h:Qu [.fz G.d,.fz (.int (ah:Int))]=.ret (.bl b)):Tl [G.d,.int (ah:Int)]=.ok (.bl b):=j6 (n:=2) (p:=2) (g:=Qu) (ds:=[G.d,.int (ah:Int)]) rfl h
theorem mP(e:Vt [G.d,.int (ah:Int)]=.ok d):Tl [G.d,.int (ah:Int)]=.ok (.bl true):=cR (by
 unfold Qu Zf TZ NB;rw[Iw (ds:=[G.d,.int (ah:Int)]) rfl e];rfl)
theorem eF(e:Vt [G.d,.int (ah:Int)]=.exc c fl)(hc:c∈F7):Tl [G.d,.int (ah:Int)]=.ok (.bl false):=cR (by
 unfold Qu Zf TZ NB;rw[Ef (ds:=[G.d,.int (ah:Int)]) rfl e];dsimp only;rw[AF (show c∈([Str.ofString "Broken",Str.ofString "Crowded",Str.ofString "TooMany",Str.ofString "CalledOff",Str.ofString "Clash"]:Z Str) from hc),AF rfl];rfl)
theorem ZX(hc:QZ G I)(t:TT G af):∀ r∈af,I r.st:=by
 have ah:∀ (n:Nat) (r:Rw),af[n]?=some r->I r.st:=by
  intro n;induction n using strongRecOn with
  | _ n ih =>
   intro r hr;rcases DW n with z | z
   ·subst z
    rw[t.zero] at hr;cases hr;exact hc.ini
   ·obtain⟨f,k,s,c,_,a2,a3,a4,a5,a6⟩:=t.src n r hr z
    rw[a6];exact hc.nxt c.st s (ih f a2 c a4) (AI a3) a5
 intro r hr;obtain⟨n,hn⟩:=FW hr;exact ah n r hn
theorem RG.ws{two:Nat->Nat}(h:RG G n s0 one two rs)(ws:Z (Str×Bool)):RG ⟨ws,G.steps,G.marks,G.code⟩ n s0 one two rs where
 ne:=h.ne
 ring:=h.ring
 inj:=h.inj
 mks:=h.mks
 st:=λs hs=>by obtain⟨d,hd⟩:=h.st s hs;exact⟨d,hd.w,hd.dl,hd.tk,hd.fl,hd.lev⟩
theorem nw{two:Nat->Nat}(h:RG G n s0 one two rs)(A:1<=n)(he:∀ q∈rs,q.1<2*n/\q.2<2*n)(Y:k<2^(2*n))(hi:RI G n s0 one two rs k p):∃ k',k'<2^(2*n - 1)/\RI G n s0 one two rs k' p:=by
 have f:∀ j,2*n<=j->k.testBit j=false:=λj hj=>Nat.testBit_lt_two_pow (AR Y (CY (by lia) hj))
 cases hb:k.testBit (2*n - 1) with
 | false =>
  refine⟨k,Nat.lt_pow_two_of_testBit _ λj hj=>?_,hi⟩;rcases DN j (2*n) with z | z
  ·rw[show j=2*n - 1 by lia];exact hb
  ·exact f j z
 | true =>
  have fl:∀ j,(k ^^^ (2^(2*n) - 1)).testBit j=(k.testBit j ^^ decide (j<2*n)):=λj=>by rw[GW,Nat.testBit_two_pow_sub_one]
  have d:∀ i j,i<2*n->j<2*n->((k ^^^ (2^(2*n) - 1)).testBit i ^^ (k ^^^ (2^(2*n) - 1)).testBit j)=(k.testBit i ^^ k.testBit j):=λi j h1 h2=>by
   rw[fl,fl,AK h1,AK h2];cases k.testBit i<;>cases k.testBit j<;>rfl
  refine⟨k ^^^ (2^(2*n) - 1),Nat.lt_pow_two_of_testBit _ λj hj=>?_,?_,?_,hi.o,?_⟩
  ·rw[fl]
   rcases DN j (2*n) with z | z
   ·rw[show j=2*n - 1 by lia,hb,AK (by lia)];rfl
   ·rw[f j z,AH (by lia)];rfl
  ·intro t q e
   obtain⟨h1,h2⟩:=he q (AI e);rw[d _ _ h1 h2];exact hi.a t q e
  ·intro t q e
   obtain⟨h1,h2⟩:=he q (AI e);rw[d _ _ h1 h2];exact hi.b t q e
  ·intro w
   rw[hi.c];by_cases hw:w<n
   ·obtain⟨h1,h2⟩:=he _ (h.ring w hw)
    rw[d _ _ h1 h2]
   ·rw[AH hw,KJ,KJ]
theorem fE{two:Nat->Nat}(h1:RI G n s0 one two rs k p)(h2:RI G n s0 one two rs k q):p=q:=by
 refine IW (DJ λj=>?_) (DJ λj=>by rw[h1.c,h2.c]);by_cases hj:∀ t,t<rs.length->j≠s0+2*t/\j≠s0+2*t+1
 ·rw[h1.o j hj,h2.o j hj]
 ·simp only[Classical.not_forall] at hj
  obtain⟨t,ht,hj⟩:=hj;have e:rs[t]?=some rs[t]:=AG ht;by_cases e1:j=s0+2*t
  ·rw[e1,h1.a t _ e,h2.a t _ e]
  ·have e2:j=s0+2*t+1:=Classical.byContradiction λe2=>hj ⟨e1,e2⟩
   rw[e2,h1.b t _ e,h2.b t _ e]
theorem Fg{two:Nat->Nat}(hG:Gb 64 G)(h:RG G n s0 one two rs)(hr:Dk G)(A:1<=n)(hn:n<=3)(he:∀ q∈rs,q.1<2*n/\q.2<2*n)(ah:Nat)(B:32<=ah)(o:ah<=400):∃ af,Wc [G.d,.int (ah:Int)]=.ok (.lst (af.map Rw.d))/\LR G ah af:=by
 have hc:=gn h (by lia);rcases Pm hG ah (by lia) o with⟨d,es,af,rfl,W⟩ | ⟨c,fl,es,v⟩
 ·rcases An hG o es W with⟨d,e,rfl⟩ | ⟨c,fl,e,_,_,hp⟩
  ·exact⟨af,e,W⟩
  ·exact absurd hr hp
 ·exfalso
  rcases v with⟨_,af,t,hl⟩ | ⟨_,af,r,k,s,t,a,hs,u,hf⟩
  ·have M:=ZX hc t
   have:=eC (λk p=>RI G n s0 one two rs k p) (λk p q h1 h2=>fE h1 h2) (2^(2*n - 1)) (af.map Rw.st) t.nd λp hp=>by
    obtain⟨r,hr,rfl⟩:=CL.mp hp;obtain⟨k,Y,hi⟩:=M r hr;exact nw h A he Y hi
   rw[AD] at this;have h32:2^(2*n - 1)<=32:=BC (CY (by lia) (show 2*n - 1<=5 by lia)) (by decide);lia
  ·have M:=ZX hc t r a
   have hm:=AI hs;exact hf ⟨u,hc.lev _ s M hm u,hc.room _ s M hm u⟩
structure Sk (B Lq_ n:Nat) (s:St3):Prop where
 w:s.w<n
 t:∀ p∈s.takes,p<B
 f:∀ p∈s.fills,p<B
 tl:s.takes.length<=Lq_
 fl:s.fills.length<=Lq_
structure Gk (B Lq_:Nat) (G:G3):Prop where
 w1:1<=G.wires.length
 w2:G.wires.length<=5
 s1:2<=G.steps.length
 s2:G.steps.length<=22
 st:∀ s∈G.steps,Sk B Lq_ G.wires.length s
 mks:G.marks<2^B
 two:∀ w,w<G.wires.length->2<=(G.steps.map (·.w)).count w
theorem ms(G:G3)(hG:Gk B Lq_ G)(w:Nat)(hw:w<G.wires.length):∃ y:G3,Tn [G.d,.int (w:Int)]=.ok y.d/\Gk B Lq_ y/\(∃ u∈y.wires,u.2=true)/\∃ x,y=⟨G.wires.set w (x,true),G.steps,G.marks,G.code⟩:=by
 obtain⟨ws,a,mk,code⟩:=G;have f:w<ws.length:=hw;obtain⟨u,hu⟩:∃ u,ws[w]?=some u:=⟨_,AG f⟩;refine⟨⟨ws.set w (u.1,true),a,mk,code⟩,?_,?_,⟨(u.1,true),List.mem_set f _,rfl⟩,u.1,rfl⟩
 ·refine Wl (Y1 (n:=3) (p:=2) (ds:=[(⟨ws,a,mk,code⟩:G3).d,.int (w:Int)]) (g:=V6) (R:=λd=>d=_) rfl ?_)
  show Go (V6 [.fz (⟨ws,a,mk,code⟩:G3).d,.fz (.int (w:Int)),.un]) _ _;unfold V6;refine Z9 (Q8 (ds:=ws.map Ta) (Yv (Z2 (Z6 rfl rfl rfl) rfl) rfl) ?_);refine Z9 (Ri (k:=w) (d:=Ta (u.1,true)) rfl (Y3 (Z2 (Z6 (Z6 rfl rfl (Wd (x:=Ta u) (by rw[AM,hu];rfl))) rfl rfl) rfl) (by simp)) rfl (by rw[AD];exact f) ?_);refine go_ret (Z6 (Y3 (Z2 (Yv (Z2 rfl rfl) rfl) rfl) (by simp)) (D3 (z:=.tup [.tup (a.map St3.d),.int (mk:Int),.int (code:Int)]) rfl (Vx rfl) rfl rfl) (Bl (by simp))) ?_;show _=G3.d _;unfold G3.d;rw[map_set];rfl
 ·exact { w1:=by show 1<=(ws.set w _).length;rw[BJ];exact hG.w1,w2:=by show(ws.set w _).length<=5;rw[BJ];exact hG.w2,s1:=hG.s1,s2:=hG.s2,st:=λs hs=>by show Sk B Lq_ (ws.set w _).length s;rw[BJ];exact hG.st s hs,mks:=hG.mks,two:=λv hv=>hG.two v (by have b:v<(ws.set w (u.1,true)).length:=hv;rw[BJ] at b;exact b) }
def F8(G:G3)(k:Nat):Bool:=G.marks.testBit k||G.steps.any λs=>decide (k∈s.takes)||decide (k∈s.fills)
def frees(G:G3):Z Nat:=(List.range 64).filter λk=>!F8 G k
theorem ZO(hG:Gk B Lq_ G)(h:F8 G k=true):k<B:=by
 unfold F8 at h;rcases Bool.or_eq_true_iff.mp h with h | h
 ·rcases DN k B with q | q
  ·exact q
  ·rw[Nat.testBit_lt_two_pow (AR hG.mks (CY (by lia) q))] at h;cases h
 ·obtain⟨s,hs,h⟩:=IZ.mp h
  rcases Bool.or_eq_true_iff.mp h with h | h
  ·exact(hG.st s hs).t k (BM h)
  ·exact(hG.st s hs).f k (BM h)
theorem Ax(hG:Gk B Lq_ G)(m:B<=62):∃ x y ak,frees G=x::y::ak/\x<y/\y<=B+1:=by
 have m1:B∈frees G:=ES.mpr ⟨CZ.mpr (by lia),by
  cases h:F8 G B with
  | false=>rfl
  | true=>have:=ZO hG h;lia⟩
 have m2:B+1∈frees G:=ES.mpr ⟨CZ.mpr (by lia),by
  cases h:F8 G (B+1) with
  | false=>rfl
  | true=>have:=ZO hG h;lia⟩
 have hs:(frees G).Pairwise (· < ·):=List.Pairwise.filter _ List.pairwise_lt_range;generalize frees G=fs at m1 m2 hs;match fs,m1,m2,hs with
 | [x],m1,m2,_=>have:=AJ.mp m1;have:=AJ.mp m2;lia
 | x::y::ak,m1,m2,hs =>
  have h1:=GQ.mp hs;have h2:=GQ.mp h1.2;have n:=h1.1 y AW;refine⟨x,y,ak,rfl,n,?_⟩;rcases AZ.mp m2 with q | q
  ·rcases AZ.mp m1 with p | p
   ·lia
   ·have:=h1.1 _ p;lia
  ·rcases AZ.mp q with q | q
   ·lia
   ·have:=h2.1 _ q;lia
theorem Gr(G:G3)(hG:Gk B Lq_ G)(m:B<=62):Qh [G.d]=.ok (.lst (Zd (frees G))):=by
 refine Wl (Y1 rfl ?_);unfold Sc;refine Z9 (Zk (d:=.int (G.marks:Int)) (Z6 rfl rfl rfl) ?_);have J:dF Vq (O (dO Yf (U 0) (dC (.int 1))) Za) [.fz G.d,.fz (.int (G.marks:Int)),.un]=some (.int ((G.steps.length:Nat):Int)):=Yv (Z2 (Z6 rfl rfl rfl) rfl) (by show some (Dat.int ((G.steps.map St3.d).length:Int))=_;rw[AD]);refine Z9 (V4 (ds:=rng 0 G.steps.length) (λi e=>∃ (u:Nat) (v:LH),e=[.fz G.d,.fz (.int (u:Int)),v]/\∀ k,u.testBit k=(G.marks.testBit k||(G.steps.take i).any λs=>decide (k∈s.takes)||decide (k∈s.fills))) (Wi (Z2 J rfl) (by have:=hG.s2;lia)) ⟨G.marks,.un,rfl,λk=>by simp⟩ ?_ ?_)
 · rintro i d e hi ⟨u,v,rfl,hu⟩
   obtain⟨I,rfl⟩:=U9 hi;rw[DU];refine⟨_,rfl,?_⟩;obtain⟨s,hs⟩:∃ s,G.steps[i]?=some s:=⟨_,AG I⟩;have Y:=hG.st s (AI hs);refine Zk (Z6 (Z6 rfl (Ze (xs:=[.tup (Zd s.takes)]) (Z2 (Ze (xs:=[G.d,.int (i:Int)]) rfl (Q4 G i s hs)) rfl) (Tv s.takes λp hp=>by have:=Y.t p hp;lia)) (RZ u _)) (Ze (xs:=[.tup (Zd s.fills)]) (Z2 (Ze (xs:=[G.d,.int (i:Int)]) rfl (Kn G i s hs)) rfl) (Tv s.fills λp hp=>by have:=Y.f p hp;lia)) (RZ _ _)) ⟨_,_,rfl,λk=>?_⟩;rw[FX,FX,hu,Ww,Ww,HE,hs];simp[List.any_append,Bool.or_assoc]
 · rintro e ⟨u,v,rfl,hu⟩
   rw[T4,CG (AT _)] at hu;have hc:Wm (Yd 0) (Mb (dT (Zq Mz (O (U 1) (O (U 0) Za))))) (U 0) [.un,.fz (.int (u:Int))] (rng 0 64)=some (Zd (frees G)):=by
     rw[Ij,Uk (λk:Nat=>Dat.int (k:Int)) (λk:Nat=>Dat.int (k:Int)) (λk=>!F8 G k) (List.range 64) λk _=>⟨[.fz (.int (k:Int)),.fz (.int (u:Int))],rfl,M7 (Qd (by rw[show F8 G k=u.testBit k from(hu k).symm];exact Ze (xs:=[.int (u:Int),.int (k:Int)]) rfl (XU u k))),rfl⟩,Yu];rfl
   exact go_ret (Wp (W9 (xs:=rng 0 64) (Wi (Z2 rfl rfl) (by lia)) rfl hc)) rfl
theorem B7[BEq α][LawfulBEq α]:∀ (l b:Z α),l.Nodup->(∀ x∈l,x∈b)->l.length<=b.length
 | [],b,_,_=>CP _
 | x::l,b,hn,hs=>by
  have hx:=DB.mp hn;have h1:=B7 l (b.erase x) hx.2 λy hy=>(List.mem_erase_of_ne (show y≠x fromλe=>hx.1 (e▸hy))).mpr (hs y (AV _ hy))
  have h2:=List.length_erase_of_mem (hs x AW);have h3:=List.length_pos_of_mem (hs x AW);rw[BH];lia
def kept:Z Str:=NY
theorem kD:∀ k∈List.range 26,UP ⟨#[97+k]⟩ Vm=true:=by ext
theorem hV(z:Str)(h1:1<=z.length)(h2:z.length<=8)(h3:∀ c∈cl z,∃ k,k<26/\c=97+k)(h4:z∉kept):Us [.str z]=.ok (.bl true):=by
 refine Wl (Y1 rfl ?_);unfold Lb;refine Z9 (Vs (Qc (a:=false) (b:=false) (Ya (Z6 rfl rfl (show PX (.int (z.length:Int)) (.int 1)=some (.bl false) from(by show some (Dat.bl (decide ((z.length:Int)<1)))=_;rw[AH (by lia)])))) λ_=>Qc (a:=false) (b:=false) (Ya (Z6 rfl rfl (show PU (.int (z.length:Int)) (.int 8)=some (.bl false) from(by show some (Dat.bl (decide ((8:Int)<(z.length:Int))))=_;rw[AH (by lia)])))) λ_=>Ya (Z6 rfl rfl (show ME (.str z) (.tup (kept.map .str))=some (.bl false) from(by rw[gG,AH h4])))) (Yh ?_));refine go_ret (d:=.bl true) (Yv (Z2 (Wp (ds:=((cl z).map λc=>UP ⟨#[c]⟩ Vm).map .bl) (W9 (xs:=(cl z).map λc=>Dat.str ⟨#[c]⟩) (env':=[.un]) rfl rfl ?_)) rfl) ?_) rfl
 ·rw[Uu (λc=>Dat.str ⟨#[c]⟩) (λc=>.bl (UP ⟨#[c]⟩ Vm)) (cl z) λc _=>⟨[.fz (.str ⟨#[c]⟩)],rfl,rfl,rfl⟩,EX];rfl
 ·rw[pY,List.all_map]
  congr 2
  refine CW.mpr λc hc=>?_
  obtain⟨k,Y,rfl⟩:=h3 c hc;exact kD k (CZ.mpr Y)
def Dz(c m k:Nat):Str:=⟨((List.range m).map λj=>97+(c / 8+11*j+k) % 26).toArray⟩
theorem Rf(c m k:Nat):cl (Dz c m k)=(List.range m).map λj=>97+(c / 8+11*j+k) % 26:=rfl
theorem qr{c:Nat}(hm:1<=m)(hj:j<26)(Y:k<26)(h:Dz c m j=Dz c m k):j=k:=by
 have e:=DY cl h;rw[Rf,Rf] at e;have C:=DY (λl=>l[0]?) e;simp only[AM,GE (show 0<m by lia),KB,JM] at C;lia
theorem ZQ(z:Str)(ws:Z Str):Hf (.str z) (.lst (ws.map .str))=some (.bl (!decide (z∈ws))):=by unfold Hf;rw[d7];rfl
theorem Nz(c:Nat)(ws:Z (Str×Bool))(hw:ws.length<=5):∃ z:Str,Uh [.int (c:Int),.tup (ws.map Ta)]=.ok (.str z)/\z∉ws.map (·.1)/\Us [.str z]=.ok (.bl true):=by
 have:=Y1 (n:=7) (p:=2) (ds:=[.int (c:Int),.tup (ws.map Ta)]) (g:=Ud) (R:=λd=>∃ z:Str,d=.str z/\z∉ws.map (·.1)/\Us [.str z]=.ok (.bl true)) rfl ?_
 ·obtain⟨d,e,z,rfl,h⟩:=this
  exact⟨z,e,h⟩
 unfold Ud;refine Z9 (Zk (d:=.str Vm) rfl ?_);have hc:Wm (Yd 0) Up (dO Yf (U 0) (dC (.int 0))) [.un] (ws.map Ta)=some ((ws.map (·.1)).map .str):=by
  rw[Uu Ta (λw=>.str w.1) ws λw _=>⟨[.fz (Ta w)],rfl,rfl,Z6 rfl rfl rfl⟩,EX];rfl
 refine Z9 (Zk (Wp (W9 (xs:=ws.map Ta) rfl rfl hc)) ?_);obtain⟨m,hm,B,o⟩:∃ m:Nat,1+c % 8=m/\1<=m/\m<=8:=⟨_,rfl,by lia,by lia⟩;refine Z9 (V4 (ds:=rng 0 26) (λi e=>∃ (v4 v5 l:LH),e=[.fz (.int (c:Int)),.fz (.tup (ws.map Ta)),.fz (.str Vm),.fz (.lst ((ws.map (·.1)).map .str)),v4,v5,l]/\∀ k,k<i->Dz c m k∈ws.map (·.1)++kept) (Wi (Z2 rfl rfl) (by lia)) ⟨.un,.un,.un,rfl,by lia⟩ ?_ ?_)
 ·rintro i d e hi ⟨v4,v5,l,rfl,u⟩
  obtain⟨I,rfl⟩:=U9 hi;rw[DU];refine⟨_,rfl,?_⟩;refine Z9 (Zk (d:=.str (Dz c 0 i)) rfl ?_);refine Z9 (V4 (ds:=rng 0 m) (λj e=>∃ (l:LH),e=[.fz (.int (c:Int)),.fz (.tup (ws.map Ta)),.fz (.str Vm),.fz (.lst ((ws.map (·.1)).map .str)),.fz (.int (i:Int)),.fz (.str (Dz c j i)),l]) (Wi (Z2 (by rw[← hm];exact Z6 rfl (Z6 rfl rfl (Jo c 8 (by lia))) (Jp 1 _)) rfl) (by lia)) ⟨l,rfl⟩ ?_ ?_)
  ·rintro j d e hj ⟨l,rfl⟩
   obtain⟨aa,rfl⟩:=U9 hj;rw[DU];refine⟨_,rfl,?_⟩;have hx:=Xi (j:=(((c / 8+11*j+i) % 26:Nat):Int)) (by lia) (by lia);have hz:Dz c j i++(⟨#[97+(c / 8+11*j+i) % 26]⟩:Str)=Dz c (j+1) i:=fg (by rw[WF,Rf,Rf,JS,BR];rfl);have hl:(Dz c j i).length=j:=by rw[← Mm,Rf,AD,DE]
   refine Zk (d:=.str (Dz c (j+1) i)) (Z6 rfl (Z6 rfl (Z6 (Z6 (Z6 (Z6 rfl rfl (Tc c 8 (by lia) (by lia))) (Z6 rfl rfl (TU 11 j (by lia))) (Jp _ _)) rfl (Jp _ _)) rfl (Jo _ 26 (by lia))) hx) ?_) ⟨_,rfl⟩;rw[BP,Bo (by show _+1<=_;lia),hz]
  ·rintro e ⟨l,rfl⟩
   rw[T4];have Q:=ZQ (Dz c m i) kept;refine Sr (Ua (Ya (Z6 rfl rfl (ZQ (Dz c m i) (ws.map (·.1))))) λ_=>Ya (Z6 rfl rfl Q)) (λhb=>?_) (λhb=>Yh ?_)
   ·rw[AY] at hb
    have n1:Dz c m i∉ws.map (·.1):=by simpa using hb.1
    have n2:Dz c m i∉kept:=by simpa using hb.2
    have hl:(Dz c m i).length=m:=by rw[← Mm,Rf,AD,DE]
    exact go_ret rfl ⟨_,rfl,n1,hV _ (by lia) (by lia) (λx hx=>by
     rw[Rf] at hx;obtain⟨j,_,rfl⟩:=CL.mp hx;exact⟨_,FH _ (by lia),rfl⟩) n2⟩
   ·refine⟨_,_,_,rfl,λk Y=>?_⟩
    rcases DN k i with h | h
    ·exact u k h
    ·obtain rfl:k=i:=by lia
     rw[BV];by_cases q:Dz c m k∈ws.map (·.1)
     ·exact .inl q
     ·right
      rw[AH q] at hb;simpa using hb
 ·rintro e ⟨v4,v5,l,rfl,u⟩
  exfalso;rw[T4] at u;have h1:((List.range 26).map (Dz c m)).Nodup:=by
   refine JQ.mpr (List.Pairwise.imp_of_mem ?_ List.nodup_range);intro x y hx hy ag h;exact ag (qr B (CZ.mp hx) (CZ.mp hy) h)
  have h2:=B7 _ (ws.map (·.1)++kept) h1 λz hz=>by
   obtain⟨k,Y,rfl⟩:=CL.mp hz;exact u k (CZ.mp Y)
  rw[AD,DE,AX,AD] at h2;have h3:kept.length=5:=rfl;lia
def MA(G:G3)(s:St3):Bool:=match G.wires[s.w]? with
 | some u=>u.2
 | none=>false
theorem SQ(h:G.wires[s.w]?=some u):MA G s=u.2:=by unfold MA;rw[h]
theorem fG(G:G3):Cr [G.d]=.ok (.lst ((G.wires.map (·.1)).map .str)):=by
 refine Wl (Y1 rfl ?_);unfold Cu;refine go_ret (Wp (W9 (xs:=G.wires.map Ta) (env':=[.un,.un]) (Bu (Z6 rfl rfl rfl)) rfl (Uu Ta (λw=>.str w.1) G.wires λw _=>⟨[.fz (.str w.1),.fz (.str (if w.2 then "made" else "given"))],rfl,rfl,rfl⟩))) ?_;rw[EX];rfl
theorem mx(G:G3)(hG:Gk B Lq_ G)(m:B<=62)(hf:frees G=x::y::ak):Hj [G.d]=.ok (.bl true):=by
 refine Wl (Y1 rfl ?_);unfold Hg;have h1:=hG.w2;have h2:=hG.s2;refine Z9 (Vs (Qc (a:=false) (b:=false) (Ya (Z6 (Yv (Z2 (Z6 rfl rfl rfl) rfl) (Rb Ta G.wires)) rfl (by show some (Dat.bl (decide ((9:Int)<(G.wires.length:Int))))=_;rw[AH (by lia)]))) λ_=>Ya (Z6 (Yv (Z2 (Z6 rfl rfl rfl) rfl) (Rb St3.d G.steps)) rfl (by show some (Dat.bl (decide ((22:Int)<(G.steps.length:Int))))=_;rw[AH (by lia)]))) (Yh ?_));refine go_ret (Z6 (Yv (Z2 (Ze (xs:=[G.d]) rfl (Gr G hG m)) rfl) (Mw _)) rfl rfl) ?_;rw[hf];show Dat.bl (decide ((2:Int)<=((ak.length+1+1:Nat):Int)))=_;rw[AK (by lia)]
theorem Ip(G:G3)(hG:Gk B Lq_ G)(m:B<=62)(hf:frees G=x::y::ak)(z:Str)(hz:z∉G.wires.map (·.1))(hn:Us [.str z]=.ok (.bl true)):Jv [G.d,.str z]=.ok .non:=by
 refine Wl (Y1 rfl ?_);unfold Dv;exact Vs (Qc (a:=false) (b:=false) (M7 (b:=true) (Qd (Ze (xs:=[.str z]) rfl hn))) λ_=>Qc (a:=false) (b:=false) (Ya (Z6 rfl (Ze (xs:=[G.d]) rfl (fG G)) (by rw[ZS,AH hz]))) λ_=>M7 (b:=true) (Qd (Ze (xs:=[G.d]) rfl (mx G hG m hf)))) (Yh rfl)
theorem nV(B:Z Nat)(a b:Nat)(h:a≠b)(ha:a∈B)(hb:b∈B):Ha [.lst (Zd B),.int (a:Int),.int (b:Int)]=.ok .non:=by
 refine Wl (Y1 rfl ?_);unfold Ht;exact Vs (Qc (a:=false) (b:=false) (Ya (Z6 rfl rfl (by rw[QC];congr 2;exact CJ.mpr h))) λ_=>Qc (a:=false) (b:=false) (Ya (Z6 rfl rfl (by rw[eS,AK ha];rfl))) λ_=>Ya (Z6 rfl rfl (by rw[eS,AK hb];rfl))) (Yh rfl)
def Wr(G:G3):Z Nat:=(List.range G.steps.length).filter λk=>(G.steps[k]?.map (MA G)).getD false
theorem Lc(h:G.steps[k]?=some s)(hm:MA G s=true):k∈Wr G :=
 ES.mpr ⟨CZ.mpr (AE.mp h).1,by rw[h];exact hm⟩
theorem Gj(G:G3)(hG:Gk B Lq_ G):Qm [G.d]=.ok (.lst (Zd (Wr G))):=by
 refine Wl (Y1 rfl ?_);unfold Rh;have hc:Wm (Yd 0) (dT (Zq Uv (O (U 1) (O (Zq Tj (O (U 1) (O (U 0) Za))) Za)))) (U 0) [.un,.fz G.d] (rng 0 G.steps.length)=some (Zd (Wr G)):=by
  rw[Ij,Uk (λk:Nat=>Dat.int (k:Int)) (λk:Nat=>Dat.int (k:Int)) (λk=>(G.steps[k]?.map (MA G)).getD false) (List.range G.steps.length) λk Y=>by
   obtain⟨s,hs⟩:∃ s,G.steps[k]?=some s:=⟨_,AG (CZ.mp Y)⟩;have hw:=(hG.st s (AI hs)).w;obtain⟨u,hu⟩:∃ u,G.wires[s.w]?=some u:=⟨_,AG hw⟩;refine⟨[.fz (.int (k:Int)),.fz G.d],rfl,?_,rfl⟩;rw[hs];show _=some (MA G s);rw[SQ hu];exact Qd (Ze (xs:=[G.d,.int (s.w:Int)]) (Z2 rfl (Z2 (Ze (xs:=[G.d,.int (k:Int)]) rfl (K8 G k s hs)) rfl)) (Se G s.w u hu)),Yu]
  rfl
 exact go_ret (Wp (W9 (xs:=rng 0 G.steps.length) (Wi (Z2 (Yv (Z2 (Z6 rfl rfl rfl) rfl) (Rb St3.d G.steps)) rfl) (by have:=hG.s2;lia)) rfl hc)) rfl
def putG(G:G3)(z:Str)(a b x y:Nat)(sa sb:St3):G3 :=
 ⟨G.wires++[(z,true)],(G.steps.set a ⟨sa.w,sa.up,[x],sa.fills⟩).set b ⟨sb.w,sb.up,[y],sb.fills⟩++[⟨G.wires.length,true,sa.takes,[x]⟩,⟨G.wires.length,false,sb.takes,[y]⟩],G.marks,G.code⟩
theorem Xv(s:St3)(x:Nat):Ee [s.d,.int (x:Int)]=.ok (⟨s.w,s.up,[x],s.fills⟩:St3).d:=by
 refine Wl (Y1 rfl ?_);unfold N5;exact go_ret (Y3 (Z2 (Z6 rfl rfl rfl) (Z2 (Z6 rfl rfl rfl) (Z2 (Y3 rfl (by simp)) (Z2 (Z6 rfl rfl rfl) rfl)))) (by simp)) rfl
theorem mz(G:G3)(hG:Gk B Lq_ G)(m:B<=62)(hf:frees G=x::y::ak)(z:Str)(hz:z∉G.wires.map (·.1))(hn:Us [.str z]=.ok (.bl true))(a b:Nat)(sa sb:St3)(f:a≠b)(ha:G.steps[a]?=some sa)(hb:G.steps[b]?=some sb)(g:MA G sa=true)(p:MA G sb=true) :
  Q5 [G.d,.str z,.int (a:Int),.int (b:Int)]=.ok (putG G z a b x y sa sb).d:=by
 refine Wl (Y1 rfl ?_);unfold Pe;have I:=(AE.mp ha).1;have c:=(AE.mp hb).1;have h:=hG.s2;have h5:=hG.w2;refine Z9 (Ou (Ze (xs:=[G.d,.str z]) rfl (Ip G hG m hf z hz hn)) ?_);refine Z9 (Ou (Ze (xs:=[.lst (Zd (Wr G)),.int (a:Int),.int (b:Int)]) (Z2 (Ze (xs:=[G.d]) rfl (Gj G hG)) rfl) (nV _ a b f (Lc ha g) (Lc hb p))) ?_);refine Z9 (Zk (Yv (Z2 (Z6 rfl rfl rfl) rfl) (Rb Ta G.wires)) ?_);refine Z9 (Zk (d:=.lst (Zd (x::y::ak))) (by rw[← hf];exact Ze (xs:=[G.d]) rfl (Gr G hG m)) ?_);have J:Yf (.lst (Zd (x::y::ak))) (.int 0)=some (.int (x:Int)):=Wd (j:=0) rfl;have x1:Yf (.lst (Zd (x::y::ak))) (.int 1)=some (.int (y:Int)):=Wd (j:=1) rfl;refine Z9 (Zk (d:=(⟨G.wires.length,true,sa.takes,[x]⟩:St3).d) (Y3 (Z2 rfl (Z2 rfl (Z2 (Ze (xs:=[G.d,.int (a:Int)]) rfl (Q4 G a sa ha)) (Z2 (Y3 (Z2 (Z6 rfl rfl J) rfl) (by simp)) rfl)))) (by simp)) ?_);refine Z9 (Zk (d:=(⟨G.wires.length,false,sb.takes,[y]⟩:St3).d) (Y3 (Z2 rfl (Z2 rfl (Z2 (Ze (xs:=[G.d,.int (b:Int)]) rfl (Q4 G b sb hb)) (Z2 (Y3 (Z2 (Z6 rfl rfl x1) rfl) (by simp)) rfl)))) (by simp)) ?_);refine Z9 (Q8 (ds:=G.steps.map St3.d) (Yv (Z2 (Z6 rfl rfl rfl) rfl) rfl) ?_);refine Z9 (Ri (k:=a) (d:=(⟨sa.w,sa.up,[x],sa.fills⟩:St3).d) rfl (Ze (xs:=[sa.d,.int (x:Int)]) (Z2 (Z6 rfl rfl (Wd (by rw[AM,ha];rfl))) (Z2 (Z6 rfl rfl J) rfl)) (Xv sa x)) rfl (by rw[AD];exact I) ?_);refine Z9 (Ri (k:=b) (d:=(⟨sb.w,sb.up,[y],sb.fills⟩:St3).d) rfl (Ze (xs:=[sb.d,.int (y:Int)]) (Z2 (Z6 rfl rfl (Wd (by rw[GO f,AM,hb];rfl))) (Z2 (Z6 rfl rfl x1) rfl)) (Xv sb y)) rfl (by rw[BJ,AD];exact c) ?_);refine go_ret (Y3 (Z2 (Z6 (Z6 rfl rfl rfl) (Y3 (xs:=[Ta (z,true)]) (Z2 (Y3 rfl (by simp)) rfl) (by simp)) (Bl (by rw[AD];show _+1<=_;lia))) (Z2 (Yv (Z2 (Z6 rfl (Wp (Tu rfl (by simp))) (Cw (by rw[BJ,BJ,AD];show _+2<=_;lia))) rfl) rfl) (Z2 (Z6 rfl rfl rfl) (Z2 (Z6 rfl rfl rfl) rfl)))) (by simp)) ?_;unfold putG G3.d;simp only[BR,map_set];rfl
def Mk(G:G3):Z Nat:=(G.steps.zipIdx.filter λp=>MA G p.1).map (·.2)
theorem qA(a:Z St3):Jl 0 (a.map St3.d)=a.zipIdx.map λp=>Dat.tup [.int (p.2:Int),p.1.d]:=by
 apply II;intro i;rw[Ih,AM,AM,List.getElem?_zipIdx];cases a[i]? with
 | none=>rfl
 | some s=>simp
theorem i7(h:k∈Mk G):∃ s,G.steps[k]?=some s/\MA G s=true:=by
 obtain⟨⟨s,j⟩,hp,rfl⟩:=CL.mp h;obtain⟨h1,h2⟩:=ES.mp hp;have:=List.mem_zipIdx h1;simp only[CP,KO,Nat.sub_zero,true_and] at this;exact⟨s,by rw[this.2];exact AG this.1,h2⟩
theorem lh(G:G3):(Mk G).Nodup:=by
 have h1:(Mk G).Sublist (G.steps.zipIdx.map (·.2)):=List.filter_sublist.map _;refine List.Nodup.sublist h1 ?_;rw[List.zipIdx_map_snd];exact List.nodup_range'
theorem jB(hG:Gk B Lq_ G)(hm:∃ u∈G.wires,u.2=true):2<=(Mk G).length:=by
 obtain⟨u,hu,o⟩:=hm;obtain⟨w,hw⟩:=FW hu;have e:=(AE.mp hw).1;have h2:=hG.two w e;unfold Mk;rw[AD,← List.countP_eq_length_filter];have e1:G.steps.zipIdx.countP (λp=>MA G p.1)=G.steps.countP (MA G):=by
  have h:(G.steps.zipIdx.map Prod.fst).countP (MA G)=G.steps.zipIdx.countP (λp=>MA G p.1):=by rw[List.countP_map];rfl
  rw[← h,List.zipIdx_map_fst]
 rw[e1];have e2:(G.steps.map (·.w)).count w=G.steps.countP (λs=>s.w==w):=by
  rw[List.count,List.countP_map];rfl
 rw[e2] at h2;refine BC h2 (List.countP_mono_left λs hs h=>?_);have:s.w=w:=eq_of_beq h;rw[SQ (this▸hw),o]
theorem qz(h:l.Nodup)(ha:l[i]?=some a)(hb:b∈l.eraseIdx i):a≠b/\b∈l:=by
 have hl:=(AE.mp ha).1;have e:l=l.take i++a::l.drop (i+1):=by
  have h0:=(FO i l).symm;rw[EN hl,(AE.mp ha).2] at h0;exact h0
 rw[CT] at hb;have y:b∈l:=by
  rcases BV.mp hb with q | q
  ·exact List.mem_of_mem_take q
  ·exact List.mem_of_mem_drop q
 refine⟨?_,y⟩;rw[e] at h;obtain⟨_,h2,h3⟩:=GG.mp h;rcases BV.mp hb with q | q
 ·exactλz=>h3 b q a AW z.symm
 ·exactλz=>(DB.mp h2).1 (z▸q)
theorem ZL(h:Gb 54 G)(hl:X' G n rs)(A:1<=n)(ao:n<=4):Gk 54 54 G where
 w1:=by rw[hl.1];exact A
 w2:=by rw[hl.1];lia
 s1:=by have:=hl.2.1;lia
 s2:=by have:=hl.2.1;lia
 st:=λs hm=>⟨(h.st s hm).w,(h.st s hm).t,(h.st s hm).f,ZN (h.st s hm).tn (h.st s hm).t,ZN (h.st s hm).fn (h.st s hm).f⟩
 mks:=h.mks
 two:=λw hw=>hl.2.2.2.1 w (by rw[← hl.1];exact hw)
theorem X1(Y:k∈Wr G):∃ s,G.steps[k]?=some s/\MA G s=true:=by
 obtain⟨h1,h2⟩:=ES.mp Y;have e:=AG (CZ.mp h1);rw[e] at h2;exact⟨_,e,h2⟩
theorem iB(hb:Gb 64 G)(h5:G.wires.length<=9)(h:G.steps.length<=22)(hx:x<64)(hy:y<64){sa sb:St3}(ha:G.steps[a]?=some sa)(c:G.steps[b]?=some sb)(z:Str):Gb 64 (putG G z a b x y sa sb) where
 w2:=by show(G.wires++[(z,true)]).length<=10;rw[AX];show _+1<=10;lia
 s1:=by show 1<=((G.steps.set a _).set b _++[_,_]).length;rw[AX];show 1<=_+2;lia
 s2:=by show((G.steps.set a _).set b _++[_,_]).length<=24;rw[AX,BJ,BJ];show _+2<=24;lia
 mks:=hb.mks
 st:=λs hs=>by
  have e:(putG G z a b x y sa sb).wires.length=G.wires.length+1:=by show(G.wires++[(z,true)]).length=_;rw[AX];rfl
  rw[e];have F:∀ s∈G.steps,SB 64 (G.wires.length+1) s:=λs hs=>⟨CU (hb.st s hs).w,(hb.st s hs).t,(hb.st s hs).f,(hb.st s hs).tn,(hb.st s hs).fn⟩
  have D:=F sa (AI ha);have ob:=F sb (AI c);have one:∀ v:Nat,v<64->∀ p∈[v],p<64:=λv hv p hp=>by rw[AJ.mp hp];exact hv
  have d:∀ v:Nat,[v].Nodup:=λv=>DB.mpr ⟨by simp,EB⟩
  rcases BV.mp (show s∈(G.steps.set a ⟨sa.w,sa.up,[x],sa.fills⟩).set b ⟨sb.w,sb.up,[y],sb.fills⟩++[⟨G.wires.length,true,sa.takes,[x]⟩,⟨G.wires.length,false,sb.takes,[y]⟩] from hs) with q | q
  ·rcases DV q with q | q
   ·rcases DV q with q | q
    ·exact F s q
    ·rw[q];exact⟨D.w,one x hx,D.f,d x,D.fn⟩
   ·rw[q];exact⟨ob.w,one y hy,ob.f,d y,ob.fn⟩
  ·rcases AZ.mp q with q | q
   ·rw[q];exact⟨DK _,D.t,one x hx,D.tn,d x⟩
   ·rw[AJ.mp q];exact⟨DK _,ob.t,one y hy,ob.tn,d y⟩
theorem hX(hG:Gb 64 G)(ah:Nat)(B:1<=ah)(o:ah<=400):∃ b:Bool,Tl [G.d,.int (ah:Int)]=.ok (.bl b):=by
 rcases Be hG ah B o with⟨af,es,W⟩ | ⟨c,fl,es,hc⟩
 ·rcases lR hG o es W with⟨d,j,_⟩ | ⟨c,fl,j,rfl⟩
  ·exact⟨true,mP j⟩
  ·exact⟨false,eF j (by unfold F7;simp)⟩
 ·exact⟨false,eF (mq es) hc.known⟩
theorem ol{P:G3}(h1:Q5 [G.d,.str z,.int (a:Int),.int (b:Int)]=.ok P.d)(h2:Tl [P.d,.int (ah:Int)]=.ok (.bl bb)):Rv [G.d,.str z,.int (a:Int),.int (b:Int),.int (ah:Int)]=.ok (.bl bb):=by
 refine Wl (Y1 rfl ?_);unfold Cy;exact go_ret (Ze (xs:=[P.d,.int (ah:Int)]) (Z2 (Ze (xs:=[G.d,.str z,.int (a:Int),.int (b:Int)]) rfl h1) rfl) h2) rfl
theorem gD{two:Nat->Nat}(h:RG G n s0 one two rs)(hb:Gb 54 G)(hs:s∈G.steps):s.takes.length<=rs.length:=by
 obtain⟨d,hd⟩:=h.st s hs;have hm:∀ p∈s.takes,∃ t q,rs[t]?=some q/\t<rs.length/\(p - s0) / 2=t/\((p=s0+2*t/\q.2=d)\/(p=s0+2*t+1/\q.1=d)):=λp hp=>by
  obtain⟨t,q,e,z⟩:=(hd.tk p).mp hp;exact⟨t,q,e,(AE.mp e).1,by lia,z⟩
 have T:(s.takes.map λp=>(p - s0) / 2).Nodup:=by
  refine JQ.mpr ((hb.st s hs).tn.imp_of_mem λ{a b} ha m f z=>?_);obtain⟨t,q,e,_,ht,hz⟩:=hm a ha;obtain⟨t',W,e',_,g,r⟩:=hm b m;have:t=t':=by lia
  subst this;rw[e] at e';cases e';have:=h.ne q (AI e);lia
 have:=Ky _ (List.range rs.length) T λx hx=>by
  obtain⟨p,hp,rfl⟩:=CL.mp hx;obtain⟨t,q,e,hl,ht,_⟩:=hm p hp;exact CZ.mpr (by lia)
 rw[AD,DE] at this;exact this
theorem addK_nd:∀ (ns ks:Z Int),ks.Nodup->(ns.foldl Q9 ks).Nodup
 | [],ks,h=>h
 | n::ns,ks,h=>addK_nd ns (Q9 ks n) (by
  unfold Q9;split
  ·exact h
  ·rename_i hn
   refine GG.mpr ⟨h,DB.mpr ⟨by simp,EB⟩,λa ha b m z=>?_⟩;rw[AJ.mp m] at z;exact hn (z▸ha))
theorem fM(ps:Z Nat)(h:fs env=some [.tup (Zd ps)])(hl:ps.length<64):∃ qs:Z Nat,OZ fs env=some (Zd qs)/\qs.Nodup/\∀ q∈qs,q∈ps:=by
 obtain⟨qs,e,_,hm⟩:=ic ps h hl;refine⟨qs,e,?_,hm⟩;have e2:=e;unfold OZ at e2;rw[h] at e2;dsimp only at e2;rw[Qv] at e2;have e3:some ((Q6 ((ps.map λp:Nat=>(p:Int)).foldl Q9 [])).map Dat.int)=some (Zd qs):=by
  rw[← e2];show _=(if _ then some _ else none);rw[AF (by rw[AD];exact hl)]
 have e4:(Q6 ((ps.map λp:Nat=>(p:Int)).foldl Q9 [])).map Dat.int=(qs.map λp:Nat=>(p:Int)).map Dat.int:=by
  have:=BF e3;exact this
 have e5:Q6 ((ps.map λp:Nat=>(p:Int)).foldl Q9 [])=qs.map λp:Nat=>(p:Int):=by
  refine List.map_inj_right (λa b z=>?_) |>.mp e4;cases z;rfl
 have T:(qs.map λp:Nat=>(p:Int)).Nodup:=by
  rw[← e5];exact(Wz _).nodup_iff.mpr (addK_nd _ [] EB)
 exact(JQ.mp T).imp λ{a b} f z=>f (by rw[z])
theorem on(G:G3)(hG:Gb 54 G)(hf:∀ s∈G.steps,s.takes.length<=17)(c:Nat):∃ y:G3,Mj [G.d,.int (c:Int)]=.ok y.d/\Gb 64 y:=by
 have:=Y1 (n:=9) (p:=2) (ds:=[G.d,.int (c:Int)]) (g:=Tq) (R:=λd=>∃ y:G3,d=y.d/\Gb 64 y) rfl ?_
 ·obtain⟨d,e,z,rfl,h⟩:=this
  exact⟨z,e,h⟩
 have m:=hG.s1;have u:=hG.s2;unfold Tq;refine Z9 (Q8 (ds:=G.steps.map St3.d) (Yv (Z2 (Z6 rfl rfl rfl) rfl) rfl) ?_);have hi:c % G.steps.length<G.steps.length:=FH _ (by lia);have hj:c / 32 % G.steps.length<G.steps.length:=FH _ (by lia);refine Z9 (Zk (d:=.int ((c % G.steps.length:Nat):Int)) (Z6 rfl (Yv (Z2 rfl rfl) (Rq St3.d G.steps)) (Jo _ _ (by lia))) ?_);refine Z9 (Zk (d:=.int ((c / 32 % G.steps.length:Nat):Int)) (Z6 (Z6 rfl rfl (Tc c 32 (by lia) (by lia))) (Yv (Z2 rfl rfl) (Rq St3.d G.steps)) (Jo _ _ (by lia))) ?_);generalize c % G.steps.length=i at hi;generalize c / 32 % G.steps.length=j at hj;obtain⟨l,o⟩:∃ s,G.steps[i]?=some s:=⟨_,AG hi⟩;obtain⟨a,r⟩:∃ s,G.steps[j]?=some s:=⟨_,AG hj⟩;have B:=AI o;have v:=AI r;refine Z9 (kI (d:=a.d) (env':=[.fz G.d,.fz (.int (c:Int)),.ow (G.steps.map St3.d),.fz (.int (i:Int)),.fz (.int (j:Int)),.fz (.int (a.w:Int)),.fz (.bl a.up),.fz (.tup (Zd a.takes)),.fz (.tup (Zd a.fills))]) (Z6 rfl rfl (Wd (by rw[AM,r];rfl))) rfl ?_);have ak:=hf l B;have W:=hf a v;have x:OG (.tup (Zd a.takes)) (.tup (Zd l.takes))=some (.tup (Zd (a.takes++l.takes))):=by
  rw[Bl (by unfold Zd;rw[AD,AD,AD,AD];lia)];unfold Zd;rw[BR,BR]
 obtain⟨qs,eq,T,A⟩:=fM (fs:=O (dO OG (U 7) (dO Yf (dO Yf (dP 2) (U 3)) (dC (.int 2)))) Za) (env:=[.fz G.d,.fz (.int (c:Int)),.ow (G.steps.map St3.d),.fz (.int (i:Int)),.fz (.int (j:Int)),.fz (.int (a.w:Int)),.fz (.bl a.up),.fz (.tup (Zd a.takes)),.fz (.tup (Zd a.fills))]) (a.takes++l.takes) (Z2 (Z6 rfl (Z6 (Z6 rfl rfl (Wd (by rw[AM,o];rfl))) rfl rfl) x) rfl) (by rw[AX];lia);refine Z9 (Ri (ds:=G.steps.map St3.d) (k:=j) (d:=(⟨a.w,a.up,qs,a.fills⟩:St3).d) rfl (Y3 (Z2 rfl (Z2 rfl (Z2 (Yv (Z2 (Wp eq) rfl) rfl) rfl))) (by simp)) rfl (by rw[AD];exact hj) ?_);refine go_ret (Y3 (Z2 (Z6 rfl rfl rfl) (Z2 (Yv (Z2 rfl rfl) rfl) (Z2 (Z6 rfl rfl rfl) (Z2 (Z6 rfl rfl rfl) rfl)))) (by simp)) ⟨⟨G.wires,G.steps.set j ⟨a.w,a.up,qs,a.fills⟩,G.marks,G.code⟩,?_,?_⟩
 ·show Dat.tup [.tup (G.wires.map Ta),.tup ((G.steps.map St3.d).set j (⟨a.w,a.up,qs,a.fills⟩:St3).d),.int (G.marks:Int),.int (G.code:Int)]=Dat.tup [.tup (G.wires.map Ta),.tup ((G.steps.set j ⟨a.w,a.up,qs,a.fills⟩).map St3.d),.int (G.marks:Int),.int (G.code:Int)]
  rw[map_set]
 ·have b:∀ s∈G.steps,SB 64 G.wires.length s:=λs hs=>⟨(hG.st s hs).w,λp hp=>by have:=(hG.st s hs).t p hp;lia,λp hp=>by have:=(hG.st s hs).f p hp;lia,(hG.st s hs).tn,(hG.st s hs).fn⟩
  refine⟨hG.w2,by show 1<=(G.steps.set j _).length;rw[BJ];exact m,by show(G.steps.set j _).length<=24;rw[BJ];exact u,λs hs=>?_,AR hG.mks (CY (by lia) (by lia))⟩;rcases DV (show s∈G.steps.set j ⟨a.w,a.up,qs,a.fills⟩ from hs) with q | q
  ·exact b s q
  ·rw[q]
   refine⟨(b a v).w,λp hp=>?_,(b a v).f,T,(b a v).fn⟩;rcases BV.mp (A p hp) with q | q
   ·exact(b a v).t p q
   ·exact(b l B).t p q
def MB:Dat:=.int ((80:Nat):Int)
def Pt(G:G3)(z:Str)(a b:Nat):Prop:=Rv [G.d,.str z,.int (a:Int),.int (b:Int),MB]=.ok (.bl true)
structure MD (G:G3) (z:Str):Prop where
 gk:Gk 54 54 G
 gb:Gb 54 G
 z1:z∉G.wires.map (·.1)
 z2:Us [.str z]=.ok (.bl true)
 snd:∃ d,Wc [G.d,MB]=.ok d
theorem UB(h:Gb 54 G):Gb 64 G:=⟨h.w2,h.s1,h.s2,λs hs=>⟨(h.st s hs).w,λp hp=>by have:=(h.st s hs).t p hp;lia,λp hp=>by have:=(h.st s hs).f p hp;lia,(h.st s hs).tn,(h.st s hs).fn⟩,AR h.mks (CY (by lia) (by lia))⟩
theorem MD.put(h:MD G z)(ha:a∈Wr G)(hb:b∈Wr G)(f:a≠b):∃ (P:G3) (bb:Bool),Q5 [G.d,.str z,.int (a:Int),.int (b:Int)]=.ok P.d/\Rv [G.d,.str z,.int (a:Int),.int (b:Int),MB]=.ok (.bl bb):=by
 obtain⟨sa,c,g⟩:=X1 ha;obtain⟨sb,o,p⟩:=X1 hb;obtain⟨x,y,ak,hf,n,v⟩:=Ax h.gk (by lia);have e:=mz G h.gk (by lia) hf z h.z1 h.z2 a b sa sb f c o g p;have w2:=h.gk.w2;have s2:=h.gk.s2;obtain⟨bb,h1⟩:=hX (iB (UB h.gb) (by lia) (by lia) (x:=x) (y:=y) (by lia) (by lia) c o z) 80 (by lia) (by lia);exact⟨_,bb,e,ol e h1⟩
def PR(G:G3)(z:Str)(d:Dat):Prop:=(d=.non/\∀ a∈Wr G,∀ b∈Wr G,a≠b->¬ Pt G z a b) \/
 ∃ (a b:Nat) (P:G3),d=.tup [.int (a:Int),.int (b:Int),P.d]/\a∈Wr G/\b∈Wr G/\a≠b/\Q5 [G.d,.str z,.int (a:Int),.int (b:Int)]=.ok P.d/\Pt G z a b/\∀ r∈Wr G,∀ t∈Wr G,r≠t->Pt G z r t->¬ (r<a\/(r=a/\t<b))
theorem fP(G:G3):(Wr G).Pairwise (· < ·):=List.Pairwise.filter _ List.pairwise_lt_range
theorem cO{B:Z Nat}(hs:B.Pairwise (· < ·))(ha:B[i]?=some a)(hx:x∈B)(hxa:x<a):x∈B.take i:=by
 obtain⟨k,Y⟩:=FW hx;rcases DN k i with h | h
 ·exact AI (i:=k) (by rw[JH,AF h];exact Y)
 ·exfalso
  obtain⟨h1,e1⟩:=AE.mp ha;obtain⟨h2,e2⟩:=AE.mp Y;rcases DN i k with h3 | h3
  ·have:=FM.mp hs i k h1 h2 h3
   lia
  ·have:i=k:=by lia
   subst this;lia
theorem Pc(h:MD G z):∃ d,U1 [G.d,.str z,MB]=.ok d/\PR G z d:=by
 obtain⟨s,es⟩:=h.snd;have p:=fP G;obtain⟨x,y,ak,hf,n,v⟩:=Ax h.gk (by lia);refine Y1 (R:=PR G z) rfl ?_;unfold R4;refine Z9 ⟨?_⟩;rw[Iw (ds:=[G.d,MB]) rfl es];show Go _ _ _;refine Z9 (Ou (Ze (xs:=[G.d,.str z]) rfl (Ip G h.gk (by lia) hf z h.z1 h.z2)) ?_);refine Z9 (Zk (Ze (xs:=[G.d]) rfl (Gj G h.gk)) ?_);refine Z9 (V4 (ds:=Zd (Wr G)) (λi e=>∃ v4 v5:LH,e=[.fz G.d,.fz (.str z),.fz MB,.fz (.lst (Zd (Wr G))),v4,v5]/\∀ r∈(Wr G).take i,∀ t∈Wr G,r≠t->¬ Pt G z r t) rfl ⟨.un,.un,rfl,λr k=>by simp at k⟩ ?_ ?_)
 ·rintro i d e hi ⟨v4,v5,rfl,g⟩
  obtain⟨a,ha,rfl⟩:=Dt hi;have u:=AI ha;refine⟨_,rfl,?_⟩;refine V4 (ds:=Zd (Wr G)) (λj e=>∃ v5:LH,e=[.fz G.d,.fz (.str z),.fz MB,.fz (.lst (Zd (Wr G))),.fz (.int (a:Int)),v5]/\∀ t∈(Wr G).take j,a≠t->¬ Pt G z a t) rfl ⟨v5,rfl,λt m=>by simp at m⟩ ?_ ?_
  ·rintro j d e hj ⟨v5,rfl,l⟩
   obtain⟨b,hb,rfl⟩:=Dt hj;have F:=AI hb;have al:(Wr G).take (j+1)=(Wr G).take j++[b]:=by rw[HE,hb];rfl
   refine⟨_,rfl,?_⟩;by_cases f:a=b
   ·refine Vs (Ua (a:=false) (b:=false) (Ya (Z6 rfl rfl ((YU _ _).trans (by rw[f];simp)))) (λz=>by cases z)) (Yh ⟨_,rfl,λt m ag=>?_⟩)
    rw[al] at m;rcases BV.mp m with q | q
    ·exact l t q ag
    ·rw[AJ.mp q] at ag;exact absurd f ag
   ·obtain⟨P,bb,h1,h2⟩:=h.put u F f
    refine Sr (Ua (a:=true) (b:=bb) (Ya (Z6 rfl rfl ((YU _ _).trans (by rw[show((a:Int)==(b:Int))=false from CJ.mpr (by lia)];rfl)))) λ_=>Qd (Ze (xs:=[G.d,.str z,.int (a:Int),.int (b:Int),MB]) rfl h2)) (λc=>?_) (λc=>Yh ⟨_,rfl,λt m ag=>?_⟩)
    ·have c:bb=true:=c
     subst c;refine go_ret (Y3 (Z2 rfl (Z2 rfl (Z2 (Ze (xs:=[G.d,.str z,.int (a:Int),.int (b:Int)]) rfl h1) rfl))) (by simp)) (.inr ⟨a,b,P,rfl,u,F,f,h1,h2,λr k t m ag hp ae=>?_⟩);rcases ae with ae | ⟨rfl,ae⟩
     ·exact g r (cO p ha k ae) t m ag hp
     ·exact l t (cO p hb m ae) ag hp
    ·rw[al] at m
     rcases BV.mp m with q | q
     ·exact l t q ag
     ·rw[AJ.mp q]
      intro hp;have c:bb=false:=c;subst c;unfold Pt at hp;rw[h2] at hp;cases hp
  ·rintro e ⟨v5,rfl,l⟩
   have o:(Zd (Wr G)).length=(Wr G).length:=by unfold Zd;rw[AD,AD]
   rw[o,CG (AT _)] at l;refine⟨_,_,rfl,λr k t m ag=>?_⟩;rw[HE,ha] at k;rcases BV.mp k with q | q
   ·exact g r q t m ag
   ·have:r=a:=by simpa using q
    subst this;exact l t m ag
 ·rintro e ⟨v4,v5,rfl,g⟩
  have o:(Zd (Wr G)).length=(Wr G).length:=by unfold Zd;rw[AD,AD]
  rw[o,CG (AT _)] at g;exact go_ret rfl (.inl ⟨rfl,g⟩)
theorem iq(e:Wc [G.d,.int (ah:Int)]=.exc c fl):U1 [G.d,.str z,.int (ah:Int)]=.exc c fl:=by
 refine bf (n:=6) (p:=3) (g:=R4) (ds:=[G.d,.str z,.int (ah:Int)]) (e:=[.fz G.d,.fz (.str z),.fz (.int (ah:Int)),.un,.un,.un]) rfl ?_;show R4 [.fz G.d,.fz (.str z),.fz (.int (ah:Int)),.un,.un,.un]=_;unfold R4;rw[Zf,Ef (ds:=[G.d,.int (ah:Int)]) rfl e]
def PP(d:Dat):Prop:=pd 20 d=true/\Mt d d=true
theorem F3(h:∀ x∈xs,Mt x x=true/\pd 19 x=true):PP (.tup xs):=bp h
theorem Io(z:Str):Mt (.str z) (.str z)=true:=by unfold Mt;exact EK z
theorem pd_nats(ks:Z Nat):pd 19 (.lst (Zd ks))=true:=by
 show(Zd ks).all (pd 18)=true;refine CW.mpr λx hx=>?_
 rw[Yu] at hx;obtain⟨p,_,rfl⟩:=CL.mp hx;rfl
theorem cM(z:Str)(ks:Z Nat):PP (.tup [.str z,.lst (Zd ks)]):=F3 λx hx=>by
 simp only[AZ,GV,JY] at hx;rcases hx with rfl | rfl
 ·exact⟨Io _,rfl⟩
 ·exact⟨(Bg ks).2,pd_nats ks⟩
theorem nJ(z:Str)(ks:Z Nat)(a b:Nat):PP (.tup [.str z,.lst (Zd ks),.int (a:Int),.int (b:Int)]):=F3 λx hx=>by
 simp only[AZ,GV,JY] at hx;rcases hx with rfl | rfl | rfl | rfl
 ·exact⟨Io _,rfl⟩
 ·exact⟨(Bg ks).2,pd_nats ks⟩
 ·exact⟨K0 _,rfl⟩
 ·exact⟨K0 _,rfl⟩
theorem K6(z:Str):PP (.tup [.str z]):=F3 λx hx=>by
 rw[AJ.mp hx];exact⟨Io _,rfl⟩
theorem j8(ks:Z Nat):W7 [.exc "Broken" (Fx ks)]=.ok (.tup [.str "broken",.lst (Zd ks)]):=rfl
theorem f8(ks:Z Nat):W7 [.exc "Crowded" (Fx ks)]=.ok (.tup [.str "crowded",.lst (Zd ks)]):=rfl
theorem qa:W7 [.exc "TooMany" []]=.ok (.tup [.str "many"]):=rfl
theorem jc(ks:Z Nat)(a b:Nat):W7 [.exc "CalledOff" (SE ks a b)]=.ok (.tup [.str "called off",.lst (Zd ks),.int (a:Int),.int (b:Int)]):=rfl
theorem lV(h:UT c fl):∃ D,W7 [.exc c fl]=.ok D/\PP D:=by
 rcases h with(⟨rfl | rfl,ks,rfl⟩ | ⟨rfl,rfl⟩) | ⟨rfl,ks,a,b,rfl⟩
 ·exact⟨_,j8 ks,cM _ ks⟩
 ·exact⟨_,f8 ks,cM _ ks⟩
 ·exact⟨_,qa,K6 _⟩
 ·exact⟨_,jc ks a b,nJ _ ks a b⟩
def Qg:Dat:=.tup [.str "none"]
theorem lK(e:t env=some true):Qt t g h env=g env:=by unfold Qt;rw[e]
theorem qd(e:t env=some false):Qt t g h env=h env:=by unfold Qt;rw[e]
def OL(k:Nat)(G:G3)(z:Str)(ah:Nat):Rs:=if k=0 then Wc [G.d,.int (ah:Int)] else U1 [G.d,.str z,.int (ah:Int)]
theorem cP(k:Nat)(Y:k<2)(G:G3)(z:Str)(ah:Nat)(v4 v5:LH):Qt (dB (dO Dp (U 0) (dC (.int 0)))) (U7 Wc (O (U 1) (O (U 3) Za))) (U7 U1 (O (U 1) (O (U 2) (O (U 3) Za)))) [.fz (.int (k:Int)),.fz G.d,.fz (.str z),.fz (.int (ah:Int)),v4,v5]=match OL k G z ah with | .ok _=>.next [.fz (.int (k:Int)),.fz G.d,.fz (.str z),.fz (.int (ah:Int)),v4,v5] | .exc c fl=>.exc [.fz (.int (k:Int)),.fz G.d,.fz (.str z),.fz (.int (ah:Int)),v4,v5] c fl | .no=>.no:=by
 unfold OL;match k,Y with
 | 0,_ =>
  rw[lK (by rfl),AF rfl];cases e:Wc [G.d,.int (ah:Int)] with
  | ok d=>exact Iw (ds:=[G.d,.int (ah:Int)]) rfl e
  | exc c fl=>exact Ef (ds:=[G.d,.int (ah:Int)]) rfl e
  | no=>show U7 _ _ _=_;unfold U7;show(match Wc [G.d,.int (ah:Int)] with | .ok _=>_ | .exc c fl=>_ | .no=>_)=_;rw[e]
 | 1,_ =>
  rw[qd (by rfl),AL (by decide)];cases e:U1 [G.d,.str z,.int (ah:Int)] with
  | ok d=>exact Iw (ds:=[G.d,.str z,.int (ah:Int)]) rfl e
  | exc c fl=>exact Ef (ds:=[G.d,.str z,.int (ah:Int)]) rfl e
  | no=>show U7 _ _ _=_;unfold U7;show(match U1 [G.d,.str z,.int (ah:Int)] with | .ok _=>_ | .exc c fl=>_ | .no=>_)=_;rw[e]
theorem n6(k:Nat)(Y:k<2)(G:G3)(z:Str)(ah:Nat)(h:OL k G z ah=.ok d):Wb [.int (k:Int),G.d,.str z,.int (ah:Int)]=.ok Qg:=by
 refine Wl (Y1 rfl ?_);show Go (V2 [.fz (.int (k:Int)),.fz G.d,.fz (.str z),.fz (.int (ah:Int)),.un,.un]) _ _;unfold V2;refine Z9 (Zk (d:=Qg) (Y3 rfl (by simp)) ?_);refine Z9 ⟨?_⟩;unfold RW NB;rw[show([.fz (.int (k:Int)),.fz G.d,.fz (.str z),.fz (.int (ah:Int)),.un,.un]:Ev).set 4 (.fz Qg)=[.fz (.int (k:Int)),.fz G.d,.fz (.str z),.fz (.int (ah:Int)),.fz Qg,.un] from rfl,cP k Y,h];exact go_ret rfl rfl
theorem Na(k:Nat)(Y:k<2)(G:G3)(z:Str)(ah:Nat)(h:OL k G z ah=.exc c fl)(hc:c∈F7){D:Dat}(y:W7 [.exc c fl]=.ok D):Wb [.int (k:Int),G.d,.str z,.int (ah:Int)]=.ok D:=by
 refine Wl (Y1 rfl ?_);show Go (V2 [.fz (.int (k:Int)),.fz G.d,.fz (.str z),.fz (.int (ah:Int)),.un,.un]) _ _;unfold V2;refine Z9 (Zk (d:=Qg) (Y3 rfl (by simp)) ?_);refine Z9 ⟨?_⟩;unfold RW NB;rw[show([.fz (.int (k:Int)),.fz G.d,.fz (.str z),.fz (.int (ah:Int)),.un,.un]:Ev).set 4 (.fz Qg)=[.fz (.int (k:Int)),.fz G.d,.fz (.str z),.fz (.int (ah:Int)),.fz Qg,.un] from rfl,cP k Y,h];dsimp only;rw[AF (show Vd J2 c=true from AK hc)];have e:Y2 4 (Zq W7 (O (U 5) Za)) (([.fz (.int (k:Int)),.fz G.d,.fz (.str z),.fz (.int (ah:Int)),.fz Qg,.un]:Ev).set 5 (.fz (.exc c fl)))=.next [.fz (.int (k:Int)),.fz G.d,.fz (.str z),.fz (.int (ah:Int)),.fz D,.fz (.exc c fl)]:=by
  unfold Y2;rw[Ze (xs:=[.exc c fl]) rfl y];rfl
 rw[e];exact go_ret rfl rfl
theorem iV(hG:Gb 64 G)(ah:Nat)(B:1<=ah)(o:ah<=400)(z:Str):∃ D,Wb [.int ((0:Nat):Int),G.d,.str z,.int (ah:Int)]=.ok D/\PP D/\(D=Qg\/∀ J,Wb [.int ((1:Nat):Int),G.d,.str J,.int (ah:Int)]=.ok D):=by
 rcases Be hG ah B o with⟨af,es,_⟩ | ⟨c,fl,es,hs⟩
 ·exact⟨Qg,n6 0 (by lia) G z ah (d:=.lst (af.map Rw.d)) (by unfold OL;rw[AF rfl];exact es),K6 _,.inl rfl⟩
 ·obtain⟨D,y,f⟩:=lV hs
  exact⟨D,Na 0 (by lia) G z ah (by unfold OL;rw[AF rfl];exact es) hs.known y,f,.inr λJ=>Na 1 (by lia) G J ah (by unfold OL;rw[AL (by decide)];exact iq es) hs.known y⟩
theorem j9(a b:Int):OC [.int a,.int b]=some (.int (if b > a then b else a)):=rfl
theorem fJ(h:MD G z)(hf:∀ s∈G.steps,s.takes.length<=17)(es:Wc [G.d,MB]=.ok (.lst (af.map Rw.d)))(hr:af.length<=80)(c:Nat):U3 [G.d,.str z,.int (c:Int)]=.ok (.bl true):=by
 refine Wl (Y1 rfl ?_);unfold Vr;obtain⟨v,e1,q⟩:=on G h.gb hf c;refine Z9 (Zk (d:=.int (af.length:Int)) (Yv (Z2 (Ze (xs:=[G.d,MB]) rfl es) rfl) (Rq Rw.d af)) ?_);obtain⟨m2,o,n,p⟩:∃ m2:Nat,(if((af.length:Int) - 1 - ((c / 1024 % 3:Nat):Int)) > 1 then((af.length:Int) - 1 - ((c / 1024 % 3:Nat):Int)) else 1)=(m2:Int)/\1<=m2/\m2<=400:=by
  split
  ·exact⟨af.length - 1 - c / 1024 % 3,by lia,by lia,by lia⟩
  ·exact⟨1,rfl,by lia,by lia⟩
 obtain⟨w0,r⟩:∃ w0,G.wires[0]?=some w0:=⟨_,AG (by have:=h.gk.w1;lia)⟩;refine Z9 (V4 (ds:=[.tup [v.d,MB],.tup [G.d,.int (m2:Int)]]) (λi e=>∃ v4 v5 l w:LH,e=[.fz G.d,.fz (.str z),.fz (.int (c:Int)),.fz (.int (af.length:Int)),v4,v5,l,w]) (On (Wp (Tu (Z2 (Y3 (Z2 (Ze (xs:=[G.d,.int (c:Int)]) rfl e1) rfl) (by simp)) (Z2 (Y3 (Z2 rfl (Z2 (Yv (Z2 rfl (Z2 (Z6 (Z6 rfl rfl rfl) (Z6 (Z6 rfl rfl (Tc c 1024 (by lia) (by lia))) rfl (Jo _ 3 (by lia))) rfl) rfl)) (by rw[j9,o])) rfl)) (by simp)) rfl)) (by simp)))) ⟨.un,.un,.un,.un,rfl⟩ ?_ ?_)
 ·rintro i d e hi ⟨v4,v5,l,w,rfl⟩
  obtain⟨H,m,hd,g,k1,k2⟩:∃ (H:G3) (m:Nat),d=.tup [H.d,.int (m:Int)]/\Gb 64 H/\1<=m/\m<=400:=by
   match i,hi with
   | 0,hi=>cases hi;exact⟨v,80,rfl,q,by lia,by lia⟩
   | 1,hi=>cases hi;exact⟨G,m2,rfl,UB h.gb,n,p⟩
   | k+2,hi=>cases hi
  subst hd;refine⟨[.fz G.d,.fz (.str z),.fz (.int (c:Int)),.fz (.int (af.length:Int)),.fz H.d,.fz (.int (m:Int)),l,w],rfl,?_⟩;obtain⟨D,r0,f,t⟩:=iV g m k1 k2 z;refine Z9 (Zk (d:=D) (Ze (xs:=[.int ((0:Nat):Int),H.d,.str z,.int (m:Int)]) rfl r0) ?_);refine V4 (ds:=[.str z,.str w0.1,.str ""]) (λi e=>∃ w:LH,e=[.fz G.d,.fz (.str z),.fz (.int (c:Int)),.fz (.int (af.length:Int)),.fz H.d,.fz (.int (m:Int)),.fz D,w]) (On (Wp (Tu (Z2 rfl (Z2 (Z6 (Z6 (Z6 rfl rfl rfl) rfl (Sh (j:=0) (by rw[AM,r];rfl))) rfl rfl) rfl)) (by simp)))) ⟨w,rfl⟩ ?_ ?_
  ·rintro j d e hj ⟨w,rfl⟩
   obtain⟨J,rfl⟩:∃ J,d=.str J:=by
    match j,hj with
    | 0,hj=>cases hj;exact⟨_,rfl⟩
    | 1,hj=>cases hj;exact⟨_,rfl⟩
    | 2,hj=>cases hj;exact⟨_,rfl⟩
    | k+3,hj=>cases hj
   refine⟨[.fz G.d,.fz (.str z),.fz (.int (c:Int)),.fz (.int (af.length:Int)),.fz H.d,.fz (.int (m:Int)),.fz D,.fz (.str J)],rfl,?_⟩;have ag:∃ b,Hz D Qg=some (.bl b)/\(D=Qg->b=false):=by
    refine⟨!Mt D Qg,?_,λz=>?_⟩
    ·unfold Hz;rw[f.1,show pd 20 Qg=true from(K6 _).1];rfl
    ·subst z;rw[show Mt Qg Qg=true from(K6 _).2];rfl
   obtain⟨b,hb,y⟩:=ag;have ah:R7 (dB (dO Hz (U 6) (Wk (O (dC (.str "none")) Za)))) (dB (dO Hz (Zq Wb (O (dC (.int 1)) (O (U 4) (O (U 7) (O (U 5) Za))))) (U 6))) [.fz G.d,.fz (.str z),.fz (.int (c:Int)),.fz (.int (af.length:Int)),.fz H.d,.fz (.int (m:Int)),.fz D,.fz (.str J)]=some false:=by
    rcases t with hn | u
    ·exact Ua (a:=false) (b:=false) (Ya (Z6 rfl (Y3 rfl (by simp)) (by rw[← y hn];exact hb))) (λz=>by cases z)
    ·have e:(b&&false)=false:=KM b
     rw[← e];exact Ua (a:=b) (b:=false) (Ya (Z6 rfl (Y3 rfl (by simp)) hb)) (λ_=>Ya (Z6 (Ze (xs:=[.int ((1:Nat):Int),H.d,.str J,.int (m:Int)]) rfl (u J)) rfl (qo f)))
   exact Vs ah (Yh ⟨_,rfl⟩)
  ·rintro e ⟨w,rfl⟩;exact⟨_,_,_,_,rfl⟩
 ·rintro e ⟨v4,v5,l,w,rfl⟩
  exact go_ret rfl rfl
def Sf(n:Nat)(d:Dat):Prop:=Mt d d=true/\pd n d=true
theorem Ho(h:∀ x∈xs,Sf n x):Sf (n+1) (.tup xs):=by
 refine⟨?_,?_⟩
 ·unfold Mt;exact N3 xs λx hx=>(h x hx).1
 ·show xs.all (pd n)=true
  exact CW.mpr λx hx=>(h x hx).2
theorem La(n:Nat)(i:Int):Sf n (.int i):=⟨K0 i,by cases n<;>rfl⟩
theorem nc(n:Nat)(z:Str):Sf n (.str z):=⟨Io z,by cases n<;>rfl⟩
theorem m9(n:Nat)(b:Bool):Sf n (.bl b):=⟨by cases b<;>rfl,by cases n<;>rfl⟩
theorem d9(n:Nat)(l:Z Nat):Sf (n+1) (.tup (Zd l)):=Ho λx hx=>by
 rw[Yu] at hx;obtain⟨p,_,rfl⟩:=CL.mp hx;exact La _ _
theorem WK(n:Nat)(G:G3):Sf (n+4) G.d:=Ho λx hx=>by
 have hx:x∈[Dat.tup (G.wires.map Ta),.tup (G.steps.map St3.d),.int (G.marks:Int),.int (G.code:Int)]:=hx;simp only[AZ,GV,JY] at hx;rcases hx with rfl | rfl | rfl | rfl
 ·refine Ho λx hx=>?_
  obtain⟨u,_,rfl⟩:=CL.mp hx;exact Ho λx hx=>by
   simp only[AZ,GV,JY] at hx;rcases hx with rfl | rfl<;>exact nc _ _
 ·refine Ho λx hx=>?_
  obtain⟨s,_,rfl⟩:=CL.mp hx;exact Ho λx hx=>by
   simp only[AZ,GV,JY] at hx;rcases hx with rfl | rfl | rfl | rfl
   ·exact La _ _
   ·exact m9 _ _
   ·exact d9 _ _
   ·exact d9 _ _
 ·exact La _ _
 ·exact La _ _
theorem iU(G:G3):Dp G.d G.d=some (.bl true):=b' ⟨(WK 16 G).2,(WK 16 G).1⟩
theorem bK(a b:Nat)(P:G3):Sf 20 (.tup [.int (a:Int),.int (b:Int),P.d]):=Ho λx hx=>by
 simp only[AZ,GV,JY] at hx;rcases hx with rfl | rfl | rfl
 ·exact La _ _
 ·exact La _ _
 ·exact WK 15 P
theorem mo(p q a b:Nat)(h:¬ (p<a\/(p=a/\q<b))):HT.lexLt [(p:Int),(q:Int)] [(a:Int),(b:Int)]=false:=by
 show(if(p:Int)=(a:Int) then(if(q:Int)=(b:Int) then HT.lexLt [] [] else decide ((q:Int)<(b:Int))) else decide ((p:Int)<(a:Int)))=false;split
 ·split
  ·rfl
  ·exact AH (by lia)
 ·exact AH (by lia)
theorem d2(a b:Int):Dp (.int a) (.int b)=some (.bl (a==b)):=by unfold Dp Mt;rfl
theorem l7(b:Bool):Hz (.str (if b then "made" else "given")) (.str "made")=some (.bl (!b)):=by cases b<;>rfl
theorem om{g:Zzu}(h1:f env=some (.bl true))(h2:g env=some d):TV f g env=some d:=by
 unfold TV;rw[Ya h1];exact h2
structure W' (G:G3) (p q:Nat):Prop where
 a:p∈Wr G
 b:q∈Wr G
 n:p≠q
theorem lx(h:MD G z){m:Dat}(hp:PR G z m){p1 M p2 q2:Nat}(h1:W' G p1 M)(h2:W' G p2 q2):D5 [G.d,.str z,m,.lst [.tup [.int (p1:Int),.int (M:Int)],.tup [.int (p2:Int),.int (q2:Int)]]]=.ok (.bl true):=by
 refine Wl (Y1 rfl ?_);unfold Ds;refine Z9 (V4 (ds:=[.tup [.int (p1:Int),.int (M:Int)],.tup [.int (p2:Int),.int (q2:Int)]]) (λi e=>∃ v4 v5:LH,e=[.fz G.d,.fz (.str z),.fz m,.fz (.lst [.tup [.int (p1:Int),.int (M:Int)],.tup [.int (p2:Int),.int (q2:Int)]]),v4,v5,.un]) rfl ⟨.un,.un,rfl⟩ ?_ ?_)
 ·rintro i d e hi ⟨v4,v5,rfl⟩
  obtain⟨p,q,rfl,c⟩:∃ p q:Nat,d=.tup [.int (p:Int),.int (q:Int)]/\W' G p q:=by
   match i,hi with
   | 0,hi=>cases hi;exact⟨_,_,rfl,h1⟩
   | 1,hi=>cases hi;exact⟨_,_,rfl,h2⟩
   | k+2,hi=>cases hi
  refine⟨_,rfl,?_⟩;obtain⟨P,bb,_,e2⟩:=h.put c.a c.b c.n;refine Z9 (Zk (d:=.bl bb) (Ze (xs:=[G.d,.str z,.int (p:Int),.int (q:Int),MB]) rfl e2) ?_);cases bb with
  | false=>exact Vs (Ua (a:=false) (b:=false) rfl (λz=>by cases z)) (Yh ⟨_,_,rfl⟩)
  | true =>
   rcases hp with⟨rfl,C⟩ | ⟨a,b,P',rfl,_,_,_,_,_,g⟩
   ·exact absurd e2 (C p c.a q c.b c.n)
   ·have hl:=mo p q a b (g p c.a q c.b c.n e2)
    exact Vs (Ua (a:=true) (b:=false) rfl λ_=>Qc (a:=false) (b:=false) (Ya (Z6 rfl rfl rfl)) λ_=>Ya (Z6 (y:=.tup [.int (a:Int),.int (b:Int)]) rfl (D3 rfl rfl (Vx rfl) rfl) (by show some (Dat.bl (HT.lexLt [(p:Int),(q:Int)] [(a:Int),(b:Int)]))=_;rw[hl]))) (Yh ⟨_,_,rfl⟩)
 ·rintro e ⟨v4,v5,rfl⟩
  rcases hp with⟨rfl,C⟩ | ⟨a,b,P,rfl,ha,hb,f,r,t,g⟩
  ·exact Z9 (dH (Ya (Z6 rfl rfl rfl)) (go_ret rfl rfl))
  refine Z9 (Vs (Ya (Z6 rfl rfl rfl)) (Yh ?_));refine Z9 (Vs (Qc (a:=false) (b:=false) (M7 (b:=true) (Qd (WI rfl rfl oH))) λ_=>Qc (a:=false) (b:=false) (Ya (Z6 rfl rfl rfl)) λ_=>Ya (Z6 (Z6 rfl rfl rfl) (Z6 rfl rfl rfl) ((d2 _ _).trans (by rw[show((a:Int)==(b:Int))=false from CJ.mpr (by lia)])))) (Yh ?_));refine Z9 (V4 (ds:=[.int (a:Int),.int (b:Int)]) (λi e=>∃ l:LH,e=[.fz G.d,.fz (.str z),.fz (.tup [.int (a:Int),.int (b:Int),P.d]),.fz (.lst [.tup [.int (p1:Int),.int (M:Int)],.tup [.int (p2:Int),.int (q2:Int)]]),v4,v5,l]) (Bu (D3 rfl rfl (Vx rfl) rfl)) ⟨.un,rfl⟩ ?_ ?_)
  ·rintro i d e hi ⟨l,rfl⟩
   obtain⟨k,rfl,Y⟩:∃ k:Nat,d=.int (k:Int)/\k∈Wr G:=by
    match i,hi with
    | 0,hi=>cases hi;exact⟨_,rfl,ha⟩
    | 1,hi=>cases hi;exact⟨_,rfl,hb⟩
    | k+2,hi=>cases hi
   obtain⟨s,hs,hm⟩:=X1 Y;have j:=(AE.mp hs).1;refine⟨_,rfl,?_⟩;refine Z9 (Vs (Qc (a:=false) (b:=false) (M7 (b:=true) (Qd (WI rfl rfl gs))) λ_=>Qc (a:=false) (b:=false) (Qd (WI rfl rfl iz)) λ_=>M7 (b:=true) (q3 (y:=.int (k:Int)) rfl rfl (Yv (Z2 (Z6 rfl rfl rfl) rfl) (Rb St3.d G.steps)) (by show some (Dat.bl (decide ((0:Int)<=(k:Int))))=_;rw[AK (by lia)]) (by show some (Dat.bl (decide ((k:Int)<(G.steps.length:Int))))=_;rw[AK (by lia)]))) (Yh ?_));obtain⟨u,hu⟩:∃ u,G.wires[s.w]?=some u:=⟨_,AG (h.gb.st s (AI hs)).w⟩;have o:u.2=true:=by rw[← SQ hu];exact hm
   exact Vs (Ya (Z6 (Z6 (Z6 (Z6 rfl rfl rfl) (Z6 (Z6 (Z6 rfl rfl rfl) rfl (Sh (by rw[AM,hs];rfl))) rfl rfl) (WT hu)) rfl rfl) rfl ((l7 u.2).trans (by rw[o];rfl)))) (Yh ⟨_,rfl⟩)
  ·rintro e ⟨l,rfl⟩
   exact go_ret (om (Z6 (Z6 rfl rfl rfl) (Ze (xs:=[G.d,.str z,.int (a:Int),.int (b:Int)]) (Z2 rfl (Z2 rfl (Z2 (Z6 rfl rfl rfl) (Z2 (Z6 rfl rfl rfl) rfl)))) r) (iU P)) (Ze (xs:=[G.d,.str z,.int (a:Int),.int (b:Int),MB]) (Z2 rfl (Z2 rfl (Z2 (Z6 rfl rfl rfl) (Z2 (Z6 rfl rfl rfl) (Z2 rfl rfl))))) t)) rfl
theorem cA(c:Nat)(sm:Z Nat)(T:sm.Nodup)(J:2<=sm.length):∃ a b:Nat,Jx [.int (c:Int),.lst (Zd sm)]=.ok (.tup [.int (a:Int),.int (b:Int)])/\a∈sm/\b∈sm/\a≠b:=by
 have:=Y1 (n:=4) (p:=2) (ds:=[.int (c:Int),.lst (Zd sm)]) (g:=Mc) (R:=λd=>∃ a b:Nat,d=.tup [.int (a:Int),.int (b:Int)]/\a∈sm/\b∈sm/\a≠b) rfl ?_
 ·obtain⟨d,e,a,b,rfl,h⟩:=this
  exact⟨a,b,e,h⟩
 unfold Mc;refine Z9 (Q8 (ds:=Zd sm) (Yv (Z2 rfl rfl) rfl) ?_);have I:c % sm.length<sm.length:=FH _ (by lia);generalize j:c % sm.length=i1 at I;obtain⟨a,ha⟩:∃ a,sm[i1]?=some a:=⟨_,AG I⟩;refine Z9 (qe (ds:=Zd sm) (k:=i1) (d:=.int (a:Int)) rfl (Z2 (by rw[← j];exact Z6 rfl (Yv (Z2 rfl rfl) (Mw sm)) (Jo _ sm.length (by lia))) rfl) (by rw[Yu,AM,ha];rfl) ?_);have l:(Zd sm).eraseIdx i1=Zd (sm.eraseIdx i1):=by
  rw[Yu,Yu,CT,CT,BR,map_take,map_drop]
 rw[l];have r:(sm.eraseIdx i1).length=sm.length - 1:=by rw[List.length_eraseIdx,AF I]
 have i:c / 64 % (sm.eraseIdx i1).length<(sm.eraseIdx i1).length:=FH _ (by lia);generalize Y:c / 64 % (sm.eraseIdx i1).length=i2 at i;obtain⟨b,hb⟩:∃ b,(sm.eraseIdx i1)[i2]?=some b:=⟨_,AG i⟩;obtain⟨f,F⟩:=qz T ha (AI hb);exact go_ret (Y3 (Z2 rfl (Z2 (Z6 (y:=.int (i2:Int)) rfl (by rw[← Y];exact Z6 (Z6 rfl rfl (Tc c 64 (by lia) (by lia))) (Yv (Z2 rfl rfl) (Mw (sm.eraseIdx i1))) (Jo _ (sm.eraseIdx i1).length (by lia))) (Wd (by rw[Yu,AM,hb];rfl))) rfl)) (by simp)) ⟨a,b,rfl,AI ha,F,f⟩
theorem pV(j:Nat)(hj:j<4):∃ n:Nat,Yf (.lst [.int 1,.int 2,.int 2,.int 3]) (.int (j:Int))=some (.int (n:Int))/\1<=n/\n<=3:=by
 match j,hj with
 | 0,_=>exact⟨1,Wd (j:=0) rfl,by lia,by lia⟩
 | 1,_=>exact⟨2,Wd (j:=1) rfl,by lia,by lia⟩
 | 2,_=>exact⟨2,Wd (j:=2) rfl,by lia,by lia⟩
 | 3,_=>exact⟨3,Wd (j:=3) rfl,by lia,by lia⟩
theorem oI(ns:Z Int)(B:ns.length<=63):ZZ [.lst (ns.map .int)]=.ok (.bl true):=by
 refine Wl (Y1 rfl ?_);unfold TD;obtain⟨c0,C,_⟩:=Hd ns 0 (by lia);obtain⟨c1,e1,_⟩:=Hd ns 1 (by lia);obtain⟨c,e2,_⟩:=Hd ns 2 (by lia);have aa:∀ env:Ev,env[0]?=some (.fz (Ez ns))->Zq W4 (O (U 0) (O (dC (.int 0)) Za)) env=some (.int (c0:Int)):=λenv h0=>Ze (xs:=[Ez ns,.int ((0:Nat):Int)]) (Z2 (by unfold U;rw[h0]) rfl) C
 have ac:∀ env:Ev,env[0]?=some (.fz (Ez ns))->Zq W4 (O (U 0) (O (dC (.int 1)) Za)) env=some (.int (c1:Int)):=λenv h0=>Ze (xs:=[Ez ns,.int ((1:Nat):Int)]) (Z2 (by unfold U;rw[h0]) rfl) e1
 have ae:∀ env:Ev,env[0]?=some (.fz (Ez ns))->Zq W4 (O (U 0) (O (dC (.int 2)) Za)) env=some (.int (c:Int)):=λenv h0=>Ze (xs:=[Ez ns,.int ((2:Nat):Int)]) (Z2 (by unfold U;rw[h0]) rfl) e2
 obtain⟨n,hn,A,ao⟩:=pV (c0 % 4) (FH _ (by lia));refine Z9 (Zk (d:=.int (n:Int)) (Z6 (x:=.lst [.int 1,.int 2,.int 2,.int 3]) (Wp (Tu rfl (by simp))) (Z6 (aa _ rfl) rfl (Jo c0 4 (by lia))) hn) ?_);refine Z9 (Zk (ae _ rfl) ?_);obtain⟨D,s0,ps,rs,eg,ah,e,ai,g⟩:=ZU ns 3 n (c1 % 4) (by lia) A (by lia) (by lia);have E:=ZL e g A (by lia);have S:c / 6 % n<D.wires.length:=by rw[g.1];exact FH _ (by lia)
 obtain⟨G,H,hG,aj,xx,h⟩:=ms D E (c / 6 % n) S;refine Z9 (Zk (d:=G.d) (Ze (xs:=[D.d,.int ((c / 6 % n:Nat):Int)]) (Z2 (Ze (xs:=[Ez ns,.int ((3:Nat):Int),.int (n:Int),.int ((c1 % 4:Nat):Int)]) (Z2 rfl (Z2 rfl (Z2 rfl (Z2 (Z6 (ac _ rfl) rfl (Jo c1 4 (by lia))) rfl)))) eg) (Z2 (Z6 (Z6 rfl rfl (Tc c 6 (by lia) (by lia))) rfl (Jo _ n (by lia))) rfl)) H) ?_);have o:Gb 54 G:=by
  rw[h];exact⟨by show(D.wires.set _ _).length<=10;rw[BJ];exact e.w2,e.s1,e.s2,λs hs=>by show SB 54 (D.wires.set _ _).length s;rw[BJ];exact e.st s hs,e.mks⟩
 have I:RG G n s0 (T3 ps) (Uz ps) rs:=by rw[h];exact RG.ws ah _
 have ak:Dk G:=by rw[h];exact ai _
 have ag:∀ s∈G.steps,s.takes.length<=17:=λs hs=>BC (gD I o hs) g.2.2.2.2
 obtain⟨af,es,W⟩:=Fg (UB o) I ak A ao g.2.2.1 80 (by lia) (by lia);clear h H S E eg;have F:Wm (Kp 2 (W0 (Yd 0) (W0 (Yd 1) M9))) (dB (dO Dp (dO Yf (dO Yf (dO Yf (U 2) (dC (.int 0))) (dO Yf (U 1) (dC (.int 0)))) (dC (.int 1))) (dC (.str "made")))) (U 0) [.un,.un,.fz G.d] (Jl 0 (G.steps.map St3.d))=some (Zd (Mk G)):=by
  rw[qA,Uk (λp:St3×Nat=>Dat.tup [.int (p.2:Int),p.1.d]) (λp:St3×Nat=>Dat.int (p.2:Int)) (λp=>MA G p.1) G.steps.zipIdx λp hp=>by
   obtain⟨s,j⟩:=p;have hs:s∈G.steps:=by
    have:=List.mem_zipIdx hp;rw[this.2.2];exact HW _
   have hw:=(hG.st s hs).w;obtain⟨u,hu⟩:∃ u,G.wires[s.w]?=some u:=⟨_,AG hw⟩;refine⟨[.fz (.int (j:Int)),.fz s.d,.fz G.d],rfl,?_,rfl⟩;show _=some (MA G s);rw[SQ hu];exact Ya (Z6 (Z6 (Z6 (Z6 rfl rfl rfl) (Z6 rfl rfl rfl) (WT hu)) rfl rfl) rfl (ZK _))]
  unfold Mk;rw[Yu,EX];rfl
 refine Z9 (Zk (d:=.lst (Zd (Mk G))) (Wp (W9 (xs:=Jl 0 (G.steps.map St3.d)) (cq (Z6 rfl rfl rfl)) rfl F)) ?_);have J:=jB hG aj;have T:=lh G;have y:∀ k∈Mk G,k∈Wr G:=λk Y=>by
  obtain⟨s,h1,h2⟩:=i7 Y;exact Lc h1 h2
 generalize Mk G=sm at J T y;obtain⟨z,ez,hz,al⟩:=Nz (c / 600) G.wires hG.w2;refine Z9 (Zk (d:=.str z) (Ze (xs:=[.int ((c / 600:Nat):Int),.tup (G.wires.map Ta)]) (Z2 (Z6 rfl rfl (Tc c 600 (by lia) (by lia))) (Z2 (Z6 rfl rfl rfl) rfl)) ez) ?_);obtain⟨p1,M,am,a1,a2,a3⟩:=cA (c / 7) sm T J;obtain⟨p2,q2,v,b1,b2,b3⟩:=cA (c / 30011) sm T J;refine Z9 (Zk (d:=.lst [.tup [.int (p1:Int),.int (M:Int)],.tup [.int (p2:Int),.int (q2:Int)]]) (Wp (Tu (Z2 (Ze (xs:=[.int ((c / 7:Nat):Int),.lst (Zd sm)]) (Z2 (Z6 rfl rfl (Tc c 7 (by lia) (by lia))) rfl) am) (Z2 (Ze (xs:=[.int ((c / 30011:Nat):Int),.lst (Zd sm)]) (Z2 (Z6 rfl rfl (Tc c 30011 (by lia) (by lia))) rfl) v) rfl)) (by simp))) ?_);have f:MD G z:=⟨hG,o,hz,al,_,es⟩;refine Z9 (Vs (M7 (b:=true) (Qd (Ze (xs:=[G.d,.str z,.int ((c / 90000:Nat):Int)]) (Z2 rfl (Z2 rfl (Z2 (Z6 rfl rfl (Tc c 90000 (by lia) (by lia))) rfl))) (fJ f ag es W.le (c / 90000))))) (Yh ?_));obtain⟨m,i,l⟩:=Pc f;refine Z9 (Zk (d:=m) (Ze (xs:=[G.d,.str z,MB]) rfl i) ?_);refine Z9 (Vs (M7 (b:=true) (Qd (Ze (xs:=[G.d,.str z,m,.lst [.tup [.int (p1:Int),.int (M:Int)],.tup [.int (p2:Int),.int (q2:Int)]]]) rfl (lx f l ⟨y _ a1,y _ a2,a3⟩ ⟨y _ b1,y _ b2,b3⟩)))) (Yh ?_));refine Z9 (Sr (Ya (Z6 rfl rfl (d2 _ _))) (λ_=>go_ret rfl rfl) (λ_=>Yh ?_));obtain⟨t,s8,ps8,rs8,ap,aq,q,ar,N⟩:=ZU ns 4 1 0 (by lia) (by lia) (by lia) (by lia);have Q:=ZL q N (by lia) (by lia);refine Z9 (Zk (d:=t.d) (Ze (xs:=[Ez ns,.int ((4:Nat):Int),.int ((1:Nat):Int),.int ((0:Nat):Int)]) rfl ap) ?_);obtain⟨z8,au,aw,R⟩:=Nz c t.wires Q.w2;obtain⟨rows8,ax,_⟩:=Fg (UB q) aq (ar t.wires) (by lia) (by lia) N.2.2.1 80 (by lia) (by lia);obtain⟨X,r,_⟩:=Pc (⟨Q,q,aw,R,_,ax⟩:MD t z8);refine Z9 (Ou (d:=X) (Ze (xs:=[t.d,.str z8,MB]) (Z2 rfl (Z2 (Ze (xs:=[.int (c:Int),.tup (t.wires.map Ta)]) (Z2 rfl (Z2 (Z6 rfl rfl rfl) rfl)) au) rfl)) r) ?_);refine go_ret (Z6 (Ze (xs:=[G.d,.str z,MB]) rfl i) rfl ?_) rfl;rcases l with⟨rfl,_⟩ | ⟨a,b,P,rfl,_⟩
 ·rfl
 ·exact b' ⟨(bK a b P).2,(bK a b P).1⟩
end K75
set_option maxHeartbeats 4000000
namespace K75
open PySem PySem.Spec PyProof.Rows L2
theorem As:∀ {ws:Z Str},(∀ w∈ws,LV w)->Wf K H (ws.map Dat.str) (ws.map V.str)
 | [],_=>Vo
 | w::ws,h=>Vh (Sj (h w AW)) (As λz hz=>h z (AV _ hz))
theorem fT{h:Ff}{x:Str}{a:A2}{its:Array A1}{sl:Array (C1 A1)}(X:K.In h)(G:h.Ns mainGlobals mg)(e:PySem.W.nsIn K mainGlobals x=some (some (.ref a)))(l:K.lookup a=some ⟨.type "tuple",od,.seq its n,sl⟩)(ws:Z Str)(hv:Y0 (ws.map V.str) its.toList)(ok:∀ w∈ws,LV w)(hl:ws.length<=sizeLine):NR K mg x (.tup (ws.map .str)) :=
 ⟨.ref a,.ref a,PySem.W.mg_of X G e,rfl,λH=>Cb (by rw[AD];exact hl) (.inr ⟨_,its,n,l,rfl,rfl,by have h1:=hv.length;have h2:its.toList.length=its.size:=BD;rw[AD] at h1;lia,hv,λi hi=>by obtain⟨z,_,e⟩:=CL.mp hi;cases e⟩) (As ok)⟩
abbrev BL:Z Str:=["ValueError","all","any","bool","enumerate","int","isinstance","len","list","max","min","range","reversed","set","sorted","sum","tuple"]
abbrev RC(g i k e j:A2):Z (Str×A2):=[("Broken",g),("Crowded",i),("TooMany",k),("CalledOff",e),("Clash",j)]
open PySem.W (mg_of mg_none_of) in
theorem Zqh{p:Df}{w:D1}{h:Ff}{fa:A2}(X:K.In h)(G:h.Ns mainGlobals mg)(aa:mg "law" = some (.ref fa))
  {t0 t1 t2 t3 t4 r t u A C:Tok}
  {f:A2} {od an:C1 A2} {sl:Array (C1 A1)} {oc kV dc pm cd ct:A1}
  {Y:A2} {d5:C1 A2} {i5:Array A1} {n5:Nat} {w5:Array (C1 A1)}
  {g i k e j D:A2}
  (a0:DD K "is_name" Eg)
  (a1:DD K "names" Oy)
  (a2:DD K "is_made" Ll)
  (a3:DD K "made" SR)
  (a4:DD K "steps_of" Si)
  (a5:DD K "wire_of" Lf)
  (a6:DD K "is_rise" Lx)
  (a7:DD K "takes_of" Hy)
  (a8:DD K "fills_of" H9)
  (a9:DD K "bits" WP)
  (a10:DD K "has_one" L6)
  (a11:DD K "can" XQ)
  (a12:DD K "behind" Xh)
  (a13:DD K "steps_at" Rn)
  (a14:DD K "way" XS)
  (a15:DD K "come_to" Le)
  (a16:DD K "stands" Pp)
  (a17:DD K "is_called" Mf)
  (a18:DD K "wants" XY)
  (a19:DD K "robs" YG)
  (a20:DD K "touches_made" Je)
  (a21:DD K "rivals" Fp)
  (a22:DD K "sound" XJ)
  (a23:DD K "wants_of" Ro)
  (a24:DD K "unlike" K7)
  (a25:DD K "clashes_among" Vf)
  (a26:DD K "need_none" E7)
  (a27:DD K "free_spots" Qp)
  (a28:DD K "has_room" Hr)
  (a29:DD K "need_room" D6)
  (a30:DD K "need_two" Hu)
  (a31:DD K "waiting" Lo)
  (a32:DD K "made_steps" Qj)
  (a33:DD K "put_in" Pb)
  (a34:DD K "is_calm" Lu)
  (a35:DD K "parts" Cg)
  (a36:DD K "parted" Xn)
  (a37:DD K "_law_mix" Gw)
  (a38:DD K "_law_word" Dj)
  (a39:DD K "_law_order" Rc)
  (a40:DD K "_law_arrows" Mq)
  (a41:DD K "_law_graph" Wx)
  (a42:DD K "_law_with_made" Tk)
  (a43:DD K "_law_new_name" Uc)
  (a44:DD K "_law_pair" Sy)
  (a45:DD K "_law_good" E2)
  (a46:DD K "_law_spoilt" Mn)
  (a47:DD K "_law_fields" Tx)
  (a48:DD K "_law_refusal" J8)
  (a49:DD K "_law_refused_alike" Vz)
  (l0:PySem.W.nsIn K mainGlobals "law" = some (some (.ref f))) (l1:K.lookup f=some ⟨oc,od,.func (PySem.W.fnOf "law" "law" (Vc Dm) (Yb Dm) (Z7 Dm) .none kV dc pm an cd ct),sl⟩) (l2:PySem.W.codeIn K cd "law" = true) (l3:PySem.W.keepIn K (.ref f)=true)
  (z:∀ x∈BL,PySem.W.nsIn K mainGlobals x=some none)
  (v0:PySem.W.nsIn K mainGlobals "LETTERS" = some (some (.str "abcdefghijklmnopqrstuvwxyz" t0)))
  (v1:PySem.W.nsIn K mainGlobals "LONGEST_NAME" = some (some (.int 8 t1)))
  (v2:PySem.W.nsIn K mainGlobals "MANY_SPOTS" = some (some (.int 64 t2)))
  (v3:PySem.W.nsIn K mainGlobals "MOST_STEPS_AHEAD" = some (some (.int 22 t3)))
  (v4:PySem.W.nsIn K mainGlobals "MOST_WIRES_AHEAD" = some (some (.int 9 t4)))
  (v5:PySem.W.nsIn K mainGlobals "WORDS" = some (some (.ref Y))) (u5:K.lookup Y=some ⟨.type "tuple",d5,.seq i5 n5,w5⟩) (r5:i5.toList=[.str "given" r,.str "made" t,.str "up" u,.str "down" A,.str "start" C])
  (yC0:PySem.W.nsIn K mainGlobals "Broken" = some (some (.ref g)))
  (yC1:PySem.W.nsIn K mainGlobals "Crowded" = some (some (.ref i)))
  (yC2:PySem.W.nsIn K mainGlobals "TooMany" = some (some (.ref k)))
  (yC3:PySem.W.nsIn K mainGlobals "CalledOff" = some (some (.ref e)))
  (yC4:PySem.W.nsIn K mainGlobals "Clash" = some (some (.ref j)))
  (yD:PySem.W.nsIn K mainGlobals "CalmError" = some (some (.ref D)))
  (b0:PySem.W.specialIn K (.ref D) "__getattribute__" = some (some (.builtin "type.__getattribute__"))) (b1:PySem.W.readsIn K D (.type "type")=true) (b2:PySem.W.findCls K (.ref D) (.type "type") "__init__" = some (.val (.builtin "ValueError.__init__")))
  (o0:CD K D g "Broken.__init__" i_0)
  (e0_0:PySem.W.findIn K (.ref g) "way" = some none)
  (o1:CD K D i "Crowded.__init__" i_1)
  (e1_0:PySem.W.findIn K (.ref i) "way" = some none)
  (o2:CD K D k "TooMany.__init__" i_2)
  (o3:CD K D e "CalledOff.__init__" i_3)
  (e3_0:PySem.W.findIn K (.ref e) "way" = some none)
  (e3_1:PySem.W.findIn K (.ref e) "lost" = some none)
  (e3_2:PySem.W.findIn K (.ref e) "by" = some none)
  (o4:CD K D j "Clash.__init__" XZ)
  (e4_0:PySem.W.findIn K (.ref j) "one" = some none)
  (e4_1:PySem.W.findIn K (.ref j) "other" = some none)
  (e4_2:PySem.W.findIn K (.ref j) "wire" = some none)
  (k0:KA K (RC g i k e j) (.ref g) λc=>decide (c="Broken"))
  (k1:KA K (RC g i k e j) (.ref e) λc=>decide (c="CalledOff"))
  (k2:KA K (RC g i k e j) (.ref i) λc=>decide (c="Crowded"))
  (k3:KA K (RC g i k e j) (.ref k) λc=>decide (c="TooMany"))
  (kv:KA K (RC g i k e j) (.type "ValueError") λ_=>true)
  (s:EA K (RC g i k e j) D λ_=>true)
  (s0:EA K (RC g i k e j) g λc=>decide (c="Broken"))
  (s1:EA K (RC g i k e j) i λc=>decide (c="Crowded"))
  (f0:FA K (RC g i k e j) "by")
  (f1:FA K (RC g i k e j) "lost")
  (f2:FA K (RC g i k e j) "way") :
  ∃ fd:C5,(∀ (s:A4) (v:A1),BindsTo s fd ⟨[v],[]⟩ [("_law_script",v)])/\∀ base:Ff,K.In base->base.Ns mainGlobals mg->J3 p w K mg base Et 13 fa fd M' (QS K):=by
 cases aa.symm.trans (mg_of X G l0);have zz (x) (hx:x∈BL:=by ext):=mg_none_of X G (z x hx);have x:XA K (RC g i k e j):=.c o0.xc (.c o1.xc (.c o2.xc (.c o3.xc (.c o4.xc (.n)))));have y:YA K (RC g i k e j):=.c yC0 (.c yC1 (.c yC2 (.c yC3 (.c yC4 (.n)))));have B:LO K mg D:=⟨mg_of X G yD,b0,b1,b2⟩;have T:Txt K mg:={ b_ValueError:=zz "ValueError",b_all:=zz "all",b_any:=zz "any",b_bool:=zz "bool",b_enumerate:=zz "enumerate",b_int:=zz "int",b_isinstance:=zz "isinstance",b_len:=zz "len",b_list:=zz "list",b_max:=zz "max",b_min:=zz "min",b_range:=zz "range",b_reversed:=zz "reversed",b_set:=zz "set",b_sorted:=zz "sorted",b_sum:=zz "sum",b_tuple:=zz "tuple",c_LETTERS:=⟨.str "abcdefghijklmnopqrstuvwxyz",_,mg_of X G v0,⟨_,rfl⟩,λH=>Sj (LV.of (by ext) (by ext))⟩,c_LONGEST_NAME:=⟨.int 8,_,mg_of X G v1,⟨_,rfl⟩,λH=>Yq⟩,c_MANY_SPOTS:=⟨.int 64,_,mg_of X G v2,⟨_,rfl⟩,λH=>Yq⟩,c_MOST_STEPS_AHEAD:=⟨.int 22,_,mg_of X G v3,⟨_,rfl⟩,λH=>Yq⟩,c_MOST_WIRES_AHEAD:=⟨.int 9,_,mg_of X G v4,⟨_,rfl⟩,λH=>Yq⟩,c_WORDS:=fT X G v5 u5 NY (by rw[r5];exact(.cons ⟨_,rfl⟩ (.cons ⟨_,rfl⟩ (.cons ⟨_,rfl⟩ (.cons ⟨_,rfl⟩ (.cons ⟨_,rfl⟩ .nil)))))) (by ext) (by ext),i_0:=UC y x k0 (mg_of X G yC0),i_3:=UC y x k1 (mg_of X G yC3),i_1:=UC y x k2 (mg_of X G yC1),i_2:=UC y x k3 (mg_of X G yC2),j_ValueError:=qM y x kv,k_8:=i9 y s (mg_of X G yD),q_0:=cG y s0 (mg_of X G yC0),q_1:=cG y s1 (mg_of X G yC1),u_8:=iQ y s (mg_of X G yD),f_by:=XM y x f0,f_lost:=XM y x f1,f_way:=XM y x f2 };have d {n st} (a:DD K n st):=fZ X G a;refine⟨PySem.W.fnOf "law" "law" (Vc Dm) (Yb Dm) (Z7 Dm) .none kV dc pm an cd ct,λs v=>.of_eq rfl,λb _ _=>?_⟩;have M0:=@gq p w K mg b _ _ B o0 yC0 (mg_of X G yC0) (zz "list") e0_0;have M1:=@oV p w K mg b _ _ B o1 yC1 (mg_of X G yC1) (zz "list") e1_0;have M2:=@ei p w K mg b _ _ B o2 yC2 (mg_of X G yC2) (zz "list");have M3:=@nb p w K mg b _ _ B o3 yC3 (mg_of X G yC3) (zz "list") e3_0 e3_1 e3_2;have M4:=@kS p w K mg b _ _ B o4 yC4 (mg_of X G yC4) (zz "list") e4_0 e4_1 e4_2;have c0:=@jk ⟨p,w,K,mg,b⟩ (d a0) T;have c1:=@nv ⟨p,w,K,mg,b⟩ (d a1) T;have c2:=@lY ⟨p,w,K,mg,b⟩ (d a2) T;have c3:=@lM ⟨p,w,K,mg,b⟩ (d a3) T c2;have c4:=@jg ⟨p,w,K,mg,b⟩ (d a4) T;have S:=@qG ⟨p,w,K,mg,b⟩ (d a5) T;have c6:=@lv ⟨p,w,K,mg,b⟩ (d a6) T;have E:=@pu ⟨p,w,K,mg,b⟩ (d a7) T;have c8:=@ng ⟨p,w,K,mg,b⟩ (d a8) T;have c9:=@md ⟨p,w,K,mg,b⟩ (d a9) T;have F:=@nr ⟨p,w,K,mg,b⟩ (d a10) T;have I:=@og ⟨p,w,K,mg,b⟩ (d a11) T c9 E;have ac:=@nq ⟨p,w,K,mg,b⟩ (d a12) T M0.x M1.x S c9 F c6 c8 E;have J:=@iw ⟨p,w,K,mg,b⟩ (d a13) T I;have o:=@nS ⟨p,w,K,mg,b⟩ (d a14) T;have ae:=@pB ⟨p,w,K,mg,b⟩ (d a15) T M0 M1 ac o;have af:=@ls ⟨p,w,K,mg,b⟩ (d a16) T M2 J ae;have ag:=@kC ⟨p,w,K,mg,b⟩ (d a17) T I c4;have ah:=@mO ⟨p,w,K,mg,b⟩ (d a18) T ag;have ai:=@jX ⟨p,w,K,mg,b⟩ (d a19) T c9 E c8;have aj:=@Py ⟨p,w,K,mg,b⟩ (d a20) T c2 S;have ak:=@mm ⟨p,w,K,mg,b⟩ (d a21) T aj ai;have l:=@iC ⟨p,w,K,mg,b⟩ (d a22) T M3 af ak J o.d;have al:=@i6 ⟨p,w,K,mg,b⟩ (d a23) T ah;have am:=@mw ⟨p,w,K,mg,b⟩ (d a24) T;have ao:=@O7 ⟨p,w,K,mg,b⟩ (d a25) T c3 al am;have ap:=@km ⟨p,w,K,mg,b⟩ (d a26) T M4 l ao o.d;have M:=@nF ⟨p,w,K,mg,b⟩ (d a27) T c9 c8 F E;have aq:=@lB ⟨p,w,K,mg,b⟩ (d a28) T M;have N:=@jp ⟨p,w,K,mg,b⟩ (d a29) T c0 c1 aq;have ar:=@gO ⟨p,w,K,mg,b⟩ (d a30) T;have au:=@pS ⟨p,w,K,mg,b⟩ (d a31) T;have P:=@i4 ⟨p,w,K,mg,b⟩ (d a32) T c2 S;have q:=@i8 ⟨p,w,K,mg,b⟩ (d a33) T N ar M au P E;have aw:=@mI ⟨p,w,K,mg,b⟩ (d a34) T ap;have Q:=@jE ⟨p,w,K,mg,b⟩ (d a35) T aw q;have R:=@lJ ⟨p,w,K,mg,b⟩ (d a36) T l N P Q q;have m:=@ii ⟨p,w,K,mg,b⟩ (d a37) T;have ax:=@jz ⟨p,w,K,mg,b⟩ (d a38) T;have ay:=@Ct ⟨p,w,K,mg,b⟩ (d a39) T m;have az:=@Ac ⟨p,w,K,mg,b⟩ (d a40) T m;have aA:=@jK ⟨p,w,K,mg,b⟩ (d a41) T ay m az ax;have aB:=@Ls ⟨p,w,K,mg,b⟩ (d a42) T;have aC:=@Ob ⟨p,w,K,mg,b⟩ (d a43) T;have aD:=@p9 ⟨p,w,K,mg,b⟩ (d a44) T;have aE:=@jy ⟨p,w,K,mg,b⟩ (d a45) T Q q;have aF:=@A9 ⟨p,w,K,mg,b⟩ (d a46) T;have aG:=@A0 ⟨p,w,K,mg,b⟩ (d a47) T;have aH:=@Xy ⟨p,w,K,mg,b⟩ (d a48) T l R aG;have aI:=@Sz ⟨p,w,K,mg,b⟩ (d a49) T l aH aF;exact fS (b:=⟨p,w,K,mg,b⟩) (WW (st:=Dm) l1 l2 l3) T m aB aC R aA aD aI aE oI
theorem Zsk{l:PySem.W.OpenLaw}{q:Df}{d:DefRec}{K:Params->G8}(hn:l.most=some 63)(i:d.params.defaults=[])
  (t:∀ (w:D1) (h:Ff),YP w h->(K w.params).In h)
  (F:∀ (w:D1) (mg:J') (fa:A2) (h:Ff),(K w.params).In h->h.Ns mainGlobals mg->mg d.name=some (.ref fa) ->
   ∃ fd:C5,(∀ (s:A4) (u:A1),BindsTo s fd ⟨[u],[]⟩ [("_law_script",u)])/\∀ base:Ff,(K w.params).In base->base.Ns mainGlobals mg->J3 l.prog w (K w.params) mg base Et 13 fa fd M' (QS (K w.params))) :
  PySem.W.WalkO q loose XP YP l.row.toRowW d [] (λf vs=>PySem.call f vs) :=
 L2.Zpg (n:=63) (k:=13) (x:="_law_script") (CX:=λ_=>Et) (sp:=λw=>QS (K w.params)) hn (by decide) i ⟨rfl,by decide,by decide,rfl⟩ t F (λ_ _ a ns hl _ hS=>⟨a,ns,rfl,hS,hl,λ_=>rfl⟩) λ_ _ _ _ _ z=>z
end K75
open PySem PySem.W PyProof.Rows L2
set_option maxRecDepth 100000 in
set_option maxHeartbeats 0 in
theorem PySem.Challenge.cw_calmwires_k75_the_first_that_parts_holds : PySem.Challenge.rw_calmwires_k75_the_first_that_parts.Holds := by
 refine theTop ?_
 k_fill;refine K75.Zsk (l:=PySem.Challenge.rw_calmwires_k75_the_first_that_parts) rfl rfl (λw h Y=>PySem.W.kIn_of Y) ?F
 case F =>
  intro w mg fa h R G N;apply K75.Zqh R G N
  case a0|a1|a2|a3|a4|a5|a6|a7|a8|a9|a10|a11|a12|a13|a14|a15|a16|a17|a18|a19|a20|a21|a22|a23|a24|a25|a26|a27|a28|a29|a30|a31|a32|a33|a34|a35|a36|a37|a38|a39|a40|a41|a42|a43|a44|a45|a46|a47|a48|a49=>refine' qI ?A ?B ?C ?D;case A|B|C|D=>k_is
  case l0|l1|l2|l3|v0|v1|v2|v3|v4|v5|u5|yC0|yC1|yC2|yC3|yC4|yD|b0|b1|b2|e0_0|e1_0|e3_0|e3_1|e3_2|e4_0|e4_1|e4_2=>k_is
  case f0|f1|f2=>
   repeat' first | exact T8.n | refine' T8.c ?_ ?_
   all_goals k_is
  case z =>
   refine' List.forall_mem_cons.mpr ⟨?_,?_⟩
   k_is
   repeat' first | refine' List.forall_mem_cons.mpr ⟨?_,?_⟩ | exactλ_ h=>nomatch h
   all_goals k_is
  case r5=>rfl
  case o0|o1|o2|o3|o4=>
   refine' i0 ?A ?B ?C ?D ?E ?F ?G ?H ?I ?J ?K ?Lq_
   case A|B|C|D|E|F|G|H|I|J|K=>k_is
   case Lq_=>kernel_rfl!
  case k0|k1|k2|k3|kv=>
   repeat' first | exact T8.n | refine' T8.c ?_ ?_
   all_goals first | refine' KP (b:=some false) ?_ (by decide +kernel) | refine' KP (b:=some true) ?_ (by ext)
   all_goals kit_is
  case s|s0|s1=>
   repeat' first | exact T8.n | refine' T8.c ?_ ?_
   all_goals first | refine' KP (b:=some false) ?_ (by decide +kernel) | refine' KP (b:=some true) ?_ (by ext)
   all_goals kts_exm
