import PyProof.Rows.All
import Wide.All
import Wide.FinOn
import KE.KRevIter
import KE.KIntText
import KE.RegKIsAll
import KE.RegKTryMore
import KE.KDictOf
import KE.KFromBytes
import KE.KItem
import PySem.Challenge.RW_calmwires_k41_clashes_told
set_option Elab.async false
set_option linter.all false
namespace L2
open PySem PySem.W
noncomputable def pT (l:List Obj):BT->Nat->Option BT:=
 @List.rec Obj (λ_=>BT->Nat->Option BT) (λt _=>some t) (λo _ ih t n=>bif ((t.ins n o).get n).isSome then ih (t.ins n o) (n+1) else none) l
theorem pTo (life:Life):∀ {l:List Obj}{t t' : BT}{n:Nat},pT l t n=some t'->absHeap t' (n+l.length) life=⟨(absHeap t n life).objs++l.toArray,life⟩
 | [],t,t',n,h=>by
  cases h
  show absHeap t n life = _
  simp
  rfl
 | o::r,t,t',n,h=>by
  have h' : (bif ((t.ins n o).get n).isSome then pT r (t.ins n o) (n+1) else none)=some t':=h
  cases e:((t.ins n o).get n).isSome with
  | false=>rw[e] at h';cases h'
  | true=>
   rw[e] at h'
   have i:=pTo life (l:=r) h'
   rw[absHeap_ins e] at i
   rw[show n+(o::r).length=n+1+r.length by simp only [List.length_cons];omega,i]
   show Heap.mk ((absHeap t n life).objs.push o++r.toArray) life = _
   congr 1
   apply Array.toList_inj.mp
   simp
noncomputable def pn (s:Shared):Option SharedT:=(pT s.heap.objs.toList .nil 0).map fun t=>⟨t,s.heap.objs.size,s.heap.life,s.gens,s.drawn,s.toks,s.os⟩
theorem po {s:Shared}{S:SharedT}(h:pn s=some S):S.abs=s:=by
 obtain⟨t,e,rfl⟩:=Option.map_eq_some_iff.mp h
 have i:=pTo s.heap.life e
 obtain⟨⟨objs,life⟩,gens,drawn,toks,os⟩:=s
 show Shared.mk (absHeap t objs.size life) gens drawn toks os = _
 have j:absHeap t objs.size life=⟨objs,life⟩:=by
  rw[Nat.zero_add] at i
  have k:(absHeap BT.nil 0 life).objs=#[]:=rfl
  simp only [k] at i
  rw[show objs.size=objs.toList.length from rfl,i]
  simp
 rw[j]
noncomputable def goT (st:SharedT->Thread->Option (SharedT × Thread)) (ok:Thread->Bool) (n:Nat):SharedT->Thread->Option SharedT:=
 @Nat.rec (λ_=>SharedT->Thread->Option SharedT) (λ_ _=>none) (λ_ ih s t=>bif through t then some s else bif ok t then (st s t).bind fun z=>ih z.1 z.2 else none) n
theorem gTo {tb:String->Option Builtin}{p:Program}{w:World}{m:Nat}{a:Option Value}:∀ {n:Nat}{s s' : SharedT}{t:Thread},goT (stepT (denote tb) p w) (stepOk m a) n s t=some s'->topRun tb p w m a n s.abs t=some s'.abs
 | 0,_,_,_,h=>nomatch h
 | n+1,s,s',t,h=>by
  have h' : (bif through t then some s else bif stepOk m a t then (stepT (denote tb) p w s t).bind fun z=>goT (stepT (denote tb) p w) (stepOk m a) n z.1 z.2 else none)=some s':=h
  unfold topRun
  cases e:through t with
  | true=>rw[e] at h';cases h';rfl
  | false =>
   rw[e] at h'
   cases e2:stepOk m a t with
   | false=>rw[e2] at h';cases h'
   | true=>
    rw[e2] at h'
    obtain⟨⟨s2,t2⟩,e3,e4⟩:=Option.bind_eq_some_iff.mp h'
    rw[stepT_spec e3]
    exact gTo e4
noncomputable def aT (tb:String->Option Builtin) (p:Program) (w:World) (N:Nat) (z:Shared):Option Shared:=
 bif z.heap.isNs mainGlobals&&z.gens.size == 0 then
  (pn z).bind fun S=>(goT (stepT (denote tb) p w) (stepOk z.heap.objs.size (z.heap.nsMap mainGlobals "__annotations__")) N S (topStub p)).bind fun y =>
   bif staticsOk (importedModules p.main.body) z.heap y.abs.heap&&namesBound p y.abs.heap&&gensDone y.abs&&laidKept z.heap y.abs.heap then some y.abs else none
 else none
theorem aTo {tb:String->Option Builtin}{p:Program}{w:World}{N:Nat}{z y:Shared}(h:aT tb p w N z=some y):topFrom tb p w N z=some y:=by
 unfold aT at h
 unfold topFrom
 cases e:(z.heap.isNs mainGlobals&&z.gens.size == 0) with
 | false=>rw[e] at h;cases h
 | true=>
  rw[e] at h
  obtain⟨S,e1,h⟩:=Option.bind_eq_some_iff.mp h
  obtain⟨Y,e2,h⟩:=Option.bind_eq_some_iff.mp h
  have r:=gTo e2
  rw[po e1] at r
  dsimp only
  rw[r]
  cases e3:(staticsOk (importedModules p.main.body) z.heap Y.abs.heap&&namesBound p Y.abs.heap&&gensDone Y.abs&&laidKept z.heap Y.abs.heap) with
  | false=>rw[e3] at h;cases h
  | true=>
   rw[e3] at h
   cases h
   show (match staticsOk (importedModules p.main.body) z.heap Y.abs.heap&&namesBound p Y.abs.heap&&gensDone Y.abs&&laidKept z.heap Y.abs.heap with | true=>_ | false=>_) = _
   rw[e3]
theorem l2 {p q:Program}{loose:List PySem.Str}{Xt:Shared->Bool}{α:Type}{Yf:Shared->α}{Ya:World->α}{N:Nat}{g0:Bool}
  (h1:∀ w,((fencedOpening treeTable p w N).bind (aT treeTable p w N)).map (λs=>openSeen q loose (importedModules p.main.body) Xt g0 s)=some (openGood q loose))
  (h2:∀ w,((fencedOpening treeTable p w N).bind (aT treeTable p w N)).map Yf=some (Ya w)):LeftO p q loose Xt Yf Ya N g0:=λw=>by
 obtain⟨s,e,e2⟩:=Option.map_eq_some_iff.mp (h1 w)
 have h3:=h2 w
 rw[e] at h3
 obtain⟨z,e3,e4⟩:=Option.bind_eq_some_iff.mp e
 unfold openEnds
 rw[e3]
 show (topFrom treeTable p w N z).map _ = _
 rw[aTo e4]
 show some (openSeen q loose (importedModules p.main.body) Xt g0 s,Yf s) = _
 rw[e2,show Yf s=Ya w from Option.some.inj h3]
theorem l1 {p q:Program}{loose:List PySem.Str}{Xt:Shared->Bool}{α:Type}{Yf:Shared->α}{Ya:World->α}{N:Nat}{g0:Bool}
  (h:∀ w,((fencedOpening treeTable p w N).bind (aT treeTable p w N)).map (λs=>(openSeen q loose (importedModules p.main.body) Xt g0 s,Yf s))=some (openGood q loose,Ya w)):LeftO p q loose Xt Yf Ya N g0:=
 l2 (λw=>by
  obtain⟨s,e,e2⟩:=Option.map_eq_some_iff.mp (h w)
  rw[e]
  exact congrArg some (Prod.mk.inj e2).1) (λw=>by
  obtain⟨s,e,e2⟩:=Option.map_eq_some_iff.mp (h w)
  rw[e]
  exact congrArg some (Prod.mk.inj e2).2)
end L2
section
open PySem PySem.W PyProof.Rows PySem.W.Fast
lay_quick PySem.Challenge.pw_calmwires_k41_clashes_told
local macro_rules | `(tactic| refine $f:ident $as*) => do if (f.getId.toString.splitOn "holds_open").length > 1 then `(tactic| (refine' $f $as*; case' $(Lean.mkIdent `hl):ident => (refine' L2.l1 (fun w => ?_); unfold fencedOpening L2.aT; rw [show PySem.Challenge.rw_calmwires_k41_clashes_told.row.prog = _ from te12441188476928253591,te10156331382660048174,te11892475500146522536,te6613529449190102663,te10274390034422433532,te14289696077712309145,te14364793385576792824,te1435165496053646825,te8920871248978507458,te4187177175401517315]; kernel_rfl!))) else Lean.Macro.throwUnsupported
set_option maxRecDepth 100000 in
set_option maxHeartbeats 0 in
open_top theTop for PySem.Challenge.rw_calmwires_k41_clashes_told
end
set_option genSizeOf false
open List (any_map map_set map_take map_drop)
open PySem.W (instObj methodObj lookIn plainGet kitx_tuple kitx_dict codeRec_of)
open Nat (strongRecOn)
open PySem.Heap (ExtBut SameBut)
noncomputable section
set_option maxRecDepth 100000
abbrev C2(x:PySem.Str):Prop:=(x==("__debug__" : PySem.Str))=false
abbrev Z0(n:PySem.Env)(e:PySem.Expr)(l:List PySem.Expr):Prop:=PySem.starEach (e::l) n=(false,PySem.eval e n)::PySem.starEach l n
abbrev Z1(p:PySem.Pos)(n:PySem.Env)(l:List PySem.Expr):Prop:=(PySem.backTo p (PySem.starEach l n)).any (·.1)=false
local macro_rules|`(tactic|ext)=>`(tactic|first|exact .inl rfl|exact .inr rfl|exact .inr (.inl rfl)|exact .inr (.inr rfl)|assumption|decide +kernel|exact of_decide_eq_true (by kernel_rfl!))
abbrev A1:=PySem.Value
abbrev A2:=PySem.Addr
abbrev A4:=PySem.Shared
abbrev C0:=PySem.Around
abbrev C1:=@Option
abbrev Z:=@List
abbrev C3:=PySem.Expr
abbrev Df:=PySem.Stmt
abbrev Ff:=PySem.FuncData
abbrev Fn:=PySem.Program
abbrev Gf:=PySem.World
abbrev G2:=PySem.Heap
abbrev I3:=PySem.Scope
abbrev J1:=PySem.Env
def AA:=@PySem.wpAny_bind
def AB:=@List.length_map
def AC:=@PySem.wpAny_pure
def AD:=@PySem.Heap.get?_push_of_some
def AE:=@if_pos
def AF:=@decide_eq_false
def AG:=@List.getElem?_eq_some_iff
def AH:=@List.mem_of_getElem?
def AI:=@List.mem_singleton
def AJ:=@List.getElem?_eq_getElem
def AK:=@if_neg
def AL:=@decide_eq_true
def AM:=@List.getElem?_map
def AN:=@PySem.Heap.lt_size
def AO:=@Nat.lt_of_lt_of_le
def AQ:=@List.length_append
def AR:=@List.mem_cons_of_mem
def AT:=@Nat.le_refl
def AU:=@PySem.Heap.get?_push_size
def AV:=@List.size_toArray
def AW:=@Bool.and_eq_true
def AX:=@List.mem_cons_self
def AY:=@Ne.symm
def AZ:=@List.getElem?_set
def BA:=@List.mem_cons
def BB:=@PySem.Heap.get?_update_other
def BC:=@Nat.le_trans
def BD:=@PySem.PassesOwn.never
def BE:=@PySem.wpAny_loadPart_at
def BF:=@Array.length_toList
def BG:=@List.getElem?_append_left
def BH:=@PySem.Heap.get?_update_self
def BI:=@Option.some.inj
def BJ:=@Nat.ne_of_lt
def BK:=@of_decide_eq_true
def BM:=@List.map_append
def BN:=@List.length_take
def BO:=@PySem.wpAny_newObj_type
def BP:=@PySem.wpAny_holding
def BQ:=@PySem.wpAny_mono
def BR:=@Int.toNat_natCast
def BS:=@List.length_cons
def BU:=@decide_eq_true_eq
def BV:=@PySem.Obj.data_mapFields
def BW:=@PySem.mem_of_lookup
def BX:=@List.mem_append_right
def BY:=@PySem.wpAny_call_entry
def BZ:=@List.take_of_length_le
def CA:=@List.length_drop
def CB:=@List.mem_append
def CC:=@Array.getElem?_eq_getElem
def CF:=@List.map_cons
def CH:=@PySem.wpAny_field
def CI:=@PySem.F.slot_list_append
def CJ:=@PySem.F.type_list_append
def CK:=@List.getElem?_append_right
def CL:=@PySem.wpAny_callSpecial?_slot
def CM:=@List.length_singleton
def CN:=@Bool.false_ne_true
def CO:=@Or.inr
def CP:=@List.mem_append_left
def CQ:=@List.length_set
def CS:=@List.mem_map
def CT:=@Nat.eq_of_testBit_eq
def CU:=@PySem.wpAny_Call_Name_kw
def CV:=@Nat.zero_le
def CW:=@PySem.wpAny_setField
def CY:=@PySem.W.kia_one
def CZ:=@List.length_range
def DA:=@Nat.pow_le_pow_right
def DB:=@List.nodup_cons
def DC:=@beq_iff_eq
def DE:=@Or.inl
def DF:=@Nat.eq_zero_or_pos
def DG:=@PySem.codeAny_builtin
def DH:=@List.all_eq_true
def DI:=@Nat.lt_irrefl
def DJ:=@Nat.lt_succ_of_lt
def DK:=@PySem.Obj.isFreed_of_fields
def DL:=@Int.zero_add
def DM:=@Nat.testBit_two_pow
def DN:=@List.nodup_nil
def DO:=@PySem.wpAny_standAt
def DP:=@Nat.le_succ
def DQ:=@PySem.sizeLine_eq
def DR:=@PySem.Heap.SameBut.update
def DU:=@List.mem_range
def DV:=@beq_eq_false_iff_ne
def DW:=@Bool.eq_iff_iff
def DX:=@beq_self_eq_true
def DY:=@Nat.testBit_or
def DZ:=@Bool.and_eq_true_iff
def EB:=@congrArg
def EC:=@PyProof.Rows.callWith_type1
def ED:=@Nat.lt_succ_self
def EE:=@Nat.testBit_and
def EF:=@PySem.codeAny_mono
def EG:=@List.append_nil
def EH:=@Array.getElem?_eq_some_iff
def EI:=@PySem.F.excBase_ValueError
def EJ:=@List.getElem?_eq_none
def EK:=@List.filterMap_cons
def EL:=@Nat.lt_of_le_of_lt
def EM:=@Nat.mod_lt
def EN:=@Array.getElem?_toList
def EO:=@List.Perm.refl
def EQ:=@PyProof.Rows.slot_tuple_getitem
def ER:=@List.lookup_cons
def ES:=@PySem.wpAny_of_eq
def ET:=@List.getElem?_of_mem
def EU:=@Nat.le_of_lt
def EV:=@Nat.lt_or_ge
def EW:=@PySem.codeAny_call_builtin
def EX:=@PySem.Heap.size_push
def EY:=@PySem.F.plainAttrs_list
def EZ:=@List.length_replicate
def FB:=@List.map_map
def FC:=@List.length_eq_zero_iff
def FD:=@Nat.not_lt
def FE:=@Bool.false_eq_true
def FF:=@PySem.wpAny_passesOwn
def FG:=@PySem.wpAny_loadPart'
def FH:=@PySem.builtinLookup_eq_fast
def FI:=@PySem.F.slot_tuple_iterator_next
def FJ:=@PySem.wpAny_setState_of
def FK:=@PySem.fits_of_scanBound
def FL:=@PySem.wpAny_call
def FM:=@True.intro
def FN:=@List.drop_eq_getElem_cons
def FO:=@PySem.Around.under_plainId
def FP:=@List.mem_or_eq_of_mem_set
def FQ:=@List.any_eq_true
def FR:=@List.append_assoc
def FS:=@PySem.wpAny_typeOf
def FT:=@Option.isSome_iff_exists
def FU:=@PySem.wpAny_setEntries_of
def FV:=@List.getElem?_replicate
def FW:=@PySem.wpAny_getItem_str_slice
def FX:=@List.mem_replicate
def FY:=@List.take_succ
def FZ:=@List.idxOf_cons
def GB:=@PySem.Code.quiet_builtin
def GC:=@PySem.wpAny_pyIter_tuple
def GD:=@PySem.W.callWith_K
def GE:=@Bool.or_eq_true
def GF:=@PySem.wpAny_truthy_bool
def GG:=@PySem.Obj.cls_mapFields
def GH:=@List.take_succ_cons
def GI:=@List.mem_map_of_mem
def GJ:=@List.nodup_append
def GK:=@PySem.wpAny_seqItems
def GL:=@List.take_append_drop
def GM:=@List.count_cons_of_ne
def GN:=@List.length_filter_le
def GO:=@PySem.F.typeOf_object_class
def GP:=@List.idxOf_lt_length_of_mem
def GQ:=@List.mem_filter
def GR:=@PySem.wpAny_isInstance
def GS:=@List.getElem?_drop
def GT:=@List.getElem?_cons
def GU:=@PySem.plainId_quiet
def GV:=@PySem.wpAny_attempt
def GW:=@PySem.strLen_append
def GY:=@Bool.true_and
def GZ:=@Nat.two_pow_pos
def HA:=@PySem.typeLookup_type
def HB:=@List.pairwise_iff_getElem
def HC:=@PySem.wpAny_ite_split
def HD:=@List.any_cons
def HE:=@PySem.F.args_tuple_add_2
def HF:=@if_false
def HG:=@PySem.Txt.slice_le
def HH:=@Nat.succ.inj
def HI:=@PySem.F.slot_list_insert
def HJ:=@PySem.F.type_list_insert
def HK:=@List.find?_cons
def HL:=@List.getElem?_range
def HM:=@List.range_succ
def HN:=@List.getElem_of_mem
def HP:=@PySem.wpAny_runValue
def HQ:=@PySem.wpAny_rule
def HR:=@PySem.F.entry_tuple_add
def HS:=@List.getElem?_cons_succ
def HU:=@PyProof.Rows.F.plain_set_update_loop
def HV:=@PySem.F.slot_list_index
def HW:=@Nat.le_succ_of_le
def HX:=@PySem.wpAny_storeSet_of
def HY:=@PySem.wpAny_pyIter_slot
def HZ:=@List.getElem_mem
def IB:=@List.not_mem_nil
def IC:=@Nat.testBit_xor
def ID:=@PySem.Heap.size_update
def IE:=@PySem.wpAny_pyNext_list_item
def IF:=@PySem.F.slot_tuple_add
def IG:=@List.getElem?_take
def IH:=@Bool.or_false
def II:=@Prod.ext
def IJ:=@Nat.le_of_not_lt
def IK:=@Nat.zero_testBit
def IL:=@PySem.wpAny_pyNext_list_end
def IM:=@PySem.codeAny_handlers_test
def IN:=@List.reverse_cons
def IP:=@List.foldl_append
def IQ:=@PySem.Heap.get?_none_of_le
def IR:=@List.getElem?_set_ne
def IS:=@PySem.wpAny_execs_nil
def IT:=@PySem.post_val_or_str
def IU:=@PySem.wpAny_specialOf
def IV:=@List.mem_iff_getElem
def IW:=@Array.getElem_toList
def IX:=@Nat.min_eq_left
def IY:=@Nat.pow_lt_pow_right
def IZ:=@List.count_cons_self
def JA:=@PySem.wpAny_isSubtype_exc
def JB:=@List.length_reverse
def JC:=@PySem.wpAny_handleBy_cons
def JD:=@List.map_congr_left
def JE:=@PySem.W.cellsFrom_some
def JF:=@Nat.ne_of_gt
def JG:=@PySem.isSubtype_type
def JH:=@PySem.wpAny_fieldsOf
def JI:=@Prod.mk.inj
def JJ:=@PySem.Calls.spliced_cons
def JK:=@List.filterMap_map
def JL:=@Array.all_eq_true'
def JM:=@List.pairwise_cons
def JN:=@of_decide_eq_false
def JO:=@List.count_pos_iff
def JP:=@PySem.wpAny_handled
def JQ:=@PySem.Paired.length
def JR:=@PySem.wpAny_pyIter_list
def JS:=@PySem.Calls.spliced_nil
def JT:=@List.take_sublist
def JU:=@PySem.wpAny_pyIter_enum
def JV:=@Bool.eq_false_iff
def JW:=@Bool.not_eq_true'
def JX:=@List.pairwise_map
def JY:=@List.of_mem_zip
def JZ:=@if_true
def KB:=@Nat.zero_add
def KC:=@PySem.noFill_tuple_add
def KD:=@Option.getD_some
def KF:=@Nat.succ_le_succ
def KG:=@PySem.wpAny_askSetting
def KH:=@List.filter_cons
def KI:=@PySem.codeAny_of_tree
def KJ:=@List.length_nil
def KL:=@PySem.wpAny_updateSeq
def KM:=@PySem.wpAny_throw
def KN:=@List.map_nil
def KO:=@PySem.isSubtype_stop
def KP:=@PySem.arm_exec_Raise
def KQ:=@Nat.mul_le_mul
def KR:=@Nat.le_of_eq
def KS:=@PySem.call_meets
def KU:=@Eq.trans
def KW:=@or_false
def KY:=@PySem.seq_tuple_add
def KZ:=@PySem.Moved.eq_with
def LA:=@PySem.wpAny_newList
def LB:=@List.drop_zero
def LC:=@List.take_zero
def LD:=@PySem.W.kitx_list
def LF:=@Bool.or_true
def LG:=@PySem.concat_meets
def LH:=@PySem.seqIndex_neg
def LI:=@Nat.lt_trans
abbrev LM:=PySem.Value->PySem.Shared->Prop
abbrev KX:=PySem.W.Frag
abbrev LK:=Z (PySem.Addr×PySem.Obj)
abbrev LO:=PySem.Str->C1 PySem.Value
variable{prog P:PySem.Program}{w:PySem.World}{A:PySem.Around}{E Q:LM}{h h' base:PySem.Heap}{g:Z PySem.Value->Z PySem.Value->Z PySem.Value}{nm:C1 PySem.Str}{q name m aj:PySem.Str}{C it l dx:PySem.Addr}{bm al its us ds its':Z PySem.Value}{hdct ab:Bool}{sn ps ks loose:Z PySem.Str}{col:C1 Bool}{dd an od:C1 PySem.Addr}{k0 k1 k2 k3 k5:C1 PySem.Value}{B:Prop}{newId T:String}{mN mA mg:LO}{env:PySem.Env}{s s' s1:PySem.Shared}{e tg iter au:PySem.Expr}{vs ve ac:Array PySem.Value}{α:Type}{i t' j:Nat}{u cd aw pm ak ct oc vl vu:PySem.Value}{aa:LK}{ch fp ex:Z PySem.Addr}{pos ao p aD ay kpos:PySem.Pos}{op:PySem.CmpOp}{xs:Z α}{K:KX}{es:Z PySem.Expr}{body:Z PySem.Stmt}{lo hi:C1 Int}{kw:Z (PySem.Str×PySem.Value)}{outer:Z PySem.Env}{fd:PySem.FuncData}{sc scope:PySem.Scope}{ns:Z Int}{XP:(PySem.Str->C1 PySem.Value)->PySem.Heap->Prop}{YP:PySem.World->PySem.Heap->Prop}{cells:Z (PySem.Str×PySem.Addr)}
namespace L2
open PySem
section
variable{g:Array GenState}{d:Drawn}{t:Nat}{os:OsState}
variable{nm:Str}{N:A2}{bs aF:Z A1}{sub:Z A1}{B Bn aM aH aP:String}{aQ:Z A1}
theorem Nh(k:ExcBaseFacts Bn newId aP aQ)(a:aF.contains (.type Bn)=true)(F:ExcBaseFacts B aM aH aF)(T:OwnTail h aF bm){fI:A2}{y:Obj}{Q:Fin->A4->Prop}
   (hC:h.get? C=some (excClassObj nm q C N bs bm hdct sn sub ab col dd k0 k1 k2 k3 k5 newId)) (hn:h.Ns N mN) (hi:mN "__init__" = some (.ref fI))
   (f:h.get? fI=some y) (W:y.cls=.type "function")
   (hq:∀ h' e,h.objs.size<=e->Heap.MadeExcOf h h' e (.ref C) al ->
     wpAny (model prog w) A (call (.ref fI) (.ref e::al)) (λr s'=>r=.none/\Q (.done (.ret (.ref e))) s') E ⟨h',g,d,t,os⟩) (hrest:al.length<=sizeLine:=by size_fits) :
   wpAny (model prog w) A (Builtin.«type.__call__» ⟨.ref C::al,[]⟩) Q E ⟨h,g,d,t,os⟩:=by
 repeat (first | with_reducible refine BE hC ?_ | with_reducible refine wpAny_madeBy_exc hC ?_ | wp_step)
 refine codeAny_call_builtin_code (GB _ k.quiet) (wpAny_check_new_subU k a T hC ?_);refine codeAny_exc_new_subU k a F T hC ?_ hrest;show wpAny _ _ _ _ _ _;have hC₁:=AD { cls:=.ref C,data:=.fields #[.ref h.objs.size,.none,.none,.none,.bool false,.none] }
   (AD { cls:=.type "tuple",data:=.seq al.toArray } hC)
 have hfI₁:=AD { cls:=.ref C,data:=.fields #[.ref h.objs.size,.none,.none,.none,.bool false,.none] }
   (AD { cls:=.type "tuple",data:=.seq al.toArray } f)
 have hn₁:((h.push { cls:=.type "tuple",data:=.seq al.toArray }).push { cls:=.ref C,data:=.fields #[.ref h.objs.size,.none,.none,.none,.bool false,.none] }).Ns N mN :=
   let ⟨o,es,ep,e,r⟩:=hn;⟨o,es,ep,AD _ (AD _ e),r⟩
 have c:((h.push { cls:=.type "tuple",data:=.seq al.toArray }).push
     { cls:=.ref C,data:=.fields #[.ref h.objs.size,.none,.none,.none,.bool false,.none] }).get? (h.objs.size+1)=some
     { cls:=.ref C,data:=.fields #[.ref h.objs.size,.none,.none,.none,.bool false,.none] }:=by heap_get
 have i:(Value.ref C::bm).contains (.ref C)=true:=by simp
 have T₁:=T.keeps (h':=(h.push { cls:=.type "tuple",data:=.seq al.toArray }).push { cls:=.ref C,data:=.fields #[.ref h.objs.size,.none,.none,.none,.bool false,.none] })
   λb o e=>AD _ (AD _ e)
 unfold isInstance;repeat (first | with_reducible refine BE c ?_ | (with_reducible refine JA hC₁ ?_;rw[i]) | wp_step)
 show wpAny _ _ (typeLookup (.ref C) _) _ _ _;refine wpAny_typeLookup_tail hC₁ hn₁ T₁ F.mroIs F.init.lookup ?_;rw[hi];refine BP (AA ?_);unfold bindSpecial;refine AA (FS (T:="function") ⟨_,hfI₁,W⟩ ?_);rw[AE (by decide)];refine AC (AA (BQ (hq _ (h.objs.size+1) (DP _) ⟨λb o hb=>AD _ (AD _ hb),IQ (DP _),h.objs.size,c,IQ (AT _),?_⟩) (λr s' hr=>?_) λ_ _ x=>x))
 · exact AD _ (Heap.get?_push_at rfl rfl)
 · obtain⟨rfl,j⟩:=hr
   wp_walk
   exact j
theorem X0(k:ExcBaseFacts Bn newId aP aQ)(a:aF.contains (.type Bn)=true)(F:ExcBaseFacts B aM aH aF)(T:OwnTail h aF bm){fI:A2}{y:Obj} 
  (hC:h.get? C=some (excClassObj nm q C N bs bm hdct sn sub ab col dd k0 k1 k2 k3 k5 newId)) (hn:h.Ns N mN) (hi:mN "__init__" = some (.ref fI))
  (f:h.get? fI=some y) (W:y.cls=.type "function")
  (hq:∀ h' e,h.objs.size<=e->Heap.MadeExcOf h h' e (.ref C) al ->
   wpAny (model prog w) (A.under (.builtin "type.__call__" ⟨.ref C::al,[]⟩)) (call (.ref fI) (.ref e::al)) (λr s'=>r=.none/\Q (.ref e) s') E ⟨h',g,d,t,os⟩) (hrest:al.length<=sizeLine:=by size_fits) :
  wpAny (model prog w) A (call (.ref C) al) Q E ⟨h,g,d,t,os⟩:=by
 have f1:=tc_lookup;have f2:=tc_bind (.ref C);have hT:(⟨h,g,d,t,os⟩:A4).TypeIs (.ref C) "type" := ⟨_,hC,rfl⟩;refine FL (KI ?_);show wpAny _ _ (callAny (.ref C) _) _ _ _;repeat (any_goals (first | assumption | with_reducible refine BE hC ?_ | wp_step))
 refine⟨rfl,?_⟩;refine codeAny_call_builtin_at (GB _ (by ext)) entry_typeCall (wpAny_check_type_call_sub hC (Nh (hrest:=hrest) k a F T hC hn hi f W λh' e i hm=>?_));exact hq h' e i hm
end
section
variable{M:Model}
variable{nm:Str}{N:A2}{bs:Z A1}{sub:Z A1}
theorem N8{x:Sem A1}{Q:Flow->A4->Prop}(l:bm.contains (.type "BaseException")=true)(hh:A.handled=none)
   (h:wpAny M A x (λv s₁=>∃ e a dct,v=.ref e/\s₁.heap.get? C=some (excClassObj nm q C N bs bm hdct sn sub ab col dd k0 k1 k2 k3 k5 newId) /\
     s₁.heap.get? e=some { cls:=.ref C,dict:=dct,data:=.fields #[a,.none,.none,.none,.bool false,.none] }/\E (.ref e) s₁) E s) :
   wpAny M A (raiseStmt env (some x) none) Q E s:=by
 have y:(Value.ref C::bm).contains (.type "BaseException")=true:=by rw[List.contains_cons,l,LF]
 unfold raiseStmt;refine AA (BQ h (λv s₁ h₁=>?_) λ_ _ x=>x);obtain⟨e,a,dct,rfl,hC,he,n⟩:=h₁;obtain⟨hp,g,d,tk,os⟩:=s₁;repeat (first | with_reducible refine BE he ?_ | with_reducible refine BE hC ?_ | (with_reducible refine JA hC ?_;rw[y]) | wp_step)
 exact wpAny_raiseNew_none hh n
end
theorem Mn:entryFor table "proto.unchain" = some Builtin.«proto.unchain» := entryFor_of_fast (by kernel_rfl)
def ChX(h:G2)(e:A2):Prop:=∃ oe ve,h.get? e=some oe/\oe.data=.fields ve/\(ve[2]?=some .none\/∃ e2 o2 f,ve[2]?=some (.ref e2)/\h.get? e2=some o2/\o2.data=.fields f/\f[2]?=some .none)
theorem ChX.at{e:A2}(c:ChX h e)(k:∀ a o v x,h.get? a=some o->o.data=.fields v->v[2]?=some x->h'.get? a=some o):ChX h' e:=by
 obtain⟨o,v,a1,a2,a3⟩:=c;refine⟨o,v,?_,a2,a3.imp id λzz=>by obtain⟨e2,o2,f,b1,b2,X,b4⟩:=zz;exact⟨e2,o2,f,b1,k _ _ _ _ b2 X b4,X,b4⟩⟩;rcases a3 with z | ⟨_,_,_,z,_⟩
 .exact k _ _ _ _ a1 a2 z
 .exact k _ _ _ _ a1 a2 z
theorem K1{e h:A2}{o:Obj}(ho:s.heap.get? h=some o)(hd:o.data=.fields vs)(hc:vs[2]?=some .none)(hq:Q .none s) :
  wpAny (model prog w) A (runValue (.builtin "proto.unchain" ⟨[.ref e,.ref h,.ref h,.bool false],[]⟩)) Q E s:=by
 refine HP (DG Mn ?_);unfold Builtin.«proto.unchain»;refine AA (CH ho hd hc ?_);exact AC hq
theorem Ax{e h:A2}{oe oh:Obj}{vh:Array A1}{Q:α->A4->Prop}(hh:A.handled=some (.ref h))(ne:h≠e)(he:s.heap.get? e=some oe)(p:oe.data=.fields ve)(h2:2<ve.size)
  (ho:s.heap.get? h=some oh) (c:oh.data=.fields vh) (hc:vh[2]?=some .none) (n:E (.ref e) { s with heap:=s.heap.update e (Obj.mapFields (·.setIfInBounds 2 (.ref h))) }):wpAny (model prog w) A (raiseNew (.ref e):Sem α) Q E s:=by
 unfold raiseNew;refine AA (JP ?_);rw[hh];have ag:(Value.ref h != Value.ref e)=true:=by
  simp only[bne_iff_ne,ne_eq];intro z;cases z;exact ne rfl
 dsimp only;rw[AE ag];refine AA (BP (K1 ho c hc ?_));show wpAny _ _ (setField (.ref e) 2 (.ref h) >>= _) _ _ _;refine AA (BQ (CW (x:=.ref h) he p h2 (Q:=λ_ s'=>s'={ s with heap:=s.heap.update e (Obj.mapFields (·.setIfInBounds 2 (.ref h))) }) rfl) (λ_ s' z=>?_) λ_ _ x=>x);rw[z];exact KM n
theorem e7{e h:A2}(hc:ChX s.heap h)(hn:∀ o v e2 o2 f,s.heap.get? h=some o->o.data=.fields v->v[2]?=some (.ref e2)->s.heap.get? e2=some o2->o2.data=.fields f->e2≠e)(hq:Q .none s) :
  wpAny (model prog w) A (runValue (.builtin "proto.unchain" ⟨[.ref e,.ref h,.ref h,.bool false],[]⟩)) Q E s:=by
 obtain⟨oe,ve,h1,h2,h3 | ⟨e2,o2,f,h3,h4,h5,h6⟩⟩:=hc
 .exact K1 h1 h2 h3 hq
 have n1:(Value.ref e2==Value.ref e)=false:=by
  have:=hn oe ve e2 o2 f h1 h2 h3 h4 h5;simpa using this
 have n2:(Value.ref e2==Value.ref h)=false:=by
  have:e2≠h:=λz=>by
   subst z;rw[h1] at h4;cases h4;rw[h2] at h5;cases h5;rw[h3] at h6;cases h6
  simpa using this
 refine HP (DG Mn ?_);unfold Builtin.«proto.unchain»;refine AA (CH h1 h2 h3 ?_);rw[AK (show ¬ ((Value.ref e2==Value.none)=true) from by simp),AK (by rw[n1];simp),AK (by rw[n2];simp)];refine AA (AC ?_);refine AC ⟨GU (by ext) _,DG Mn ?_⟩;unfold Builtin.«proto.unchain»;refine AA (CH h4 h5 h6 ?_);exact AC hq
theorem Z0o{e h:A2}{oe:Obj}{Q:α->A4->Prop}{h0:G2}(hh:A.handled=some (.ref h))(he:s.heap.get? e=some oe)(p:oe.data=.fields ve)(h2:2<ve.size)(hc:ChX h0 h)(Y:∀ a o v x,h0.get? a=some o->o.data=.fields v->v[2]?=some x->s.heap.get? a=some o/\a≠e)
  (n:E (.ref e) { s with heap:=s.heap.update e (Obj.mapFields (·.setIfInBounds 2 (.ref h))) }):wpAny (model prog w) A (raiseNew (.ref e):Sem α) Q E s:=by
 have G:ChX s.heap h:=hc.at λa o v x a1 a2 a3=>(Y a o v x a1 a2 a3).1
 obtain⟨o',D,a1,a2,a3⟩:=hc;obtain⟨b1,ne⟩:s.heap.get? h=some o'/\h≠e:=by
  rcases a3 with z | ⟨_,_,_,z,_⟩
  .exact Y _ _ _ _ a1 a2 z
  .exact Y _ _ _ _ a1 a2 z
 unfold raiseNew;refine AA (JP ?_);rw[hh];have ag:(Value.ref h != Value.ref e)=true:=by
  simp only[bne_iff_ne,ne_eq];intro z;cases z;exact ne rfl
 dsimp only;rw[AE ag];refine AA (BP (e7 G (λo v e2 o2 f c1 c2 m c4 F=>?_) ?_))
 .rw[b1] at c1;cases c1
  rw[a2] at c2;cases c2;rcases a3 with a3 | ⟨e3,o3,I,b,c,d,g⟩
  .rw[m] at a3;cases a3
  .rw[m] at b;cases b
   exact(Y _ _ _ _ c d g).2
 show wpAny _ _ (setField (.ref e) 2 (.ref h) >>= _) _ _ _;refine AA (BQ (CW (x:=.ref h) he p h2 (Q:=λ_ s'=>s'={ s with heap:=s.heap.update e (Obj.mapFields (·.setIfInBounds 2 (.ref h))) }) rfl) (λ_ s' z=>?_) λ_ _ x=>x);rw[z];exact KM n
theorem Xb{h:A2}{Q:C1 A1->A4->Prop}(hh:A.handled=some (.ref h))(S:ChX s.heap h)
   (c:s.heap.IsListIter it l i) (hl:s.heap.IsList l ac) (hx:ac[i]?=none)
   (j:∀ h',ExtBut it s.heap h'->Q none { s with heap:=h' }):wpAny (model prog w) A (pyNext (.ref it)) Q E s:=by
 obtain⟨o,ho,hc,hd⟩:=id c;obtain⟨y,g,_,p,M⟩:=hl;unfold pyNext;refine AA (GV (CL (name:=Str.ofString "__next__") c.typeIs slot_listiter_next
   (BY slot_listiter_next c.typeIs entry_listiter_next ?_ (args_listiter_next _))))
 show wpAny _ _ (field (.ref it) 0 >>= _) _ _ s;refine AA (CH ho hd (x:=.ref l) rfl ?_);show wpAny _ _ (if(Value.ref l==Value.none)=true then _ else _) _ _ s;rw[AK (show ¬ ((Value.ref l==Value.none)=true) from CN)];show wpAny _ _ (field (.ref it) 1 >>= _) _ _ s;refine AA (CH ho hd (x:=.int i 0) rfl ?_);show wpAny _ _ (seqItems? (.ref l) >>= _) _ _ s;refine AA (GK g M ?_);simp only[BR,hx];refine AA (HQ (AA (CW ho hd (by simp) ?_)));show wpAny _ _ (newExc (.type "StopIteration") [] >>= _) _ _ _;refine AA ?_;simp only[newExc,newTuple];refine AA (BO ?_ (by size_fits));refine AA (m:=firstArgMember _ _) (ES (a:=Value.none) (by first | rfl | (simp only[firstArgMember];rfl)) ?_);refine BO ?_ (by size_fits);have sz:∀ {f:Obj->Obj},(s.heap.update it f).objs.size=s.heap.objs.size:=λ{f}=>by simp[Heap.update]
 have aj:∀ {f:Obj->Obj} {o1:Obj} {b:A2} {ob:Obj},s.heap.get? b=some ob->b≠((s.heap.update it f).push o1).objs.size:=λ{f o1 b ob} q z=>by
   have:=AN q;rw[z,EX,sz] at this;exact absurd this (FD.mpr (DP _))
 refine Z0o (A:=A.in1) (h:=h) (h0:=s.heap) hh (AU _ rfl) rfl (by simp;lia) S (λa o' v x a1 a2 a3=>⟨?_,aj a1⟩) ?_
 · have ag:it≠a:=λz=>by
     subst z;rw[ho] at a1;cases a1;rw[hd] at a2;cases a2;simp at a3
   exact AD _ (AD _ ((BB _ _ ag).trans a1))
 refine AA (GR (T:="StopIteration") (b:=true) ⟨_,BH _ (AU _ rfl) rfl,rfl⟩ KO ?_);refine AC (j _ λb ob hb eo=>?_);exact(BB _ _ (aj eo).symm).trans (AD _ (AD _ ((BB _ _ (AY hb)).trans eo)))
theorem lF{nm:Str}{N h:A2}{bs:Z A1}{sub:Z A1}{x j:Sem A1}{Q:Flow->A4->Prop}(l:bm.contains (.type "BaseException")=true)(hh:A.handled=some (.ref h))
   (hx:wpAny (model prog w) A x (λv s₁=>∃ e a dct,v=.ref e/\s₁.heap.get? C=some (excClassObj nm q C N bs bm hdct sn sub ab col dd k0 k1 k2 k3 k5 newId) /\
     s₁.heap.get? e=some { cls:=.ref C,dict:=dct,data:=.fields #[a,.none,.none,.none,.bool false,.none] }/\h≠e/\(∃ oh vh,s₁.heap.get? h=some oh/\oh.data=.fields vh/\vh[2]?=some .none) /\
     wpAny (model prog w) A j (λD s₂=>D=.none/\s₂.heap=s₁.heap/\∀ h',(∀ b,b≠e->h'.get? b=s₁.heap.get? b)->h'.get? e=some { cls:=.ref C,dict:=dct,data:=.fields #[a,.none,.ref h,.none,.bool true,.none] }->h'.objs.size=s₁.heap.objs.size->E (.ref e) { s₂ with heap:=h' }) E s₁) E s) :
   wpAny (model prog w) A (raiseStmt env (some x) (some j)) Q E s:=by
 have y:(Value.ref C::bm).contains (.type "BaseException")=true:=by rw[List.contains_cons,l,LF]
 unfold raiseStmt;refine AA (BQ hx (λv s₁ h₁=>?_) λ_ _ x=>x);obtain⟨e,a,dct,rfl,hC,he,ag,⟨oh,vh,ho,c,hc⟩,hz⟩:=h₁;refine AA (BP (BQ hz (λD s₂ h₂=>?_) λ_ _ x=>x));obtain⟨rfl,m,n⟩:=h₂;obtain⟨hp,g,d,tk,os⟩:=s₂;have i:hp=s₁.heap:=m;subst i;repeat (first | with_reducible refine BE he ?_ | with_reducible refine BE hC ?_ | (with_reducible refine JA hC ?_;rw[y]) | wp_step)
 have k:e≠C:=by
   intro z;subst z;rw[he] at hC;injection hC with hC
   have:=EB Obj.data hC;simp[excClassObj] at this
 have o:((s₁.heap.update e (Obj.mapFields λx=>x.setIfInBounds 3 Value.none)).update e (Obj.mapFields λx=>x.setIfInBounds 4 (Value.bool true))).get? C=some (excClassObj nm q C N bs bm hdct sn sub ab col dd k0 k1 k2 k3 k5 newId):=by
   rw[BB _ _ k,BB _ _ k];exact hC
 have f:((s₁.heap.update e (Obj.mapFields λx=>x.setIfInBounds 3 Value.none)).update e (Obj.mapFields λx=>x.setIfInBounds 4 (Value.bool true))).get? e=some { cls:=.ref C,dict:=dct,data:=.fields #[a,.none,.none,.none,.bool true,.none] } :=
   BH _ (BH _ he rfl) rfl
 have p:((s₁.heap.update e (Obj.mapFields λx=>x.setIfInBounds 3 Value.none)).update e (Obj.mapFields λx=>x.setIfInBounds 4 (Value.bool true))).get? h=some oh:=by
   rw[BB _ _ (AY ag),BB _ _ (AY ag)];exact ho
 repeat (first | with_reducible refine BE o ?_ | with_reducible refine BE f ?_ | wp_step)
 refine Ax hh ag f rfl (by show 2<6;decide) p c hc ?_;refine n _ (λb hb=>?_) (BH _ f rfl) ?_
 · show(((s₁.heap.update e _).update e _).update e _).get? b=_
   rw[BB _ _ (AY hb),BB _ _ (AY hb),BB _ _ (AY hb)]
 · show(((s₁.heap.update e _).update e _).update e _).objs.size=_
   simp[Heap.update]
end L2
variable{al:Z PySem.Expr}{tk:Nat}{q:PySem.Program}{ap:PySem.Scope}
namespace L2
open PySem PySem.Spec PyProof.Rows
abbrev Vz:=Sum Int Str
def Ag:Vz->A1->Bool
 | .inl k,v=>Value.isInt k v
 | .inr x,v=>Value.isStrOf x v
def l9(w:Gf):Vz->Int
 | .inl k=>hashInt k
 | .inr x=>hashStr w x
theorem V1:∀ {k:Vz} {v:A1},Ag k v=true->(∃ i t,k=Sum.inl i/\v=Value.int i t)\/(∃ x t,k=Sum.inr x/\v=Value.str x t)
 | .inl i,v,h=>by
  obtain⟨t,e⟩:=Value.isInt_shape (k:=i) (v:=v) h;exact .inl ⟨i,t,rfl,e⟩
 | .inr x,v,h=>by
  obtain⟨t,e⟩:=Value.isStrOf_shape (x:=x) (v:=v) h;exact .inr ⟨x,t,rfl,e⟩
theorem lM(i:Int)(t:Tok):Ag (.inl i) (.int i t)=true:=by simp[Ag,Value.isInt]
theorem jA(x:Str)(t:Tok):Ag (.inr x) (.str x t)=true:=by simp[Ag,Value.isStrOf]
theorem pE(a b:Int):decide ((Sum.inl a:Vz)=Sum.inl b)=(a==b):=by
 by_cases e:a=b
 .subst e;simp
 .have h:¬ (Sum.inl a:Vz)=Sum.inl b:=λq=>e (Sum.inl.inj q)
  rw[AF h];exact(DV.mpr e).symm
theorem nu(a b:Str):decide ((Sum.inr a:Vz)=Sum.inr b)=decide (a=b):=by
 by_cases e:a=b
 .subst e;simp
 .have h:¬ (Sum.inr a:Vz)=Sum.inr b:=λq=>e (Sum.inr.inj q)
  rw[AF h,AF e]
theorem gj(a:Int)(b:Str):decide ((Sum.inl a:Vz)=Sum.inr b)=false:=AF (λq=>nomatch q)
theorem i5(a:Str)(b:Int):decide ((Sum.inr a:Vz)=Sum.inl b)=false:=AF (λq=>nomatch q)
def Vp(prog:Fn)(w:Gf):PySem.KeyKind prog w Vz where
 is:=Ag
 hash:=l9 w
 inj:=λv a b ha hb=>by
  rcases V1 ha with⟨i,t,rfl,rfl⟩ | ⟨x,t,rfl,rfl⟩
  .rcases V1 hb with⟨j,u,rfl,e⟩ | ⟨y,u,rfl,e⟩
   .injection e with e1 _;rw[e1]
   .exact nomatch e
  .rcases V1 hb with⟨j,u,rfl,e⟩ | ⟨y,u,rfl,e⟩
   .exact nomatch e
   .injection e with e1 _;rw[e1]
 byValue:=λk v h=>by
  rcases V1 h with⟨i,t,rfl,rfl⟩ | ⟨x,t,rfl,rfl⟩<;>rfl
 pyHash:=λhv h=>by
  rcases V1 hv with⟨i,t,rfl,rfl⟩ | ⟨x,t,rfl,rfl⟩
  .exact wpAny_pyHash_int h
  .exact wpAny_pyHash_str h
 eqBool:=λhu hv h=>by
  rcases V1 hu with⟨i,t,rfl,rfl⟩ | ⟨x,t,rfl,rfl⟩
  .rcases V1 hv with⟨j,u,rfl,rfl⟩ | ⟨y,u,rfl,rfl⟩
   .rw[pE] at h;exact wpAny_eqBool_int h
   .rw[gj] at h;exact SeqAt.EqAt.int_str i t y u _ _ _ _ h
  .rcases V1 hv with⟨j,u,rfl,rfl⟩ | ⟨y,u,rfl,rfl⟩
   .rw[i5] at h;exact SeqAt.EqAt.str_int x t j u _ _ _ _ h
   .rw[nu] at h;exact wpAny_eqBool_str h
 «strs» :=λk x t v h=>by
  rcases V1 h with⟨i,u,rfl,e⟩ | ⟨y,u,rfl,e⟩
  .exact nomatch e
  .injection e with e1 _
   subst e1;cases v<;>rfl
theorem eP(prog:Fn)(w:Gf)(i:Int)(t:Tok):(Vp prog w).is (.inl i) (.int i t)=true:=lM i t
theorem jD(prog:Fn)(w:Gf)(x:Str)(t:Tok):(Vp prog w).is (.inr x) (.str x t)=true:=jA x t
variable{Q:Unit->A4->Prop}
inductive V where
 | non | bl (b:Bool) | int (i:Int) | str (x:Str) | byt (b:Array UInt8) | flt (b:UInt64) | ref (a:Addr) | ty (n:String)
 deriving DecidableEq
def Yu:V->A1->Prop
 | .non,u=>u=Value.none
 | .bl b,u=>u=Value.bool b
 | .int i,u=>∃ t,u=Value.int i t
 | .str x,u=>∃ t,u=Value.str x t
 | .byt b,u=>∃ t,u=Value.bytes b t
 | .flt b,u=>∃ t,u=Value.float b t
 | .ref a,u=>u=Value.ref a
 | .ty n,u=>u=Value.type n
abbrev Y8:Z V->Z A1->Prop:=Paired Yu
theorem Y8.length{xs:Z V}{us:Z A1}(r:Y8 xs us):xs.length=us.length:=JQ r
theorem Y8.get:∀ {xs:Z V} {us:Z A1} {i:Nat} {x:V},Y8 xs us->xs[i]?=some x->∃ u,us[i]?=some u/\Yu x u
 | _,_,_,_,.nil,e=>by simp at e
 | _,_,0,_,.cons r _,e=>by simp at e;subst e;exact⟨_,rfl,r⟩
 | _,_,i+1,x,.cons _ t,e=>by
  obtain⟨u,h1,h2⟩:=Y8.get (i:=i) (x:=x) t (by simpa using e);exact⟨u,by simpa using h1,h2⟩
theorem Y8.set{x:V}(r:Yu x u):∀ {xs:Z V} {us:Z A1} (i:Nat),Y8 xs us->Y8 (xs.set i x) (us.set i u)
 | _,_,_,.nil=>.nil
 | _,_,0,.cons _ t=>.cons r t
 | _,_,i+1,.cons q t=>.cons q (Y8.set r i t)
theorem Y8.append:∀ {xs ys:Z V} {us ws:Z A1},Y8 xs us->Y8 ys ws->Y8 (xs++ys) (us++ws)
 | _,_,_,_,.nil,s=>s
 | _,_,_,_,.cons r t,s=>.cons r (Y8.append t s)
theorem Y8.take:∀ {xs:Z V} {us:Z A1} (n:Nat),Y8 xs us->Y8 (xs.take n) (us.take n)
 | _,_,0,_=>.nil
 | _,_,_+1,.nil=>.nil
 | _,_,n+1,.cons r t=>.cons r (Y8.take n t)
theorem Y8.drop:∀ {xs:Z V} {us:Z A1} (n:Nat),Y8 xs us->Y8 (xs.drop n) (us.drop n)
 | _,_,0,r=>r
 | _,_,_+1,.nil=>.nil
 | _,_,n+1,.cons _ t=>Y8.drop n t
def Na:C1 V->C1 A1->Prop
 | some v,some u=>Yu v u
 | none,none=>True
 | _,_=>False
def KV{κ:Type}:Z (κ×V)->Z (κ×A1)->Prop:=Paired λ(p:κ×V) (q:κ×A1)=>p.1=q.1/\Yu p.2 q.2
def kV:Vz->V
 | .inl i=>.int i
 | .inr x=>.str x
inductive HO where
 | lst (xs:List V)
 | tup (xs:List V)
 | dK (kvs:List (Vz×V)) | dT (kvs:List (List Vz×V))
 | set (S:Int->Bool) (n:Nat)
 | ins (C dx:Addr) (fs:List (Str×V))
 | own (x:Addr)
 | xd (fs:List (Str×V))
 | met (f x:Addr)
 | rng (lo hi:Int)
 | frz (o:Obj) (u:HO)
 | tbl (ps:Array Value)
 | ext (φ:Heap->Prop)
abbrev Hp:=A2->C1 HO
def W7(H:Hp)(a:A2)(o:HO):Hp:=λb=>if b=a then some o else H b
theorem Zn{H:Hp}{a:A2}{o:HO}:W7 H a o a=some o:=by unfold W7;rw[AE rfl]
theorem Zf{H:Hp}{a b:A2}{o:HO}(h:b≠a):W7 H a o b=H b:=by unfold W7;rw[AK h]
theorem ZN{H:Hp}{a b:A2}{o u:HO}(h:H a=some o)(h':H b=some u)(d:o≠u):a≠b:=by
 intro e;subst e;rw[h] at h';exact d (BI h')
variable{H H':Hp}{l:C3}
theorem Yg{a b:A2}{o:HO}(h:H a=some o)(h':H b=none):a≠b:=by
 intro e;subst e;rw[h] at h';cases h'
section
variable(P:Fn)(w:Gf)
def Yr(H:Hp)(h:G2)(a:A2):HO->Prop
 | .lst xs=>xs.length<=sizeLine/\∃ (its:Z A1) (n:Nat),Y8 xs its/\h.get? a=some { cls:=.type "list",data:=.seq its.toArray n }
 | .tup xs=>xs.length<=sizeLine/\∃ its:Z A1,Y8 xs its/\IsTup h a its.toArray
 | .dK kvs=>kvs.length<=sizeLine/\(a==sysModules)=false/\∃ vs,KV kvs vs/\h.DictOf (Vp P w) a vs
 | .dT kvs=>kvs.length<=sizeLine/\(a==sysModules)=false/\∃ xs:Z (Z Vz×A2×A1),
  Paired (λ(p:Z Vz×V) (q:Z Vz×A2×A1)=>p.1=q.1/\H q.2.1=some (.tup (p.1.map kV))/\Yu p.2 q.2.2) kvs xs /\
  ∃ o es ep,h.get? a=some o/\o.ExactDict/\o.data=.dict es ep/\es.toList=xs.map (entryOfKey (tupleKind (Vp P w)))/\(xs.map (·.1)).Nodup
 | .set S n=>h.SetOf (intKind P w) a S n
 | .ins C dx fs=>H dx=some (.own a)/\fs.length<=1000/\dx≠a/\h.get? a=some (instObj C dx) /\
  ∃ mA,h.Ns1 dx mA/\(∀ f,Na (fs.lookup f) (mA f))/\PySem.Within mA (fs.map (·.1))
 | .own _=>∃ o,h.get? a=some o
 | .xd fs=>∃ mA,h.Ns1 a mA/\∀ f,Na (fs.lookup f) (mA f)
 | .rng lo hi=>∃ t u v,h.get? a=some { cls:=.type "range",data:=.fields #[.int lo t,.int hi u,.int 1 v] }
 | .frz o u=>h.get? a=some o/\Yr H h a u
 | .tbl ps=>h.get? a=some { cls:=.none,data:=.fields ps }
 | .met f x=>h.get? a=some (methodObj (.ref f) (.ref x))
 | .ext φ=>φ h/\(∃ o,h.get? a=some o)/\∀ h1 h2:G2,φ h1->(∀ o,h1.get? a=some o->h2.get? a=some o)->φ h2
def Mp(H:Hp)(h:G2):Prop:=∀ a o,H a=some o->Yr P w H h a o
end
section
variable{a:A2}{o:HO}
theorem Yr.lt(x:Yr P w H h a o):a<h.objs.size:=by
 cases o with
 | lst xs=>obtain⟨_,_,_,_,e⟩:=x;exact AN e
 | tup xs=>obtain⟨_,_,_,p⟩:=x;exact p.lt
 | dK kvs=>obtain⟨_,_,_,_,o,_,_,e,_⟩:=x;exact AN e
 | dT kvs=>obtain⟨_,_,_,_,o,_,_,e,_⟩:=x;exact AN e
 | set S n=>obtain⟨o,_,_,_,e,_⟩:=x;exact AN e
 | ins C dx fs=>obtain⟨_,_,_,e,_⟩:=x;exact AN e
 | own y=>obtain⟨_,e⟩:=x;exact AN e
 | xd fs=>obtain⟨_,⟨_,_,_,e,_⟩,_⟩:=x;exact AN e
 | rng lo hi=>obtain⟨_,_,_,e⟩:=x;exact AN e
 | frz ob u=>obtain⟨e,_⟩:=x;exact AN e
 | tbl ps=>exact AN (show h.get? a=some _ from x)
 | met f y=>exact AN (show h.get? a=some _ from x)
 | ext φ=>obtain⟨_,⟨_,e⟩,_⟩:=x;exact AN e
theorem Paired.mapP{β:Type}{F G:α->β->Prop}:∀ {l₁:Z α} {l₂:Z β},Paired F l₁ l₂->(∀ a b,F a b->G a b)->Paired G l₁ l₂
 | _,_,.nil,_=>.nil
 | _,_,.cons r t,f=>.cons (f _ _ r) (Paired.mapP t f)
theorem Yr.stay(x:Yr P w H h a o)(k:∀ b u,(b=a\/H b=some (.own a))->h.get? b=some u->h'.get? b=some u)
  (ho:∀ b,H b=some (.own a)->H' b=some (.own a)) (ht:∀ b xs,H b=some (.tup xs)->H' b=some (.tup xs)):Yr P w H' h' a o:=by
 induction o with
 | lst xs=>obtain⟨z,its,n,r,e⟩:=x;exact⟨z,its,n,r,k _ _ (.inl rfl) e⟩
 | tup xs=>obtain⟨z,its,r,ob,e,c⟩:=x;exact⟨z,its,r,ob,k _ _ (.inl rfl) e,c⟩
 | dK kvs=>obtain⟨z,y,vs,r,ob,es,ep,e,c⟩:=x;exact⟨z,y,vs,r,ob,es,ep,k _ _ (.inl rfl) e,c⟩
 | dT kvs =>
  obtain⟨z,y,xs,r,ob,es,ep,e,c⟩:=x;exact⟨z,y,xs,Paired.mapP r λp q z=>⟨z.1,ht _ _ z.2.1,z.2.2⟩,ob,es,ep,k _ _ (.inl rfl) e,c⟩
 | set S n=>obtain⟨ob,es,ep,t,e,c⟩:=x;exact⟨ob,es,ep,t,k _ _ (.inl rfl) e,c⟩
 | ins C dx fs =>
  obtain⟨d,z,ne,e,mA,⟨od,es,ep,e2,c⟩,r⟩:=x;exact⟨ho _ d,z,ne,k _ _ (.inl rfl) e,mA,⟨od,es,ep,k _ _ (.inr d) e2,c⟩,r⟩
 | own y=>obtain⟨ob,e⟩:=x;exact⟨ob,k _ _ (.inl rfl) e⟩
 | xd fs=>obtain⟨mA,⟨od,es,ep,e,c⟩,r⟩:=x;exact⟨mA,⟨od,es,ep,k _ _ (.inl rfl) e,c⟩,r⟩
 | rng lo hi=>obtain⟨t,u,v,e⟩:=x;exact⟨t,u,v,k _ _ (.inl rfl) e⟩
 | frz ob u ih=>obtain⟨e,q⟩:=x;exact⟨k _ _ (.inl rfl) e,ih q⟩
 | tbl ps =>
  have e:h.get? a=some { cls:=.none,data:=.fields ps }:=x;show h'.get? a=some { cls:=.none,data:=.fields ps };exact k a _ (.inl rfl) e
 | met f y =>
  have e:h.get? a=some (methodObj (.ref f) (.ref y)):=x;show h'.get? a=some (methodObj (.ref f) (.ref y));exact k a _ (.inl rfl) e
 | ext φ=>obtain⟨p,⟨o,e⟩,st⟩:=x;exact⟨st _ _ p λo q=>k _ _ (.inl rfl) q,⟨o,k _ _ (.inl rfl) e⟩,st⟩
theorem Mp.lt(x:Mp P w H h)(e:H a=some o):a<h.objs.size:=(x a o e).lt
theorem Mp.fresh(x:Mp P w H h)(e:h.objs.size<=a):H a=none:=by
 cases q:H a with
 | none=>rfl
 | some u=>exact absurd (AO (x.lt q) e) (DI _)
theorem Mp.kept(x:Mp P w H h)(k:∀ b u,h.get? b=some u->h'.get? b=some u):Mp P w H h':=λa o e =>
 (x a o e).stay (λb u _ q=>k b u q) (λ_ q=>q) λ_ _ q=>q
theorem Mp.laid(x:Mp P w H h)(k:∀ b u,h.get? b=some u->h'.get? b=some u)(hp:h.objs.size<=a)(new:Yr P w (W7 H a o) h' a o):Mp P w (W7 H a o) h':=λb u e=>by
 have hn:=x.fresh hp;by_cases hb:b=a
 .subst hb;rw[Zn] at e;cases e;exact new
 .rw[Zf hb] at e
  exact(x b u e).stay (λc v _ q=>k c v q) (λc q=>by rw[Zf (Yg q hn)];exact q) λc xs q=>by rw[Zf (Yg q hn)];exact q
end
def Rd(H:Hp)(a:A2)(u:HO):Prop:=H a=some u\/∃ o,H a=some (.frz o u)
theorem Rd.of{a:A2}{u:HO}(h:H a=some u):Rd H a u:=.inl h
theorem Rd.ok{a:A2}{u:HO}(r:Rd H a u)(x:Mp P w H h):Yr P w H h a u:=by
 rcases r with r | ⟨o,r⟩
 .exact x a u r
 .obtain⟨_,q⟩:=x a _ r
  exact q
def RQ:C1 HO->Prop
 | some (.lst _)=>True
 | some (.dK _)=>True
 | some (.dT _)=>True
 | some (.set _ _)=>True
 | some (.ins _ _ _)=>True
 | some (.ext _)=>True
 | _=>False
section
variable{x e:A2}{o':HO}
theorem Mp.write(ok:Mp P w H h)(mu:RQ (H x))(he:e=x\/H e=some (.own x))(k:∀ b u,b≠e->h.get? b=some u->h'.get? b=some u)(a:∃ u,h'.get? e=some u)
  (new:Yr P w (W7 H x o') h' x o'):Mp P w (W7 H x o') h':=λb u q=>by
 have d:∀ c y,H c=some (.own y)->c≠x:=λc y r z=>by subst z;rw[r] at mu;exact mu
 have g:∀ c xs,H c=some (.tup xs)->c≠x:=λc xs r z=>by subst z;rw[r] at mu;exact mu
 by_cases hb:b=x
 .subst hb;rw[Zn] at q;cases q;exact new
 .rw[Zf hb] at q
  by_cases f:b=e
  .have q':H b=some (.own x):=by
    rcases he with z | z
    .exact absurd (f.trans z) hb
    .rw[f];exact z
   rw[q] at q';cases q';obtain⟨v,hv⟩:=a;exact⟨v,by rw[f];exact hv⟩
  .refine(ok b u q).stay (λc v hc r=>k c v ?_ r) (λc r=>by rw[Zf (d c b r)];exact r) λc xs r=>by rw[Zf (g c xs r)];exact r
   rcases hc with rfl | hc
   .exact f
   .rintro rfl
    rcases he with z | z
    .exact d c b hc z
    .rw[hc] at z;cases z;exact hb rfl
end
structure Un (fs ex:List Addr) (H H':Hp) (h h':Heap):Prop where
 keep:∀ b o,h.get? b=some o->H b=none->b∉fs->b∉ex->h'.get? b=some o
 slot:∀ b o,h.get? b=some o->H b=none->b∈fs->b∉ex->∃ sl,h'.get? b=some { o with slots:=sl }
 free:∀ b o,h.get? b=some o->H b=none->b∉ex->H' b=none
 there:∀ b o,h.get? b=some o->b∉ex->∃ o',h'.get? b=some o'
 tups:∀ b xs,H b=some (.tup xs)->H' b=some (.tup xs)
 frzs:∀ b o u,H b=some (.frz o u)->H' b=some (.frz o u)
 tbls:∀ b ps,H b=some (.tbl ps)->∃ f,H' b=some (.tbl (ps++f))
section
variable{fs aN ex aU:Z A2}{H H1 H2:Hp}{h h1 h2 h':G2}{a x e:A2}{o:HO}
theorem Un.any(u:Un fs ex H H1 h h1){b:A2}{ob:Obj}(q:h.get? b=some ob)(n:H b=none)(hx:b∉ex):∃ sl,h1.get? b=some { ob with slots:=sl }:=by
 by_cases hb:b∈fs
 .exact u.slot b ob q n hb hx
 .exact⟨ob.slots,u.keep b ob q n hb hx⟩
theorem Un.kept(k:∀ b u,h.get? b=some u->h'.get? b=some u):Un fs ex H H h h' :=
 ⟨λb ob q _ _ _=>k b ob q,λb ob q _ _ _=>⟨ob.slots,k b ob q⟩,λ_ _ _ n _=>n,λb ob q _=>⟨ob,k b ob q⟩,λ_ _ q=>q,λ_ _ _ q=>q,λ_ ps q=>⟨#[],by rw[q];simp⟩⟩
theorem Un.refl:Un fs ex H H h h:=Un.kept λ_ _ q=>q
theorem Un.laid(k:∀ b u,h.get? b=some u->h'.get? b=some u)(hp:h.objs.size<=a)(hn:H a=none):Un fs ex H (W7 H a o) h h' where
 keep:=λb u q _ _ _=>k b u q
 slot:=λb u q _ _ _=>⟨u.slots,k b u q⟩
 free:=λb u q n _=>by rw[Zf (BJ (AO (AN q) hp))];exact n
 there:=λb u q _=>⟨u,k b u q⟩
 tups:=λb xs q=>by rw[Zf (Yg q hn)];exact q
 frzs:=λb u xs q=>by rw[Zf (Yg q hn)];exact q
 tbls:=λb ps q=>⟨#[],by rw[Zf (Yg q hn),q];simp⟩
theorem Un.write(mu:RQ (H x))(he:e=x\/H e=some (.own x))(k:∀ b u,b≠e->h.get? b=some u->h'.get? b=some u)(a:∃ u,h'.get? e=some u):Un fs ex H (W7 H x o) h h':=by
 have hx:∀ b,H b=none->b≠x:=λb n z=>by subst z;rw[n] at mu;exact mu
 have hb:∀ b,H b=none->b≠e:=λb n z=>by
  subst z;rcases he with r | r
  .exact hx b n r
  .rw[n] at r;cases r
 have hm:∀ b u,H b=some u->¬ RQ (some u)->b≠x:=λb u q nm z=>by subst z;rw[q] at mu;exact nm mu
 refine⟨λb u q n _ _=>k b u (hb b n) q,λb u q n _ _=>⟨u.slots,k b u (hb b n) q⟩,λb u q n _=>by rw[Zf (hx b n)];exact n,λb u q _=>?_,
  λb xs q=>by rw[Zf (hm b _ q λz=>z)];exact q,λb u xs q=>by rw[Zf (hm b _ q λz=>z)];exact q,λb ps q=>⟨#[],by rw[Zf (hm b _ q λz=>z),q];simp⟩⟩
 by_cases f:b=e
 .subst f;exact a
 .exact⟨u,k b u f q⟩
end
variable{xs:Z V}{g:Int->Int->Int}
def SX(h:G2)(H:Hp):Z A2:=(List.range h.objs.size).filter λa=>(H a).isSome
def Bm(h:G2)(H:Hp):G2:=PySem.W.hideAll h (SX h H)
theorem eg(h:G2)(H:Hp):(Bm h H).objs.size=h.objs.size:=PySem.W.hideAll_size _ _
theorem i4{b:A2}{o:Obj}(e:h.get? b=some o)(n:H b=none):(Bm h H).get? b=some o :=
 PySem.W.hideAll_get _ e λhm=>by
  have q:(H b).isSome=true:=(GQ.mp hm).2;rw[n] at q;simp at q
theorem jJ{b:A2}{o:Obj}(e:(Bm h H).get? b=some o):h.get? b=some o/\H b=none:=by
 have e':h.get? b=some o:=PySem.W.of_hideAll (SX h H) e;refine⟨e',?_⟩;cases q:H b with
 | none=>rfl
 | some x =>
  have hm:b∈SX h H:=GQ.mpr ⟨DU.mpr (AN e'),by simp[q]⟩;have z:(Bm h H).get? b=none:=PySem.W.hideAll_none (SX h H) hm;rw[z] at e;cases e
structure Mod (K:KX) (mg:LO) (base:Heap):Prop where
 kin:K.In base
 glob:base.Ns mainGlobals mg
 blt:∃ B,base.Ns builtinsNs B/\∀ x:Str,x≠"__name__" -> B x=bootBuiltins x
 nolimit:base.NoLimit
structure Cx where
 prog:Program
 w:World
 K:KX
 mg:Str->Option Value
 base:Heap
 A:Around
 N:List Str
 s₀:Shared
 H₀:Hp
 env:Env
 outer:List Env
 stack:List Env
 ex:List Addr
 fn:Str->Bool
 calm:Bool
 pn:List (Addr×Obj)
 xe:Value->Shared->Prop
 pl:Bool:=false
def E9(l:Z J1):Z A2:=l.filterMap (·.frame)
abbrev Cx.fs(X:Cx):Z A2:=E9 X.outer
def MQ(sc:I3)(x:Str):Prop:=sc.names.lookup x=some .local\/sc.names.lookup x=some .cell\/sc.names.lookup x=some .free
def Cp(sc:I3)(x:Str):Prop:=sc.names.lookup x=some .local\/sc.names.lookup x=some .cell
def j1(env:J1)(h:G2)(m:LO)(x:Str)(u:A1):Prop :=
 (env.kindOf x=some .local/\m x=some u)\/((env.kindOf x=some .cell\/env.kindOf x=some .free)/\∃ c,env.cells.lookup x=some c/\h.IsCell c (some u))
structure Cx.Ok (X:Cx):Prop where
 mod:Mod X.K X.mg X.base
 kind:X.env.scope.kind=.function
 glob:X.env.globals=mainGlobals
 blt:X.env.builtins=builtinsNs
 above:X.s₀.heap.objs.size<=X.env.locals
 inj:∀ x y c,X.env.cells.lookup x=some c->X.env.cells.lookup y=some c->x=y
 has:∀ x,(X.env.kindOf x=some .cell\/X.env.kindOf x=some .free)->∃ c,X.env.cells.lookup x=some c
 cab:∀ x c,X.fn x=true->X.env.cells.lookup x=some c->X.s₀.heap.objs.size<=c
 hd:X.calm=true->X.A.handled=none
 frames:X.A.frames=some X.stack
 stk:X.stack=X.outer\/(X.stack=X.env::X.outer/\X.env.frame=some X.env.locals)
 exf:∀ b∈X.ex,b≠X.env.locals/\∀ x c,X.env.cells.lookup x=some c->c≠b
 bs:∀ b o,X.base.get? b=some o->X.s₀.heap.get? b=some o/\X.H₀ b=none
 bsz:X.base.objs.size<=X.s₀.heap.objs.size
 noex:∀ b o,X.base.get? b=some o->b∉X.ex
 exfs:∀ b∈X.ex,b∉X.fs
 funs:X.s₀.heap.FunFrames X.base X.outer
 frf:∀ b∈X.fs,X.H₀ b=none
structure F' (X:Cx) (aa:LK) (σ:List (Option V)) (H:Hp) (s:Shared):Prop where
 ok:X.Ok
 os:s.os=X.s₀.os
 bare:AllBare s.gens
 base:Un X.fs X.ex X.H₀ H X.s₀.heap s.heap
 loc:∃ m,s.heap.Ns X.env.locals m/\∀ (i:Nat) (x:Str) (v:V),X.N[i]?=some x->σ[i]?=some (some v)->MQ X.env.scope x->∃ u,Yu v u/\j1 X.env s.heap m x u
 cell:∀ x c,X.env.cells.lookup x=some c->∃ v,s.heap.IsCell c v
 free:H X.env.locals=none
 freeC:∀ x c,X.env.cells.lookup x=some c->H c=none
 pin:∀ p∈X.pn++aa,s.heap.get? p.1=some p.2/\H p.1=none/\p.1≠X.env.locals/\p.1∉X.fs/\∀ v,p.2.data≠.cell v
 hok:Mp X.prog X.w H s.heap
 len:σ.length=X.N.length
section
variable{X:Cx}{σ:Z (C1 V)}
theorem Cx.Ok.nofr(ok:X.Ok){b:A2}{o:Obj}(e:X.base.get? b=some o):b∉X.fs:=λhb=>by
 have:=(ok.funs.mem hb).1;rw[e] at this;cases this
theorem F'.bs(I:F' X aa σ H s):∀ b o,X.base.get? b=some o->s.heap.get? b=some o/\H b=none:=λb o e =>
 ⟨I.base.keep b o (I.ok.bs b o e).1 (I.ok.bs b o e).2 (I.ok.nofr e) (I.ok.noex b o e),I.base.free b o (I.ok.bs b o e).1 (I.ok.bs b o e).2 (I.ok.noex b o e)⟩
theorem F'.bk(I:F' X aa σ H s):∀ b o,X.base.get? b=some o->s.heap.get? b=some o:=λb o e=>(I.bs b o e).1
theorem F'.mod(I:F' X aa σ H s):Mod X.K X.mg X.base:=I.ok.mod
theorem F'.kIn(I:F' X aa σ H s):X.K.In s.heap:=I.ok.mod.kin.keeps I.bk
theorem F'.lt(I:F' X aa σ H s):X.env.locals<s.heap.objs.size:=let ⟨_,hn,_⟩:=I.loc;hn.lt
theorem F'.sz(I:F' X aa σ H s):X.s₀.heap.objs.size<=s.heap.objs.size:=BC I.ok.above (EU I.lt)
theorem F'.nofs(I:F' X aa σ H s){a:A2}(h:s.heap.objs.size<=a):a∉X.fs:=λhb=>by
 obtain⟨_,o,ho,_⟩:=I.ok.funs.mem hb;exact absurd (AO (AN ho) (BC I.sz h)) (DI _)
theorem F'.cne(I:F' X aa σ H s):∀ x c,X.env.cells.lookup x=some c->c≠X.env.locals:=λx c e z=>by
 obtain⟨v,o,ho,hd⟩:=I.cell x c e;obtain⟨m,⟨o',es,ep,f,u,_⟩,_⟩:=I.loc;rw[z,f] at ho;cases ho;rw[u] at hd;cases hd
theorem F'.funs(I:F' X aa σ H s):s.heap.FunFrames X.base X.outer:=by
 have all:∀ (l:Z J1),(∀ b∈E9 l,b∈X.fs)->X.s₀.heap.FunFrames X.base l->s.heap.FunFrames X.base l:=by
  intro l;induction l with
  | nil=>intro _ _;trivial
  | cons env r ih =>
   intro hs hl;obtain⟨Y,⟨Lq_,o,hf,hn,ho,hd⟩,hr⟩:=hl;have D:Lq_∈X.fs:=hs Lq_ (by unfold E9;rw[EK,hf];exact AX);obtain⟨sl,e⟩:=I.base.slot Lq_ o ho (I.ok.frf Lq_ D) D λz=>I.ok.exfs Lq_ z D
   exact⟨Y,⟨Lq_,_,hf,hn,e,hd⟩,ih (λb hb=>hs b (by unfold E9;rw[EK,hf];exact AR _ hb)) hr⟩
 exact all X.outer (λ_ hb=>hb) I.ok.funs
theorem F'.stack(I:F' X aa σ H s):s.heap.FunFrames X.base X.stack:=by
 rcases I.ok.stk with e | ⟨e,hf⟩
 .rw[e];exact I.funs
 .rw[e]
  obtain⟨m,hn,_⟩:=I.loc;refine .cons (by rw[I.ok.kind];decide) hf hn ?_ I.funs;exact IQ (BC I.ok.bsz I.ok.above)
theorem F'.stkSub(I:F' X aa σ H s):∀ b∈E9 X.stack,b∈X.env.locals::X.fs:=λb hb=>by
 rcases I.ok.stk with e | ⟨e,hf⟩
 .rw[e] at hb;exact AR _ hb
 .rw[e] at hb
  unfold E9 at hb;rw[EK,hf] at hb;exact hb
theorem F'.stkFree(I:F' X aa σ H s):∀ b∈E9 X.stack,H b=none:=λb hb=>by
 rcases BA.mp (I.stkSub b hb) with e | hb
 .rw[e];exact I.free
 .obtain⟨_,o,ho,_⟩:=I.ok.funs.mem hb
  exact I.base.free b o ho (I.ok.frf b hb) λz=>I.ok.exfs b z hb
theorem F'.step{g':Array GenState}{d':Drawn}(I:F' X aa σ H s)
  (S:∀ b∈ch,(b∈X.ex\/X.s₀.heap.objs.size<=b)/\b≠X.env.locals/\(∀ x c,X.env.cells.lookup x=some c->c≠b)/\∀ p∈X.pn++aa,p.1≠b)
  (keep:∀ b o,b≠X.env.locals->b∉X.fs->b∉ch->s.heap.get? b=some o->H b=none->h'.get? b=some o)
  (slot:∀ b o,b≠X.env.locals->b∈X.fs->b∉ch->s.heap.get? b=some o->H b=none->∃ sl,h'.get? b=some { o with slots:=sl }) (free:∀ b o,b∉ch->s.heap.get? b=some o->H b=none->H' b=none)
  (there:∀ b o,b∉ch->s.heap.get? b=some o->∃ o',h'.get? b=some o')
  (tups:∀ b xs,H b=some (.tup xs)->H' b=some (.tup xs)) (frzs:∀ b o u,H b=some (.frz o u)->H' b=some (.frz o u)) (tbls:∀ b ps,H b=some (.tbl ps)->∃ f,H' b=some (.tbl (ps++f)))
  (ns:∀ m,s.heap.Ns X.env.locals m->h'.Ns X.env.locals m) (hok:Mp X.prog X.w H' h') (hg:AllBare g') :
  F' X aa σ H' { s with heap:=h',gens:=g',drawn:=d',toks:=t' }:=by
 have j:∀ b o,X.s₀.heap.get? b=some o->b≠X.env.locals:=λb o e=>BJ (AO (AN e) I.ok.above)
 have h:∀ b o,X.s₀.heap.get? b=some o->b∉X.ex->b∉ch:=λb o e hx hb=>by
  rcases(S b hb).1 with z | z
  .exact hx z
  .exact absurd (AO (AN e) z) (DI _)
 have g:∀ x c,X.env.cells.lookup x=some c->∀ v,s.heap.IsCell c v->h'.IsCell c v:=λx c e v M=>by
  obtain⟨o,ho,hd⟩:=M;have a:c∉ch:=λz=>(S c z).2.2.1 x c e rfl
  by_cases hc:c∈X.fs
  .obtain⟨sl,q⟩:=slot c o (I.cne x c e) hc a ho (I.freeC x c e)
   exact⟨_,q,hd⟩
  .exact⟨o,keep c o (I.cne x c e) hc a ho (I.freeC x c e),hd⟩
 refine⟨I.ok,I.os,hg,⟨λb o e n hb hx=>?_,λb o e n hb hx=>?_,λb o e n hx=>?_,λb o e hx=>?_,λb xs e=>tups b xs (I.base.tups b xs e),λb o xs e=>frzs b o xs (I.base.frzs b o xs e),λb ps e=>?_⟩,?_,λx c e=>?_,?_,λx c e=>?_,λp hp=>?_,hok,I.len⟩
 .exact keep b o (j b o e) hb (h b o e hx) (I.base.keep b o e n hb hx) (I.base.free b o e n hx)
 .obtain⟨sl,e1⟩:=I.base.slot b o e n hb hx
  obtain⟨sl',e2⟩:=slot b _ (j b o e) hb (h b o e hx) e1 (I.base.free b o e n hx);exact⟨sl',e2⟩
 .obtain⟨o',e1⟩:=I.base.there b o e hx
  exact free b o' (h b o e hx) e1 (I.base.free b o e n hx)
 .obtain⟨o',e1⟩:=I.base.there b o e hx
  exact there b o' (h b o e hx) e1
 .obtain⟨m1,e1⟩:=I.base.tbls b ps e
  obtain⟨m2,e2⟩:=tbls b _ e1;exact⟨m1++m2,by rw[e2,Array.append_assoc]⟩
 .obtain⟨m,hn,hl⟩:=I.loc
  refine⟨m,ns m hn,λi x v e1 e2 e3=>?_⟩;obtain⟨u,r,l⟩:=hl i x v e1 e2 e3;refine⟨u,r,?_⟩;rcases l with l | ⟨k,c,e,z⟩
  .exact .inl l
  .exact .inr ⟨k,c,e,g x c e _ z⟩
 .obtain⟨v,z⟩:=I.cell x c e
  exact⟨v,g x c e v z⟩
 .obtain⟨m,⟨o,_,_,ho,_⟩,_⟩:=I.loc
  exact free _ o (λz=>(S _ z).2.1 rfl) ho I.free
 .obtain⟨v,o,ho,hd⟩:=I.cell x c e
  exact free c o (λz=>(S c z).2.2.1 x c e rfl) ho (I.freeC x c e)
 .obtain⟨e,n,ne,P,d⟩:=I.pin p hp
  have a:p.1∉ch:=λz=>(S p.1 z).2.2.2 p hp rfl
  exact⟨keep p.1 p.2 ne P a e n,free p.1 p.2 a e n,ne,P,d⟩
theorem F'.un(I:F' X aa σ H s)(u:Un X.fs [] H H' s.heap h')(hok:Mp X.prog X.w H' h'):F' X aa σ H' { s with heap:=h',toks:=t' }:=by
 obtain⟨m,⟨o,es,ep,ho,r⟩,_⟩:=id I.loc;obtain⟨sl,D⟩:=u.any ho I.free (by simp);exact I.step (g':=s.gens) (d':=s.drawn) (ch:=[]) (λ_ z=>nomatch z) (λb o _ hb _ e n=>u.keep b o e n hb (by simp)) (λb o _ hb _ e n=>u.slot b o e n hb (by simp)) (λb o _ e n=>u.free b o e n (by simp)) (λb o _ e=>u.there b o e (by simp)) u.tups u.frzs u.tbls (λm' hm=>by
  obtain⟨o',i,a,f,r'⟩:=hm;rw[ho] at f;cases f;exact⟨_,i,a,D,r'⟩) hok I.bare
theorem F'.call{g':Array GenState}{d':Drawn}(I:F' X aa σ H s)(u:Un (E9 X.stack) ch H H' s.heap h')(hok:Mp X.prog X.w H' h')(hg:AllBare g')
  (S:∀ b∈ch,(b∈X.ex\/X.s₀.heap.objs.size<=b)/\b≠X.env.locals/\(∀ x c,X.env.cells.lookup x=some c->c≠b)/\∀ p∈X.pn++aa,p.1≠b) :
  F' X aa σ H' { s with heap:=h',gens:=g',drawn:=d',toks:=t' }:=by
 obtain⟨m,⟨o,es,ep,ho,r⟩,_⟩:=id I.loc;obtain⟨sl,D⟩:=u.any ho I.free λz=>(S _ z).2.1 rfl
 exact I.step (ch:=ch) S (λb o D hb hc e n=>u.keep b o e n (λz=>(BA.mp (I.stkSub b z)).elim D hb) hc) (λb o _ _ hc e n=>u.any e n hc) (λb o hc e n=>u.free b o e n hc) (λb o hc e=>u.there b o e hc) u.tups u.frzs u.tbls (λm' hm=>by
  obtain⟨o',i,a,f,r'⟩:=hm;rw[ho] at f;cases f;exact⟨_,i,a,D,r'⟩) hok hg
theorem F'.turned(I:F' X aa σ H s)(k:∀ b o,b≠it->s.heap.get? b=some o->h'.get? b=some o)(hn:H it=none)(D:it≠X.env.locals)
  (h1:it∈X.ex\/X.s₀.heap.objs.size<=it) (h2:∀ x c,X.env.cells.lookup x=some c->c≠it) (h3:∀ p∈X.pn++aa,p.1≠it):F' X aa σ H { s with heap:=h',toks:=t' }:=by
 have a:∀ b u,H b=some u->b≠it:=λb u e z=>by rw[z,hn] at e;cases e
 refine I.step (g':=s.gens) (d':=s.drawn) (ch:=[it]) (λb hb=>?_) (λb o _ _ hc e _=>k b o (λz=>hc (by simp[z])) e) (λb o _ _ hc e _=>⟨o.slots,k b o (λz=>hc (by simp[z])) e⟩) (λ_ _ _ _ n=>n)
  (λb o hc e=>⟨o,k b o (λz=>hc (by simp[z])) e⟩) (λ_ _ e=>e) (λ_ _ _ e=>e) (λb ps e=>⟨#[],by rw[e];simp⟩) (λm hm=>?_) (λb u e=>?_) I.bare
 .have e:b=it:=by simpa using hb
  subst e;exact⟨h1,D,h2,h3⟩
 .obtain⟨o,es,ep,ho,r⟩:=hm
  exact⟨o,es,ep,k _ o (AY D) ho,r⟩
 .refine(I.hok b u e).stay (λc v hc q=>k c v ?_ q) (λ_ q=>q) λ_ _ q=>q
  rcases hc with z | z
  .rw[z];exact a b u e
  .exact a c _ z
theorem F'.tok(I:F' X aa σ H s)(t:Nat):F' X aa σ H { s with toks:=t }:=I.un (h':=s.heap) (t':=t) Un.refl I.hok
theorem F'.kept(I:F' X aa σ H s)(k:∀ b u,s.heap.get? b=some u->h'.get? b=some u):F' X aa σ H { s with heap:=h',toks:=t' }:=I.un (Un.kept k) (I.hok.kept k)
theorem F'.laid{a:A2}{o:HO}(I:F' X aa σ H s)(k:∀ b u,s.heap.get? b=some u->h'.get? b=some u)(hp:s.heap.objs.size<=a)(new:Yr X.prog X.w (W7 H a o) h' a o) :
 F' X aa σ (W7 H a o) { s with heap:=h',toks:=t' }:=I.un (Un.laid k hp (I.hok.fresh hp)) (I.hok.laid k hp new)
theorem F'.write{x e:A2}{o:HO}(I:F' X aa σ H s)(mu:RQ (H x))(he:e=x\/H e=some (.own x))(k:∀ b u,b≠e->s.heap.get? b=some u->h'.get? b=some u)(a:∃ u,h'.get? e=some u)
 (new:Yr X.prog X.w (W7 H x o) h' x o):F' X aa σ (W7 H x o) { s with heap:=h',toks:=t' }:=I.un (Un.write mu he k a) (I.hok.write mu he k a new)
theorem F'.weak{σ':Z (C1 V)}(I:F' X aa σ H s)(hl:σ'.length=σ.length)(w:∀ (i:Nat) v,σ'[i]?=some (some v)->σ[i]?=some (some v)):F' X aa σ' H s :=
 ⟨I.ok,I.os,I.bare,I.base,let ⟨m,hn,a⟩:=I.loc;⟨m,hn,λi x v e1 e2 e3=>a i x v e1 (w i v e2) e3⟩,I.cell,I.free,I.freeC,I.pin,I.hok,hl.trans I.len⟩
theorem F'.pins_of{aB:LK}(I:F' X aa σ H s)(h:∀ p∈aB,s.heap.get? p.1=some p.2/\H p.1=none/\p.1≠X.env.locals/\p.1∉X.fs/\∀ v,p.2.data≠.cell v):F' X aB σ H s :=
 ⟨I.ok,I.os,I.bare,I.base,I.loc,I.cell,I.free,I.freeC,λp hp=>(CB.mp hp).elim (λz=>I.pin p (CP _ z)) (h p),I.hok,I.len⟩
theorem Pu{N:Z Str}(hN:N.Nodup){x:Str}(a:N[i]?=some x)(b:N[j]?=some x):i=j:=by
 obtain⟨h1,e1⟩:=AG.mp a;obtain⟨h2,e2⟩:=AG.mp b;exact(List.getElem_inj hN).mp (e1.trans e2.symm)
theorem Fm{M:Model}{x:Str}{v:V}(I:F' X aa σ H s)(hN:X.N.Nodup)(hi:X.N[i]?=some x)(hx:Cp X.env.scope x)(r:Yu v u)
   (h:∀ s',F' X aa (σ.set i (some v)) H s'->(∃ a,SameBut a s.heap s'.heap/\(a=X.env.locals\/X.env.cells.lookup x=some a))->Q () s') (hf:X.fn x=true\/X.env.scope.names.lookup x=some .local:=by ext):wpAny M A (storeName X.env x u) Q E s:=by
 obtain⟨m,hn,hl⟩:=id I.loc;have t:(X.env.scope.kind==.class||(X.env.scope.kind==.module&&X.env.locals != X.env.globals))=false:=by rw[I.ok.kind];rfl
 have hiσ:i<σ.length:=by rw[I.len];exact(AG.mp hi).1
 have cne:=I.cne;have C:∀ {a:A2} {h':G2},(∃ o,s.heap.get? a=some o/\H a=none)->SameBut a s.heap h'->Mp X.prog X.w H h':=λ{a h'} ha hs b ob e=>by
   obtain⟨_,_,g⟩:=ha;refine(I.hok b ob e).stay (λc J hc q=>(hs.2 c ?_).trans q) (λ_ q=>q) λ_ _ q=>q
   rintro rfl;rcases hc with rfl | hc
   · rw[g] at e;cases e
   · rw[g] at hc;cases hc
 rcases hx with Y | Y
 · refine wpAny_storeName_local Y hn (λh' B hs=>?_) t
   obtain⟨oL,_,_,F,_⟩:=id hn;refine h _ ⟨I.ok,I.os,I.bare,⟨λb o e n hb hx=>?_,λb o e n hb hx=>?_,I.base.free,λb o e hx=>?_,I.base.tups,I.base.frzs,I.base.tbls⟩,⟨_,B,λj y D e1 e2 e3=>?_⟩,λy c e=>?_,I.free,I.freeC,λp hp=>?_,C ⟨oL,F,I.free⟩ hs,by simpa using I.len⟩ ⟨_,hs,.inl rfl⟩
   · exact(hs.2 b (BJ (AO (AN e) I.ok.above))).trans (I.base.keep b o e n hb hx)
   · obtain⟨sl,e1⟩:=I.base.slot b o e n hb hx
     exact⟨sl,(hs.2 b (BJ (AO (AN e) I.ok.above))).trans e1⟩
   · obtain⟨o',e1⟩:=I.base.there b o e hx
     exact⟨o',(hs.2 b (BJ (AO (AN e) I.ok.above))).trans e1⟩
   · by_cases hj:j=i
     · subst hj
       rw[hi] at e1;cases e1;rw[List.getElem?_set_self hiσ] at e2;cases e2;exact⟨u,r,.inl ⟨Y,by simp⟩⟩
     · rw[IR (AY hj)] at e2
       obtain⟨f,r',q⟩:=hl j y D e1 e2 e3;refine⟨f,r',?_⟩;rcases q with⟨k,e⟩ | ⟨k,c,e,z⟩
       · refine .inl ⟨k,?_⟩
         have:y≠x:=λe=>hj (Pu hN e1 (e▸hi))
         simp[this,e]
       · exact .inr ⟨k,c,e,z.sameBut hs (cne y c e)⟩
   · obtain⟨J,z⟩:=I.cell y c e
     exact⟨J,z.sameBut hs (cne y c e)⟩
   · obtain⟨e,n,ne,P,d⟩:=I.pin p hp
     exact⟨(hs.2 p.1 ne).trans e,n,ne,P,d⟩
 · have ai:X.fn x=true:=by
     rcases hf with z | z
     · exact z
     · rw[z] at Y;cases Y
   obtain⟨c,hc⟩:=I.ok.has x (.inl Y);obtain⟨J,z⟩:=I.cell x c hc;refine wpAny_storeName_cell I.ok.kind Y hc z (λh' G hs=>?_);obtain⟨oc,S,T⟩:=id z;refine h { s with heap:=h' } ⟨I.ok,I.os,I.bare,⟨λb o e n hb hx=>?_,λb o e n hb hx=>?_,I.base.free,λb o e hx=>?_,I.base.tups,I.base.frzs,I.base.tbls⟩,⟨m,hn.sameBut hs (AY (cne x c hc)),λj y D e1 e2 e3=>?_⟩,λy c' e=>?_,I.free,I.freeC,λp hp=>?_,C ⟨oc,S,I.freeC x c hc⟩ hs,by simpa using I.len⟩ ⟨c,hs,.inr hc⟩
   · exact(hs.2 b (BJ (AO (AN e) (I.ok.cab x c ai hc)))).trans (I.base.keep b o e n hb hx)
   · obtain⟨sl,e1⟩:=I.base.slot b o e n hb hx
     exact⟨sl,(hs.2 b (BJ (AO (AN e) (I.ok.cab x c ai hc)))).trans e1⟩
   · obtain⟨o',e1⟩:=I.base.there b o e hx
     exact⟨o',(hs.2 b (BJ (AO (AN e) (I.ok.cab x c ai hc)))).trans e1⟩
   · by_cases hj:j=i
     · subst hj
       rw[hi] at e1;cases e1;rw[List.getElem?_set_self hiσ] at e2;cases e2;exact⟨u,r,.inr ⟨.inl Y,c,hc,G⟩⟩
     · rw[IR (AY hj)] at e2
       obtain⟨f,r',q⟩:=hl j y D e1 e2 e3;refine⟨f,r',?_⟩;rcases q with q | ⟨k,c',e,l⟩
       · exact .inl q
       · refine .inr ⟨k,c',e,l.sameBut hs ?_⟩
         rintro rfl;exact hj (Pu hN e1 (I.ok.inj _ _ _ e hc▸hi))
   · by_cases R:c'=c
     · subst R;exact⟨_,G⟩
     · obtain⟨w2,W⟩:=I.cell y c' e
       exact⟨w2,W.sameBut hs R⟩
   · obtain⟨e,n,ne,P,d⟩:=I.pin p hp
     refine⟨(hs.2 p.1 ?_).trans e,n,ne,P,d⟩;intro q;rw[q,S] at e;have q':oc=p.2:=BI e;exact d J (by rw[<- q'];exact T)
theorem Hg{M:Model}{x:Str}{v:V}(I:F' X aa σ H s)(hN:X.N.Nodup)(hi:X.N[i]?=some x)(hx:Cp X.env.scope x)(r:Yu v u)
  (h:∀ s',F' X aa (σ.set i (some v)) H s'->Q () s') (hf:X.fn x=true\/X.env.scope.names.lookup x=some .local:=by ext):wpAny M A (storeName X.env x u) Q E s :=
 Fm I hN hi hx r (λs' R _=>h s' R) hf
theorem F'.call'(I:F' X aa σ H s)(ho:s'.os=s.os)(u:Un (E9 X.stack) ch H H' s.heap s'.heap)(hok:Mp X.prog X.w H' s'.heap)(hg:AllBare s'.gens)
  (S:∀ b∈ch,(b∈X.ex\/X.s₀.heap.objs.size<=b)/\b≠X.env.locals/\(∀ x c,X.env.cells.lookup x=some c->c≠b)/\∀ p∈X.pn++aa,p.1≠b):F' X aa σ H' s':=by
 obtain⟨h',g',d',t',o'⟩:=s';have e:o'=s.os:=ho;subst e;exact I.call (g':=g') (t':=t') (d':=d') u hok hg S
end
variable{fs:Z (Str×V)}
abbrev XK:=A1->C1 A2->Hp->Prop
abbrev St:=Z (C1 V)
abbrev VK:=V->Hp->Prop
abbrev TE:=St->Hp->VK->Prop
abbrev TT:=St->Hp->(Bool->Hp->Prop)->Prop
abbrev TA:=St->Hp->(Z V->Hp->Prop)->Prop
structure LP where
 nx:St->Hp->Prop
 rt:VK
 bk:St->Hp->Prop:=λ_ _=>False
 ct:St->Hp->Prop:=λ_ _=>False
abbrev TS:=LP->St->Hp->Prop
def EP(X:Cx)(aa:LK)(σ:St)(Q:VK)(u:A1)(s':A4):Prop:=∃ v H',F' X aa σ H' s'/\Yu v u/\Q v H'
def TP(X:Cx)(aa:LK)(σ:St)(Q:Bool->Hp->Prop)(b:Bool)(s':A4):Prop:=∃ H',F' X aa σ H' s'/\Q b H'
def AP(X:Cx)(aa:LK)(σ:St)(Q:Z V->Hp->Prop)(us:Z A1)(s':A4):Prop:=∃ vs H',F' X aa σ H' s'/\Y8 vs us/\Q vs H'
def SP(X:Cx)(aa:LK)(D:LP)(f:Flow)(s':A4):Prop :=
 match f with
 | .next=>∃ σ' H',F' X aa σ' H' s'/\D.nx σ' H'
 | .brk=>∃ σ' H',F' X aa σ' H' s'/\D.bk σ' H'
 | .cont=>∃ σ' H',F' X aa σ' H' s'/\D.ct σ' H'
 | .ret u=>∃ v σ' H',F' X aa σ' H' s'/\Yu v u/\D.rt v H'
def PE(X:Cx)(e:C3)(t:TE):Prop :=
 ∀ (aa:LK) (s:A4) (σ:St) (H:Hp) (Q:VK),F' X aa σ H s->t σ H Q->wpAny (model X.prog X.w) X.A (eval e X.env) (EP X aa σ Q) X.xe s
def PT(X:Cx)(e:C3)(t:TT):Prop :=
 ∀ (aa:LK) (s:A4) (σ:St) (H:Hp) (Q:Bool->Hp->Prop),F' X aa σ H s->t σ H Q->wpAny (model X.prog X.w) X.A (isTrue e X.env (eval e X.env)) (TP X aa σ Q) X.xe s
def PW(X:Cx)(e:C3)(t:TT):Prop :=
 ∀ (c:Sem A1) (aa:LK) (s:A4) (σ:St) (H:Hp) (Q:Bool->Hp->Prop),F' X aa σ H s->t σ H Q->wpAny (model X.prog X.w) X.A (isTrue e X.env c) (TP X aa σ Q) X.xe s
theorem PW.pt{X:Cx}{t:TT}(h:PW X e t):PT X e t:=h _
def PA(X:Cx)(es:Z C3)(t:TA):Prop :=
 ∀ (pos:Pos) (aa:LK) (s:A4) (σ:St) (H:Hp) (Q:Z V->Hp->Prop),F' X aa σ H s->t σ H Q->wpAny (model X.prog X.w) X.A (spliced (backTo pos (starEach es X.env))) (AP X aa σ Q) X.xe s
def PS(X:Cx)(st:Df)(t:TS):Prop :=
 ∀ (aa:LK) (s:A4) (σ:St) (H:Hp) (D:LP),F' X aa σ H s->t D σ H->wpAny (model X.prog X.w) X.A (exec st X.env) (SP X aa D) X.xe s
def R7(X:Cx)(st:Z Df)(t:TS):Prop :=
 ∀ (aa:LK) (s:A4) (σ:St) (H:Hp) (D:LP),F' X aa σ H s->t D σ H->wpAny (model X.prog X.w) X.A (execs st X.env) (SP X aa D) X.xe s
theorem V2{t:Sem α}{Q Q':α->A4->Prop}{M:Model}(h:wpAny M A t Q E s)(j:∀ a s,Q a s->Q' a s):wpAny M A t Q' E s:=BQ h j λ_ _ x=>x
section
variable{X:Cx}
def Hv(i:Nat):TE:=λσ H Q=>∃ v,σ[i]?=some (some v)/\Q v H
def tC(v:V):TE:=λ_ H Q=>Q v H
theorem Qd{x:Str}(hN:X.N[i]?=some x)(hv:MQ X.env.scope x)(hd:C2 x:=by decide)(ai:(x==("__classdict__" : Str))=false:=by decide):PE X (.Name x pos) (Hv i):=by
 intro aa s σ H Q I h;obtain⟨v,e,h⟩:=h;obtain⟨m,hn,hl⟩:=I.loc;obtain⟨u,r,l⟩:=hl i x v hN e hv;have B:EP X aa σ Q u s:=⟨v,H,I,r,h⟩;rcases l with⟨Y,hm⟩ | ⟨Y,c,hc,a⟩
 .exact wpAny_Name (wpAny_loadName_local I.ok.kind Y hn hm B) hd
 .rcases Y with Y | Y
  .exact wpAny_Name (wpAny_loadName_cell I.ok.kind Y hc a B) hd
  .exact wpAny_Name (wpAny_loadName_free I.ok.kind Y hc a B ai) hd
theorem bz{i j pos}:PE X (.Constant (.int i) j pos) (tC (.int i)):=λ_ _ _ H _ I h=>wpAny_Constant_int ⟨.int i,H,I.tok _,⟨_,rfl⟩,h⟩
theorem c3{b j pos}:PE X (.Constant (.bool b) j pos) (tC (.bl b)):=λ_ _ _ H _ I h=>Constant_bool ⟨.bl b,H,I,rfl,h⟩
theorem lO{j pos}:PE X (.Constant .none j pos) (tC .non):=λ_ _ _ H _ I h=>Constant_none ⟨.non,H,I,rfl,h⟩
theorem B6{x j pos}:PE X (.Constant (.str x) j pos) (tC (.str x)):=λ_ _ _ H _ I h=>Calls.Constant_str ⟨.str x,H,I.tok _,⟨_,rfl⟩,h⟩
def Gl(X:Cx)(x:Str):Prop:=X.env.kindOf x=some .globalImplicit
theorem U9{σ:St}{x:Str}{Q:LM}(I:F' X aa σ H s)(hg:Gl X x)(hm:X.mg x=some u)(h:Q u s)
  (hd:C2 x:=by decide):wpAny (model X.prog X.w) X.A (eval (.Name x pos) X.env) Q E s :=
 Calls.Name_function_global I.ok.kind hg (Calls.loadGlobal_global (by rw[I.ok.glob];exact I.mod.glob.keeps I.bk) hm h) hd
theorem Jj{σ:St}{x:Str}{Q:LM}(I:F' X aa σ H s)(hg:Gl X x)(hm:X.mg x=none)(hv:bootBuiltins x=some u)(h:Q u s)
  (hn:x≠"__name__" := by decide) (hd:C2 x:=by decide):wpAny (model X.prog X.w) X.A (eval (.Name x pos) X.env) Q E s:=by
 obtain⟨B,h1,h2⟩:=I.mod.blt;exact Calls.Name_function_global I.ok.kind hg (Calls.loadGlobal_builtin (by rw[I.ok.glob];exact I.mod.glob.keeps I.bk) hm (by rw[I.ok.blt];exact h1.keeps I.bk) ((h2 x hn).trans hv) h) hd
theorem kt{x:Str}{v:V}(hg:Gl X x)(hm:X.mg x=none)(hv:bootBuiltins x=some u)(r:Yu v u)(hn:x≠"__name__" := by decide)(hd:C2 x:=by decide):PE X (.Name x pos) (tC v) :=
 λ_ _ _ H _ I h=>Jj I hg hm hv ⟨v,H,I,r,h⟩ hn hd
variable{a b:C3}{ta tb:TE}
def PC(X:Cx)(op:CmpOp)(a b:C3)(t:TE):Prop :=
 ∀ (aa:LK) (s:A4) (σ:St) (H:Hp) (Q:VK),F' X aa σ H s->t σ H Q ->
  wpAny (model X.prog X.w) X.A (eval a X.env) (λv s₁=>wpAny (model X.prog X.w) X.A (eval b X.env) (λu s₂=>wpAny (model X.prog X.w) X.A (compareOp op v u) (EP X aa σ Q) X.xe s₂) X.xe s₁) X.xe s
def tB(t:TE):TT:=λσ H Q=>t σ H λx H1=>∃ c,x=.bl c/\Q c H1
theorem hD{t:TE}(h:PC X op a b t)(h1:behindInMarks op b=false:=by first | exact nobehind _ (by decide) (by decide) | rfl):PT X (.Compare a [op] [b] pos) (tB t):=by
 intro aa s σ H Q I hw;refine wpAny_isTrue_Compare1 (V2 (h aa s σ H _ I hw) λv s1 h1=>V2 h1 λu s2 h2=>V2 h2 λc s3 zz=>?_) h1;obtain⟨x,H1,I1,r1,q1⟩:=zz;obtain⟨d,rfl,q⟩:=q1;cases r1;exact GF ⟨H1,I1,q⟩
variable{tA aJ:TT}
def jC(t u:TT):TT:=λσ H Q=>t σ H λc H1=>if c=true then u σ H1 Q else Q false H1
def gk(t u:TT):TT:=λσ H Q=>t σ H λc H1=>if c=true then Q true H1 else u σ H1 Q
def pW(t:TT):TT:=λσ H Q=>t σ H λc H1=>Q (!c) H1
theorem nE(ha:PT X a tA):PW X (.BoolOp .And [a] pos) tA:=by
 intro d aa s σ H Q I h;refine isTrue_and (V2 (ha aa s σ H Q I h) λc s1 e=>?_);cases c with
 | true=>exact isTrue_and_nil e
 | false=>exact e
theorem kI(ha:PT X a tA):PW X (.BoolOp .Or [a] pos) tA:=by
 intro d aa s σ H Q I h;refine isTrue_or (V2 (ha aa s σ H Q I h) λc s1 e=>?_);cases c with
 | false=>exact isTrue_or_nil e
 | true=>exact e
theorem nI(ha:PT X a tA)(hb:PW X (.BoolOp .And (b::al) pos) aJ):PW X (.BoolOp .And (a::b::al) pos) (jC tA aJ):=by
 intro d aa s σ H Q I h;refine isTrue_and (V2 (ha aa s σ H _ I h) λc s1 ⟨H1,I1,q1⟩=>?_);cases c with
 | true=>exact hb d aa s1 σ H1 Q I1 q1
 | false=>exact⟨H1,I1,q1⟩
theorem js(ha:PT X a tA)(hb:PW X (.BoolOp .Or (b::al) pos) aJ):PW X (.BoolOp .Or (a::b::al) pos) (gk tA aJ):=by
 intro d aa s σ H Q I h;refine isTrue_or (V2 (ha aa s σ H _ I h) λc s1 ⟨H1,I1,q1⟩=>?_);cases c with
 | true=>exact⟨H1,I1,q1⟩
 | false=>exact hb d aa s1 σ H1 Q I1 q1
theorem iw(ha:PT X a tA):PT X (.UnaryOp .Not a pos) (pW tA):=by
 intro aa s σ H Q I h;exact isTrue_not (ha aa s σ H (λc H1=>Q (!c) H1) I h)
def lz(ta tb:TE):TE:=λσ H Q=>ta σ H λx H1=>∃ c,x=.bl c/\if c=true then Q (.bl true) H1 else tb σ H1 Q
theorem nJ{op}{t:TE}(h:PE X a t):PE X (.BoolOp op [a] pos) t:=λaa s σ H Q I hw=>BoolOp_one (h aa s σ H Q I hw)
theorem nM(ha:PE X a ta)(hb:PE X (.BoolOp .Or (b::al) pos) tb):PE X (.BoolOp .Or (a::b::al) pos) (lz ta tb):=by
 intro aa s σ H Q I h;refine BoolOp_or (V2 (ha aa s σ H _ I h) λv s1 zz=>?_);obtain⟨x,H1,I1,r1,q1⟩:=zz;obtain⟨c,rfl,q1⟩:=q1;cases r1;refine GF ?_;cases c with
 | false=>exact hb aa s1 σ H1 Q I1 q1
 | true=>exact⟨.bl true,H1,I1,rfl,q1⟩
end
variable{σ:St}{te tl ta:TE}{tc:TT}{tb:TS}
def E5(K:KX)(H:Hp)(a:A2)(xs:Z V):Prop :=
 Rd H a (.lst xs) \/
  ∃ (o:Obj) (its:Array A1) (n:Nat),K.lookup a=some o/\o.cls=.type "list" /\ o.dict=none/\o.data=.seq its n/\its.size<=sizeLine/\Y8 xs its.toList
def Sl(K:KX)(H:Hp)(a:A2)(xs:Z V):Prop :=
 H a=some (.tup xs) \/
  ∃ (o:Obj) (its:Array A1) (n:Nat),K.lookup a=some o/\o.cls=.type "tuple" /\ o.data=.seq its n/\its.size<=sizeLine/\Y8 xs its.toList/\∀ i:Int,V.int i∉xs
def nX:A1->C1 V
 | .none=>some .non
 | .bool b=>some (.bl b)
 | .int i _=>some (.int i)
 | .str x _=>some (.str x)
 | .bytes b _=>some (.byt b)
 | .float b _=>some (.flt b)
 | .ref a=>some (.ref a)
 | .type n=>some (.ty n)
 | _=>none
theorem Yu.abs{x:V}(r:Yu x u):nX u=some x:=by
 cases x with
 | non=>cases r;rfl
 | bl _=>cases r;rfl
 | int _=>obtain⟨t,rfl⟩:=r;rfl
 | str _=>obtain⟨t,rfl⟩:=r;rfl
 | byt _=>obtain⟨t,rfl⟩:=r;rfl
 | flt _=>obtain⟨t,rfl⟩:=r;rfl
 | ref _=>cases r;rfl
 | ty _=>cases r;rfl
theorem Yu.inj{x y:V}{u:A1}(r:Yu x u)(q:Yu y u):x=y:=BI (r.abs.symm.trans q.abs)
theorem Y8.inj:∀ {xs ys:Z V} {us:Z A1},Y8 xs us->Y8 ys us->xs=ys
 | _,_,_,.nil,.nil=>rfl
 | _,_,_,.cons r t,.cons r' t'=>by rw[r.inj r',Y8.inj t t']
section
variable{X:Cx}{a:A2}{ys:Z V}
theorem E5.of(h:H a=some (.lst xs)):E5 K H a xs:=.inl (.inl h)
theorem Sl.of(h:H a=some (.tup xs)):Sl K H a xs:=.inl h
theorem F'.list(I:F' X aa σ H s)(h:E5 X.K H a xs):∃ its:Z A1,Y8 xs its/\PlainL s.heap a its.toArray/\xs.length<=sizeLine:=by
 rcases h with h | ⟨o,its,n,Y,hc,hd,hs,hz,r⟩
 .obtain⟨z,its,n,r,e⟩:=h.ok I.hok
  exact⟨its,r,⟨_,n,e,rfl,rfl,rfl⟩,z⟩
 .refine⟨its.toList,r,⟨o,n,I.kIn a o Y,hc,hd,by simpa using hs⟩,?_⟩
  have e:=r.length;simp only[BF] at e;lia
theorem F'.tuple(I:F' X aa σ H s)(h:Sl X.K H a xs):∃ its:Z A1,Y8 xs its/\IsTup s.heap a its.toArray/\xs.length<=sizeLine:=by
 rcases h with h | ⟨o,its,n,Y,hc,hs,hz,r,_⟩
 .obtain⟨z,its,r,p⟩:=(Rd.of h).ok I.hok
  exact⟨its,r,p,z⟩
 .refine⟨its.toList,r,⟨o,I.kIn a o Y,hc,n,by simpa using hs⟩,?_⟩
  have e:=r.length;simp only[BF] at e;lia
theorem F'.list_inj(I:F' X aa σ H s)(h:E5 X.K H a xs)(h':E5 X.K H a ys):xs=ys:=by
 obtain⟨its,r,⟨o,n,e,_,_,d⟩,_⟩:=I.list h;obtain⟨its',r',⟨o',g,e',_,_,d'⟩,_⟩:=I.list h';rw[e] at e';cases e';rw[d] at d';injection d' with b _
 have:its=its':=by simpa using EB Array.toList b
 subst this;exact r.inj r'
theorem F'.tuple_inj(I:F' X aa σ H s)(h:Sl X.K H a xs)(h':Sl X.K H a ys):xs=ys:=by
 obtain⟨its,r,⟨o,e,_,n,d⟩,_⟩:=I.tuple h;obtain⟨its',r',⟨o',e',_,g,d'⟩,_⟩:=I.tuple h';rw[e] at e';cases e';rw[d] at d';injection d' with b _
 have:its=its':=by simpa using EB Array.toList b
 subst this;exact r.inj r'
end
abbrev Cx.wish(X:Cx)(E:LM):Cx:={ X with xe:=E }
abbrev Cx.nox(X:Cx):Cx:=X.wish λ_ _=>False
theorem Cx.Ok.wish{X:Cx}(ok:X.Ok)(E:LM):(X.wish E).Ok :=
 ⟨ok.mod,ok.kind,ok.glob,ok.blt,ok.above,ok.inj,ok.has,ok.cab,ok.hd,ok.frames,ok.stk,ok.exf,ok.bs,ok.bsz,ok.noex,ok.exfs,ok.funs,ok.frf⟩
theorem Cx.Ok.unwish{X:Cx}(ok:(X.wish E).Ok):X.Ok :=
 ⟨ok.mod,ok.kind,ok.glob,ok.blt,ok.above,ok.inj,ok.has,ok.cab,ok.hd,ok.frames,ok.stk,ok.exf,ok.bs,ok.bsz,ok.noex,ok.exfs,ok.funs,ok.frf⟩
section
variable{X:Cx}
theorem F'.wish(I:F' X aa σ H s)(E:LM):F' (X.wish E) aa σ H s:=⟨I.ok.wish E,I.os,I.bare,I.base,I.loc,I.cell,I.free,I.freeC,I.pin,I.hok,I.len⟩
theorem F'.unwish(I:F' (X.wish E) aa σ H s):F' X aa σ H s:=⟨I.ok.unwish,I.os,I.bare,I.base,I.loc,I.cell,I.free,I.freeC,I.pin,I.hok,I.len⟩
theorem SP.unwish{D:LP}{f:Flow}(h:SP (X.wish E) aa D f s'):SP X aa D f s':=by
 cases f with
 | next=>obtain⟨σ',H',I,q⟩:=h;exact⟨σ',H',I.unwish,q⟩
 | brk=>obtain⟨σ',H',I,q⟩:=h;exact⟨σ',H',I.unwish,q⟩
 | cont=>obtain⟨σ',H',I,q⟩:=h;exact⟨σ',H',I.unwish,q⟩
 | ret u=>obtain⟨v,σ',H',I,r,q⟩:=h;exact⟨v,σ',H',I.unwish,r,q⟩
theorem R7.nox{st:Z Df}{t:TS}(h:R7 X.nox st t):R7 X st t:=λaa s σ H D I hw =>
 BQ (h aa s σ H D (I.wish _) hw) (λ_ _ q=>q.unwish) λ_ _ z=>False.elim z
end
section
variable{X:Cx}{st:Df}{al:Z Df}{t u:TS}
def pX:TS:=λD σ H=>D.nx σ H
def PX(t u:TS):TS:=λD σ H=>t { D with nx:=u D } σ H
theorem d6:R7 X [] pX:=λ_ _ σ H _ I h=>IS ⟨σ,H,I,h⟩
theorem T6(h1:PS X st t)(h2:R7 X al u):R7 X (st::al) (PX t u):=by
 intro aa s σ H D I h;refine wpAny_execs_cons (V2 (h1 aa s σ H { D with nx:=u D } I h) λf s1 q=>?_);cases f with
 | next =>
  obtain⟨σ',H',R,q⟩:=q;exact h2 aa s1 σ' H' D R q
 | ret v=>exact q
 | brk=>exact q
 | cont=>exact q
theorem Jr(h1:PS X st t):R7 X [st] t:=by
 intro aa s σ H D I h;refine wpAny_execs_cons (V2 (h1 aa s σ H D I h) λf s1 q=>?_);cases f with
 | next=>exact IS q
 | ret v=>exact q
 | brk=>exact q
 | cont=>exact q
def ox:TS:=λD σ H=>D.ct σ H
theorem hU:PS X (.Continue pos) ox:=λ_ _ σ H _ I h=>wpAny_Continue ⟨σ,H,I,h⟩
theorem F'.quiet(I:F' X aa σ H s):interactive X.env=false:=by simp[interactive,I.ok.kind]
def TF(te:TE):TS:=λD σ H=>te σ H λ_ H1=>D.nx σ H1
theorem S3(he:PE X e te)(hs:swapsWith e none pos.line X.env=pure false:=by rfl):PS X (.Expr e pos) (TF te):=by
 intro aa s σ H D I h;exact wpAny_Expr_any (V2 (he aa s σ H _ I h) λv s1 ⟨x,H1,I1,r1,q1⟩=>⟨σ,H1,I1,q1⟩) I.quiet hs
def gv(te:TE):TS:=λD σ H=>te σ H D.rt
theorem D6(he:PE X e te):PS X (.Return (some e) pos) (gv te):=by
 intro aa s σ H D I h;exact wpAny_Return_some (V2 (he aa s σ H _ I h) λv s1 ⟨x,H1,I1,r1,q1⟩=>⟨x,σ,H1,I1,r1,q1⟩)
def nT(c:TT)(t u:TS):TS:=λD σ H=>c σ H λb H1=>if b=true then t D σ H1 else u D σ H1
theorem d9{c:C3}{a b:Z Df}(hc:PT X c tc)(ha:R7 X a t)(hb:R7 X b u):PS X (.If c a b pos) (nT tc t u):=by
 intro aa s σ H D I h;refine wpAny_If (V2 (hc aa s σ H _ I h) λd s1 ⟨H1,I1,q1⟩=>?_);cases d with
 | true=>exact ha aa s1 σ H1 D I1 q1
 | false=>exact hb aa s1 σ H1 D I1 q1
end
abbrev TG:=V->St->Hp->(St->Hp->Prop)->Prop
abbrev NP:=Z V->St->Hp->(St->Hp->Prop)->Prop
def PG(X:Cx)(a:C3)(t:TG):Prop :=
 ∀ (aa:LK) (s:A4) (σ:St) (H:Hp) (v:V) (u:A1) (Q:St->Hp->Prop),F' X aa σ H s->Yu v u->t v σ H Q ->
  wpAny (model X.prog X.w) X.A (assign a X.env u) (λ_ s'=>∃ σ' H',F' X aa σ' H' s'/\Q σ' H') X.xe s
def OH(X:Cx)(ts:Z C3)(t:NP):Prop :=
 ∀ (aa:LK) (s:A4) (σ:St) (H:Hp) (vs:Z V) (us:Z A1) (Q:St->Hp->Prop),F' X aa σ H s->Y8 vs us->t vs σ H Q ->
  wpAny (model X.prog X.w) X.A (assignInOrder ((assignEach ts X.env).map (·.2)) us) (λ_ s'=>∃ σ' H',F' X aa σ' H' s'/\Q σ' H') X.xe s
abbrev WD:=V->V->V->Hp->(Hp->Prop)->Prop
def b7(X:Cx)(t:WD):Prop :=
 ∀ (aa:LK) (s:A4) (σ:St) (H:Hp) (o i v:V) (E b u:A1) (Q:Hp->Prop),F' X aa σ H s->Yu o E->Yu i b->Yu v u->t o i v H Q ->
  wpAny (model X.prog X.w) X.A (setItem E b u) (λ_ s'=>∃ H',F' X aa σ H' s'/\Q H') X.xe s
abbrev S':=V->V->Hp->VK->Prop
def dv(X:Cx)(op:Operator)(t:S'):Prop :=
 ∀ (aa:LK) (s:A4) (σ:St) (H:Hp) (x y:V) (v u:A1) (Q:VK),F' X aa σ H s->Yu x v->Yu y u->t x y H Q ->
  wpAny (model X.prog X.w) X.A (inplaceOp op v u) (EP X aa σ Q) X.xe s
section
variable{X:Cx}
def UF(i:Nat):TG:=λv σ H Q=>Q (σ.set i (some v)) H
theorem pA{x:Str}(hN:X.N.Nodup)(hi:X.N[i]?=some x)(hx:Cp X.env.scope x)(hf:X.fn x=true\/X.env.scope.names.lookup x=some .local:=by ext):PG X (.Name x pos) (UF i):=by
 intro aa s σ H v u Q I r h;exact wpAny_assign_Name (Hg I hN hi hx r (λs' R=>⟨_,H,R,h⟩) hf)
def kQ:NP:=λvs σ H Q=>vs=[]/\Q σ H
def ni(t:TG)(u:NP):NP:=λvs σ H Q=>∃ v r,vs=v::r/\t v σ H λσ' H'=>u r σ' H' Q
theorem fF:OH X [] kQ:=by
 intro aa s σ H vs us Q I r h;obtain⟨e,h⟩:=h;subst e;cases r;exact assignInOrder_nil ⟨σ,H,I,h⟩
theorem mD{t:TG}{u:NP}(h1:PG X e t)(h2:OH X es u)
  (hs:(assignEach (e::es) X.env).map (·.2)=assign e X.env::(assignEach es X.env).map (·.2):=by rfl):OH X (e::es) (ni t u):=by
 intro aa s σ H vs us Q I r h;obtain⟨v,a,e1,h⟩:=h;subst e1;cases r with
 | cons r m =>
  rw[hs];refine assignInOrder_cons (V2 (h1 aa s σ H _ _ _ I r h) λ_ s1 ⟨σ1,H1,I1,q1⟩=>?_);exact h2 aa s1 σ1 H1 _ _ Q I1 m q1
def bX(K:KX)(n:Nat)(t:NP):TG:=λv σ H Q=>∃ a xs,v=.ref a/\Sl K H a xs/\xs.length=n/\t xs σ H Q
theorem mK{k:Nat}{t:NP}{n:Nat}(hc:X.calm=true)(h:OH X es t)
  (hn:(assignEach es X.env).length=n:=by rfl) (af:(assignEach es X.env).findIdx? (·.1)=none:=by rfl):PG X (.Tuple es k pos) (bX X.K n t):=by
 intro aa s σ H v u Q I r hw;obtain⟨a,xs,e1,hq,hl,hw⟩:=hw;subst e1;cases r;obtain⟨its,rv,ht,hz⟩:=I.tuple hq;refine assign_Tuple_tuple (I.ok.hd hc) ht (by simp[hn,<- hl,rv.length]) af λh' hx=>?_
 have I1:F' X aa σ H { s with heap:=h' }:=I.kept (t':=s.toks) λb o e=>hx b o (BJ (AN e)) e
 exact h aa _ σ H xs _ Q I1 (by simpa using rv) hw
def ee(to d:TE)(t:WD):TG:=λv σ H Q=>to σ H λo H1=>d σ H1 λi H2=>t o i v H2 λH3=>Q σ H3
theorem mi{o i:C3}{to d:TE}{t:WD}(ho:PE X o to)(hi:PE X i d)(hs:b7 X t)
  (ha:∀ v,assign (.Subscript o i pos) X.env v=(do
   let E <- holding [v] (eval o X.env)
   let b <- holding [v,E] (eval i X.env)
   standAt pos
   holding [v,E,b] (setItem E b v)
   release [v,E,b] []):=by intro _;rfl):PG X (.Subscript o i pos) (ee to d t):=by
 intro aa s σ H v u Q I r h;rw[ha];refine AA (BP (V2 (ho aa s σ H _ I h) λE s1 zz=>?_));obtain⟨x,H1,I1,r1,q1⟩:=zz;refine AA (BP (V2 (hi aa s1 σ H1 _ I1 q1) λb s2 zz=>?_));obtain⟨y,H2,I2,r2,q2⟩:=zz;refine AA (DO (AA (BP (V2 (hs aa s2 σ H2 x y v E b u _ I2 r1 r2 r q2) λ_ s3 ⟨H3,R,q3⟩=>?_))));exact wpAny_release ⟨σ,H3,R,q3⟩
def UZ(te:TE)(g:TG):TS:=λD σ H=>te σ H λx H1=>g x σ H1 D.nx
theorem di{g:TG}(he:PE X e te)(hg:PG X tg g)(hs:swapsWithSole [tg] e pos.line X.env=pure false:=by rfl)(hw:swappedStores [tg] e X.env=pure none:=by rfl)
  (h1:(assignEach [tg] X.env).map (·.2)=[assign tg X.env]:=by rfl):PS X (.Assign [tg] e pos) (UZ te g):=by
 intro aa s σ H D I h;refine wpAny_Assign_stores (V2 (he aa s σ H _ I h) λv s1 zz=>?_) hs hw;obtain⟨x,H1,I1,r1,q1⟩:=zz;rw[h1];exact V2 (hg aa s1 σ H1 x v _ I1 r1 q1) λ_ s2 q=>q
theorem Gk{x:Str}(hN:X.N.Nodup)(hi:X.N[i]?=some x)(hx:Cp X.env.scope x)(he:PE X e te)(hs:swapsWith e (some (.Name x ao)) pos.line X.env=pure false:=by rfl)(hf:X.fn x=true\/X.env.scope.names.lookup x=some .local:=by ext) :
  PS X (.Assign [.Name x ao] e pos) (UZ te (UF i)):=by
 intro aa s σ H D I h;refine wpAny_Assign_Name (V2 (he aa s σ H _ I h) λv s1 zz=>?_) hs;obtain⟨y,H1,I1,r1,q1⟩:=zz;exact Hg I1 hN hi hx r1 (λs2 I2=>⟨_,H1,I2,q1⟩) hf
def fN(i:Nat)(te:TE)(d:S'):TS:=λD σ H=>∃ x,σ[i]?=some (some x)/\te σ H λy H1=>d x y H1 λz H2=>D.nx (σ.set i (some z)) H2
theorem pB{x:Str}{op:Operator}{d:S'}(hN:X.N.Nodup)(hi:X.N[i]?=some x)(hx:Cp X.env.scope x)(he:PE X e te)(ho:dv X op d)(hf:X.fn x=true\/X.env.scope.names.lookup x=some .local:=by ext) :
  PS X (.AugAssign (.Name x ao) op e pos) (fN i te d):=by
 intro aa s σ H D I h;obtain⟨v,e1,h⟩:=h;obtain⟨m,hn,hl⟩:=I.loc;have b:MQ X.env.scope x:=by rcases hx with k | k;exact .inl k;exact .inr (.inl k)
 obtain⟨u,r,l⟩:=hl i x v hi e1 b;refine wpAny_AugAssign_Name ?_;have go:wpAny (model X.prog X.w) X.A (eval e X.env) (λw s₂=>wpAny (model X.prog X.w) X.A (inplaceOp op u w) (λr s₃=>wpAny (model X.prog X.w) X.A (storeName X.env x r) (λ_=>SP X aa D .next) X.xe s₃) X.xe s₂) X.xe s:=by
  refine V2 (he aa s σ H _ I h) λw s1 zz=>?_;obtain⟨y,H1,I1,r1,q1⟩:=zz
  refine V2 (ho aa s1 σ H1 v y u w _ I1 r r1 q1) λz s2 zz=>?_;obtain⟨zv,H2,I2,r2,q2⟩:=zz
  exact Hg I2 hN hi hx r2 (λs3 R=>⟨_,H2,R,q2⟩) hf
 rcases l with⟨Y,hm⟩ | ⟨Y,c,hc,a⟩
 .exact wpAny_loadName_local I.ok.kind Y hn hm go
 .rcases Y with Y | Y
  .exact wpAny_loadName_cell I.ok.kind Y hc a go
  .rcases hx with k | k
   .have:X.env.scope.names.lookup x=some .free:=Y
    rw[k] at this;cases this
   .have:X.env.scope.names.lookup x=some .free:=Y
    rw[k] at this;cases this
def ny(f:Int->Int->Int):S':=λx y H Q=>∃ i j,x=.int i/\y=.int j/\Q (.int (f i j)) H
theorem pC:dv X .Add (ny λi j=>i+j):=by
 intro aa s σ H x y v u Q I r1 r2 h;obtain⟨i,j,e1,e2,q⟩:=h;subst e1;subst e2;obtain⟨t,rfl⟩:=r1;obtain⟨t',rfl⟩:=r2;exact iadd_int ⟨.int _,H,I.tok _,⟨_,rfl⟩,q⟩
def oj(c:TT)(tb:TS):TS:=λD σ H=>∃ W:Nat->St->Hp->Prop,(∃ m,W m σ H)/\∀ m σ H,W m σ H ->
 c σ H λb H1=>if b=true then ∃ N:St->Hp->Prop,(∀ σ' H',N σ' H'->∃ m',m'<m/\W m' σ' H')/\tb { D with nx:=N,ct:=N,bk:=D.nx } σ H1 else D.nx σ H1
theorem pI{c:C3}(hp:PassesOwn (model X.prog X.w) X.A X.env X.xe)(hc:PT X c tc)(hb:R7 X body tb):PS X (.While c body [] pos) (oj tc tb):=by
 intro aa s σ H D I h;obtain⟨W,⟨m0,w0⟩,l⟩:=h;refine wpAny_While (codeAny_whileLoop (λn s'=>∃ σ' H',F' X aa σ' H' s'/\W n σ' H') ?_ m0 ⟨σ,H,I,w0⟩);rintro n s1 ⟨σ1,H1,I1,w1⟩;refine FF hp (V2 (hc aa s1 σ1 H1 _ I1 (l n σ1 H1 w1)) λb s2 ⟨H2,I2,q2⟩=>?_);cases b with
 | true =>
  obtain⟨N,hN,q2⟩:=q2;rw[AE rfl];refine FF hp (V2 (hb aa s2 σ1 H2 _ I2 q2) λf s3 q3=>?_);cases f with
  | next =>
   obtain⟨σ3,H3,R,d⟩:=q3;obtain⟨m',hm,a⟩:=hN σ3 H3 d;exact⟨m',hm,σ3,H3,R,a⟩
  | cont =>
   obtain⟨σ3,H3,R,d⟩:=q3;obtain⟨m',hm,a⟩:=hN σ3 H3 d;exact⟨m',hm,σ3,H3,R,a⟩
  | brk=>exact q3
  | ret v=>exact q3
 | false =>
  rw[AK CN];exact IS ⟨σ1,H2,I2,q2⟩
end
structure It where
 go:Nat->Hp->Prop
 yld:Nat->Hp->V->Hp->Prop
 stop:Nat->Hp->Prop
def E7(X:Cx)(aa:LK)(H:Hp)(b:A2):Prop :=
 H b=none/\b≠X.env.locals/\b∉X.fs/\(b∈X.ex\/X.s₀.heap.objs.size<=b)/\(∀ x c,X.env.cells.lookup x=some c->c≠b)/\∀ p∈X.pn++aa,p.1≠b
theorem F'.fpOk{X:Cx}{b:A2}(I:F' X aa σ H s)(hb:s.heap.objs.size<=b)(hn:H' b=none):E7 X aa H' b:=by
 refine⟨hn,JF (AO I.lt hb),I.nofs hb,.inr (BC I.sz hb),λx c e z=>?_,λp hp z=>?_⟩
 .obtain⟨v,q⟩:=I.cell x c e
  exact absurd (AO q.lt (by rw[z];exact hb)) (DI _)
 .exact absurd (AO (AN (I.pin p hp).1) (by rw[z];exact hb)) (DI _)
def HdS(A:C0)(h:G2):Prop:=A.handled=none\/∃ e,A.handled=some (.ref e)/\ChX h e
def ND(X:Cx):Prop:=∀ aa σ H s,F' X aa σ H s->HdS X.A s.heap
theorem ND.calm{X:Cx}(h:X.calm=true):ND X:=λ_ _ _ _ I=>.inl (I.ok.hd h)
def Cm:Bool->Cx->Prop
 | false,X=>X.calm=true
 | true,X=>ND X
structure L3 (b:Bool) (P:Program) (w:World) (K:KX) (tg:Expr) (J:It) (fp:List Addr) (it:Addr) (tn:Nat->Heap->Prop):Prop where
 mem:it∈fp
 obj:∀ i h,tn i h->∀ b∈fp,∃ o,h.get? b=some o/\∀ v,o.data≠.cell v
 keep:∀ i h h',tn i h->(∀ b∈fp,∀ o,h.get? b=some o->h'.get? b=some o)->tn i h'
 item:∀ (X:Cx),X.prog=P->X.w=w->X.K=K->Cm b X->∀ (i:Nat) (aa:LK) (s:Shared) (σ:St) (H:Hp) (E:LM),F' X aa σ H s->(∀ b∈fp,E7 X aa H b)->tn i s.heap->J.go i H ->
  wpAny (model P w) X.A (pyNext (.ref it)) (λr s1=>∃ u,r=some u /\
   wpAny (model P w) X.A (letOwnedTupleGo tg (.ref it) u) (λ_ s2=>∃ x H',F' X aa σ H' s2/\Yu x u/\J.yld i H x H'/\tn (i+1) s2.heap/\∀ b∈fp,H' b=none) E s1) E s
 done:∀ (X:Cx),X.prog=P->X.w=w->X.K=K->Cm b X->∀ (i:Nat) (aa:LK) (s:Shared) (σ:St) (H:Hp) (E:LM),F' X aa σ H s->(∀ b∈fp,E7 X aa H b)->tn i s.heap->J.stop i H ->
  wpAny (model P w) X.A (pyNext (.ref it)) (λr s1=>r=none/\F' X aa σ H s1) E s
 self:∀ (A:Around) (i:Nat) (s:Shared) (Q:LM) (E:LM),tn i s.heap->Q (.ref it) s->wpAny (model P w) A (pyIter (.ref it)) Q E s
abbrev QQ:=L3 false
theorem L3.weak{J:It}{tn:Nat->G2->Prop}(T:L3 true P w K tg J fp it tn):QQ P w K tg J fp it tn :=
 ⟨T.mem,T.obj,T.keep,λX h1 h2 h3 hc=>T.item X h1 h2 h3 (ND.calm hc),λX h1 h2 h3 hc=>T.done X h1 h2 h3 (ND.calm hc),T.self⟩
abbrev TI:=St->Hp->(It->Hp->Prop)->Prop
def dZ(b:Bool)(X:Cx)(aa:LK)(σ:St)(tg:C3)(R:It->Hp->Prop)(k:A1)(s2:A4):Prop :=
 ∃ (it:A2) (fp:Z A2) (tn:Nat->G2->Prop) (J:It) (H':Hp),k=.ref it/\F' X aa σ H' s2/\L3 b X.prog X.w X.K tg J fp it tn/\tn 0 s2.heap/\(∀ b∈fp,E7 X aa H' b)/\R J H'
abbrev ie:=dZ false
def NJ(b:Bool)(X:Cx)(tg iter:C3)(wi:TI):Prop :=
 ∀ (aa:LK) (s:A4) (σ:St) (H:Hp) (R:It->Hp->Prop),F' X aa σ H s->wi σ H R ->
  wpAny (model X.prog X.w) X.A (eval iter X.env) (λv s1=>wpAny (model X.prog X.w) X.A (pyIter v) (dZ b X aa σ tg R) X.xe s1) X.xe s
abbrev PI:=NJ false
theorem NJ.weak{X:Cx}{wi:TI}(h:NJ true X tg iter wi):PI X tg iter wi:=λaa s σ H R I q=>BQ (h aa s σ H R I q) (λv s1 z=>BQ z (λu s2 zz=>by obtain⟨it,fp,tn,J,H',a,b,c,d⟩:=zz;exact⟨it,fp,tn,J,H',a,b,c.weak,d⟩) λ_ _ z=>z) λ_ _ z=>z
theorem UO{M:Model}{o:Obj}{n:String}(ho:s.heap.get? it=some o)(hc:o.cls=.type n)(hd:o.data=.fields vs)
   (hn:["enumerate","zip","dict_itemiterator","dict_reverseitemiterator","odict_iterator","itertools.zip_longest","itertools.pairwise"].contains n=false) (j:Q () s):wpAny M A (letOwnedTupleGo tg (.ref it) u) Q E s:=by
 unfold letOwnedTupleGo;cases tg<;>first
   | exact AC j
   | (cases u<;>first
       | exact AC j
       | (refine AA (wpAny_load ho ?_)
          rw[hc,hd];show wpAny M A (if(["enumerate","zip","dict_itemiterator","dict_reverseitemiterator","odict_iterator","itertools.zip_longest","itertools.pairwise"].contains n&&vs[0]?==some (rawInt _))=true then _ else _) Q E s;rw[AK (by intro h;rw[hn,Bool.false_and] at h;cases h)];exact AC j))
def UQ(K:KX)(a:A2):It :=
 ⟨λi H=>∃ xs x,E5 K H a xs/\xs[i]?=some x,λi H x H'=>H'=H/\∀ xs,E5 K H a xs->xs[i]?=some x,λi H=>∃ xs,E5 K H a xs/\xs.length<=i⟩
def W1(K:KX)(a:A2):It :=
 ⟨λi H=>∃ xs x,Sl K H a xs/\xs[i]?=some x,λi H x H'=>H'=H/\∀ xs,Sl K H a xs->xs[i]?=some x,λi H=>∃ xs,Sl K H a xs/\xs.length<=i⟩
def SG(lo:Int)(n:Nat):It:=⟨λi _=>i<n,λi H x H'=>H'=H/\x=.int (lo+i),λi _=>n<=i⟩
theorem pN(a it:A2):L3 true P w K tg (UQ K a) [it] it (λi h=>h.IsListIter it a i) where
 mem:=by simp
 obj:=λi h st b hb=>by
  have e:b=it:=by simpa using hb
  subst e;obtain⟨o,e,c,d⟩:=st;exact⟨o,e,λv z=>by rw[d] at z;cases z⟩
 keep:=λi h h' st k=>st.at λo e=>k it (by simp) o e
 item:=by
  intro X g hw f hc i aa s σ H E I hf st hg;subst g hw f;obtain⟨xs,x,hq,hx⟩:=hg;obtain⟨its,rv,p,hz⟩:=I.list hq;obtain⟨u,hu,B⟩:=rv.get hx;obtain⟨f0,f1,f2,f3,m,j⟩:=hf it (by simp);refine IE st p.isList (x:=u) (by simpa using hu) λh' R sb=>?_
  have I1:F' X aa σ H { s with heap:=h' }:=I.turned (t':=s.toks) (λb o hb e=>(sb.2 b hb).trans e) f0 f1 f3 m j;obtain⟨o,e,c,d⟩:=id R;exact⟨u,rfl,UO (s:={ s with heap:=h' }) e c d (by decide) ⟨x,H,I1,B,⟨rfl,λys G=>by rw[I.list_inj G hq];exact hx⟩,R,λb hb=>(hf b hb).1⟩⟩
 done:=by
  intro X g hw f hc i aa s σ H E I hf st hg;subst g hw f;obtain⟨xs,hq,hx⟩:=hg;obtain⟨its,rv,p,hz⟩:=I.list hq;obtain⟨f0,f1,f2,f3,m,j⟩:=hf it (by simp);have hl:=rv.length;rcases hc _ _ _ _ I with hh | ⟨e,hh,S⟩
  .exact IL hh st p.isList (by simp;lia) λh' C=>⟨rfl,I.turned (t':=s.toks) (λb o hb e=>C b o hb e) f0 f1 f3 m j⟩
  .exact Xb hh S st p.isList (by simp;lia) λh' C=>⟨rfl,I.turned (t':=s.toks) (λb o hb e=>C b o hb e) f0 f1 f3 m j⟩
 self:=λ_ _ _ _ _ st h=>wpAny_pyIter_listiter st h
variable{Q:VK}{vs:Z V}
theorem kY(a it:A2):QQ P w K tg (W1 K a) [it] it (λi h=>h.IsTupleIter it a i) where
 mem:=by simp
 obj:=λi h st b hb=>by
  have e:b=it:=by simpa using hb
  subst e;obtain⟨o,e,c,d⟩:=st;exact⟨o,e,λv z=>by rw[d] at z;cases z⟩
 keep:=λi h h' st k=>st.at λo e=>k it (by simp) o e
 item:=by
  intro X g hw f hc i aa s σ H E I hf st hg;subst g hw f;obtain⟨xs,x,hq,hx⟩:=hg;obtain⟨its,rv,p,hz⟩:=I.tuple hq;obtain⟨u,hu,B⟩:=rv.get hx;obtain⟨f0,f1,f2,f3,m,j⟩:=hf it (by simp);refine wpAny_pyNext_tuple_item st (show s.heap.IsTuple a its.toArray from p) (x:=u) (by simpa using hu) λh' R sb=>?_
  have I1:F' X aa σ H { s with heap:=h' }:=I.turned (t':=s.toks) (λb o hb e=>(sb.2 b hb).trans e) f0 f1 f3 m j;obtain⟨o,e,c,d⟩:=id R;exact⟨u,rfl,UO (s:={ s with heap:=h' }) e c d (by decide) ⟨x,H,I1,B,⟨rfl,λys G=>by rw[I.tuple_inj G hq];exact hx⟩,R,λb hb=>(hf b hb).1⟩⟩
 done:=by
  intro X g hw f hc i aa s σ H E I hf st hg;subst g hw f;obtain⟨xs,hq,hx⟩:=hg;obtain⟨its,rv,p,hz⟩:=I.tuple hq;obtain⟨f0,f1,f2,f3,m,j⟩:=hf it (by simp);have hl:=rv.length;exact wpAny_pyNext_tuple_end (I.ok.hd hc) st (show s.heap.IsTuple a its.toArray from p) (by simp;lia) λh' C=>⟨rfl,I.turned (t':=s.toks) (λb o hb e=>C b o hb e) f0 f1 f3 m j⟩
 self:=λ_ _ _ _ _ st h=>wpAny_pyIter_tupleiter st h
theorem lU(it:A2)(lo:Int)(n:Nat):QQ P w K tg (SG lo n) [it] it (λi h=>IsRangeIter h it (lo+(i:Nat)*1) ((n:Int) - (i:Nat)) 1) where
 mem:=by simp
 obj:=λi h st b hb=>by
  have e:b=it:=by simpa using hb
  subst e;exact⟨_,st,λv z=>by
   have l:Data.fields _=Data.cell v:=z;cases l⟩
 keep:=λi h h' st k=>k it (by simp) _ st
 item:=by
  intro X g hw f hc i aa s σ H E I hf st hg;subst g hw f;obtain⟨f0,f1,f2,f3,m,j⟩:=hf it (by simp);have W:=Walks.range (prog:=X.prog) (w:=X.w) (I.ok.hd hc) it lo 1 n;refine W.item i s _ _ hg st λv h' tk hv R kk=>?_
  obtain⟨t,rfl⟩:=hv;have I1:F' X aa σ H { s with heap:=h',toks:=tk }:=I.turned (λb o hb e=>kk b o (by simpa using hb) e) f0 f1 f3 m j;refine⟨_,rfl,UO (s:={ s with heap:=h',toks:=tk }) (n:="range_iterator") R rfl rfl (by decide) ⟨.int (lo+i),H,I1,⟨t,?_⟩,⟨rfl,rfl⟩,R,λb hb=>(hf b hb).1⟩⟩;rw[Int.mul_one]
 done:=by
  intro X g hw f hc i aa s σ H E I hf st hg;subst g hw f;obtain⟨f0,f1,f2,f3,m,j⟩:=hf it (by simp);exact wpAny_pyNext_range_end (I.ok.hd hc) st (by have:n<=i:=hg;lia) λh' C=>⟨rfl,I.turned (t':=s.toks) (λb o hb e=>C b o hb e) f0 f1 f3 m j⟩
 self:=λ_ _ _ _ _ st h=>wpAny_pyIter_rangeiter st h
section
variable{X:Cx}
def UU(K:KX)(tl:TE):TI:=λσ H R=>tl σ H λx H1=>∃ a,x=.ref a/\(∃ xs,E5 K H1 a xs)/\R (UQ K a) H1
def YY(K:KX)(tl:TE):TI:=λσ H R=>tl σ H λx H1=>∃ a,x=.ref a/\(∃ xs,Sl K H1 a xs)/\R (W1 K a) H1
theorem cF(hl:PE X l tl):NJ true X tg l (UU X.K tl):=by
 intro aa s σ H R I h;refine V2 (hl aa s σ H _ I h) λv s1 zz=>?_;obtain⟨x,H1,I1,r1,q1⟩:=zz
 obtain⟨a,e,⟨xs,hq⟩,q⟩:=q1;subst e;cases r1;obtain⟨its,rv,p,hz⟩:=I1.list hq;refine JR p.isList ?_;refine⟨s1.heap.objs.size,[s1.heap.objs.size],_,_,H1,rfl,I1.kept (t':=s1.toks) λb o e=>AD _ e,pN a _,⟨_,AU _ rfl,rfl,rfl⟩,λb hb=>?_,q⟩;have e:b=s1.heap.objs.size:=by simpa using hb
 subst e;exact I1.fpOk (AT _) (I1.hok.fresh (AT _))
theorem eJ(hl:PE X l tl):PI X tg l (UU X.K tl):=(cF hl).weak
theorem nA(hl:PE X l tl):PI X tg l (YY X.K tl):=by
 intro aa s σ H R I h;refine V2 (hl aa s σ H _ I h) λv s1 zz=>?_;obtain⟨x,H1,I1,r1,q1⟩:=zz
 obtain⟨a,e,⟨xs,hq⟩,q⟩:=q1;subst e;cases r1;obtain⟨its,rv,p,hz⟩:=I1.tuple hq;refine GC (show s1.heap.IsTuple a its.toArray from p) ?_;refine⟨s1.heap.objs.size,[s1.heap.objs.size],_,_,H1,rfl,I1.kept (t':=s1.toks) λb o e=>AD _ e,kY a _,⟨_,AU _ rfl,rfl,rfl⟩,λb hb=>?_,q⟩;have e:b=s1.heap.objs.size:=by simpa using hb
 subst e;exact I1.fpOk (AT _) (I1.hok.fresh (AT _))
theorem XS{R:It->Hp->Prop}{lo hi:Int}{t u v:Tok}(I:F' X aa σ H s)(h1 : -(2^62)<=lo)(h2:lo<2^62)(h3 : -(2^62)<=hi)(h4:hi<2^62)
  (q:R (SG lo (hi - lo).toNat) H):wpAny (model X.prog X.w) X.A (pyIter (.ref s.heap.objs.size)) (ie X aa σ tg R) E { s with heap:=s.heap.push { cls:=.type "range",data:=.fields #[.int lo t,.int hi u,.int 1 v] },toks:=tk }:=by
 refine wpAny_pyIter_range (IsRange.new ..) (small_one h1 h2 h3 h4) ?_;have I1:F' X aa σ H { s with heap:=s.heap.push { cls:=.type "range",data:=.fields #[.int lo t,.int hi u,.int 1 v] },toks:=tk }:=I.kept λb o e=>AD _ e
 refine⟨(s.heap.push { cls:=.type "range",data:=.fields #[.int lo t,.int hi u,.int 1 v] }).objs.size,[(s.heap.push { cls:=.type "range",data:=.fields #[.int lo t,.int hi u,.int 1 v] }).objs.size],_,_,H,rfl,
  I1.kept (t':=tk) λb o e=>AD _ e,lU _ lo (hi - lo).toNat,?_,λb hb=>?_,q⟩
 .have e1:lo+((0:Nat):Int)*1=lo:=by simp
  have e2:(((hi - lo).toNat:Nat):Int) - ((0:Nat):Int)=Builtin.Range.rangeSize lo hi 1:=by rw[rangeSize_one];split<;>lia
  show IsRangeIter _ _ (lo+((0:Nat):Int)*1) ((((hi - lo).toNat:Nat):Int) - ((0:Nat):Int)) 1;rw[e1,e2];exact AU _ rfl
 .have e:b=(s.heap.push { cls:=.type "range",data:=.fields #[.int lo t,.int hi u,.int 1 v] }).objs.size:=by simpa using hb
  subst e;exact I1.fpOk (AT _) (I1.hok.fresh (AT _))
def gI(ta:TA):TI:=λσ H R=>ta σ H λvs H1=>∃ j:Int,vs=[.int j]/\-(2^62)<=j/\j<2^62/\R (SG 0 j.toNat) H1
def lW(ta:TA):TI:=λσ H R=>ta σ H λvs H1=>∃ i j:Int,vs=[.int i,.int j]/\(-(2^62)<=i/\i<2^62/\-(2^62)<=j/\j<2^62)/\R (SG i (j - i).toNat) H1
theorem iX{a:C3}{ta:TA}(hg:Gl X "range")(hm:X.mg "range" = none)(ha:PA X [a] ta)(hs:starEach [a] X.env=[(false,eval a X.env)]:=by rfl):PI X tg (.Call (.Name "range" p) [a] [] pos) (gI ta):=by
 intro aa s σ H R I h;refine Call_ (Jj I hg hm boot_range (EC (V2 (ha pos aa s σ H _ I h) λus s1 zz=>?_) hs rfl));obtain⟨vs,H1,I1,r1,q1⟩:=zz;obtain⟨j,e,q1,q2,q⟩:=q1;subst e;cases r1 with
 | cons r m =>
  cases m;obtain⟨t,rfl⟩:=r;exact call_range_1 (XS I1 (by lia) (by lia) q1 q2 (by simpa using q))
theorem fx{a b:C3}{ta:TA}(hg:Gl X "range")(hm:X.mg "range" = none)(ha:PA X [a,b] ta)(hs:starEach [a,b] X.env=[(false,eval a X.env),(false,eval b X.env)]:=by rfl)(B:starEach [b] X.env=[(false,eval b X.env)]:=by rfl) :
  PI X tg (.Call (.Name "range" p) [a,b] [] pos) (lW ta):=by
 intro aa s σ H R I h;refine Call_ (Jj I hg hm boot_range (EC (V2 (ha pos aa s σ H _ I h) λus s1 ⟨vs,H1,I1,r1,q1⟩=>?_) (by rw[hs,B]) (by rw[B];rfl)));obtain⟨i,j,e,⟨q1,q2,q3,q4⟩,q⟩:=q1;subst e;cases r1 with
 | cons r m =>
  cases m with
  | cons r' m =>
   cases m;obtain⟨t,rfl⟩:=r;obtain⟨t',rfl⟩:=r';exact call_range_2 (XS I1 q1 q2 q3 q4 q)
def h8(wi:TI)(g:TG)(tb:TS):TS:=λD σ H=>wi σ H λJ H1=>∃ W:Nat->Nat->St->Hp->Prop,(∃ m,W 0 m σ H1)/\∀ i m σ H,W i m σ H ->
 (J.stop i H/\D.nx σ H)\/(J.go i H/\∃ N:St->Hp->Prop,(∀ σ' H',N σ' H'->∃ m',m'<m/\W (i+1) m' σ' H')/\∀ x H',J.yld i H x H'->g x σ H' λσ2 H2=>tb { D with nx:=N,ct:=N,bk:=D.nx } σ2 H2)
def X6(fp:Z A2)(h:G2):Z (A2×Obj):=fp.filterMap λb=>(h.get? b).map λo=>(b,o)
theorem Rk{b:A2}{o:Obj}(hb:b∈fp)(e:h.get? b=some o):(b,o)∈X6 fp h:=List.mem_filterMap.mpr ⟨b,hb,by rw[e];rfl⟩
theorem jG{p:A2×Obj}(hp:p∈X6 fp h):p.1∈fp/\h.get? p.1=some p.2:=by
 obtain⟨b,hb,e⟩:=List.mem_filterMap.mp hp;cases q:h.get? b with
 | none=>rw[q] at e;cases e
 | some o =>
  rw[q] at e;have e':(b,o)=p:=BI e;subst e';exact⟨hb,q⟩
theorem F'.pinned(I:F' X aa σ H s)(hf:∀ b∈fp,E7 X aa H b)(ho:∀ b∈fp,∃ o,s.heap.get? b=some o/\∀ v,o.data≠.cell v):F' X (aa++X6 fp s.heap) σ H s :=
 I.pins_of λp hp=>(CB.mp hp).elim (λz=>I.pin p (BX _ z)) λz=>by
  obtain⟨hb,e⟩:=jG z;obtain⟨f0,f1,f2,_⟩:=hf p.1 hb;obtain⟨o,e',d⟩:=ho p.1 hb;rw[e] at e';cases e';exact⟨e,f0,f1,f2,d⟩
theorem F'.unpinned{pl:LK}(I:F' X (aa++pl) σ H s):F' X aa σ H s:=I.pins_of λp hp=>I.pin p (BX _ (CP _ hp))
theorem ml{wi:TI}{g:TG}(hp:PassesOwn (model X.prog X.w) X.A X.env X.xe)(hc:X.calm=true)(hi:PI X tg iter wi)(hg:PG X tg g)(hb:R7 X body tb)
  (hs:∀ x,foldedSetIterable iter X.env x=pure x:=by intro _;rfl):PS X (.For tg iter body [] pos) (h8 wi g tb):=by
 intro aa s σ H D I h;refine wpAny_For (V2 (hi aa s σ H _ I h) λv s1 h1=>V2 h1 λk s2 h2=>?_) hs;obtain⟨it,fp,tn,J,H2,e,I2,T,j,f2,W,⟨m0,w0⟩,l⟩:=h2;subst e
 -- what stays true of E iterator's y through E ak
 have t:∀ {H':Hp},(∀ b∈fp,H' b=none)->∀ b∈fp,E7 X aa H' b:=λhn b hb=>⟨hn b hb,(f2 b hb).2⟩
 refine codeAny_forLoop_any (λn s'=>∃ i σ' H',F' X aa σ' H' s'/\tn i s'.heap/\(∀ b∈fp,H' b=none)/\W i n σ' H') ?_ m0 ⟨0,σ,H2,I2,j,λb hb=>(f2 b hb).1,w0⟩;rintro n s3 ⟨i,σ3,H3,R,c,p,a⟩;rcases l i n σ3 H3 a with⟨stop,qn⟩ | ⟨go,N,hN,step⟩
 .refine FF hp (V2 (T.done X rfl rfl rfl hc i aa s3 σ3 H3 X.xe R (t p) c stop) λr s4 ⟨hr,I4⟩=>?_)
  subst hr;exact IS ⟨σ3,H3,I4,qn⟩
 .refine FF hp (V2 (T.item X rfl rfl rfl hc i aa s3 σ3 H3 X.xe R (t p) c go) λr s4 ⟨u,hr,h4⟩=>?_)
  subst hr;refine FF hp (V2 h4 λ_ s5 zz=>?_);obtain⟨x,H5,I5,r5,y5,ag,aq⟩:=zz;have ar:=I5.pinned (t aq) (T.obj _ _ ag);refine FF hp (V2 (hg _ s5 σ3 H5 x u _ ar r5 (step x H5 y5)) λ_ s6 ⟨σ6,H6,I6,q6⟩=>?_);refine FF hp (V2 (hb _ s6 σ6 H6 _ I6 q6) λf s7 q7=>?_);have again:∀ {σ7:St} {H7:Hp},F' X (aa++X6 fp s5.heap) σ7 H7 s7->N σ7 H7->∃ m,m<n/\∃ i σ' H',F' X aa σ' H' s7/\tn i s7.heap/\(∀ b∈fp,H' b=none)/\W i m σ' H':=λ{σ7 H7} I7 q=>by
   obtain⟨m',hm,w7⟩:=hN σ7 H7 q;refine⟨m',hm,i+1,σ7,H7,I7.unpinned,T.keep _ _ _ ag λb hb o e=>(I7.pin (b,o) (BX _ (BX _ (Rk hb e)))).1,λb hb=>?_,w7⟩;obtain⟨o,e,d⟩:=T.obj _ _ ag b hb;exact(I7.pin (b,o) (BX _ (BX _ (Rk hb e)))).2.1
  cases f with
  | next=>obtain⟨σ7,H7,I7,q⟩:=q7;exact again I7 q
  | cont=>obtain⟨σ7,H7,I7,q⟩:=q7;exact again I7 q
  | brk=>obtain⟨σ7,H7,I7,q7⟩:=q7;exact⟨σ7,H7,I7.unpinned,q7⟩
  | ret v=>obtain⟨z,σ7,H7,I7,r7,q7⟩:=q7;exact⟨z,σ7,H7,I7.unpinned,r7,q7⟩
end
abbrev R2:=V->V->Hp->VK->Prop
def G1(X:Cx)(f:A1->A1->Sem A1)(r:R2):Prop :=
 ∀ (aa:LK) (s:A4) (σ:St) (H:Hp) (x y:V) (v u:A1) (Q:VK),F' X aa σ H s->Yu x v->Yu y u->r x y H Q ->
  wpAny (model X.prog X.w) X.A (f v u) (EP X aa σ Q) X.xe s
def NM(X:Cx)(f:A1->Sem A1)(r:V->Hp->VK->Prop):Prop :=
 ∀ (aa:LK) (s:A4) (σ:St) (H:Hp) (x:V) (v:A1) (Q:VK),F' X aa σ H s->Yu x v->r x H Q ->
  wpAny (model X.prog X.w) X.A (f v) (EP X aa σ Q) X.xe s
def Vf(X:Cx)(f:A1)(r:Z V->Hp->VK->Prop):Prop :=
 ∀ (aa:LK) (s:A4) (σ:St) (H:Hp) (xs:Z V) (us:Z A1) (Q:VK),F' X aa σ H s->Y8 xs us->r xs H Q ->
  wpAny (model X.prog X.w) X.A (call f us) (EP X aa σ Q) X.xe s
def iU(X:Cx)(r:V->Hp->(Bool->Hp->Prop)->Prop):Prop :=
 ∀ (aa:LK) (s:A4) (σ:St) (H:Hp) (x:V) (v:A1) (Q:Bool->Hp->Prop),F' X aa σ H s->Yu x v->r x H Q ->
  wpAny (model X.prog X.w) X.A (truthy v) (TP X aa σ Q) X.xe s
def QT(r:R2)(ta tb:TE):TE:=λσ H Q=>ta σ H λx H1=>tb σ H1 λy H2=>r x y H2 Q
def nF(r:V->Hp->VK->Prop)(ta:TE):TE:=λσ H Q=>ta σ H λx H1=>r x H1 Q
def rI(C:Int->Int->Prop)(g:Int->Int->V):R2:=λx y H Q=>∃ i j,x=.int i/\y=.int j/\C i j/\Q (g i j) H
def NR(g:Int->Int->V):R2:=λx y H Q=>∃ i j,x=.int i/\y=.int j/\Q (g i j) H
def rU(g:Int->V):V->Hp->VK->Prop:=λx H Q=>∃ i,x=.int i/\Q (g i) H
section
variable{X:Cx}{a b c:C3}{tb tc:TE}
theorem UV(ha:PE X a ta)(hb:PE X b tb){R:V->V->Hp->Prop}(I:F' X aa σ H s)
  (h:ta σ H λx H1=>tb σ H1 λy H2=>R x y H2) {Q:LM} {f:A1->A1->Sem A1}
  (hf:∀ v u s2 x y H2,F' X aa σ H2 s2->Yu x v->Yu y u->R x y H2->wpAny (model X.prog X.w) X.A (f v u) Q X.xe s2) :
  wpAny (model X.prog X.w) X.A (eval a X.env) (λv s₁=>wpAny (model X.prog X.w) X.A (eval b X.env) (λu s₂=>wpAny (model X.prog X.w) X.A (f v u) Q X.xe s₂) X.xe s₁) X.xe s:=by
 refine V2 (ha aa s σ H _ I h) λv s1 zz=>?_;obtain⟨x,H1,I1,r1,q1⟩:=zz
 refine V2 (hb aa s1 σ H1 _ I1 q1) λu s2 zz=>?_;obtain⟨y,H2,I2,r2,q2⟩:=zz
 exact hf v u s2 x y H2 I2 r1 r2 q2
theorem bA{op:Operator}{r:R2}(ho:G1 X (binaryOp op) r)(ha:PE X a ta)(hb:PE X b tb):PE X (.BinOp a op b pos) (QT r ta tb):=by
 intro aa s σ H Q I h;exact wpAny_BinOp (UV ha hb I h λv u s2 x y H2 I2 S m q=>ho aa s2 σ H2 x y v u Q I2 S m q)
theorem iV{op:UnaryOp}{r:V->Hp->VK->Prop}(ho:NM X (unaryOp op) r)(ha:PE X a ta):PE X (.UnaryOp op a pos) (nF r ta):=by
 intro aa s σ H Q I h;exact UnaryOp_ (V2 (ha aa s σ H _ I h) λv s1 ⟨x,H1,I1,r1,q1⟩=>ho aa s1 σ H1 x v Q I1 r1 q1)
theorem RY{f:A1->A1->Sem A1}{C:Int->Int->Prop} 
  (rule:∀ (i j:Int) (t u:Tok) (s:A4) (Q:LM) (E:LM),C i j->Q (.int (g i j) s.toks) { s with toks:=s.toks+1 }->wpAny (model X.prog X.w) X.A (f (.int i t) (.int j u)) Q E s) :
  G1 X f (rI C λi j=>.int (g i j)):=by
 intro aa s σ H x y v u Q I S m h;obtain⟨i,j,rfl,rfl,hc,q⟩:=h;obtain⟨t,rfl⟩:=S;obtain⟨t',rfl⟩:=m;exact rule i j t t' s _ _ hc ⟨.int (g i j),H,I.tok _,⟨_,rfl⟩,q⟩
theorem R'{f:A1->A1->Sem A1} 
  (rule:∀ (i j:Int) (t u:Tok) (s:A4) (Q:LM) (E:LM),Q (.int (g i j) s.toks) { s with toks:=s.toks+1 }->wpAny (model X.prog X.w) X.A (f (.int i t) (.int j u)) Q E s) :
  G1 X f (NR λi j=>.int (g i j)):=by
 intro aa s σ H x y v u Q I S m h;obtain⟨i,j,rfl,rfl,q⟩:=h;obtain⟨t,rfl⟩:=S;obtain⟨t',rfl⟩:=m;exact rule i j t t' s _ _ ⟨.int (g i j),H,I.tok _,⟨_,rfl⟩,q⟩
theorem cq{f:A1->A1->Sem A1}{g:Int->Int->Bool}
  (rule:∀ (i j:Int) (t u:Tok) (s:A4) (Q:LM) (E:LM),Q (.bool (g i j)) s->wpAny (model X.prog X.w) X.A (f (.int i t) (.int j u)) Q E s) :
  G1 X f (NR λi j=>.bl (g i j)):=by
 intro aa s σ H x y v u Q I S m h;obtain⟨i,j,rfl,rfl,q⟩:=h;obtain⟨t,rfl⟩:=S;obtain⟨t',rfl⟩:=m;exact rule i j t t' s _ _ ⟨.bl (g i j),H,I,rfl,q⟩
def RM(i j:Int):Prop:=0<j/\j<1073741824
def UE(i j:Int):Prop:=0<=j/\j<=1000000/\i.natAbs<2^64
def PB(i j:Int):Prop:=(-(2^64)<i/\i<2^64)\/(-(2^64)<j/\j<2^64)
theorem PB.ok{i j:Int}(h:PB i j):IntMulOk i j:=by
 rcases h with⟨h1,h2⟩ | ⟨h1,h2⟩
 .exact .of_left (intBits_le_64 h1 h2)
 .exact .of_right (intBits_le_64 h1 h2)
theorem li(k:Nat):(0:Int)<=2^k:=by
 rw[two_pow_cast];exact Int.natCast_nonneg _
theorem gT:G1 X (binaryOp .Add) (NR λi j=>.int (i+j)):=R' λ_ _ _ _ _ _ _ q=>add_int q
theorem kR:G1 X (binaryOp .Sub) (NR λi j=>.int (i - j)):=R' λ_ _ _ _ _ _ _ q=>sub_int q
theorem eR:G1 X (binaryOp .Mult) (rI PB λi j=>.int (i*j)):=RY λ_ _ _ _ _ _ _ hc q=>mul_int q hc.ok
theorem gY:G1 X (binaryOp .FloorDiv) (rI RM λi j=>.int (i / j)):=RY λi j _ _ _ _ _ hc q=>by
 have h1:(0:Int)<j:=hc.1;have h2:j<1073741824:=hc.2;exact floordiv_int (by lia) (by rw[Int.fdiv_eq_ediv_of_nonneg i (by lia)];exact q) (.inl (PyProof.noPylong_small (by lia)))
theorem kW:G1 X (binaryOp .Mod) (rI (λ_ j=>0<j) λi j=>.int (i % j)):=RY λi j _ _ _ _ _ hc q=>by
 have h1:(0:Int)<j:=hc;exact mod_int' (by lia) (by rw[Int.fmod_eq_emod_of_nonneg i (by lia)];exact q)
theorem kM:G1 X (binaryOp .LShift) (rI UE λi j=>.int (i*2^j.toNat)):=RY λ_ _ _ _ _ _ _ hc q=>lshift_int_small hc.1 hc.2.1 hc.2.2 q
theorem gU:G1 X (binaryOp .RShift) (rI (λ_ j=>0<=j) λi j=>.int (i / 2^j.toNat)):=RY λi j _ _ _ _ _ hc q =>
 rshift_int hc (by rw[Int.fdiv_eq_ediv_of_nonneg i (li _)];exact q)
theorem kC:G1 X (binaryOp .BitAnd) (NR λi j=>.int (Builtin.bitAnd i j)):=R' λ_ _ _ _ _ _ _ q=>and_int q
theorem i6:G1 X (binaryOp .BitOr) (NR λi j=>.int (Builtin.bitOr i j)):=R' λ_ _ _ _ _ _ _ q=>or_int q
theorem kc:G1 X (binaryOp .BitXor) (NR λi j=>.int (Builtin.bitXor i j)):=R' λ_ _ _ _ _ _ _ q=>xor_int q
theorem YE{f:A1->Sem A1}{g:Int->Int}
  (rule:∀ (i:Int) (t:Tok) (s:A4) (Q:LM) (E:LM),Q (.int (g i) s.toks) { s with toks:=s.toks+1 }->wpAny (model X.prog X.w) X.A (f (.int i t)) Q E s) :
  NM X f (rU λi=>.int (g i)):=by
 intro aa s σ H x v Q I S h;obtain⟨i,rfl,q⟩:=h;obtain⟨t,rfl⟩:=S;exact rule i t s _ _ ⟨.int (g i),H,I.tok _,⟨_,rfl⟩,q⟩
theorem lu:NM X (unaryOp .USub) (rU λi=>.int (-i)):=YE λ_ _ _ _ _ q=>neg_int q
theorem mX:NM X (unaryOp .Invert) (rU λi=>.int (Builtin.bitNot i)):=YE λ_ _ _ _ _ q=>invert_int q
theorem dh{k k':Bool}(I:F' X aa σ H s)(q:Q (.bl k) H)(e:k=k'):EP X aa σ Q (.bool k') s:=by
 subst e;exact⟨.bl k,H,I,rfl,q⟩
theorem pJ:G1 X (compareOp .Lt) (NR λi j=>.bl (decide (i<j))):=cq λ_ _ _ _ _ _ _ q=>lt_int q
theorem m8:G1 X (compareOp .GtE) (NR λi j=>.bl (decide (j<=i))):=cq λ_ _ _ _ _ _ _ q=>ge_int q
theorem o9:G1 X (compareOp .In) (λx y H Q=>∃ i j,x=.str i/\y=.str j/\Q (.bl (!(Builtin.Str.occurrences j i 0 j.length 1).isEmpty)) H):=by
 intro aa s σ H x y v u Q I S m h;obtain⟨i,j,rfl,rfl,q⟩:=h;obtain⟨t,rfl⟩:=S;obtain⟨t',rfl⟩:=m;exact in_str (dh I q rfl)
theorem ke:G1 X (compareOp .IsNot) (λx y H Q=>y=.non/\Q (.bl (!decide (x=.non))) H):=by
 intro aa s σ H x y v u Q I S m h;obtain⟨rfl,q⟩:=h;cases m;refine isnot_none_gen (dh I q ?_);cases x<;>first
   | (cases S;rfl)
   | (obtain⟨t,rfl⟩:=S;rfl)
theorem Ya(b:C3)(h:op≠.In:=by decide)(h2:op≠.NotIn:=by decide):behindInMarks op b=false:=by
 have e1:(op==CmpOp.In)=false:=by cases op<;>first | rfl | exact absurd rfl h
 have e2:(op==CmpOp.NotIn)=false:=by cases op<;>first | rfl | exact absurd rfl h2
 cases b<;>simp[behindInMarks,e1,e2]
theorem k4{r:R2}(ho:G1 X (compareOp op) r)(ha:PE X a ta)(hb:PE X b tb)(hm:behindInMarks op b=false):PE X (.Compare a [op] [b] pos) (QT r ta tb):=by
 intro aa s σ H Q I h;exact wpAny_Compare1 (UV ha hb I h λv u s2 x y H2 I2 S m q=>ho aa s2 σ H2 x y v u Q I2 S m q) hm
def j9(t:TE):TT:=λσ H Q=>t σ H λx H'=>∃ k,x=.bl k/\Q k H'
theorem iM{r:R2}(ho:G1 X (compareOp op) r)(ha:PE X a ta)(hb:PE X b tb)(hm:behindInMarks op b=false):PT X (.Compare a [op] [b] pos) (j9 (QT r ta tb)):=by
 intro aa s σ H Q I h;refine wpAny_isTrue_Compare1 (V2 (ha aa s σ H _ I h) λv s1 ⟨x,H1,I1,r1,q1⟩=>V2 (hb aa s1 σ H1 _ I1 q1) λu s2 ⟨y,H2,I2,r2,q2⟩ =>
  V2 (ho aa s2 σ H2 x y v u _ I2 r1 r2 q2) λc s3 ⟨z,H3,R,r3,k,e,q3⟩=>?_) hm
 subst e;cases r3;exact GF ⟨H3,R,q3⟩
def ZU(K:KX)(x:V)(H:Hp)(k:Bool):Prop :=
 match x with
 | .non=>k=false
 | .bl b=>k=b
 | .int i=>k=(i != 0)
 | .str y=>y.length<=sizeLine/\k=((y.length:Int) != 0)
 | .byt y=>y.size<=sizeLine/\k=((y.size:Int) != 0)
 | .ref p=>(∃ xs,E5 K H p xs/\k=!xs.isEmpty)\/(∃ xs,Sl K H p xs/\k=!xs.isEmpty)\/∃ kvs,H p=some (.dK kvs)/\k=!kvs.isEmpty
 | _=>False
theorem nU{κ:Type}{kvs:Z (κ×V)}{vs:Z (κ×A1)}(r:KV kvs vs):(!vs.isEmpty)=!kvs.isEmpty:=by
 cases r<;>rfl
theorem Xj(r:Y8 xs its):(!its.toArray.isEmpty)=!xs.isEmpty:=by
 cases r<;>simp
theorem Ey:(sizeLine:Nat)<2^63:=by rw[DQ];decide
theorem kG:iU X (λx H Q=>∃ k,ZU X.K x H k/\Q k H):=by
 intro aa s σ H x v Q I S h;obtain⟨k,e,q⟩:=h;have hl:=Ey;have hs:sizeLine=16777216:=DQ;cases x with
 | non =>
  cases S;have e':k=false:=e;subst e';exact truthy_none ⟨H,I,q⟩
 | bl b =>
  cases S;have e':k=b:=e;subst e';exact GF ⟨H,I,q⟩
 | int i =>
  obtain⟨t,rfl⟩:=S;have e':k=(i != 0):=e;subst e';exact PySem.P.truthy_int ⟨H,I,q⟩
 | str y =>
  obtain⟨t,rfl⟩:=S;obtain⟨G,e'⟩:y.length<=sizeLine/\k=((y.length:Int) != 0):=e;subst e';exact PySem.P.truthy_str (by lia) ⟨H,I.tok _,q⟩
 | byt y =>
  obtain⟨t,rfl⟩:=S;obtain⟨G,e'⟩:y.size<=sizeLine/\k=((y.size:Int) != 0):=e;subst e';exact PySem.W.truthy_bytes (by lia) ⟨H,I.tok _,q⟩
 | ref p =>
  cases S;have e':(∃ xs,E5 X.K H p xs/\k=!xs.isEmpty)\/(∃ xs,Sl X.K H p xs/\k=!xs.isEmpty)\/∃ kvs,H p=some (.dK kvs)/\k=!kvs.isEmpty:=e;rcases e' with⟨xs,hx,e'⟩ | ⟨xs,hx,e'⟩ | ⟨kvs,hx,e'⟩
  .subst e'
   obtain⟨its,r,pl,hz⟩:=I.list hx;have J:=r.length;exact wpAny_truthy_list pl.isList (by simp only[AV];lia) ⟨H,I.tok _,by rw[Xj r];exact q⟩
  .subst e'
   obtain⟨its,r,pl,hz⟩:=I.tuple hx;have J:=r.length;exact truthy_tuple pl (by simp only[AV];lia) ⟨H,I.tok _,by rw[Xj r];exact q⟩
  .subst e'
   obtain⟨hz,hS,vs,r,m⟩:kvs.length<=sizeLine/\(p==sysModules)=false/\∃ vs,KV kvs vs/\s.heap.DictOf (Vp X.prog X.w) p vs:=I.hok p _ hx;have J:kvs.length=vs.length:=JQ r;exact wpAny_truthy_dict hS m (by lia) ⟨H,I.tok _,by rw[nU r];exact q⟩
 | _=>exact(show False from e).elim
theorem n5(ha:PE X a ta)(he:∀ c,isTrue a X.env c=(do let v <- c;standAt a.pos;holding [v] (truthy v))) :
  PT X a (λσ H Q=>ta σ H λx H'=>∃ k,ZU X.K x H' k/\Q k H'):=by
 intro aa s σ H Q I h;exact isTrue_plain (V2 (ha aa s σ H _ I h) λv s1 ⟨x,H1,I1,r1,q1⟩=>kG aa s1 σ H1 x v Q I1 r1 q1) (he _)
theorem oK:G1 X (binaryOp .Add) (λx y H Q=>∃ i j,x=.str i/\y=.str j/\i.length+j.length<=sizeLine/\Q (.str (i++j)) H):=by
 intro aa s σ H x y v u Q I S m h;obtain⟨i,j,rfl,rfl,hz,q⟩:=h;obtain⟨t,rfl⟩:=S;obtain⟨t',rfl⟩:=m;exact add_str (λt' tk=>⟨.str (i++j),H,I.tok _,⟨_,rfl⟩,q⟩) hz
theorem Jg{x:V}(r:Y8 [x] us):∃ u,us=[u]/\Yu x u:=by
 cases r with
 | cons r1 r2=>cases r2;exact⟨_,rfl,r1⟩
theorem Ae{x y:V}(r:Y8 [x,y] us):∃ u J,us=[u,J]/\Yu x u/\Yu y J:=by
 cases r with
 | cons r1 r2 =>
  cases r2 with
  | cons r3 r4=>cases r4;exact⟨_,_,rfl,r1,r3⟩
theorem nO(hc:X.calm=true):Vf X (.builtin "max") (λxs H Q=>∃ i j,xs=[.int i,.int j]/\Q (.int (if j > i then j else i)) H):=by
 intro aa s σ H xs us Q I r h;obtain⟨i,j,rfl,q⟩:=h;obtain⟨u,J,rfl,⟨t,rfl⟩,⟨t',rfl⟩⟩:=Ae r;refine max_two_ints (I.ok.hd hc) λh' tk k=>⟨_,H,I.kept k,?_,q⟩
 by_cases hj:j > i
 .rw[AE hj,AE hj];exact⟨_,rfl⟩
 .rw[AK hj,AK hj];exact⟨_,rfl⟩
theorem gn(hc:X.calm=true):Vf X (.builtin "min") (λxs H Q=>∃ i j,xs=[.int i,.int j]/\Q (.int (if j<i then j else i)) H):=by
 intro aa s σ H xs us Q I r h;obtain⟨i,j,rfl,q⟩:=h;obtain⟨u,J,rfl,⟨t,rfl⟩,⟨t',rfl⟩⟩:=Ae r;refine min_two_ints (I.ok.hd hc) λh' tk k=>⟨_,H,I.kept k,?_,q⟩
 by_cases hj:j<i
 .rw[AE hj,AE hj];exact⟨_,rfl⟩
 .rw[AK hj,AK hj];exact⟨_,rfl⟩
theorem mH:Vf X (.type "int") (λxs H Q=>(∃ i,xs=[.int i]/\Q (.int i) H)\/∃ k,xs=[.bl k]/\Q (.int (if k then 1 else 0)) H):=by
 intro aa s σ H xs us Q I r h;rcases h with⟨i,rfl,q⟩ | ⟨k,rfl,q⟩
 .obtain⟨u,rfl,t,rfl⟩:=Jg r
  exact call_int_int ⟨.int i,H,I,⟨_,rfl⟩,q⟩
 .obtain⟨u,rfl,r1⟩:=Jg r
  cases r1;exact call_int_bool ⟨.int (if k then 1 else 0),H,I.tok _,⟨_,rfl⟩,q⟩
end
structure PD (h:Heap) (x dx C:Addr) (mA:LO):Prop where
 obj:h.get? x=some (instObj C dx)
 ns:h.Ns1 dx mA
 ne:dx≠x
theorem ko(n:h.Ns1 dx mA):∃ od,h.get? dx=some od/\∀ name,lookIn name od=some (mA name):=by
 obtain⟨o,es,ep,ho,hd,Y,_,hm⟩:=n;refine⟨o,ho,λname=>?_⟩;have e:=hm name;unfold nsFind findBy at e;rw[<- Array.find?_toList] at e;unfold lookIn;rw[hd];dsimp only;split
 .rename_i y q
  rw[q] at e;exact EB some e
 .rename_i q
  rw[q] at e;have a:es.toList.any (·.refKey)=false:=by
   rw[List.any_eq_false];intro y G;obtain⟨z,t,l⟩:=Y y (Array.mem_toList_iff.mp G);simp[DictEntry.refKey,l]
  have T:¬ es.toList.any (·.refKey)=true:=by rw[a];exact CN
  rw[AK T];exact EB some e
theorem PD.look{x:A2}(I:PD h x dx C mA):∃ od,PySem.W.InstAt h x (instObj C dx) C (some od)/\∀ name,lookIn name od=some (mA name) :=
 let ⟨od,ho,hl⟩:=ko I.ns
 ⟨od,⟨I.obj,rfl,rfl,ho⟩,hl⟩
section
variable{x f:A2}{v:A1}
end
section
variable{a:A2}{aN:Z (Str×V)}
theorem o8(hok:Mp P w H h)(e:H a=some (.ins C dx fs)):∃ mA,PD h a dx C mA/\(∀ f,Na (fs.lookup f) (mA f))/\PySem.Within mA (fs.map (·.1))/\fs.length<=1000/\H dx=some (.own a):=by
 obtain⟨d,z,ne,ob,mA,n,r,q⟩:=(show Yr P w H h a (.ins C dx fs) from hok a _ e);exact⟨mA,⟨ob,n,ne⟩,r,q,z,d⟩
end
structure WE (K:KX) (C:Addr):Prop where
 pg:plainGet K C Str.empty=true
 hd:PySem.W.hasDictIn K C=true
 po:PySem.W.plainOver K C=true
 sa:PySem.W.findIn K (.ref C) "__setattr__" = some (some (.builtin "object.__setattr__"))
theorem WE.get(c:WE K C)(f:Str):plainGet K C f=true:=c.pg
section
variable{X:Cx}{a:A2}{f:Str}{v:V}
theorem jU{Q:LM}(hb:attributeBase e f env (eval e env)=eval e env)
  (h:wpAny (model prog w) A (eval e env) (λo s₁=>wpAny (model prog w) A (getAttr o f true) Q E s₁) E s):wpAny (model prog w) A (eval (.Attribute e f pos) env) Q E s :=
 Attribute_any_ h (by rw[arm_eval_Attribute,hb])
end
section
variable{X:Cx}{o:C3}{f:Str}{tv:TE}
end
section
variable{X:Cx}{Q:LM}{c:A1}{b:Bool}
inductive LW (K:KX) (H:Hp):V->Value->Prop where
 | non:LW K H .non (.type "NoneType")
 | bl (x:Bool):LW K H (.bl x) (.type "bool")
 | int (i:Int):LW K H (.int i) (.type "int")
 | str (x:Str):LW K H (.str x) (.type "str")
 | flt (x:UInt64):LW K H (.flt x) (.type "float")
 | lst {a:Addr} {xs:List V} (e:H a=some (.lst xs)):LW K H (.ref a) (.type "list")
 | frz {a:Addr} {o:Obj} {xs:List V} (e:H a=some (.frz o (.lst xs))):LW K H (.ref a) (.type "list")
 | tup {a:Addr} {xs:List V} (e:H a=some (.tup xs)):LW K H (.ref a) (.type "tuple")
 | dK {a:Addr} {kvs:List (Vz×V)} (e:H a=some (.dK kvs)):LW K H (.ref a) (.type "dict")
 | dT {a:Addr} {kvs:List (List Vz×V)} (e:H a=some (.dT kvs)):LW K H (.ref a) (.type "dict")
 | ins {a C dx:Addr} {fs:List (Str×V)} (e:H a=some (.ins C dx fs)) (cl:WE K C) (ha:PySem.W.findIn K (.ref C) "__class__" = some (some (.builtin "object.__class__")))
  (hn:PySem.W.specialIn K (.builtin "object.__class__") "__get__" = some (some (.builtin "getset_descriptor.__get__"))) (al:PySem.W.takesIn K (.builtin "object.__class__")=some true)
  (hm:PySem.W.mroIn K C (.type "object")=some true):LW K H (.ref a) (.ref C)
theorem E1{x:V}{t:A1}(I:F' X aa σ H s)(S:Yu x u)(ty:LW X.K H x t)(e:PySem.W.kitOne X.K t c=some b)(h:∀ tk,Q (.bool b) { s with toks:=tk }) :
  wpAny (model X.prog X.w) A (call (.builtin "isinstance") [u,c]) Q E s:=by
 cases ty with
 | non=>cases (show u=Value.none from S);exact CY PySem.W.kitx_none I.kIn FM e (λz=>nomatch z) h
 | bl y=>cases (show u=Value.bool y from S);exact CY PySem.W.kitx_bool I.kIn FM e (λz=>nomatch z) h
 | int i=>obtain⟨t,q⟩:=(show ∃ t,u=Value.int i t from S);cases q;exact CY PySem.W.kitx_int I.kIn FM e (λz=>nomatch z) h
 | str y=>obtain⟨t,q⟩:=(show ∃ t,u=Value.str y t from S);cases q;exact CY PySem.W.kitx_str I.kIn FM e (λz=>nomatch z) h
 | flt y=>obtain⟨t,q⟩:=(show ∃ t,u=Value.float y t from S);cases q;exact CY PySem.W.kitx_float I.kIn FM e (λz=>nomatch z) h
 | @lst a xs ea =>
  cases (show u=Value.ref a from S);obtain⟨_,_,n,_,h1⟩:=(show Yr X.prog X.w H s.heap a (.lst xs) from I.hok a _ ea);exact CY LD I.kIn ⟨_,h1,rfl⟩ e (λz=>nomatch z) h
 | @frz a ob xs ea =>
  cases (show u=Value.ref a from S);obtain⟨_,_,_,n,_,h1⟩:=(show Yr X.prog X.w H s.heap a (.frz ob (.lst xs)) from I.hok a _ ea);exact CY LD I.kIn ⟨_,h1,rfl⟩ e (λz=>nomatch z) h
 | @tup a xs ea =>
  cases (show u=Value.ref a from S);obtain⟨_,_,_,p⟩:=(show Yr X.prog X.w H s.heap a (.tup xs) from I.hok a _ ea);obtain⟨o,h1,h2,_⟩:=p;exact CY kitx_tuple I.kIn ⟨o,h1,h2⟩ e (λz=>nomatch z) h
 | @dK a kvs ea =>
  cases (show u=Value.ref a from S);obtain⟨_,_,vs,_,p⟩:=(show Yr X.prog X.w H s.heap a (.dK kvs) from I.hok a _ ea);obtain⟨o,es,ep,h1,h2,_⟩:=p;exact CY kitx_dict I.kIn ⟨o,h1,h2.1⟩ e (λz=>nomatch z) h
 | @dT a kvs ea =>
  cases (show u=Value.ref a from S);obtain⟨_,_,xs,_,o,es,ep,h1,h2,_⟩:=(show Yr X.prog X.w H s.heap a (.dT kvs) from I.hok a _ ea);exact CY kitx_dict I.kIn ⟨o,h1,h2.1⟩ e (λz=>nomatch z) h
 | @ins a C dx fs ea cl ha hn al hm =>
  cases (show u=Value.ref a from S);obtain⟨mA,f,_⟩:=o8 I.hok ea;obtain⟨od,J,_⟩:=f.look;exact CY (PySem.W.kitx_own (cl.get _) cl.hd ha hn al hm) I.kIn J e (λz=>nomatch z) h
end
variable{E:XK}
structure J2 (k:Nat) (A:Around):Prop where
 hd:A.handled=none
 dp:A.depth+3*k+5<recursionLimit
 un:A.units+16*k+200<cLine
 gd:A.guards=some []
theorem J2.mono{k:Nat}(r:J2 k A)(h:j<=k:=by lia):J2 j A:=⟨r.hd,by have:=r.dp;lia,by have:=r.un;lia,r.gd⟩
theorem J2.deeper{k:Nat}(r:J2 (k+1) A)(env:J1):J2 k (A.deeper env) :=
 ⟨r.hd,by have:=r.dp;show A.depth+1+3*k+5<_;lia,by have:=r.un;show A.units+3+16*k+200<_;lia,r.gd⟩
theorem P6:(A.under (.builtin "type.__call__" ⟨.ref C::us,kw⟩)).depth=A.depth+1:=by
 first | rfl | simp[Around.under,Code.weight,Code.isCreation,Code.isGuard,Code.isCaller,Code.frames,Code.isFrame,guardIds]
theorem X1:(A.under (.builtin "type.__call__" ⟨.ref C::us,kw⟩)).units=A.units+1:=by
 first | rfl | simp[Around.under,Code.cUnits,Code.frames,Code.isFrame]
theorem J2.make{k:Nat}(r:J2 (k+1) A)(C:A2)(us:Z A1)(kw:Z (Str×A1)):J2 k (A.under (.builtin "type.__call__" ⟨.ref C::us,kw⟩)) :=
 ⟨r.hd,by have:=r.dp;rw[P6];lia,by have:=r.un;rw[X1];lia,r.gd⟩
theorem J2.depth{k:Nat}(r:J2 k A):A.depth<recursionLimit:=by have:=r.dp;lia
theorem J2.units{k:Nat}(r:J2 k A):A.units+64<cLine:=by have:=r.un;lia
def QP:TA:=λ_ H Q=>Q [] H
def Hs(ta:TE)(tr:TA):TA:=λσ H Q=>ta σ H λx H1=>tr σ H1 λxs H2=>Q (x::xs) H2
section
variable{X:Cx}{t:TA}
theorem Vo:PA X [] QP:=λ_ _ _ _ H Q I h=>JS ⟨[],H,I,.nil,h⟩
theorem Yl(ha:PE X e te)(hr:PA X es t)(hs:Z0 X.env e es:=by rfl):PA X (e::es) (Hs te t):=by
 intro pos aa s σ H Q I h;rw[hs];show wpAny _ _ (spliced ((false,eval e X.env)::backTo pos (starEach es X.env))) _ _ s;refine JJ (V2 (ha aa s σ H _ I h) λu s1 zz=>?_);obtain⟨x,H1,I1,r1,q1⟩:=zz;exact V2 (hr pos aa s1 σ H1 _ I1 q1) λus s2 ⟨xs,H2,I2,r2,q2⟩=>⟨x::xs,H2,I2,.cons r1 r2,q2⟩
def m4(t:TA):TE:=λσ H Q=>t σ H λxs H1=>xs.length<=sizeLine/\∀ p,H1 p=none->Q (.ref p) (W7 H1 p (.tup xs))
def jT(t:TA):TE:=λσ H Q=>t σ H λxs H1=>xs.length<=sizeLine/\∀ p,H1 p=none->Q (.ref p) (W7 H1 p (.lst xs))
theorem V'{x1}(h:PA X es t):PE X (.Tuple es x1 pos) (m4 t):=by
 intro aa s σ H Q I hq;refine wpAny_Tuple_spliced (V2 (h pos aa s σ H _ I hq) λus s1 ⟨xs,H1,I1,r,z,q⟩=>⟨by rw[<- r.length];exact z,?_⟩);have hf:H1 s1.heap.objs.size=none:=I1.hok.fresh (AT _);refine⟨.ref s1.heap.objs.size,W7 H1 s1.heap.objs.size (.tup xs),I1.laid (t':=s1.toks) (λb u e=>AD _ e) (AT _) ?_,rfl,q _ hf⟩;exact⟨z,us,r,⟨_,AU _ rfl,rfl,_,rfl⟩⟩
theorem bt(h:PA X es t):PE X (.List es pos) (jT t):=by
 intro aa s σ H Q I hq;refine wpAny_List_spliced (V2 (h pos aa s σ H _ I hq) λus s1 ⟨xs,H1,I1,r,z,q⟩=>⟨by rw[<- r.length];exact z,?_⟩);have hf:H1 s1.heap.objs.size=none:=I1.hok.fresh (AT _);refine⟨.ref s1.heap.objs.size,W7 H1 s1.heap.objs.size (.lst xs),I1.laid (t':=s1.toks) (λb u e=>AD _ e) (AT _) ?_,rfl,q _ hf⟩;exact⟨z,us,0,r,AU _ rfl⟩
end
abbrev Sp:=Z V->Hp->VK->XK->Prop
abbrev Xm:=Z J1->Hp->A4->XK->A1->A4->Prop
structure MF (P:Program) (w:World) (K:KX) (mg:LO) (base:Heap) (A:Around) (outer:List Env) (s:Shared) (H:Hp):Prop where
 frames:A.frames=some outer
 mod:Mod K mg base
 bs:∀ b o,base.get? b=some o->s.heap.get? b=some o/\H b=none
 bsz:base.objs.size<=s.heap.objs.size
 funs:s.heap.FunFrames base outer
 frf:∀ b∈E9 outer,H b=none
 hok:Mp P w H s.heap
 bare:AllBare s.gens
def CE(outer:Z J1)(P:Fn)(w:Gf)(H:Hp)(s:A4)(Q:VK)(u:A1)(s':A4):Prop :=
 ∃ v H',s'.os=s.os/\AllBare s'.gens/\Un (E9 outer) [] H H' s.heap s'.heap/\Mp P w H' s'.heap/\Yu v u/\Q v H'
def CR(CX:Xm)(outer:Z J1)(P:Fn)(w:Gf)(H:Hp)(s:A4)(Q:VK)(E:XK)(r:Result)(s':A4):Prop :=
 match r with
 | .ok (.ret u)=>CE outer P w H s Q u s'
 | .ok _=>False
 | .error e=>CX outer H s E e s'
structure LN (P:Program) (w:World) (K:KX) (mg:LO) (base:Heap) (CX:Xm) (k:Nat) (f:Addr) (fd:FuncData) (ps:List Str) (sp:Sp):Prop where
 len:∀ vs H Q E,sp vs H Q E->vs.length=ps.length
 run:∀ (A:Around) (outer:List Env) (s:Shared) (H:Hp) (args:Args) (us:List Value) (vs:List V) (Q:VK) (E:XK),J2 k A->MF P w K mg base A outer s H->BindsTo s fd args (ps.zip us)->Y8 vs us->sp vs H Q E ->
  codeAny (model P w) A (.call (.ref f) args) (CR CX outer P w H s Q E) s
theorem MF.make(e:MF P w K mg base A outer s H)(C:A2)(us:Z A1)(kw:Z (Str×A1)) :
 MF P w K mg base (A.under (.builtin "type.__call__" ⟨.ref C::us,kw⟩)) outer s H:=⟨by first | exact e.frames | (simpa[Around.under,Code.envs,Code.isFrame,pushEnvs] using e.frames),e.mod,e.bs,e.bsz,e.funs,e.frf,e.hok,e.bare⟩
section
variable{X:Cx}
theorem F'.env0(I:F' X aa σ H s):MF X.prog X.w X.K X.mg X.base X.A X.stack s H :=
 ⟨I.ok.frames,I.ok.mod,I.bs,BC I.ok.bsz I.sz,I.stack,I.stkFree,I.hok,I.bare⟩
theorem F'.after(I:F' X aa σ H s)(h:CE X.stack X.prog X.w H s Q u s'):EP X aa σ Q u s':=by
 obtain⟨v,H',os,bare,un,hok,r,q⟩:=h;obtain⟨hh,g,d,t,a⟩:=s';obtain rfl:a=s.os:=os;exact⟨v,H',I.call (h':=hh) (g':=g) (d':=d) (t':=t) (ch:=[]) un hok bare (λb z=>absurd z (by simp)),r,q⟩
end
variable{CX:Xm}{sp:Sp}
def SU(sp:Sp)(dvs:Z V)(E:XK)(t:TA):TE:=λσ H Q=>t σ H λvs H1=>sp (vs++dvs) H1 Q E
def Jz(K:KX)(fd:Ff)(ps:Z Str)(ds:Z A1):Prop :=
 ∀ (s:A4) (us:Z A1),K.In s.heap->(us++ds).length=ps.length->BindsTo s fd ⟨us,[]⟩ (ps.zip (us++ds))
theorem Jz.all(h:∀ us:Z A1,us.length=ps.length->bindArgs fd ⟨us,[]⟩=pure (ps.zip us)):Jz K fd ps []:=λs us _ hl=>by
 rw[EG] at hl ⊢;exact .of_eq (h us hl)
def Pt(CX:Xm)(X:Cx)(E:XK):Prop:=∀ (aa:LK) (σ:St) (H:Hp) (s:A4) (e:A1) (s':A4),F' X aa σ H s->CX X.stack H s E e s'->X.xe e s'
section
variable{X:Cx}{k:Nat}{f:A2}{dvs:Z V}{x:Str}{o:C3}{t:TA}
theorem lr(F:LN X.prog X.w X.K X.mg X.base CX k f fd ps sp)(hr:J2 k X.A)(hb:Jz X.K fd ps ds)(hd:Y8 dvs ds)(hx:Pt CX X E)
  (I:F' X aa σ H s) (r:Y8 vs us) (h:sp (vs++dvs) H Q E):wpAny (model X.prog X.w) X.A (call (.ref f) us) (EP X aa σ Q) X.xe s:=by
 have r2:Y8 (vs++dvs) (us++ds):=r.append hd;have hl:(us++ds).length=ps.length:=by rw[<- r2.length];exact F.len _ _ _ _ h
 refine FL (EF (F.run X.A X.stack s H ⟨us,[]⟩ (us++ds) (vs++dvs) Q E hr I.env0 (hb s us I.kIn hl) r2 h) λr s' hq=>?_);cases r with
 | error e=>exact hx aa σ H s e s' I hq
 | ok fl =>
  cases fl with
  | ret u=>exact I.after hq
  | next=>exact False.elim hq
  | brk=>exact False.elim hq
  | cont=>exact False.elim hq
theorem l4(F:LN X.prog X.w X.K X.mg X.base CX k f fd ps sp)(hr:J2 k X.A)(hg:Gl X x)(hm:X.mg x=some (.ref f))(Y:PySem.W.keepIn X.K (.ref f)=true)(hb:Jz X.K fd ps ds)(hd:Y8 dvs ds)(hx:Pt CX X E)
  (ha:PA X (e::es) t) (l:C2 x:=by decide) (he:Z0 X.env e es:=by rfl) (ac:Z1 pos X.env es:=by rfl) :
  PE X (.Call (.Name x p) (e::es) [] pos) (SU sp dvs E t):=by
 intro aa s σ H Q I h;refine CU (U9 I hg hm ?_ l);refine GD (h₀:=X.base) I.ok.mod.kin Y (V2 (ha pos aa s σ H _ I h) λus s1 ⟨vs,H1,I1,r,q⟩=>⟨I1.kIn,?_⟩) he ac;exact lr F hr hb hd hx I1 r q
end
section
variable{X:Cx}{k:Nat}{f:A2}{x:Str}{o:C3}{aV:Z Keyword}{t tk:TA}
variable{g:Z A1->Z A1->Z A1}{gV:Z V->Z V->Z V}
end
structure FnScope (N P:List Str) (sc:Scope):Prop where
 kind:sc.kind=.function
 co:sc.isCoroutine=false
 gen:sc.isGenerator=false
 nd:N.Nodup
 pre:N.take P.length=P
 par:∀ x∈P,sc.names.lookup x=some .local\/sc.names.lookup x=some .cell
 nofree:∀ y∈sc.names,y.2≠.free
theorem Fx{kindOf:Str->C1 NameKind}{x:Str}:∀ {binds:Z (Str×A1)} {m:LO},(∀ v,(x,v)∉binds)->bindL kindOf binds m x=m x
 | [],_,_=>rfl
 | (n,v)::r,m,h=>by
   unfold bindL;rw[Fx λw hw=>h w (AR _ hw)];split
   · have:x≠n:=by rintro rfl;exact h v AX
     simp[this]
   · rfl
theorem Fv{kindOf:Str->C1 NameKind}{x:Str}:∀ {binds:Z (Str×A1)} {m:LO},(∀ v,(x,v)∉binds)->bindC kindOf binds m x=m x
 | [],_,_=>rfl
 | (n,v)::r,m,h=>by
   unfold bindC;rw[Fv λw hw=>h w (AR _ hw)];split
   · rfl
   · have:x≠n:=by rintro rfl;exact h v AX
     simp[this]
theorem Kj{kindOf:Str->C1 NameKind}{x:Str}{v:A1}:∀ {P:Z Str} {vs:Z A1} {i:Nat} {m:LO},P.Nodup->P[i]?=some x->vs[i]?=some v->kindOf x=some .local ->
  bindL kindOf (P.zip vs) m x=some v
 | [],_,_,_,_,h,_,_=>by simp at h
 | _::_,[],_,_,_,_,h,_=>by simp at h
 | p::P,w::vs,0,m,nd,h1,h2,Y=>by
  simp at h1 h2;subst h1;subst h2;show bindL kindOf ((p,w)::P.zip vs) m p=_;unfold bindL;rw[Fx λv hv=>(DB.mp nd).1 (JY hv).1,AE Y];simp
 | p::P,w::vs,i+1,m,nd,h1,h2,Y=>by
  show bindL kindOf ((p,w)::P.zip vs) m x=_;unfold bindL;exact Kj (i:=i) (DB.mp nd).2 (by simpa using h1) (by simpa using h2) Y
theorem Kh{kindOf:Str->C1 NameKind}{x:Str}{v:A1}:∀ {P:Z Str} {vs:Z A1} {i:Nat} {m:LO},P.Nodup->P[i]?=some x->vs[i]?=some v->kindOf x≠some .local ->
  bindC kindOf (P.zip vs) m x=some v
 | [],_,_,_,_,h,_,_=>by simp at h
 | _::_,[],_,_,_,_,h,_=>by simp at h
 | p::P,w::vs,0,m,nd,h1,h2,Y=>by
  simp at h1 h2;subst h1;subst h2;show bindC kindOf ((p,w)::P.zip vs) m p=_;unfold bindC;rw[Fv λv hv=>(DB.mp nd).1 (JY hv).1,AK Y];simp
 | p::P,w::vs,i+1,m,nd,h1,h2,Y=>by
  show bindC kindOf ((p,w)::P.zip vs) m x=_;unfold bindC;exact Kh (i:=i) (DB.mp nd).2 (by simpa using h1) (by simpa using h2) Y
def LJ(N:Z Str)(vs:Z V):St:=vs.map some++List.replicate (N.length - vs.length) none
def Tv(CX:Xm)(P:Fn)(w:Gf)(K:KX)(mg:LO)(base:G2)(N:Z Str)(aj:Str)(scope:I3)(f:A2)(cd:A1)(A:C0)(outer:Z J1)(s:A4)(H:Hp)(E:XK):Cx where
 prog:=P
 w:=w
 K:=K
 mg:=mg
 base:=base
 A:=A.deeper (envOfC aj scope s.heap.objs.size f cd)
 N:=N
 s₀:=s
 H₀:=H
 env:=envOfC aj scope s.heap.objs.size f cd
 outer:=outer
 stack:=envOfC aj scope s.heap.objs.size f cd::outer
 ex:=[]
 calm:=true
 fn:=λ_=>true
 pn:=[]
 xe:=λe s'=>wpAny (model P w) (A.deeper (envOfC aj scope s.heap.objs.size f cd)) (leaving (envOfC aj scope s.heap.objs.size f cd) e) (λ_ c=>CX outer H s E e c) (λe' c=>CX outer H s E e' c) s'
theorem Hk{n:Nat}{x:Str}(h:sc.names.lookup x=some .cell):∃ c,(cellsFrom n sc.names []).lookup x=some c:=by
 have q:=JE sc.names n [] (.inl h);exact FT.mp q
theorem kH{N:Z Str}{f:A2} 
  (S:FnScope N ps scope) (hd:A.handled=none) (T:MF P w K mg base A outer s H) (hl:vs.length=ps.length) (r:Y8 vs us)
  (x:InCallC s s.heap.objs.size (bindL (envOfC aj scope s.heap.objs.size f cd).kindOf (ps.zip us) λ_=>none) (cellsFrom (s.heap.objs.size+1) scope.names []) (bindC (envOfC aj scope s.heap.objs.size f cd).kindOf (ps.zip us) λ_=>none) s1) :
  F' (Tv CX P w K mg base N aj scope f cd A outer s H E) [] (LJ N vs) H s1:=by
 have ac:ps.length<=N.length:=by have:=EB List.length S.pre;rw[BN] at this;lia
 obtain⟨h1,tk,rfl,Y⟩:=x.done;have g:∀ b:A2,b∉(Tv CX P w K mg base N aj scope f cd A outer s H E).ex:=λb z=>absurd (show b∈([]:Z A2) from z) (by simp)
 refine⟨⟨T.mod,S.kind,rfl,rfl,AT _,λy z c h1 h2=>?_,λy G=>?_,λy c _ h=>?_,λ_=>hd,Around.frames_deeper T.frames,.inr ⟨rfl,rfl⟩,λb z=>absurd z (g b),T.bs,T.bsz,λb _ _=>g b,λb z=>absurd z (g b),T.funs,T.frf⟩,
  rfl,T.bare,Un.kept Y,⟨_,x.toInCall.ns,λi y v h1 h2 h3=>?_⟩,λy c h=>⟨_,x.cell y c h⟩,T.hok.fresh (AT _),λy c h=>?_,λp hp=>absurd (show p∈([]:LK) from hp) (by simp),T.hok.kept Y,?_⟩
 .exact name_of_addr x.apart (BW h1) (BW h2)
 .have G:scope.names.lookup y=some .cell\/scope.names.lookup y=some .free:=G
  rcases G with G | G
  .exact Hk G
  .exact absurd rfl (S.nofree _ (BW G))
 .exact EU (x.above y c (BW h))
 .have hi:i<vs.length:=by
   unfold LJ at h2;by_cases hi:i<vs.length
   .exact hi
   .rw[CK (by simpa using hi)] at h2
    rw[FV] at h2;split at h2<;>cases h2
  have ha:vs[i]?=some v:=by
   unfold LJ at h2;rw[BG (by simpa using hi),AM] at h2;cases e:vs[i]? with
   | none=>rw[e] at h2;cases h2
   | some a=>rw[e] at h2;cases h2;rfl
  obtain⟨u,hu,rv⟩:=r.get ha;have hp:ps[i]?=some y:=by
   rw[<- S.pre,List.getElem?_take_of_lt (by lia)];exact h1
  have d:ps.Nodup:=by rw[<- S.pre];exact S.nd.sublist (JT _ _)
  refine⟨u,rv,?_⟩;rcases S.par y (AH hp) with k | k
  .exact .inl ⟨k,Kj d hp hu k⟩
  .obtain⟨c,e⟩:=Hk (n:=s.heap.objs.size+1) k
   refine .inr ⟨.inl k,c,e,?_⟩;have q:=x.cell y c e;rw[Kh d hp hu (by show scope.names.lookup y≠_;rw[k];decide)] at q;exact q
 .exact T.hok.fresh (EU (x.above y c (BW h)))
 .unfold LJ
  show _=N.length;rw[AQ,AB,EZ];lia
theorem XR{k:Nat}{f:A2}{params:Arguments}{U kV:A1} 
  {i:Array (C1 A1)} {N ps:Z Str} {sp:Sp} (lk:K.lookup f=some ⟨oc,od,.func (PySem.W.fnOf name aj params body scope U kV aw pm an ak ct),i⟩) (ai:PySem.W.codeIn K ak aj=true) (S:FnScope N ps scope)
  (len:∀ vs H Q E,sp vs H Q E->vs.length=ps.length)
  (a:∀ (A:C0) (outer:Z J1) (s:A4) (H:Hp) (vs:Z V) (Q:VK) (E:XK),J2 k (A.deeper (envOfC aj scope s.heap.objs.size f ak))->sp vs H Q E ->
   ∃ t,R7 (Tv CX P w K mg base N aj scope f ak A outer s H E) body t/\t { nx:=λ_ H'=>Q .non H',rt:=Q } (LJ N vs) H) :
  LN P w K mg base CX (k+1) f (PySem.W.fnOf name aj params body scope U kV aw pm an ak ct) ps sp:=by
 refine⟨len,λA outer s H args us vs Q E hr T hb r ac=>?_⟩;have hl:=len _ _ _ _ ac;have M:K.In s.heap:=T.mod.kin.keeps λb o e=>(T.bs b o e).1
 have d:s.heap.NoLimit:=T.mod.nolimit.keeps λb o e=>(T.bs b o e).1
 have c:∀ y∈ps.zip us,scope.names.lookup y.1=some .local\/(scope.names.lookup y.1=some .cell/\((cellsFrom (s.heap.objs.size+1) scope.names []).lookup y.1).isSome=true):=λ⟨n,v⟩ G=>by
  rcases S.par n (JY G).1 with q | q
  .exact .inl q
  .exact .inr ⟨q,JE _ _ _ (.inl q)⟩
 refine codeAny_call_function hr.depth (M _ _ lk) rfl S.co S.gen rfl (codeRec_of M ai) (hb _ _ _ _ ?_);refine wpAny_newFunctionEnv_cells S.kind c λenv he s1 x=>?_
 subst he;refine⟨d.keeps x.toInCall.keep,codeAny_func ?_⟩;obtain⟨t,ht,hq⟩:=a A outer s H vs Q E (hr.deeper _) ac;have I:F' (Tv CX P w K mg base N aj scope f ak A outer s H E) [] (LJ N vs) H s1:=kH S hr.hd T hl r x;refine BQ (ht [] s1 (LJ N vs) H _ I hq) (λfl s' hs=>?_) λe s' hs=>hs
 have B:∀ {σ':St} {H':Hp} {v:V} {u:A1},F' (Tv CX P w K mg base N aj scope f ak A outer s H E) [] σ' H' s'->Yu v u->Q v H'->CE outer P w H s Q u s' :=
  λ{σ' H' v u} J rv q=>⟨v,H',J.os,J.bare,J.base,J.hok,rv,q⟩
 cases fl with
 | ret u =>
  obtain⟨v,σ',H',J,rv,q⟩:=hs;exact B J rv q
 | next =>
  obtain⟨σ',H',J,q⟩:=hs;exact B (v:=V.non) (u:=Value.none) J rfl q
 | brk =>
  obtain⟨_,_,_,q⟩:=hs;exact False.elim q
 | cont =>
  obtain⟨_,_,_,q⟩:=hs;exact False.elim q
section
variable{X:Cx}{x:Str}{t:TA}{id:String}{r:Z V->Hp->VK->Prop}
def TR(r:Z V->Hp->VK->Prop)(t:TA):TE:=λσ H Q=>t σ H λvs H1=>r vs H1 Q
theorem Sv(hc:Vf X (.builtin id) r)(hg:Gl X x)(hm:X.mg x=none)(hv:bootBuiltins x=some (.builtin id))(ha:PA X (e::es) t)(hn:x≠"__name__" := by decide)(l:C2 x:=by decide)
  (he:Z0 X.env e es:=by rfl) (ac:Z1 pos X.env es:=by rfl):PE X (.Call (.Name x p) (e::es) [] pos) (TR r t):=by
 intro aa s σ H Q I h;refine CU (Jj I hg hm hv ?_ hn l);exact PyProof.Rows.callWith_builtin1 (V2 (ha pos aa s σ H _ I h) λus s1 ⟨vs,H1,I1,r1,q1⟩=>hc aa s1 σ H1 vs us Q I1 r1 q1) he ac
theorem R5(hc:Vf X (.type T) r)(hg:Gl X x)(hm:X.mg x=none)(hv:bootBuiltins x=some (.type T))(ha:PA X (e::es) t)(hn:x≠"__name__" := by decide)(l:C2 x:=by decide)
  (he:Z0 X.env e es:=by rfl) (ac:Z1 pos X.env es:=by rfl):PE X (.Call (.Name x p) (e::es) [] pos) (TR r t):=by
 intro aa s σ H Q I h;refine CU (Jj I hg hm hv ?_ hn l);exact EC (V2 (ha pos aa s σ H _ I h) λus s1 ⟨vs,H1,I1,r1,q1⟩=>hc aa s1 σ H1 vs us Q I1 r1 q1) he ac
end
end L2
variable{vs ys dvs:Z L2.V}{te tl ta tb tv td ty:L2.TE}{r r':L2.V->C1 Int->C1 Int->L2.Hp->L2.VK->Prop}{xs:Z (Z L2.Vz×PySem.Addr×PySem.Value)}{σ:L2.St}{H H':L2.Hp}{CX:L2.Xm}{sp:L2.Sp}{fs:Z (C1 Nat)}{tc tt:L2.TT}{m bb:Bool}{y:L2.V}{kvs:Z (Z L2.Vz×L2.V)}{am:PySem.Pos}{aA:PySem.Expr}{az:Z PySem.Expr}{wi:L2.TI}{dct:C1 PySem.Addr}
namespace HT
open PySem PyProof.Rows
section
open PySem.SeqAt

open PySem.MeetsSeq PySem.MeetsSeq2 PySem.MeetsSeq3
end
theorem cat_tup{t b:A2}{vs ws:Z A1}(ht:IsTup s.heap t vs.toArray)(hb:IsTup s.heap b ws.toArray)(hv:vs≠[])
  (h1:ws=[]->Q (.ref t) s) (h2:ws≠[]->Q (.ref s.heap.objs.size) { s with heap:=s.heap.push { cls:=.type "tuple",data:=.seq (vs++ws).toArray } })
  (hsz:vs.length+ws.length<=sizeLine):wpAny (model prog w) A (binaryOp .Add (.ref t) (.ref b)) Q E s:=by
 obtain⟨⟨cls,dd,data,sl⟩,ho,hc,n,hd⟩:=id ht;obtain⟨⟨d,a,data2,c⟩,H,ak,n2,g⟩:=id hb;simp only at hc hd ak g;subst hc hd ak g;have e:vs.toArray++ws.toArray=(vs++ws).toArray:=by simp
 by_cases hw:ws=[]
 .exact LG ⟨_,ho,rfl⟩ ⟨_,H,rfl⟩ KC KY IF HR (HE _ _)
   (tuple_addW1 t b vs.toArray ws.toArray n n2 dd a sl c (by simpa using hv) (by simp[hw])) ⟨ho,H,h1 hw⟩
 .refine LG ⟨_,ho,rfl⟩ ⟨_,H,rfl⟩ KC KY IF HR (HE _ _)
   (tuple_addW2 t b vs.toArray ws.toArray n n2 dd a sl c (by simpa using hv) (by simpa using hw) (by rw[AV,AV];exact hsz)) ⟨ho,H,?_⟩
  rw[e];exact h2 hw
def sIx(n d:Nat):C1 Int->Nat
 | none=>d
 | some v=>if v<0 then(v+(n:Int)).toNat else min v.toNat n
theorem sIx_none(n d:Nat):sIx n d none=d:=rfl
theorem sIx_nat(n d k:Nat):sIx n d (some (k:Int))=min k n:=by
 show(if(k:Int)<0 then((k:Int)+(n:Int)).toNat else min (k:Int).toNat n)=min k n;rw[AK (by lia),BR]
theorem sIx_le(n d:Nat)(hd:d<=n)(o:C1 Int):sIx n d o<=n:=by
 cases o with
 | none=>exact hd
 | some v =>
  show(if v<0 then(v+(n:Int)).toNat else min v.toNat n)<=n;by_cases hv:v<0
  .rw[AE hv];lia
  .rw[AK hv];exact Nat.min_le_right _ _
theorem clip_eq(v:Int)(n d:Nat):(if v<0 then max (v+(n:Int)) 0 else min v (n:Int))=((sIx n d (some v):Nat):Int):=by
 show(if v<0 then max (v+(n:Int)) 0 else min v (n:Int))=(((if v<0 then(v+(n:Int)).toNat else min v.toNat n):Nat):Int);by_cases hv:v<0
 .simp only[AE hv];lia
 .simp only[AK hv];lia
theorem jj(lo hi:C1 Int)(n:Nat):Builtin.Slice.sliceAdjust lo hi 1 (n:Int)=(((sIx n 0 lo:Nat):Int),((sIx n n hi:Nat):Int)):=by
 have h1:¬ ((1:Int)<0):=by lia
 unfold Builtin.Slice.sliceAdjust;simp only[h1,HF];refine II ?_ ?_
 .cases lo with
  | none=>rfl
  | some v=>exact clip_eq v n 0
 .cases hi with
  | none=>rfl
  | some v=>exact clip_eq v n n
theorem hP(i j:Nat):Builtin.Slice.slicePlaces (i:Int) (j:Int) 1=j - i:=by
 unfold Builtin.Slice.slicePlaces;have h1:(1:Int) > 0:=by lia
 simp only[h1,JZ,Int.ediv_one];split<;>lia
theorem Ow{v:A1}{o:C1 Int}{Q:C1 Int->A4->Prop}(p:IsPart v o)(h:Q o s):wpAny (model prog w) A (Builtin.Slice.slicePartIndex v) Q E s:=by
 cases p with
 | none=>exact slicePart_none h
 | int i t=>exact slicePart_int h
theorem Mv{sl:A2}{n:Nat}{Q:Int×Int×Nat->A4->Prop}(hs:s.heap.IsSliceOf sl vl vu .none)(pl:IsPart vl lo)(c:IsPart vu hi)
   (h:Q (((sIx n 0 lo:Nat):Int),1,sIx n n hi - sIx n 0 lo) s):wpAny (model prog w) A (Builtin.Slice.sliceApplied (.ref sl) (pure (n:Int))) Q E s:=by
 obtain⟨os,b,d,o⟩:=id hs;unfold Builtin.Slice.sliceApplied Builtin.Slice.sliceFields;refine AA (AA (CH b o (x:=vl) rfl (AA (CH b o (x:=vu) rfl (AA (CH b o (x:=.none) rfl (AC ?_)))))));refine AA (slicePart_none ?_);show wpAny _ _ (if((1:Int)==0)=true then _ else _) _ _ s;rw[AK (by decide)];refine AA (Ow pl (AA (Ow c (AA (AC ?_)))));show wpAny _ _ (match Builtin.Slice.sliceAdjust lo hi 1 (n:Int) with | (lo,hi)=>pure (lo,(1:Int),Builtin.Slice.slicePlaces lo hi 1)) _ _ s;rw[jj lo hi n];show wpAny _ _ (pure (((sIx n 0 lo:Nat):Int),(1:Int),Builtin.Slice.slicePlaces ((sIx n 0 lo:Nat):Int) ((sIx n n hi:Nat):Int) 1)) _ _ s;rw[hP];exact AC h
theorem nj(xs:Array A1)(i k:Nat):((List.range k).filterMap λ(m:Nat)=>xs[((i:Int)+(m:Int)*1).toNat]?).toArray=((xs.toList.drop i).take k).toArray:=by
 have e:(λ(m:Nat)=>xs[((i:Int)+(m:Int)*1).toNat]?)=λm=>xs[i+m]?:=by
  funext m
  have:((i:Int)+(m:Int)*1).toNat=i+m:=by lia
  rw[this]
 rw[e];have:=pick_run xs i k;rw[JK] at this;have e2:((λx=>xs[x]?) ∘ λx=>i+x)=λm=>xs[i+m]?:=rfl
 rw[e2] at this;rw[this]
theorem getItem_tuple_cut{t sl:A2}(ht:IsTup s.heap t ac)(hs:s.heap.IsSliceOf sl vl vu .none)(pl:IsPart vl lo)(c:IsPart vu hi)
   (hw:¬ (sIx ac.size 0 lo=0/\sIx ac.size ac.size hi=ac.size))
   (h:Q (.ref s.heap.objs.size) { s with heap:=s.heap.push { cls:=.type "tuple",data:=.seq ((ac.toList.drop (sIx ac.size 0 lo)).take (sIx ac.size ac.size hi - sIx ac.size 0 lo)).toArray } })
   (hsz:ac.size<=sizeLine):wpAny (model prog w) A (getItem (.ref t) (.ref sl)) Q E s:=by
 have a:sizeOk (.seq ((ac.toList.drop (sIx ac.size 0 lo)).take (sIx ac.size ac.size hi - sIx ac.size 0 lo)).toArray):=by
   show((ac.toList.drop (sIx ac.size 0 lo)).take (sIx ac.size ac.size hi - sIx ac.size 0 lo)).toArray.size<=sizeLine;rw[AV,BN,CA,BF];lia
 have hj:sIx ac.size ac.size hi<=ac.size:=sIx_le _ _ (AT _) hi;obtain⟨os,b,d,o⟩:=id hs;have e:s.TypeIs (.ref sl) "slice" := ⟨os,b,d⟩;unfold getItem;try with_reducible refine BP ?_
 first | refine AA (AC ?_) | skip
 refine AA (wpAny_sequenceKey ht.typeIs (by decide) ?_);refine AA (CL (name:=Str.ofString "__getitem__") ht.typeIs EQ
   (BY EQ ht.typeIs entry_tuple_getitem ?_ (args_tuple_getitem _ _)))
 show wpAny _ _ (Builtin.Tuple.tupleItemsOf (.ref t) >>= _) _ _ s;refine AA (tupleItemsOf_ ht ?_);refine AA (FS e ?_);rw[AE (by decide)];refine AA (Mv hs pl c ?_);have n:¬ ((((sIx ac.size 0 lo:Nat):Int)==0&&(1:Int)==1&&(sIx ac.size ac.size hi - sIx ac.size 0 lo)==ac.size)=true):=by
   intro q;rw[AW,AW] at q;have q1:((sIx ac.size 0 lo:Nat):Int)=0:=eq_of_beq q.1.1;have q2:sIx ac.size ac.size hi - sIx ac.size 0 lo=ac.size:=eq_of_beq q.2;exact hw ⟨by lia,by lia⟩
 show wpAny _ _ (if(((sIx ac.size 0 lo:Nat):Int)==0&&(1:Int)==1&&(sIx ac.size ac.size hi - sIx ac.size 0 lo)==ac.size)=true then _ else _) _ _ s;rw[AK n,nj];first
   | exact AA (m:=Builtin.Tuple.tupleExact _) (BO (AC ⟨_,rfl,AC h⟩) a)
   | exact AA (m:=Builtin.Tuple.tupleExact _) (BO (AA (AC (AC ⟨_,rfl,AC h⟩))) a)
   | exact AA (AA (m:=Builtin.Tuple.tupleExact _) (BO (AC (AC ⟨_,rfl,AC h⟩)) a))
   | exact AA (AA (m:=Builtin.Tuple.tupleExact _) (BO (AC ⟨_,rfl,AC h⟩) a))
end HT
namespace L2
open PySem PySem.Spec PyProof.Rows
abbrev TO:=St->Hp->(C1 Int->Hp->Prop)->Prop
def PO(X:Cx)(e:C1 C3)(t:TO):Prop :=
 ∀ (aa:LK) (s:A4) (σ:St) (H:Hp) (Q:C1 Int->Hp->Prop),F' X aa σ H s->t σ H Q ->
  wpAny (model X.prog X.w) X.A (evalPart e X.env) (λu s'=>∃ o H',F' X aa σ H' s'/\IsPart u o/\Q o H') X.xe s
def g8:TO:=λ_ H Q=>Q none H
def j3(t:TE):TO:=λσ H Q=>t σ H λx H1=>∃ i,x=.int i/\Q (some i) H1
theorem Hb:∀ {us:Z A1},Y8 (ns.map V.int) us->IntsAre us ns:=by
 induction ns with
 | nil=>intro us r;rw[KN] at r;cases r;exact .nil
 | cons n ns ih =>
  intro us r;rw[CF] at r;cases r with
  | cons r1 r2 =>
   obtain⟨t,e⟩:=r1;subst e;exact .cons n t (ih r2)
section
variable{X:Cx}{lo hi:C1 C3}{tl th:TO}{p2:Pos}
theorem jR:PO X none g8:=by
 intro aa s σ H Q I h;rw[evalPart_none];exact AC ⟨none,H,I,.none,h⟩
theorem iP(h:PE X e te):PO X (some e) (j3 te):=by
 intro aa s σ H Q I hw;rw[evalPart_some];refine V2 (h aa s σ H _ I hw) λu s1 zz=>?_;obtain⟨x,H1,I1,r1,q1⟩:=zz
 obtain⟨i,rfl,q⟩:=q1;obtain⟨t,rfl⟩:=r1;exact⟨some i,H1,I1,.int i t,q⟩
def MY(X:Cx)(r:V->C1 Int->C1 Int->Hp->VK->Prop):Prop :=
 ∀ (aa:LK) (s:A4) (σ:St) (H:Hp) (x:V) (v vl vu:A1) (lo hi:C1 Int) (sl:A2) (Q:VK),F' X aa σ H s->Yu x v->s.heap.IsSliceOf sl vl vu .none->IsPart vl lo->IsPart vu hi->r x lo hi H Q ->
  ∃ T id,typeLookup (.type T) "__getitem__" = pure (some (.builtin id))/\s.TypeIs v T/\wpAny (model X.prog X.w) X.A (getItem v (.ref sl)) (EP X aa σ Q) X.xe s
theorem MY.or(h:MY X r)(h':MY X r'):MY X (λx lo hi H Q=>r x lo hi H Q\/r' x lo hi H Q):=by
 intro aa s σ H x v vl vu lo hi sl Q I S hs pl c q;rcases q with q | q
 .exact h aa s σ H x v vl vu lo hi sl Q I S hs pl c q
 .exact h' aa s σ H x v vl vu lo hi sl Q I S hs pl c q
def hO(r:V->C1 Int->C1 Int->Hp->VK->Prop)(te:TE)(tl th:TO):TE:=λσ H Q=>te σ H λx H1=>tl σ H1 λl H2=>th σ H2 λu H3=>r x l u H3 Q
theorem iH(hr:MY X r)(he:PE X e te)(hl:PO X lo tl)(hu:PO X hi th):PE X (.Subscript e (.Slice lo hi none p2) pos) (hO r te tl th):=by
 intro aa s σ H Q I h;refine Subscript_ (V2 (he aa s σ H _ I h) λv s1 zz=>?_);obtain⟨x,H1,I1,r1,q1⟩:=zz;refine wpAny_Slice (V2 (hl aa s1 σ H1 _ I1 q1) λvl s2 ⟨l,H2,I2,pl,q2⟩=>V2 (hu aa s2 σ H2 _ I2 q2) λvu s3 zz=>?_);obtain⟨u,H3,R,c,q3⟩:=zz;rw[evalPart_none];refine AC ?_;have I4:F' X aa σ H3 { s3 with heap:=s3.heap.push { cls:=.type "slice",data:=.fields #[vl,vu,.none] } }:=R.kept (t':=s3.toks) λb ob q=>AD _ q
 obtain⟨T,id,hT,ht,hg⟩:=hr aa { s3 with heap:=s3.heap.push { cls:=.type "slice",data:=.fields #[vl,vu,.none] } } σ H3 x v vl vu l u s3.heap.objs.size Q I4 r1 (Heap.IsSliceOf.new ..) pl c q3;show wpAny (model X.prog X.w) X.A (subscriptTail e (.Slice lo hi none p2) v (.ref s3.heap.objs.size)) (EP X aa σ Q) X.xe { s3 with heap:=s3.heap.push { cls:=.type "slice",data:=.fields #[vl,vu,.none] } };exact tail_any (ops:=[.ref s3.heap.objs.size,v]) ht hT hg (by with_unfolding_all rfl)
def OL(xs:Z V)(lo hi:C1 Int):Z V:=(xs.drop (HT.sIx xs.length 0 lo)).take (HT.sIx xs.length xs.length hi - HT.sIx xs.length 0 lo)
theorem N6(xs:Z V)(lo hi:C1 Int):(OL xs lo hi).length<=xs.length:=by
 unfold OL;rw[BN,CA];lia
def ZM(K:KX):V->C1 Int->C1 Int->Hp->VK->Prop:=λx lo hi H Q=>∃ a xs,x=.ref a/\Sl K H a xs /\
 ¬ (HT.sIx xs.length 0 lo=0/\HT.sIx xs.length xs.length hi=xs.length)/\∀ p,H p=none->Q (.ref p) (W7 H p (.tup (OL xs lo hi)))
theorem jf:MY X (ZM X.K):=by
 intro aa s σ H x v vl vu lo hi sl Q I S hs pl c h;obtain⟨a,xs,rfl,hx,hw,q⟩:=h;cases S;obtain⟨its,r,ht,hz⟩:=I.tuple hx;have J:its.toArray.size=xs.length:=by rw[AV];exact r.length.symm
 refine⟨"tuple",_,PyProof.Rows.slot_tuple_getitem.lookup,ht.typeIs,?_⟩;refine HT.getItem_tuple_cut ht hs pl c (by rw[J];exact hw) ?_ (by rw[J];exact hz);rw[J];refine⟨.ref s.heap.objs.size,_,I.laid (t':=s.toks) (o:=.tup (OL xs lo hi)) (λb ob q=>AD _ q) (AT _) ?_,rfl,q _ (I.hok.fresh (AT _))⟩;exact⟨BC (N6 xs lo hi) hz,_,(r.drop (HT.sIx xs.length 0 lo)).take (HT.sIx xs.length xs.length hi - HT.sIx xs.length 0 lo),IsTup.new _ _⟩
def k7(K:KX):R2:=λx y H Q=>∃ a b xs ys,x=.ref a/\y=.ref b/\Sl K H a xs/\Sl K H b ys/\xs≠[]/\xs.length+ys.length<=sizeLine /\
 (ys=[]->Q (.ref a) H)/\(ys≠[]->∀ p,H p=none->Q (.ref p) (W7 H p (.tup (xs++ys))))
theorem Y8.nil_iff{xs:Z V}(r:Y8 xs us):us=[]↔xs=[]:=by
 cases r with
 | nil=>simp
 | cons _ _=>simp
theorem lv:G1 X (binaryOp .Add) (k7 X.K):=by
 intro aa s σ H x y v u Q I S m h;obtain⟨a,b,xs,ys,rfl,rfl,ha,hb,hx,hz,q1,q2⟩:=h;cases S;cases m;obtain⟨its,r1,p1,_⟩:=I.tuple ha;obtain⟨c,r2,p2,_⟩:=I.tuple hb;refine HT.cat_tup p1 p2 (λz=>hx (r1.nil_iff.mp z)) (λz=>⟨.ref a,H,I,rfl,q1 (r2.nil_iff.mp z)⟩) (λz=>?_) (by rw[<- r1.length,<- r2.length];exact hz);refine⟨.ref s.heap.objs.size,_,I.laid (t':=s.toks) (o:=.tup (xs++ys)) (λb ob q=>AD _ q) (AT _) ?_,rfl,q2 (λw=>z (r2.nil_iff.mpr w)) _ (I.hok.fresh (AT _))⟩;exact⟨by rw[AQ];exact hz,_,r1.append r2,IsTup.new _ _⟩
end
def ON(n:Nat)(i:Int):C1 Nat:=if 0<=i then(if i<n then some i.toNat else none) else if -(n:Int)<=i then some (i+n).toNat else none
def Fp(xs:Z α)(i:Int):C1 α:=(ON xs.length i).bind λj=>xs[j]?
theorem d1{n:Nat}{i:Int}(h:ON n i=some j):seqIndex? i n=some j/\j<n/\-(n:Int)<=i/\i<n:=by
 unfold ON at h;by_cases h0:0<=i
 .rw[AE h0] at h
  by_cases h1:i<n
  .rw[AE h1] at h
   have e:i.toNat=j:=BI h;exact⟨by rw[seqIndex_of h0 h1,e],by lia,by lia,h1⟩
  .rw[AK h1] at h;cases h
 .rw[AK h0] at h
  by_cases h1 : -(n:Int)<=i
  .rw[AE h1] at h
   have e:(i+n).toNat=j:=BI h;exact⟨by rw[LH (by lia) h1,e],by lia,h1,by lia⟩
  .rw[AK h1] at h;cases h
variable{xs:Z α}
theorem Cr{i:Int}{v:α}(h:Fp xs i=some v):∃ j,seqIndex? i xs.length=some j/\xs[j]?=some v/\j<xs.length/\-(xs.length:Int)<=i/\i<xs.length:=by
 unfold Fp at h;cases e:ON xs.length i with
 | none=>rw[e] at h;cases h
 | some j =>
  rw[e] at h;obtain⟨h1,h2,h3,h4⟩:=d1 e;exact⟨j,h1,h,h2,h3,h4⟩
theorem Iv{v:α}(h:xs[j]?=some v):Fp xs (j:Int)=some v:=by
 have hj:j<xs.length:=(AG.mp h).1;have e:ON xs.length (j:Int)=some j:=by
  unfold ON;rw[AE (by lia),AE (by lia)];simp
 unfold Fp;rw[e];exact h
def I0(b:C3):Prop:=∀ o i,subscripted b false o i=operate [o,i] (getItem o i)
def MW(X:Cx)(r:R2):Prop :=
 ∀ (au slice:C3) (aa:LK) (s:A4) (σ:St) (H:Hp) (x y:V) (v u:A1) (Q:VK),F' X aa σ H s->Yu x v->Yu y u->r x y H Q ->
  subscripted slice false v u=operate [v,u] (getItem v u)->wpAny (model X.prog X.w) X.A (subscriptTail au slice v u) (EP X aa σ Q) X.xe s
def NH(X:Cx)(id:String)(r:V->Z V->Hp->VK->Prop):Prop :=
 ∀ (aa:LK) (s:A4) (σ:St) (H:Hp) (x:V) (xs:Z V) (v:A1) (us:Z A1) (Q:VK),F' X aa σ H s->Yu x v->Y8 xs us->r x xs H Q ->
  wpAny (model X.prog X.w) X.A (call (.builtin id) (v::us)) (EP X aa σ Q) X.xe s
section
variable{X:Cx}{a b:C3}{ta tb:TE}{pos:Pos}
theorem MW.or{r r':R2}(h:MW X r)(h':MW X r'):MW X (λx y H Q=>r x y H Q\/r' x y H Q):=by
 intro au slice aa s σ H x y v u Q I S m q hs;rcases q with q | q
 .exact h au slice aa s σ H x y v u Q I S m q hs
 .exact h' au slice aa s σ H x y v u Q I S m q hs
theorem TM{r:R2}(hr:MW X r)(ha:PE X a ta)(hb:PE X b tb)(hs:I0 b):PE X (.Subscript a b pos) (QT r ta tb):=by
 intro aa s σ H Q I h;exact Subscript_ (UV ha hb I h λv u s2 x y H2 I2 S m q=>hr a b aa s2 σ H2 x y v u Q I2 S m q (hs _ _))
def bD(K:KX):R2:=λx y H Q=>∃ p xs i v,x=.ref p/\y=.int i/\E5 K H p xs/\Fp xs i=some v/\Q v H
def X'(K:KX):R2:=λx y H Q=>∃ p xs i v,x=.ref p/\y=.int i/\Sl K H p xs/\Fp xs i=some v/\Q v H
def ZW:R2:=λx y H Q=>∃ z i c,x=.str z/\y=.int i/\z.length<=sizeLine/\Fp z.cps.toList i=some c/\Q (.str ⟨#[c]⟩) H
theorem Bu:MW X (bD X.K):=by
 intro au slice aa s σ H x y v u Q I S m h hs;obtain⟨p,xs,i,z,rfl,rfl,hq,he,q⟩:=h;cases S;obtain⟨t,rfl⟩:=m;obtain⟨its,r,pl,hz⟩:=I.list hq;obtain⟨j,h1,h2,h3,h4,h5⟩:=Cr he;obtain⟨w,ew,a⟩:=r.get h2;have hl:=r.length;have hn:=Ey;have B:EP X aa σ Q w s:=⟨z,H,I,a,q⟩;by_cases h0:0<=i
 .have hj:i.toNat=j:=by
   rw[seqIndex_of h0 h5] at h1;exact BI h1
  exact item_listR pl.isList h0 (by lia) (by rw[hj];simpa using ew) B hs
 .have hj:(i+(its.toArray.size:Int)).toNat=j:=by
   rw[LH (by lia) h4] at h1;rw[AV,<- hl];exact BI h1
  exact subscriptTail_builtinR (x:=w) pl.isList.typeIs slot_list_getitem.lookup
   (wpAny_getItem_list_neg (Q:=λr s'=>r=w/\EP X aa σ Q r s') pl.isList (by lia) (by rw[AV]<;>lia) (by lia) (by rw[hj];simpa using ew) ⟨rfl,B⟩) hs
theorem bB:MW X (X' X.K):=by
 intro au slice aa s σ H x y v u Q I S m h hs;obtain⟨p,xs,i,z,rfl,rfl,hq,he,q⟩:=h;cases S;obtain⟨t,rfl⟩:=m;obtain⟨its,r,pl,hz⟩:=I.tuple hq;obtain⟨j,h1,h2,h3,h4,h5⟩:=Cr he;obtain⟨w,ew,a⟩:=r.get h2;have hl:=r.length;have hn:=Ey;have B:EP X aa σ Q w s:=⟨z,H,I,a,q⟩;exact subscriptTail_builtinR (x:=w) pl.typeIs slot_tuple_getitem.lookup
  (getItem_tuple (j:=j) (Q:=λr s'=>r=w/\EP X aa σ Q r s') pl (by lia) (by lia) (by rw[AV,<- hl];exact h1) (by simpa using ew) ⟨rfl,B⟩) hs
theorem ln:MW X ZW:=by
 intro au slice aa s σ H x y v u Q I S m h hs;obtain⟨z,i,c,rfl,rfl,hz,he,q⟩:=h;obtain⟨t,rfl⟩:=S;obtain⟨t',rfl⟩:=m;obtain⟨j,h1,h2,h3,h4,h5⟩:=Cr he;have hl:z.cps.toList.length=z.length:=by simp[Str.length]
 rw[hl] at h1 h4 h5;have hn:=Ey;exact tail_any (typeIs_str s z t) slot_str_getitem.lookup (getItem_str (c:=c) (by
  have e1:decide (i < -(2^63:Int))=false:=AF (by lia);have e2:decide (i≥2^63)=false:=AF (by lia);rw[e1,e2,IH]) (by rw[h1];simpa using h2) ⟨.str ⟨#[c]⟩,H,I.tok _,⟨_,rfl⟩,q⟩) hs
def fj(K:KX):R2:=λx y H Q=>bD K x y H Q\/X' K x y H Q\/ZW x y H Q
theorem jV:MW X (fj X.K):=Bu.or (bB.or ln)
theorem ki(its:Z A1)(n j:Nat)(u:A1):Obj.mapSeq (·.setIfInBounds j u) { cls:=.type "list",data:=.seq its.toArray n }={ cls:=.type "list",data:=.seq (its.set j u).toArray n }:=by
 simp[Obj.mapSeq]
theorem F'.lst{aa:LK}{σ:St}{H:Hp}{s:A4}{p:A2}{xs:Z V}(I:F' X aa σ H s)(h:H p=some (.lst xs)) :
  ∃ (its:Z A1) (n:Nat),Y8 xs its/\s.heap.get? p=some { cls:=.type "list",data:=.seq its.toArray n }/\xs.length<=sizeLine:=by
 obtain⟨z,its,n,r,e⟩:=I.hok p _ h;exact⟨its,n,r,e,z⟩
theorem F'.lstUpd{p:A2}{xs:Z V}{n g:Nat}{f:Obj->Obj}(I:F' X aa σ H s)(h:H p=some (.lst xs))
  (ho:s.heap.get? p=some { cls:=.type "list",data:=.seq its.toArray n }) (hf:f { cls:=.type "list",data:=.seq its.toArray n }={ cls:=.type "list",data:=.seq its'.toArray g }) (r:Y8 ys its') (hz:ys.length<=sizeLine) (t:Nat) :
  F' X aa σ (W7 H p (.lst ys)) { s with heap:=s.heap.update p f,toks:=t }:=by
 have e:(s.heap.update p f).get? p=some { cls:=.type "list",data:=.seq its'.toArray g }:=by
  rw[BH f ho (by rw[hf]<;>rfl),hf]
 refine I.write (x:=p) (e:=p) (by rw[h];trivial) (.inl rfl) (λb u hb q=>(BB _ _ (AY hb)).trans q) ⟨_,e⟩ ?_;exact⟨hz,its',g,r,e⟩
def na:V->V->V->Hp->(Hp->Prop)->Prop:=λo i v H Q=>∃ p xs k j,o=.ref p/\i=.int k/\H p=some (.lst xs)/\ON xs.length k=some j/\Q (W7 H p (.lst (xs.set j v)))
theorem lP:b7 X na:=by
 intro aa s σ H o i v E b u Q I a d rv h;obtain⟨p,xs,k,j,rfl,rfl,hp,hj,q⟩:=h;cases a;obtain⟨t,rfl⟩:=d;obtain⟨its,n,r,ho,hz⟩:=I.lst hp;obtain⟨h1,h2,h3,h4⟩:=d1 hj;have hl:=r.length;have hn:=Ey;have R:F' X aa σ (W7 H p (.lst (xs.set j v))) { s with heap:=s.heap.update p (Obj.mapSeq (·.setIfInBounds j u)) } :=
  I.lstUpd hp ho (ki its n j u) (r.set rv j) (by rw[CQ];exact hz) s.toks
 by_cases h0:0<=k
 .have Y:k.toNat=j:=by
   rw[seqIndex_of h0 h4] at h1;exact BI h1
  exact PySem.W.ki_setAt ho h0 (by lia) (by rw[AV,<- hl];exact h4) (by rw[Y];exact⟨_,R,q⟩)
 .have Y:(k+(its.toArray.size:Int)).toNat=j:=by
   rw[LH (by lia) h3] at h1;rw[AV,<- hl];exact BI h1
  exact PySem.W.ki_setBack ho (by lia) (by rw[AV,<- hl];exact h3) (by lia) (by rw[Y];exact⟨_,R,q⟩)
theorem C8(lo hi:C1 Int)(n:Nat):(sliceBounds lo hi none n).1=((HT.sIx n 0 lo:Nat):Int)/\(sliceBounds lo hi none n).2.1=((HT.sIx n n hi:Nat):Int)/\(sliceBounds lo hi none n).2.2=1:=by
 refine⟨?_,?_,rfl⟩
 .cases lo with
  | none=>simp[sliceBounds,HT.sIx]
  | some i =>
   simp only[sliceBounds,HT.sIx,Option.getD_none,show(1:Int) > 0 by decide,JZ];by_cases h:i<0
   .simp only[h,JZ]<;>lia
   .simp only[h,HF]<;>lia
 .cases hi with
  | none=>simp[sliceBounds,HT.sIx]
  | some i =>
   simp only[sliceBounds,HT.sIx,Option.getD_none,show(1:Int) > 0 by decide,JZ];by_cases h:i<0
   .simp only[h,JZ]<;>lia
   .simp only[h,HF]<;>lia
theorem Xp(its:Z A1)(lo hi:C1 Int):slicePick its.toArray lo hi none=((its.drop (HT.sIx its.length 0 lo)).take (HT.sIx its.length its.length hi - HT.sIx its.length 0 lo)).toArray:=by
 obtain⟨h1,h2,h3⟩:=C8 lo hi its.toArray.size;unfold slicePick;rw[h1,h2,h3];simp only[sliceRange_one,pick_run,AV]<;>rfl
def b5(K:KX):V->C1 Int->C1 Int->Hp->VK->Prop:=λx lo hi H Q=>∃ a xs,x=.ref a/\E5 K H a xs/\∀ p,H p=none->Q (.ref p) (W7 H p (.lst (OL xs lo hi)))
theorem fL:MY X (b5 X.K):=by
 intro aa s σ H x v vl vu lo hi sl Q I S hs pl c h;obtain⟨a,xs,rfl,hx,q⟩:=h;cases S;obtain⟨its,r,ht,hz⟩:=I.list hx;have J:=r.length;refine⟨"list",_,slot_list_getitem.lookup,ht.isList.typeIs,?_⟩;refine wpAny_getItem_list_slice ht.isList hs pl c .none (by simp) ?_ (by rw[AV]<;>lia);rw[Xp,<- J];refine⟨.ref s.heap.objs.size,_,I.laid (t':=s.toks) (o:=.lst (OL xs lo hi)) (λb ob q=>AD _ q) (AT _) ?_,rfl,q _ (I.hok.fresh (AT _))⟩;exact⟨BC (N6 xs lo hi) hz,_,0,(r.drop (HT.sIx xs.length 0 lo)).take (HT.sIx xs.length xs.length hi - HT.sIx xs.length 0 lo),AU _ rfl⟩
theorem gc:G1 X (compareOp .NotIn) (λx y H Q=>∃ i j,x=.str i/\y=.str j/\Q (.bl (!(!(Builtin.Str.occurrences j i 0 j.length 1).isEmpty))) H):=by
 intro aa s σ H x y v u Q I S m h;obtain⟨i,j,rfl,rfl,q⟩:=h;obtain⟨t,rfl⟩:=S;obtain⟨t',rfl⟩:=m;exact notIn_str ⟨.bl _,H,I,rfl,q⟩
theorem Ck:Vf X (.builtin "len") (λxs H Q=>∃ p ys,xs=[.ref p]/\(E5 X.K H p ys\/Sl X.K H p ys)/\Q (.int ys.length) H):=by
 intro aa s σ H xs us Q I r h;obtain⟨p,ys,rfl,hq,q⟩:=h;obtain⟨u,rfl,S⟩:=Jg r;cases S;have hn:=Ey;rcases hq with hq | hq
 .obtain⟨its,r',pl,hz⟩:=I.list hq
  have J:=r'.length;exact Calls.call_len_list pl.isList (by simp only[AV]<;>lia) ⟨.int ys.length,H,I.tok _,⟨s.toks+1,by rw[AV,J]⟩,q⟩
 .obtain⟨its,r',pl,hz⟩:=I.tuple hq
  have J:=r'.length;exact len_tuple pl (by simp only[AV]<;>lia) ⟨.int ys.length,H,I.tok _,⟨s.toks+1,by rw[AV,J]⟩,q⟩
theorem Bk:Vf X (.builtin "len") (λxs H Q=>∃ z,xs=[.str z]/\z.length<=sizeLine/\Q (.int z.length) H):=by
 intro aa s σ H xs us Q I r h;obtain⟨z,rfl,hz,q⟩:=h;obtain⟨u,rfl,t,rfl⟩:=Jg r;have hn:=Ey;exact len_str (by lia) ⟨.int z.length,H,I.tok _,⟨_,rfl⟩,q⟩
theorem Vf.or{f:A1}{r r':Z V->Hp->VK->Prop}(h:Vf X f r)(h':Vf X f r'):Vf X f (λxs H Q=>r xs H Q\/r' xs H Q):=by
 intro aa s σ H xs us Q I rs q;rcases q with q | q
 .exact h aa s σ H xs us Q I rs q
 .exact h' aa s σ H xs us Q I rs q
theorem Iu:Vf X (.type "list") (λxs H Q=>∃ p ys,xs=[.ref p]/\(E5 X.K H p ys\/Sl X.K H p ys)/\∀ l,H l=none->Q (.ref l) (W7 H l (.lst ys))):=by
 intro aa s σ H xs us Q I r h;obtain⟨p,ys,rfl,hq,q⟩:=h;obtain⟨u,rfl,S⟩:=Jg r;cases S;have B:∀ (its:Z A1),Y8 ys its->ys.length<=sizeLine->∀ (h':G2) (c':Nat),(∀ b o',s.heap.get? b=some o'->h'.get? b=some o') ->
   h'.get? s.heap.objs.size=some { cls:=.type "list",dict:=none,data:=.seq its.toArray c',slots:=#[] }->EP X aa σ Q (.ref s.heap.objs.size) { s with heap:=h' }:=λits r' hz h' c' kp e =>
  ⟨.ref s.heap.objs.size,_,I.laid (t':=s.toks) kp (AT _) (show Yr X.prog X.w _ h' _ (.lst ys) from⟨hz,its,c',r',e⟩),rfl,q _ (I.hok.fresh (AT _))⟩
 rcases hq with hq | hq
 .obtain⟨its,r',pl,hz⟩:=I.list hq
  have J:=r'.length;obtain⟨o,ho,hc,n,hd⟩:=pl.isList;exact call_list_seq p (.inl rfl) ho hc hd (λh' c' kp e=>B its r' hz h' c' kp e) (by simp only[AV]<;>lia)
 .obtain⟨its,r',pl,hz⟩:=I.tuple hq
  have J:=r'.length;obtain⟨o,ho,hc,n,hd⟩:=pl;exact call_list_seq p (.inr rfl) ho hc hd (λh' c' kp e=>B its r' hz h' c' kp e) (by simp only[AV]<;>lia)
theorem Xy:Vf X (.type "tuple") (λxs H Q=>∃ p ys,xs=[.ref p]/\((E5 X.K H p ys/\∀ l,H l=none->Q (.ref l) (W7 H l (.tup ys)))\/(Sl X.K H p ys/\Q (.ref p) H))):=by
 intro aa s σ H xs us Q I r h;obtain⟨p,ys,rfl,h⟩:=h;obtain⟨u,rfl,S⟩:=Jg r;cases S;rcases h with⟨hq,q⟩ | ⟨hq,q⟩
 .obtain⟨its,r',pl,hz⟩:=I.list hq
  have J:=r'.length;refine call_tuple_list pl.isList (λh' kp=>?_) (by simp only[AV]<;>lia);have I1:F' X aa σ H { s with heap:=h' }:=I.kept (t':=s.toks) kp;have I2:F' X aa σ (W7 H h'.objs.size (.tup ys)) { s with heap:=h'.push { cls:=.type "tuple",data:=.seq its.toArray } } :=
   I1.laid (t':=s.toks) (λb o e=>AD _ e) (AT _) (show Yr X.prog X.w _ _ _ (.tup ys) from⟨hz,its,r',IsTup.new _ _⟩)
  exact⟨.ref h'.objs.size,_,I2,rfl,q _ (I1.hok.fresh (AT _))⟩
 .obtain⟨its,r',pl,hz⟩:=I.tuple hq
  exact call_tuple_same pl ⟨.ref p,H,I,rfl,q⟩
def XJ(K:KX)(T:String)(x:V)(H:Hp):Prop:=match x with
 | .str _=>T="str"
 | .int _=>T="int"
 | .ref p=>(T="list" /\ ∃ xs,E5 K H p xs)\/(T="tuple" /\ ∃ o,K.lookup p=some o/\o.cls=.type "tuple" /\ o.dict=none) \/
  (T="dict" /\ ((∃ kvs,H p=some (.dK kvs))\/∃ kvs,H p=some (.dT kvs)))\/(T="set" /\ ∃ S n,H p=some (.set S n))
 | _=>False
theorem hV{x:V}{v:A1}(I:F' X aa σ H s)(r:Yu x v)(ty:XJ X.K T x H) :
  s.TypeIs v T/\∀ a,v=.ref a->∃ ob,s.heap.get? a=some ob/\ob.dict=none:=by
 cases x with
 | str z =>
  obtain⟨t,rfl⟩:=r;cases (show T="str" from ty);exact⟨typeIs_str s z t,λ_ e=>nomatch e⟩
 | int i =>
  obtain⟨t,rfl⟩:=r;cases (show T="int" from ty);exact⟨typeIs_int s i t,λ_ e=>nomatch e⟩
 | ref p =>
  cases r;rcases ty with⟨rfl,xs,hq⟩ | ⟨rfl,o,Y,hc,hd⟩ | ⟨rfl,Y⟩ | ⟨rfl,S,n,Y⟩
  .obtain⟨its,_,pl,_⟩:=I.list hq
   refine⟨pl.isList.typeIs,λa e=>?_⟩;cases e;obtain⟨o,n,e,c,hd,_⟩:=pl;exact⟨o,e,hd⟩
  .refine⟨⟨o,I.kIn p o Y,hc⟩,λa e=>?_⟩
   cases e;exact⟨o,I.kIn _ o Y,hd⟩
  .have z:∃ o,s.heap.get? p=some o/\o.ExactDict:=by
    rcases Y with⟨kvs,Y⟩ | ⟨kvs,Y⟩
    .obtain⟨_,_,_,_,o,_,_,e,ex,_⟩:=I.hok p _ Y
     exact⟨o,e,ex⟩
    .obtain⟨_,_,_,_,o,_,_,e,ex,_⟩:=I.hok p _ Y
     exact⟨o,e,ex⟩
   obtain⟨o,e,ex⟩:=z;refine⟨⟨o,e,ex.1⟩,λa e2=>?_⟩;cases e2;exact⟨o,e,ex.2.1⟩
  .obtain⟨o,_,_,_,e,ex,_⟩:=I.hok p _ Y
   refine⟨⟨o,e,ex.1⟩,λa e2=>?_⟩;cases e2;exact⟨o,e,ex.2.1⟩
 | _=>exact False.elim ty
def pO(K:KX)(T:String)(r:V->Z V->Hp->VK->Prop)(to:TE)(t:TA):TE:=λσ H Q=>to σ H λx H1=>XJ K T x H1/\t σ H1 λxs H2=>r x xs H2 Q
variable{o e:C3}{es:Z C3}{to:TE}{t:TA}{name:Str}{ay am:Pos}{T id:String}{r:V->Z V->Hp->VK->Prop}
theorem UH(pa:PlainAttrs T)(slot:Slot T name id)(b:typeOf (.builtin id)=pure (.type "method_descriptor"))(hm:NH X id r)(ho:PE X o to)(ha:PA X (e::es) t)
   (l:attributeBase o name X.env (eval o X.env)=eval o X.env:=by rfl)
   (C:((backTo am (starEach (e::es) X.env)).all (λx=>!x.1)&&(backToKw am (keywordEach [] X.env)).all (λx=>x.1.isSome)
     && decide ((e::es).length+([]:Z Keyword).length+(if([]:Z Keyword).isEmpty then 0 else 1)<30))=true:=by rfl)
   (u:(ay.endLine==am.line)=true:=by rfl) (hs:Z0 X.env e es:=by rfl) (g:Z1 am X.env es:=by rfl) :
   PE X (.Call (.Attribute o name ay) (e::es) [] am) (pO X.K T r to t):=by
 intro aa s σ H Q I h;refine wpAny_Call_method_late l C u rfl (V2 (ho aa s σ H _ I h) λv s1 zz=>?_);obtain⟨x,H1,I1,r1,ty,q1⟩:=zz;obtain⟨h1,h2⟩:=hV I1 r1 ty;refine⟨T,id,pa,slot,b,h1,h2,?_⟩;have hA:=ha am aa s1 σ H1 _ I1 q1;rw[hs] at hA ⊢;refine Calls.callWith_builtin (by show(false||(backTo am (starEach es X.env)).any (·.1))=false;rw[g]<;>rfl) (Calls.evalArgs_plain ?_);exact V2 hA λus s2 ⟨vs,H2,I2,r2,q2⟩=>hm aa s2 σ H2 x vs v us Q I2 r1 r2 q2
end
def cV(X:Cx)(id:String)(r:V->Z V->Hp->VK->Prop):Prop :=
 ∀ (aa:LK) (s:A4) (σ:St) (H:Hp) (x:V) (xs:Z V) (v:A1) (us:Z A1) (Q:VK),F' X aa σ H s->Yu x v->Y8 xs us->r x xs H Q ->
  wpAny (model X.prog X.w) X.A (call (.builtin id) (v::us)) (EP X aa σ Q) X.xe s
theorem Y8.one:∀ {x:V} {us:Z A1},Y8 [x] us->∃ u,us=[u]/\Yu x u
 | _,_,.cons r .nil=>⟨_,rfl,r⟩
section
variable{X:Cx}{b:A2}{xs zs:Z V}
theorem F'.lset{n:Nat}{f:Array A1->Array A1}(I:F' X aa σ H s)(a:H l=some (.lst xs))
  (e:s.heap.get? l=some { cls:=.type "list",data:=.seq its.toArray n }) (hf:f its.toArray=its'.toArray) (hv:Y8 ys its') (hz:ys.length<=sizeLine) :
  F' X aa σ (W7 H l (.lst ys)) { s with heap:=s.heap.update l (Obj.mapSeq f),toks:=t' }:=by
 have q:=PySem.IsL.update e f;rw[hf] at q;refine I.write (x:=l) (e:=l) (by rw[a];exact trivial) (.inl rfl) (λb' u hb hu=>(BB s.heap (Obj.mapSeq f) (AY hb)).trans hu) ⟨_,q⟩ ?_;exact⟨hz,its',_,hv,q⟩
theorem F'.lnew(I:F' X aa σ H s)(hv:Y8 ys its)(hz:ys.length<=sizeLine) :
  F' X aa σ (W7 H s.heap.objs.size (.lst ys)) { s with heap:=s.heap.push { cls:=.type "list",data:=.seq its.toArray },toks:=t' } :=
 I.laid (λ_ _ q=>AD _ q) (AT _) ⟨hz,its,0,hv,AU _ rfl⟩
theorem F'.fresh(I:F' X aa σ H s):H s.heap.objs.size=none:=I.hok.fresh (AT _)
theorem F'.lstM(I:F' X aa σ H s)(a:H l=some (.lst xs)):xs.length<=sizeLine/\∃ (its:Z A1) (n:Nat),Y8 xs its/\xs.length=its.length/\s.heap.get? l=some { cls:=.type "list",data:=.seq its.toArray n }:=by
 obtain⟨z,its,n,r,e⟩:=I.hok l _ a;exact⟨z,its,n,r,r.length,e⟩
theorem oM{n:Nat}(h:n<=sizeLine):Builtin.List.listTooLong n=false:=by
 unfold Builtin.List.listTooLong;exact AF (by lia)
end
section
variable{X:Cx}
def hE:V->Z V->Hp->VK->Prop:=λx vs H Q=>∃ l xs y,x=.ref l/\vs=[y]/\H l=some (.lst xs)/\xs.length<sizeLine/\Q .non (W7 H l (.lst (xs++[y])))
theorem Kt:cV X "list.append" hE:=by
 intro aa s σ H x vs v us Q I S rv h;obtain⟨l,xs,y,rfl,rfl,a,hz,q⟩:=h;cases S;obtain⟨u,rfl,B⟩:=rv.one;obtain⟨z,its,n,r,hl,e⟩:=I.lstM a;refine KS F.slot_list_append ⟨_,e,rfl⟩ F.entry_list_append (F.args_list_append_2 _ _) (PySem.list_append l its.toArray n u (by rw[AV];lia)) ⟨e,?_⟩;refine⟨.non,_,I.lset (its':=its++[u]) a e (by simp) (r.append (.cons B .nil)) ?_,rfl,q⟩;rw[AQ,CM];lia
end
section
variable{X:Cx}
end
end L2
variable{H1:L2.Hp}{t':L2.TT}{β:Type}{is:Z Nat}
namespace Att
open PySem PySem.W PySem.Calls PyProof.Rows
theorem Nc{P:Params} :∀ (ns:Z Int) (vs:Z A1),WellAll P h vs (ns.map WData.int)->IntsAre vs ns:=by
 intro ns;induction ns with
 | nil =>
  intro vs w;rw[KN] at w;cases w;exact .nil
 | cons n ns ih =>
  intro vs w;rw[CF] at w;cases w with
  | cons a b =>
   cases a;exact .cons _ _ (ih _ b)
theorem gf{l:OpenLaw}{n:Nat}(hn:l.most=some n){P:Params}{args:Z WData}{m:Z A1}
   (p:l.row.toRowW.claim.pre args=true) (t:WellAll P h m args) :
   ∃ a vs ns,m=[Value.ref a]/\args=[WData.list (ns.map WData.int)]/\h.get? a=some { cls:=.type "list",data:=.seq vs.toArray }/\IntsAre vs ns/\ns.length<=n:=by
 have g:WShape.hasAll [] args [.list .int]=true:=(pre_splitW p).1;have hc:l.pre.holds [] { args:=args }=true:=(pre_splitW p).2;obtain⟨d,r,rfl,h1,h2⟩:=hasAllW_cons g;obtain rfl:=hasAllW_nil h2;obtain⟨xs,rfl,h3⟩:=hasW_list h1;obtain⟨ns,rfl⟩:=items_int h3;have J:ns.length<=n:=by
   unfold OpenLaw.pre at hc;have h4:(WTm.not (.lt (.lit (.int (n:Int))) (.len (.arg 0)))).holds [] { args:=[.list (ns.map .int)] }=true:=by
     have h4:=(holds_andW hc).1;rw[hn] at h4;exact h4
   have h5:=condW_of h4 (w_not (w_lt w_lit (w_len_list (w_arg rfl))));rw[AB] at h5;refine IJ λq=>?_
   have q':(n:Int)<((ns.length:Nat):Int):=by lia
   first
     | (rw[AL q'] at h5;exact absurd h5 (by decide))
     | (simp at h5;lia)
 cases t with
 | cons w1 w2 =>
   cases w2;cases w1 with
   | list ho G=>exact⟨_,_,ns,rfl,rfl,ho,Nc ns _ G,J⟩
theorem pQ(l:OpenLaw)(args:Z WData):l.row.toRowW.claim.post args (.bool true) args=true :=
 postW_of (r:=l.row.toRowW) (X:=(true==true))
  (show WShape.has [] (.bool true) .bool=true by first | rfl | decide | simp[WShape.has,WShape.arms,WShape.armsAll])
  (show(WTm.eq .res (.lit (.bool true))).value [] { args:=args,res:=some (.bool true),after:=args }=some (.bool (true==true)) from w_eq_bool (w_res rfl) w_lit) rfl
theorem attach_call{l:OpenLaw}{n:Nat}{d:DefRec}
  (hn:l.most=some n) (A:d.params.defaults=[])
  (call:∀ (w:Gf) (s₀ s₁:A4) (mg B:LO) (fa:A2) (o:Obj) (pm cd aw:A1) (a:A2) (vs:Z A1) (ns:Z Int),
   Ground q loose [] XP w s₀ mg B s₁.heap->YP w s₁.heap ->
   s₁.heap.get? fa=some o->o.data=.func (docDef d.name d.params d.body d.scope pm cd aw)->s₁.heap.CodeRec cd d.name->mg d.name=some (.ref fa) ->
   s₁.heap.get? a=some { cls:=.type "list",data:=.seq vs.toArray }->IntsAre vs ns->ns.length<=n->s₁.gens=#[] ->
   codeAny (model l.prog w) callerA (.call (.ref fa) ⟨[.ref a],[]⟩) (λr s'=>r=.ok (.ret (.bool true))/\OldK s₁.heap s'.heap/\s'.os=s₁.os/\AllBare s'.gens) s₁) :
  WalkO q loose XP YP l.row.toRowW d [] (λf vs=>PySem.call f vs):=by
 intro w s₀ s₁ mg B G Y fa o pm cd aw U kV ho hd ai y N hg args m as p hlay hrd t i;obtain rfl:U=.none:=Dflts.none y A;obtain rfl:kV=.none:=Dflts.noKw y;obtain⟨a,vs,ns,rfl,rfl,z,c,J⟩:=gf hn p t;refine enter_call (EF (call w s₀ s₁ mg B fa o pm cd aw a vs ns G Y ho (fd_plain hd) ai N z c J hg) λr s' hq=>?_);obtain⟨rfl,h2,h3,h4⟩:=hq;exact⟨.inl ⟨.bool true,.bool true,[],rfl,λ_=>rfl,.bool true,pQ l _,λ_=>⟨List.Pairwise.nil,λ_ hm=>(nomatch hm)⟩⟩,h2,h3,h4⟩
section
variable{K:Frag}
end
end Att
namespace L2
open PySem PySem.Spec PyProof.Rows
theorem A5:∀ {vs:Z A1} {ns:Z Int},IntsAre vs ns->Y8 (ns.map V.int) vs
 | _,_,.nil=>.nil
 | _,_,.cons n t h=>.cons ⟨t,rfl⟩ (A5 h)
def SL(K:KX)(H:Hp)(a:A2)(xs:Z V):Prop :=
 Rd H a (.lst xs)\/∃ (its:Z A1) (n:Nat),K.lookup a=some { cls:=.type "list",data:=.seq its.toArray n }/\xs.length<=sizeLine/\Y8 xs its
def WJ(H:Hp):Prop:=∀ b,H b=none\/∃ o xs,H b=some (.frz o (.lst xs))
theorem mc{B:LO}{k:Nat}{fa a:A2}{x:Str}{s₁:A4}{vs:Z A1} 
  (M:K.In s₁.heap) (p:s₁.heap.Ns mainGlobals mg) (hb:s₁.heap.Ns builtinsNs B) (Q:∀ x:Str,x≠"__name__" -> B x=bootBuiltins x) (G:s₁.heap.NoLimit) (hg:s₁.gens=#[])
  (ha:s₁.heap.get? a=some { cls:=.type "list",data:=.seq vs.toArray }) (hi:IntsAre vs ns) (hl:ns.length<=sizeLine) (hr:J2 k callerA)
  (F:∀ base:G2,K.In base->base.Ns mainGlobals mg->LN P w K mg base CX k fa fd [x] sp) (A:∀ (s:A4) (u:A1),BindsTo s fd ⟨[u],[]⟩ [(x,u)])
  (ac:∀ H:Hp,WJ H->SL K H a (ns.map V.int)->sp [.ref a] H (λv _=>v=.bl true) λ_ _ _=>False)
  (I:∀ H e s',CX [] H s₁ (λ_ _ _=>False) e s'->False) :
  codeAny (model P w) callerA (.call (.ref fa) ⟨[.ref a],[]⟩) (λr s'=>r=.ok (.ret (.bool true))/\OldK s₁.heap s'.heap/\s'.os=s₁.os/\AllBare s'.gens) s₁:=by
 have rv:=A5 hi;have lenV:=hi.length
 -- from an abstract heap in which nothing but E i may be C
 have t:∀ H:Hp,WJ H->SL K H a (ns.map V.int)->Mp P w H s₁.heap->(∀ b,H b≠none->b=a)->(H a≠none->K.lookup a=none) ->
   codeAny (model P w) callerA (.call (.ref fa) ⟨[.ref a],[]⟩) (λr s'=>r=.ok (.ret (.bool true))/\OldK s₁.heap s'.heap/\s'.os=s₁.os/\AllBare s'.gens) s₁:=by
  intro H D hS hok hA f;have c:∀ {b:A2} {o:Obj},s₁.heap.get? b=some o->H b=none->(Bm s₁.heap H).get? b=some o:=λe n=>i4 e n
  have g:∀ {b:A2} {o:Obj} {es:Array DictEntry} {ep:Nat},s₁.heap.get? b=some o->o.data=.dict es ep->H b=none:=λ{b o es ep} e d=>by
   cases q:H b with
   | none=>rfl
   | some u =>
    have e':b=a:=hA b (by rw[q];simp);subst e';rw[ha] at e;cases e;have d':Data.seq vs.toArray _=Data.dict es ep:=d;cases d'
  have j:∀ {b:A2} {m:LO},s₁.heap.Ns b m->(Bm s₁.heap H).Ns b m:=λ{b m} zz=>by obtain⟨o,es,ep,e,d,r⟩:=zz;exact⟨o,es,ep,c e (g e d),d,r⟩
  have J:K.In (Bm s₁.heap H):=λb o e=>c (M b o e) (by
   cases q:H b with
   | none=>rfl
   | some u =>
    have e':b=a:=hA b (by rw[q];simp);subst e';rw[f (by rw[q];simp)] at e;cases e)
  have hM:Mod K mg (Bm s₁.heap H):=⟨J,j p,⟨B,j hb,Q⟩,let ⟨R,h1,h2⟩:=G;⟨R,j h1,h2⟩⟩;have T:MF P w K mg (Bm s₁.heap H) callerA [] s₁ H:=⟨rfl,hM,λb o e=>jJ e,KR (eg _ _),trivial,λb hb=>absurd (show b∈([]:Z A2) from hb) (by simp),hok,.of_eq hg⟩;refine EF ((F _ J (j p)).run callerA [] s₁ H ⟨[.ref a],[]⟩ [.ref a] [.ref a] _ _ hr T (A s₁ (.ref a)) (.cons rfl .nil) (ac H D hS)) λr s' h=>?_
  cases r with
  | error e=>exact(I H e s' h).elim
  | ok fl =>
   cases fl with
   | next=>exact False.elim h
   | brk=>exact False.elim h
   | cont=>exact False.elim h
   | ret u =>
    obtain⟨v,H',os,bare,un,N,r',q⟩:=h;have q':v=.bl true:=q;subst q';obtain rfl:u=Value.bool true:=r';refine⟨rfl,OldK.of_keep λb o e=>?_,os,bare⟩;cases q:H b with
    | none=>exact un.keep b o e q (by intro z;exact absurd (show b∈([]:Z A2) from z) (by simp)) (by simp)
    | some u =>
     rcases D b with z | ⟨ob,xs,z⟩
     .rw[q] at z;cases z
     .have W:=un.frzs b ob _ z
      obtain⟨e1,_⟩:=hok b _ z;obtain⟨e2,_⟩:=N b _ W;rw[e] at e1;cases e1;exact e2
 cases Y:K.lookup a with
 | some o =>
  -- E i is one of E module's own y
  have e:=M a o Y;rw[ha] at e;cases e;refine t (λ_=>none) (λ_=>.inl rfl) (.inr ⟨vs,_,Y,by rw[AB];exact hl,rv⟩) (λb u z=>by have l:(none:C1 HO)=some u:=z;cases l) (λb z=>absurd rfl z) λz=>absurd rfl z
 | none =>
  refine t (λb=>if b=a then some (.frz { cls:=.type "list",data:=.seq vs.toArray } (.lst (ns.map V.int))) else none) (λb=>?_) (.inl (.inr ⟨{ cls:=.type "list",data:=.seq vs.toArray },AE rfl⟩)) (λb u z=>?_) (λb z=>?_) λ_=>Y
  .by_cases hb:b=a
   .exact .inr ⟨_,_,AE hb⟩
   .exact .inl (AK hb)
  .by_cases hb:b=a
   .have l:=(AE hb).symm.trans z
    cases l;subst hb;exact⟨ha,by rw[AB];exact hl,vs,_,rv,ha⟩
   .have l:=(AK hb).symm.trans z
    cases l
  .by_cases hb:b=a
   .exact hb
   .exact absurd (AK hb) z
variable{m:Str}
theorem Znj{l:PySem.W.OpenLaw}{n k:Nat}{d:DefRec}{K:Params->KX}{CX:Gf->Xm}{sp:Gf->Sp}{x:Str}
  (hn:l.most=some n) (aI:n<=sizeLine) (A:d.params.defaults=[]) (hr:J2 k callerA)
  (j:∀ (w:Gf) (h:G2),YP w h->(K w.params).In h)
  (F:∀ (w:Gf) (mg:LO) (fa:A2) (h:G2),(K w.params).In h->h.Ns mainGlobals mg->mg d.name=some (.ref fa) ->
   ∃ fd:Ff,(∀ (s:A4) (u:A1),BindsTo s fd ⟨[u],[]⟩ [(x,u)]) /\
    ∀ base:G2,(K w.params).In base->base.Ns mainGlobals mg->LN l.prog w (K w.params) mg base (CX w) k fa fd [x] (sp w))
  (ac:∀ (w:Gf) (H:Hp) (a:A2) (ns:Z Int),ns.length<=n->WJ H->SL (K w.params) H a (ns.map V.int)->sp w [.ref a] H (λv _=>v=.bl true) λ_ _ _=>False)
  (I:∀ (w:Gf) (H:Hp) (s:A4) (e:A1) (s':A4),CX w [] H s (λ_ _ _=>False) e s'->False) :
  PySem.W.WalkO q loose XP YP l.row.toRowW d [] (λf vs=>PySem.call f vs):=by
 refine Att.attach_call hn A λw s₀ s₁ mg B fa o pm cd aw a vs ns G Y ho hd ai N z c J hg=>?_
 have M:=j w _ Y;obtain⟨fd,hb,t⟩:=F w mg fa _ M G.T.g N;exact mc M G.T.g G.T.b G.T.builtins G.T.nolimit hg z c (BC J aI) hr t hb (λH D hS=>ac w H a ns J D hS) λH e s'=>I w H s₁ e s'
def Nu(s:Df)(j:Nat):Df:=match s with
 | .ClassDef _ _ _ body _ _ _ _ _ _ _=>body.getD j (.Pass ⟨0,0,0,0⟩)
 | _=>.Pass ⟨0,0,0,0⟩
def Vr(s:Df):Arguments:=match s with
 | .FunctionDef _ a _ _ _ _ _ _ _ _=>a
 | _=>{ posonlyargs:=[],args:=[],vararg:=none,kwonlyargs:=[],kw_defaults:=[],kwarg:=none,defaults:=[] }
def Yj(s:Df):Z Df:=match s with
 | .FunctionDef _ _ b _ _ _ _ _ _ _=>b
 | _=>[]
def Z7(s:Df):I3:=match s with
 | .FunctionDef _ _ _ _ _ _ sc _ _ _=>sc
 | _=>{ kind:=.function,names:=[],isGenerator:=false,isCoroutine:=false }
abbrev Eu:Xm:=λ_ _ _ _ _ _=>False
abbrev E0:XK:=λ_ _ _=>False
theorem cw{X:Cx}:Pt Eu X E0:=λ_ _ _ _ _ _ _ h=>h.elim
structure MJ (K:KX) (x aj:Str) (st:Stmt) (f:Addr) (fd:FuncData):Prop where
 ex:∃ (oc:Value) (od:Option Addr) (kV aw pm:Value) (an:Option Addr) (ak ct:Value) (i:Array (Option Value)),
  fd=PySem.W.fnOf x aj (Vr st) (Yj st) (Z7 st) .none kV aw pm an ak ct/\K.lookup f=some ⟨oc,od,.func fd,i⟩/\PySem.W.codeIn K ak aj=true
 kp:PySem.W.keepIn K (.ref f)=true
theorem MJ.ok{x:Str}{st:Df}{f:A2}{N:Z Str}{k:Nat}(F:MJ K x aj st f fd)(S:FnScope N ps (Z7 st))(len:∀ vs H Q E,sp vs H Q E->vs.length=ps.length)
  (a:∀ (ak:A1) (A:C0) (outer:Z J1) (s:A4) (H:Hp) (vs:Z V) (Q:VK) (E:XK),J2 k (A.deeper (envOfC aj (Z7 st) s.heap.objs.size f ak))->sp vs H Q E ->
   ∃ t,R7 (Tv Eu P w K mg base N aj (Z7 st) f ak A outer s H E).nox (Yj st) t/\t { nx:=λ_ H'=>Q .non H',rt:=Q } (LJ N vs) H):LN P w K mg base Eu (k+1) f fd ps sp:=by
 obtain⟨oc,od,kV,aw,pm,an,ak,ct,i,rfl,lk,ai⟩:=F.ex;refine XR lk ai S len λA outer s H vs Q E hr ac=>?_
 obtain⟨t,h,q⟩:=a ak A outer s H vs Q E hr ac;exact⟨t,h.nox,q⟩
theorem MJ.binds{x:Str}{st:Df}{f:A2}(F:MJ K x aj st f fd)
  (h:∀ (kV aw pm:A1) (an:C1 A2) (ak ct:A1) (us:Z A1),us.length=ps.length->bindArgs (PySem.W.fnOf x aj (Vr st) (Yj st) (Z7 st) .none kV aw pm an ak ct) ⟨us,[]⟩=pure (ps.zip us)):Jz K fd ps []:=by
 obtain⟨oc,od,kV,aw,pm,an,ak,ct,i,rfl,lk,ai⟩:=F.ex;exact .all (h kV aw pm an ak ct)
theorem VX{x:Str}{st:Df}{f:A2}{i:Array (C1 A1)}{kV:A1}(l:K.lookup f=some ⟨oc,od,.func (PySem.W.fnOf x aj (Vr st) (Yj st) (Z7 st) .none kV aw pm an ak ct),i⟩)
 (c:PySem.W.codeIn K ak aj=true) (k:PySem.W.keepIn K (.ref f)=true):MJ K x aj st f (PySem.W.fnOf x aj (Vr st) (Yj st) (Z7 st) .none kV aw pm an ak ct):=⟨⟨oc,od,kV,aw,pm,an,ak,ct,i,rfl,l,c⟩,k⟩
theorem VL{k:Nat}(hr:J2 k A):A.units+1<cLine:=EL (Nat.add_le_add_left (by decide:1<=64) _) hr.units
theorem Tr{n:Nat}(h:n<=1000):n<sizeLine:=EL h (by decide)
section
variable{X:Cx}
theorem pv(i:Nat){x:Str}(hN:X.N[i]?=some x:=by rfl)(hv:MQ X.env.scope x:=by ext)(hd:C2 x:=by decide)
 (ai:(x==("__classdict__" : Str))=false:=by decide):PE X (.Name x pos) (Hv i):=Qd hN hv hd ai
end
theorem VA{A:Prop}(h:B):if false=true then A else B:=by
 rw[AK CN];exact h
theorem VG{A:Prop}(h:A):if true=true then A else B:=by
 rw[AE rfl];exact h
def Zp(H H':Hp):Prop:=∀ b o,H b=some o->H' b=some o
theorem Zp.refl(H:Hp):Zp H H:=λ_ _ h=>h
theorem Zp.trans{H H1 H2:Hp}(a:Zp H H1)(b:Zp H1 H2):Zp H H2:=λc o h=>b c o (a c o h)
theorem Zp.free(e:Zp H H')(h:H' l=Option.none):H l=Option.none:=by
 cases q:H l with
 | none=>rfl
 | some o =>
  rw[e l o q] at h;cases h
theorem gt{R:Result->A4->Prop}{aA a iter:C3}{az:Z C3}{scope:I3}{pos:Pos}{it B:A1}{env:J1}(I:Nat->A4->Prop)
  (l:∀ n s,I n s->wpAny (model prog w) A (pyNext it) (λr s₁=>match r with
   | none=>R (.ok .next) s₁
   | some v=>wpAny (model prog w) A (letOwnedTupleGo a it v) (λ_ s₁'=>wpAny (model prog w) A (assign a env v) (λ_ s₂ =>
    wpAny (model prog w) A (forIn az true λc r=>if r=true then do let ok <- isTrue c env (eval c env);pure (ForInStep.yield ok) else pure (ForInStep.yield r)) (λok s₃ =>
     if ok=true then wpAny (model prog w) A (eval aA env) (λx s₄ =>
      wpAny (model prog w) A (call (.builtin "list.append") [B,x]) (λ_ s₅=>∃ m,m<n/\I m s₅) (λ_ _=>False) s₄) (λ_ _=>False) s₃
     else ∃ m,m<n/\I m s₃) (λ_ _=>False) s₂) (λ_ _=>False) s₁') (λ_ _=>False) s₁) (λ_ _=>False) s)
  (n:Nat) (h:I n s) :
  codeAny (model prog w) A (.compLoop (.ListComp aA [⟨a,iter,az,0⟩] scope pos) 0 it B env) R s:=by
 refine codeAny_loop rfl I (λn s hI=>?_) n h;show wpAny _ A ((compTurn (.ListComp aA [⟨a,iter,az,0⟩] scope pos) 0 it B env).onRaise (λx=>do noteFrame x env;theTreesLotGoes x)) _ _ s;refine wpAny_noted ?_;rw[compTurn_list];refine AA (DO (AA (BQ (l n s hI) (λr s₁ h₁=>?_) λ_ _ h'=>h'.elim)));cases r with
 | none=>exact AC h₁
 | some v =>
  refine AA (BQ h₁ (λ_ s₁' h₁'=>?_) λ_ _ h'=>h'.elim);refine AA (BQ h₁' (λ_ s₂ h₂=>AA (BQ h₂ (λok s₃ h₃=>?_) λ_ _ h'=>h'.elim)) λ_ _ h'=>h'.elim);cases ok with
  | false=>exact AC ⟨rfl,h₃⟩
  | true =>
   exact AA (AA (BQ h₃ (λx s₄ h₄=>AA (BQ h₄ (λ_ s₅ h₅=>AC (AC ⟨rfl,h₅⟩)) λ_ _ h'=>h'.elim)) λ_ _ h'=>h'.elim))
def Lf(cells:Z (Str×A2)):Z (Str×NameKind)->Z (Str×A2)->Z (Str×A2)
 | [],B=>B
 | (n,k)::r,B=>Lf cells r (if k==.free then(n,(cells.lookup n).getD 0)::B else B)
theorem P7(h:∀ y∈sc.names,y.2=.free->∃ c,env.cells.lookup y.1=some c):closureFor sc env=pure (Lf env.cells sc.names []):=by
 unfold closureFor;generalize ([]:Z (Str×A2))=B;generalize hl:sc.names=names at h;clear hl;induction names generalizing B with
 | nil=>rfl
 | cons y r ih =>
  obtain⟨n,k⟩:=y;have a:=λB=>ih B λy G=>h y (AR _ G)
  dsimp only at a ⊢;rw[List.forIn_cons];by_cases Y:k=.free
  .subst Y
   obtain⟨c,hc⟩:=h (n,.free) AX rfl;simp only[cellOf,hc,DX,JZ,pure_bind,Lf,KD];exact a _
  .have hb:(k==NameKind.free)=false:=by simpa using Y
   simp only[hb,FE,HF,pure_bind,Lf];exact a _
theorem N5:∀ (names:Z (Str×NameKind)) (B:Z (Str×A2)),(∀ y∈names,y.2=.free->∃ c,cells.lookup y.1=some c)->(∀ x c,B.lookup x=some c->cells.lookup x=some c) ->
   ∀ x c,(Lf cells names B).lookup x=some c->cells.lookup x=some c
 | [],_,_,ha,x,c,e=>ha x c e
 | (n,k)::r,B,h,ha,x,c,e=>by
   unfold Lf at e;refine N5 r _ (λy G=>h y (AR _ G)) (λJ c' e'=>?_) x c e;split at e'
   · rename_i Y
     have C:k=.free:=by simpa using Y
     obtain⟨c0,a⟩:=h (n,k) AX C;simp only at a;rw[ER] at e';split at e'
     · rename_i hx
       have ak:J=n:=by simpa using hx
       subst ak;rw[a] at e';simp at e';rw[a,e']
     · exact ha J c' e'
   · exact ha J c' e'
theorem X4:∀ (names:Z (Str×NameKind)) (B:Z (Str×A2)) (x:Str),((x,NameKind.free)∈names\/(B.lookup x).isSome=true)->((Lf cells names B).lookup x).isSome=true
 | [],B,x,h=>by
   rcases h with h | h
   · simp at h
   · exact h
 | (n,k)::r,B,x,h=>by
   unfold Lf;refine X4 r _ x ?_;rcases h with h | h
   · rcases BA.mp h with e | h
     · cases e
       right;simp
     · exact .inl h
   · right
     split
     · rw[ER]
       split
       · rfl
       · exact h
     · exact h
def Wb(X:Cx)(sc:I3)(N:Z Str)(C:A2)(s:A4)(H:Hp)(fp:Z A2):Cx :=
 { X with N:=N,s₀:=s,H₀:=H,env:=compEnvC sc (Lf X.env.cells sc.names []) C X.env,outer:=X.stack,ex:=fp,fn:=λ_=>false,pn:=[],xe:=λ_ _=>False }
def du(ap sc:I3)(a N:Z Str)(fs:Z (C1 Nat)):Bool :=
 N.length==fs.length&&(N.zip fs).all (λp=>match p.2 with | none=>true | some j=>a[j]?==some p.1&&sc.names.lookup p.1==some .free) &&
 sc.names.all (λy=>y.2 != .cell&&(y.2 != .free||(ap.names.lookup y.1==some .cell||ap.names.lookup y.1==some .free))&&(y.2 != .local||sc.names.lookup y.1==some .local))&&sc.kind==.function
structure CompOk (ap sc:Scope) (a N:List Str) (fs:List (Option Nat)):Prop where
 len:N.length=fs.length
 frees:∀ (i j:Nat),fs[i]?=some (some j)->∃ x,N[i]?=some x/\a[j]?=some x/\sc.names.lookup x=some .free
 nocell:∀ y∈sc.names,y.2≠.cell
 par:∀ y∈sc.names,y.2=.free->ap.names.lookup y.1=some .cell\/ap.names.lookup y.1=some .free
 loc:∀ y∈sc.names,y.2=.local->sc.names.lookup y.1=some .local
 kind:sc.kind=.function
theorem CompOk.of{a N:Z Str}(h:du ap sc a N fs=true):CompOk ap sc a N fs:=by
 unfold du at h;simp only[AW,DC,DH,bne_iff_ne,ne_eq,GE] at h;obtain⟨⟨⟨h1,h2⟩,h3⟩,h4⟩:=h;refine⟨h1,λi j e=>?_,λy G=>(h3 y G).1.1,λy G e=>?_,λy G e=>?_,h4⟩
 .have hi:i<fs.length:=(AG.mp e).1
  have hN:i<N.length:=by lia
  have hz:(N.zip fs)[i]?=some (N[i],some j):=by
   rw[List.getElem?_zip_eq_some];exact⟨by simp[hN],e⟩
  have:=h2 _ (AH hz);simp only[AW,DC] at this;exact⟨N[i],by simp[hN],this.1,this.2⟩
 .rcases(h3 y G).1.2 with z | z
  .exact absurd e z
  .exact z
 .rcases(h3 y G).2 with z | z
  .exact absurd e z
  .exact z
theorem Em{x:Str}{k:NameKind}(a:∀ y∈sc.names,y.2≠.cell)(h:(relabel sc env).names.lookup x=some k)(Y:k=.cell\/k=.free):(x,NameKind.free)∈sc.names:=by
 have hm:=BW h;unfold relabel at hm;simp only[CS] at hm;obtain⟨⟨n,k'⟩,G,e⟩:=hm;dsimp only at e;split at e
 .rename_i hc
  simp only[AW,DC] at hc;cases e;rw[hc.1.1] at G;exact G
 .cases e
  rcases Y with z | z
  .exact absurd z (a _ G)
  .rw[z] at G;exact G
theorem Cd{x:Str}(h:sc.names.lookup x=some .free):(relabel sc env).names.lookup x=some .cell\/(relabel sc env).names.lookup x=some .free:=by
 unfold relabel;dsimp only;generalize sc.names=names at h;induction names with
 | nil=>simp at h
 | cons y r ih =>
  obtain⟨n,k⟩:=y;rw[ER] at h;rw[CF];split at h
  .rename_i hx
   cases h;have:x=n:=by simpa using hx
   subst this;dsimp only;split
   .left;rw[ER];simp
   .right;rw[ER];simp
  .rename_i hx
   dsimp only;split
   .rw[ER,hx];exact ih h
   .rw[ER,hx];exact ih h
section
variable(P:Fn)(w:Gf)
end
section
variable{a:A2}{o:HO}
end
section
variable{x e:A2}{o':HO}
end
section
variable{fs aN aU:Z A2}{H2:Hp}{h1 h2:G2}{a x e:A2}{o:HO}
end
section
variable{X:Cx}{σ:Z (C1 V)}
end
section
variable{X:Cx}
variable{a b:C3}
variable{tA aJ:TT}
end
section
variable{X:Cx}{a:A2}{xs:Z V}
end
section
variable{X:Cx}
end
section
variable{X:Cx}{st:Df}{al:Z Df}{t u:TS}
end
section
variable{X:Cx}
end
section
variable{X:Cx}
end
section
variable{X:Cx}{a b c:C3}{tc:TE}
end
section
variable{x f:A2}{v:A1}
end
section
variable{a:A2}{fs aN:Z (Str×V)}
end
section
variable{X:Cx}{a:A2}{fs:Z (Str×V)}{f:Str}{v:V}
end
section
variable{X:Cx}{o:C3}{f:Str}
end
section
variable{X:Cx}{c:A1}{b:Bool}
end
section
variable{X:Cx}{t:TA}
end
section
variable{X:Cx}
end
section
variable{X:Cx}{k:Nat}{f:A2}{E:XK}{x:Str}{o:C3}{t:TA}
end
section
variable{X:Cx}{k:Nat}{f:A2}{E:XK}{x:Str}{o:C3}{aV:Z Keyword}{t tk:TA}
variable{gV:Z V->Z V->Z V}
end
section
variable{X:Cx}{x:Str}{t:TA}{id:String}{r:Z V->Hp->VK->Prop}
end
section
variable{κ:Type}[DecidableEq κ]
def Eb(kvs:Z (κ×V))(k:κ):C1 V:=(kvs.find? λkv=>decide (kv.1=k)).map (·.2)
def Kb(kvs:Z (κ×V))(k:κ)(v:V):Z (κ×V) :=
 if(kvs.any λkv=>decide (kv.1=k))=true then kvs.map (λkv=>if kv.1=k then(kv.1,v) else kv) else kvs++[(k,v)]
theorem Oo{p:κ×V}{r:Z (κ×V)}{k:κ}(e:p.1=k):Eb (p::r) k=some p.2:=by simp[Eb,HK,e]
theorem X8{p:κ×V}{r:Z (κ×V)}{k:κ}(e:¬ p.1=k):Eb (p::r) k=Eb r k:=by simp[Eb,HK,e]
theorem Hi(k:κ):∀ kvs:Z (κ×V),(kvs.any λkv=>decide (kv.1=k))=(Eb kvs k).isSome
 | []=>rfl
 | p::r=>by
  rw[HD];by_cases e:p.1=k
  .simp only[Oo e,AL e,Bool.true_or,Option.isSome_some]
  .rw[X8 e,AF e,Bool.false_or];exact Hi k r
theorem Lw(kvs:Z (κ×V))(k:κ)(v:V):(Kb kvs k v).length<=kvs.length+1:=by
 unfold Kb;split
 .rw[AB];lia
 .rw[AQ,BS,KJ];lia
theorem il{kvs:Z (κ×V)}{k:κ}(v:V)(h:Eb kvs k=none):Kb kvs k v=kvs++[(k,v)]:=by
 unfold Kb;rw[Hi,h];exact AK (by decide)
theorem Na.isSome_eq{o:C1 V}{u:C1 A1}(r:Na o u):o.isSome=u.isSome:=by
 cases o with
 | none=>cases u with
  | none=>rfl
  | some _=>exact(show False from r).elim
 | some _=>cases u with
  | none=>exact(show False from r).elim
  | some _=>rfl
theorem KV.val{kvs:Z (κ×V)}{vs:Z (κ×A1)}(r:KV kvs vs)(k:κ):Na (Eb kvs k) (valueAt vs k):=by
 unfold KV at r;induction r with
 | nil=>exact FM
 | @cons p q ps qs h t ih =>
  obtain⟨h1,h2⟩:=h;by_cases e:p.1=k
  .have e':q.1=k:=h1.symm.trans e
   have b:valueAt (q::qs) k=some q.2:=by simp[valueAt,HK,e']
   rw[Oo e,b];exact h2
  .have e':¬ q.1=k:=λz=>e (h1.trans z)
   have b:valueAt (q::qs) k=valueAt qs k:=by simp[valueAt,HK,e']
   rw[X8 e,b];exact ih
theorem KV.any{kvs:Z (κ×V)}{vs:Z (κ×A1)}(r:KV kvs vs)(k:κ):(kvs.any λkv=>decide (kv.1=k))=vs.any λkv=>decide (kv.1=k):=by
 unfold KV at r;induction r with
 | nil=>rfl
 | cons h t ih=>rw[HD,HD,ih,h.1]
theorem KV.repl{kvs:Z (κ×V)}{vs:Z (κ×A1)}(r:KV kvs vs)(k:κ)(m:Yu y u) :
  KV (kvs.map λkv=>if kv.1=k then(kv.1,y) else kv) (vs.map λkv=>if kv.1=k then(kv.1,u) else kv):=by
 unfold KV at r ⊢;induction r with
 | nil=>exact .nil
 | @cons p q ps qs h t ih =>
  rw[CF,CF];refine .cons ?_ ih;obtain⟨h1,h2⟩:=h;by_cases e:p.1=k
  .rw[AE e,AE (h1.symm.trans e)];exact⟨h1,m⟩
  .rw[AK e,AK (λz=>e (h1.trans z))];exact⟨h1,h2⟩
theorem KV.put{kvs:Z (κ×V)}{vs:Z (κ×A1)}(r:KV kvs vs)(k:κ)(m:Yu y u):KV (Kb kvs k y) (stored vs k u):=by
 unfold Kb stored;rw[r.any k];by_cases e:(vs.any λkv=>decide (kv.1=k))=true
 .rw[AE e,AE e];exact r.repl k m
 .rw[AK e,AK e];exact Paired.snoc r ⟨rfl,m⟩
theorem KV.length{kvs:Z (κ×V)}{vs:Z (κ×A1)}(r:KV kvs vs):kvs.length=vs.length:=JQ r
end
variable{r:A1}
theorem VO{k:Vz}(r:Yu (kV k) u):(Vp P w).is k u=true:=by
 cases k with
 | inl i=>obtain⟨t,e⟩:=(show ∃ t,u=Value.int i t from r);subst e;exact eP P w i t
 | inr x=>obtain⟨t,e⟩:=(show ∃ t,u=Value.str x t from r);subst e;exact jD P w x t
theorem Ac:∀ {ks:Z Vz} {us:Z A1},Y8 (ks.map kV) us->ItemsAre (Vp P w) ks us
 | [],_,r=>by rw[KN] at r;cases r;exact .nil
 | k::ks,_,r=>by
  rw[CF] at r;cases r with
  | cons h t=>exact .cons (VO h) (Ac t)
abbrev KT(H:Hp):Z (Z Vz×V)->Z (Z Vz×A2×A1)->Prop:=Paired λp q=>p.1=q.1/\H q.2.1=some (.tup (p.1.map kV))/\Yu p.2 q.2.2
theorem KT.val(r:KT H kvs xs)(k:Z Vz):Na (Eb kvs k) ((atKey xs k).map (·.2)):=by
 induction r with
 | nil=>exact FM
 | @cons p q ps qs h t ih =>
  obtain⟨h1,_,h2⟩:=h;by_cases e:p.1=k
  .have e':q.1=k:=h1.symm.trans e
   have b:atKey (q::qs) k=some q.2:=by simp[atKey,HK,e']
   rw[Oo e,b];exact h2
  .have e':¬ q.1=k:=λz=>e (h1.trans z)
   have b:atKey (q::qs) k=atKey qs k:=by simp[atKey,HK,e']
   rw[X8 e,b];exact ih
theorem KT.repl(r:KT H kvs xs)(k:Z Vz)(m:Yu y u) :
  KT H (kvs.map λkv=>if kv.1=k then(kv.1,y) else kv) (xs.map (putAt k u)):=by
 induction r with
 | nil=>exact .nil
 | @cons p q ps qs h t ih =>
  rw[CF,CF];refine .cons ?_ ih;obtain⟨h1,h2,h3⟩:=h;unfold putAt;by_cases e:p.1=k
  .rw[AE e,AE (h1.symm.trans e)];exact⟨h1,h2,m⟩
  .rw[AK e,AK (λz=>e (h1.trans z))];exact⟨h1,h2,h3⟩
theorem KT.put(r:KT H kvs xs)(k:Z Vz){b:A2}(hb:H b=some (.tup (k.map kV)))(m:Yu y u) :
  KT H (Kb kvs k y) (storedH xs k b u):=by
 have e:(kvs.any λkv=>decide (kv.1=k))=(atKey xs k).isSome:=by
  rw[Hi,(r.val k).isSome_eq,Option.isSome_map]
 unfold Kb storedH;rw[e];by_cases q:(atKey xs k).isSome=true
 .rw[AE q,AE q];exact r.repl k m
 .rw[AK q,AK q];exact Paired.snoc r ⟨rfl,hb,m⟩
theorem KT.keeps(r:KT H kvs xs)(ht:∀ b ys,H b=some (.tup ys)->H' b=some (.tup ys)):KT H' kvs xs :=
 Paired.mapP r λ_ _ z=>⟨z.1,ht _ _ z.2.1,z.2.2⟩
section
variable{a:A2}
theorem cU{u:HO}(ok:Mp P w H h)(e:Rd H a u):Yr P w H h a u:=e.ok ok
theorem cJ{kvs:Z (Vz×V)}(ok:Mp P w H h)(e:Rd H a (.dK kvs)):kvs.length<=sizeLine/\(a==sysModules)=false/\∃ vs,KV kvs vs/\h.DictOf (Vp P w) a vs :=
 show Yr P w H h a (.dK kvs) from cU ok e
theorem nW{kvs:Z (Vz×V)}(ok:Mp P w H h)(e:H a=some (.dK kvs)):kvs.length<=sizeLine/\(a==sysModules)=false/\∃ vs,KV kvs vs/\h.DictOf (Vp P w) a vs:=cJ ok (.inl e)
theorem Cs{ks:Z Vz}(ok:Mp P w H h)(e:H a=some (.tup (ks.map kV))):(tupleKind (Vp P w)).is h ks a:=by
 obtain⟨_,its,r,o,h1,h2,n,h3⟩:=(show Yr P w H h a (.tup (ks.map kV)) from ok a _ e);exact⟨o,its.toArray,n,h1,h2,h3,by simpa using Ac r⟩
theorem YO(ok:Mp P w H h)(e:Rd H a (.dT kvs)):kvs.length<=sizeLine/\(a==sysModules)=false /\
  ∃ xs,KT H kvs xs/\h.DictOfH (tupleKind (Vp P w)) a xs:=by
 obtain⟨z,y,xs,r,o,es,ep,h1,h2,h3,h4,h5⟩:=(show Yr P w H h a (.dT kvs) from cU ok e);refine⟨z,y,xs,r,o,es,ep,h1,h2,h3,h4,λx hx=>?_,h5⟩;have all:∀ {l:Z (Z Vz×V)} {m:Z (Z Vz×A2×A1)},KT H l m->∀ x∈m,(tupleKind (Vp P w)).is h x.1 x.2.1:=by
  intro l m q;induction q with
  | nil=>intro x hx;exact nomatch hx
  | @cons p q ps qs hq t ih =>
   intro x hx;rcases BA.mp hx with e | hx
   .subst e
    exact Cs ok (by rw[<- hq.1];exact hq.2.1)
   .exact ih x hx
 exact all r x hx
theorem dG(ok:Mp P w H h)(e:H a=some (.dT kvs)):kvs.length<=sizeLine/\(a==sysModules)=false /\
 ∃ xs,KT H kvs xs/\h.DictOfH (tupleKind (Vp P w)) a xs:=YO ok (.inl e)
end
def RJ(H:Hp)(a:A2)(y:V)(r:C1 V):Prop :=
 (∃ kvs k,Rd H a (.dK kvs)/\y=kV k/\r=Eb kvs k)\/∃ kvs k b,Rd H a (.dT kvs)/\y=.ref b/\H b=some (.tup (k.map kV))/\r=Eb kvs k
def SM(H:Hp)(a:A2)(y v:V)(H':Hp):Prop :=
 (∃ kvs k,H a=some (.dK kvs)/\y=kV k/\kvs.length<sizeLine/\H'=W7 H a (.dK (Kb kvs k v))) \/
 ∃ kvs k b,H a=some (.dT kvs)/\y=.ref b/\H b=some (.tup (k.map kV))/\kvs.length<sizeLine/\H'=W7 H a (.dT (Kb kvs k v))
theorem RJ.t{a b:A2}{k:Z Vz}(e:H a=some (.dT kvs))(C:H b=some (.tup (k.map kV))):RJ H a (.ref b) (Eb kvs k):=.inr ⟨kvs,k,b,.inl e,rfl,C,rfl⟩
theorem SM.t{a b:A2}{k:Z Vz}{v:V}(e:H a=some (.dT kvs))(C:H b=some (.tup (k.map kV)))(hl:kvs.length<sizeLine) :
 SM H a (.ref b) v (W7 H a (.dT (Kb kvs k v))):=.inr ⟨kvs,k,b,e,rfl,C,hl,rfl⟩
section
variable{X:Cx}{a:A2}{v:V}{o:C1 V}
theorem F'.big(I:F' X aa σ H s):sysModules<s.heap.objs.size:=by
 have h:mainGlobals<s.heap.objs.size:=(I.mod.glob.keeps I.bk).lt;exact LI (by decide) h
theorem kE(hu:A.units+1<cLine)(I:F' X aa σ H s)(g:RJ H a y o)(m:Yu y u)(h:∀ s',F' X aa σ H s'->Q (.bool o.isSome) s') :
  wpAny (model X.prog X.w) A (compareOp .In u (.ref a)) Q E s:=by
 rcases g with⟨kvs,k,e,p,l⟩ | ⟨kvs,k,b,e,p,C,l⟩
 .subst p
  obtain⟨z,hd,vs,d,dd⟩:=cJ I.hok e;refine wpAny_in_of (VO m) hd dd.mapOf ?_;rw[<- (d.val k).isSome_eq,<- l];exact h _ (I.tok _)
 .subst p
  cases (show u=Value.ref b from m);obtain⟨z,hd,xs,d,dd⟩:=YO I.hok e;refine wpAny_in_heap (tupleKind_room_in1 hu) (Cs I.hok C) hd dd ?_;have q:=(d.val k).isSome_eq;rw[Option.isSome_map] at q;rw[<- q,<- l];exact h _ (I.tok _)
theorem Cq{t':Nat}{ob:HO}(I:F' X aa σ H s)(mu:RQ (H a))(hs:SameBut a s.heap h')(he:∃ q,h'.get? a=some q)(new:Yr X.prog X.w (W7 H a ob) h' a ob) :
  F' X aa σ (W7 H a ob) { s with heap:=h',toks:=t' } :=
 I.write (x:=a) (e:=a) mu (.inl rfl) (λb q hb z=>(hs.2 b hb).trans z) he new
theorem mM{kvs:Z (Vz×V)}{vs:Z (Vz×A1)}(z:kvs.length<=sizeLine)(hd:(a==sysModules)=false)(d:KV kvs vs)(dd:h'.DictOf (Vp P w) a vs) :
 Yr P w H' h' a (.dK kvs):=⟨z,hd,vs,d,dd⟩
theorem pH{Q:Unit->A4->Prop}(hu:A.units+1<cLine)(I:F' X aa σ H s)(g:SM H a y v H')(m:Yu y u)(rv:Yu v r)(h:∀ s',F' X aa σ H' s'->Q () s') :
  wpAny (model X.prog X.w) A (setItem (.ref a) u r) Q E s:=by
 rcases g with⟨kvs,k,e,p,l,f⟩ | ⟨kvs,k,b,e,p,C,l,f⟩
 .subst p f
  obtain⟨z,hd,vs,d,dd⟩:=nW I.hok e;have hz:vs.length<=sizeLine:=by rw[<- d.length];exact z
  have hl:(Kb kvs k v).length<=sizeLine:=by have:=Lw kvs k v;lia
  refine wpAny_setItem_pairs (hsz:=hz) (VO m) dd λh' j hs=>h _ ?_
  have he:∃ q,h'.get? a=some q:=let ⟨q,_,_,hq,_⟩:=j;⟨q,hq⟩
  exact Cq I (by rw[e];exact FM) hs he (mM hl hd (d.put k rv) j)
 .subst p f
  cases (show u=Value.ref b from m);obtain⟨z,hd,xs,d,dd⟩:=dG I.hok e;have hz:xs.length<=sizeLine:=by rw[<- JQ d];exact z
  have hl:(Kb kvs k v).length<=sizeLine:=by have:=Lw kvs k v;lia
  refine wpAny_setItem_heap (hsz:=hz) (tupleKind_room_in1 hu) (Cs I.hok C) dd λh' j hs=>h _ ?_
  obtain⟨q,es,ep,hq,h2,h3,h4,_,h5⟩:=j;refine Cq I (by rw[e];exact FM) hs ⟨q,hq⟩ ⟨hl,hd,_,(d.put k C rv).keeps λc ys ec=>?_,q,es,ep,hq,h2,h3,h4,h5⟩;rw[Zf (ZN ec e (λz=>nomatch z))];exact ec
end
section
variable{X:Cx}{a:A2}{kvs:Z (Vz×V)}{k:Vz}
end
def fo(ty td:TE):TE:=λσ H Q=>ty σ H λy H1=>td σ H1 λx H2=>∃ a o,x=.ref a/\RJ H2 a y o/\Q (.bl o.isSome) H2
def iW(td ty tv:TE):TS:=λD σ H=>tv σ H λv H1=>td σ H1 λx H2=>ty σ H2 λy H3=>∃ a H4,x=.ref a/\SM H3 a y v H4/\D.nx σ H4
section
variable{X:Cx}{o i:C3}
theorem la(hu:X.A.units+1<cLine)(hi:PE X i ty)(ho:PE X o td):PC X .In i o (fo ty td):=by
 intro aa s σ H Q I h;refine V2 (hi aa s σ H _ I h) λb s1 ⟨y,H1,I1,m,q1⟩=>V2 (ho aa s1 σ H1 _ I1 q1) λu s2 zz=>?_;obtain⟨x,H2,I2,S,a,E,ex,g,q2⟩:=zz
 subst ex;obtain rfl:u=Value.ref a:=S;exact kE hu I2 g m λs3 R=>⟨.bl E.isSome,H2,R,rfl,q2⟩
theorem hZ(hu:X.A.units+1<cLine)(ho:PE X o td)(hi:PE X i ty)(hv:PE X au tv)(hs:swapsWith au (some (.Subscript o i ao)) pos.line X.env=pure false) :
  PS X (.Assign [.Subscript o i ao] au pos) (iW td ty tv):=by
 intro aa s σ H D I h;refine wpAny_Assign_Subscript (V2 (hv aa s σ H _ I h) λr s1 ⟨v,H1,I1,rv,q1⟩=>V2 (ho aa s1 σ H1 _ I1 q1) λu s2 ⟨x,H2,I2,S,q2⟩=>V2 (hi aa s2 σ H2 _ I2 q2) λb s3 zz=>?_) hs;obtain⟨y,H3,R,m,a,H4,ex,g,q3⟩:=zz;subst ex;obtain rfl:u=Value.ref a:=S;exact pH hu R g m rv λs4 I4=>⟨σ,H4,I4,q3⟩
end
theorem jX(h:G2)(hb:sysModules<h.objs.size):Yr P w H (h.push { cls:=.type "dict",data:=.dict #[] }) h.objs.size (.dT []) :=
 ⟨CV _,DV.mpr (AY (BJ hb)),[],.nil,_,#[],0,AU _ rfl,⟨rfl,rfl,rfl⟩,rfl,rfl,DN⟩
section
variable{X:Cx}
end
section
variable{X:Cx}{a:A2}{d:V}{o:C1 V}
end
section
variable{X:Cx}{o f:C3}{tx:TE}
end
section
variable{X:Cx}{a:A2}{kvs:Z (Vz×V)}
end
section
variable{X:Cx}{a:A2}
end
end L2
variable{t:L2.TA}{Q:Unit->PySem.Shared->Prop}{g:Int->Int->L2.V}{aE:PySem.Pos}{xs:Z L2.V}{Lq_:PySem.Addr}{oe:PySem.Obj}{cls:PySem.Value×C1 PySem.Value}{H0:L2.Hp}{fr:Bool}
namespace Att
open PySem PySem.W PySem.Calls PyProof.Rows
section
variable{K:Frag}
end
end Att
namespace L2
open PySem PySem.Spec PyProof.Rows
section
variable{X:Cx}
end
section
variable{κ:Type}[DecidableEq κ]
end
structure J3 (k:Nat) (A:Around):Prop where
 dp:A.depth+3*k+5<recursionLimit
 un:A.units+16*k+200<cLine
 gd:A.guards=some []
theorem J3.mono{k:Nat}(r:J3 k A)(h:j<=k:=by lia):J3 j A:=⟨by have:=r.dp;lia,by have:=r.un;lia,r.gd⟩
theorem J3.deeper{k:Nat}(r:J3 (k+1) A)(env:J1):J3 k (A.deeper env) :=
 ⟨by have:=r.dp;show A.depth+1+3*k+5<_;lia,by have:=r.un;show A.units+3+16*k+200<_;lia,r.gd⟩
theorem J3.depth{k:Nat}(r:J3 k A):A.depth<recursionLimit:=by have:=r.dp;lia
theorem J3.units{k:Nat}(r:J3 k A):A.units+64<cLine:=by have:=r.un;lia
def F3(H:Hp)(c:C1 A1):Prop:=c=some .none\/∃ e2 o2 f,c=some (.ref e2)/\H e2=some (.frz o2 (.own 0))/\o2.data=.fields f/\f[2]?=some .none
theorem F3.mono{c:C1 A1}(h:F3 H c)(s:Zp H H'):F3 H' c:=h.imp id λzz=>by obtain⟨e2,o2,f,h1,h2,h3⟩:=zz;exact⟨e2,o2,f,h1,s _ _ h2,h3⟩
def PP(A:C0)(fs:Z A2)(H:Hp)(h:G2):Prop:=A.handled=none\/∃ e oe ve,A.handled=some (.ref e)/\h.get? e=some oe/\oe.data=.fields ve/\F3 H ve[2]?/\((H e=none/\e∉fs)\/∃ u,H e=some (.frz oe u))
def NX(A:C0)(H:Hp):Prop:=A.handled=none\/∃ e oe ve u,A.handled=some (.ref e)/\H e=some (.frz oe u)/\oe.data=.fields ve/\F3 H ve[2]?
theorem NX.mono(h:NX A H)(s:Zp H H'):NX A H':=h.imp id λzz=>by obtain⟨e,oe,ve,u,h1,h2,h3,h4⟩:=zz;exact⟨e,oe,ve,u,h1,s _ _ h2,h3,h4.mono s⟩
theorem NX.k{fs:Z A2}(z:NX A H)(ok:Mp P w H h):PP A fs H h:=z.imp id λzz=>by obtain⟨e,oe,ve,u,h1,h2,h3,h4⟩:=zz;exact⟨e,oe,ve,h1,(show Yr P w H h e (.frz oe u) from ok e _ h2).1,h3,h4,.inr ⟨u,h2⟩⟩
def lR(A:C0)(fs:Z A2)(H:Hp)(h:G2):Prop:=A.handled=none\/∃ e oe ve,A.handled=some (.ref e)/\h.get? e=some oe/\oe.data=.fields ve/\ve[2]?=some .none/\H e=none/\e∉fs
def RA(X:Cx):Prop:=∀ aa σ H s,F' X aa σ H s->PP X.A (E9 X.stack) H s.heap
def QL(X:Cx):Prop:=∀ aa σ H s,F' X aa σ H s->lR X.A (E9 X.stack) H s.heap
def MU(X:Cx):Prop:=PP X.A X.fs X.H₀ X.s₀.heap/\X.ex=[]
theorem QL.c{X:Cx}(h:QL X):RA X:=λ_ _ _ _ I=>(h _ _ _ _ I).imp id λzz=>by obtain⟨e,oe,ve,h1,h2,h3,h4,h5⟩:=zz;exact⟨e,oe,ve,h1,h2,h3,.inl h4,.inl h5⟩
theorem dA{fs:Z A2}(k:PP A fs H h)(hx:∀ e o,h.get? e=some o->H e=none->A.handled=some (.ref e)->e∉ex)(u:Un fs ex H H' h h')(ok:Mp P w H' h'):HdS A h' :=
 k.imp id λzz=>by obtain⟨e,oe,ve,h1,h2,h3,h4,h5⟩:=zz;exact⟨e,h1,oe,ve,h5.elim (λ⟨z1,W⟩=>u.keep e oe h2 z1 W (hx e oe h2 z1 h1)) (λ⟨v,z⟩=>(show Yr P w H' h' e (.frz oe v) from ok e _ (u.frzs e oe v z)).1),h3,h4.imp id λzz=>by obtain⟨e2,o2,f,y1,y2,y3⟩:=zz;exact⟨e2,o2,f,y1,(show Yr P w H' h' e2 (.frz o2 (.own 0)) from ok e2 _ (u.frzs e2 o2 _ y2)).1,y3⟩⟩
theorem MU.n{X:Cx}(k:MU X):ND X:=λ_ _ _ _ I=>dA k.1 (λe o _ _ _=>by rw[k.2];simp) I.base I.hok
theorem J2.n{k:Nat}(r:J2 k A):J3 k A:=⟨r.dp,r.un,r.gd⟩
structure LR (P:Program) (w:World) (K:KX) (mg:LO) (base:Heap) (CX:Xm) (k:Nat) (f:Addr) (fd:FuncData) (ps:List Str) (sp:Sp):Prop where
 len:∀ vs H Q E,sp vs H Q E->vs.length=ps.length
 run:∀ (A:Around) (outer:List Env) (s:Shared) (H:Hp) (args:Args) (us:List Value) (vs:List V) (Q:VK) (E:XK),J3 k A->PP A (E9 outer) H s.heap->MF P w K mg base A outer s H->BindsTo s fd args (ps.zip us)->Y8 vs us->sp vs H Q E ->
  codeAny (model P w) A (.call (.ref f) args) (CR CX outer P w H s Q E) s
section
variable{X:Cx}{k:Nat}{f:A2}{E:XK}{x m:Str}{o:C3}
theorem lX{Q:VK}(F:LR X.prog X.w X.K X.mg X.base CX k f fd ps sp)(hr:J3 k X.A)(Y:RA X)(hb:Jz X.K fd ps ds)(hd:Y8 dvs ds)(hx:Pt CX X E)
  (I:F' X aa σ H s) (r:Y8 vs us) (h:sp (vs++dvs) H Q E):wpAny (model X.prog X.w) X.A (call (.ref f) us) (EP X aa σ Q) X.xe s:=by
 have r2:Y8 (vs++dvs) (us++ds):=r.append hd;have hl:(us++ds).length=ps.length:=by rw[<- r2.length];exact F.len _ _ _ _ h
 refine FL (EF (F.run X.A X.stack s H ⟨us,[]⟩ (us++ds) (vs++dvs) Q E hr (Y _ _ _ _ I) I.env0 (hb s us I.kIn hl) r2 h) λr s' hq=>?_);cases r with
 | error e=>exact hx aa σ H s e s' I hq
 | ok fl =>
  cases fl with
  | ret u=>exact I.after hq
  | next=>exact False.elim hq
  | brk=>exact False.elim hq
  | cont=>exact False.elim hq
theorem pD(F:LR X.prog X.w X.K X.mg X.base CX k f fd ps sp)(hr:J3 k X.A)(hh:RA X)(hg:Gl X x)(hm:X.mg x=some (.ref f))(Y:PySem.W.keepIn X.K (.ref f)=true)(hb:Jz X.K fd ps ds)(hd:Y8 dvs ds)(hx:Pt CX X E)
  (ha:PA X (e::es) t) (l:C2 x:=by decide) (he:Z0 X.env e es:=by rfl) (ac:Z1 pos X.env es:=by rfl) :
  PE X (.Call (.Name x p) (e::es) [] pos) (SU sp dvs E t):=by
 intro aa s σ H Q I h;refine CU (U9 I hg hm ?_ l);refine GD (h₀:=X.base) I.ok.mod.kin Y (V2 (ha pos aa s σ H _ I h) λus s1 ⟨vs,H1,I1,r,q⟩=>⟨I1.kIn,?_⟩) he ac;exact lX F hr hh hb hd hx I1 r q
end
def D5(CX:Xm)(P:Fn)(w:Gf)(K:KX)(mg:LO)(base:G2)(N:Z Str)(aj:Str)(scope:I3)(f:A2)(cd:A1)(A:C0)(outer:Z J1)(s:A4)(H:Hp)(E:XK):Cx where
 prog:=P
 w:=w
 K:=K
 mg:=mg
 base:=base
 A:=A.deeper (envOfC aj scope s.heap.objs.size f cd)
 N:=N
 s₀:=s
 H₀:=H
 env:=envOfC aj scope s.heap.objs.size f cd
 outer:=outer
 stack:=envOfC aj scope s.heap.objs.size f cd::outer
 ex:=[]
 calm:=false
 fn:=λ_=>true
 pn:=[]
 xe:=λe s'=>wpAny (model P w) (A.deeper (envOfC aj scope s.heap.objs.size f cd)) (leaving (envOfC aj scope s.heap.objs.size f cd) e) (λ_ c=>CX outer H s E e c) (λe' c=>CX outer H s E e' c) s'
variable{Y:Cx}{g:TG}{Q:VK}
theorem pY{N:Z Str}{f:A2}{E:XK} 
  (S:FnScope N ps scope) (T:MF P w K mg base A outer s H) (hl:vs.length=ps.length) (r:Y8 vs us)
  (x:InCallC s s.heap.objs.size (bindL (envOfC aj scope s.heap.objs.size f cd).kindOf (ps.zip us) λ_=>none) (cellsFrom (s.heap.objs.size+1) scope.names []) (bindC (envOfC aj scope s.heap.objs.size f cd).kindOf (ps.zip us) λ_=>none) s1) :
  F' (D5 CX P w K mg base N aj scope f cd A outer s H E) [] (LJ N vs) H s1:=by
 have ac:ps.length<=N.length:=by have:=EB List.length S.pre;rw[BN] at this;lia
 obtain⟨h1,tk,rfl,Y⟩:=x.done;have g:∀ b:A2,b∉(D5 CX P w K mg base N aj scope f cd A outer s H E).ex:=λb z=>absurd (show b∈([]:Z A2) from z) (by simp)
 refine⟨⟨T.mod,S.kind,rfl,rfl,AT _,λy z c h1 h2=>?_,λy G=>?_,λy c _ h=>?_,(λz=>nomatch z),Around.frames_deeper T.frames,.inr ⟨rfl,rfl⟩,λb z=>absurd z (g b),T.bs,T.bsz,λb _ _=>g b,λb z=>absurd z (g b),T.funs,T.frf⟩,
  rfl,T.bare,Un.kept Y,⟨_,x.toInCall.ns,λi y v h1 h2 h3=>?_⟩,λy c h=>⟨_,x.cell y c h⟩,T.hok.fresh (AT _),λy c h=>?_,λp hp=>absurd (show p∈([]:LK) from hp) (by simp),T.hok.kept Y,?_⟩
 .exact name_of_addr x.apart (BW h1) (BW h2)
 .have G:scope.names.lookup y=some .cell\/scope.names.lookup y=some .free:=G
  rcases G with G | G
  .exact Hk G
  .exact absurd rfl (S.nofree _ (BW G))
 .exact EU (x.above y c (BW h))
 .have hi:i<vs.length:=by
   unfold LJ at h2;by_cases hi:i<vs.length
   .exact hi
   .rw[CK (by simpa using hi)] at h2
    rw[FV] at h2;split at h2<;>cases h2
  have ha:vs[i]?=some v:=by
   unfold LJ at h2;rw[BG (by simpa using hi),AM] at h2;cases e:vs[i]? with
   | none=>rw[e] at h2;cases h2
   | some a=>rw[e] at h2;cases h2;rfl
  obtain⟨u,hu,rv⟩:=r.get ha;have hp:ps[i]?=some y:=by
   rw[<- S.pre,List.getElem?_take_of_lt (by lia)];exact h1
  have d:ps.Nodup:=by rw[<- S.pre];exact S.nd.sublist (JT _ _)
  refine⟨u,rv,?_⟩;rcases S.par y (AH hp) with k | k
  .exact .inl ⟨k,Kj d hp hu k⟩
  .obtain⟨c,e⟩:=Hk (n:=s.heap.objs.size+1) k
   refine .inr ⟨.inl k,c,e,?_⟩;have q:=x.cell y c e;rw[Kh d hp hu (by show scope.names.lookup y≠_;rw[k];decide)] at q;exact q
 .exact T.hok.fresh (EU (x.above y c (BW h)))
 .unfold LJ
  show _=N.length;rw[AQ,AB,EZ];lia
theorem nw{k:Nat}{f:A2}{params:Arguments}{U kV:A1} 
  {i:Array (C1 A1)} {N ps:Z Str} {sp:Sp} (lk:K.lookup f=some ⟨oc,od,.func (PySem.W.fnOf name aj params body scope U kV aw pm an ak ct),i⟩) (ai:PySem.W.codeIn K ak aj=true) (S:FnScope N ps scope)
  (len:∀ vs H Q E,sp vs H Q E->vs.length=ps.length)
  (a:∀ (A:C0) (outer:Z J1) (s:A4) (H:Hp) (vs:Z V) (Q:VK) (E:XK),J3 k (A.deeper (envOfC aj scope s.heap.objs.size f ak))->PP A (E9 outer) H s.heap->sp vs H Q E ->
   ∃ t,R7 (D5 CX P w K mg base N aj scope f ak A outer s H E) body t/\t { nx:=λ_ H'=>Q .non H',rt:=Q } (LJ N vs) H) :
  LR P w K mg base CX (k+1) f (PySem.W.fnOf name aj params body scope U kV aw pm an ak ct) ps sp:=by
 refine⟨len,λA outer s H args us vs Q E hr Y T hb r ac=>?_⟩;have hl:=len _ _ _ _ ac;have M:K.In s.heap:=T.mod.kin.keeps λb o e=>(T.bs b o e).1
 have d:s.heap.NoLimit:=T.mod.nolimit.keeps λb o e=>(T.bs b o e).1
 have c:∀ y∈ps.zip us,scope.names.lookup y.1=some .local\/(scope.names.lookup y.1=some .cell/\((cellsFrom (s.heap.objs.size+1) scope.names []).lookup y.1).isSome=true):=λ⟨n,v⟩ G=>by
  rcases S.par n (JY G).1 with q | q
  .exact .inl q
  .exact .inr ⟨q,JE _ _ _ (.inl q)⟩
 refine codeAny_call_function hr.depth (M _ _ lk) rfl S.co S.gen rfl (codeRec_of M ai) (hb _ _ _ _ ?_);refine wpAny_newFunctionEnv_cells S.kind c λenv he s1 x=>?_
 subst he;refine⟨d.keeps x.toInCall.keep,codeAny_func ?_⟩;obtain⟨t,ht,hq⟩:=a A outer s H vs Q E (hr.deeper _) Y ac;have I:F' (D5 CX P w K mg base N aj scope f ak A outer s H E) [] (LJ N vs) H s1:=pY S T hl r x;refine BQ (ht [] s1 (LJ N vs) H _ I hq) (λfl s' hs=>?_) λe s' hs=>hs
 have B:∀ {σ':St} {H':Hp} {v:V} {u:A1},F' (D5 CX P w K mg base N aj scope f ak A outer s H E) [] σ' H' s'->Yu v u->Q v H'->CE outer P w H s Q u s' :=
  λ{σ' H' v u} J rv q=>⟨v,H',J.os,J.bare,J.base,J.hok,rv,q⟩
 cases fl with
 | ret u =>
  obtain⟨v,σ',H',J,rv,q⟩:=hs;exact B J rv q
 | next =>
  obtain⟨σ',H',J,q⟩:=hs;exact B (v:=V.non) (u:=Value.none) J rfl q
 | brk =>
  obtain⟨_,_,_,q⟩:=hs;exact False.elim q
 | cont =>
  obtain⟨_,_,_,q⟩:=hs;exact False.elim q
theorem LR.x{P:Fn}{w:Gf}{K:KX}{mg:LO}{base:G2}{CX:Xm}{k:Nat}{f:A2}{fd:Ff}{ps:Z Str}{sp:Sp}(F:LR P w K mg base CX k f fd ps sp):LN P w K mg base CX k f fd ps sp :=
 ⟨F.len,λA outer s H args us vs Q E hr T hb r ac=>F.run A outer s H args us vs Q E hr.n (.inl hr.hd) T hb r ac⟩
section
variable{X:Cx}{N:Z Str}
theorem Gw(I:F' X aa σ H s)(hp:X.env.scope=ap)(S:CompOk ap sc X.N N fs):∀ y∈sc.names,y.2=.free->∃ c,X.env.cells.lookup y.1=some c:=λy G e=>by
 refine I.ok.has y.1 ?_;have:=S.par y G e;rw[<- hp] at this;exact this
theorem M6(I:F' X aa σ H s)(hp:X.env.scope=ap)(S:CompOk ap sc X.N N fs):∀ x c,(Lf X.env.cells sc.names []).lookup x=some c->X.env.cells.lookup x=some c :=
 N5 sc.names [] (Gw I hp S) λx c e=>by simp at e
theorem eI(I:F' X aa σ H s)(hp:X.env.scope=ap)(S:CompOk ap sc X.N N fs)(hf:∀ b∈fp,E7 X aa H b)(P:∀ b∈fp,b<s.heap.objs.size)(hC:s.heap.objs.size<=C):(Wb X sc N C s H fp).Ok where
 mod:=I.ok.mod
 kind:=S.kind
 glob:=I.ok.glob
 blt:=I.ok.blt
 above:=hC
 inj:=λx y c h1 h2=>I.ok.inj x y c (M6 I hp S x c h1) (M6 I hp S y c h2)
 has:=λx hx=>by
  have hm:(x,NameKind.free)∈sc.names:=by
   rcases hx with hx | hx
   .exact Em S.nocell hx (.inl rfl)
   .exact Em S.nocell hx (.inr rfl)
  exact FT.mp (X4 sc.names [] x (.inl hm))
 cab:=λx c h _=>by cases h
 hd:=I.ok.hd
 frames:=I.ok.frames
 stk:=.inl rfl
 exf:=λb hb=>⟨BJ (AO (P b hb) hC),λx c e=>(hf b hb).2.2.2.2.1 x c (M6 I hp S x c e)⟩
 bs:=I.bs
 bsz:=BC I.ok.bsz I.sz
 noex:=λb o e hb=>by
  rcases(hf b hb).2.2.2.1 with z | z
  .exact I.ok.noex b o e z
  .exact absurd (AO (AN e) (BC I.ok.bsz z)) (DI _)
 exfs:=λb hb hs=>by
  rcases BA.mp (I.stkSub b hs) with z | z
  .exact(hf b hb).2.1 z
  .exact(hf b hb).2.2.1 z
 funs:=I.stack
 frf:=I.stkFree
def U2(fs:Z (C1 Nat))(σ:St):St:=fs.map λo=>match o with | none=>none | some j=>(σ[j]?).getD none
theorem en{h₁:G2}{D:A2}{R:Obj}{m₁:LO}(I:F' X aa σ H s)(hp:X.env.scope=ap)(S:CompOk ap sc X.N N fs)(hf:∀ b∈fp,E7 X aa H b)(P:∀ b∈fp,b<s.heap.objs.size)(hC:s.heap.objs.size<=C)
  (F:∀ b o,s.heap.get? b=some o->h₁.get? b=some o) (hn:h₁.Ns C m₁) (y:h₁.get? D=some R) (d:s.heap.objs.size<=D) (f:D≠C) (h:∀ v,R.data≠.cell v) :
  F' (Wb X sc N C s H fp) [(D,R)] (U2 fs σ) H { s with heap:=h₁,toks:=tk }:=by
 refine⟨eI I hp S hf P hC,rfl,I.bare,Un.kept F,⟨m₁,hn,λi x v e1 e2 e3=>?_⟩,λx c e=>?_,I.hok.fresh hC,λx c e=>I.freeC x c (M6 I hp S x c e),λp M=>?_,I.hok.kept F,?_⟩
 .unfold U2 at e2
  rw[AM] at e2;cases n:fs[i]? with
  | none=>rw[n] at e2;cases e2
  | some o =>
   rw[n] at e2;cases o with
   | none=>simp at e2
   | some j =>
    simp only[Option.map_some,Option.some.injEq] at e2;obtain⟨J,ex,ej,t⟩:=S.frees i j n;have:J=x:=by
     have q:N[i]?=some x:=e1;rw[ex] at q;exact BI q
    subst this;have ev:σ[j]?=some (some v):=by
     cases q:σ[j]? with
     | none=>rw[q] at e2;simp at e2
     | some z=>rw[q] at e2;simp at e2;rw[e2]
    have kk:X.env.scope.names.lookup J=some .cell\/X.env.scope.names.lookup J=some .free:=by
     rw[hp];exact S.par (J,.free) (BW t) rfl
    obtain⟨m,hm,hl⟩:=I.loc;obtain⟨u,r,l⟩:=hl j J v ej ev (by
     rcases kk with k | k
     .exact .inr (.inl k)
     .exact .inr (.inr k))
    refine⟨u,r,.inr ⟨Cd t,?_⟩⟩;rcases l with⟨k,_⟩ | ⟨_,c,hc,a⟩
    .have k':X.env.scope.names.lookup J=some .local:=k
     rcases kk with z | z<;>rw[z] at k'<;>cases k'
    .obtain⟨c',G⟩:=FT.mp (X4 (cells:=X.env.cells) sc.names [] J (.inl (BW t)))
     have:=M6 I hp S J c' G;rw[hc] at this;cases this;obtain⟨oc,ho,hd⟩:=a;exact⟨c,G,oc,F _ _ ho,hd⟩
 .obtain⟨v,oc,ho,hd⟩:=I.cell x c (M6 I hp S x c e)
  exact⟨v,oc,F _ _ ho,hd⟩
 .have g:p=(D,R):=by
   rcases CB.mp M with z | z
   .exact absurd (show p∈([]:LK) from z) (by simp)
   .simpa using z
  subst g;refine⟨y,I.hok.fresh d,f,λhs=>?_,h⟩;have hb:D∈X.env.locals::X.fs:=I.stkSub D hs;rcases BA.mp hb with z | z
  .exact absurd (AO I.lt (by rw[<- z];exact d)) (DI _)
  .exact I.nofs d z
 .show(U2 fs σ).length=N.length
  unfold U2;rw[AB,S.len]
theorem Mp.adopt{D:A2}{n:Nat}(ok:Mp P w H h)(y:H D=none)(ho:h.get? D=some { cls:=.type "list",data:=.seq its.toArray n })(r:Y8 ys its)(hz:ys.length<=sizeLine) :
  Mp P w (W7 H D (.lst ys)) h:=λb u e=>by
 by_cases hb:b=D
 .subst hb
  rw[Zn] at e;cases e;exact⟨hz,its,n,r,ho⟩
 .rw[Zf hb] at e
  refine(ok b u e).stay (λc v _ q=>q) (λc q=>?_) λc xs q=>?_
  .rw[Zf (Yg q y)];exact q
  .rw[Zf (Yg q y)];exact q
theorem Un.adopt{fs:Z A2}{D:A2}{o:HO}(u:Un fs ex H H' h h')(y:h.objs.size<=D)(hn:H' D=none):Un fs ex H (W7 H' D o) h h' where
 keep:=u.keep
 slot:=u.slot
 free:=λb ob q n hx=>by rw[Zf (BJ (AO (AN q) y))];exact u.free b ob q n hx
 there:=u.there
 tups:=λb xs q=>by rw[Zf (Yg (u.tups b xs q) hn)];exact u.tups b xs q
 frzs:=λb ob x q=>by rw[Zf (Yg (u.frzs b ob x q) hn)];exact u.frzs b ob x q
 tbls:=λb ps q=>by
  obtain⟨f,e⟩:=u.tbls b ps q;exact⟨f,by rw[Zf (Yg e hn)];exact e⟩
def OE(Y:Cx)(az:Z C3)(tt:TT):Prop :=
 ∀ (aa:LK) (s:A4) (σ:St) (H:Hp) (Q:Bool->Hp->Prop),F' Y aa σ H s->tt σ H Q ->
  wpAny (model Y.prog Y.w) Y.A (forIn az true λc r=>if r=true then do let ok <- isTrue c Y.env (eval c Y.env);pure (ForInStep.yield ok) else pure (ForInStep.yield r)) (TP Y aa σ Q) Y.xe s
def iG:TT:=λ_ H Q=>Q true H
theorem oZ:OE Y [] iG:=λ_ _ _ H _ I h=>wpAny_tests_nil ⟨H,I,h⟩
theorem lx{c:C3}(h:PT Y c tc):OE Y [c] tc:=λaa s σ H Q I q=>wpAny_tests_one (h aa s σ H Q I q)
def TL(σ σ2:St):Prop:=σ.length=σ2.length/\∀ (i:Nat) v,σ[i]?=some (some v)->σ2[i]?=some (some v)
def dr(wi:TI)(fs:Z (C1 Nat))(g:TG)(tt:TT)(te:TE):TE:=λσ H Q=>wi σ H λJ H1=>∃ W:Nat->Nat->Z V->Hp->Prop,(∃ m,W 0 m [] H1)/\∀ i m ys H,W i m ys H ->
 (J.stop i H/\ys.length<=sizeLine/\∀ p,H p=none->Q (.ref p) (W7 H p (.lst ys))) \/
 (J.go i H/\ys.length<=sizeLine/\∃ N:Z V->Hp->Prop,(∀ af H',N af H'->∃ m',m'<m/\W (i+1) m' af H')/\∀ x H',J.yld i H x H'->g x (U2 fs σ) H' λσ2 H2=>TL (U2 fs σ) σ2 /\
  tt σ2 H2 λb H3=>if b=true then te σ2 H3 λv H4=>N (ys++[v]) H4 else N ys H3)
theorem MU.k(k:MU X)(I:F' X aa σ H s):PP X.A (E9 X.stack) H s.heap:=k.1.imp id λM=>by
 obtain⟨e,oe,ve,h1,h2,h3,h4,h5⟩:=M;have d:F3 H ve[2]?:=h4.imp id λzz=>by obtain⟨e2,o2,f,a,b,c⟩:=zz;exact⟨e2,o2,f,a,I.base.frzs _ _ _ b,c⟩
 have hx:e∉X.ex:=by rw[k.2];simp
 rcases h5 with⟨z1,W⟩ | ⟨u,z⟩
 .refine⟨e,oe,ve,h1,I.base.keep e oe h2 z1 W hx,h3,d,.inl ⟨I.base.free e oe h2 z1 hx,λz=>?_⟩⟩
  rcases BA.mp (I.stkSub e z) with y | y
  .exact absurd (AN h2) (by rw[y];exact FD.mpr I.ok.above)
  .exact W y
 .have l:=I.base.frzs e oe u z
  exact⟨e,oe,ve,h1,(show Yr X.prog X.w H s.heap e (.frz oe u) from I.hok e _ l).1,h3,d,.inr ⟨u,l⟩⟩
theorem MU.comp(k:MU X)(I:F' X aa σ H s)(hf:∀ b∈fp,E7 X aa H b):ND (Wb X sc N C s H fp):=λaB σ' H' s' R=>dA (k.k I) (λe o q n hh hm=>by
 have hh:X.A.handled=some (.ref e):=hh;have hm:e∈fp:=hm;rcases k.1 with z | ⟨e',oe,ve,h1,h2,_⟩
 .rw[z] at hh;cases hh
 .rw[h1] at hh;cases hh
  rcases(hf _ hm).2.2.2.1 with y | y
  .rw[k.2] at y;simp at y
  .exact absurd (AN h2) (FD.mpr y)) R.base R.hok
theorem cA{tn:Nat->G2->Prop}{J:It}{RR:A1->A2->Result->A4->Prop}
  (hp:X.env.scope=ap) (S:CompOk ap sc X.N N fs) (hc:X.calm=true\/(bb=true/\MU X))
  (hb:∀ (C:A2) (s:A4) (H:Hp) (fp:Z A2),PG (Wb X sc N C s H fp) tg g/\OE (Wb X sc N C s H fp) az tt/\PE (Wb X sc N C s H fp) aA te)
  (I:F' X aa σ H s) (T:L3 bb X.prog X.w X.K tg J fp it tn) (st:tn 0 s.heap) (hf:∀ b∈fp,E7 X aa H b) {Q:VK}
  (hW:∃ W:Nat->Nat->Z V->Hp->Prop,(∃ m,W 0 m [] H)/\∀ i m ys H,W i m ys H ->
   (J.stop i H/\ys.length<=sizeLine/\∀ p,H p=none->Q (.ref p) (W7 H p (.lst ys))) \/
   (J.go i H/\ys.length<=sizeLine/\∃ N:Z V->Hp->Prop,(∀ af H',N af H'->∃ m',m'<m/\W (i+1) m' af H')/\∀ x H',J.yld i H x H'->g x (U2 fs σ) H' λσ2 H2=>TL (U2 fs σ) σ2 /\
    tt σ2 H2 λb H3=>if b=true then te σ2 H3 λv H4=>N (ys++[v]) H4 else N ys H3))
  (aG:∀ (D C:A2) (s':A4) (H':Hp),(∃ m,s'.heap.Ns C m)->F' X aa σ H' s'->E7 X aa H' C->Q (.ref D) H'->RR (.ref D) C (.ok .next) s') :
  wpAny (model X.prog X.w) X.A (newList []) (λB s₃=>wpAny (model X.prog X.w) X.A (newFunctionEnv sc X.env.globals (Lf X.env.cells sc.names []) [] X.env.qual none .none (some X.env)) (λam s₄ =>
   codeAny (model X.prog X.w) X.A (.compStart (.ListComp aA [⟨tg,iter,az,0⟩] sc pos) 0 (.ref it) B { am with scope:=relabel sc X.env }) (RR B am.locals) s₄) E s₃) E s:=by
 refine BO (wpAny_newFunctionEnv S.nocell (by intro y G;simp at G) (λh₁ hns₁ hsb₁=>?_) S.kind);dsimp only at hns₁ hsb₁ ⊢;generalize au:s.heap.push { cls:=.type "list",dict:=none,data:=.seq ([]:Z A1).toArray }=h at hns₁ hsb₁ ⊢;have hC:h.objs.size=s.heap.objs.size+1:=by rw[<- au,EX]
 have f:s.heap.objs.size≠h.objs.size:=by rw[hC];exact BJ (ED _)
 have ao:s.heap.objs.size<=h.objs.size:=by rw[hC];exact DP _
 have below:∀ b,b<s.heap.objs.size->b≠h.objs.size/\b≠s.heap.objs.size:=λb hb=>⟨by rw[hC];exact BJ (DJ hb),BJ hb⟩
 have P:∀ b∈fp,b<s.heap.objs.size:=λb hb=>by
  obtain⟨o,e,_⟩:=T.obj _ _ st b hb;exact AN e
 have F:∀ b o,s.heap.get? b=some o->h₁.get? b=some o:=λb o e=>hsb₁.extBut b o (below b (AN e)).1 (AD _ (au▸AD _ e))
 have M:h₁.get? s.heap.objs.size=some { cls:=.type "list",data:=.seq ([]:Z A1).toArray 0 }:=hsb₁.extBut _ _ f (AD _ (au▸AU _ rfl));have ai:tn 0 h₁:=T.keep _ _ _ st λb _ o e=>F b o e
 obtain⟨W,⟨m0,w0⟩,l⟩:=hW;obtain⟨pg,ax,pe⟩:=hb h.objs.size s H fp;generalize j:Wb X sc N h.objs.size s H fp=Y at pg ax pe;have Ye:Y.env=compEnvC sc (Lf X.env.cells sc.names []) h.objs.size X.env:=by rw[<- j];rfl
 have YA:Y.A=X.A:=by rw[<- j];rfl
 have Yp:Y.prog=X.prog:=by rw[<- j];rfl
 have Yw:Y.w=X.w:=by rw[<- j];rfl
 have YK:Y.K=X.K:=by rw[<- j];rfl
 have Yx:Y.xe=λ_ _=>False:=by rw[<- j];rfl
 have Yc:Cm bb Y:=by
  rw[<- j];rcases hc with hc | ⟨hb,hq⟩
  .cases bb with
   | false=>exact hc
   | true=>exact ND.calm hc
  .subst hb
   exact hq.comp I hf
 have aw:∀ x c,X.env.cells.lookup x=some c->c<s.heap.objs.size:=λx c e=>by
  obtain⟨v,q⟩:=I.cell x c e;exact q.lt
 have ak:∀ s₃:A4,s₃={ s with heap:=h₁,toks:=s.toks+([]:Z (Str×A1)).length } ->
   codeAny (model X.prog X.w) X.A (.compLoop (.ListComp aA [⟨tg,iter,az,0⟩] sc pos) 0 (.ref it) (.ref s.heap.objs.size) (compEnvC sc (Lf X.env.cells sc.names []) h.objs.size X.env)) (RR (.ref s.heap.objs.size) h.objs.size) s₃:=by
  rintro s₃ rfl;refine gt (λn s'=>∃ (i:Nat) (H':Hp) (ys:Z V) (its:Z A1) (k:Nat),Y8 ys its/\F' Y [(s.heap.objs.size,{ cls:=.type "list",data:=.seq its.toArray k })] (U2 fs σ) H' s'/\tn i s'.heap/\(∀ b∈fp,H' b=none)/\W i n ys H') ?_ m0
   ⟨0,H,[],[],0,.nil,j▸en (D:=s.heap.objs.size) I hp S hf P ao F hns₁ M (AT _) f (λv z=>by cases z),ai,λb hb=>(hf b hb).1,w0⟩
  rintro n s1 ⟨i,H1,ys,its,k,rv,I1,R,ay,w1⟩;have t:∀ {H':Hp} {pl:LK},(∀ b∈fp,H' b=none)->(∀ p∈pl,p.1=s.heap.objs.size)->∀ b∈fp,E7 Y pl H' b:=λ{H' pl} hn ac b hb=>by
   rw[<- j];refine⟨hn b hb,(below b (P b hb)).1,λz=>?_,.inl hb,λx c e=>(hf b hb).2.2.2.2.1 x c (M6 I hp S x c e),λp ae=>?_⟩
   .rcases BA.mp (I.stkSub b z) with z | z
    .exact(hf b hb).2.1 z
    .exact(hf b hb).2.2.1 z
   .have aB:p∈pl:=by
     rcases CB.mp ae with z | z
     .exact absurd (show p∈([]:LK) from z) (by simp)
     .exact z
    rw[ac p aB];exact AY (below b (P b hb)).2
  have one:∀ {o:Obj} (p:A2×Obj),p∈([(s.heap.objs.size,o)]:LK)->p.1=s.heap.objs.size:=λ{o} p ae=>by
   have:p=_:=AI.mp ae;rw[this]
  rcases l i n ys H1 w1 with⟨stop,hz,qn⟩ | ⟨go,hz,N',hN,step⟩
  .have:=T.done Y Yp Yw YK Yc i _ s1 _ H1 (λ_ _=>False) I1 (t ay one) R stop
   rw[YA] at this;refine V2 this λr s4 ⟨hr,I4⟩=>?_
   subst hr;have Ib:=I4.base;have a:=I4.pin (s.heap.objs.size,_) (BX _ AX);obtain⟨mC,aC,_⟩:=I4.loc;have e1:Y.fs=E9 X.stack:=by rw[<- j];rfl
   have e2:Y.ex=fp:=by rw[<- j];rfl
   have e3:Y.H₀=H:=by rw[<- j];rfl
   have e4:Y.s₀=s:=by rw[<- j];rfl
   have e5:Y.env.locals=h.objs.size:=by rw[<- j];rfl
   rw[e1,e2,e3,e4] at Ib;rw[e5] at aC;have aD:Mp X.prog X.w H1 s4.heap:=by
    have:=I4.hok;rw[Yp,Yw] at this;exact this
   have freeC:H1 h.objs.size=none:=by have:=I4.free;rw[e5] at this;exact this
   have al:W7 H1 s.heap.objs.size (.lst ys) h.objs.size=none:=by rw[Zf (AY f)];exact freeC
   have aH:s4.os=s.os:=by have:=I4.os;rw[e4] at this;exact this
   refine aG _ _ s4 (W7 H1 s.heap.objs.size (.lst ys)) ⟨mC,aC⟩ ?_ (I.fpOk ao al) (qn _ a.2.1);exact I.call' (s':=s4) (ch:=fp) aH (Ib.adopt (AT _) a.2.1) (aD.adopt a.2.1 a.1 rv hz) I4.bare λb hb=>⟨(hf b hb).2.2.2.1,(hf b hb).2.1,(hf b hb).2.2.2.2.1,(hf b hb).2.2.2.2.2⟩
  .have:=T.item Y Yp Yw YK Yc i _ s1 _ H1 (λ_ _=>False) I1 (t ay one) R go
   rw[YA] at this;refine V2 this λr s4 ⟨u,hr,h4⟩=>?_
   subst hr;refine V2 h4 λ_ s5 zz=>?_;obtain⟨x,H5,I5,r5,y5,ag,aq⟩:=zz
   have ar:=I5.pinned (t aq one) (T.obj _ _ ag);have a1:=pg _ s5 _ H5 x u _ ar r5 (step x H5 y5);rw[YA,Yp,Yw,Yx,Ye] at a1;refine V2 a1 λ_ s6 zz=>?_;obtain⟨σ6,H6,I6,ext,q6⟩:=zz
   have a2:=ax _ s6 σ6 H6 _ I6 q6;rw[YA,Yp,Yw,Yx,Ye] at a2;refine V2 a2 λb s7 ⟨H7,I7,q7⟩=>?_
   have ah:∀ {H8:Hp} {s8:A4},F' Y ([(s.heap.objs.size,({ cls:=.type "list",data:=.seq its.toArray k }:Obj))]++X6 fp s5.heap) σ6 H8 s8->F' Y [(s.heap.objs.size,{ cls:=.type "list",data:=.seq its.toArray k })] (U2 fs σ) H8 s8/\tn (i+1) s8.heap/\∀ b∈fp,H8 b=none:=λ{H8 s8} I8 =>
    ⟨I8.unpinned.weak ext.1 ext.2,T.keep _ _ _ ag λb hb o e=>(I8.pin (b,o) (BX _ (BX _ (Rk hb e)))).1,λb hb=>by
     obtain⟨o,e,d⟩:=T.obj _ _ ag b hb;exact(I8.pin (b,o) (BX _ (BX _ (Rk hb e)))).2.1⟩
   cases b with
   | false =>
    rw[AK CN] at q7 ⊢;obtain⟨m',hm,w7⟩:=hN _ _ q7;obtain⟨aI,aJ,aK⟩:=ah I7;exact⟨m',hm,i+1,H7,ys,its,k,rv,aI,aJ,aK,w7⟩
   | true =>
    rw[AE rfl] at q7 ⊢;have a3:=pe _ s7 σ6 H7 _ I7 q7;rw[YA,Yp,Yw,Yx,Ye] at a3;refine V2 a3 λy s8 zz=>?_;obtain⟨v,H8,I8,r8,q8⟩:=zz
    obtain⟨m',hm,w8⟩:=hN _ _ q8;obtain⟨aE,aL,aM⟩:=ah I8;have a:=aE.pin (s.heap.objs.size,_) (BX _ AX);refine append_at (hsz:=by show its.toArray.size<=sizeLine;rw[AV,<- rv.length];exact hz) a.1 λh9 aF aN=>?_
    have e5:Y.env.locals=h.objs.size:=by rw[<- j];rfl
    have I9:F' Y [] (U2 fs σ) H8 { s8 with heap:=h9 }:=by
     have J0:F' Y [] (U2 fs σ) H8 s8:=aE.pins_of λp hp=>absurd hp (by simp)
     refine J0.turned (t':=s8.toks) (it:=s.heap.objs.size) (λb o hb e=>aF.extBut b o hb e) a.2.1 (by rw[e5];exact f) (.inr ?_) (λx c e=>?_) λp hp=>?_
     .rw[<- j];exact AT _
     .rw[<- j] at e
      exact BJ (aw x c (M6 I hp S x c e))
     .rw[<- j] at hp
      exact absurd (show p∈([]:LK) from hp) (by simp)
    refine⟨m',hm,i+1,H8,ys++[v],its++[y],k+1,rv.append (.cons r8 .nil),I9.pins_of λp hp=>?_,T.keep _ _ _ aL λb hb o e=>aF.extBut b o (below b (P b hb)).2 e,aM,w8⟩;have:p=_:=AI.mp hp;subst this;refine⟨?_,a.2.1,a.2.2.1,a.2.2.2.1,λv z=>by cases z⟩;have e9:its.toArray.push y=(its++[y]).toArray:=by simp
    rw[<- e9];exact aN
 exact codeAny_compStart_list (ak _ rfl) (T.self _ 0 _ _ _ ai (ak _ rfl))
theorem F'.letGo{H':Hp}(I:F' X aa σ H s)(f:E7 X aa H C)(hs:SameBut C s.heap h'):F' X aa σ H { s with heap:=h' }:=by
 obtain⟨f0,f1,f2,f3,m,j⟩:=f;exact I.turned (t':=s.toks) (λb o hb e=>hs.extBut b o hb e) f0 f1 f3 m j
theorem lw(ap:I3)(fs:Z (C1 Nat))(N:Z Str)(hp:X.env.scope=ap)(S:CompOk ap sc X.N N fs)(hc:X.calm=true\/(bb=true/\MU X))(hi:NJ bb X tg iter wi)
  (hb:∀ (C:A2) (s:A4) (H:Hp) (fp:Z A2),PG (Wb X sc N C s H fp) tg g/\OE (Wb X sc N C s H fp) az tt/\PE (Wb X sc N C s H fp) aA te)
  (hs:∀ x,foldedSetIterable iter X.env x=pure x:=by intro _;rfl):PE X (.ListComp aA [⟨tg,iter,az,0⟩] sc pos) (dr wi fs g tt te):=by
 intro aa s σ H Q I h;rw[eval_ListComp];refine wpAny_comprehension_free (use:=none) rfl hs (P7 (Gw I hp S)) S.kind S.loc (V2 (hi aa s σ H _ I h) λxv s₁ h₁=>V2 h₁ λk s₂ h₂=>?_);obtain⟨it,fp,tn,J,H2,e,I2,T,j,f2,hW⟩:=h₂;subst e;refine cA (RR:=λB C=>compPost (model X.prog X.w) X.A X.xe none (EP X aa σ Q) B C) hp S hc hb I2 T j f2 hW ?_;intro D C s' H' ⟨m,hm⟩ R f q;exact⟨m,hm,λh' F=>⟨.ref D,H',R.letGo (H':=H') f F,rfl,q⟩⟩
theorem Pf{x:Str}(hN:X.N.Nodup)(y:X.N[i]?=some x)(hx:Cp X.env.scope x)(ap:I3)(fs:Z (C1 Nat))(N:Z Str)(hp:X.env.scope=ap)(S:CompOk ap sc X.N N fs)(hc:X.calm=true)(hi:PI X tg iter wi)
  (hb:∀ (C:A2) (s:A4) (H:Hp) (fp:Z A2),PG (Wb X sc N C s H fp) tg g/\OE (Wb X sc N C s H fp) az tt/\PE (Wb X sc N C s H fp) aA te)
  (hs:∀ x,foldedSetIterable iter X.env x=pure x:=by intro _;rfl) (E:swapsWith (.ListComp aA [⟨tg,iter,az,0⟩] sc pos) (some (.Name x ao)) aE.line X.env=pure true:=by rfl)
  (hf:X.fn x=true\/X.env.scope.names.lookup x=some .local:=by ext) :
  PS X (.Assign [.Name x ao] (.ListComp aA [⟨tg,iter,az,0⟩] sc pos) aE) (UZ (dr wi fs g tt te) (UF i)):=by
 intro aa s σ H D I h;rw[exec_Assign_Name_used _ _ _ _ E];refine AA (DO (AA ?_));show wpAny _ X.A (do let _ <- comprehension (.ListComp aA [⟨tg,iter,az,0⟩] sc pos) sc X.env _ (newList []) false (eval iter X.env) (some (assign (.Name x ao) X.env))) _ _ s;refine AA (BQ (wpAny_comprehension_free (use:=some (assign (.Name x ao) X.env)) (Q:=λ_ s'=>SP X aa D .next s') rfl hs (P7 (Gw I hp S)) S.kind S.loc
  (V2 (hi aa s σ H _ I h) λxv s₁ h₁=>V2 h₁ λk s₂ h₂=>?_)) (λ_ s' hq=>AC (AC hq)) λ_ _ e=>e)
 obtain⟨it,fp,tn,J,H2,e,I2,T,j,f2,hW⟩:=h₂;subst e;refine cA (Q:=λv H'=>UF i v σ H' D.nx) (RR:=λB C=>compPost (model X.prog X.w) X.A X.xe (some (assign (.Name x ao) X.env)) (λ_ s'=>SP X aa D .next s') B C) hp S (.inl hc) hb I2 T j f2 hW ?_;intro Lq_ C s' H' ⟨m,hm⟩ R f q;refine wpAny_assign_Name (Fm R hN y hx (show Yu (V.ref Lq_) (Value.ref Lq_) from rfl) (λc b ⟨a,o,ha⟩=>?_) hf);have d:C≠a:=by
  rintro rfl;rcases ha with z | z
  .exact f.2.1 z
  .exact f.2.2.2.2.1 x _ z rfl
 refine⟨m,hm.sameBut o d,λh' F=>⟨_,H',b.letGo (H':=H') f F,q⟩⟩
end
section
variable{t u:TS}{a b c:St->Hp->Prop}{r:VK}{td:TT}
end
section
variable{X:Cx}
def j8(K:KX):Z V->Hp->VK->Prop:=λxs H Q=>(∃ p ys,xs=[.ref p]/\(E5 K H p ys\/Sl K H p ys)/\(ys.length<=sizeLine->Q (.int ys.length) H))\/∃ z,xs=[.str z]/\z.length<=sizeLine/\Q (.int z.length) H
theorem n9:Vf X (.builtin "len") (j8 X.K):=by
 intro aa s σ H xs us Q I r h;rcases h with⟨p,ys,e,hq,q⟩ | h
 .refine Ck aa s σ H xs us Q I r ⟨p,ys,e,hq,q ?_⟩
  rcases hq with hq | hq
  .exact(I.list hq).choose_spec.2.2
  .exact(I.tuple hq).choose_spec.2.2
 .exact Bk aa s σ H xs us Q I r h
theorem PI.or{w1 w2:TI}(h1:PI X tg iter w1)(h2:PI X tg iter w2):PI X tg iter (λσ H R=>w1 σ H R\/w2 σ H R):=by
 intro aa s σ H R I h;rcases h with h | h
 .exact h1 aa s σ H R I h
 .exact h2 aa s σ H R I h
def ku(K:KX)(tl:TE):TI:=λσ H R=>UU K tl σ H R\/YY K tl σ H R
theorem cZ{l:C3}(hl:PE X l tl):PI X tg l (ku X.K tl):=(eJ hl).or (nA hl)
end
section
variable{ta:TA}{tb:TS}{D:LP}{a b c:St->Hp->Prop}{r:VK}
end
variable{k:Nat}
structure OR (K:KX) (mg:LO) (x:Str) (st:Stmt):Prop where
 ex:∃ f fd,MJ K x x st f fd/\mg x=some (.ref f)
structure WN (P:Program) (w:World) (K:KX) (mg:LO) (base:Heap) (k:Nat) (x:Str) (ps:List Str) (sp:Sp):Prop where
 ex:∃ f fd,LN P w K mg base Eu k f fd ps sp/\mg x=some (.ref f)/\PySem.W.keepIn K (.ref f)=true/\Jz K fd ps []
def cM(sp:Sp)(t:TA):TE:=λσ H Q=>t σ H λvs H1=>sp vs H1 Q E0
theorem XC{X:Cx}{x:Str}(C:WN X.prog X.w X.K X.mg X.base k x ps sp)(hr:J2 k X.A)(ha:PA X (e::es) t)(hg:Gl X x:=by rfl)
  (l:C2 x:=by decide) (he:Z0 X.env e es:=by rfl) (ac:Z1 pos X.env es:=by rfl) :
  PE X (.Call (.Name x p) (e::es) [] pos) (cM sp t):=by
 obtain⟨f,fd,F,hm,Y,hb⟩:=C.ex;have:=l4 (dvs:=[]) (ds:=[]) (E:=E0) F hr hg hm Y hb .nil cw ha l he ac (p:=p);intro aa s σ H Q I h;refine this aa s σ H Q I ?_;unfold SU;simp only[EG];exact h
abbrev dV(x:PySem.Str)(st:PySem.Stmt)(ps:List PySem.Str):Prop:=∀ (kV aw pm:A1) (an:C1 A2) (ak ct:A1) (us:Z A1),us.length=ps.length->bindArgs (PySem.W.fnOf x x (Vr st) (Yj st) (Z7 st) .none kV aw pm an ak ct) ⟨us,[]⟩=pure (ps.zip us)
theorem jg{x:Str}{st:Df}{N:Z Str}(D:OR K mg x st)(S:FnScope N ps (Z7 st))
  (j:dV x st ps)
  (len:∀ vs H Q E,sp vs H Q E->vs.length=ps.length)
  (a:∀ (f:A2) (ak:A1) (A:C0) (outer:Z J1) (s:A4) (H:Hp) (vs:Z V) (Q:VK) (E:XK),J2 k (A.deeper (envOfC x (Z7 st) s.heap.objs.size f ak))->sp vs H Q E ->
   ∃ t,R7 (Tv Eu P w K mg base N x (Z7 st) f ak A outer s H E).nox (Yj st) t/\t (LP.mk (λ_ H'=>Q .non H') Q (λ_ _=>False) (λ_ _=>False)) (LJ N vs) H):WN P w K mg base (k+1) x ps sp:=by
 obtain⟨f,fd,F,hm⟩:=D.ex;exact⟨f,fd,F.ok S len (λak A outer s H vs Q E hr h=>a f ak A outer s H vs Q E hr h),hm,F.kp,F.binds j⟩
theorem md{x:Str}{st:Df}{f:A2}{N:Z Str}(F:MJ K x x st f fd)(S:FnScope N ps (Z7 st))(len:∀ vs H Q E,sp vs H Q E->vs.length=ps.length)
  (a:∀ (ak:A1) (A:C0) (outer:Z J1) (s:A4) (H:Hp) (vs:Z V) (Q:VK) (E:XK),J2 k (A.deeper (envOfC x (Z7 st) s.heap.objs.size f ak))->sp vs H Q E ->
   ∃ t,R7 (Tv Eu P w K mg base N x (Z7 st) f ak A outer s H E).nox (Yj st) t/\t (LP.mk (λ_ H'=>Q .non H') Q (λ_ _=>False) (λ_ _=>False)) (LJ N vs) H):LN P w K mg base Eu (k+1) f fd ps sp :=
 F.ok S len a
theorem Zp.new{o:HO}(h:H l=none):Zp H (W7 H l o):=λb u e=>by rw[Zf (Yg e h)];exact e
theorem Zp.seqT{a:A2}(e:Zp H H')(h:Sl K H a xs):Sl K H' a xs:=by
 rcases h with h | h
 .exact .inl (e _ _ h)
 .exact .inr h
section
variable{X:Cx}
theorem ZZ{x:Str}(hg:Gl X x)(hm:X.mg x=none)(hv:bootBuiltins x=some (.type T))(hn:x≠"__name__" := by decide)(hd:C2 x:=by decide):PE X (.Name x pos) (tC (.ty T)) :=
 kt (v:=.ty T) hg hm hv rfl hn hd
def XT(T n:String):C1 Bool:=if(Value.type T==Value.type n)=true then some true else if PySem.W.kitMeta n=true then(PySem.fastBuiltinMro T).map (·.contains (.type n)) else none
theorem n7{n:String}{b:Bool}(h:XT T n=some b):PySem.W.kitOne K (.type T) (.type n)=some b:=h
def da:V->C1 Int->C1 Int->Hp->VK->Prop:=λx lo hi H Q=>∃ z,x=.str z/\z.length<=sizeLine/\Q (.str (Txt.slice z lo hi)) H
theorem iY:MY X da:=by
 intro aa s σ H x v vl vu lo hi sl Q I S hs pl c h;obtain⟨z,rfl,hz,q⟩:=h;obtain⟨t,rfl⟩:=S;have B:∀ t' k,EP X aa σ Q (.str (Txt.slice z lo hi) t') { s with toks:=k }:=λt' k=>⟨.str (Txt.slice z lo hi),H,I.tok _,⟨_,rfl⟩,q⟩
 refine⟨"str",_,F.slot_str_getitem.lookup,typeIs_str _ _ _,?_⟩;cases pl with
 | none =>
  cases c with
  | none=>exact FW (l:=none) (u:=none) (st:=none) hs rfl (IT ⟨BC (HG z _ _) hz,B⟩)
  | int j a=>exact FW (l:=none) (u:=some (j,a)) (st:=none) hs rfl (IT ⟨BC (HG z _ _) hz,B⟩)
 | int i d =>
  cases c with
  | none=>exact FW (l:=some (i,d)) (u:=none) (st:=none) hs rfl (IT ⟨BC (HG z _ _) hz,B⟩)
  | int j a=>exact FW (l:=some (i,d)) (u:=some (j,a)) (st:=none) hs rfl (IT ⟨BC (HG z _ _) hz,B⟩)
def lL(K:KX):V->C1 Int->C1 Int->Hp->VK->Prop:=λx lo hi H Q=>b5 K x lo hi H Q\/ZM K x lo hi H Q\/da x lo hi H Q
theorem kf:MY X (lL X.K):=fL.or (jf.or iY)
theorem Ro:∀ {us:Z A1},IntsAre us ns->Y8 (ns.map V.int) us:=by
 intro us h;induction h with
 | nil=>exact .nil
 | cons n t h ih=>exact .cons ⟨t,rfl⟩ ih
def fw(K:KX):Z V->Hp->VK->Prop:=λxs H Q=>∃ p ns,xs=[.ref p]/\E5 K H p (ns.map V.int)/\ns.length<64 /\
 ∀ (f:Z Int) (l:A2),f.Perm ns->f.Pairwise (·<=·)->H l=none->Q (.ref l) (W7 H l (.lst (f.map V.int)))
theorem B4:Vf X (.builtin "sorted") (fw X.K):=by
 intro aa s σ H xs us Q I r h;obtain⟨p,ns,rfl,hq,g,q⟩:=h;obtain⟨u,rfl,S⟩:=Jg r;cases S;obtain⟨its,r',pl,hz⟩:=I.list hq;have J:=r'.length;rw[AB] at J;refine sorted_ints pl.isList (Hb r') (by lia) λout f h1 h2 h3=>?_
 obtain⟨e,he⟩:=sortedAll_at s.heap its out;have hl:f.length=ns.length:=h2.length_eq;refine⟨.ref (s.heap.objs.size+1),W7 H (s.heap.objs.size+1) (.lst (f.map V.int)),I.laid (t':=s.toks) (λb o q=>sortedAll_old q) (DP _) ?_,rfl,q f _ h2 h3 (I.hok.fresh (DP _))⟩;refine⟨by rw[AB] at hz ⊢;lia,out.toList,e,Ro h1,?_⟩;rw[he]
theorem jo{bs:Z Bool}(r:Y8 (bs.map V.bl) its):TruthOf X.prog X.w A (λi v=>its.toArray[i]?=some v) (λi=>bs.getD i false):=by
 intro i v s Q E hv h;have a:its[i]?=some v:=by simpa using hv
 have hi:i<its.length:=(AG.mp a).1;have hl:=r.length;rw[AB] at hl;have hb:(bs.map V.bl)[i]?=some (V.bl (bs[i]'(by lia))):=by simp[show i<bs.length by lia]
 obtain⟨u,hu,B⟩:=r.get hb;rw[a] at hu;cases hu;cases B;have:bs.getD i false=bs[i]'(by lia):=by simp[List.getD,show i<bs.length by lia]
 have h':Q (bs.getD i false) s:=h;rw[this] at h';exact GF h'
theorem fQ(bs:Z Bool):(List.range bs.length).any (λi=>bs.getD i false)=bs.any id:=by
 induction bs with
 | nil=>rfl
 | cons b bs ih =>
  rw[BS,List.range_succ_eq_map,HD,any_map,HD];have:(λi=>(b::bs).getD i false) ∘ Nat.succ=λi=>bs.getD i false:=by funext i;rfl
  rw[this,ih];rfl
def lS(K:KX):Z V->Hp->VK->Prop:=λxs H Q=>∃ (p:A2) (bs:Z Bool),xs=[.ref p]/\E5 K H p (bs.map V.bl)/\Q (.bl (bs.any id)) H
theorem oY(hc:X.calm=true):Vf X (.builtin "any") (lS X.K):=by
 intro aa s σ H xs us Q I r h;obtain⟨p,bs,rfl,hq,q⟩:=h;obtain⟨u,rfl,S⟩:=Jg r;cases S;obtain⟨its,r',pl,hz⟩:=I.list hq;have hl:=pl.isList;have ae:p<s.heap.objs.size:=by obtain⟨o,e,_⟩:=hl;exact AN e
 have J:=r'.length;rw[AB] at J;refine call_any_walk (JR hl ⟨s.heap.objs.size,_,_,_,_,_,λi=>bs.getD i false,rfl,Walks.list (A:=X.A.in1) (I.ok.hd hc) s.heap.objs.size p (BJ ae) its.toArray,⟨⟨_,AU _ rfl,rfl,rfl⟩,hl.push _⟩,jo r',λh' tk Y=>?_⟩);have e:(List.range its.toArray.size).any (λi=>bs.getD i false)=bs.any id:=by rw[AV,<- J];exact fQ bs
 rw[e];exact⟨.bl _,H,I.kept (h':=h') (t':=tk) (λb o e=>Y b o (by simpa using BJ (AN e)) (AD _ e)),rfl,q⟩
abbrev TJ:=St->Hp->Str->VK->Prop
def PJ(X:Cx)(vs:Z C3)(t:TJ):Prop :=
 ∀ (aa:LK) (s:A4) (σ:St) (H:Hp) (B:Str) (Q:VK),F' X aa σ H s->B.length<=sizeLine->t σ H B Q->wpAny (model X.prog X.w) X.A (joinParts B (evalEach vs X.env)) (EP X aa σ Q) X.xe s
def ck:TJ:=λ_ H B Q=>Q (.str B) H
def cG(c:Str)(r:TJ):TJ:=λσ H B Q=>(B++c).length<=sizeLine/\r σ H (B++c) Q
theorem WL:PJ X [] ck:=λaa s σ H B Q I hz h=>joinParts_nil ⟨.str B,H,I.tok _,⟨_,rfl⟩,h⟩ hz
theorem X2{c:Str}{vs:Z C3}{r:TJ}(hr:PJ X vs r):PJ X (.Constant (.str c) j pos::vs) (cG c r):=by
 intro aa s σ H B Q I hz h;refine joinParts_cons (Calls.Constant_str ?_);exact⟨h.1,hr aa _ σ H (B++c) Q (I.tok _) h.1 h.2⟩
def B1(r:TJ):TE:=λσ H Q=>r σ H Str.empty Q
theorem Kn{m f:C3}{r:TJ}(h:PJ X (m::f::al) r):PE X (.JoinedStr (m::f::al) pos) (B1 r):=by
 intro aa s σ H Q I hq;exact JoinedStr_many (h aa s σ H Str.empty Q I (by decide) hq)
end
abbrev cl(z:Str):Z Nat:=z.cps.toList
theorem Ot(z:Str):(cl z).length=z.length:=by simp[cl,Str.length]
theorem dt(x y:Str):cl (x++y)=cl x++cl y:=by
 show(x.cps++y.cps).toList=_;simp[cl]
def Ja(xs:Z α)(lo hi:C1 Int):Z α:=(xs.drop (HT.sIx xs.length 0 lo)).take (HT.sIx xs.length xs.length hi - HT.sIx xs.length 0 lo)
theorem pS(xs:Z Nat)(i k:Nat):((List.range k).map λ(m:Nat)=>((i:Int)+1*(m:Int)).toNat).filterMap (xs[·]?)=(xs.drop i).take k:=by
 rw[JK];induction k generalizing i with
 | zero=>simp
 | succ k ih =>
  rw[List.range_succ_eq_map,EK,JK];have T:((λx=>xs[x]?) ∘ λm:Nat=>((i:Int)+1*(m:Int)).toNat) 0=xs[i]?:=by simp[Function.comp]
  rw[T];have e1:(((λx=>xs[x]?) ∘ λm:Nat=>((i:Int)+1*(m:Int)).toNat) ∘ Nat.succ)=((λx=>xs[x]?) ∘ λm:Nat=>(((i+1:Nat):Int)+1*(m:Int)).toNat):=by
   funext m
   simp only[Function.comp,Nat.succ_eq_add_one];congr 1
   lia
  rw[e1,ih];cases h:xs[i]? with
  | none =>
   have hl:xs.length<=i:=List.getElem?_eq_none_iff.mp h;simp[List.drop_eq_nil_of_le hl,List.drop_eq_nil_of_le (HW hl)]
  | some c =>
   obtain⟨hi,hc⟩:=AG.mp h;rw[FN hi,GH,hc]
theorem YV(lo hi:C1 Int)(n:Nat):Builtin.Str.strSliceIndices lo hi 1 n=(List.range (HT.sIx n n hi - HT.sIx n 0 lo)).map λ(m:Nat)=>(((HT.sIx n 0 lo:Nat):Int)+1*(m:Int)).toNat:=by
 have c:∀ (v:C1 Int) (d:Nat),(match v with | none=>(d:Int) | some i=>(let i:=if i<0 then i+(n:Int) else i;if(1:Int) > 0 then max 0 (min i (n:Int)) else max (-1) (min i ((n:Int) - 1))))=((HT.sIx n d v:Nat):Int):=by
  intro v d;cases v with
  | none=>rfl
  | some i =>
   rw[<- HT.clip_eq i n d];dsimp only;rw[AE (by decide)];by_cases hi:i<0
   .rw[AE hi,AE hi];lia
   .rw[AK hi,AK hi];lia
 have aj:∀ (x y:Int) (a b:Nat),x=a->y=b->sliceRange x y 1=(List.range (b - a)).map λ(m:Nat)=>((a:Int)+1*(m:Int)).toNat:=by
  rintro x y a b rfl rfl;unfold sliceRange;dsimp only;rw[AE (by decide)];congr 1
  congr 1
  by_cases h:(a:Int)<(b:Int)
  .rw[AE h];lia
  .rw[AK h];lia
 unfold Builtin.Str.strSliceIndices;dsimp only;have e1:=c lo 0;have e2:=c hi n;dsimp only at e1 e2;simp only[show(1:Int) > 0 by decide,JZ] at e1 e2 ⊢;exact aj _ _ _ _ e1 e2
theorem kS(z:Str)(lo hi:C1 Int):cl (Txt.slice z lo hi)=Ja (cl z) lo hi:=by
 have hn:(cl z).length=z.length:=Ot z;unfold Txt.slice Ja;rw[hn];have N:=HT.sIx_le z.length z.length (AT _) hi;split
 .rename_i h
  rw[YV,AB,CZ] at h;have h':HT.sIx z.length z.length hi - HT.sIx z.length 0 lo=z.length:=by simpa using h
  have h0:HT.sIx z.length 0 lo=0\/z.length=0:=by lia
  rcases h0 with h0 | h0
  .rw[h',h0,LB,BZ (by lia)]
  .have:cl z=[]:=FC.mp (by lia)
   rw[this];simp
 .show(((Builtin.Str.strSliceIndices lo hi 1 z.length).filterMap (z.cps[·]?)).toArray).toList=_
  rw[YV];have e:(λx:Nat=>z.cps[x]?)=λx=>(cl z)[x]?:=by funext x;simp[cl]
  rw[e];exact pS _ _ _
section
variable{X:Cx}(K:KX)
def WR(K:KX):Z V->Hp->VK->Prop:=λxs H Q=>∃ p ys,xs=[.ref p]/\(E5 K H p ys\/Sl K H p ys)/\∀ l,H l=none->Q (.ref l) (W7 H l (.lst ys))
theorem G8(h:X.K=K:=by rfl):Vf X (.type "list") (WR K):=by subst h;exact Iu
variable{o:C3}{to:TE}{id:String}{r:V->Z V->Hp->VK->Prop}
end
end L2
variable{P:Z α->Prop}{t k:Nat}{ta:L2.TA}{wr:Z PySem.Addr}{cd:PySem.ClassData}
namespace PySem

theorem Mz{ac}{x:A1}{Q:LM}(c:s.heap.IsTupleIter it l i)
  (hl:s.heap.IsTuple l ac) (hx:ac[i]?=some x)
  (j:∀ h',h'.IsTupleIter it l (i+1)->SameBut it s.heap h'->Q x { s with heap:=h' }) :
  wpAny (model prog w) A (Builtin.SmallTypes.nextOf (.ref it)) Q E s:=by
 obtain⟨o,ho,hc,hd⟩:=id c;obtain⟨y,g,_,p,M⟩:=hl;unfold Builtin.SmallTypes.nextOf;refine AA (CL (name:=Str.ofString "__next__") c.typeIs FI
  (BY FI c.typeIs F.entry_tuple_iterator_next ?_ (F.args_tuple_iterator_next_1 _)))
 show wpAny _ _ (field (.ref it) 0 >>= _) _ _ s;refine AA (CH ho hd (x:=.ref l) rfl ?_);show wpAny _ _ (if(Value.ref l==Value.none)=true then _ else _) _ _ s;rw[AK (show ¬ ((Value.ref l==Value.none)=true) from CN)];show wpAny _ _ (field (.ref it) 1 >>= _) _ _ s;refine AA (CH ho hd (x:=.int i 0) rfl ?_);show wpAny _ _ (seqItems? (.ref l) >>= _) _ _ s;refine AA (GK g M ?_);simp only[BR,hx];refine AA (CW ho hd (by simp) (AC ⟨x,rfl,AC (j _ ?_ (DR ..))⟩));exact⟨_,BH _ ho (DK (BV hd _)),(GG ..).trans hc,by
  rw[BV hd];simp[rawInt]⟩
theorem S7{ac}{Q:LM}(hh:A.handled=none)
   (c:s.heap.IsTupleIter it l i) (hl:s.heap.IsTuple l ac) (hx:ac[i]?=none)
   (n:∀ h' e,ExtBut it s.heap h'->(∃ o,h'.get? e=some o/\o.cls=.type "StopIteration")->E (.ref e) { s with heap:=h' }) :
   wpAny (model prog w) A (Builtin.SmallTypes.nextOf (.ref it)) Q E s:=by
 obtain⟨o,ho,hc,hd⟩:=id c;obtain⟨y,g,_,p,M⟩:=hl;unfold Builtin.SmallTypes.nextOf;refine AA (CL (name:=Str.ofString "__next__") c.typeIs FI
   (BY FI c.typeIs F.entry_tuple_iterator_next ?_ (F.args_tuple_iterator_next_1 _)))
 show wpAny _ _ (field (.ref it) 0 >>= _) _ _ s;refine AA (CH ho hd (x:=.ref l) rfl ?_);show wpAny _ _ (if(Value.ref l==Value.none)=true then _ else _) _ _ s;rw[AK (show ¬ ((Value.ref l==Value.none)=true) from CN)];show wpAny _ _ (field (.ref it) 1 >>= _) _ _ s;refine AA (CH ho hd (x:=.int i 0) rfl ?_);show wpAny _ _ (seqItems? (.ref l) >>= _) _ _ s;refine AA (GK g M ?_);simp only[BR,hx];refine AA (HQ (AA (CW ho hd (by simp) ?_)));show wpAny _ _ (newExc (.type "StopIteration") [] >>= _) _ _ _;refine AA ?_;simp only[newExc,newTuple];refine AA (BO ?_ (by size_fits));refine AA (m:=firstArgMember _ _) (ES (a:=Value.none) (by first | rfl | (simp only[firstArgMember];rfl)) ?_);refine BO ?_ (by size_fits);simp only[raiseNew];refine AA (JP ?_);first | rw[show A.in1.handled=none from hh] | rw[hh]
 refine AA (AC (KM ?_));exact n _ _ (((DR ..).extBut.push _).push _) ⟨_,AU _ rfl,rfl⟩
theorem Draws.tupleD(hh:A.handled=none)(it l:A2)(ag:l≠it)(ac:Array A1) :
  Draws prog w A it [it,l] ac.size (λi v=>ac[i]?=some v) (λi h=>h.IsTupleIter it l i/\h.IsTuple l ac) where
 live:=λ_ _ st=>let ⟨o,ho,_⟩:=st.1;⟨o,ho⟩
 frame:=λ_ _ _ st Y=>⟨st.1.at λo e=>Y it (by simp) o e,let ⟨o,ho,r⟩:=st.2;⟨o,Y l (by simp) o ho,r⟩⟩
 item:=λi s Q E hi st j=>by
  refine Mz st.1 st.2 (x:=ac[i]) (by simp[hi]) λh' d F=>?_
  exact j _ h' s.toks (by simp[hi]) ⟨d,st.2.extBut F.extBut ag⟩ F
 done:=λs Q E st n=>S7 hh st.1 st.2 (by simp) n
theorem D7(l:A2)(ac:Array A1)(n:Nat)(dct:C1 A2)(sl:Array (C1 A1)) :
  Meets (Builtin.«enumerate.__new__» ⟨[.type "enumerate",.ref l],[]⟩) (λ_ R s=>s.heap.get? l=some { cls:=.type "tuple",dict:=dct,data:=.seq ac n,slots:=sl } /\
   R (.ok (.ret (.ref (s.heap.push { cls:=.type "tuple_iterator",data:=.fields #[.ref l,.int 0 0] }).objs.size)))
    { s with heap:=(s.heap.push { cls:=.type "tuple_iterator",data:=.fields #[.ref l,.int 0 0] }).push { cls:=.type "enumerate",data:=.fields #[.none,.bool false,.ref s.heap.objs.size,rawInt 0,.none,.none] } }) :=
 .of_wp λprog w A R s h=>by
  obtain⟨hp,g,d,tk,os⟩:=s;obtain⟨hl,h⟩:=h;have G:=sub_enumerate;have D:Heap.IsTuple (Shared.heap ⟨hp,g,d,tk,os⟩) l ac:=⟨_,hl,rfl,n,rfl⟩
  wp_walk using FG hl
  refine wpAny_stack_any λst=>AC ?_
  split
  .rename_i c _ _ _ _ _
   cases (c==Value.type "enumerate")
   .wp_walk using FG hl,GC D
    exact⟨_,rfl,h⟩
   .wp_walk using FG hl,GC D
    exact⟨_,rfl,h⟩
  .wp_walk using FG hl,GC D
   exact⟨_,rfl,h⟩
theorem D9{Q:LM}(D:s.heap.IsTuple l ac)
  (h:∀ h',IsEnum h' (s.heap.objs.size+1) s.heap.objs.size 0 .none->h'.IsTupleIter s.heap.objs.size l 0->h'.objs.size=s.heap.objs.size+2 ->
   (∀ b o,s.heap.get? b=some o->h'.get? b=some o)->Q (.ref (s.heap.objs.size+1)) { s with heap:=h' }) :
  wpAny (model prog w) A (call (.type "enumerate") [.ref l]) Q E s:=by
 obtain⟨⟨c,dct,a,sl⟩,hl,hc,n,hd⟩:=D;replace hc:c=.type "tuple" := hc;replace hd:a=.seq ac n:=hd;subst hc hd;refine callType_new F.called_enumerate (by decide) (F.typeCall_enumerate_1 _) (F.newCall_enumerate_1 _) (λobj=>F.args_object_init_2 obj _) F.entry_enumerate_new
  (D7 l ac n dct sl) ⟨hl,?_⟩
 have hz:(s.heap.push { cls:=.type "tuple_iterator",data:=.fields #[.ref l,.int 0 0] }).objs.size=s.heap.objs.size+1:=EX ..;show _/\_;rw[hz];have he:IsEnum ((s.heap.push { cls:=.type "tuple_iterator",data:=.fields #[.ref l,.int 0 0] }).push
   { cls:=.type "enumerate",data:=.fields #[.none,.bool false,.ref s.heap.objs.size,rawInt 0,.none,.none] }) (s.heap.objs.size+1) s.heap.objs.size 0 .none:=by
  have:=AU (s.heap.push { cls:=.type "tuple_iterator",data:=.fields #[.ref l,.int 0 0] })
   (o:={ cls:=.type "enumerate",data:=.fields #[.none,.bool false,.ref s.heap.objs.size,rawInt 0,.none,.none] }) rfl
  rw[hz] at this;exact this
 refine⟨⟨_,he,rfl⟩,h _ he ⟨_,AD _ (AU _ rfl),rfl,rfl⟩ (by rw[EX,hz]) λb o x=>AD _ (AD _ x)⟩
end PySem
variable{tk:PySem.Tok}
namespace L2
open PySem PySem.Spec PyProof.Rows
inductive XD where
 | int (i:Int) | nums (is:List Int)
inductive Dat where
 | non | bl (b:Bool) | int (i:Int) | str (x:Str) | tup (xs:List Dat) | lst (xs:List Dat) | dct (kvs:List (List Vz×Int)) | exc (c:Str) (fs:List (Str×XD))
def Wd(K:KX)(c:Str)(C:A2):Prop:=PySem.W.nsIn K mainGlobals c=some (some (.ref C))
def NE(e C:A2)(dct:C1 A2)(h:G2):Prop:=∃ o,h.get? e=some o/\o.cls=.ref C/\o.dict=dct/\∀ c,o.data≠.cls c
def RB(K:KX)(H:Hp):XD->V->Prop
 | .int i,v=>v=.int i
 | .nums is,v=>∃ a,v=.ref a/\SL K H a (is.map V.int)/\is.length<=sizeLine
def Bj(K:KX)(H:Hp):C1 A2->Z (Str×XD)->Prop
 | none,fs=>fs=[]
 | some dx,fs=>∃ j,H dx=some (.xd j)/\∀ f,(fs.lookup f=none/\j.lookup f=none)\/∃ d v,fs.lookup f=some d/\j.lookup f=some v/\RB K H d v
def QI(H:Hp)(e C:A2)(dct:C1 A2):Prop:=H e=some (.ext (NE e C dct))\/∃ o,H e=some (.frz o (.ext (NE e C dct)))
theorem QI.mono{e:A2}(h:QI H e C dct)(s:Zp H H'):QI H' e C dct:=h.imp (s _ _) λ⟨o,z⟩=>⟨o,s _ _ z⟩
theorem QI.ok{P:Fn}{e:A2}(x:QI H e C dct)(k:Mp P w H h):NE e C dct h:=by
 rcases x with x | ⟨o,x⟩
 .exact(show Yr P w H h e (.ext (NE e C dct)) from k e _ x).1
 .exact(show Yr P w H h e (.frz o (.ext (NE e C dct))) from k e _ x).2.1
def QS(K:KX)(H:Hp)(c:Str)(fs:Z (Str×XD))(v:V):Prop:=∃ e C dct,v=.ref e/\QI H e C dct/\Wd K c C/\Bj K H dct fs
def QK(kvs:Z (Z Vz×Int)):Z (Z Vz×V):=kvs.map λp=>(p.1,V.int p.2)
structure MD (x:Str):Prop where
 ok:PyData.strOk x=true
 le:x.length<=sizeLine
instance (x:Str):Decidable (MD x):=decidable_of_iff (PyData.strOk x=true/\x.length<=sizeLine) ⟨λh=>⟨h.1,h.2⟩,λh=>⟨h.ok,h.le⟩⟩
theorem MD.of{x:Str}(h:PyData.strOk x=true)(h':x.length<=sizeLine):MD x:=⟨h,h'⟩
mutual
def Rp(K:KX)(H:Hp):Dat->V->Prop
 | .non,v=>v=.non
 | .bl b,v=>v=.bl b
 | .int i,v=>v=.int i
 | .str x,v=>v=.str x/\MD x
 | .tup ds,v=>ds.length<=sizeLine/\∃ a vs,v=.ref a/\Sl K H a vs/\Wm K H ds vs
 | .lst ds,v=>ds.length<=sizeLine/\∃ a vs,v=.ref a/\SL K H a vs/\Wm K H ds vs
 | .dct kvs,v=>kvs.length<=sizeLine/\∃ a,v=.ref a/\H a=some (.dT (QK kvs))
 | .exc c fs,v=>QS K H c fs v
def Wm(K:KX)(H:Hp):Z Dat->Z V->Prop
 | [],vs=>vs=[]
 | d::ds,vs=>∃ v r,vs=v::r/\Rp K H d v/\Wm K H ds r
end
abbrev AS:=A2->Bool
def av(H:Hp)(A:AS):Hp:=λa=>if A a=true then none else H a
theorem V4{A:AS}{a:A2}{o:HO}(h:H a=some o)(hA:A a=false):av H A a=some o:=by unfold av;rw[hA];exact h
theorem Tg{A:AS}{a:A2}{o:HO}(h:av H A a=some o):A a=false/\H a=some o:=by
 unfold av at h;split at h
 .cases h
 .rename_i q;exact⟨by simpa using q,h⟩
theorem W5{A:AS}:Zp (av H A) H:=λb o e=>(Tg e).2
theorem Wl{A:AS}(h:Zp H H'):Zp (av H A) (av H' A):=λb o e=>V4 (h b o (Tg e).2) (Tg e).1
theorem Vb{A B:AS}(h:∀ a,B a=true->A a=true):Zp (av H A) (av H B):=λb o e=>by
 obtain⟨h1,h2⟩:=Tg e;refine V4 h2 ?_;cases q:B b with
 | false=>rfl
 | true=>rw[h b q] at h1;cases h1
def no:AS:=λ_=>false
theorem TW:av H no=H:=by funext a;simp[av,no]
theorem Zp.sl{a:A2}(e:Zp H H')(h:SL K H a xs):SL K H' a xs:=by
 rcases h with(h | ⟨o,h⟩) | h
 .exact .inl (.inl (e _ _ h))
 .exact .inl (.inr ⟨o,e _ _ h⟩)
 .exact .inr h
variable{fs:Z (Str×XD)}{ds:Z Dat}{A A':AS}{p:A2}{t:TT}{G:Int->Int->Dat}
theorem SL.sq{a:A2}(h:SL K H a xs):E5 K H a xs:=by
 rcases h with h | ⟨its,n,h1,h2,h3⟩
 .exact .inl h
 .refine .inr ⟨_,its.toArray,n,h1,rfl,rfl,rfl,?_,by simpa using h3⟩
  have:=h3.length;simp only[AV];lia
theorem SL.get{X:Cx}{a:A2}(h:SL X.K H a xs)(I:F' X aa σ H s) :
  ∃ (its:Z A1) (n:Nat),Y8 xs its/\s.heap.get? a=some { cls:=.type "list",data:=.seq its.toArray n }/\xs.length<=sizeLine:=by
 rcases h with h | ⟨its,n,h1,h2,h3⟩
 .obtain⟨z,its,n,r,e⟩:=h.ok I.hok
  exact⟨its,n,r,e,z⟩
 .exact⟨its,n,h3,I.kIn _ _ h1,h2⟩
theorem RB.mono(e:Zp H H'){d:XD}{v:V}(h:RB K H d v):RB K H' d v:=by
 cases d with
 | int i=>exact h
 | nums is=>obtain⟨a,e1,e2,e3⟩:=h;exact⟨a,e1,e.sl e2,e3⟩
theorem Bj.mono(e:Zp H H')(h:Bj K H dct fs):Bj K H' dct fs:=by
 cases dct with
 | none=>exact h
 | some dx =>
  obtain⟨j,e1,e2⟩:=h;exact⟨j,e _ _ e1,λf=>(e2 f).imp id λ⟨d,v,a,b,c⟩=>⟨d,v,a,b,c.mono e⟩⟩
theorem QS.mono(e:Zp H H'){c:Str}{v:V}(h:QS K H c fs v):QS K H' c fs v:=by
 obtain⟨x,C,dct,e1,e2,e3,e4⟩:=h;exact⟨x,C,dct,e1,e2.mono e,e3,e4.mono e⟩
mutual
theorem Rp.mono(e:Zp H H'):∀ {d:Dat} {v:V},Rp K H d v->Rp K H' d v
 | .non,v,h=>by unfold Rp at h ⊢;exact h
 | .bl b,v,h=>by unfold Rp at h ⊢;exact h
 | .int i,v,h=>by unfold Rp at h ⊢;exact h
 | .str x,v,h=>by unfold Rp at h ⊢;exact h
 | .dct _,v,h=>by unfold Rp at h ⊢;obtain⟨hz,a,e1,e2⟩:=h;exact⟨hz,a,e1,e _ _ e2⟩
 | .exc _ _,v,h=>by unfold Rp at h ⊢;exact QS.mono e h
 | .tup ds,v,h=>by
  unfold Rp at h ⊢;obtain⟨hz,a,vs,e1,e2,e3⟩:=h;exact⟨hz,a,vs,e1,e.seqT e2,Wm.mono e e3⟩
 | .lst ds,v,h=>by
  unfold Rp at h ⊢;obtain⟨hz,a,vs,e1,e2,e3⟩:=h;exact⟨hz,a,vs,e1,e.sl e2,Wm.mono e e3⟩
theorem Wm.mono(e:Zp H H'):∀ {ds:Z Dat} {vs:Z V},Wm K H ds vs->Wm K H' ds vs
 | [],vs,h=>by unfold Wm at h ⊢;exact h
 | d::ds,vs,h=>by
  unfold Wm at h ⊢;obtain⟨v,r,e1,e2,e3⟩:=h;exact⟨v,r,e1,Rp.mono e e2,Wm.mono e e3⟩
end
theorem Ua:Wm K H [] []:=by unfold Wm;rfl
theorem Wh{d:Dat}{v:V}(h:Rp K H d v)(t:Wm K H ds vs):Wm K H (d::ds) (v::vs):=by unfold Wm;exact⟨v,vs,rfl,h,t⟩
theorem Yv(h:Wm K H [] vs):vs=[]:=by unfold Wm at h;exact h
theorem Y2{d:Dat}(h:Wm K H (d::ds) vs):∃ v r,vs=v::r/\Rp K H d v/\Wm K H ds r:=by unfold Wm at h;exact h
theorem Zv:∀ {ds:Z Dat} {vs:Z V},Wm K H ds vs->vs.length=ds.length
 | [],vs,h=>by rw[Yv h];rfl
 | d::ds,vs,h=>by
  obtain⟨v,r,e1,e2,e3⟩:=Y2 h;rw[e1,BS,BS,Zv e3]
theorem E4:∀ {ds:Z Dat} {vs:Z V} {i:Nat} {d:Dat},Wm K H ds vs->ds[i]?=some d->∃ v,vs[i]?=some v/\Rp K H d v
 | [],vs,i,d,h,e=>by simp at e
 | d'::ds,vs,0,d,h,e=>by
  obtain⟨v,r,e1,e2,e3⟩:=Y2 h;simp at e;subst e;exact⟨v,by rw[e1];rfl,e2⟩
 | d'::ds,vs,i+1,d,h,e=>by
  obtain⟨v,r,e1,e2,e3⟩:=Y2 h;obtain⟨D,h1,h2⟩:=E4 (i:=i) e3 (by simpa using e);exact⟨D,by rw[e1];simpa using h1,h2⟩
theorem V5:∀ {ds es:Z Dat} {vs us:Z V},Wm K H ds vs->Wm K H es us->Wm K H (ds++es) (vs++us)
 | [],es,vs,us,h,k=>by rw[Yv h];exact k
 | d::ds,es,vs,us,h,k=>by
  obtain⟨v,r,e1,e2,e3⟩:=Y2 h;subst e1;exact Wh e2 (V5 e3 k)
theorem Pr:∀ (n:Nat) {ds:Z Dat} {vs:Z V},Wm K H ds vs->Wm K H (ds.take n) (vs.take n)
 | 0,_,_,_=>by simp only[LC];exact Ua
 | n+1,[],vs,h=>by rw[Yv h];simp only[List.take_nil];exact Ua
 | n+1,d::ds,vs,h=>by
  obtain⟨v,r,e1,e2,e3⟩:=Y2 h;subst e1;exact Wh e2 (Pr n e3)
theorem O2:∀ (n:Nat) {ds:Z Dat} {vs:Z V},Wm K H ds vs->Wm K H (ds.drop n) (vs.drop n)
 | 0,_,_,h=>h
 | n+1,[],vs,h=>by rw[Yv h];simp only[List.drop_nil];exact Ua
 | n+1,d::ds,vs,h=>by
  obtain⟨v,r,e1,e2,e3⟩:=Y2 h;subst e1;exact O2 n e3
theorem Jt{d:Dat}{v:V}(h:Rp K H d v):Wm K H [d] [v]:=Wh h Ua
theorem ZA:∀ {ds:Z Dat} {vs:Z V} {d:Dat} {v:V} (i:Nat),Wm K H ds vs->Rp K H d v->Wm K H (ds.set i d) (vs.set i v)
 | [],vs,d,v,i,h,_=>by rw[Yv h];simp only[List.set_nil];exact Ua
 | d'::ds,vs,d,v,0,h,k=>by
  obtain⟨D,r,e1,e2,e3⟩:=Y2 h;subst e1;exact Wh k e3
 | d'::ds,vs,d,v,i+1,h,k=>by
  obtain⟨D,r,e1,e2,e3⟩:=Y2 h;subst e1;exact Wh e2 (ZA i e3 k)
theorem jr:∀ {vs:Z V},Wm K H ds vs->Wm K H ds.reverse vs.reverse:=by
 induction ds with
 | nil=>intro vs h;rw[Yv h];exact Ua
 | cons d ds ih =>
  intro vs h;obtain⟨v,r,e1,e2,e3⟩:=Y2 h;subst e1;rw[IN,IN];exact V5 (ih e3) (Jt e2)
theorem Mw:∀ (ns:Z Int),Wm K H (ns.map Dat.int) (ns.map V.int)
 | []=>Ua
 | n::ns=>Wh (by unfold Rp;rfl) (Mw ns)
theorem Kr:Rp K H .non .non:=by unfold Rp;rfl
theorem T3{b:Bool}:Rp K H (.bl b) (.bl b):=by unfold Rp;rfl
theorem Wc{i:Int}:Rp K H (.int i) (.int i):=by unfold Rp;rfl
theorem So{x:Str}(h:MD x):Rp K H (.str x) (.str x):=by unfold Rp;exact⟨rfl,h⟩
theorem Bh{a:A2}(hz:ds.length<=sizeLine)(h:Sl K H a vs)(r:Wm K H ds vs):Rp K H (.tup ds) (.ref a):=by unfold Rp;exact⟨hz,a,vs,rfl,h,r⟩
theorem Da{a:A2}(hz:ds.length<=sizeLine)(h:SL K H a vs)(r:Wm K H ds vs):Rp K H (.lst ds) (.ref a):=by unfold Rp;exact⟨hz,a,vs,rfl,h,r⟩
theorem Xh{v:V}(h:Rp K H .non v):v=.non:=by unfold Rp at h;exact h
theorem Lj{b:Bool}{v:V}(h:Rp K H (.bl b) v):v=.bl b:=by unfold Rp at h;exact h
theorem Mo{i:Int}{v:V}(h:Rp K H (.int i) v):v=.int i:=by unfold Rp at h;exact h
theorem Ob{x:Str}{v:V}(h:Rp K H (.str x) v):v=.str x/\MD x:=by unfold Rp at h;exact h
theorem Re{v:V}(h:Rp K H (.tup ds) v):∃ a vs,v=.ref a/\Sl K H a vs/\Wm K H ds vs:=by unfold Rp at h;exact h.2
theorem dg{v:V}(h:Rp K H (.tup ds) v):ds.length<=sizeLine:=by unfold Rp at h;exact h.1
theorem jH{v:V}(h:Rp K H (.lst ds) v):ds.length<=sizeLine:=by unfold Rp at h;exact h.1
theorem Mm{v:V}(h:Rp K H (.lst ds) v):∃ a vs,v=.ref a/\SL K H a vs/\Wm K H ds vs:=by unfold Rp at h;exact h.2
theorem gy{kvs:Z (Z Vz×Int)}{v:V}(h:Rp K H (.dct kvs) v):kvs.length<=sizeLine/\∃ a,v=.ref a/\H a=some (.dT (QK kvs)):=by unfold Rp at h;exact h
theorem VI{c:Str}{ds:Z (Str×XD)}{v:V}(h:Rp K H (.exc c ds) v):QS K H c ds v:=by unfold Rp at h;exact h
variable{xs:Z Dat}
def XO(K:KX)(H:Hp)(c f:Str)(ns:Z Int)(v:V):Prop:=∃ (e C dx:A2) (j:Z (Str×V)) (a:A2),v=.ref e/\H e=some (.ext (NE e C (some dx)))/\Wd K c C/\H dx=some (.xd j)/\(∀ g,g≠f->j.lookup g=none)/\j.lookup f=some (.ref a)/\H a=some (.lst (ns.map V.int))/\ns.length<=sizeLine
theorem XO.mono{c f:Str}{v:V}(h:XO K H c f ns v)(e:Zp H H'):XO K H' c f ns v:=by
 obtain⟨x,C,dx,j,a,h1,h2,h3,h4,h5,h6,h7,r⟩:=h;exact⟨x,C,dx,j,a,h1,e _ _ h2,h3,e _ _ h4,h5,h6,e _ _ h7,r⟩
theorem XO.rp{c f:Str}{v:V}(h:XO K H c f ns v):Rp K H (.exc c [(f,.nums ns)]) v:=by
 obtain⟨x,C,dx,j,a,h1,h2,h3,h4,h5,h6,h7,r⟩:=h;unfold Rp;refine⟨x,C,some dx,h1,.inl h2,h3,j,h4,λg=>?_⟩;by_cases hg:g=f
 .subst hg;exact .inr ⟨.nums ns,.ref a,by simp[List.lookup],h6,a,rfl,.inl (.inl h7),r⟩
 .exact .inl ⟨by simp only[List.lookup];rw[show(g==f)=false from by simpa using hg],h5 g hg⟩
def Pk(K:KX)(A:AS)(H:Hp)(d:Dat)(v:V):Prop :=
 Rp K (av H A) d v\/(∃ a vs ds,d=.lst ds/\v=.ref a/\ds.length<=sizeLine/\H a=some (.lst vs)/\Wm K (av H A) ds vs)\/(∃ c f ns,d=.exc c [(f,.nums ns)]/\XO K H c f ns v)\/∃ kvs a,d=.dct kvs/\v=.ref a/\kvs.length<=sizeLine/\H a=some (.dT (QK kvs))
section
variable{K:KX}{A:AS}{H H':Hp}{d:Dat}{v:V}
theorem Pk.mono(e:Zp H H')(h:Pk K A H d v):Pk K A H' d v:=by
 rcases h with h | ⟨a,vs,ds,e1,e2,hz,e3,e4⟩ | ⟨c,f,ns,e1,e2⟩ | ⟨kvs,a,e1,e2,e3,e4⟩
 .exact .inl (h.mono (Wl e))
 .exact .inr (.inl ⟨a,vs,ds,e1,e2,hz,e _ _ e3,e4.mono (Wl e)⟩)
 .exact .inr (.inr (.inl ⟨c,f,ns,e1,e2.mono e⟩))
 .exact .inr (.inr (.inr ⟨kvs,a,e1,e2,e3,e _ _ e4⟩))
theorem Pk.rp(h:Pk K A H d v):Rp K H d v:=by
 rcases h with h | ⟨a,vs,ds,e1,e2,hz,e3,e4⟩ | ⟨c,f,ns,e1,e2⟩ | ⟨kvs,a,e1,e2,e3,e4⟩
 .exact h.mono W5
 .subst e1 e2;exact Da hz (.inl (.inl e3)) (e4.mono W5)
 .subst e1;exact e2.rp
 .subst e1;unfold Rp;exact⟨e3,a,e2,e4⟩
theorem Pk.lenL(h:Pk K A H (.lst ds) v):ds.length<=sizeLine:=jH h.rp
theorem Pk.lenT(h:Pk K A H (.tup ds) v):ds.length<=sizeLine:=dg h.rp
theorem Pk.non(h:Pk K A H .non v):v=.non:=Xh h.rp
theorem Pk.bl{b:Bool}(h:Pk K A H (.bl b) v):v=.bl b:=Lj h.rp
theorem Pk.int{i:Int}(h:Pk K A H (.int i) v):v=.int i:=Mo h.rp
theorem Pk.str{x:Str}(h:Pk K A H (.str x) v):v=.str x/\MD x:=Ob h.rp
theorem Pk.tup{ds:Z Dat}(h:Pk K A H (.tup ds) v):∃ a vs,v=.ref a/\Sl K H a vs/\Wm K (av H A) ds vs:=by
 rcases h with h | ⟨a,vs,ds,e1,e2,e3,e4⟩ | ⟨c,f,ns,e1,e2⟩ | ⟨kvs,a,e1,e2,e3,e4⟩
 .obtain⟨a,vs,e1,e2,e3⟩:=Re h
  exact⟨a,vs,e1,W5.seqT e2,e3⟩
 .cases e1
 .cases e1
 .cases e1
theorem Pk.lst{ds:Z Dat}(h:Pk K A H (.lst ds) v):∃ a vs,v=.ref a/\SL K H a vs/\Wm K (av H A) ds vs:=by
 rcases h with h | ⟨a,vs,ds',e1,e2,hz,e3,e4⟩ | ⟨c,f,ns,e1,e2⟩ | ⟨kvs,a,e1,e2,e3,e4⟩
 .obtain⟨a,vs,e1,e2,e3⟩:=Mm h
  exact⟨a,vs,e1,W5.sl e2,e3⟩
 .cases e1;exact⟨a,vs,e2,.inl (.inl e3),e4⟩
 .cases e1
 .cases e1
end
mutual
def Si:Dat->Dat->Bool
 | .non,.non=>true
 | .bl a,.bl b=>a==b
 | .bl a,.int j=>(if a then 1 else 0)==j
 | .int i,.bl b=>i==(if b then 1 else 0)
 | .int i,.int j=>i==j
 | .str x,.str y=>x==y
 | .lst xs,.lst ys=>OV xs ys
 | .tup xs,.tup ys=>OV xs ys
 | _,_=>false
def OV:Z Dat->Z Dat->Bool
 | [],[]=>true
 | x::xs,y::ys=>Si x y&&OV xs ys
 | _,_=>false
end
def pd:Nat->Dat->Bool
 | 0,.lst _=>false
 | 0,.tup _=>false
 | n+1,.lst xs=>xs.all (pd n)
 | n+1,.tup xs=>xs.all (pd n)
 | _,.dct _=>false
 | _,.exc _ _=>false
 | _,.non=>true
 | _,.bl _=>true
 | _,.int _=>true
 | _,.str _=>true
mutual
def NQ:Dat->PyData
 | .non=>.none
 | .bl b=>.bool b
 | .int i=>.int i
 | .str x=>.str x
 | .tup xs=>.tuple (O4 xs)
 | .lst xs=>.list (O4 xs)
 | .dct _=>.none
 | .exc _ _=>.none
def O4:Z Dat->Z PyData
 | []=>[]
 | x::xs=>NQ x::O4 xs
end
theorem Bl{n:Nat}(h:pd n (.lst xs)=true):∃ m,n=m+1/\∀ x∈xs,pd m x=true:=by
 cases n with
 | zero=>cases h
 | succ n=>exact⟨n,rfl,by simpa[pd] using h⟩
theorem B5{n:Nat}(h:pd n (.tup xs)=true):∃ m,n=m+1/\∀ x∈xs,pd m x=true:=by
 cases n with
 | zero=>cases h
 | succ n=>exact⟨n,rfl,by simpa[pd] using h⟩
theorem Cy{n:Nat}{xs}(h:pd n (.dct xs)=true):False:=by cases n<;>cases h
theorem Bv{n:Nat}{c xs}(h:pd n (.exc c xs)=true):False:=by cases n<;>cases h
mutual
theorem Dt:∀ {n m:Nat} (x y:Dat),pd n x=true->pd m y=true->PyData.eqv (NQ x) (NQ y)=Si x y
 | n,m,.dct _,y,h,_=>(Cy h).elim
 | n,m,.exc _ _,y,h,_=>(Bv h).elim
 | n,m,x,.dct _,_,h=>(Cy h).elim
 | n,m,x,.exc _ _,_,h=>(Bv h).elim
 | n,m,.non,.non,_,_=>rfl
 | n,m,.non,.bl _,_,_=>rfl
 | n,m,.non,.int _,_,_=>rfl
 | n,m,.non,.str _,_,_=>rfl
 | n,m,.non,.tup _,_,_=>rfl
 | n,m,.non,.lst _,_,_=>rfl
 | n,m,.bl _,.non,_,_=>rfl
 | n,m,.bl _,.bl _,_,_=>rfl
 | n,m,.bl _,.int _,_,_=>rfl
 | n,m,.bl _,.str _,_,_=>rfl
 | n,m,.bl _,.tup _,_,_=>rfl
 | n,m,.bl _,.lst _,_,_=>rfl
 | n,m,.int _,.non,_,_=>rfl
 | n,m,.int _,.bl _,_,_=>rfl
 | n,m,.int _,.int _,_,_=>rfl
 | n,m,.int _,.str _,_,_=>rfl
 | n,m,.int _,.tup _,_,_=>rfl
 | n,m,.int _,.lst _,_,_=>rfl
 | n,m,.str _,.non,_,_=>rfl
 | n,m,.str _,.bl _,_,_=>rfl
 | n,m,.str _,.int _,_,_=>rfl
 | n,m,.str _,.str _,_,_=>rfl
 | n,m,.str _,.tup _,_,_=>rfl
 | n,m,.str _,.lst _,_,_=>rfl
 | n,m,.lst _,.non,_,_=>rfl
 | n,m,.lst _,.bl _,_,_=>rfl
 | n,m,.lst _,.int _,_,_=>rfl
 | n,m,.lst _,.str _,_,_=>rfl
 | n,m,.lst _,.tup _,_,_=>rfl
 | n,m,.lst xs,.lst ys,h,k=>by
  obtain⟨g,_,hx⟩:=Bl h;obtain⟨m',_,G⟩:=Bl k;simp only[NQ,PyData.eqv,Si];exact On xs ys hx G
 | n,m,.tup _,.non,_,_=>rfl
 | n,m,.tup _,.bl _,_,_=>rfl
 | n,m,.tup _,.int _,_,_=>rfl
 | n,m,.tup _,.str _,_,_=>rfl
 | n,m,.tup _,.lst _,_,_=>rfl
 | n,m,.tup xs,.tup ys,h,k=>by
  obtain⟨g,_,hx⟩:=B5 h;obtain⟨m',_,G⟩:=B5 k;simp only[NQ,PyData.eqv,Si];exact On xs ys hx G
theorem On:∀ {n m:Nat} (xs ys:Z Dat),(∀ x∈xs,pd n x=true)->(∀ y∈ys,pd m y=true)->PyData.eqvAll (O4 xs) (O4 ys)=OV xs ys
 | n,m,[],[],_,_=>rfl
 | n,m,[],_::_,_,_=>rfl
 | n,m,_::_,[],_,_=>rfl
 | n,m,x::xs,y::ys,hx,G=>by
  simp only[O4,PyData.eqvAll,OV];rw[Dt (n:=n) (m:=m) x y (hx x AX) (G y AX),On (n:=n) (m:=m) xs ys (λz hz=>hx z (AR _ hz)) (λz hz=>G z (AR _ hz))]
end
mutual
theorem Dr:∀ (n:Nat) (x:Dat),pd n x=true->(NQ x).depth<=n
 | n,.dct _,h=>(Cy h).elim
 | n,.exc _ _,h=>(Bv h).elim
 | n,.non,_=>CV _
 | n,.bl _,_=>CV _
 | n,.int _,_=>CV _
 | n,.str _,_=>CV _
 | n,.lst xs,h=>by
  obtain⟨m,e,hx⟩:=Bl h;subst e;simp only[NQ,PyData.depth];exact KF (G9 m xs hx)
 | n,.tup xs,h=>by
  obtain⟨m,e,hx⟩:=B5 h;subst e;simp only[NQ,PyData.depth];exact KF (G9 m xs hx)
theorem G9:∀ (n:Nat) (xs:Z Dat),(∀ x∈xs,pd n x=true)->PyData.depthAll (O4 xs)<=n
 | n,[],_=>CV _
 | n,x::xs,h=>by
  simp only[O4,PyData.depthAll];exact Nat.max_le.mpr ⟨Dr n x (h x AX),G9 n xs λz hz=>h z (AR _ hz)⟩
end
section
variable{X:Cx}
mutual
theorem Rp.reads(I:F' X aa σ H s):∀ {n:Nat} (d:Dat) (v:V) (u:A1),pd n d=true->Rp X.K H d v->Yu v u->∃ as,Reads s.heap u (NQ d) as/\(NQ d).canLay0=true
 | n,.dct _,v,u,h,_,_=>(Cy h).elim
 | n,.exc _ _,v,u,h,_,_=>(Bv h).elim
 | n,.non,v,u,_,i,r=>by cases Xh i;cases r;exact⟨_,.none,rfl⟩
 | n,.bl b,v,u,_,i,r=>by cases Lj i;cases r;exact⟨_,.bool b,rfl⟩
 | n,.int k,v,u,_,i,r=>by cases Mo i;obtain⟨t,rfl⟩:=r;exact⟨_,.int k t,rfl⟩
 | n,.str x,v,u,_,i,r=>by
  obtain⟨e,hs⟩:=Ob i;subst e;obtain⟨t,rfl⟩:=r;exact⟨_,.str x t,hs.ok⟩
 | n,.tup ds,v,u,h,i,r=>by
  obtain⟨m,_,hx⟩:=B5 h;obtain⟨a,vs,e1,e2,e3⟩:=Re i;subst e1;cases r;obtain⟨its,rv,⟨o,ho,hc,k,hd⟩,_⟩:=I.tuple e2;obtain⟨as,ra,hl⟩:=Wm.reads I ds vs its hx e3 rv;exact⟨_,.tuple ho hc hd (by simpa using ra),hl⟩
 | n,.lst ds,v,u,h,i,r=>by
  obtain⟨m,_,hx⟩:=Bl h;obtain⟨a,vs,e1,e2,e3⟩:=Mm i;subst e1;cases r;obtain⟨its,rv,⟨o,k,ho,hc,_,hd⟩,_⟩:=I.list e2.sq;obtain⟨as,ra,hl⟩:=Wm.reads I ds vs its hx e3 rv;exact⟨_,.list ho hc hd (by simpa using ra),hl⟩
theorem Wm.reads(I:F' X aa σ H s):∀ {n:Nat} (ds:Z Dat) (vs:Z V) (us:Z A1),(∀ x∈ds,pd n x=true)->Wm X.K H ds vs->Y8 vs us->∃ as,ReadsAll s.heap us (O4 ds) as/\PyData.canLayAll0 (O4 ds)=true
 | n,[],vs,us,_,i,r=>by
  rw[Yv i] at r;cases r;exact⟨_,.nil,rfl⟩
 | n,d::ds,vs,us,h,i,r=>by
  obtain⟨v,m,e1,e2,e3⟩:=Y2 i;subst e1;cases r with
  | cons r1 r2 =>
   obtain⟨as,h1,l1⟩:=Rp.reads I d v _ (h d AX) e2 r1;obtain⟨bs,h2,l2⟩:=Wm.reads I ds m _ (λz hz=>h z (AR _ hz)) e3 r2;exact⟨_,.cons h1 h2,by simp only[O4,PyData.canLayAll0,l1,l2];rfl⟩
end
theorem Rp.eqAt(I:F' X aa σ H s){A:C0}{n m:Nat}{d e:Dat}{v w:V}{f:A1}(hd:pd n d=true)(he:pd m e=true)(hn:n<=60)(hu:A.units+60<cLine)(r1:Rp X.K H d v)(r2:Rp X.K H e w)(q1:Yu v u)(q2:Yu w f) :
  SeqAt.EqAt A s u f (Si d e):=by
 obtain⟨as,a1,a2⟩:=Rp.reads I d v u hd r1 q1;obtain⟨bs,b1,b2⟩:=Rp.reads I e w f he r2 q2;rw[<- Dt d e hd he];have:=Dr n d hd;exact SeqAt.eqAt_reads _ _ A s u f as bs a1 b1 a2 b2 (by lia)
end
variable{xs:Z α}{z:Str}
def SE:C1 HO->Prop
 | some (.lst _)=>True
 | some (.dK _)=>True
 | some (.dT _)=>True
 | _=>False
def Ux(A:AS)(H:Hp):Prop:=∀ a,A a=true->SE (H a)
theorem Ux.new(m:Ux A H)(h:H p=none):A p=false:=by
 cases q:A p with
 | false=>rfl
 | true=>have:=m p q;rw[h] at this;exact this.elim
theorem Ux.mono(m:Ux A H)(e:Zp H H'):Ux A H':=λa h=>by
 have:=m a h;cases q:H a with
 | none=>rw[q] at this;exact this.elim
 | some o=>rw[q] at this;rw[e a o q];exact this
def ins(A:AS)(p:A2):AS:=λa=>A a||a==p
theorem Ps:ins A p p=true:=by simp[ins]
theorem Ez{a:A2}(h:A a=true):ins A p a=true:=by simp[ins,h]
theorem Ga{a:A2}(h:ins A p a=true):A a=true\/a=p:=by simpa[ins] using h
theorem d4{a:A2}(h:A a=false)(hn:a≠p):ins A p a=false:=by simp[ins,h,hn]
structure I' (A:AS) (H:Hp) (A':AS) (H':Hp):Prop where
 keep:∀ a o,H a=some o->A a=false->H' a=some o
 sub:∀ a,A' a=true->A a=true\/H a=none
theorem I'.refl(A:AS)(H:Hp):I' A H A H:=⟨λ_ _ h _=>h,λ_ h=>.inl h⟩
theorem I'.same(e:Zp H H'):I' A H A H':=⟨λa o h _=>e a o h,λ_ h=>.inl h⟩
theorem I'.trans{A m f:AS}{H H1 H2:Hp}(a:I' A H m H1)(b:I' m H1 f H2):I' A H f H2 where
 keep:=λc o h hA=>b.keep c o (a.keep c o h hA) (by
  cases q:m c with
  | false=>rfl
  | true =>
   rcases a.sub c q with z | z
   .rw[z] at hA;cases hA
   .rw[z] at h;cases h)
 sub:=λc h=>by
  rcases b.sub c h with z | z
  .exact a.sub c z
  .cases d:A c with
   | true=>exact .inl rfl
   | false =>
    cases q:H c with
    | none=>exact .inr rfl
    | some o=>rw[a.keep c o q d] at z;cases z
theorem I'.av(s:I' A H A' H'):Zp (av H A) (av H' A'):=λb o e=>by
 obtain⟨h1,h2⟩:=Tg e;refine V4 (s.keep b o h2 h1) ?_;cases q:A' b with
 | false=>rfl
 | true =>
  rcases s.sub b q with z | z
  .rw[z] at h1;cases h1
  .rw[z] at h2;cases h2
inductive GX where
 | nest (dss:List (List Dat)) | dict (kvs:List (List Vz×Dat)) | err (c f:Str) (ns:List Int) | dik (kvs:List (Int×Dat)) | pair (c:Str) (ds:List Dat)
def OD(K:KX)(A:AS)(H:Hp)(o:A2->Prop):GX->V->Prop
 | .nest dss,v=>∃ (a:A2) (as:Z A2),v=.ref a/\o a/\dss.length<=sizeLine/\H a=some (.lst (as.map V.ref))/\as.length=dss.length/\as.Nodup/\a∉as/\∀ (n:Nat) b ds,as[n]?=some b->dss[n]?=some ds->o b/\ds.length<=sizeLine/\∃ vs,H b=some (.lst vs)/\Wm K (av H A) ds vs
 | .dict kvs,v=>∃ (a:A2) (us:Z (Z Vz×V)),v=.ref a/\o a/\kvs.length<=sizeLine/\H a=some (.dT us)/\us.map (·.1)=kvs.map (·.1)/\Wm K (av H A) (kvs.map (·.2)) (us.map (·.2))
 | .err c f ns,v=>∃ (e C dx:A2) (j:Z (Str×V)) (a:A2),v=.ref e/\av H A e=some (.ext (NE e C (some dx)))/\Wd K c C/\av H A dx=some (.xd j)/\(∀ g,g≠f->j.lookup g=none)/\j.lookup f=some (.ref a)/\o a/\H a=some (.lst (ns.map V.int))/\ns.length<=sizeLine
 | .dik kvs,v=>∃ (a:A2) (us:Z (Vz×V)),v=.ref a/\o a/\kvs.length<=sizeLine/\H a=some (.dK us)/\us.map (·.1)=kvs.map (λp=>(Sum.inl p.1:Vz))/\Wm K (av H A) (kvs.map (·.2)) (us.map (·.2))
 | .pair c ds,v=>∃ (t a:A2) (us:Z V),v=.ref t/\av H A t=some (.tup [.str c,.ref a])/\MD c/\o a/\ds.length<=sizeLine/\H a=some (.lst us)/\Wm K (av H A) ds us
theorem OD.frame{o o':A2->Prop}{g:GX}{v:V}(h:OD K A H o g v)(ho:∀ b,o b->o' b)(hf:∀ b x,o b->H b=some x->H' b=some x)(ha:Zp (av H A) (av H' A')):OD K A' H' o' g v:=by
 cases g with
 | nest dss =>
  obtain⟨a,as,e1,e2,e3,e4,e5,Y,s,I⟩:=h;refine⟨a,as,e1,ho a e2,e3,hf _ _ e2 e4,e5,Y,s,λn b ds q1 q2=>?_⟩;obtain⟨f1,f2,vs,f3,m⟩:=I n b ds q1 q2;exact⟨ho b f1,f2,vs,hf _ _ f1 f3,m.mono ha⟩
 | dict kvs =>
  obtain⟨a,us,e1,e2,e3,e4,e5,Y⟩:=h;exact⟨a,us,e1,ho a e2,e3,hf _ _ e2 e4,e5,Y.mono ha⟩
 | err c f ns =>
  obtain⟨x,C,dx,j,a,h1,h2,h3,h4,h5,h6,h7,r,h9⟩:=h;exact⟨x,C,dx,j,a,h1,ha _ _ h2,h3,ha _ _ h4,h5,h6,ho a h7,hf _ _ h7 r,h9⟩
 | dik kvs =>
  obtain⟨a,us,e1,e2,e3,e4,e5,Y⟩:=h;exact⟨a,us,e1,ho a e2,e3,hf _ _ e2 e4,e5,Y.mono ha⟩
 | pair c ds =>
  obtain⟨t,a,us,e1,e2,e3,e4,e5,Y,s⟩:=h;exact⟨t,a,us,e1,ha _ _ e2,e3,ho a e4,e5,hf _ _ e4 Y,s.mono ha⟩
inductive LQ where
 | un | fz (d:Dat) | pk (d:Dat) | ow (ds:List Dat) | gx (g:GX)
abbrev Ev:=Z LQ
abbrev Zzu:=Ev->C1 Dat
abbrev Zzv:=Ev->C1 (Z Dat)
def Az(K:KX)(A:AS)(H:Hp)(o:A2->Prop):LQ->C1 V->Prop
 | .un,_=>True
 | .fz d,x=>∃ v,x=some v/\Rp K (av H A) d v
 | .pk d,x=>∃ v,x=some v/\Pk K A H d v
 | .ow ds,x=>∃ a vs,x=some (.ref a)/\o a/\ds.length<=sizeLine/\H a=some (.lst vs)/\Wm K (av H A) ds vs
 | .gx g,x=>∃ v,x=some v/\OD K A H o g v
structure Bs where
 H₀:Hp
 R:AS
 st:Bool
structure C' (K:KX) (B:Bs) (A:AS) (H:Hp) (σ:St) (env:Ev):Prop where
 h0:Zp B.H₀ H
 r0:∀ a,B.R a=true->∃ o,B.H₀ a=some o
 ra:∀ a,B.R a=true->A a=true
 ar:∀ a,A a=true->B.R a=true\/B.H₀ a=none
 mu:Ux A H
 len:σ.length=env.length
 np:B.st=true->∀ (i:Nat) d,env[i]?≠some (.pk d)
 sl:∃ own:Nat->Addr->Prop,(∀ i j a,own i a->own j a->i=j)/\(∀ i a,own i a->A a=true/\B.R a=false) /\
  ∀ (i:Nat) s,env[i]?=some s->∃ x,σ[i]?=some x/\Az K A H (own i) s x
theorem Az.mono(e:Zp H H'){o:A2->Prop}{s:LQ}{x:C1 V}(h:Az K A H o s x):Az K A H' o s x:=by
 cases s with
 | un=>trivial
 | fz d=>obtain⟨v,e1,e2⟩:=h;exact⟨v,e1,e2.mono (Wl e)⟩
 | pk d=>obtain⟨v,e1,e2⟩:=h;exact⟨v,e1,e2.mono e⟩
 | ow ds=>obtain⟨a,vs,e1,e2,hz,e3,e4⟩:=h;exact⟨a,vs,e1,e2,hz,e _ _ e3,e4.mono (Wl e)⟩
 | gx g=>obtain⟨v,e1,e2⟩:=h;exact⟨v,e1,e2.frame (λ_ z=>z) (λb x _ q=>e b x q) (Wl e)⟩
theorem C'.mono{B:Bs}{env:Ev}(k:C' K B A H σ env)(e:Zp H H'):C' K B A H' σ env:=by
 obtain⟨own,h1,h2,h4⟩:=k.sl;exact⟨k.h0.trans e,k.r0,k.ra,k.ar,k.mu.mono e,k.len,k.np,own,h1,h2,λi s q=>let ⟨x,q2,q3⟩:=h4 i s q;⟨x,q2,q3.mono e⟩⟩
def Rm(m:Bool)(K:KX)(A:AS)(H:Hp)(d:Dat)(v:V):Prop:=match m with
 | true=>Pk K A H d v
 | false=>Rp K (av H A) d v
theorem Rm.any{d:Dat}{v:V}(h:Rp K (av H A) d v):Rm m K A H d v:=by
 cases m with
 | true=>exact .inl h
 | false=>exact h
theorem Rm.pk{d:Dat}{v:V}(h:Rm m K A H d v):Pk K A H d v:=by
 cases m with
 | true=>exact h
 | false=>exact .inl h
theorem Rm.mono(e:Zp H H'){d:Dat}{v:V}(h:Rm m K A H d v):Rm m K A H' d v:=by
 cases m with
 | true=>exact Pk.mono e h
 | false=>exact Rp.mono (Wl e) h
def ML(m:Bool)(K:KX)(A:AS)(H:Hp):Z Dat->Z V->Prop
 | [],vs=>vs=[]
 | d::ds,vs=>∃ v r,vs=v::r/\Rm m K A H d v/\ML m K A H ds r
theorem ML.rps:∀ {ds:Z Dat} {vs:Z V},ML false K A H ds vs->Wm K (av H A) ds vs
 | [],vs,h=>by rw[show vs=[] from h];exact Ua
 | _::_,_,⟨v,r,e1,e2,e3⟩=>by rw[e1];exact Wh e2 (ML.rps e3)
theorem ML.full:∀ {ds:Z Dat} {vs:Z V},ML m K A H ds vs->Wm K H ds vs
 | [],vs,h=>by rw[show vs=[] from h];exact Ua
 | _::_,_,⟨v,r,e1,e2,e3⟩=>by rw[e1];exact Wh e2.pk.rp (ML.full e3)
theorem ML.one{d:Dat}(h:ML m K A H [d] vs):∃ v,vs=[v]/\Pk K A H d v:=by
 obtain⟨v,r,e1,e2,e3⟩:=h;exact⟨v,by rw[e1,show r=[] from e3],e2.pk⟩
variable{env:Ev}{p:Pos}
theorem ML.two{d d':Dat}(h:ML m K A H [d,d'] vs):∃ v D,vs=[v,D]/\Pk K A H d v/\Pk K A H d' D:=by
 obtain⟨v,r,e1,e2,D,r',e3,e4,e5⟩:=h;exact⟨v,D,by rw[e1,e3,show r'=[] from e5],e2.pk,e4.pk⟩
def T9(m:Bool)(K:KX)(A:AS)(H:Hp)(d:Dat)(Q:VK):Prop:=∀ v H',Zp H H'->Rm m K A H' d v->Q v H'
def Xs(K:KX)(A:AS)(H:Hp)(ds:Z Dat)(Q:VK):Prop:=∀ p vs H',ds.length<=sizeLine->Zp H H'->H p=none->H' p=some (.lst vs)->Wm K (av H' (ins A p)) ds vs->Q (.ref p) H'
section
variable{m:Bool}{K:KX}{A:AS}{H H':Hp}{d:Dat}{ds:Z Dat}{Q:VK}
theorem T9.mono(h:T9 m K A H d Q)(e:Zp H H'):T9 m K A H' d Q:=λv H2 e2 r=>h v H2 (e.trans e2) r
theorem Xs.mono(h:Xs K A H ds Q)(e:Zp H H'):Xs K A H' ds Q:=λp vs H2 hz e2 hn hp r=>h p vs H2 hz (e.trans e2) (e.free hn) hp r
theorem T9.any(h:T9 m K A H d Q):T9 false K A H d Q:=λv H' e r=>h v H' e (Rm.any r)
theorem T9.here{v:V}(h:T9 m K A H d Q)(r:Rp K (av H A) d v):Q v H:=h v H (Zp.refl H) (Rm.any r)
theorem T9.new(h:T9 m K A H (.lst ds) Q)(mu:Ux A H):Xs K A H ds Q:=λp vs H' hz e hn hp r=>by
 refine h _ H' e (Rm.any (Da hz (.inl (.inl (V4 hp (mu.new hn)))) (r.mono (Vb λa q=>Ez q))))
theorem Xs.at(h:Xs K A H ds Q)(hz:ds.length<=sizeLine)(r:Wm K (av H A) ds vs):∀ p,H p=none->Q (.ref p) (W7 H p (.lst vs)):=λp hp=>by
 refine h p vs _ hz (Zp.new hp) hp Zn (r.mono λb o e=>?_);obtain⟨h1,h2⟩:=Tg e;have hb:b≠p:=Yg h2 hp;exact V4 (by rw[Zf hb];exact h2) (d4 h1 hb)
theorem T9.tup{vs:Z V}(h:T9 m K A H (.tup ds) Q)(mu:Ux A H)(hz:ds.length<=sizeLine)(r:Wm K (av H A) ds vs):∀ p,H p=none->Q (.ref p) (W7 H p (.tup vs)):=λp hp=>by
 refine h _ _ (Zp.new hp) (Rm.any (Bh hz (.inl ((V4 Zn (mu.new hp)))) (r.mono (Wl (Zp.new hp)))))
end
def Wp(m:Bool)(X:Cx)(e:C3)(f:Zzu):Prop:=PE X e λσ H Q=>∃ env R A d,C' X.K R A H σ env/\f env=some d/\T9 m X.K A H d Q
def MS(X:Cx)(e:C3)(f:Zzv):Prop:=PE X e λσ H Q=>∃ env R A ds,C' X.K R A H σ env/\f env=some ds/\Xs X.K A H ds Q
def Hf(m:Bool)(X:Cx)(es:Z C3)(f:Zzv):Prop:=PA X es λσ H Q=>∃ env R A ds,C' X.K R A H σ env/\f env=some ds/\∀ vs H',Zp H H'->ML m X.K A H' ds vs->Q vs H'
def MX(X:Cx)(e:C3)(f:Ev->C1 Bool):Prop:=PT X e λσ H Q=>∃ env R A b,C' X.K R A H σ env/\f env=some b/\∀ H',Zp H H'->Q b H'
def Br(X:Cx)(e:C3)(f:Ev->C1 Bool):Prop:=PW X e λσ H Q=>∃ env R A b,C' X.K R A H σ env/\f env=some b/\∀ H',Zp H H'->Q b H'
theorem PE.weak{X:Cx}{t t':TE}(h:PE X e t)(w:∀ σ H Q,t' σ H Q->t σ H Q):PE X e t':=λaa s σ H Q I q=>h aa s σ H Q I (w σ H Q q)
theorem PT.weak{X:Cx}(h:PT X e t)(w:∀ σ H Q,t' σ H Q->t σ H Q):PT X e t':=λaa s σ H Q I q=>h aa s σ H Q I (w σ H Q q)
theorem PW.weak{X:Cx}(h:PW X e t)(w:∀ σ H Q,t' σ H Q->t σ H Q):PW X e t':=λd aa s σ H Q I q=>h d aa s σ H Q I (w σ H Q q)
theorem PA.weak{X:Cx}{e:Z C3}{t t':TA}(h:PA X e t)(w:∀ σ H Q,t' σ H Q->t σ H Q):PA X e t':=λpos aa s σ H Q I q=>h pos aa s σ H Q I (w σ H Q q)
theorem PS.weak{X:Cx}{e:Df}{t t':TS}(h:PS X e t)(w:∀ D σ H,t' D σ H->t D σ H):PS X e t':=λaa s σ H D I q=>h aa s σ H D I (w D σ H q)
theorem R7.weak{X:Cx}{e:Z Df}{t t':TS}(h:R7 X e t)(w:∀ D σ H,t' D σ H->t D σ H):R7 X e t':=λaa s σ H D I q=>h aa s σ H D I (w D σ H q)
section
variable{m:Bool}{X:Cx}{e:C3}{f:Zzu}
theorem Wp.any(h:Wp false X e f):Wp m X e f:=h.weak λ_ _ _ zz=>by obtain⟨env,R,A,d,k,q1,q2⟩:=zz;exact⟨env,R,A,d,k,q1,q2.any⟩
def dL(g:Zzv):Ev->C1 Dat:=λenv=>(g env).map .lst
theorem MS.x{g:Zzv}(h:MS X e g):Wp m X e (dL g):=h.weak λ_ _ _ M=>by
 obtain⟨env,R,A,d,k,q1,q2⟩:=M;unfold dL at q1;cases q:g env with
 | none=>rw[q] at q1;cases q1
 | some ds =>
  rw[q] at q1;cases q1;exact⟨env,R,A,ds,k,q,q2.new k.mu⟩
theorem bind_some{a:C1 α}{g:α->C1 β}{b:β}(h:a.bind g=some b):∃ x,a=some x/\g x=some b:=by
 cases a with
 | none=>cases h
 | some x=>exact⟨x,rfl,h⟩
def U(i:Nat):Ev->C1 Dat:=λenv=>match env[i]? with
 | some (.fz d)=>some d
 | _=>none
def NZ:Z (Z Vz×Dat)->C1 (Z (Z Vz×Int))
 | []=>some []
 | (k,.int n)::r=>(NZ r).map ((k,n)::·)
 | _=>none
theorem ZF:∀ {kvs:Z (Z Vz×Dat)} {b:Z (Z Vz×Int)},NZ kvs=some b->b.length=kvs.length
 | [],b,h=>by cases h;rfl
 | (k,.int n)::r,b,h=>by
   rw[NZ] at h;cases e:NZ r with
   | none=>rw[e] at h;cases h
   | some r'=>rw[e] at h;cases h;rw[BS,BS,ZF e]
 | (k,.non)::r,b,h=>by cases h
 | (k,.bl _)::r,b,h=>by cases h
 | (k,.str _)::r,b,h=>by cases h
 | (k,.tup _)::r,b,h=>by cases h
 | (k,.lst _)::r,b,h=>by cases h
 | (k,.dct _)::r,b,h=>by cases h
 | (k,.exc _ _)::r,b,h=>by cases h
theorem bv:∀ {kvs:Z (Z Vz×Dat)} {b:Z (Z Vz×Int)} {us:Z (Z Vz×V)},NZ kvs=some b->us.map (·.1)=kvs.map (·.1)->Wm K H (kvs.map (·.2)) (us.map (·.2))->us=QK b
 | [],b,us,h,e1,_=>by
   cases h;cases us with
   | nil=>rfl
   | cons u us=>cases e1
 | (k,.int n)::r,b,us,h,e1,e2=>by
   rw[NZ] at h;cases e:NZ r with
   | none=>rw[e] at h;cases h
   | some r' =>
     rw[e] at h;cases h;cases us with
     | nil=>cases e1
     | cons u us =>
       obtain⟨v,a,z1,W,z3⟩:=Y2 e2;rw[CF] at z1;injection z1 with z1 z4
       rw[CF,CF] at e1;injection e1 with e1 e3
       have ih:=bv e e3 (z4▸z3);have hv:u.2=.int n:=by rw[z1];exact Mo W
       rw[ih];show u::QK r'=(k,V.int n)::QK r';rw[show u=(k,V.int n) from II e1 hv]
 | (k,.non)::r,b,us,h,_,_=>by cases h
 | (k,.bl _)::r,b,us,h,_,_=>by cases h
 | (k,.str _)::r,b,us,h,_,_=>by cases h
 | (k,.tup _)::r,b,us,h,_,_=>by cases h
 | (k,.lst _)::r,b,us,h,_,_=>by cases h
 | (k,.dct _)::r,b,us,h,_,_=>by cases h
 | (k,.exc _ _)::r,b,us,h,_,_=>by cases h
def dP(i:Nat):Ev->C1 Dat:=λenv=>match env[i]? with
 | some (.fz d)=>some d
 | some (.pk d)=>some d
 | some (.ow ds)=>some (.lst ds)
 | some (.gx (.err c f ns))=>some (.exc c [(f,.nums ns)])
 | some (.gx (.dict kvs))=>(NZ kvs).map .dct
 | _=>none
theorem C'.fz{R:Bs}{d:Dat}(k:C' X.K R A H σ env)(h:env[i]?=some (.fz d)):∃ v,σ[i]?=some (some v)/\Rp X.K (av H A) d v:=by
 obtain⟨own,h1,h2,h4⟩:=k.sl;obtain⟨x,q2,v,e1,e2⟩:=h4 i _ h;subst e1;exact⟨v,q2,e2⟩
theorem C'.look{R:Bs}{d:Dat}(k:C' X.K R A H σ env)(h:dP i env=some d):∃ v,σ[i]?=some (some v)/\Pk X.K A H d v:=by
 obtain⟨own,h1,h2,h4⟩:=k.sl;unfold dP at h;split at h
 .rename_i z e
  cases h;obtain⟨x,q2,v,e1,e2⟩:=h4 i _ e;subst e1;exact⟨v,q2,.inl e2⟩
 .rename_i z e
  cases h;obtain⟨x,q2,v,e1,e2⟩:=h4 i _ e;subst e1;exact⟨v,q2,e2⟩
 .rename_i z e
  cases h;obtain⟨x,q2,a,vs,e1,e2,hz,e3,e4⟩:=h4 i _ e;subst e1;exact⟨.ref a,q2,.inr (.inl ⟨a,vs,z,rfl,rfl,hz,e3,e4⟩)⟩
 .rename_i c f ns e
  cases h;obtain⟨x,q2,v,e1,y,C,dx,j,a,h1,h2,h3,h4,h5,h6,h7,r,h9⟩:=h4 i _ e;subst e1;exact⟨v,q2,.inr (.inr (.inl ⟨c,f,ns,rfl,y,C,dx,j,a,h1,(Tg h2).2,h3,(Tg h4).2,h5,h6,r,h9⟩))⟩
 .rename_i kvs e
  obtain⟨x,q2,v,e1,a,us,g1,g2,g3,g4,g5,g6⟩:=h4 i _ e;subst e1;cases t:NZ kvs with
  | none=>rw[t] at h;cases h
  | some b =>
   rw[t] at h;cases h;exact⟨v,q2,.inr (.inr (.inr ⟨b,a,rfl,g1,by rw[ZF t];exact g3,by rw[g4,bv t g5 g6]⟩))⟩
 .cases h
theorem xv(i:Nat){x:Str}{pos:Pos}(hN:X.N[i]?=some x:=by rfl)(hv:MQ X.env.scope x:=by ext)(hd:C2 x:=by decide)
  (ai:(x==("__classdict__" : Str))=false:=by decide):Wp m X (.Name x pos) (U i):=Wp.any ((Qd hN hv hd ai).weak λσ H Q M=>by
 obtain⟨env,R,A,d,k,q1,q2⟩:=M;unfold U at q1;split at q1
 .rename_i z e
  cases q1;obtain⟨v,h1,h2⟩:=k.fz e;exact⟨v,h1,q2.here h2⟩
 .cases q1)
theorem xo(i:Nat){x:Str}(hN:X.N[i]?=some x:=by rfl)(hv:MQ X.env.scope x:=by ext)(hd:C2 x:=by decide)
  (ai:(x==("__classdict__" : Str))=false:=by decide):Wp true X (.Name x pos) (dP i):=(Qd hN hv hd ai).weak λσ H Q M=>by
 obtain⟨env,R,A,d,k,q1,q2⟩:=M;obtain⟨v,h1,h2⟩:=k.look q1;exact⟨v,h1,q2 v H (Zp.refl H) h2⟩
def dC(d:Dat):Ev->C1 Dat:=λ_=>some d
theorem ZK{i:Int}{j pos}:Wp m X (.Constant (.int i) j pos) (dC (.int i)):=Wp.any (bz.weak λ_ _ _ zz=>by obtain⟨_,_,_,_,_,q1,q2⟩:=zz;cases q1;exact q2.here Wc)
theorem n4{b:Bool}{j pos}:Wp m X (.Constant (.bool b) j pos) (dC (.bl b)):=Wp.any (c3.weak λ_ _ _ zz=>by obtain⟨_,_,_,_,_,q1,q2⟩:=zz;cases q1;exact q2.here T3)
theorem VU{j pos}:Wp m X (.Constant .none j pos) (dC .non):=Wp.any (lO.weak λ_ _ _ zz=>by obtain⟨_,_,_,_,_,q1,q2⟩:=zz;cases q1;exact q2.here Kr)
theorem bE{x:Str}{j pos}(h:MD x:=by ext):Wp m X (.Constant (.str x) j pos) (dC (.str x)):=Wp.any (B6.weak λ_ _ _ zz=>by obtain⟨_,_,_,_,_,q1,q2⟩:=zz;cases q1;exact q2.here (So h))
end
variable{Q:VK}{t:Ev->C1 Bool}{g:Dat->Ev->C1 Ev}{B:Bs}
def rD(K:KX)(F:Dat->Dat->C1 Dat):R2:=λv u H Q=>∃ A x y d,Ux A H/\F x y=some d/\Pk K A H x v/\Pk K A H y u/\T9 false K A H d Q
def rN(K:KX)(F:Dat->Dat->C1 (Z Dat)):R2:=λv u H Q=>∃ A x y ds,Ux A H/\F x y=some ds/\Pk K A H x v/\Pk K A H y u/\Xs K A H ds Q
def Sr(X:Cx)(f:A1->A1->Sem A1)(F:Dat->Dat->C1 Dat):Prop:=G1 X f (rD X.K F)
def SZ(X:Cx)(f:A1->A1->Sem A1)(F:Dat->Dat->C1 (Z Dat)):Prop:=G1 X f (rN X.K F)
theorem G1.weak{X:Cx}{f:A1->A1->Sem A1}{r r':R2}(h:G1 X f r)(w:∀ x y H Q,r' x y H Q->r x y H Q):G1 X f r':=λaa s σ H x y v u Q I S m q=>h aa s σ H x y v u Q I S m (w _ _ _ _ q)
theorem SZ.d{X:Cx}{f:A1->A1->Sem A1}{F:Dat->Dat->C1 (Z Dat)}(h:SZ X f F):Sr X f (λx y=>(F x y).map .lst):=G1.weak h λv u H Q M=>by
 obtain⟨A,x,y,d,mu,e,p1,p2,q⟩:=M;dsimp only at e;cases z:F x y with
 | none=>rw[z] at e;cases e
 | some ds=>rw[z] at e;cases e;exact⟨A,x,y,ds,mu,z,p1,p2,q.new mu⟩
def dO(F:Dat->Dat->C1 α)(f g:Zzu):Ev->C1 α:=λenv=>(f env).bind λx=>(g env).bind λy=>F x y
section
variable{m m1 m2:Bool}{X:Cx}{a b:C3}{f g:Zzu}{F:Dat->Dat->C1 Dat}{G:Dat->Dat->C1 (Z Dat)}{pos:Pos}
theorem two{r:R2}{R:Bs}{x y:Dat}(k:C' X.K R A H σ env)(e1:f env=some x)(e2:g env=some y)
  (h:∀ v u H2,Zp H H2->Pk X.K A H2 x v->Pk X.K A H2 y u->Ux A H2->r v u H2 Q) :
  QT r (λσ H Q=>∃ env R A d,C' X.K R A H σ env/\f env=some d/\T9 m1 X.K A H d Q) (λσ H Q=>∃ env R A d,C' X.K R A H σ env/\g env=some d/\T9 m2 X.K A H d Q) σ H Q :=
 ⟨env,R,A,x,k,e1,λv H1 s1 p1=>⟨env,R,A,y,k.mono s1,e2,λu H2 s2 p2=>h v u H2 (s1.trans s2) (p1.pk.mono s2) p2.pk (k.mu.mono (s1.trans s2))⟩⟩
theorem Iw{F:Dat->Dat->C1 α}{d:α}(h:dO F f g env=some d):∃ x y,f env=some x/\g env=some y/\F x y=some d:=by
 obtain⟨x,e1,h⟩:=bind_some h;obtain⟨y,e2,h⟩:=bind_some h;exact⟨x,y,e1,e2,h⟩
theorem YI{op:Operator}(ho:Sr X (binaryOp op) F)(ha:Wp m1 X a f)(hb:Wp m2 X b g):Wp m X (.BinOp a op b pos) (dO F f g):=Wp.any ((bA ho ha hb).weak λσ H Q M=>by
 obtain⟨env,R,A,d,k,q1,q2⟩:=M;obtain⟨x,y,e1,e2,e3⟩:=Iw q1;exact two k e1 e2 λv u H2 s p1 p2 mu=>⟨A,x,y,d,mu,e3,p1,p2,q2.mono s⟩)
theorem TH{op:Operator}(ho:SZ X (binaryOp op) G)(ha:Wp m1 X a f)(hb:Wp m2 X b g):MS X (.BinOp a op b pos) (dO G f g):=(bA ho ha hb).weak λσ H Q M=>by
 obtain⟨env,R,A,d,k,q1,q2⟩:=M;obtain⟨x,y,e1,e2,e3⟩:=Iw q1;exact two k e1 e2 λv u H2 s p1 p2 mu=>⟨A,x,y,d,mu,e3,p1,p2,q2.mono s⟩
theorem VD{op:CmpOp}(ho:Sr X (compareOp op) F)(ha:Wp m1 X a f)(hb:Wp m2 X b g)(hm:behindInMarks op b=false):Wp m X (.Compare a [op] [b] pos) (dO F f g):=Wp.any ((k4 ho ha hb hm).weak λσ H Q M=>by
 obtain⟨env,R,A,d,k,q1,q2⟩:=M;obtain⟨x,y,e1,e2,e3⟩:=Iw q1;exact two k e1 e2 λv u H2 s p1 p2 mu=>⟨A,x,y,d,mu,e3,p1,p2,q2.mono s⟩)
def dB(f:Zzu):Ev->C1 Bool:=λenv=>match f env with
 | some (.bl b)=>some b
 | _=>none
theorem B0{b:Bool}(h:dB f env=some b):f env=some (.bl b):=by
 unfold dB at h;split at h
 .rename_i z e;cases h;exact e
 .cases h
theorem Vx(ho:Sr X (compareOp op) F)(ha:Wp m1 X a f)(hb:Wp m2 X b g)(hm:behindInMarks op b=false):MX X (.Compare a [op] [b] pos) (dB (dO F f g)):=(iM ho ha hb hm).weak λσ H Q M=>by
 obtain⟨env,R,A,d,k,q1,q2⟩:=M;obtain⟨x,y,e1,e2,e3⟩:=Iw (B0 q1);show QT (rD X.K F) _ _ σ H (λx H'=>∃ k,x=.bl k/\Q k H');exact two k e1 e2 λv u H2 s p1 p2 mu=>⟨A,x,y,.bl d,mu,e3,p1,p2,λv H' s' r=>⟨d,r.pk.bl,q2 H' (s.trans s')⟩⟩
theorem ZD(ho:MW X (rD X.K F))(ha:Wp m1 X a f)(hb:Wp m2 X b g)(hs:I0 b:=by exactλ_ _=>rfl):Wp m X (.Subscript a b pos) (dO F f g):=Wp.any ((TM ho ha hb hs).weak λσ H Q M=>by
 obtain⟨env,R,A,d,k,q1,q2⟩:=M;obtain⟨x,y,e1,e2,e3⟩:=Iw q1;exact two k e1 e2 λv u H2 s p1 p2 mu=>⟨A,x,y,d,mu,e3,p1,p2,q2.mono s⟩)
end
section
variable{m m1 m2:Bool}{X:Cx}{a b c:C3}{al:Z C3}{f g h:Zzu}{t u:Ev->C1 Bool}{pos:Pos}
def Ec(t u:Ev->C1 Bool):Ev->C1 Bool:=λenv=>(t env).bind λb=>if b=true then u env else some false
def Xt(t u:Ev->C1 Bool):Ev->C1 Bool:=λenv=>(t env).bind λb=>if b=true then some true else u env
def Dd(t:Ev->C1 Bool):Ev->C1 Bool:=λenv=>(t env).map (!·)
theorem Lb(ha:MX X a t):Br X (.BoolOp .And [a] pos) t:=nE ha
theorem RF(ha:MX X a t):Br X (.BoolOp .Or [a] pos) t:=kI ha
theorem Pl(ha:MX X a t)(hb:Br X (.BoolOp .And (b::al) pos) u):Br X (.BoolOp .And (a::b::al) pos) (Ec t u):=(nI ha hb).weak λσ H Q M=>by
 obtain⟨env,R,A,d,k,q1,q2⟩:=M;obtain⟨x,e1,e2⟩:=bind_some q1;refine⟨env,R,A,x,k,e1,λH1 s1=>?_⟩;cases x with
 | true =>
  rw[AE rfl] at e2 ⊢;exact⟨env,R,A,d,k.mono s1,e2,λH2 s2=>q2 H2 (s1.trans s2)⟩
 | false =>
  rw[AK CN] at e2 ⊢;cases e2;exact q2 H1 s1
theorem RL(ha:MX X a t)(hb:Br X (.BoolOp .Or (b::al) pos) u):Br X (.BoolOp .Or (a::b::al) pos) (Xt t u):=(js ha hb).weak λσ H Q M=>by
 obtain⟨env,R,A,d,k,q1,q2⟩:=M;obtain⟨x,e1,e2⟩:=bind_some q1;refine⟨env,R,A,x,k,e1,λH1 s1=>?_⟩;cases x with
 | true =>
  rw[AE rfl] at e2 ⊢;cases e2;exact q2 H1 s1
 | false =>
  rw[AK CN] at e2 ⊢;exact⟨env,R,A,d,k.mono s1,e2,λH2 s2=>q2 H2 (s1.trans s2)⟩
theorem Br.pt(h:Br X e t):MX X e t:=PW.pt h
theorem QU(ha:MX X a t):MX X (.UnaryOp .Not a pos) (Dd t):=(iw ha).weak λσ H Q M=>by
 obtain⟨env,R,A,d,k,q1,q2⟩:=M;unfold Dd at q1;cases e:t env with
 | none=>rw[e] at q1;cases q1
 | some x =>
  rw[e] at q1;cases q1;exact⟨env,R,A,x,k,e,λH1 s1=>q2 H1 s1⟩
def TY(f g:Zzu):Ev->C1 Dat:=λenv=>(dB f env).bind λb=>if b=true then some (.bl true) else g env
theorem oA{op}(ha:Wp m X a f):Wp m X (.BoolOp op [a] pos) f:=nJ ha
theorem jF(ha:Wp m1 X a f)(hb:Wp false X (.BoolOp .Or (b::al) pos) g):Wp m X (.BoolOp .Or (a::b::al) pos) (TY f g):=Wp.any ((nM ha hb).weak λσ H Q M=>by
 obtain⟨env,R,A,d,k,q1,q2⟩:=M;obtain⟨x,e1,e2⟩:=bind_some q1;refine⟨env,R,A,.bl x,k,B0 e1,λv H1 s1 p1=>⟨x,p1.pk.bl,?_⟩⟩;cases x with
 | true =>
  rw[AE rfl] at e2 ⊢;cases e2;exact(q2.mono s1).here T3
 | false =>
  rw[AK CN] at e2 ⊢;exact⟨env,R,A,d,k.mono s1,e2,q2.mono s1⟩)
def oS:Dat->C1 Bool
 | .non=>some false
 | .bl b=>some b
 | .int i=>some (i != 0)
 | .str y=>some ((y.length:Int) != 0)
 | .lst xs=>some (!xs.isEmpty)
 | .tup xs=>some (!xs.isEmpty)
 | _=>none
def dT(f:Zzu):Ev->C1 Bool:=λenv=>(f env).bind oS
theorem N3(r:Wm K H ds vs):vs.isEmpty=ds.isEmpty:=by
 cases ds with
 | nil=>rw[Yv r];rfl
 | cons d ds=>obtain⟨v,r',e,_⟩:=Y2 r;rw[e];rfl
theorem Ea(ha:Wp true X a f)(he:∀ c,isTrue a X.env c=(do let v <- c;standAt a.pos;holding [v] (truthy v)):=by intro _;rfl):MX X a (dT f):=(n5 ha he).weak λσ H Q M=>by
 obtain⟨env,R,A,b,k,q1,q2⟩:=M;obtain⟨x,e1,e2⟩:=bind_some q1;refine⟨env,R,A,x,k,e1,λv H1 s1 p1=>⟨b,?_,q2 H1 s1⟩⟩;have p:Pk X.K A H1 x v:=p1;cases x with
 | non=>cases e2;rw[p.non];rfl
 | bl b'=>cases e2;rw[p.bl];rfl
 | int i=>cases e2;rw[p.int];rfl
 | str y=>cases e2;obtain⟨e,h⟩:=p.str;rw[e];exact⟨h.le,rfl⟩
 | lst xs=>cases e2;obtain⟨T,vs,e,h1,h2⟩:=p.lst;rw[e];exact .inl ⟨vs,h1.sq,by rw[N3 h2]⟩
 | tup xs=>cases e2;obtain⟨T,vs,e,h1,h2⟩:=p.tup;rw[e];exact .inr (.inl ⟨vs,h1,by rw[N3 h2]⟩)
 | dct _=>cases e2
 | exc _ _=>cases e2
end
section
variable{m:Bool}{X:Cx}{e:C3}{es:Z C3}{f:Zzu}{fs:Zzv}{pos:Pos}
def Zb:Ev->C1 (Z Dat):=λ_=>some []
def O(f:Zzu)(fs:Zzv):Ev->C1 (Z Dat):=λenv=>(f env).bind λd=>(fs env).map λds=>d::ds
theorem Z8:Hf m X [] Zb:=Vo.weak λσ H Q zz=>by obtain⟨env,R,A,ds,k,q1,q2⟩:=zz;cases q1;exact q2 [] H (Zp.refl H) rfl
theorem L(ha:Wp m X e f)(hr:Hf m X es fs)(hs:Z0 X.env e es:=by rfl):Hf m X (e::es) (O f fs):=(Yl ha hr hs).weak λσ H Q M=>by
 obtain⟨env,R,A,ds,k,q1,q2⟩:=M;obtain⟨d,e1,e2⟩:=bind_some q1;cases e3:fs env with
 | none=>rw[e3] at e2;cases e2
 | some r =>
  rw[e3] at e2;cases e2;exact⟨env,R,A,d,k,e1,λv H1 s1 p1=>⟨env,R,A,r,k.mono s1,e3,λvs H2 s2 p2=>q2 (v::vs) H2 (s1.trans s2) ⟨v,vs,rfl,p1.mono s2,p2⟩⟩⟩
def Yt(fs:Zzv):Ev->C1 Dat:=λenv=>(fs env).bind λds=>if ds.length<=1000 then some (.tup ds) else none
def Ut(fs:Zzv):Ev->C1 (Z Dat):=λenv=>(fs env).bind λds=>if ds.length<=1000 then some ds else none
theorem bN{x1}(h:Hf false X es fs):Wp m X (.Tuple es x1 pos) (Yt fs):=Wp.any ((V' h).weak λσ H Q M=>by
 obtain⟨env,R,A,d,k,q1,q2⟩:=M;obtain⟨ds,e1,e2⟩:=bind_some q1;split at e2
 .rename_i hz
  cases e2;have r:ds.length<=sizeLine:=EU (Tr hz);refine⟨env,R,A,ds,k,e1,λvs H1 s1 p1=>⟨?_,(q2.mono s1).tup (k.mu.mono s1) r p1.rps⟩⟩;rw[Zv p1.rps];exact r
 .cases e2)
theorem Qg(h:Hf false X es fs):MS X (.List es pos) (Ut fs):=(bt h).weak λσ H Q M=>by
 obtain⟨env,R,A,d,k,q1,q2⟩:=M;obtain⟨ds,e1,e2⟩:=bind_some q1;split at e2
 .rename_i hz
  cases e2;have r:d.length<=sizeLine:=EU (Tr hz);refine⟨env,R,A,d,k,e1,λvs H1 s1 p1=>⟨?_,(q2.mono s1).at r p1.rps⟩⟩;rw[Zv p1.rps];exact r
 .cases e2
def Im(X:Cx)(f:A1)(F:Z Dat->C1 Dat):Prop:=Vf X f (λvs H Q=>∃ A ds d,Ux A H/\F ds=some d/\ML true X.K A H ds vs/\T9 false X.K A H d Q)
def SQ(X:Cx)(f:A1)(F:Z Dat->C1 (Z Dat)):Prop:=Vf X f (λvs H Q=>∃ A ds d,Ux A H/\F ds=some d/\ML true X.K A H ds vs/\Xs X.K A H d Q)
theorem Vf.weak{f:A1}{r r':Z V->Hp->VK->Prop}(h:Vf X f r)(w:∀ xs H Q,r' xs H Q->r xs H Q):Vf X f r':=λaa s σ H xs us Q I rv q=>h aa s σ H xs us Q I rv (w _ _ _ q)
def dF(F:Z Dat->C1 α)(fs:Zzv):Ev->C1 α:=λenv=>(fs env).bind F
variable{x:Str}{p:Pos}{id T:String}{F:Z Dat->C1 Dat}{G:Z Dat->C1 (Z Dat)}
theorem d8(hc:Im X (.builtin id) F)(hm:X.mg x=none)(ha:Hf true X (e::es) fs)(hg:Gl X x:=by rfl)(hv:bootBuiltins x=some (.builtin id):=by ext)(hn:x≠"__name__" := by decide)(l:C2 x:=by decide)
  (he:Z0 X.env e es:=by rfl) (ac:Z1 pos X.env es:=by rfl):Wp m X (.Call (.Name x p) (e::es) [] pos) (dF F fs) :=
 Wp.any ((Sv hc hg hm hv ha hn l he ac).weak λσ H Q M=>by
  obtain⟨env,R,A,d,k,q1,q2⟩:=M;obtain⟨ds,e1,e2⟩:=bind_some q1;exact⟨env,R,A,ds,k,e1,λvs H1 s1 p1=>⟨A,ds,d,k.mu.mono s1,e2,p1,q2.mono s1⟩⟩)
theorem Vq(hc:Im X (.type T) F)(hm:X.mg x=none)(ha:Hf true X (e::es) fs)(hg:Gl X x:=by rfl)(hv:bootBuiltins x=some (.type T):=by ext)(hn:x≠"__name__" := by decide)(l:C2 x:=by decide)
  (he:Z0 X.env e es:=by rfl) (ac:Z1 pos X.env es:=by rfl):Wp m X (.Call (.Name x p) (e::es) [] pos) (dF F fs) :=
 Wp.any ((R5 hc hg hm hv ha hn l he ac).weak λσ H Q M=>by
  obtain⟨env,R,A,d,k,q1,q2⟩:=M;obtain⟨ds,e1,e2⟩:=bind_some q1;exact⟨env,R,A,ds,k,e1,λvs H1 s1 p1=>⟨A,ds,d,k.mu.mono s1,e2,p1,q2.mono s1⟩⟩)
theorem Cz(hc:SQ X (.builtin id) G)(hm:X.mg x=none)(ha:Hf true X (e::es) fs)(hg:Gl X x:=by rfl)(hv:bootBuiltins x=some (.builtin id):=by ext)(hn:x≠"__name__" := by decide)(l:C2 x:=by decide)
  (he:Z0 X.env e es:=by rfl) (ac:Z1 pos X.env es:=by rfl):MS X (.Call (.Name x p) (e::es) [] pos) (dF G fs) :=
 (Sv hc hg hm hv ha hn l he ac).weak λσ H Q M=>by
  obtain⟨env,R,A,d,k,q1,q2⟩:=M;obtain⟨ds,e1,e2⟩:=bind_some q1;exact⟨env,R,A,ds,k,e1,λvs H1 s1 p1=>⟨A,ds,d,k.mu.mono s1,e2,p1,q2.mono s1⟩⟩
theorem Aq(hc:SQ X (.type T) G)(hm:X.mg x=none)(ha:Hf true X (e::es) fs)(hg:Gl X x:=by rfl)(hv:bootBuiltins x=some (.type T):=by ext)(hn:x≠"__name__" := by decide)(l:C2 x:=by decide)
  (he:Z0 X.env e es:=by rfl) (ac:Z1 pos X.env es:=by rfl):MS X (.Call (.Name x p) (e::es) [] pos) (dF G fs) :=
 (R5 hc hg hm hv ha hn l he ac).weak λσ H Q M=>by
  obtain⟨env,R,A,d,k,q1,q2⟩:=M;obtain⟨ds,e1,e2⟩:=bind_some q1;exact⟨env,R,A,ds,k,e1,λvs H1 s1 p1=>⟨A,ds,d,k.mu.mono s1,e2,p1,q2.mono s1⟩⟩
end
section
variable{m m1:Bool}{X:Cx}{o e:C3}{es:Z C3}{f:Zzu}{fs:Zzv}{pos ay am:Pos}{name:Str}{T id:String}{α:Type}
def OZ(T:String):Dat->Bool
 | .str _=>T=="str"
 | .int _=>T=="int"
 | .lst _=>T=="list"
 | _=>false
theorem jQ{d:Dat}{v:V}(h:OZ T d=true)(p:Pk K A H d v):XJ K T v H:=by
 cases d with
 | str x=>rw[p.str.1];show T="str";simpa[OZ] using h
 | int x=>rw[p.int];show T="int";simpa[OZ] using h
 | lst x=>obtain⟨a,vs,e,h1,h2⟩:=p.lst;rw[e];exact .inl ⟨by simpa[OZ] using h,vs,h1.sq⟩
 | _=>cases h
def bQ(X:Cx)(id:String)(F:Dat->Z Dat->C1 Dat):Prop:=NH X id (λv vs H Q=>∃ A x ds d,Ux A H/\F x ds=some d/\Pk X.K A H x v/\ML true X.K A H ds vs/\T9 false X.K A H d Q)
def dM(T:String)(F:Dat->Z Dat->C1 α)(f:Zzu)(fs:Zzv):Ev->C1 α:=λenv=>(f env).bind λx=>if OZ T x=true then(fs env).bind λds=>F x ds else none
theorem iE{F:Dat->Z Dat->C1 α}{d:α}(h:dM T F f fs env=some d):∃ x ds,f env=some x/\OZ T x=true/\fs env=some ds/\F x ds=some d:=by
 obtain⟨x,e1,h⟩:=bind_some h;split at h
 .rename_i ht
  obtain⟨ds,e2,h⟩:=bind_some h;exact⟨x,ds,e1,ht,e2,h⟩
 .cases h
theorem NH.weak{r r':V->Z V->Hp->VK->Prop}(h:NH X id r)(w:∀ x xs H Q,r' x xs H Q->r x xs H Q):NH X id r':=λaa s σ H x xs v us Q I S rv q=>h aa s σ H x xs v us Q I S rv (w _ _ _ _ q)
variable{F:Dat->Z Dat->C1 Dat}{G:Dat->Z Dat->C1 (Z Dat)}
theorem eB(pa:PlainAttrs T)(slot:Slot T name id)(b:typeOf (.builtin id)=pure (.type "method_descriptor"))(hm:bQ X id F)(ho:Wp m1 X o f)(ha:Hf true X (e::es) fs)
  (l:attributeBase o name X.env (eval o X.env)=eval o X.env:=by rfl)
  (C:((backTo am (starEach (e::es) X.env)).all (λx=>!x.1)&&(backToKw am (keywordEach [] X.env)).all (λx=>x.1.isSome)
   && decide ((e::es).length+([]:Z Keyword).length+(if([]:Z Keyword).isEmpty then 0 else 1)<30))=true:=by rfl)
  (u:(ay.endLine==am.line)=true:=by rfl) (hs:Z0 X.env e es:=by rfl) (g:Z1 am X.env es:=by rfl) :
  Wp m X (.Call (.Attribute o name ay) (e::es) [] am) (dM T F f fs):=Wp.any ((UH pa slot b hm ho ha l C u hs g).weak λσ H Q M=>by
 obtain⟨env,R,A,d,k,q1,q2⟩:=M;obtain⟨x,ds,e1,ht,e2,e3⟩:=iE q1;exact⟨env,R,A,x,k,e1,λv H1 s1 p1=>⟨jQ ht p1.pk,env,R,A,ds,k.mono s1,e2,λvs H2 s2 p2=>⟨A,x,ds,d,k.mu.mono (s1.trans s2),e3,p1.pk.mono s2,p2,q2.mono (s1.trans s2)⟩⟩⟩)
def SR(X:Cx)(e:C1 C3)(f:Ev->C1 (C1 Int)):Prop:=PO X e λσ H Q=>∃ env R A i,C' X.K R A H σ env/\f env=some i/\∀ H',Zp H H'->Q i H'
def Qk:Ev->C1 (C1 Int):=λ_=>some none
def Tb(f:Zzu):Ev->C1 (C1 Int):=λenv=>match f env with
 | some (.int i)=>some (some i)
 | _=>none
theorem PO.weak{e:C1 C3}{t t':TO}(h:PO X e t)(w:∀ σ H Q,t' σ H Q->t σ H Q):PO X e t':=λaa s σ H Q I q=>h aa s σ H Q I (w σ H Q q)
theorem Tn:SR X none Qk:=jR.weak λσ H Q zz=>by obtain⟨env,R,A,i,k,q1,q2⟩:=zz;cases q1;exact q2 H (Zp.refl H)
theorem To(h:Wp m X e f):SR X (some e) (Tb f):=(iP h).weak λσ H Q M=>by
 obtain⟨env,R,A,i,k,q1,q2⟩:=M;unfold Tb at q1;split at q1
 .rename_i n e1
  cases q1;exact⟨env,R,A,_,k,e1,λv H1 s1 p1=>⟨n,p1.pk.int,q2 H1 s1⟩⟩
 .cases q1
def VF(X:Cx)(F:Dat->C1 Int->C1 Int->C1 Dat):Prop:=MY X (λv lo hi H Q=>∃ A x d,Ux A H/\F x lo hi=some d/\Pk X.K A H x v/\T9 false X.K A H d Q)
def dS(F:Dat->C1 Int->C1 Int->C1 α)(f:Zzu)(g h:Ev->C1 (C1 Int)):Ev->C1 α:=λenv=>(f env).bind λx=>(g env).bind λl=>(h env).bind λu=>F x l u
variable{lo hi:C1 C3}{gl gh:Ev->C1 (C1 Int)}{p2:Pos}
theorem oN{F:Dat->C1 Int->C1 Int->C1 α}{d:α}(h:dS F f gl gh env=some d):∃ x l u,f env=some x/\gl env=some l/\gh env=some u/\F x l u=some d:=by
 obtain⟨x,e1,h⟩:=bind_some h;obtain⟨l,e2,h⟩:=bind_some h;obtain⟨u,e3,h⟩:=bind_some h;exact⟨x,l,u,e1,e2,e3,h⟩
theorem Pi{F:Dat->C1 Int->C1 Int->C1 Dat}(hr:VF X F)(he:Wp m1 X e f)(hl:SR X lo gl)(hu:SR X hi gh):Wp m X (.Subscript e (.Slice lo hi none p2) pos) (dS F f gl gh):=Wp.any ((iH hr he hl hu).weak λσ H Q M=>by
 obtain⟨env,R,A,d,k,q1,q2⟩:=M;obtain⟨x,l,u,e1,e2,e3,e4⟩:=oN q1;exact⟨env,R,A,x,k,e1,λv H1 s1 p1=>⟨env,R,A,l,k.mono s1,e2,λH2 s2=>⟨env,R,A,u,k.mono (s1.trans s2),e3,λH3 s3=>⟨A,x,d,k.mu.mono ((s1.trans s2).trans s3),e4,p1.pk.mono (s2.trans s3),q2.mono ((s1.trans s2).trans s3)⟩⟩⟩⟩)
def WA(X:Cx)(g:A1->Sem A1)(F:Dat->C1 Dat):Prop:=NM X g (λv H Q=>∃ A x d,Ux A H/\F x=some d/\Pk X.K A H x v/\T9 false X.K A H d Q)
def dU(F:Dat->C1 Dat)(f:Zzu):Ev->C1 Dat:=λenv=>(f env).bind F
theorem WG{op:UnaryOp}{F:Dat->C1 Dat}(ho:WA X (unaryOp op) F)(ha:Wp m1 X e f):Wp m X (.UnaryOp op e pos) (dU F f):=Wp.any ((iV ho ha).weak λσ H Q M=>by
 obtain⟨env,R,A,d,k,q1,q2⟩:=M;obtain⟨x,e1,e2⟩:=bind_some q1;exact⟨env,R,A,x,k,e1,λv H1 s1 p1=>⟨A,x,d,k.mu.mono s1,e2,p1.pk,q2.mono s1⟩⟩)
end
section
variable{X:Cx}
def MI(C:Int->Int->Prop)[∀ i j,Decidable (C i j)](g:Int->Int->Dat):Dat->Dat->C1 Dat
 | .int i,.int j=>if C i j then some (g i j) else none
 | _,_=>none
theorem RT{f:A1->A1->Sem A1}{C:Int->Int->Prop}[∀ i j,Decidable (C i j)]{g:Int->Int->V}(h:G1 X f (rI C g))(hg:∀ K H i j,Rp K H (G i j) (g i j)):Sr X f (MI C G):=h.weak λv u H Q M=>by
 obtain⟨A,x,y,d,mu,e,p1,p2,q⟩:=M;unfold MI at e;split at e
 .rename_i i j
  split at e
  .rename_i hc
   cases e;exact⟨i,j,p1.int,p2.int,hc,q.here (hg _ _ _ _)⟩
  .cases e
 .cases e
theorem Xa{f:A1->A1->Sem A1}{g:Int->Int->V}(h:G1 X f (NR g))(hg:∀ K H i j,Rp K H (G i j) (g i j)):Sr X f (MI (λ_ _=>True) G):=h.weak λv u H Q M=>by
 obtain⟨A,x,y,d,mu,e,p1,p2,q⟩:=M;unfold MI at e;split at e
 .rename_i i j
  rw[AE trivial] at e;cases e;exact⟨i,j,p1.int,p2.int,q.here (hg _ _ _ _)⟩
 .cases e
instance:∀ i j,Decidable (PB i j):=λi j=>by unfold PB;infer_instance
instance:∀ i j,Decidable (RM i j):=λi j=>by unfold RM;infer_instance
instance:∀ i j,Decidable (UE i j):=λi j=>by unfold UE;infer_instance
def OO:=MI (λ_ _=>True) λi j=>.int (i - j)
def Wj:=MI RM λi j=>.int (i / j)
def Vc:=MI (λ_ j=>0<j) λi j=>.int (i % j)
def Gg:=MI UE λi j=>.int (i*2^j.toNat)
def Xv:=MI (λ_ j=>0<=j) λi j=>.int (i / 2^j.toNat)
def Gc:=MI (λ_ _=>True) λi j=>.int (Builtin.bitAnd i j)
def NL:=MI (λ_ _=>True) λi j=>.int (Builtin.bitOr i j)
def UN:=MI (λ_ _=>True) λi j=>.int (Builtin.bitXor i j)
def UX:=MI (λ_ _=>True) λi j=>.bl (decide (i<j))
def RE:=MI (λ_ _=>True) λi j=>.bl (decide (j<=i))
theorem F7:Sr X (binaryOp .Sub) OO:=Xa kR λ_ _ _ _=>Wc
theorem Wa:Sr X (binaryOp .FloorDiv) Wj:=RT gY λ_ _ _ _=>Wc
theorem Wo:Sr X (binaryOp .Mod) Vc:=RT kW λ_ _ _ _=>Wc
theorem Er:Sr X (binaryOp .LShift) Gg:=RT kM λ_ _ _ _=>Wc
theorem RV:Sr X (binaryOp .RShift) Xv:=RT gU λ_ _ _ _=>Wc
theorem Dc:Sr X (binaryOp .BitAnd) Gc:=Xa kC λ_ _ _ _=>Wc
theorem At:Sr X (binaryOp .BitOr) NL:=Xa i6 λ_ _ _ _=>Wc
theorem cQ:Sr X (binaryOp .BitXor) UN:=Xa kc λ_ _ _ _=>Wc
theorem dD:Sr X (compareOp .Lt) UX:=Xa pJ λ_ _ _ _=>T3
theorem bw:Sr X (compareOp .GtE) RE:=Xa m8 λ_ _ _ _=>T3
theorem Sr.or{f:A1->A1->Sem A1}{F G E:Dat->Dat->C1 Dat}(h:Sr X f F)(h':Sr X f G)(he:∀ x y d,E x y=some d->F x y=some d\/G x y=some d):Sr X f E:=λaa s σ H x y v u Q I S m M=>by
 obtain⟨A,a,b,d,mu,e,p1,p2,q⟩:=M;rcases he _ _ _ e with e | e
 .exact h aa s σ H x y v u Q I S m ⟨A,a,b,d,mu,e,p1,p2,q⟩
 .exact h' aa s σ H x y v u Q I S m ⟨A,a,b,d,mu,e,p1,p2,q⟩
def XI:Dat->C1 Dat
 | .int i=>some (.int (-i))
 | _=>none
def UI:Dat->C1 Dat
 | .int i=>some (.int (Builtin.bitNot i))
 | _=>none
theorem NM.weak{f:A1->Sem A1}{r r':V->Hp->VK->Prop}(h:NM X f r)(w:∀ x H Q,r' x H Q->r x H Q):NM X f r':=λaa s σ H x v Q I S q=>h aa s σ H x v Q I S (w _ _ _ q)
theorem nc:WA X (unaryOp .USub) XI:=NM.weak lu λv H Q M=>by
 obtain⟨A,x,d,mu,e,p,q⟩:=M;unfold XI at e;split at e
 .cases e;exact⟨_,p.int,q.here Wc⟩
 .cases e
theorem YR:WA X (unaryOp .Invert) UI:=NM.weak mX λv H Q M=>by
 obtain⟨A,x,d,mu,e,p,q⟩:=M;unfold UI at e;split at e
 .cases e;exact⟨_,p.int,q.here Wc⟩
 .cases e
theorem Oq{x:Str}(h:∀ c∈cl x,c<0x110000):PyData.strOk x=true:=by
 unfold PyData.strOk;rw[JL];intro c hc;exact AL (h c (by simpa[cl] using hc))
theorem Hh{x:Str}(h:PyData.strOk x=true):∀ c∈cl x,c<0x110000:=by
 unfold PyData.strOk at h;rw[JL] at h;intro c hc;exact BK (h c (by simpa[cl] using hc))
theorem iy{x y:Str}(h:PyData.strOk x=true)(k:PyData.strOk y=true):PyData.strOk (x++y)=true:=Oq λc hc=>by
 rw[dt] at hc;rcases CB.mp hc with z | z
 .exact Hh h c z
 .exact Hh k c z
theorem eA(x y:Str):(x++y).length=x.length+y.length:=by rw[<- Ot,dt,AQ,Ot,Ot]
def VJ:Dat->Dat->C1 Dat
 | .str x,.str y=>if x.length+y.length<=sizeLine then some (.str (x++y)) else none
 | _,_=>none
theorem on:Sr X (binaryOp .Add) VJ:=oK.weak λv u H Q M=>by
 obtain⟨A,x,y,d,mu,e,p1,p2,q⟩:=M;unfold VJ at e;split at e
 .rename_i i j
  split at e
  .rename_i hz
   cases e;obtain⟨e1,k1⟩:=p1.str;obtain⟨e2,k2⟩:=p2.str;exact⟨i,j,e1,e2,hz,q.here (So (MD.of (iy k1.ok k2.ok) (by rw[eA];exact hz)))⟩
  .cases e
 .cases e
def Nd:Dat->Dat->C1 (Z Dat)
 | .lst xs,.lst ys=>if xs.length+ys.length<=sizeLine then some (xs++ys) else none
 | _,_=>none
theorem RU:SZ X (binaryOp .Add) Nd:=λaa s σ H x y v u Q I S m M=>by
 obtain⟨A,a,b,d,mu,e,p1,p2,q⟩:=M;unfold Nd at e;split at e
 .rename_i xs ys
  split at e
  .rename_i hz
   cases e;obtain⟨l1,vs,e1,h1,r1⟩:=p1.lst;obtain⟨l2,us,e2,h2,r2⟩:=p2.lst;subst e1 e2;cases S;cases m;obtain⟨its,n,w1,g1,_⟩:=h1.get I;obtain⟨c,n2,w2,g2,_⟩:=h2.get I;have z1:=w1.length;have W:=w2.length;have z3:=Zv r1;have z4:=Zv r2;refine PySem.P.add_list g1 g2 ?_ (by rw[AV,AV];lia);have ea:its.toArray++c.toArray=(its++c).toArray:=by simp
   rw[ea];exact⟨.ref _,_,I.lnew (t':=s.toks) (w1.append w2) (by rw[AQ];lia),rfl,q.at (by rw[AQ];exact hz) (V5 r1 r2) _ I.fresh⟩
  .cases e
 .cases e
theorem jL(r:Wm K H ds vs)(h:ds.length≠0):vs≠[]:=by
 intro e;subst e;have:=Zv r;simp at this;lia
def Ym:Dat->Dat->C1 Dat
 | .int i,.int j=>some (.int (i+j))
 | .str x,.str y=>if x.length+y.length<=sizeLine then some (.str (x++y)) else none
 | .lst xs,.lst ys=>if xs.length+ys.length<=sizeLine then some (.lst (xs++ys)) else none
 | _,_=>none
theorem jB:Sr X (binaryOp .Add) (MI (λ_ _=>True) λi j=>.int (i+j)):=Xa gT λ_ _ _ _=>Wc
theorem Yf:Sr X (binaryOp .Add) Ym:=by
 have h1:=Sr.or (E:=λx y=>match x,y with | .int i,.int j=>some (.int (i+j)) | .str x,.str y=>if x.length+y.length<=sizeLine then some (.str (x++y)) else none | _,_=>none) (jB (X:=X)) on (λx y d e=>by
  split at e
  .left;simp[MI];exact by simpa using e
  .right;simp only[VJ];exact e
  .cases e)
 refine Sr.or h1 RU.d λx y d e=>?_
 unfold Ym at e;split at e
 .left;exact e
 .left;exact e
 .right
  rename_i xs ys;simp only[Nd];split at e
  .rename_i hz;cases e;rw[AE hz];rfl
  .cases e
 .cases e
def YQ:=MI PB λi j=>.int (i*j)
theorem j':Sr X (binaryOp .Mult) YQ:=RT eR λ_ _ _ _=>Wc
def Mq:Dat->Dat->C1 Dat:=λx y=>if(pd 20 x&&pd 20 y)=true then some (.bl (Si x y)) else none
def Nz:Dat->Dat->C1 Dat:=λx y=>if(pd 20 x&&pd 20 y)=true then some (.bl (!Si x y)) else none
theorem Q3(hu:X.A.units+64<cLine):Sr X (compareOp .Eq) Mq:=λaa s σ H x y v u Q I S m M=>by
 obtain⟨A,a,b,d,mu,e,p1,p2,q⟩:=M;unfold Mq at e;split at e
 .rename_i hp
  rw[AW] at hp;cases e;obtain⟨as,a1,a2⟩:=Rp.reads I a x v hp.1 p1.rp S;obtain⟨bs,b1,b2⟩:=Rp.reads I b y u hp.2 p2.rp m;have:=Dr 20 a hp.1;refine SeqAt.compareEq_reads a1 b1 a2 b2 (by lia) ⟨.bl _,H,I,rfl,?_⟩;rw[Dt a b hp.1 hp.2];exact q.here T3
 .cases e
theorem Nf(hu:X.A.units+64<cLine):Sr X (compareOp .NotEq) Nz:=λaa s σ H x y v u Q I S m M=>by
 obtain⟨A,a,b,d,mu,e,p1,p2,q⟩:=M;unfold Nz at e;split at e
 .rename_i hp
  rw[AW] at hp;cases e;obtain⟨as,a1,a2⟩:=Rp.reads I a x v hp.1 p1.rp S;obtain⟨bs,b1,b2⟩:=Rp.reads I b y u hp.2 p2.rp m;have:=Dr 20 a hp.1;refine SeqAt.compareNe_reads a1 b1 a2 b2 (by lia) ⟨.bl _,H,I,rfl,?_⟩;rw[Dt a b hp.1 hp.2];exact q.here T3
 .cases e
def bI:Dat->Bool
 | .non=>true
 | _=>false
theorem fT{d:Dat}{v:V}(r:Rp K H d v):decide (v=V.non)=bI d:=by
 cases d with
 | non=>rw[Xh r];rfl
 | bl b=>rw[Lj r];rfl
 | int b=>rw[Mo r];rfl
 | str b=>rw[(Ob r).1];rfl
 | tup b=>obtain⟨a,_,e,_⟩:=Re r;rw[e];rfl
 | lst b=>obtain⟨a,_,e,_⟩:=Mm r;rw[e];rfl
 | dct _=>obtain⟨_,a,e,_⟩:=gy r;rw[e];rfl
 | exc _ _=>obtain⟨_,_,_,e,_⟩:=VI r;subst e;rfl
def VH:Dat->Dat->C1 Dat
 | x,.non=>some (.bl (!bI x))
 | _,_=>none
theorem pV:Sr X (compareOp .IsNot) VH:=ke.weak λv u H Q M=>by
 obtain⟨A,x,y,d,mu,e,p1,p2,q⟩:=M;unfold VH at e;split at e
 .cases e
  exact⟨p2.non,by rw[fT p1.rp];exact q.here T3⟩
 .cases e
def nb:Str->Str->Bool:=λi j=>!(Builtin.Str.occurrences j i 0 j.length 1).isEmpty
def NU:Dat->Dat->C1 Bool
 | x,.lst ys=>if(pd 20 x&&ys.all (pd 20))=true then some (ys.any λy=>Si y x) else none
 | x,.tup ys=>if(pd 20 x&&ys.all (pd 20))=true then some (ys.any λy=>Si y x) else none
 | .str i,.str j=>some (nb i j)
 | _,_=>none
def NY:Dat->Dat->C1 Dat:=λx y=>(NU x y).map .bl
def PQ:Dat->Dat->C1 Dat:=λx y=>(NU x y).map λb=>.bl (!b)
theorem Rf(I:F' X aa σ H s)(hu:X.A.units+64<cLine){a:Dat}{x:V}{v:A1}(ha:pd 20 a=true)(S:Rp X.K H a x)(i:Yu x v) :
  ∃ e:A1->Bool,∀ {ys:Z Dat} {vs:Z V} {us:Z A1},Wm X.K H ys vs->Y8 vs us->(∀ y∈ys,pd 20 y=true)->(∀ u∈us,SeqAt.EqAt X.A.in1 s u v (e u))/\us.any e=ys.any λy=>Si y a:=by
 classical
 have b:X.A.in1.units+60<cLine:=by show X.A.units+1+60<cLine;lia
 have aj:∀ {y:Dat} {w:V} {u:A1},Rp X.K H y w->Yu w u->pd 20 y=true->SeqAt.EqAt X.A.in1 s u v (Si y a):=λ{y w u} r q h=>Rp.eqAt I h ha (by decide) b r S q i
 let e:A1->Bool:=λu=>decide (∃ (y:Dat) (w:V),Rp X.K H y w/\Yu w u/\pd 20 y=true/\Si y a=true)
 have he:∀ {y:Dat} {w:V} {u:A1},Rp X.K H y w->Yu w u->pd 20 y=true->e u=Si y a:=λ{y w u} r q h=>by
  cases z:Si y a with
  | true=>exact AL ⟨y,w,r,q,h,z⟩
  | false =>
   refine AF ?_;rintro⟨d,J,r',q',h',l⟩;have:=q.inj q';subst this;obtain⟨as,a1,a2⟩:=Rp.reads I y w u h r q;obtain⟨bs,b1,b2⟩:=Rp.reads I d w u h' r' q;have g:=SeqAt.Reads.unique _ _ _ _ _ a2 a1 b1;rw[<- Dt y a h ha,g,Dt d a h' ha,l] at z;cases z
 refine⟨e,λ{ys}=>?_⟩;induction ys with
 | nil=>intro vs us r q _;rw[Yv r] at q;cases q;exact⟨λu hu=>(by cases hu),rfl⟩
 | cons y ys ih =>
  intro vs us r q hp;obtain⟨w,c,e1,r1,r2⟩:=Y2 r;subst e1;cases q with
  | cons q1 q2 =>
   rename_i u us;obtain⟨h1,h2⟩:=ih r2 q2 λz hz=>hp z (AR _ hz)
   have G:=hp y AX;refine⟨λf b=>?_,?_⟩
   .rcases BA.mp b with z | z
    .subst z;rw[he r1 q1 G];exact aj r1 q1 G
    .exact h1 f z
   .rw[HD,HD,h2,he r1 q1 G]
theorem VM(hu:X.A.units+64<cLine):Sr X (compareOp .In) NY:=λaa s σ H x y v u Q I S m M=>by
 obtain⟨A,a,b,d,mu,e,p1,p2,q⟩:=M;unfold NY at e;unfold NU at e;split at e
 .rename_i ys
  split at e
  .rename_i hp
   rw[AW,DH] at hp;cases e;obtain⟨l,vs,e1,h1,r1⟩:=p2.lst;subst e1;cases m;obtain⟨its,w1,pl,_⟩:=I.list h1.sq;obtain⟨f,hf⟩:=Rf I hu hp.1 p1.rp S;obtain⟨k1,k2⟩:=hf (r1.mono W5) w1 hp.2;refine SeqAt.in_listAt f pl.isList (λw hw=>k1 w (by simpa using hw)) ⟨.bl _,H,I,rfl,?_⟩;rw[show its.toArray.any f=its.any f by simp,k2];exact q.here T3
  .cases e
 .rename_i ys
  split at e
  .rename_i hp
   rw[AW,DH] at hp;cases e;obtain⟨l,vs,e1,h1,r1⟩:=p2.tup;subst e1;cases m;obtain⟨its,w1,pl,_⟩:=I.tuple h1;obtain⟨f,hf⟩:=Rf I hu hp.1 p1.rp S;obtain⟨k1,k2⟩:=hf (r1.mono W5) w1 hp.2;refine SeqAt.in_tupleAt f pl (λw hw=>k1 w (by simpa using hw)) ⟨.bl _,H,I,rfl,?_⟩;rw[show its.toArray.any f=its.any f by simp,k2];exact q.here T3
  .cases e
 .rename_i i j
  cases e;obtain⟨e1,k1⟩:=p1.str;obtain⟨e2,k2⟩:=p2.str;exact o9 aa s σ H x y v u Q I S m ⟨i,j,e1,e2,q.here T3⟩
 .cases e
theorem bH(hu:X.A.units+64<cLine):Sr X (compareOp .NotIn) PQ:=λaa s σ H x y v u Q I S m M=>by
 obtain⟨A,a,b,d,mu,e,p1,p2,q⟩:=M;unfold PQ at e;unfold NU at e;split at e
 .rename_i ys
  split at e
  .rename_i hp
   rw[AW,DH] at hp;cases e;obtain⟨l,vs,e1,h1,r1⟩:=p2.lst;subst e1;cases m;obtain⟨its,w1,pl,_⟩:=I.list h1.sq;obtain⟨f,hf⟩:=Rf I hu hp.1 p1.rp S;obtain⟨k1,k2⟩:=hf (r1.mono W5) w1 hp.2;refine SeqAt.notIn_listAt f pl.isList (λw hw=>k1 w (by simpa using hw)) ⟨.bl _,H,I,rfl,?_⟩;rw[show its.toArray.any f=its.any f by simp,k2];exact q.here T3
  .cases e
 .rename_i ys
  split at e
  .rename_i hp
   rw[AW,DH] at hp;cases e;obtain⟨l,vs,e1,h1,r1⟩:=p2.tup;subst e1;cases m;obtain⟨its,w1,pl,_⟩:=I.tuple h1;obtain⟨f,hf⟩:=Rf I hu hp.1 p1.rp S;obtain⟨k1,k2⟩:=hf (r1.mono W5) w1 hp.2;refine SeqAt.notIn_tupleAt f pl (λw hw=>k1 w (by simpa using hw)) ⟨.bl _,H,I,rfl,?_⟩;rw[show its.toArray.any f=its.any f by simp,k2];exact q.here T3
  .cases e
 .rename_i i j
  cases e;obtain⟨e1,k1⟩:=p1.str;obtain⟨e2,k2⟩:=p2.str;exact gc aa s σ H x y v u Q I S m ⟨i,j,e1,e2,q.here T3⟩
 .cases e
def Yq:Dat->Dat->C1 Dat
 | .lst xs,.int i=>Fp xs i
 | .tup xs,.int i=>Fp xs i
 | .str z,.int i=>(Fp (cl z) i).map λc=>.str ⟨#[c]⟩
 | _,_=>none
theorem bU{i:Int}{d:Dat}(r:Wm K H ds vs)(h:Fp ds i=some d):∃ v,Fp vs i=some v/\Rp K H d v:=by
 unfold Fp at h ⊢;rw[Zv r];obtain⟨j,e1,e2⟩:=bind_some h;obtain⟨v,h1,h2⟩:=E4 r e2;exact⟨v,by rw[e1];exact h1,h2⟩
theorem gz{i:Int}{x:α}(h:Fp xs i=some x):x∈xs:=by
 unfold Fp at h;obtain⟨j,e1,e2⟩:=bind_some h;exact AH e2
theorem jO{c:Nat}(h:MD z)(hc:c∈cl z):MD ⟨#[c]⟩:=MD.of (Oq λc' G=>by
 have:c'=c:=by simpa[cl] using G
 rw[this];exact Hh h.ok c hc) (by rw[<- Ot];simp[cl];decide)
theorem MW.weak{r r':R2}(h:MW X r)(w:∀ x y H Q,r' x y H Q->r x y H Q):MW X r':=λau slice aa s σ H x y v u Q I S m q hs=>h au slice aa s σ H x y v u Q I S m (w _ _ _ _ q) hs
theorem Zw:MW X (rD X.K Yq):=jV.weak λv u H Q M=>by
 obtain⟨A,x,y,d,mu,e,p1,p2,q⟩:=M;unfold Yq at e;split at e
 .rename_i xs i
  obtain⟨l,vs,e1,h1,r1⟩:=p1.lst;obtain⟨w,h2,r2⟩:=bU r1 e;exact .inl ⟨l,vs,i,w,e1,p2.int,h1.sq,h2,q.here r2⟩
 .rename_i xs i
  obtain⟨l,vs,e1,h1,r1⟩:=p1.tup;obtain⟨w,h2,r2⟩:=bU r1 e;exact .inr (.inl ⟨l,vs,i,w,e1,p2.int,h1,h2,q.here r2⟩)
 .rename_i z i
  obtain⟨e1,k1⟩:=p1.str;cases hc:Fp (cl z) i with
  | none=>rw[hc] at e;cases e
  | some c =>
   rw[hc] at e;cases e;exact .inr (.inr ⟨z,i,c,e1,p2.int,k1.le,hc,q.here (So (jO k1 (gz hc)))⟩)
 .cases e
theorem XQ(lo hi:C1 Int)(r:Wm K H ds vs):Wm K H (Ja ds lo hi) (OL vs lo hi):=by
 unfold Ja OL;rw[Zv r];exact Pr _ (O2 _ r)
theorem gJ{x:α}(h:x∈Ja xs lo hi):x∈xs:=List.mem_of_mem_drop (List.mem_of_mem_take h)
theorem YS{n:Nat}(h:xs.length<=n):(Ja xs lo hi).length<=n:=by unfold Ja;rw[BN,CA];lia
theorem MY.weak(h:MY X r)(w:∀ x lo hi H Q,r' x lo hi H Q->r x lo hi H Q):MY X r':=λaa s σ H x v vl vu lo hi sl Q I S hs pl c q=>h aa s σ H x v vl vu lo hi sl Q I S hs pl c (w _ _ _ _ _ q)
def bT:Dat->C1 Int->C1 Int->C1 Dat
 | .lst xs,lo,hi=>some (.lst (Ja xs lo hi))
 | .str z,lo,hi=>some (.str (Txt.slice z lo hi))
 | .tup xs,lo,hi=>if HT.sIx xs.length 0 lo=0/\HT.sIx xs.length xs.length hi=xs.length then none else some (.tup (Ja xs lo hi))
 | _,_,_=>none
theorem lg(h:MD z):MD (Txt.slice z lo hi):=MD.of (Oq λc hc=>by
 rw[kS] at hc;exact Hh h.ok c (gJ hc)) (BC (HG z _ _) h.le)
theorem fR:VF X bT:=kf.weak λv lo hi H Q M=>by
 obtain⟨A,x,d,mu,e,p1,q⟩:=M;unfold bT at e;split at e
 .rename_i xs
  cases e;obtain⟨l,vs,e1,h1,r1⟩:=p1.lst;exact .inl ⟨l,vs,e1,h1.sq,(q.new mu).at (YS p1.lenL) (XQ lo hi r1)⟩
 .rename_i z
  cases e;obtain⟨e1,k1⟩:=p1.str;exact .inr (.inr ⟨z,e1,k1.le,q.here (So (lg k1))⟩)
 .rename_i xs
  split at e
  .cases e
  .rename_i hn
   cases e;obtain⟨l,vs,e1,h1,r1⟩:=p1.tup;exact .inr (.inl ⟨l,vs,e1,h1,by rw[Zv r1];exact hn,q.tup mu (YS p1.lenT) (XQ lo hi r1)⟩)
 .cases e
end
section
variable{X:Cx}
def U0:Z Dat->C1 Dat
 | [.lst xs]=>some (.int xs.length)
 | [.tup xs]=>some (.int xs.length)
 | [.str z]=>some (.int z.length)
 | _=>none
theorem Vt:Im X (.builtin "len") U0:=n9.weak λvs H Q M=>by
 obtain⟨A,ds,d,mu,e,p,q⟩:=M;unfold U0 at e;split at e
 .obtain⟨v,e1,p1⟩:=p.one
  obtain⟨l,us,e2,h1,r1⟩:=p1.lst;cases e;exact .inl ⟨l,us,by rw[e1,e2],.inl h1.sq,λ_=>by rw[Zv r1];exact q.here Wc⟩
 .obtain⟨v,e1,p1⟩:=p.one
  obtain⟨l,us,e2,h1,r1⟩:=p1.tup;cases e;exact .inl ⟨l,us,by rw[e1,e2],.inr h1,λ_=>by rw[Zv r1];exact q.here Wc⟩
 .obtain⟨v,e1,p1⟩:=p.one
  obtain⟨e2,h1⟩:=p1.str;cases e;exact .inr ⟨_,by rw[e1,e2],h1.le,q.here Wc⟩
 .cases e
def Fd:Z Dat->C1 (Z Dat)
 | [.lst xs]=>some xs
 | [.tup xs]=>some xs
 | _=>none
theorem B8:SQ X (.type "list") Fd:=Iu.weak λvs H Q M=>by
 obtain⟨A,ds,d,mu,e,p,q⟩:=M;unfold Fd at e;split at e
 .obtain⟨v,e1,p1⟩:=p.one
  obtain⟨l,us,e2,h1,r1⟩:=p1.lst;cases e;exact⟨l,us,by rw[e1,e2],.inl h1.sq,q.at p1.lenL r1⟩
 .obtain⟨v,e1,p1⟩:=p.one
  obtain⟨l,us,e2,h1,r1⟩:=p1.tup;cases e;exact⟨l,us,by rw[e1,e2],.inr h1,q.at p1.lenT r1⟩
 .cases e
def tupleD:Z Dat->C1 Dat
 | [.lst xs]=>some (.tup xs)
 | [.tup xs]=>some (.tup xs)
 | _=>none
theorem Ub:Im X (.type "tuple") tupleD:=Xy.weak λvs H Q M=>by
 obtain⟨A,ds,d,mu,e,p,q⟩:=M;unfold tupleD at e;split at e
 .obtain⟨v,e1,p1⟩:=p.one
  obtain⟨l,us,e2,h1,r1⟩:=p1.lst;cases e;exact⟨l,us,by rw[e1,e2],.inl ⟨h1.sq,q.tup mu p1.lenL r1⟩⟩
 .obtain⟨v,e1,p1⟩:=p.one
  rcases p1 with p1 | ⟨_,_,_,z,_⟩ | ⟨_,_,_,z,_⟩ | ⟨_,_,z,_⟩
  .obtain⟨l,us,e2,h1,r1⟩:=Re p1
   cases e;exact⟨l,us,by rw[e1,e2],.inr ⟨W5.seqT h1,by rw[<- e2];exact q.here p1⟩⟩
  .cases z
  .cases z
  .cases z
 .cases e
def Qj:Z Dat->C1 (Z Int)
 | []=>some []
 | .int i::r=>(Qj r).map (i::·)
 | _=>none
def QD:Z Dat->C1 (Z Bool)
 | []=>some []
 | .bl i::r=>(QD r).map (i::·)
 | _=>none
theorem Ms(ns:Z Int):Qj (ns.map .int)=some ns:=by
 induction ns with
 | nil=>rfl
 | cons n ns ih=>rw[CF,Qj,ih];rfl
theorem fh(ns:Z Bool):QD (ns.map .bl)=some ns:=by
 induction ns with
 | nil=>rfl
 | cons n ns ih=>rw[CF,QD,ih];rfl
theorem Q5:∀ {ds:Z Dat} {ns:Z Int},Qj ds=some ns->ds=ns.map .int
 | [],_,h=>by cases h;rfl
 | d::ds,ns,h=>by
  cases d<;>try cases h
  rename_i i;rw[Qj] at h;cases e:Qj ds with
  | none=>rw[e] at h;cases h
  | some r=>rw[e] at h;cases h;rw[Q5 e];rfl
theorem dH:∀ {ds:Z Dat} {ns:Z Bool},QD ds=some ns->ds=ns.map .bl
 | [],_,h=>by cases h;rfl
 | d::ds,ns,h=>by
  cases d<;>try cases h
  rename_i i;rw[QD] at h;cases e:QD ds with
  | none=>rw[e] at h;cases h
  | some r=>rw[e] at h;cases h;rw[dH e];rfl
theorem V3:∀ {ns:Z Int} {vs:Z V},Wm K H (ns.map .int) vs->vs=ns.map .int
 | [],vs,h=>Yv h
 | n::ns,vs,h=>by obtain⟨v,r,e,h1,h2⟩:=Y2 h;rw[e,Mo h1,V3 h2];rfl
theorem Ox:∀ {ns:Z Bool} {vs:Z V},Wm K H (ns.map .bl) vs->vs=ns.map .bl
 | [],vs,h=>Yv h
 | n::ns,vs,h=>by obtain⟨v,r,e,h1,h2⟩:=Y2 h;rw[e,Lj h1,Ox h2];rfl
def Qa(ns:Z Int):Z Int:=ns.mergeSort (λa b=>decide (a<=b))
theorem V6(ns:Z Int):(Qa ns).Perm ns:=List.mergeSort_perm ns _
theorem Rj(ns:Z Int):(Qa ns).Pairwise (·<=·):=by
 have:=List.pairwise_mergeSort (le:=λa b:Int=>decide (a<=b)) (by intro a b c h1 h2;simp only[BU] at *;lia) (by intro a b;simp only[GE,BU];lia) ns;exact this.imp λh=>BK h
theorem Tw:∀ {xs ys:Z Int},xs.Perm ys->xs.Pairwise (·<=·)->ys.Pairwise (·<=·)->xs=ys
 | [],ys,p,_,_=>by rw[List.nil_perm.mp p]
 | x::xs,[],p,_,_=>by have:=p.length_eq;simp at this
 | x::xs,y::ys,p,h1,h2=>by
  have hx:=JM.mp h1;have G:=JM.mp h2;have e:x=y:=by
   have m1:x∈y::ys:=p.mem_iff.mp AX;have m2:y∈x::xs:=p.mem_iff.mpr AX;rcases BA.mp m1 with z | z
   .exact z
   .rcases BA.mp m2 with w | w
    .exact w.symm
    .have a1:=hx.1 y w
     have a2:=G.1 x z;lia
  subst e;rw[Tw (List.Perm.cons_inv p) hx.2 G.2]
def bZ:Z Dat->C1 (Z Dat)
 | [.lst xs]=>(Qj xs).bind λns=>if ns.length<64 then some ((Qa ns).map .int) else none
 | _=>none
def RW:Z Dat->C1 Dat
 | [.lst xs]=>(QD xs).map λbs=>.bl (bs.any id)
 | _=>none
theorem map_some{a:C1 α}{g:α->β}{b:β}(h:a.map g=some b):∃ x,a=some x/\g x=b:=by
 cases a with
 | none=>cases h
 | some x=>cases h;exact⟨x,rfl,rfl⟩
theorem ng(hc:X.calm=true):Im X (.builtin "any") RW:=(oY hc).weak λvs H Q M=>by
 obtain⟨A,ds,d,mu,e,p,q⟩:=M;unfold RW at e;split at e
 .obtain⟨v,e1,p1⟩:=p.one
  obtain⟨l,us,e2,h1,r1⟩:=p1.lst;obtain⟨bs,hb,e⟩:=map_some e;subst e;rw[dH hb] at r1;have eu:=Ox r1;subst eu;exact⟨l,bs,by rw[e1,e2],h1.sq,q.here T3⟩
 .cases e
def OJ:Z Dat->C1 Dat
 | [.int i,.int j]=>some (.int (if j > i then j else i))
 | _=>none
def QN:Z Dat->C1 Dat
 | [.int i,.int j]=>some (.int (if j<i then j else i))
 | _=>none
theorem U'(hc:X.calm=true):Im X (.builtin "max") OJ:=(nO hc).weak λvs H Q M=>by
 obtain⟨A,ds,d,mu,e,p,q⟩:=M;unfold OJ at e;split at e
 .obtain⟨v,w,e1,p1,p2⟩:=p.two
  cases e;exact⟨_,_,by rw[e1,p1.int,p2.int],q.here Wc⟩
 .cases e
theorem YT(hc:X.calm=true):Im X (.builtin "min") QN:=(gn hc).weak λvs H Q M=>by
 obtain⟨A,ds,d,mu,e,p,q⟩:=M;unfold QN at e;split at e
 .obtain⟨v,w,e1,p1,p2⟩:=p.two
  cases e;exact⟨_,_,by rw[e1,p1.int,p2.int],q.here Wc⟩
 .cases e
def d3:Dat->C1 String
 | .non=>some "NoneType" | .bl _=>some "bool" | .int _=>some "int" | .str _=>some "str" | .tup _=>some "tuple" | .lst _=>some "list" | _=>none
def YN(T:String)(d:Dat):C1 Bool:=(d3 d).bind λt=>XT t T
def dI(T:String)(f:Zzu):Ev->C1 Dat:=λenv=>(f env).bind λd=>(YN T d).map .bl
theorem nf{A:C0}{Q:LM}{d:Dat}{v:V}{t:String}{b:Bool}(I:F' X aa σ H s)(r:Rp X.K H d v)(B:Yu v u)(ht:d3 d=some t)(e:PySem.W.kitOne X.K (.type t) (.type T)=some b)(h:∀ tk,Q (.bool b) { s with toks:=tk }) :
  wpAny (model X.prog X.w) A (call (.builtin "isinstance") [u,.type T]) Q E s:=by
 cases d with
 | non=>cases ht;rw[Xh r] at B;exact E1 I B .non e h
 | bl y=>cases ht;rw[Lj r] at B;exact E1 I B (.bl y) e h
 | int y=>cases ht;rw[Mo r] at B;exact E1 I B (.int y) e h
 | str y=>cases ht;rw[(Ob r).1] at B;exact E1 I B (.str y) e h
 | tup ds =>
  cases ht;obtain⟨a,vs,e1,h1,_⟩:=Re r;subst e1;cases B;obtain⟨its,_,⟨o,ho,hc,_⟩,_⟩:=I.tuple h1;exact CY kitx_tuple I.kIn ⟨o,ho,hc⟩ e (λz=>nomatch z) h
 | lst ds =>
  cases ht;obtain⟨a,vs,e1,h1,_⟩:=Mm r;subst e1;cases B;obtain⟨its,n,_,ho,_⟩:=h1.get I;exact CY LD I.kIn ⟨_,ho,rfl⟩ e (λz=>nomatch z) h
 | dct _=>cases ht
 | exc _ _=>cases ht
theorem UJ{f:Zzu}{tx:Str}{p2:Pos}(he:Wp true X e f)(hg:Gl X "isinstance")(hm:X.mg "isinstance" = none)(hv:bootBuiltins "isinstance" = some (.builtin "isinstance"))(i:Gl X tx)(j:X.mg tx=none)(l:bootBuiltins tx=some (.type T))(n:tx≠"__name__" := by decide)(g:C2 tx:=by decide)
  (hs:starEach [e,.Name tx p2] X.env=(false,eval e X.env)::starEach [.Name tx p2] X.env:=by rfl):Wp m X (.Call (.Name "isinstance" p) [e,.Name tx p2] [] pos) (dI T f):=by
 have hc:Vf X (.builtin "isinstance") (λvs H Q=>∃ v A d b,vs=[v,.ty T]/\Ux A H/\YN T d=some b/\Pk X.K A H d v/\T9 false X.K A H (.bl b) Q):=by
  intro aa s σ H xs us Q I r ⟨v,A,d,b,e1,mu,e2,p1,q⟩;subst e1;obtain⟨u,J,rfl,B,a⟩:=Ae r;cases a;obtain⟨t,ht,Y⟩:=bind_some e2;exact nf I p1.rp B ht (n7 Y) λtk=>⟨.bl b,H,I.tok _,rfl,q.here T3⟩
 refine Wp.any ((Sv hc hg hm hv (Yl he (Yl (ZZ i j l n g) Vo) hs) (he:=hs)).weak λσ H Q zz=>?_);obtain⟨env,R,A,d,k,q1,q2⟩:=zz;obtain⟨x,e1,h⟩:=bind_some q1;obtain⟨b,e2,h⟩:=map_some h;subst h;exact⟨env,R,A,x,k,e1,λv H1 s1 p1=>⟨v,A,x,b,rfl,k.mu.mono s1,e2,p1,q2.mono s1⟩⟩
end
variable{l:Z J1}{lo:Int}{e T:A2}{Q:Unit->A4->Prop}{src:Zzv}{B':Bs}
def QV(st:Bool)(A:AS)(H:Hp)(m:AS)(H1:Hp):Prop:=match st with
 | true=>I' A H m H1
 | false=>m=A/\Zp H H1
theorem QV.step{st:Bool}{m:AS}(h:QV st A H m H1):I' A H m H1:=by
 cases st with
 | true=>exact h
 | false=>obtain⟨rfl,h⟩:=h;exact I'.same h
def PR(st:Bool)(K:KX)(A:AS)(H:Hp)(ds:Z Dat)(J:It):Prop:=∀ m H1,QV st A H m H1->Ux m H1 ->
 (∀ (i:Nat) x,ds[i]?=some x->J.go i H1/\∀ v H2,J.yld i H1 v H2->Zp H1 H2/\Rp K (av H2 m) x v)/\J.stop ds.length H1
def UL(bb st:Bool)(X:Cx)(tg iter:C3)(src:Zzv):Prop:=NJ bb X tg iter λσ H c=>∃ env R A ds,C' X.K R A H σ env/\src env=some ds /\
 ∀ J H',ds.length<=sizeLine->Zp H H'->PR st X.K A H' ds J->c J H'
abbrev NO:=UL false
theorem NJ.mono{X:Cx}{t t':TI}(h:NJ bb X tg iter t)(w:∀ σ H Q,t' σ H Q->t σ H Q):NJ bb X tg iter t':=λaa s σ H Q I q=>h aa s σ H Q I (w σ H Q q)
theorem PI.weak{X:Cx}{t t':TI}(h:PI X tg iter t)(w:∀ σ H Q,t' σ H Q->t σ H Q):PI X tg iter t':=NJ.mono h w
section
variable{st:Bool}{X:Cx}{l:C3}{f:Zzu}{fs:Zzv}
def Uw(f:Zzu):Ev->C1 (Z Dat):=λenv=>match f env with
 | some (.lst xs)=>some xs
 | some (.tup xs)=>some xs
 | _=>none
theorem Bq{a:A2}(h:∀ m H1,QV st A H m H1->E5 K H1 a vs)(r:Wm K (av H A) ds vs):PR st K A H ds (UQ K a):=λm H1 b _=>by
 have h1:=h m H1 b;have r1:=r.mono b.step.av;refine⟨λi x e=>?_,⟨vs,h1,KR (Zv r)⟩⟩;obtain⟨v,e1,e2⟩:=E4 r1 e;refine⟨⟨vs,v,h1,e1⟩,λD H2 ⟨e3,e4⟩=>?_⟩;subst e3;have:=e4 vs h1;rw[e1] at this;cases this;exact⟨Zp.refl _,e2⟩
theorem bL{a:A2}(h:∀ m H1,QV st A H m H1->Sl K H1 a vs)(r:Wm K (av H A) ds vs):PR st K A H ds (W1 K a):=λm H1 b _=>by
 have h1:=h m H1 b;have r1:=r.mono b.step.av;refine⟨λi x e=>?_,⟨vs,h1,KR (Zv r)⟩⟩;obtain⟨v,e1,e2⟩:=E4 r1 e;refine⟨⟨vs,v,h1,e1⟩,λD H2 ⟨e3,e4⟩=>?_⟩;subst e3;have:=e4 vs h1;rw[e1] at this;cases this;exact⟨Zp.refl _,e2⟩
theorem Ka(h:Wp false X l f):NO st X tg l (Uw f):=(cZ h).weak λσ H c M=>by
 obtain⟨env,R,A,ds,k,e,q⟩:=M;unfold Uw at e;split at e
 .rename_i xs e1
  cases e;refine .inl ⟨env,R,A,.lst ds,k,e1,λv H1 s1 p1=>?_⟩;obtain⟨a,vs,e2,h1,r1⟩:=Mm (show Rp X.K (av H1 A) (.lst ds) v from p1);subst e2;exact⟨a,rfl,⟨vs,(W5.sl h1).sq⟩,q _ H1 p1.pk.lenL s1 (Bq (vs:=vs) (λm H2 b=>(W5.sl (b.step.av.sl h1)).sq) r1)⟩
 .rename_i xs e1
  cases e;refine .inr ⟨env,R,A,.tup ds,k,e1,λv H1 s1 p1=>?_⟩;obtain⟨a,vs,e2,h1,r1⟩:=Re (show Rp X.K (av H1 A) (.tup ds) v from p1);subst e2;exact⟨a,rfl,⟨vs,W5.seqT h1⟩,q _ H1 p1.pk.lenT s1 (bL (vs:=vs) (λm H2 b=>W5.seqT (b.step.av.seqT h1)) r1)⟩
 .cases e
theorem Mg(h:Wp true X l f):NO false X tg l (Uw f):=(cZ h).weak λσ H c M=>by
 obtain⟨env,R,A,ds,k,e,q⟩:=M;unfold Uw at e;split at e
 .rename_i xs e1
  cases e;refine .inl ⟨env,R,A,.lst ds,k,e1,λv H1 s1 p1=>?_⟩;obtain⟨a,vs,e2,h1,r1⟩:=p1.pk.lst;subst e2;exact⟨a,rfl,⟨vs,h1.sq⟩,q _ H1 p1.pk.lenL s1 (Bq (vs:=vs) (λm H2 b=>(b.2.sl h1).sq) r1)⟩
 .rename_i xs e1
  cases e;refine .inr ⟨env,R,A,.tup ds,k,e1,λv H1 s1 p1=>?_⟩;obtain⟨a,vs,e2,h1,r1⟩:=p1.pk.tup;subst e2;exact⟨a,rfl,⟨vs,h1⟩,q _ H1 p1.pk.lenT s1 (bL (vs:=vs) (λm H2 b=>b.2.seqT h1) r1)⟩
 .cases e
def rng(lo:Int)(n:Nat):Z Dat:=(List.range n).map λ(k:Nat)=>.int (lo+k)
theorem Ta{n:Nat}:(rng lo n).length=n:=by simp[rng]
theorem b8{n:Nat}:PR st K A H (rng lo n) (SG lo n):=λm H1 b _=>by
 refine⟨λi x e=>?_,by show n<=(rng lo n).length;simp[rng]⟩;unfold rng at e;rw[AM] at e;by_cases hi:i<n
 .rw[HL hi] at e
  cases e;exact⟨hi,λv H2 ⟨e1,e2⟩=>by subst e1 e2;exact⟨Zp.refl _,Wc⟩⟩
 .rw[EJ (by simpa using hi)] at e
  cases e
def U1(fs:Zzv):Ev->C1 (Z Dat):=λenv=>match fs env with
 | some [.int j]=>if -(2^62)<=j/\j<2^62/\j.toNat<=sizeLine then some (rng 0 j.toNat) else none
 | _=>none
def Ab(fs:Zzv):Ev->C1 (Z Dat):=λenv=>match fs env with
 | some [.int i,.int j]=>if(-(2^62)<=i/\i<2^62/\-(2^62)<=j/\j<2^62)/\(j - i).toNat<=sizeLine then some (rng i (j - i).toNat) else none
 | _=>none
theorem W2{a:C3}(hm:X.mg "range" = none)(ha:Hf true X [a] fs)(hg:Gl X "range" := by rfl)(hs:starEach [a] X.env=[(false,eval a X.env)]:=by rfl):NO st X tg (.Call (.Name "range" p) [a] [] pos) (U1 fs):=(iX hg hm ha hs).weak λσ H c M=>by
 obtain⟨env,R,A,ds,k,e,q⟩:=M;unfold U1 at e;split at e
 .rename_i j e1
  split at e
  .rename_i hj
   cases e;refine⟨env,R,A,_,k,e1,λvs H1 s1 p1=>?_⟩;obtain⟨v,e2,p2⟩:=p1.one;exact⟨j,by rw[e2,p2.int],hj.1,hj.2.1,q _ H1 (by rw[Ta];exact hj.2.2) s1 b8⟩
  .cases e
 .cases e
theorem bY{a b:C3}(hm:X.mg "range" = none)(ha:Hf true X [a,b] fs)(hg:Gl X "range" := by rfl)(hs:starEach [a,b] X.env=[(false,eval a X.env),(false,eval b X.env)]:=by rfl)(B:starEach [b] X.env=[(false,eval b X.env)]:=by rfl):NO st X tg (.Call (.Name "range" p) [a,b] [] pos) (Ab fs):=(fx hg hm ha hs B).weak λσ H c M=>by
 obtain⟨env,R,A,ds,k,e,q⟩:=M;unfold Ab at e;split at e
 .rename_i i j e1
  split at e
  .rename_i hj
   cases e;refine⟨env,R,A,_,k,e1,λvs H1 s1 p1=>?_⟩;obtain⟨v,w,e2,p2,n⟩:=p1.two;exact⟨i,j,by rw[e2,p2.int,n.int],hj.1,q _ H1 (by rw[Ta];exact hj.2) s1 b8⟩
  .cases e
 .cases e
end
variable{tk:Nat}
def N9(is:Z Nat)(σ σ':St):Prop:=σ'.length=σ.length/\∀ j,j∉is->σ'[j]?=σ[j]?
def NN(is:Z Nat)(X:Cx)(tg:C3)(g:Dat->Ev->C1 Ev):Prop:=PG X tg λv σ H Q=>∃ env R A d env',C' X.K R A H σ env/\Rp X.K (av H A) d v/\g d env=some env'/\∀ σ',C' X.K R A H σ' env'->N9 is σ σ'->Q σ' H
def SY(is:Z Nat)(X:Cx)(a:Z C3)(g:Z Dat->Ev->C1 Ev):Prop:=OH X a λvs σ H Q=>∃ env R A ds env',C' X.K R A H σ env/\Wm X.K (av H A) ds vs/\g ds env=some env'/\∀ σ',C' X.K R A H σ' env'->N9 is σ σ'->Q σ' H
theorem C'.put(k:C' K B A H σ env)(i:Nat){d:Dat}{v:V}(r:Rp K (av H A) d v):C' K B A H (σ.set i (some v)) (env.set i (.fz d)):=by
 obtain⟨own,h1,h2,h4⟩:=k.sl;refine⟨k.h0,k.r0,k.ra,k.ar,k.mu,by rw[CQ,CQ];exact k.len,λhs j d'=>?_,λj a=>j≠i/\own j a,λj u a q q'=>h1 j u a q.2 q'.2,λj a q=>h2 j a q.2,λj s e=>?_⟩
 .rw[AZ]
  split
  .split
   .intro z;cases z
   .intro z;cases z
  .exact k.np hs j d'
 by_cases hj:i=j
 .subst hj
  rw[AZ] at e;rw[AE rfl] at e;split at e
  .rename_i hl
   cases e;refine⟨some v,?_,v,rfl,r⟩;rw[AZ,AE rfl,AE (by rw[k.len];exact hl)]
  .cases e
 .rw[AZ,AK hj] at e
  obtain⟨x,q1,q2⟩:=h4 j s e;refine⟨x,by rw[AZ,AK hj];exact q1,?_⟩;cases s with
  | un=>trivial
  | fz d=>exact q2
  | pk d=>exact q2
  | ow ds=>obtain⟨a,vs,e1,e2,e3⟩:=q2;exact⟨a,vs,e1,⟨AY hj,e2⟩,e3⟩
  | gx g=>obtain⟨v,e1,e2⟩:=q2;exact⟨v,e1,e2.frame (λ_ z=>⟨AY hj,z⟩) (λ_ _ _ z=>z) (Zp.refl _)⟩
theorem PG.weak{X:Cx}{e:C3}{t t':TG}(h:PG X e t)(w:∀ v σ H Q,t' v σ H Q->t v σ H Q):PG X e t':=λaa s σ H v u Q I r q=>h aa s σ H v u Q I r (w _ _ _ _ q)
theorem OH.weak{X:Cx}{e:Z C3}{t t':NP}(h:OH X e t)(w:∀ v σ H Q,t' v σ H Q->t v σ H Q):OH X e t':=λaa s σ H v u Q I r q=>h aa s σ H v u Q I r (w _ _ _ _ q)
section
variable{X:Cx}
def Zz(i:Nat):Dat->Ev->C1 Ev:=λd env=>some (env.set i (.fz d))
theorem ir{v:C1 V}:N9 [i] σ (σ.set i v):=⟨by rw[CQ],λj hj=>by rw[AZ,AK (by intro e;exact hj (by simp[e]))]⟩
theorem Zl(i:Nat){x:Str}(hN:X.N.Nodup)(hi:X.N[i]?=some x:=by rfl)(hx:Cp X.env.scope x:=by ext)(hf:X.fn x=true\/X.env.scope.names.lookup x=some .local:=by ext):NN [i] X (.Name x pos) (Zz i):=(pA hN hi hx hf).weak λv σ H Q M=>by
 obtain⟨env,R,A,d,env',k,r,e,q⟩:=M;cases e;exact q _ (k.put i r) ir
def T5:Z Dat->Ev->C1 Ev:=λds env=>match ds with
 | []=>some env
 | _=>none
def Y7(g:Dat->Ev->C1 Ev)(b:Z Dat->Ev->C1 Ev):Z Dat->Ev->C1 Ev:=λds env=>match ds with
 | d::ds=>(g d env).bind λenv'=>b ds env'
 | _=>none
theorem Uq:SY [] X [] T5:=fF.weak λvs σ H Q M=>by
 obtain⟨env,R,A,ds,env',k,r,e,q⟩:=M;unfold T5 at e;split at e
 .cases e
  exact⟨Yv r,q σ k ⟨rfl,λ_ _=>rfl⟩⟩
 .cases e
theorem Y6{e:C3}{a:Z Nat}{b:Z Dat->Ev->C1 Ev}(h1:NN is X e g)(h2:SY a X es b)
  (hs:(assignEach (e::es) X.env).map (·.2)=assign e X.env::(assignEach es X.env).map (·.2):=by rfl):SY (is++a) X (e::es) (Y7 g b):=(mD h1 h2 hs).weak λvs σ H Q M=>by
 obtain⟨env,R,A,ds,env',k,r,e,q⟩:=M;unfold Y7 at e;split at e
 .rename_i d ds'
  obtain⟨l,e1,e2⟩:=bind_some e;obtain⟨v,us,ev,r1,r2⟩:=Y2 r;refine⟨v,us,ev,env,R,A,d,l,k,r1,e1,λσ1 k1 a1=>⟨l,R,A,ds',env',k1,r2,e2,λσ2 k2 a2=>q σ2 k2 ⟨by rw[a2.1,a1.1],λj hj=>?_⟩⟩⟩;rw[CB,not_or] at hj;rw[a2.2 j hj.2,a1.2 j hj.1]
 .cases e
end
def Tl(fs:Z (C1 Nat))(env:Ev):Ev:=fs.map λo=>match o with
 | none=>.un
 | some j=>match env[j]? with
  | some (.fz d)=>.fz d
  | some (.pk d)=>.pk d
  | some (.ow ds)=>.pk (.lst ds)
  | _=>.un
theorem C'.inn(k:C' K B A H σ env)(fs:Z (C1 Nat)):C' K ⟨H,A,false⟩ A H (U2 fs σ) (Tl fs env):=by
 obtain⟨own,h1,h2,h4⟩:=k.sl;refine⟨Zp.refl H,λa h=>?_,λ_ h=>h,λ_ h=>.inl h,k.mu,by simp[U2,Tl],λz=>(by cases z),λ_ _=>False,λ_ _ _ h=>h.elim,λ_ _ h=>h.elim,λi s e=>?_⟩
 .have:=k.mu a h
  cases q:H a with
  | none=>rw[q] at this;exact this.elim
  | some o=>exact⟨o,q⟩
 .unfold Tl at e
  rw[AM] at e;unfold U2;rw[AM];cases hf:fs[i]? with
  | none=>rw[hf] at e;cases e
  | some o =>
   rw[hf] at e;cases o with
   | none=>cases e;exact⟨_,rfl,trivial⟩
   | some j =>
    simp only[Option.map_some,Option.some.injEq] at e ⊢;refine⟨_,rfl,?_⟩;split at e
    .rename_i d hd
     obtain⟨x,q1,q2⟩:=h4 j _ hd;subst e;rw[q1];exact q2
    .rename_i d hd
     obtain⟨x,q1,q2⟩:=h4 j _ hd;subst e;rw[q1];exact q2
    .rename_i ds hd
     obtain⟨x,q1,a,vs,e1,_,hz,e3,e4⟩:=h4 j _ hd;subst e;rw[q1];exact⟨.ref a,e1,.inr (.inl ⟨a,vs,ds,rfl,rfl,hz,e3,e4⟩)⟩
    .subst e;trivial
def Wn(g:Dat->Ev->C1 Ev)(t:Ev->C1 Bool)(f:Zzu)(env:Ev):Z Dat->C1 (Z Dat)
 | []=>some []
 | x::xs=>(g x env).bind λl=>(t l).bind λb=>if b=true then(f l).bind λy=>(Wn g t f env xs).map (y::·) else Wn g t f env xs
def Vk(src:Zzv)(fs:Z (C1 Nat))(g:Dat->Ev->C1 Ev)(t:Ev->C1 Bool)(f:Zzu):Ev->C1 (Z Dat):=λenv=>(src env).bind λds=>Wn g t f (Tl fs env) ds
theorem Kv{f:Zzu} :∀ {xs ys:Z Dat},Wn g t f env xs=some ys->ys.length<=xs.length
 | [],ys,h=>by cases h;exact AT _
 | x::xs,ys,h=>by
  rw[Wn] at h;obtain⟨l,e1,h⟩:=bind_some h;obtain⟨b,e2,h⟩:=bind_some h;split at h
  .obtain⟨y,e3,h⟩:=bind_some h
   obtain⟨zs,e4,h⟩:=map_some h;subst h;exact KF (Kv e4)
  .exact HW (Kv h)
def OX(X:Cx)(az:Z C3)(t:Ev->C1 Bool):Prop:=OE X az λσ H Q=>∃ env R A b,C' X.K R A H σ env/\t env=some b/\∀ H',Zp H H'->Q b H'
def V7:Ev->C1 Bool:=λ_=>some true
theorem OE.weak{X:Cx}{e:Z C3}{t:TT}(h:OE X e t)(w:∀ σ H Q,t' σ H Q->t σ H Q):OE X e t':=λaa s σ H Q I q=>h aa s σ H Q I (w σ H Q q)
theorem Jn{X:Cx}:OX X [] V7:=(oZ (Y:=X)).weak λσ H Q zz=>by obtain⟨env,R,A,b,k,e,q⟩:=zz;cases e;exact q H (Zp.refl H)
theorem X5{X:Cx}{c:C3}(h:MX X c t):OX X [c] t:=lx h
section
variable{X:Cx}
theorem ZH{J:It}{fs:Z (C1 Nat)}{f:Zzu}{Q:VK}{ys:Z Dat}
  (c:∀ i∈is,fs[i]?=some none) (k:C' K B A H1 σ env) (u:PR false K A H1 ds J) (hz:ds.length<=sizeLine) (hc:Wn g t f (Tl fs env) ds=some ys) (q:Xs K A H1 ys Q) :
  ∃ W:Nat->Nat->Z V->Hp->Prop,(∃ m,W 0 m [] H1)/\∀ i m zs H,W i m zs H ->
   (J.stop i H/\zs.length<=sizeLine/\∀ p,H p=none->Q (.ref p) (W7 H p (.lst zs))) \/
   (J.go i H/\zs.length<=sizeLine/\∃ N:Z V->Hp->Prop,(∀ af H',N af H'->∃ m',m'<m/\W (i+1) m' af H')/\∀ x H',J.yld i H x H'->(∃ env R A d env',C' K R A H' (U2 fs σ) env/\Rp K (av H' A) d x/\g d env=some env'/\∀ σ',C' K R A H' σ' env'->N9 is (U2 fs σ) σ' ->
    (TL (U2 fs σ) σ'/\∃ env R A b,C' K R A H' σ' env/\t env=some b/\∀ H3,Zp H' H3->if b=true then ∃ env R A d,C' K R A H3 σ' env/\f env=some d/\T9 false K A H3 d (λv H4=>N (zs++[v]) H4) else N zs H3))):=by
 have hl:=Kv hc;refine⟨λi m zs H=>m=ds.length - i/\i<=ds.length/\Zp H1 H/\∃ us al,Wn g t f (Tl fs env) (ds.drop i)=some al/\us++al=ys/\Wm K (av H A) us zs,
  ⟨ds.length,by simp,CV _,Zp.refl _,[],ys,by simpa using hc,rfl,Ua⟩,?_⟩
 rintro i m zs H ⟨rfl,hi,s1,us,al,e1,e2,r⟩;have s:zs.length<=sizeLine:=by
  rw[Zv r];have:us.length<=ys.length:=by rw[<- e2,AQ];lia
  lia
 obtain⟨ah,n⟩:=u A H ⟨rfl,s1⟩ (k.mono s1).mu;by_cases ae:i<ds.length
 .have hx:ds[i]?=some ds[i]:=by simp[ae]
  obtain⟨go,E⟩:=ah i _ hx;rw[FN ae,Wn] at e1;obtain⟨l,b1,e1⟩:=bind_some e1;obtain⟨b,b2,e1⟩:=bind_some e1;refine .inr ⟨go,s,λw H'=>i+1<=ds.length/\Zp H1 H'/\∃ us al,Wn g t f (Tl fs env) (ds.drop (i+1))=some al/\us++al=ys/\Wm K (av H' A) us w,
   λw H' h=>⟨ds.length - (i+1),by lia,rfl,h⟩,λx H' G=>?_⟩
  obtain⟨s2,S⟩:=E x H' G;refine⟨Tl fs env,⟨H1,A,false⟩,A,ds[i],l,(k.inn fs).mono (s1.trans s2),S,b1,λσ' k' C=>⟨⟨C.1.symm,λj v ej=>?_⟩,l,⟨H1,A,false⟩,A,b,k',b2,λH3 s3=>?_⟩⟩
  .have hj:j∉is:=λhj=>by
    have:=c j hj;unfold U2 at ej;rw[AM,this] at ej;cases ej
   rw[C.2 j hj];exact ej
  .cases b with
   | true =>
    rw[AE rfl] at e1 ⊢;obtain⟨y,X,e1⟩:=bind_some e1;obtain⟨a,b4,e1⟩:=map_some e1;subst e1;refine⟨l,⟨H1,A,false⟩,A,y,k'.mono s3,X,λv H4 s4 rv=>⟨ae,((s1.trans s2).trans s3).trans s4,us++[y],a,b4,by rw[FR];exact e2,V5 (r.mono (Wl ((s2.trans s3).trans s4))) (Jt rv)⟩⟩
   | false =>
    rw[AK CN] at e1 ⊢;exact⟨ae,(s1.trans s2).trans s3,us,al,e1,e2,r.mono (Wl (s2.trans s3))⟩
 .have e:i=ds.length:=by lia
  subst e;rw[List.drop_length,Wn] at e1;cases e1;rw[EG] at e2;subst e2;exact .inl ⟨n,s,(q.mono s1).at (by lia) r⟩
variable{f:Zzu}
def WM(f:Zzu):Ev->C1 (Z Dat):=λenv=>match f env with
 | some (.lst xs)=>some xs
 | _=>none
theorem io(h:Wp true X iter f):UL true false X tg iter (WM f):=NJ.mono (cF h) λσ H c M=>by
 obtain⟨env,R,A,ds,k,e,q⟩:=M;unfold WM at e;split at e
 .rename_i xs e1
  cases e;refine⟨env,R,A,.lst ds,k,e1,λv H1 s1 p1=>?_⟩;obtain⟨a,vs,e2,h1,r1⟩:=p1.pk.lst;subst e2;exact⟨a,rfl,⟨vs,h1.sq⟩,q _ H1 p1.pk.lenL s1 (Bq (vs:=vs) (λm H2 b=>(b.2.sl h1).sq) r1)⟩
 .cases e
theorem XZ(ap:I3)(fs:Z (C1 Nat))(N:Z Str)(hp:X.env.scope=ap)(hc:X.calm=true\/(bb=true/\MU X))(hi:UL bb false X tg iter src)
  (hb:∀ (C:A2) (s:A4) (H:Hp) (fp:Z A2),NN is (Wb X sc N C s H fp) tg g/\OX (Wb X sc N C s H fp) az t/\Wp false (Wb X sc N C s H fp) aA f)
  (c:∀ i∈is,fs[i]?=some none) (hs:∀ x,foldedSetIterable iter X.env x=pure x:=by intro _;rfl) (S:CompOk ap sc X.N N fs:=by exact CompOk.of (by kernel_rfl!)):MS X (.ListComp aA [⟨tg,iter,az,0⟩] sc pos) (Vk src fs g t f):=by
 refine PE.weak (lw (g:=λv σ H Q=>∃ env R A d env',C' X.K R A H σ env/\Rp X.K (av H A) d v/\g d env=some env'/\∀ σ',C' X.K R A H σ' env'->N9 is σ σ'->Q σ' H) (tt:=λσ H Q=>∃ env R A b,C' X.K R A H σ env/\t env=some b/\∀ H',Zp H H'->Q b H') (te:=λσ H Q=>∃ env R A d,C' X.K R A H σ env/\f env=some d/\T9 false X.K A H d Q) ap fs N hp S hc hi hb hs) λσ H Q zz=>?_;obtain⟨env,R,A,ys,k,e,q⟩:=zz
 obtain⟨ds,e1,e2⟩:=bind_some e;exact⟨env,R,A,ds,k,e1,λJ H1 hz s1 u=>ZH c (k.mono s1) u hz e2 (q.mono s1)⟩
theorem Tp(ap:I3)(fs:Z (C1 Nat))(N:Z Str)(hp:X.env.scope=ap)(hc:X.calm=true)(hi:NO false X tg iter src)
 (hb:∀ (C:A2) (s:A4) (H:Hp) (fp:Z A2),NN is (Wb X sc N C s H fp) tg g/\OX (Wb X sc N C s H fp) az t/\Wp false (Wb X sc N C s H fp) aA f)
 (c:∀ i∈is,fs[i]?=some none) (hs:∀ x,foldedSetIterable iter X.env x=pure x:=by intro _;rfl) (S:CompOk ap sc X.N N fs:=by exact CompOk.of (by kernel_rfl!)):MS X (.ListComp aA [⟨tg,iter,az,0⟩] sc pos) (Vk src fs g t f):=XZ ap fs N hp (.inl hc) hi hb c hs S
end
def Lz(h base:G2)(e T:A2)(cls:A1×C1 A1)(dct:C1 A2)(fl:A1):Prop :=
 ∃ oe vs oT ts,h.get? e=some oe/\(oe.cls,vs[2]?)=cls/\oe.dict=dct/\oe.data=.fields vs/\vs[1]?=some (.ref T)/\base.get? T=none/\T≠e/\h.get? T=some oT/\oT.data=.fields ts/\ts[3]?=some fl
def F0(l:Z J1)(ch:Z A2)(h h':G2):Prop:=∀ b o,h.get? b=some o->b∉ch->(b∉E9 l->h'.get? b=some o)/\∃ sl,h'.get? b=some { o with slots:=sl }
theorem F0.of{h1:G2}(a:∀ b o,h.get? b=some o->b∉ch->h1.get? b=some o):F0 l ch h h1:=λc o q hc=>⟨λ_=>a c o q hc,o.slots,a c o q hc⟩
theorem P9(f:Array A1->Array A1)(o:Obj):(Obj.mapFields f o).dict=o.dict:=by
 unfold Obj.mapFields;split<;>rfl
section
variable{M:Model}{A:C0}
theorem XU{env:J1}{vs:Array A1}{head:A1}{j:Bool} 
   (ag:A.frames=some (env::outer)) (hl:s.heap.FunFrames base (env::outer)) (hf:env.frame=some Lq_)
   (he:s.heap.get? e=some oe) (d:base.StaysIn s.heap) (F:base.get? e=none) (hd:oe.data=.fields vs) (hsz:1<vs.size)
   (h:∀ h' T,s.heap.objs.size<=T->base.StaysIn h'->h'.FunFrames base (env::outer)->Lz h' base e T (oe.cls,vs[2]?) oe.dict (rawInt Lq_)->F0 (env::outer) [e] s.heap h'->s.heap.objs.size<=h'.objs.size->Q () { s with heap:=h' }) :
   wpAny M A (do let a <- frameOf env;let pl <- entryPlaceOf Lq_ j;let b <- EntryCells.newEntry head a .none (rawInt Lq_) .none pl;setField (.ref e) 1 b) Q E s:=by
 have n:e∉(env::outer).filterMap (·.frame):=λhm=>by
   obtain⟨_,o,ho,i⟩:=hl.mem hm;rw[he] at ho;injection ho with ho;subst ho;exact i vs hd
 refine AA (wpAny_frameOf_fun ag hl hf λh₁ hs₁=>?_);refine AA (wpAny_entryPlaceOf λpl ac=>?_);unfold EntryCells.newEntry newFields;refine AA (BO ?_ (ac.sizeOk5 _ _ _ _ _));have he₁:h₁.get? e=some oe:=(hs₁.2.1 e n).trans he;have kb₁:base.StaysIn h₁:=λb o c=>(hs₁.2.1 b λhm=>by rw[(hl.mem hm).1] at c;cases c).trans (d b o c)
 have he₂:=AD (h:=h₁) { cls:=.type "traceback",dict:=none,data:=.fields ([head,.ref Lq_,.none,rawInt Lq_,.none]++(if pl.isEmpty then List.replicate 6 Value.none else pl)).toArray } he₁;have l:s.heap.objs.size<=h₁.objs.size:=KR hs₁.1.symm;have k:h₁.objs.size≠e:=JF (AN he₁);have hd₃:=BV hd (·.setIfInBounds 1 (Value.ref h₁.objs.size));have he₃:=BH (Obj.mapFields (·.setIfInBounds 1 (Value.ref h₁.objs.size))) he₂ (DK hd₃);have hT₃:=(BB (h₁.push { cls:=.type "traceback",dict:=none,data:=.fields ([head,.ref Lq_,.none,rawInt Lq_,.none]++(if pl.isEmpty then List.replicate 6 Value.none else pl)).toArray })
   (Obj.mapFields (·.setIfInBounds 1 (Value.ref h₁.objs.size))) (AY k)).trans (AU h₁ rfl)
 have keep:∀ b o,b≠e->h₁.get? b=some o ->
     ((h₁.push { cls:=.type "traceback",dict:=none,data:=.fields ([head,.ref Lq_,.none,rawInt Lq_,.none]++(if pl.isEmpty then List.replicate 6 Value.none else pl)).toArray }).update e (Obj.mapFields (·.setIfInBounds 1 (Value.ref h₁.objs.size)))).get? b=some o :=
   λb o f hb=>by
     rw[BB _ _ (AY f)];exact AD _ hb
 refine CW he₂ hd hsz (h _ h₁.objs.size l ?_ ?_ ?_ ?_ ?_)
 · exactλb o c=>keep b o (λq=>by rw[q,F] at c;cases c) (kb₁ b o c)
 · refine hl.of_keeps λb o hb i=>?_
   obtain⟨sl,hs⟩:=hs₁.2.2 b o hb;have f:b≠e:=λq=>by rw[q,he] at hb;injection hb with hb;subst hb;exact i vs hd
   exact⟨_,keep b _ f hs,rfl⟩
 · exact⟨_,_,_,_,he₃,by rw[GG];simp[Array.getElem?_setIfInBounds],P9 _ _,hd₃,by simp[hsz],kb₁.fresh,k,hT₃,rfl,by first | (simp;done) | (rcases ac with rfl | ⟨_,_,_,_,_,_,_,rfl⟩<;>simp)⟩
 · intro b o hb f
   have m:b≠e:=λz=>f (by simp[z])
   obtain⟨sl,hs⟩:=hs₁.2.2 b o hb;exact⟨λg=>keep b o m ((hs₁.2.1 b g).trans hb),sl,keep b _ m hs⟩
 · rw[ID,EX];exact HW l
theorem RO{fl:A1} 
  (d:base.StaysIn s.heap) (hl:s.heap.FunFrames base l) (ht:Lz s.heap base e T cls dct fl)
  (h:∀ h',base.StaysIn h'->h'.FunFrames base l->Lz h' base e T cls dct .none->(∀ b o,s.heap.get? b=some o->b∉[T]->h'.get? b=some o)->h'.objs.size=s.heap.objs.size->Q () { s with heap:=h' }) :
  wpAny M A (setFlight (.ref e) none) Q E s:=by
 obtain⟨oe,vs,oT,ts,he,t,hdct,hd,h1,n,k,hT,g,h3⟩:=ht;have m:3<ts.size:=(EH.mp h3).1;have a:∀ b,b≠T->(s.heap.update T (Obj.mapFields (·.setIfInBounds 3 ((none:C1 A2).elim Value.none λf=>rawInt f)))).get? b=s.heap.get? b :=
  λb hb=>BB _ _ (AY hb)
 have j:∀ b o,s.heap.get? b=some o->(∀ vs,o.data≠.fields vs)->b≠T:=λb o hb i q=>by
  rw[q,hT] at hb;injection hb with hb;subst hb;exact i ts g
 unfold setFlight;refine AA (CH he hd h1 ?_);rw[AE (show(Value.ref T != Value.none)=true from by simp)];refine CW hT g m (h _ (λb o c=>(a b λq=>by rw[q,n] at c;cases c).trans (d b o c))
  (hl.of_keeps λb o hb i=>⟨o,(a b (j b o hb i)).trans hb,rfl⟩) ?_ (λb o hb i=>(a b (λz=>i (by simp[z]))).trans hb) (ID ..))
 exact⟨oe,vs,_,_,(a e (AY k)).trans he,t,hdct,hd,h1,n,k,BH _ hT (DK (BV g _)),BV g _,by simp[m]⟩
theorem WT{env:J1} 
  (ag:A.frames=some (env::outer)) (hl:s.heap.FunFrames base (env::outer)) (hf:env.frame=some Lq_) (ht:Lz s.heap base e T cls dct .none) (d:base.StaysIn s.heap) (F:base.get? e=none)
  (h:∀ h' T',s.heap.objs.size<=T'->base.StaysIn h'->h'.FunFrames base (env::outer)->Lz h' base e T' cls dct (rawInt Lq_)->F0 (env::outer) [e,T] s.heap h'->s.heap.objs.size<=h'.objs.size->Q () { s with heap:=h' }):wpAny M A (noteFrame (.ref e) env) Q E s:=by
 obtain⟨oe,vs,oT,ts,he,t,hdct,hd,h1,n,k,hT,g,h3⟩:=ht;subst t hdct;unfold noteFrame;simp only[hf];refine AA (CH he hd h1 ?_);rw[AE (show(Value.ref T != Value.none)=true from by simp)];refine AA (CH hT g h3 ?_);rw[AK (show ¬ ((Value.none==rawInt Lq_)=true) from by simp[rawInt])];refine AA (CW hT g (EH.mp h3).1 ?_);have a:∀ b,b≠T->(s.heap.update T (Obj.mapFields (·.setIfInBounds 3 Value.none))).get? b=s.heap.get? b:=λb hb=>BB _ _ (AY hb)
 have j:∀ b o,s.heap.get? b=some o->(∀ vs,o.data≠.fields vs)->b≠T:=λb o hb i q=>by
  rw[q,hT] at hb;injection hb with hb;subst hb;exact i ts g
 have hsz:(s.heap.update T (Obj.mapFields (·.setIfInBounds 3 Value.none))).objs.size=s.heap.objs.size:=ID ..;refine XU (s:={ s with heap:=s.heap.update T (Obj.mapFields (·.setIfInBounds 3 Value.none)) }) ag (hl.of_keeps λb o hb i=>⟨o,(a b (j b o hb i)).trans hb,rfl⟩) hf ((a e (AY k)).trans he)
  (λb o c=>(a b λq=>by rw[q,n] at c;cases c).trans (d b o c)) F hd (EH.mp h1).1
  λh' T' y x1 x2 x3 P N=>h h' T' (by rw[<- hsz];exact y) x1 x2 x3 (λb o hb hc=>?_) (by rw[<- hsz];exact N)
 have f:b≠T:=λz=>hc (by simp[z])
 exact P b o ((a b f).trans hb) (λz=>hc (by simp at z;simp[z]))
theorem Sw{env:J1}{vs:Array A1} 
  (ag:A.frames=some (env::outer)) (hl:s.heap.FunFrames base (env::outer)) (hf:env.frame=some Lq_)
  (he:s.heap.get? e=some oe) (d:base.StaysIn s.heap) (F:base.get? e=none) (hd:oe.data=.fields vs) (h1:vs[1]?=some .none)
  (h:∀ h' T',s.heap.objs.size<=T'->base.StaysIn h'->h'.FunFrames base (env::outer)->Lz h' base e T' (oe.cls,vs[2]?) oe.dict (rawInt Lq_)->F0 (env::outer) [e] s.heap h'->s.heap.objs.size<=h'.objs.size->Q () { s with heap:=h' }):wpAny M A (noteFrame (.ref e) env) Q E s:=by
 unfold noteFrame;simp only[hf];refine AA (CH he hd h1 ?_);rw[AK (by decide)];exact XU ag hl hf he d F hd (EH.mp h1).1 h
theorem As{env:J1}{vs:Array A1} 
  (ag:A.frames=some (env::outer)) (hl:s.heap.FunFrames base (env::outer)) (hf:env.frame=some Lq_)
  (he:s.heap.get? e=some oe) (d:base.StaysIn s.heap) (F:base.get? e=none) (hd:oe.data=.fields vs) (h1:vs[1]?=some .none)
  (h:∀ h' T',s.heap.objs.size<=T'->base.StaysIn h'->h'.FunFrames base (env::outer)->Lz h' base e T' (oe.cls,vs[2]?) oe.dict .none->F0 (env::outer) [e] s.heap h'->Q () { s with heap:=h' }):wpAny M A (leaving env (.ref e)) Q E s:=by
 unfold leaving;refine AA (Sw ag hl hf he d F hd h1 λh' T' y x1 x2 x3 P N=>?_);refine RO (s:={ s with heap:=h' }) x1 x2 x3 λh2 y1 y2 y3 G y5=>h h2 T' y y1 y2 y3 (λb o hb hc=>?_)
 obtain⟨k1,sl,k2⟩:=P b o hb hc;have f:b∉[T']:=λz=>by
  have e1:b=T':=by simpa using z
  have e2:=AN hb;rw[e1] at e2;exact absurd (AO e2 y) (DI _)
 exact⟨λg=>G b o (k1 g) f,sl,G b _ k2 f⟩
theorem jP{env:J1} 
  (ag:A.frames=some (env::outer)) (hl:s.heap.FunFrames base (env::outer)) (hf:env.frame=some Lq_) (ht:Lz s.heap base e T cls dct .none) (d:base.StaysIn s.heap) (F:base.get? e=none)
  (h:∀ h' T',s.heap.objs.size<=T'->base.StaysIn h'->h'.FunFrames base (env::outer)->Lz h' base e T' cls dct .none->F0 (env::outer) [e,T] s.heap h'->Q () { s with heap:=h' }):wpAny M A (leaving env (.ref e)) Q E s:=by
 unfold leaving;refine AA (WT ag hl hf ht d F λh' T' y x1 x2 x3 P N=>?_);refine RO (s:={ s with heap:=h' }) x1 x2 x3 λh2 y1 y2 y3 G y5=>h h2 T' y y1 y2 y3 (λb o hb hc=>?_)
 obtain⟨k1,sl,k2⟩:=P b o hb hc;have f:b∉[T']:=λz=>by
  have e1:b=T':=by simpa using z
  have e2:=AN hb;rw[e1] at e2;exact absurd (AO e2 y) (DI _)
 exact⟨λg=>G b o (k1 g) f,sl,G b _ k2 f⟩
end
variable{e:C3}
inductive Fl where
 | next (env:Ev) | ret (d:Dat) | brk (env:Ev) | cont (env:Ev) | exc (env:Ev) (c:Str) (fs:List (Str×XD)) | no
def PL(K:KX)(B:Bs)(H':Hp)(ds:Z Dat)(v:V):Prop:=∃ p vs,v=.ref p/\B.H₀ p=none/\H' p=some (.lst vs)/\ds.length<=sizeLine/\Wm K (av H' (ins B.R p)) ds vs
def MK(K:KX)(B:Bs)(H':Hp):Dat->V->Prop
 | .lst ds,v=>PL K B H' ds v
 | .tup [.str c,.lst ds],v=>c="rows" -> ∃ t w,v=.ref t/\H' t=some (.tup [.str c,w])/\PL K B H' ds w
 | _,_=>True
theorem PL.mono{v:V}(h:PL K B H' ds v)(h0:∀ p,B.H₀ p=none->B'.H₀ p=none)(hr:∀ a,B'.R a=true->B.R a=true):PL K B' H' ds v:=by
 obtain⟨p,vs,a1,a2,a3,a4,a5⟩:=h;exact⟨p,vs,a1,h0 p a2,a3,a4,a5.mono (Vb λb hb=>(Ga hb).elim (λz=>Ez (hr b z)) λz=>by rw[z];exact Ps)⟩
theorem MK.mono{d:Dat}{v:V}(h:MK K B H' d v)(h0:∀ p,B.H₀ p=none->B'.H₀ p=none)(hr:∀ a,B'.R a=true->B.R a=true):MK K B' H' d v:=by
 unfold MK at h ⊢;split at h
 .exact h.mono h0 hr
 .exactλz=>let ⟨t,w,e1,e2,e3⟩:=h z;⟨t,w,e1,e2,e3.mono h0 hr⟩
 .trivial
def OU(pl:Bool)(H:Hp)(c:C1 A1):Prop:=c=some .none\/(pl=false/\F3 H c)
def Gj(X:Cx)(H:Hp)(c:C1 A1):Prop:=c=some .none\/(X.pl=false/\(F3 H c\/∃ e2,c=some (.ref e2)/\X.A.handled=some (.ref e2)))
theorem Gj.v{X:Cx}{c:C1 A1}(h:Gj X H c)(hn:X.A.handled=none):OU X.pl H c:=h.imp id λ⟨p,z⟩=>⟨p,z.elim id λ⟨e2,_,y⟩=>by rw[hn] at y;cases y⟩
theorem OU.x{X:Cx}{pl:Bool}{H:Hp}{c:C1 A1}(h:OU pl H c)(hp:X.pl=true->pl=true):Gj X H c:=by
 refine h.imp id λ⟨p,z⟩=>⟨?_,.inl z⟩
 cases q:X.pl with
 | false=>rfl
 | true=>rw[hp q] at p;exact nomatch p
theorem OU.f{pl:Bool}{c:C1 A1}(h:OU pl H c):F3 H c:=h.elim .inl λz=>z.2
theorem Gj.no{X:Cx}{c:C1 A1}(h:Gj X H c)(hp:X.pl=true):c=some .none:=h.elim id λ⟨z,_⟩=>by rw[hp] at z;cases z
structure SH (X:Cx) (aa:LK) (H:Hp) (h:Heap) (e C:Addr) (dct:Option Addr):Prop where
 lo:X.s₀.heap.objs.size<=e
 un:H e=none
 ob:(∃ o vs,h.get? e=some o/\o.cls=.ref C/\o.dict=dct/\o.data=.fields vs/\vs[1]?=some .none/\Gj X H vs[2]?)\/∃ T c2,X.s₀.heap.objs.size<=T/\H T=none/\(∀ p∈X.pn++aa,p.1≠T)/\Lz h X.base e T (.ref C,c2) dct .none/\Gj X H c2
 pe:∀ p∈X.pn++aa,p.1≠e
def Xl(H0 H:Hp)(dct:C1 A2):Prop:=∀ dx,dct=some dx->H0 dx=none/\∀ j f a,H dx=some (.xd j)->j.lookup f=some (.ref a)->H0 a=none/\∃ xs,H a=some (.lst xs)
theorem Xl.mono(h:Xl H1 H dct)(m:∀ b,H1 b=none->H0 b=none):Xl H0 H dct:=λdx e=>⟨m _ (h dx e).1,λj f a q l=>((h dx e).2 j f a q l).imp (m _) id⟩
theorem bM{j:Z (Str×V)}(h1:H0 dx=none)(h2:H dx=some (.xd j))(h3:∀ f a,(f,V.ref a)∈j->H0 a=none/\∃ xs,H a=some (.lst xs)):Xl H0 H (some dx):=λdx' e=>by
 cases e;refine⟨h1,λfvs' f a q l=>?_⟩;rw[h2] at q;cases q;exact h3 f a (BW l)
theorem iq:Xl H0 H none:=λdx e=>by cases e
theorem Zp.none(s:Zp H H'){b:A2}(h:H' b=none):H b=none:=by
 cases q:H b with
 | none=>rfl
 | some o=>rw[s b o q] at h;cases h
def XW(X:Cx)(H0:Hp)(A:AS)(H:Hp)(σ:St)(c:Str)(fs:Z (Str×XD)):Prop :=
 ∀ (aa:LK) (s:A4) (e C:A2) (dct:C1 A2),F' X aa σ H s->Wd X.K c C->SH X aa H s.heap e C dct->Bj X.K (av H A) dct fs->Xl H0 H dct->X.xe (.ref e) s
def Ky(fr:Bool)(X:Cx)(B:Bs)(A:AS)(H:Hp)(D:LP):Fl->Prop
 | .next env'=>∀ A' H' σ',I' A H A' H'->C' X.K B A' H' σ' env'->D.nx σ' H'
 | .brk env'=>∀ A' H' σ',I' A H A' H'->C' X.K B A' H' σ' env'->D.bk σ' H'
 | .cont env'=>∀ A' H' σ',I' A H A' H'->C' X.K B A' H' σ' env'->D.ct σ' H'
 | .ret d=>∀ v H',Zp B.H₀ H'->Rp X.K (av H' B.R) d v->(fr=true->MK X.K B H' d v)->D.rt v H'
 | .exc env' c fs=>∀ A' H' σ',I' A H A' H'->C' X.K B A' H' σ' env'->XW X B.H₀ A' H' σ' c fs
 | .no=>False
def tS(fr:Bool)(X:Cx)(g:Ev->Fl):TS:=λD σ H=>∃ env B A,C' X.K B A H σ env/\B.st=true/\Ky fr X B A H D (g env)
def Eo(fr:Bool)(X:Cx)(st:Df)(g:Ev->Fl):Prop:=PS X st (tS fr X g)
def Xk(fr:Bool)(X:Cx)(st:Z Df)(g:Ev->Fl):Prop:=R7 X st (tS fr X g)
theorem Ky.step{X:Cx}{D:LP}{r:Fl}(h:Ky fr X B A H D r)(s:I' A H A' H'):Ky fr X B A' H' D r:=by
 cases r with
 | next e=>exactλf H2 σ2 s2 k=>h f H2 σ2 (s.trans s2) k
 | brk e=>exactλf H2 σ2 s2 k=>h f H2 σ2 (s.trans s2) k
 | cont e=>exactλf H2 σ2 s2 k=>h f H2 σ2 (s.trans s2) k
 | ret d=>exact h
 | exc e c fs=>exactλf H2 σ2 s2 k=>h f H2 σ2 (s.trans s2) k
 | no=>exact h
section
variable{X:Cx}{st:Df}{al a b:Z Df}{c:C3}{g h:Ev->Fl}{f:Zzu}{fs:Zzv}
def Ug:Ev->Fl:=λenv=>.next env
def Zc(g h:Ev->Fl):Ev->Fl:=λenv=>match g env with
 | .next env'=>h env'
 | r=>r
theorem V9:Xk fr X [] Ug:=d6.weak λD σ H ⟨env,B,A,k,af,q⟩=>q A H σ (I'.refl A H) k
theorem Za(h1:Eo fr X st g)(h2:Xk fr X al h):Xk fr X (st::al) (Zc g h):=(T6 h1 h2).weak λD σ H M=>by
 obtain⟨env,B,A,k,af,q⟩:=M;refine⟨env,B,A,k,af,?_⟩;unfold Zc at q;split at q
 .rename_i env' e
  rw[e];exactλA' H' σ' s k'=>⟨env',B,A',k',af,q.step s⟩
 .rename_i r hn
  cases e:g env with
  | next env'=>exact absurd e (hn env')
  | brk e'=>rw[e] at q;exact q
  | cont e'=>rw[e] at q;exact q
  | ret d=>rw[e] at q;exact q
  | exc e' c fs=>rw[e] at q;exact q
  | no=>rw[e] at q;exact q
theorem Zj(h1:Eo fr X st g):Xk fr X [st] g:=Jr h1
theorem lV:Eo fr X (.Continue pos) (λenv=>.cont env):=hU.weak λD σ H ⟨env,B,A,k,af,q⟩=>q A H σ (I'.refl A H) k
def J9(t:Ev->C1 Bool)(g h:Ev->Fl):Ev->Fl:=λenv=>match t env with
 | some true=>g env
 | some false=>h env
 | none=>.no
theorem Ur(hc:MX X c t)(ha:Xk fr X a g)(hb:Xk fr X b h):Eo fr X (.If c a b pos) (J9 t g h):=(d9 hc ha hb).weak λD σ H M=>by
 obtain⟨env,B,A,k,af,q⟩:=M;unfold J9 at q;split at q
 .rename_i e
  refine⟨env,B,A,true,k,e,λH' s=>?_⟩;exact VG ⟨env,B,A,k.mono s,af,q.step (I'.same s)⟩
 .rename_i e
  refine⟨env,B,A,false,k,e,λH' s=>?_⟩;exact VA ⟨env,B,A,k.mono s,af,q.step (I'.same s)⟩
 .exact q.elim
def W4(f:Zzu):Ev->Fl:=λenv=>match f env with
 | some d=>.ret d
 | none=>.no
theorem Kc{d:Dat}{v:V}(k:C' X.K B A H σ env)(s:Zp H H')(r:Rp X.K (av H' A) d v):Zp B.H₀ H'/\Rp X.K (av H' B.R) d v:=⟨k.h0.trans s,r.mono (Vb k.ra)⟩
theorem Yz(he:Wp false X e f):Eo false X (.Return (some e) pos) (W4 f):=(D6 he).weak λD σ H M=>by
 obtain⟨env,B,A,k,af,q⟩:=M;unfold W4 at q;split at q
 .rename_i d e
  exact⟨env,B,A,d,k,e,λv H' s r=>q v H' (Kc k s r).1 (Kc k s r).2 (λz=>by cases z)⟩
 .exact q.elim
theorem oU{p:A2}(k:C' X.K B A H σ env)(hz:ds.length<=sizeLine)(s:Zp H H')(hn:H p=none)(hp:H' p=some (.lst vs))(r:Wm X.K (av H' (ins A p)) ds vs):B.H₀ p=none/\B.R p=false/\Wm X.K (av H' (ins B.R p)) ds vs:=by
 have h0:B.H₀ p=none:=k.h0.free hn;refine⟨h0,?_,r.mono (Vb λa ha=>?_)⟩
 .cases q:B.R p with
  | false=>rfl
  | true=>obtain⟨o,ho⟩:=k.r0 p q;rw[h0] at ho;cases ho
 .rcases Ga ha with z | z
  .exact Ez (k.ra a z)
  .subst z;exact Ps
theorem Lg(he:MS X e fs):Eo fr X (.Return (some e) pos) (W4 (dL fs)):=(D6 he).weak λD σ H M=>by
 obtain⟨env,B,A,k,af,q⟩:=M;unfold W4 at q;split at q
 .rename_i d e
  obtain⟨ds,e1,e2⟩:=map_some e;subst e2;refine⟨env,B,A,ds,k,e1,λp vs H' hz s hn hp r=>?_⟩;obtain⟨h1,h2,h3⟩:=oU k hz s hn hp r;refine q (.ref p) H' (k.h0.trans s) (Da hz (.inl (.inl (V4 hp h2))) (h3.mono (Vb λa ha=>Ez ha))) λ_=>⟨p,vs,rfl,h1,hp,hz,h3⟩
 .exact q.elim
theorem Pe{s:LQ}(h:∀ (j:Nat) d,env[j]?≠some (.pk d))(hs:∀ d,s≠.pk d):∀ (j:Nat) d,(env.set i s)[j]?≠some (.pk d):=λj d=>by
 rw[AZ];split
 .split
  .intro z;exact hs d (BI z)
  .intro z;cases z
 .exact h j d
theorem C'.own(k:C' K B A H σ env)(af:B.st=true)(h:env[i]?=some (.ow ds)) :
  ∃ a vs,σ[i]?=some (some (.ref a))/\H a=some (.lst vs)/\Wm K (av H A) ds vs/\ds.length<=sizeLine/\A a=true/\B.R a=false/\B.H₀ a=none /\
   (∀ ds' c,ds'.length<=sizeLine->Wm K (av H A) ds' c->I' A H A (W7 H a (.lst c))/\C' K B A (W7 H a (.lst c)) σ (env.set i (.ow ds'))) /\
   I' A H (λb=>A b&&b != a) H/\C' K B (λb=>A b&&b != a) H σ (env.set i (.fz (.lst ds))):=by
 obtain⟨own,h1,h2,h4⟩:=k.sl;obtain⟨x,q1,a,vs,e1,e2,hz,e3,e4⟩:=h4 i _ h;subst e1;obtain⟨hA,hR⟩:=h2 i a e2;have h0:B.H₀ a=none:=by
  rcases k.ar a hA with z | z
  .rw[z] at hR;cases hR
  .exact z
 have m:∀ c,Zp (av H A) (av (W7 H a (.lst c)) A):=λc b o e=>by
  obtain⟨z1,W⟩:=Tg e;have hb:b≠a:=by intro z;rw[z,hA] at z1;cases z1
  exact V4 (by rw[Zf hb];exact W) z1
 refine⟨a,vs,q1,e3,e4,hz,hA,hR,h0,λds' c r r'=>⟨⟨λb o hb n=>?_,λb hb=>.inl hb⟩,?_⟩,⟨λb o hb _=>hb,λb hb=>.inl ?_⟩,?_⟩
 .have hn:b≠a:=by intro z;rw[z,hA] at n;cases n
  rw[Zf hn];exact hb
 .refine⟨λb o hb=>?_,k.r0,k.ra,k.ar,λb hb=>?_,by rw[CQ];exact k.len,λhs j d'=>Pe (k.np hs) (λ_ z=>by cases z) j d',own,h1,h2,λj s e=>?_⟩
  .have hn:b≠a:=Yg hb h0
   rw[Zf hn];exact k.h0 b o hb
  .by_cases hn:b=a
   .subst hn;rw[Zn];trivial
   .rw[Zf hn];exact k.mu b hb
  .by_cases hj:i=j
   .subst hj
    rw[AZ,AE rfl] at e;split at e
    .cases e
     exact⟨_,q1,a,c,rfl,e2,r,Zn,r'.mono (m c)⟩
    .cases e
   .rw[AZ,AK hj] at e
    obtain⟨x,p1,p2⟩:=h4 j s e;refine⟨x,p1,?_⟩;cases s with
    | un=>trivial
    | fz d=>obtain⟨v,z1,W⟩:=p2;exact⟨v,z1,W.mono (m c)⟩
    | pk d =>
     exact absurd e (k.np af j d)
    | ow es =>
     obtain⟨b,us,z1,W,z3,z4,z5⟩:=p2;have hn:b≠a:=λz=>hj (h1 i j a e2 (z▸W))
     exact⟨b,us,z1,W,z3,by rw[Zf hn];exact z4,z5.mono (m c)⟩
    | gx g =>
     obtain⟨v,z1,W⟩:=p2;exact⟨v,z1,W.frame (λ_ z=>z) (λb x ob z=>by
      have hn:b≠a:=λw=>hj (h1 i j a e2 (w▸ob))
      rw[Zf hn];exact z) (m c)⟩
 .rw[AW] at hb;exact hb.1
 .have less:Zp (av H A) (av H λb=>A b&&b != a):=Vb λb hb=>by rw[AW] at hb;exact hb.1
  refine⟨k.h0,k.r0,λb hb=>?_,λb hb=>?_,λb hb=>?_,by rw[CQ];exact k.len,λhs j d'=>Pe (k.np hs) (λ_ z=>by cases z) j d',λj b=>j≠i/\own j b,λj u b z l=>h1 j u b z.2 l.2,λj b z=>?_,λj s e=>?_⟩
  .have hn:b≠a:=by intro z;rw[z,hR] at hb;cases hb
   simp[k.ra b hb,hn]
  .rw[AW] at hb;exact k.ar b hb.1
  .rw[AW] at hb;exact k.mu b hb.1
  .have hn:b≠a:=λw=>z.1 (h1 j i a (w▸z.2) e2)
   simp[(h2 j b z.2).1,(h2 j b z.2).2,hn]
  .by_cases hj:i=j
   .subst hj
    rw[AZ,AE rfl] at e;split at e
    .cases e
     exact⟨_,q1,.ref a,rfl,Da hz (.inl (.inl (V4 e3 (by simp)))) (e4.mono less)⟩
    .cases e
   .rw[AZ,AK hj] at e
    obtain⟨x,p1,p2⟩:=h4 j s e;refine⟨x,p1,?_⟩;cases s with
    | un=>trivial
    | fz d=>obtain⟨v,z1,W⟩:=p2;exact⟨v,z1,W.mono less⟩
    | pk d =>
     obtain⟨v,z1,W⟩:=p2;refine⟨v,z1,?_⟩;rcases W with W | ⟨b,us,es,y1,y2,y3,G,y5⟩ | W
     .exact .inl (W.mono less)
     .exact .inr (.inl ⟨b,us,es,y1,y2,y3,G,y5.mono less⟩)
     .exact .inr (.inr W)
    | ow es =>
     obtain⟨b,us,z1,W,z3,z4,z5⟩:=p2;exact⟨b,us,z1,⟨AY hj,W⟩,z3,z4,z5.mono less⟩
    | gx g =>
     obtain⟨v,z1,W⟩:=p2;exact⟨v,z1,W.frame (λ_ z=>⟨AY hj,z⟩) (λ_ _ _ z=>z) less⟩
def En(i:Nat):Ev->Fl:=λenv=>match env[i]? with
 | some (.ow ds)=>.ret (.lst ds)
 | _=>.no
theorem L6(i:Nat){x:Str}(hN:X.N[i]?=some x:=by rfl)(hv:MQ X.env.scope x:=by ext)(hd:C2 x:=by decide)
  (ai:(x==("__classdict__" : Str))=false:=by decide):Eo fr X (.Return (some (.Name x p)) pos) (En i):=(D6 (Qd hN hv hd ai)).weak λD σ H M=>by
 obtain⟨env,B,A,k,af,q⟩:=M;unfold En at q;split at q
 .rename_i ds e
  obtain⟨a,vs,h1,h2,h3,hz,hA,hR,h0,_⟩:=k.own af e;have less:∀ b,ins B.R a b=true->A b=true:=λb hb=>by
   rcases Ga hb with z | z
   .exact k.ra b z
   .rw[z];exact hA
  have r:=h3.mono (Vb (H:=H) less);refine⟨.ref a,h1,q (.ref a) H k.h0 (Da hz (.inl (.inl (V4 h2 hR))) (r.mono (Vb λb hb=>Ez hb))) λ_=>⟨a,vs,rfl,h0,h2,hz,r⟩⟩
 .exact q.elim
def Zt(i:Nat)(f:Zzu):Ev->Fl:=λenv=>match f env with
 | some d=>.next (env.set i (.fz d))
 | none=>.no
def Sk(i:Nat)(f:Zzv):Ev->Fl:=λenv=>match f env with
 | some ds=>.next (env.set i (.ow ds))
 | none=>.no
theorem C'.putO(k:C' K B A H σ env)(af:B.st=true)(i:Nat){p:A2}(hz:ds.length<=sizeLine)(s:Zp H H')(hn:H p=none)(hp:H' p=some (.lst vs))(r:Wm K (av H' (ins A p)) ds vs) :
  I' A H (ins A p) H'/\C' K B (ins A p) H' (σ.set i (some (.ref p))) (env.set i (.ow ds)):=by
 have st:I' A H (ins A p) H':=⟨λa o h _=>s a o h,λa h=>by
  rcases Ga h with z | z
  .exact .inl z
  .rw[z];exact .inr hn⟩
 have m:A p=false:=k.mu.new hn;have h0:B.H₀ p=none:=k.h0.free hn;obtain⟨own,h1,h2,h4⟩:=k.sl;refine⟨st,k.h0.trans s,k.r0,λa h=>Ez (k.ra a h),λa h=>?_,λa h=>?_,by rw[CQ,CQ];exact k.len,λhs j d'=>Pe (k.np hs) (λ_ z=>by cases z) j d',
  λj a=>(j≠i/\own j a)\/(j=i/\a=p),λj u a z l=>?_,λj a z=>?_,λj sl e=>?_⟩
 .rcases Ga h with z | z
  .exact k.ar a z
  .rw[z];exact .inr h0
 .rcases Ga h with z | z
  .exact k.mu.mono s a z
  .rw[z,hp];trivial
 .rcases z with z | z<;>rcases l with l | l
  .exact h1 j u a z.2 l.2
  .have:=(h2 j a z.2).1;rw[l.2,m] at this;cases this
  .have:=(h2 u a l.2).1;rw[z.2,m] at this;cases this
  .rw[z.1,l.1]
 .rcases z with z | z
  .exact⟨Ez (h2 j a z.2).1,(h2 j a z.2).2⟩
  .refine⟨by rw[z.2];exact Ps,?_⟩
   cases q:B.R a with
   | false=>rfl
   | true=>obtain⟨o,ho⟩:=k.r0 a q;rw[z.2,h0] at ho;cases ho
 .by_cases hj:i=j
  .subst hj
   rw[AZ,AE rfl] at e;split at e
   .rename_i hl
    cases e;exact⟨some (.ref p),by rw[AZ,AE rfl,AE (by rw[k.len];exact hl)],p,vs,rfl,.inr ⟨rfl,rfl⟩,hz,hp,r⟩
   .cases e
  .rw[AZ,AK hj] at e
   obtain⟨x,p1,p2⟩:=h4 j sl e;refine⟨x,by rw[AZ,AK hj];exact p1,?_⟩;cases sl with
   | un=>trivial
   | fz d=>obtain⟨v,z1,W⟩:=p2;exact⟨v,z1,W.mono st.av⟩
   | pk d=>exact absurd e (k.np af j d)
   | ow es =>
    obtain⟨b,us,z1,W,z3,z4,z5⟩:=p2;exact⟨b,us,z1,.inl ⟨AY hj,W⟩,z3,s _ _ z4,z5.mono st.av⟩
   | gx g =>
    obtain⟨v,z1,W⟩:=p2;exact⟨v,z1,W.frame (λ_ z=>.inl ⟨AY hj,z⟩) (λb x _ z=>s b x z) st.av⟩
theorem Zo(i:Nat){x:Str}(hN:X.N.Nodup)(he:Wp false X e f)(hi:X.N[i]?=some x:=by rfl)(hx:Cp X.env.scope x:=by ext)(hs:swapsWith e (some (.Name x ao)) pos.line X.env=pure false:=by rfl)
  (hf:X.fn x=true\/X.env.scope.names.lookup x=some .local:=by ext):Eo fr X (.Assign [.Name x ao] e pos) (Zt i f):=(Gk hN hi hx he hs hf).weak λD σ H M=>by
 obtain⟨env,B,A,k,af,q⟩:=M;unfold Zt at q;split at q
 .rename_i d e
  exact⟨env,B,A,d,k,e,λv H' s r=>q A H' _ (I'.same s) ((k.mono s).put i r)⟩
 .exact q.elim
theorem M5(i:Nat){x:Str}(hN:X.N.Nodup)(he:MS X e fs)(hi:X.N[i]?=some x:=by rfl)(hx:Cp X.env.scope x:=by ext)(hs:swapsWith e (some (.Name x ao)) pos.line X.env=pure false:=by rfl)
  (hf:X.fn x=true\/X.env.scope.names.lookup x=some .local:=by ext):Eo fr X (.Assign [.Name x ao] e pos) (Sk i fs):=(Gk hN hi hx he hs hf).weak λD σ H M=>by
 obtain⟨env,B,A,k,af,q⟩:=M;unfold Sk at q;split at q
 .rename_i ds e
  refine⟨env,B,A,ds,k,e,λp vs H' hz s hn hp r=>?_⟩;obtain⟨h1,h2⟩:=k.putO af i hz s hn hp r;exact q _ H' _ h1 h2
 .exact q.elim
variable{gg:Dat->Ev->C1 Ev}{tt:Ev->C1 Bool}
theorem Kq(i:Nat){x:Str}(hN:X.N.Nodup)(ap:I3)(fs:Z (C1 Nat))(N:Z Str)(hp:X.env.scope=ap)(hc:X.calm=true)(hi:NO false X tg iter src)
  (hb:∀ (C:A2) (s:A4) (H:Hp) (fp:Z A2),NN is (Wb X sc N C s H fp) tg gg/\OX (Wb X sc N C s H fp) az tt/\Wp false (Wb X sc N C s H fp) aA f)
  (c:∀ i∈is,fs[i]?=some none) (y:X.N[i]?=some x:=by rfl) (hx:Cp X.env.scope x:=by ext) (S:CompOk ap sc X.N N fs:=by exact CompOk.of (by kernel_rfl!)) (hs:∀ x,foldedSetIterable iter X.env x=pure x:=by intro _;rfl) (E:swapsWith (.ListComp aA [⟨tg,iter,az,0⟩] sc pos) (some (.Name x ao)) aE.line X.env=pure true:=by rfl)
  (hf:X.fn x=true\/X.env.scope.names.lookup x=some .local:=by ext) :
  Eo fr X (.Assign [.Name x ao] (.ListComp aA [⟨tg,iter,az,0⟩] sc pos) aE) (Zt i (dL (Vk src fs gg tt f))):=(Pf (g:=λv σ H Q=>∃ env R A d env',C' X.K R A H σ env/\Rp X.K (av H A) d v/\gg d env=some env'/\∀ σ',C' X.K R A H σ' env'->N9 is σ σ'->Q σ' H) (tt:=λσ H Q=>∃ env R A b,C' X.K R A H σ env/\tt env=some b/\∀ H',Zp H H'->Q b H') (te:=λσ H Q=>∃ env R A d,C' X.K R A H σ env/\f env=some d/\T9 false X.K A H d Q) hN y hx ap fs N hp S hc hi hb hs E hf).weak λD σ H M=>by
 obtain⟨env,B,A,k,af,q⟩:=M;unfold Zt at q;split at q
 .rename_i d e
  obtain⟨ys,e',t⟩:=map_some e;subst t;obtain⟨ds,e1,e2⟩:=bind_some e';have q':T9 false X.K A H (.lst ys) (λv H'=>D.nx (σ.set i (some v)) H'):=λv H' s r=>q A H' _ (I'.same s) ((k.mono s).put i r)
  exact⟨env,B,A,ds,k,e1,λJ H1 hz s1 u=>ZH (Q:=λv H'=>D.nx (σ.set i (some v)) H') c (k.mono s1) u hz e2 ((q'.new k.mu).mono s1)⟩
 .exact q.elim
def OT(f:Zzu)(g:Dat->Ev->C1 Ev):Ev->Fl:=λenv=>match (f env).bind λd=>g d env with
 | some env'=>.next env'
 | none=>.no
theorem TQ{g:Dat->Ev->C1 Ev}(he:Wp false X e f)(hg:NN is X tg g)(hs:swapsWithSole [tg] e pos.line X.env=pure false:=by rfl)(hw:swappedStores [tg] e X.env=pure none:=by rfl)(h1:(assignEach [tg] X.env).map (·.2)=[assign tg X.env]:=by rfl):Eo fr X (.Assign [tg] e pos) (OT f g):=(di he hg hs hw h1).weak λD σ H M=>by
 obtain⟨env,B,A,k,af,q⟩:=M;unfold OT at q;split at q
 .rename_i env' e
  obtain⟨d,e1,e2⟩:=bind_some e;exact⟨env,B,A,d,k,e1,λv H' s r=>⟨env,B,A,d,env',k.mono s,r,e2,λσ' k' _=>q A H' σ' (I'.same s) k'⟩⟩
 .exact q.elim
def Nk(g:Dat->Ev->C1 Ev)(body:Ev->Fl):Z Dat->Ev->Fl
 | [],env=>.next env
 | x::xs,env=>match g x env with
  | none=>.no
  | some l=>match body l with
   | .next e=>Nk g body xs e
   | .cont e=>Nk g body xs e
   | .brk e=>.next e
   | .ret d=>.ret d
   | .exc e c fs=>.exc e c fs
   | .no=>.no
def Uf(src:Zzv)(g:Dat->Ev->C1 Ev)(body:Ev->Fl):Ev->Fl:=λenv=>match src env with
 | none=>.no
 | some ds=>Nk g body ds env
theorem Ve(hp:PassesOwn (model X.prog X.w) X.A X.env X.xe)(hc:X.calm=true)(hi:NO true X tg iter src)(hg:NN is X tg gg)(hb:Xk fr X body g)
  (hs:∀ x,foldedSetIterable iter X.env x=pure x:=by intro _;rfl):Eo fr X (.For tg iter body [] pos) (Uf src gg g):=(ml hp hc hi hg hb hs).weak λD σ H M=>by
 obtain⟨env,B,A,k,af,q⟩:=M;unfold Uf at q;split at q
 .exact q.elim
 rename_i ds e;refine⟨env,B,A,ds,k,e,λJ H1 hz s1 u=>?_⟩;refine⟨λi m σ' H'=>m=ds.length - i/\i<=ds.length/\∃ A' env',I' A H1 A' H'/\C' X.K B A' H' σ' env'/\Ky fr X B A' H' D (Nk gg g (ds.drop i) env'),
  ⟨ds.length,by simp,CV _,A,env,I'.refl A H1,k.mono s1,by simpa using q.step (I'.same s1)⟩,?_⟩
 rintro i m σ' H' ⟨rfl,y,A',env',s',k',q'⟩;obtain⟨ah,n⟩:=u A' H' s' k'.mu;by_cases ae:i<ds.length
 .obtain⟨go,E⟩:=ah i _ (show ds[i]?=some ds[i] by simp[ae])
  refine .inr ⟨go,λσ2 H2=>i+1<=ds.length/\∃ f a,I' A H1 f H2/\C' X.K B f H2 σ2 a/\Ky fr X B f H2 D (Nk gg g (ds.drop (i+1)) a),λσ2 H2 z=>⟨ds.length - (i+1),by lia,rfl,z⟩,λx H2 G=>?_⟩;obtain⟨s2,S⟩:=E x H2 G;rw[FN ae,Nk] at q';split at q'
  .exact q'.elim
  rename_i l e1;refine⟨env',B,A',ds[i],l,k'.mono s2,S,e1,λσ3 k3 _=>⟨l,B,A',k3,af,?_⟩⟩;have j:I' A' H' A' H2:=I'.same s2;split at q'
  .rename_i e2 C
   rw[C];exactλb H4 σ4 s4 h=>⟨ae,b,e2,s'.trans (j.trans s4),h,q'.step (j.trans s4)⟩
  .rename_i e2 C
   rw[C];exactλb H4 σ4 s4 h=>⟨ae,b,e2,s'.trans (j.trans s4),h,q'.step (j.trans s4)⟩
  .rename_i e2 C
   rw[C];exactλb H4 σ4 s4 h=>q' b H4 σ4 (j.trans s4) h
  .rename_i d C
   rw[C];exact q'
  .rename_i e2 c2 f2 C
   rw[C];exactλb H4 σ4 s4 h=>q' b H4 σ4 (j.trans s4) h
  .exact q'.elim
 .have e:i=ds.length:=by lia
  subst e;rw[List.drop_length,Nk] at q';exact .inl ⟨n,q' A' H' σ' (I'.refl _ _) k'⟩
def Vj(t:Ev->C1 Bool)(body:Ev->Fl):Nat->Ev->Fl
 | 0,_=>.no
 | n+1,env=>match t env with
  | none=>.no
  | some false=>.next env
  | some true=>match body env with
   | .next e=>Vj t body n e
   | .cont e=>Vj t body n e
   | .brk e=>.next e
   | .ret d=>.ret d
   | .exc e c fs=>.exc e c fs
   | .no=>.no
theorem Uy{body:Ev->Fl}:∀ {n:Nat} {env:Ev} (k:Nat),Vj t body n env≠.no->Vj t body (n+k) env=Vj t body n env
 | 0,env,k,h=>absurd rfl h
 | n+1,env,k,h=>by
  rw[show n+1+k=(n+k)+1 by lia];simp only[Vj] at h ⊢;split
  .rfl
  .rfl
  .rename_i e1
   simp only[e1] at h;split
   .rename_i e2 C;simp only[C] at h;exact Uy k h
   .rename_i e2 C;simp only[C] at h;exact Uy k h
   .rfl
   .rfl
   .rfl
   .rfl
open Classical in
def D4(t:Ev->C1 Bool)(body:Ev->Fl):Ev->Fl:=λenv=>if h:∃ n,Vj t body n env≠.no then Vj t body (Classical.choose h) env else .no
theorem Fc{body:Ev->Fl}{n:Nat}(h:Vj t body n env≠.no):D4 t body env=Vj t body n env:=by
 unfold D4;have hx:∃ n,Vj t body n env≠.no:=⟨n,h⟩;rw[dif_pos hx];have hc:=Classical.choose_spec hx;have e1:=Uy n hc;have e2:=Uy (Classical.choose hx) h;rw[<- e1,<- e2,Nat.add_comm]
theorem d7(hp:PassesOwn (model X.prog X.w) X.A X.env X.xe)(hc:MX X c t)(hb:Xk fr X body g):Eo fr X (.While c body [] pos) (D4 t g):=(pI hp hc hb).weak λD σ H M=>by
 obtain⟨env,B,A,k,af,q⟩:=M;unfold D4 at q;split at q
 .rename_i hx
  refine⟨λn σ' H'=>∃ A' env',C' X.K B A' H' σ' env'/\Ky fr X B A' H' D (Vj t g n env'),⟨_,A,env,k,q⟩,?_⟩;rintro n σ' H' ⟨A',env',k',q'⟩;cases n with
  | zero=>exact q'.elim
  | succ n =>
   rw[Vj] at q';split at q'
   .exact q'.elim
   .rename_i e1
    refine⟨env',B,A',false,k',e1,λH1 s1=>?_⟩;refine VA ?_;exact q' A' H1 σ' (I'.same s1) (k'.mono s1)
   .rename_i e1
    refine⟨env',B,A',true,k',e1,λH1 s1=>?_⟩;refine VG ?_;refine⟨λσ2 H2=>∃ f a,C' X.K B f H2 σ2 a/\Ky fr X B f H2 D (Vj t g n a),λσ2 H2 z=>⟨n,ED n,z⟩,env',B,A',k'.mono s1,af,?_⟩;have j:I' A' H' A' H1:=I'.same s1;split at q'
    .rename_i e2 C
     rw[C];exactλb H4 σ4 s4 h=>⟨b,e2,h,q'.step (j.trans s4)⟩
    .rename_i e2 C
     rw[C];exactλb H4 σ4 s4 h=>⟨b,e2,h,q'.step (j.trans s4)⟩
    .rename_i e2 C
     rw[C];exactλb H4 σ4 s4 h=>q' b H4 σ4 (j.trans s4) h
    .rename_i d C
     rw[C];exact q'
    .rename_i e2 c2 f2 C
     rw[C];exactλb H4 σ4 s4 h=>q' b H4 σ4 (j.trans s4) h
    .exact q'.elim
 .exact q.elim
def SV(X:Cx)(id:String)(F:Z Dat->Z Dat->C1 (Z Dat)):Prop:=NH X id (λv us H Q=>∃ A a vs ds as ds',Ux A H/\v=.ref a/\H a=some (.lst vs)/\Wm X.K (av H A) ds vs/\ML false X.K A H as us/\F ds as=some ds'/\∀ w c,ds'.length<=sizeLine->Wm X.K (av H A) ds' c->Q w (W7 H a (.lst c)))
def Q9(i:Nat)(F:Z Dat->Z Dat->C1 (Z Dat))(fs:Zzv):Ev->Fl:=λenv=>match env[i]? with
 | some (.ow ds)=>match (fs env).bind λas=>F ds as with
  | some ds'=>.next (env.set i (.ow ds'))
  | none=>.no
 | _=>.no
theorem Qf(i:Nat){x:Str}{id:String}{F:Z Dat->Z Dat->C1 (Z Dat)}(slot:Slot "list" name id)(b:typeOf (.builtin id)=pure (.type "method_descriptor"))(hm:SV X id F)(ha:Hf false X (e::es) fs)
  (hN:X.N[i]?=some x:=by rfl) (hv:MQ X.env.scope x:=by ext) (hd:C2 x:=by decide) (ai:(x==("__classdict__" : Str))=false:=by decide)
  (E:swapsWith (.Call (.Attribute (.Name x p) name ay) (e::es) [] am) none pos.line X.env=pure false:=by rfl)
  (l:attributeBase (.Name x p) name X.env (eval (.Name x p) X.env)=eval (.Name x p) X.env:=by rfl)
  (C:((backTo am (starEach (e::es) X.env)).all (λx=>!x.1)&&(backToKw am (keywordEach [] X.env)).all (λx=>x.1.isSome)
   && decide ((e::es).length+([]:Z Keyword).length+(if([]:Z Keyword).isEmpty then 0 else 1)<30))=true:=by rfl)
  (u:(ay.endLine==am.line)=true:=by rfl) (hs:Z0 X.env e es:=by rfl) (g:Z1 am X.env es:=by rfl) :
  Eo fr X (.Expr (.Call (.Attribute (.Name x p) name ay) (e::es) [] am) pos) (Q9 i F fs):=(S3 (UH EY slot b hm (Qd hN hv hd ai) ha l C u hs g) E).weak λD σ H M=>by
 obtain⟨env,B,A,k,af,q⟩:=M;unfold Q9 at q;split at q
 .rename_i ds e
  split at q
  .rename_i ds' e2
   obtain⟨as,e3,e4⟩:=bind_some e2;obtain⟨a,vs,h1,h2,h3,_⟩:=k.own af e;refine⟨.ref a,h1,.inl ⟨rfl,vs,E5.of h2⟩,env,B,A,as,k,e3,λus H2 s2 rs=>?_⟩;have k2:=k.mono s2;obtain⟨T,c,g1,g2,g3,_,_,_,_,g4,_⟩:=k2.own af e;rw[h1] at g1;cases g1;refine⟨A,a,c,ds,as,ds',k2.mu,rfl,g2,g3,rs,e4,λw r hz r2=>?_⟩;obtain⟨z1,W⟩:=g4 ds' r hz r2;exact q A _ σ ((I'.same s2).trans z1) W
  .exact q.elim
 .exact q.elim
def Wz:Z Dat->Z Dat->C1 (Z Dat)
 | ds,[d]=>if ds.length<sizeLine then some (ds++[d]) else none
 | _,_=>none
theorem Q6:SV X "list.append" Wz:=NH.weak (id:="list.append") Kt λv us H Q M=>by
 obtain⟨A,a,vs,ds,as,ds',mu,e1,h1,r1,r2,e2,q⟩:=M;unfold Wz at e2;split at e2
 .rename_i d
  split at e2
  .rename_i hl
   cases e2;obtain⟨w,h,e3,r3,e4⟩:=r2;refine⟨a,vs,w,e1,by rw[e3,show h=[] from e4],h1,by rw[Zv r1];exact hl,q _ _ (by simp;lia) (V5 r1 (Jt r3))⟩
  .cases e2
 .cases e2
end
variable{g:Ev->Fl}
inductive Rs where
 | ok (d:Dat) | exc (c:Str) (fs:List (Str×XD)) | no
def Ue(n:Nat)(ds:Z Dat):Ev:=ds.map .fz++List.replicate (n - ds.length) .un
def Yk(n p:Nat)(g:Ev->Fl):Z Dat->Rs:=λds=>if ds.length=p then(match g (Ue n ds) with
 | .ret d=>.ok d
 | .next _=>.ok .non
 | .exc _ c fs=>.exc c fs
 | _=>.no) else .no
def WS(K:KX)(fr:Bool)(p:Nat)(F:Z Dat->Rs):Sp:=λvs H Q _=>vs.length=p/\∃ ds R d,Ux R H/\Wm K (av H R) ds vs/\F ds=.ok d/\∀ v H',Zp H H'->Rp K (av H' R) d v->(fr=true->MK K ⟨H,R,true⟩ H' d v)->Q v H'
structure MZ (P:Program) (w:World) (K:KX) (mg:LO) (base:Heap) (k:Nat) (x:Str) (ps:List Str) (fr:Bool) (F:List Dat->Rs):Prop where
 cal:WN P w K mg base k x ps (WS K fr ps.length F)
 len:∀ ds d,F ds=.ok d->ds.length=ps.length
theorem SE.some{o:C1 HO}(h:SE o):∃ u,o=Option.some u:=by
 cases o with
 | none=>exact h.elim
 | some u=>exact⟨u,rfl⟩
theorem Ik{R:AS}{N:Z Str}(mu:Ux R H)(r:Wm K (av H R) ds vs)(hl:ds.length<=N.length):C' K ⟨H,R,true⟩ R H (LJ N vs) (Ue N.length ds):=by
 have hn:=Zv r;refine⟨Zp.refl H,λa h=>(mu a h).some,λ_ h=>h,λ_ h=>.inl h,mu,by simp[LJ,Ue];lia,λ_ i d=>?_,λ_ _=>False,λ_ _ _ h=>h.elim,λ_ _ h=>h.elim,λi s e=>?_⟩
 .unfold Ue
  rw[List.getElem?_append];split
  .rw[AM]
   cases ds[i]?<;>simp
  .rw[FV]
   split<;>simp
 .unfold Ue at e
  unfold LJ;rw[List.getElem?_append] at e ⊢;simp only[AB] at e ⊢;rw[hn];split at e
  .rename_i hi
   rw[AE hi];rw[AM] at e ⊢;cases hd:ds[i]? with
   | none=>rw[hd] at e;cases e
   | some d =>
    rw[hd] at e;cases e;obtain⟨v,h1,h2⟩:=E4 r hd;rw[h1];exact⟨some v,rfl,v,rfl,h2⟩
  .rename_i hi
   rw[AK hi];rw[FV] at e ⊢;split at e
   .rename_i h2
    cases e;rw[AE h2];exact⟨none,rfl,trivial⟩
   .cases e
theorem Pq{X:Cx}{N:Z Str}{p:Nat}{d:Dat}{R:AS}{Q:VK}(hp:p<=N.length)(mu:Ux R H)(r:Wm X.K (av H R) ds vs)(t:Yk N.length p g ds=.ok d)
  (q:∀ v H',Zp H H'->Rp X.K (av H' R) d v->(fr=true->MK X.K ⟨H,R,true⟩ H' d v)->Q v H') :
  tS fr X g (LP.mk (λ_ H'=>Q .non H') Q (λ_ _=>False) (λ_ _=>False)) (LJ N vs) H:=by
 unfold Yk at t;split at t
 .rename_i hl
  refine⟨Ue N.length ds,⟨H,R,true⟩,R,Ik mu r (by lia),rfl,?_⟩;split at t
  .rename_i d' e
   cases t;rw[e];exactλv H' s r n=>q v H' s r n
  .rename_i env e
   cases t;rw[e];exactλA' H' σ' s k=>q .non H' k.h0 Kr (λ_=>trivial)
  .cases t
  .cases t
 .cases t
section
variable{P:Fn}{w:Gf}{K:KX}{mg:LO}{base:G2}
theorem cC{n p:Nat}{d:Dat}(h:Yk n p g ds=.ok d):ds.length=p:=by
 unfold Yk at h;split at h
 .assumption
 .cases h
theorem iF{P:Z α->Prop}(us:Z α)(hl:us.length=0)(h:P []):P us:=by cases us with | nil=>exact h | cons _ _=>cases hl
@[elab_as_elim] theorem PZ{P:Z α->Prop}(us:Z α)(hl:us.length=1)(h:∀ a,P [a]):P us:=by
 cases us with
 | nil=>cases hl
 | cons a us=>exact iF (P:=λus=>P (a::us)) us (HH hl) (h a)
@[elab_as_elim] theorem LX{P:Z α->Prop}(us:Z α)(hl:us.length=2)(h:∀ a b,P [a,b]):P us:=by
 cases us with
 | nil=>cases hl
 | cons a us=>exact PZ (P:=λus=>P (a::us)) us (HH hl) (h a)
@[elab_as_elim] theorem MT{P:Z α->Prop}(us:Z α)(hl:us.length=3)(h:∀ a b c,P [a,b,c]):P us:=by
 cases us with
 | nil=>cases hl
 | cons a us=>exact LX (P:=λus=>P (a::us)) us (HH hl) (h a)
@[elab_as_elim] theorem QA{P:Z α->Prop}(us:Z α)(hl:us.length=4)(h:∀ a b c d,P [a,b,c,d]):P us:=by
 cases us with
 | nil=>cases hl
 | cons a us=>exact MT (P:=λus=>P (a::us)) us (HH hl) (h a)
@[elab_as_elim] theorem YZ{P:Z α->Prop}(us:Z α)(hl:us.length=5)(h:∀ a b c d e,P [a,b,c,d,e]):P us:=by
 cases us with
 | nil=>cases hl
 | cons a us=>exact QA (P:=λus=>P (a::us)) us (HH hl) (h a)
@[elab_as_elim] theorem pf{P:Z α->Prop}(us:Z α)(hl:us.length=6)(h:∀ a b c d e f,P [a,b,c,d,e,f]):P us:=by
 cases us with
 | nil=>cases hl
 | cons a us=>exact YZ (P:=λus=>P (a::us)) us (HH hl) (h a)
theorem W8{x:Str}{st:Df}{N:Z Str}(D:OR K mg x st)(S:FnScope N ps (Z7 st))
  (j:dV x st ps)
  (hb:∀ (f:A2) (ak:A1) (A:C0) (outer:Z J1) (s:A4) (H:Hp) (E:XK),J2 k (A.deeper (envOfC x (Z7 st) s.heap.objs.size f ak))->Xk fr (Tv Eu P w K mg base N x (Z7 st) f ak A outer s H E).nox (Yj st) g) :
  MZ P w K mg base (k+1) x ps fr (Yk N.length ps.length g):=by
 have ac:ps.length<=N.length:=by have:=EB List.length S.pre;rw[BN] at this;lia
 refine⟨jg D S j (λvs H Q E h=>h.1) λf ak A outer s H vs Q E hr zz=>⟨_,hb f ak A outer s H E hr,?_⟩,λds d h=>cC h⟩;obtain⟨hl,ds,R,d,mu,r,t,q⟩:=zz;exact Pq ac mu r t q
def RN(K:KX):Sp:=λvs H Q _=>∃ (a:A2) (ns:Z Int),vs=[.ref a]/\SL K H a (ns.map V.int)/\ns.length<=63/\∀ H',Q (.bl true) H'
theorem nB{x:Str}{st:Df}{f:A2}{N:Z Str}(F:MJ K x x st f fd)(S:FnScope N ps (Z7 st))(l:ps.length=1)
  (hb:∀ (ak:A1) (A:C0) (outer:Z J1) (s:A4) (H:Hp) (E:XK),J2 k (A.deeper (envOfC x (Z7 st) s.heap.objs.size f ak))->Xk false (Tv Eu P w K mg base N x (Z7 st) f ak A outer s H E).nox (Yj st) g)
  (b:∀ ns:Z Int,ns.length<=63->Yk N.length 1 g [.lst (ns.map .int)]=.ok (.bl true)):LN P w K mg base Eu (k+1) f fd ps (RN K):=by
 have ac:ps.length<=N.length:=by have:=EB List.length S.pre;rw[BN] at this;lia
 refine md F S (λvs H Q E ⟨a,ns,e,_⟩=>by rw[e,l];rfl) λak A outer s H vs Q E hr zz=>⟨_,hb ak A outer s H E hr,?_⟩;obtain⟨a,ns,e,hS,hl,q⟩:=zz
 subst e;refine Pq (R:=no) (d:=.bl true) (by lia) (λa h=>by cases h) (ds:=[.lst (ns.map .int)]) ?_ (b ns hl) λv H' _ r _=>by rw[Lj r];exact q H'
 rw[TW];refine Jt (Da ?_ hS (Mw ns));rw[AB];exact EU (Tr (by lia))
variable{X:Cx}{m:Bool}{fr:Bool}{F:Z Dat->Rs}{k:Nat}{x:Str}{ps:Z Str}{e:C3}{es:Z C3}{fs:Zzv}{p pos:Pos}
def WX:Rs->C1 Dat
 | .ok d=>some d
 | _=>none
theorem Di{r:Rs}{d:Dat}(h:WX r=some d):r=.ok d:=by cases r<;>cases h;rfl
def Y3(F:Z Dat->Rs)(fs:Zzv):Ev->C1 Dat:=λenv=>(fs env).bind λds=>WX (F ds)
theorem YU(C:MZ X.prog X.w X.K X.mg X.base k x ps fr F)(hr:J2 k X.A)(ha:Hf false X (e::es) fs)(hg:Gl X x:=by rfl)
  (l:C2 x:=by decide) (he:Z0 X.env e es:=by rfl) (ac:Z1 pos X.env es:=by rfl) :
  Wp m X (.Call (.Name x p) (e::es) [] pos) (Y3 F fs):=Wp.any ((XC C.cal hr ha hg l he ac).weak λσ H Q M=>by
 obtain⟨env,R,A,d,k,q1,q2⟩:=M;obtain⟨ds,e1,e2⟩:=bind_some q1;have e3:=Di e2;refine⟨env,R,A,ds,k,e1,λvs H1 s1 rs=>⟨by rw[Zv rs.rps];exact C.len ds d e3,ds,A,d,k.mu.mono s1,rs.rps,e3,λv H' s r _=>q2 v H' (s1.trans s) r⟩⟩)
mutual
def RH:Dat->Bool
 | .lst _=>false
 | .dct _=>false
 | .exc _ _=>false
 | .tup xs=>Ba xs
 | .non=>true
 | .bl _=>true
 | .int _=>true
 | .str _=>true
def Ba:Z Dat->Bool
 | []=>true
 | x::xs=>RH x&&Ba xs
end
theorem iu{a:A2}(mu:Ux A H)(h:Sl K H a vs):Sl K (av H A) a vs:=by
 rcases h with h | h
 .left
  have hA:A a=false:=by
   cases q:A a with
   | false=>rfl
   | true =>
    have:=mu a q;rw[h] at this;exact this.elim
  exact V4 h hA
 .exact .inr h
mutual
theorem Rp.pure(mu:Ux A H):∀ {d:Dat} {v:V},RH d=true->Rp K H d v->Rp K (av H A) d v
 | .non,v,_,r=>by rw[Xh r];exact Kr
 | .bl b,v,_,r=>by rw[Lj r];exact T3
 | .int b,v,_,r=>by rw[Mo r];exact Wc
 | .str b,v,_,r=>by obtain⟨e,h⟩:=Ob r;rw[e];exact So h
 | .lst _,v,h,_=>by cases h
 | .dct _,v,h,_=>by cases h
 | .exc _ _,v,h,_=>by cases h
 | .tup xs,v,h,r=>by
  obtain⟨a,vs,e,h1,h2⟩:=Re r;subst e;exact Bh (dg r) (iu mu h1) (Wm.pure mu (by simpa[RH] using h) h2)
theorem Wm.pure(mu:Ux A H):∀ {ds:Z Dat} {vs:Z V},Ba ds=true->Wm K H ds vs->Wm K (av H A) ds vs
 | [],vs,_,r=>by rw[Yv r];exact Ua
 | d::ds,vs,h,r=>by
  obtain⟨v,us,e,r1,r2⟩:=Y2 r;subst e;rw[Ba,AW] at h;exact Wh (Rp.pure mu h.1 r1) (Wm.pure mu h.2 r2)
end
end
section
variable{X:Cx}
end
def QR(sq:Hp->Z V->Prop):It :=
 ⟨λi H=>∃ xs x,sq H xs/\xs[i]?=some x,
  λi H v H'=>∃ p x,v=.ref p/\H p=none/\(∀ xs,sq H xs->xs[i]?=some x)/\H'=W7 H p (.tup [.int i,x]),
  λi H=>∃ xs,sq H xs/\xs.length=i⟩
theorem F'.turnedT{X:Cx}{xs:Z V}(I:F' X aa σ H s)(hf:∀ b∈ch,E7 X aa H b)
  (kk:∀ b o,b∉ch->s.heap.get? b=some o->h'.get? b=some o) (hT:s.heap.objs.size<=T) (rv:Y8 xs its) (hz:xs.length<=sizeLine) (ht:IsTup h' T its.toArray) :
  F' X aa σ (W7 H T (.tup xs)) { s with heap:=h',toks:=tk }:=by
 have hn:H T=none:=I.hok.fresh hT;have a:∀ b u,H b=some u->b∉ch:=λb u e z=>by rw[(hf b z).1] at e;cases e
 refine I.call' (ch:=ch) rfl ⟨λb o q n _ hx=>kk b o hx q,λb o q n _ hx=>⟨o.slots,kk b o hx q⟩,λb o q n hx=>?_,λb o q hx=>⟨o,kk b o hx q⟩,λb ys q=>?_,λb o u q=>?_,λb ps q=>⟨#[],?_⟩⟩ (λb u e=>?_) I.bare λb hb=>⟨(hf b hb).2.2.2.1,(hf b hb).2.1,(hf b hb).2.2.2.2.1,(hf b hb).2.2.2.2.2⟩
 .rw[Zf (BJ (AO (AN q) hT))];exact n
 .rw[Zf (Yg q hn)];exact q
 .rw[Zf (Yg q hn)];exact q
 .rw[Zf (Yg q hn),q];simp
 .by_cases hb:b=T
  .subst hb
   rw[Zn] at e;cases e;exact⟨hz,its,rv,ht⟩
  .rw[Zf hb] at e
   refine(I.hok b u e).stay (λc v hc q=>?_) (λc q=>?_) λc ys q=>?_
   .rcases hc with hc | hc
    .subst hc;exact kk c v (a c u e) q
    .exact kk c v (a c _ hc) q
   .rw[Zf (Yg q hn)];exact q
   .rw[Zf (Yg q hn)];exact q
theorem F'.turnedN{X:Cx}(I:F' X aa σ H s)(hf:∀ b∈ch,E7 X aa H b)
  (kk:∀ b o,b∉ch->s.heap.get? b=some o->h'.get? b=some o):F' X aa σ H { s with heap:=h',toks:=tk }:=by
 have a:∀ b u,H b=some u->b∉ch:=λb u e z=>by rw[(hf b z).1] at e;cases e
 refine I.call' (ch:=ch) rfl ⟨λb o q n _ hx=>kk b o hx q,λb o q n _ hx=>⟨o.slots,kk b o hx q⟩,λb o q n hx=>n,λb o q hx=>⟨o,kk b o hx q⟩,λb ys q=>q,λb o u q=>q,λb ps q=>⟨#[],by rw[q];simp⟩⟩ (λb u e=>?_) I.bare λb hb=>⟨(hf b hb).2.2.2.1,(hf b hb).2.1,(hf b hb).2.2.2.2.1,(hf b hb).2.2.2.2.2⟩
 refine(I.hok b u e).stay (λc v hc q=>?_) (λc q=>q) λc ys q=>q
 rcases hc with hc | hc
 .subst hc;exact kk c v (a c u e) q
 .exact kk c v (a c _ hc) q
theorem Ah{P:Fn}(a e it:A2)(p:Nat->G2->Prop)(N:G2->Array A1->Prop)(sq:Hp->Z V->Prop)
  (hS:∀ h h' i,p i h->(∀ o,h.get? it=some o->h'.get? it=some o)->p i h')
  (D:∀ h i,p i h->∃ o,h.get? it=some o/\o.cls≠.type "enumerate" /\ ∀ v,o.data≠.cell v)
  (hA:∀ h ac,N h ac->∃ o,h.get? a=some o/\o.cls≠.type "enumerate" /\ ∀ h' i,p i h'->∀ o',h'.get? it=some o'->o'.cls≠o.cls)
  (y:∀ A:C0,A.handled=none->a≠it->∀ ac:Array A1,Draws P w A it [it,a] ac.size (λi v=>ac[i]?=some v) (λi h=>p i h/\N h ac))
  (hg:∀ (X:Cx) (aa:LK) (σ:St) (H:Hp) (s:A4) (xs:Z V),X.K=K->F' X aa σ H s->sq H xs->∃ its,Y8 xs its/\N s.heap its.toArray)
  (hj:∀ (X:Cx) (aa:LK) (σ:St) (H:Hp) (s:A4) (xs ys:Z V),X.K=K->F' X aa σ H s->sq H xs->sq H ys->xs=ys) :
  QQ P w K (.Tuple es k pos) (QR sq) [e,it] e (λi h=>(∃ F,IsEnum h e it i F)/\p i h) where
 mem:=by simp
 obj:=λi h st b hb=>by
  rcases BA.mp hb with rfl | hb
  .obtain⟨⟨F,z⟩,_⟩:=st;exact⟨_,z,λv q=>by cases q⟩
  .rw[AI.mp hb];obtain⟨o,h1,_,h2⟩:=D h i st.2;exact⟨o,h1,h2⟩
 keep:=λi h h' st kk=>by
  obtain⟨⟨F,z⟩,q⟩:=st;exact⟨⟨F,kk e (by simp) _ z⟩,hS h h' i q λo r=>kk it (by simp) o r⟩
 item:=by
  intro X g hw f hc i aa s σ H E I hf st ah;subst g hw;obtain⟨xs,x,M,hx⟩:=ah;obtain⟨its,rv,hI⟩:=hg X aa σ H s xs f I M;obtain⟨u,hu,B⟩:=rv.get hx;obtain⟨⟨F,n⟩,j⟩:=st;obtain⟨oi,c,S,_⟩:=D _ _ j;obtain⟨oa,d,ai,R⟩:=hA _ _ hI;have ag:a≠it:=by intro z;rw[z,c] at d;cases d;exact R _ _ j _ c rfl
  have C:e≠it:=by intro z;rw[<- z,n] at c;cases c;exact S rfl
  have aj:e≠a:=by intro z;rw[<- z,n] at d;cases d;exact ai rfl
  have W:=WalksT.enumerateD (y X.A.in1 (I.ok.hd hc) ag its.toArray) e C (by simp[C,aj]) (by simp);have hi:i<its.toArray.size:=by rw[AV];exact(AG.mp hu).1
  refine W.item i s _ _ hi ⟨⟨F,n⟩,j,hI⟩ λT m h' tk ao hT am hM Y=>⟨.ref T,rfl,W.go es k pos i T _ _ _ hM λh2 af l=>?_⟩
  obtain⟨t,J,ak,rfl⟩:=ao;have ap:J=u:=by
   have:its[i]?=some J:=by simpa using ak
   rw[hu] at this;exact(BI this).symm
  subst ap;have al:IsTup h2 T #[.int i t,J]:=by
   obtain⟨o,ho,r⟩:=am;exact⟨o,l T o (W.apart i T h' hM) ho,r⟩
  have I2:=F'.turnedT (s:=s) (h':=h2) (tk:=tk) (ch:=[e,it]) (its:=[.int i t,J]) (xs:=[.int i,x]) I hf (λb o hb q=>l b o hb (Y b o hb q)) hT (.cons ⟨t,rfl⟩ (.cons B .nil)) (by show 2<=sizeLine;decide) al;refine⟨.ref T,W7 H T (.tup [.int i,x]),I2,rfl,⟨T,x,rfl,I.hok.fresh hT,λys G=>?_,rfl⟩,⟨af.1,af.2.1⟩,λb hb=>?_⟩
  .rw[hj X aa σ H s ys xs f I G M];exact hx
  .rw[Zf ?_];exact(hf b hb).1
   intro z;have ae:b<s.heap.objs.size:=by
    rcases BA.mp hb with rfl | hb
    .exact AN n
    .rw[AI.mp hb];exact AN c
   exact absurd (AO ae (by rw[z];exact hT)) (DI _)
 done:=by
  intro X g hw f hc i aa s σ H E I hf st hs;subst g hw;obtain⟨xs,M,hl⟩:=hs;obtain⟨its,rv,hI⟩:=hg X aa σ H s xs f I M;obtain⟨⟨F,n⟩,j⟩:=st;obtain⟨oi,c,S,_⟩:=D _ _ j;obtain⟨oa,d,ai,R⟩:=hA _ _ hI;have ag:a≠it:=by intro z;rw[z,c] at d;cases d;exact R _ _ j _ c rfl
  have C:e≠it:=by intro z;rw[<- z,n] at c;cases c;exact S rfl
  have aj:e≠a:=by intro z;rw[<- z,n] at d;cases d;exact ai rfl
  have W:=WalksT.enumerateD (y X.A.in1 (I.ok.hd hc) ag its.toArray) e C (by simp[C,aj]) (by simp);have hn:its.toArray.size=i:=by rw[AV,<- rv.length];exact hl
  refine W.done s _ _ (by rw[hn];exact⟨⟨F,n⟩,j,hI⟩) λh' tk Y=>⟨rfl,I.turnedN (ch:=[e,it]) hf λb o hb q=>Y b o hb q⟩
 self:=λA i s Q E st h=>by
  obtain⟨⟨F,z⟩,_⟩:=st;exact JU z h
section
variable{st:Bool}{X:Cx}{l:C3}{f:Zzu}
theorem nn(a e it:A2):QQ X.prog X.w X.K (.Tuple es tk aD) (QR λH xs=>Sl X.K H a xs) [e,it] e (λi h=>(∃ F,IsEnum h e it i F)/\h.IsTupleIter it a i) :=
 Ah a e it (λi h=>h.IsTupleIter it a i) (λh ac=>h.IsTuple a ac) _ (λh h' i q kk=>let ⟨o,h1,r⟩:=q;⟨o,kk o h1,r⟩)
  (λh i q=>let ⟨o,h1,h2,h3⟩:=q;⟨o,h1,by rw[h2];decide,λv z=>by rw[h3] at z;cases z⟩)
  (λh ac q=>let ⟨o,h1,h2,_⟩:=q;⟨o,h1,by rw[h2];decide,λh' i r o' e'=>by obtain⟨o2,g1,g2,_⟩:=r;rw[g1] at e';cases e';rw[g2,h2];decide⟩)
  (λA hh ag ac=>Draws.tupleD hh it a ag ac)
  (λY aa σ H s xs f I h=>by rw[<- f] at h;obtain⟨its,r,p,_⟩:=I.tuple h;exact⟨its,r,p⟩)
  (λY aa σ H s xs ys f I h h'=>by rw[<- f] at h h';exact I.tuple_inj h h')
theorem pG(a e it:A2):QQ X.prog X.w X.K (.Tuple es tk aD) (QR λH xs=>E5 X.K H a xs) [e,it] e (λi h=>(∃ F,IsEnum h e it i F)/\h.IsListIter it a i) :=
 Ah a e it (λi h=>h.IsListIter it a i) (λh ac=>h.IsList a ac) _ (λh h' i q kk=>let ⟨o,h1,r⟩:=q;⟨o,kk o h1,r⟩)
  (λh i q=>let ⟨o,h1,h2,h3⟩:=q;⟨o,h1,by rw[h2];decide,λv z=>by rw[h3] at z;cases z⟩)
  (λh ac q=>let ⟨o,h1,h2,_⟩:=q;⟨o,h1,by rw[h2];decide,λh' i r o' e'=>by obtain⟨o2,g1,g2,_⟩:=r;rw[g1] at e';cases e';rw[g2,h2];decide⟩)
  (λA hh ag ac=>Draws.list hh it a ag ac)
  (λY aa σ H s xs f I h=>by rw[<- f] at h;obtain⟨its,r,p,_⟩:=I.list h;exact⟨its,r,p.isList⟩)
  (λY aa σ H s xs ys f I h h'=>by rw[<- f] at h h';exact I.list_inj h h')
def Qx:Nat->Z Dat->Z Dat
 | _,[]=>[]
 | k,x::xs=>.tup [.int k,x]::Qx (k+1) xs
theorem P3:∀ (xs:Z Dat) (k i:Nat),(Qx k xs)[i]?=(xs[i]?).map λx=>.tup [.int ((k+i:Nat):Int),x]
 | [],k,i=>by simp[Qx]
 | x::xs,k,0=>by simp[Qx]
 | x::xs,k,i+1=>by
  rw[Qx,HS,HS,P3 xs (k+1) i,show k+1+i=k+(i+1) by lia]
theorem U7:∀ (xs:Z Dat) (k:Nat),(Qx k xs).length=xs.length
 | [],_=>rfl
 | x::xs,k=>by rw[Qx,BS,BS,U7 xs]
def E8(f:Zzu):Ev->C1 (Z Dat):=λenv=>(Uw f env).map (Qx 0)
theorem Nx{sq:Hp->Z V->Prop}(h:∀ m H1,QV st A H m H1->sq H1 vs)(r:Wm K (av H A) ds vs):PR st K A H (Qx 0 ds) (QR sq):=λm H1 b mu=>by
 have h1:=h m H1 b;have r1:=r.mono b.step.av;refine⟨λi x e=>?_,⟨vs,h1,by rw[U7];exact Zv r⟩⟩;rw[P3] at e;obtain⟨d,e1,e2⟩:=map_some e;subst e2;obtain⟨v,e3,e4⟩:=E4 r1 e1;refine⟨⟨vs,v,h1,e3⟩,λD H2 zz=>?_⟩;obtain⟨p,x,z1,W,z3,z4⟩:=zz;subst z1 z4;have:=z3 vs h1;rw[e3] at this;cases this;refine⟨Zp.new W,Bh (by show 2<=sizeLine;decide) (.inl (V4 Zn (mu.new W))) (Wh ?_ (Jt (e4.mono (Wl (Zp.new W)))))⟩;rw[KB];exact Wc
def mV(K:KX)(ta:TA):TI:=λσ H R=>ta σ H λvs H1=>∃ a,vs=[.ref a]/\(∃ xs,E5 K H1 a xs)/\R (QR λH xs=>E5 K H a xs) H1
def oX(K:KX)(ta:TA):TI:=λσ H R=>ta σ H λvs H1=>∃ a,vs=[.ref a]/\(∃ xs,Sl K H1 a xs)/\R (QR λH xs=>Sl K H a xs) H1
theorem bn(I:F' X aa σ H s):∀ b∈[s.heap.objs.size+1,s.heap.objs.size],E7 X aa H b:=λb hb=>by
 rcases BA.mp hb with rfl | hb
 .exact I.fpOk (DP _) (I.hok.fresh (DP _))
 .rw[AI.mp hb];exact I.fpOk (AT _) (I.hok.fresh (AT _))
theorem b6(hg:Gl X "enumerate")(hm:X.mg "enumerate" = none)(hv:bootBuiltins "enumerate" = some (.type "enumerate"))(ha:PA X [l] ta)(hs:starEach [l] X.env=[(false,eval l X.env)]:=by rfl):PI X (.Tuple es tk aD) (.Call (.Name "enumerate" p) [l] [] pos) (mV X.K ta):=by
 intro aa s σ H R I h;refine Call_ (Jj I hg hm hv (EC (V2 (ha pos aa s σ H _ I h) λus s1 zz=>?_) hs rfl));obtain⟨vs,H1,I1,r1,q1⟩:=zz;obtain⟨a,e,⟨xs,hq⟩,q⟩:=q1;subst e;obtain⟨u,rfl,B⟩:=Jg r1;cases B;obtain⟨its,rv,pl,hz⟩:=I1.list hq;refine call_enumerate_list pl.isList λh' h1 h2 h3 h4=>?_
 have I2:F' X aa σ H1 { s1 with heap:=h' }:=I1.kept (t':=s1.toks) h4;refine JU (s:={ s1 with heap:=h' }) h1 ?_;exact⟨s1.heap.objs.size+1,[s1.heap.objs.size+1,s1.heap.objs.size],_,_,H1,rfl,I2,pG a _ _,⟨⟨_,h1⟩,h2⟩,bn I1,q⟩
theorem dk(hg:Gl X "enumerate")(hm:X.mg "enumerate" = none)(hv:bootBuiltins "enumerate" = some (.type "enumerate"))(ha:PA X [l] ta)(hs:starEach [l] X.env=[(false,eval l X.env)]:=by rfl):PI X (.Tuple es tk aD) (.Call (.Name "enumerate" p) [l] [] pos) (oX X.K ta):=by
 intro aa s σ H R I h;refine Call_ (Jj I hg hm hv (EC (V2 (ha pos aa s σ H _ I h) λus s1 zz=>?_) hs rfl));obtain⟨vs,H1,I1,r1,q1⟩:=zz;obtain⟨a,e,⟨xs,hq⟩,q⟩:=q1;subst e;obtain⟨u,rfl,B⟩:=Jg r1;cases B;obtain⟨its,rv,pl,hz⟩:=I1.tuple hq;refine D9 (show s1.heap.IsTuple a its.toArray from pl) λh' h1 h2 h3 h4=>?_
 have I2:F' X aa σ H1 { s1 with heap:=h' }:=I1.kept (t':=s1.toks) h4;refine JU (s:={ s1 with heap:=h' }) h1 ?_;exact⟨s1.heap.objs.size+1,[s1.heap.objs.size+1,s1.heap.objs.size],_,_,H1,rfl,I2,nn a _ _,⟨⟨_,h1⟩,h2⟩,bn I1,q⟩
theorem L9(hm:X.mg "enumerate" = none)(h:Wp false X l f)(hg:Gl X "enumerate" := by rfl)(hv:bootBuiltins "enumerate" = some (.type "enumerate"):=by ext)(hs:starEach [l] X.env=[(false,eval l X.env)]:=by rfl):NO st X (.Tuple es tk aD) (.Call (.Name "enumerate" p) [l] [] pos) (E8 f) :=
 ((b6 hg hm hv (Yl h Vo hs) hs).or (dk hg hm hv (Yl h Vo hs) hs)).weak λσ H c M=>by
 obtain⟨env,R,A,ds,k,e,q⟩:=M;obtain⟨xs,T,e1⟩:=map_some e;subst e1;unfold Uw at T;split at T
 .rename_i ys e1
  cases T;refine .inl ⟨env,R,A,.lst xs,k,e1,λv H1 s1 p1=>?_⟩;obtain⟨a,vs,e2,h1,r1⟩:=Mm (show Rp X.K (av H1 A) (.lst xs) v from p1);subst e2;exact⟨a,rfl,⟨vs,(W5.sl h1).sq⟩,q _ H1 (by rw[U7];exact p1.pk.lenL) s1 (Nx (vs:=vs) (λm H2 b=>(W5.sl (b.step.av.sl h1)).sq) r1)⟩
 .rename_i ys e1
  cases T;refine .inr ⟨env,R,A,.tup xs,k,e1,λv H1 s1 p1=>?_⟩;obtain⟨a,vs,e2,h1,r1⟩:=Re (show Rp X.K (av H1 A) (.tup xs) v from p1);subst e2;exact⟨a,rfl,⟨vs,W5.seqT h1⟩,q _ H1 (by rw[U7];exact p1.pk.lenT) s1 (Nx (vs:=vs) (λm H2 b=>W5.seqT (b.step.av.seqT h1)) r1)⟩
 .cases T
theorem cY(hm:X.mg "enumerate" = none)(h:Wp true X l f)(hg:Gl X "enumerate" := by rfl)(hv:bootBuiltins "enumerate" = some (.type "enumerate"):=by ext)(hs:starEach [l] X.env=[(false,eval l X.env)]:=by rfl):NO false X (.Tuple es tk aD) (.Call (.Name "enumerate" p) [l] [] pos) (E8 f) :=
 ((b6 hg hm hv (Yl h Vo hs) hs).or (dk hg hm hv (Yl h Vo hs) hs)).weak λσ H c M=>by
 obtain⟨env,R,A,ds,k,e,q⟩:=M;obtain⟨xs,T,e1⟩:=map_some e;subst e1;unfold Uw at T;split at T
 .rename_i ys e1
  cases T;refine .inl ⟨env,R,A,.lst xs,k,e1,λv H1 s1 p1=>?_⟩;obtain⟨a,vs,e2,h1,r1⟩:=p1.pk.lst;subst e2;exact⟨a,rfl,⟨vs,h1.sq⟩,q _ H1 (by rw[U7];exact p1.pk.lenL) s1 (Nx (vs:=vs) (λm H2 b=>(b.2.sl h1).sq) r1)⟩
 .rename_i ys e1
  cases T;refine .inr ⟨env,R,A,.tup xs,k,e1,λv H1 s1 p1=>?_⟩;obtain⟨a,vs,e2,h1,r1⟩:=p1.pk.tup;subst e2;exact⟨a,rfl,⟨vs,h1⟩,q _ H1 (by rw[U7];exact p1.pk.lenT) s1 (Nx (vs:=vs) (λm H2 b=>b.2.seqT h1) r1)⟩
 .cases T
end
end L2
variable{I f t fI S aC:PySem.Addr}{G:Z L2.Dat->C1 (Z (PySem.Str×L2.XD))}{P:PySem.Program}{Q:C1 PySem.Value->PySem.Shared->Prop}{l:Z PySem.Env}{fs:L2.Zzv}{p2 aL:PySem.Pos}{g:L2.Ev->L2.Fl}{cd v:PySem.Value}{pl led:Bool}{ds:Z L2.Dat}{es:Array (Int×PySem.Value)}{r:L2.TJ}{ta:L2.TE}{fl:Z (PySem.Str×L2.XD)}{B:L2.Bs}{aB:LK}{c2:C1 PySem.Value}{tx:PySem.Str}{xs:Array Nat}{ep sl:Nat}{ks:Z Int}{Pv:Nat->PySem.Value->Prop}{aq:Z PySem.Str}{A':PySem.Around}{E':LM}{fa:L2.Zzu}{dss:Z (Z L2.Dat)}
namespace PySem


namespace F
theorem nolen_lr:typeLookup (.type "list_reverseiterator") "__len__" = pure none:=by rw[HA,FH];kernel_rfl
theorem hint_lr:typeLookup (.type "list_reverseiterator") "__length_hint__" = pure (some (.builtin "list_reverseiterator.__length_hint__")):=by rw[HA,FH];kernel_rfl
end F
section
variable{R:Result->A4->Prop}
variable{G:Array GenState->Array GenState->Prop}{n:Nat}{P:Nat->A1->Prop}{St:Nat->A4->Prop}
def Bo(prog:Fn)(w:Gf)(A:C0)(I:A2)(St:Nat->A4->Prop):Prop:=∀ (s:A4) (Q:Bool->A4->Prop) (E:LM),St 0 s->(∀ tk,s.toks<=tk->Q false { s with toks:=tk })->wpAny (model prog w) A (Builtin.List.listLengthHint (.ref I)) Q E s
theorem Nj(W:WalksS prog w A.in1 I fp wr G n P St)(hT:∀ i s,St i s->s.TypeIs (.ref I) T)(g:T="range_iterator" \/ T="list_reverseiterator")(hh:Bo prog w A.in1 I St)(S:A2)(res:A1)(c₀:Nat)(af:St 0 s)(m:S∉fp)(hI:I∈fp)
  (hS:s.heap.get? S=some { cls:=.type "list",data:=.seq #[] c₀ })
  (hR:∀ s' c c',Moved (S::wr) G s s'->s'.heap.get? S=some { cls:=.type "list",dict:=none,data:=.seq c c',slots:=#[] }->ItemsOf P c n->R (.ok (.ret res)) s') (hn:n<=sizeLine) :
  wpAny (model prog w) A.in1 (Builtin.List.listExtendWith (.ref S) (.ref I) res)
   (λB s'=>match B with | .done f=>R (.ok f) s' | .again c'=>c'.quiet=true/\codeAny (model prog w) A c' R s') (λe s'=>R (.error e) s') s:=by
 have a:S≠I:=λe=>m (e▸hI)
 unfold Builtin.List.listExtendWith;refine AA (FS (hT 0 _ af) ?_);have h1:Builtin.List.listSameRef (.ref S) (.ref I)=false:=by simp[Builtin.List.listSameRef,a]
 have h2:(Value.type T==Value.type "list")=false:=by rcases g with rfl | rfl<;>decide
 have h3:(Value.type T==Value.type "tuple")=false:=by rcases g with rfl | rfl<;>decide
 simp only[h1,h2,h3,IH,FE,HF];refine AA (W.self 0 _ _ _ af ?_);refine AA (BP (hh s _ _ af λtk al=>?_));rw[AK (by rcases g with rfl | rfl<;>decide)];have hst₂:=W.frame 0 _ _ tk af al λb _ o e=>e
 refine AC ⟨GU F.plain_extend_loop _,codeAny_extend_loopS W hn _ m _ n 0 _ _ _ rfl (CV _) hst₂ hS (ItemsOf.nil P) λs' c c' hm d M=>?_⟩;exact hR s' c c' (Moved.trans W.gtrans ((Moved.refl W.grefl).then_heap al λb o hb e=>e) hm) d M
theorem Ex(W:WalksS prog w A.in1 I fp wr G n P St)(hT:∀ i s,St i s->s.TypeIs (.ref I) T)(g:T="range_iterator" \/ T="list_reverseiterator")(hh:Bo prog w A.in1 I St)(S:A2)(af:St 0 s)(m:S∉fp)(hI:I∈fp)
  (hS:s.heap.get? S=some { cls:=.type "list",data:=.seq #[] })
  (hR:∀ s' c c',Moved (S::wr) G s s'->s'.heap.get? S=some { cls:=.type "list",dict:=none,data:=.seq c c',slots:=#[] }->ItemsOf P c n->R (.ok (.ret .none)) s') (hn:n<=sizeLine) :
  wpAny (model prog w) A.in1 (Builtin.«list.__init__» ⟨[.ref S,.ref I],[]⟩)
   (λB s'=>match B with | .done f=>R (.ok f) s' | .again c'=>c'.quiet=true/\codeAny (model prog w) A c' R s') (λe s'=>R (.error e) s') s:=by
 show wpAny _ A.in1 (do let F <- Builtin.List.listItems (.ref S);Builtin.List.listUpdate (.ref S) (λ_=>#[]);letGo F.toList.reverse;Builtin.List.listExtendWith (.ref S) (.ref I) .none) _ _ s;refine AA ?_;unfold Builtin.List.listItems;refine AA (GK hS rfl (AC ?_));show wpAny _ A.in1 (updateSeq S (λ_=>#[]) >>= λ_=>letGo (#[]:Array A1).toList.reverse >>= λ_=>Builtin.List.listExtendWith (.ref S) (.ref I) .none) _ _ s;refine AA (KL hS rfl ?_);have hS₂:=BH (Obj.mapSeq (λ_=>(#[]:Array A1))) hS rfl;have p:∀ b o,b≠S->s.heap.get? b=some o->(s.heap.update S (Obj.mapSeq (λ_=>(#[]:Array A1)))).get? b=some o :=
  λb o hb e=>(BB _ _ (AY hb)).trans e
 refine AA (wpAny_letGo ?_);refine Nj (hn:=hn) W hT g hh S .none _ (W.frame 0 s _ s.toks af (AT _) λb hb o e=>p b o (λh=>m (h▸hb)) e) m hI hS₂ λs' c c' hm d M=>?_
 exact hR s' c c' (Moved.trans W.gtrans ((Moved.refl W.grefl).then_heap (AT _) λb o hb e=>p b o (λh=>hb (h▸AX)) e) hm) d M
end
section
variable{n:Nat}{P:Nat->A1->Prop}{St:Nat->A4->Prop}
theorem Ar{Q:LM}(W:WalksS prog w A.in1.in1 I fp wr (λa b=>b=a) n P St)(hT:∀ i s,St i s->s.TypeIs (.ref I) T)(g:T="range_iterator" \/ T="list_reverseiterator")(hh:Bo prog w A.in1.in1 I St)(af:St 0 s)(x:∀ b∈fp,b<s.heap.objs.size)(hI:I∈fp)
  (j:∀ h' tk c c',(∀ b o,b∉wr->s.heap.get? b=some o->h'.get? b=some o)->h'.get? s.heap.objs.size=some { cls:=.type "list",dict:=none,data:=.seq c c',slots:=#[] }->ItemsOf P c n->Q (.ref s.heap.objs.size) { s with heap:=h',toks:=tk }) (hn:n<=sizeLine) :
  wpAny (model prog w) A (call (.type "list") [.ref I]) Q E s:=by
 have m:s.heap.objs.size∉fp:=λhm=>DI _ (x _ hm)
 refine callType_codes (Q₁:=λobj s₁=>obj=.ref s.heap.objs.size/\s₁={ s with heap:=s.heap.push { cls:=.type "list",data:=.seq #[] } }) F.called_list (F.typeCall_list_1 _) F.entry_list_init
  (code_list_new _ ⟨rfl,rfl⟩) λobj s₁ h₁=>?_
 obtain⟨rfl,rfl⟩:=h₁;have hS:(s.heap.push { cls:=.type "list",data:=.seq #[] }).get? s.heap.objs.size=some { cls:=.type "list",data:=.seq #[] }:=AU _ rfl;refine⟨⟨_,hS,rfl⟩,F.args_list_init_2 _ _,Ex (hn:=hn) W hT g hh _ (W.frame 0 s _ s.toks af (AT _) λb _ o e=>AD _ e) m hI hS λs' c c' hm d M=>?_⟩;refine⟨rfl,?_⟩;rw[KZ hm];refine j s'.heap s'.toks c c' (λb o hb e=>hm.heap b o (λu=>?_) (AD _ e)) d M;rcases BA.mp u with e' | u
 .exact absurd (AN e) (by rw[e'];exact DI _)
 .exact hb u
end
theorem eh(it:A2)(St:Nat->A4->Prop)(hT:∀ s,St 0 s->s.TypeIs (.ref it) "list_reverseiterator"):Bo prog w A it St:=λs Q E af j=>by
 unfold Builtin.List.listLengthHint;refine AA (IU (hT s af) F.nolen_lr ?_);show wpAny _ _ (specialOf (Value.ref it) (Str.ofString "__length_hint__") >>= _) _ _ _;refine AA (IU (hT s af) F.hint_lr ?_)
 (generalize a:("list_reverseiterator.__length_hint__" : String)=c;(fail_if_success (clear a c));wp_delta;rw[show splitId c=some ("list_reverseiterator","__length_hint__") from by subst a;decide +kernel];subst a)
 refine AA (GR (b:=true) (hT s af) (by rw[JG];kernel_rfl) ?_);exact AC (j s.toks (AT _))
theorem Sj{l h:A2}(hh:A.handled=some (.ref h))(S:L2.ChX s.heap h)(c:s.heap.IsRevIter it l (-1))
   (j:∀ h',ExtBut it s.heap h'->Q none { s with heap:=h' }):wpAny (model prog w) A (pyNext (.ref it)) Q E s:=by
 obtain⟨o,ho,hc,hd⟩:=id c;unfold pyNext;refine AA (GV (CL (name:=Str.ofString "__next__") c.typeIs F.slot_lri_next
   (BY F.slot_lri_next c.typeIs F.entry_lri_next ?_ (F.args_lri_next_1 _))))
 unfold Builtin.«list_reverseiterator.__next__»;refine AA (ES (a:=(Value.ref it,[])) rfl ?_);try dsimp only
 refine AA (CH ho hd (x:=rawInt (-1)) rfl ?_);show wpAny _ _ (if(-1:Int)<0 then _ else _) _ _ s;rw[AE (by decide)];refine AA (HQ ?_);first
 | show wpAny _ _ (newExc (.type "StopIteration") [] >>= _) _ _ _
 | (refine AA ?_;show wpAny _ _ (newExc (.type "StopIteration") [] >>= _) _ _ _)
 refine AA ?_;simp only[newExc,newTuple];refine AA (BO ?_ (by size_fits));refine AA (m:=firstArgMember _ _) (ES (a:=Value.none) (by first | rfl | (simp only[firstArgMember];rfl)) ?_);refine BO ?_ (by size_fits);refine L2.Z0o (A:=A.in1) (h:=h) (h0:=s.heap) hh (AU _ rfl) rfl (by simp;lia) S (λa o' v x a1 a2 a3=>⟨AD _ (AD _ a1),λz=>?_⟩) ?_
 · have ae:=AN a1
   rw[z] at ae;exact absurd ae (FD.mpr (by first | (rw[EX];exact DP _) | (show _<=(Heap.push _ _).objs.size;rw[EX];exact DP _)))
 refine AA (GR (T:="StopIteration") (b:=true) ⟨_,BH _ (AU _ rfl) rfl,rfl⟩ KO ?_);refine AC (j _ λb ob hb eo=>?_);have u:=AN eo;refine(BB _ _ ?_).trans (AD _ (AD _ eo));intro z;rw[<- z] at u;exact absurd u (FD.mpr (by first | (rw[EX];exact DP _) | (show _<=(Heap.push _ _).objs.size;rw[EX];exact DP _)))
def WQ(A:C0)(hs:LK):Prop:=A.handled=none\/∃ e,A.handled=some (.ref e)/\∀ h:G2,(∀ p∈hs,h.get? p.1=some p.2)->L2.ChX h e
theorem dY(k:L2.HdS A h):∃ hs:Z (A2×Obj),WQ A hs/\∀ p∈hs,h.get? p.1=some p.2/\∃ v x,p.2.data=.fields v/\v[2]?=some x:=by
 rcases k with z | ⟨e,z,oe,ve,h1,h2,h3 | ⟨e2,o2,f,h3,h4,h5,h6⟩⟩
 .exact⟨[],.inl z,λp hp=>by cases hp⟩
 .exact⟨[(e,oe)],.inr ⟨e,z,λh' k=>⟨oe,ve,k _ (AI.mpr rfl),h2,.inl h3⟩⟩,λp hp=>by rw[AI.mp hp];exact⟨h1,ve,_,h2,h3⟩⟩
 .refine⟨[(e,oe),(e2,o2)],.inr ⟨e,z,λh' k=>⟨oe,ve,k (e,oe) (by simp),h2,.inr ⟨e2,o2,f,h3,k (e2,o2) (by simp),h5,h6⟩⟩⟩,λp hp=>?_⟩
  rcases BA.mp hp with rfl | hp
  .exact⟨h1,ve,_,h2,h3⟩
  .rw[AI.mp hp];exact⟨h4,f,_,h5,h6⟩
theorem Walks.listH(hs:LK)(hh:WQ A hs)(I c:A2)(ag:c≠I)(hn:∀ p∈hs,p.1≠I)(ac:Array A1) :
  Walks prog w A I (I::c::hs.map (·.1)) [I] ac.size (λi v=>ac[i]?=some v) (λi h=>(h.IsListIter I c i/\h.IsList c ac)/\∀ p∈hs,h.get? p.1=some p.2) where
 sub:=λb hb=>by simp at hb;simp[hb]
 frame:=λ_ _ _ st Y=>⟨⟨st.1.1.at λo e=>Y I (by simp) o e,st.1.2.at λo e=>Y c (by simp) o e⟩,λp hp=>Y p.1 (AR _ (AR _ (GI hp))) p.2 (st.2 p hp)⟩
 item:=λi s Q E hi st j=>by
  refine IE st.1.1 st.1.2 (x:=ac[i]) (by simp[hi]) λh' d F=>?_
  exact j _ h' s.toks (by simp[hi]) ⟨⟨d,st.1.2.extBut F.extBut ag⟩,λp hp=>(F.2 p.1 (hn p hp)).trans (st.2 p hp)⟩ λb o hb e=>F.extBut b o (λh=>hb (by simp[h])) e
 done:=λs Q E st j=>by
  rcases hh with hh | ⟨e,hh,hc⟩
  .exact IL hh st.1.1 st.1.2 (by simp) λh' a=>j h' s.toks λb o hb e=>a b o (λh=>hb (by simp[h])) e
  .exact L2.Xb hh (hc _ st.2) st.1.1 st.1.2 (by simp) λh' a=>j h' s.toks λb o hb e=>a b o (λh=>hb (by simp[h])) e
 self:=λ_ _ _ _ st j=>wpAny_pyIter_listiter st.1.1 j
theorem Walks.listRevH(hs:LK)(hh:WQ A hs)(I l:A2)(ag:l≠I)(hn:∀ p∈hs,p.1≠I)(ac:Array A1) :
  Walks prog w A I (I::l::hs.map (·.1)) [I] ac.size (λi v=>ac[ac.size - 1 - i]?=some v) (λi h=>i<=ac.size/\h.IsRevIter I l ((ac.size:Int) - 1 - (i:Int))/\h.IsList l ac/\∀ p∈hs,h.get? p.1=some p.2) where
 sub:=λb hb=>by simp at hb;simp[hb]
 frame:=λ_ _ _ x Y=>⟨x.1,x.2.1.at λo e=>Y I (by simp) o e,x.2.2.1.at λo e=>Y l (by simp) o e,λp hp=>Y p.1 (AR _ (AR _ (GI hp))) p.2 (x.2.2.2 p hp)⟩
 item:=λi s Q E hi x j=>by
  have e:(ac.size:Int) - 1 - (i:Int)=((ac.size - 1 - i:Nat):Int):=by lia
  have c:=x.2.1;rw[e] at c;have hx:ac[ac.size - 1 - i]?=some (ac[ac.size - 1 - i]'(by lia)):=CC (by lia);refine wpAny_pyNext_rev_item c x.2.2.1 hx λh' d F=>?_
  have e2:((ac.size - 1 - i:Nat):Int) - 1=(ac.size:Int) - 1 - ((i+1:Nat):Int):=by lia
  rw[e2] at d;exact j _ h' s.toks hx ⟨hi,d,x.2.2.1.at λo eo=>(F.2 l ag).trans eo,λp hp=>(F.2 p.1 (hn p hp)).trans (x.2.2.2 p hp)⟩ λb o hb eo=>F.extBut b o (λh=>hb (by simp[h])) eo
 done:=λs Q E x j=>by
  have e:(ac.size:Int) - 1 - (ac.size:Int) = -1:=by lia
  have c:=x.2.1;rw[e] at c;rcases hh with hh | ⟨e,hh,hc⟩
  .exact wpAny_pyNext_rev_end hh c λh' a=>j h' s.toks λb o hb eo=>a b o (λh=>hb (by simp[h])) eo
  .exact Sj hh (hc _ x.2.2.2) c λh' a=>j h' s.toks λb o hb eo=>a b o (λh=>hb (by simp[h])) eo
 self:=λ_ _ _ _ x j=>wpAny_pyIter_revIter x.2.1 j
end PySem
variable{aI:Bool}{T:PySem.Addr}{ix:PySem.Expr}
namespace L2
open PySem PySem.Spec PyProof.Rows
section
variable{X:Cx}{f:Zzu}
theorem Yy(h:G2)(o:Obj):(h.push o).objs.size=h.objs.size+1:=by cases h;exact Array.size_push ..
def QY(fs:Zzv):Ev->C1 (Z Dat):=λenv=>match fs env with
 | some [.lst xs]=>some xs.reverse
 | _=>none
theorem Y8.rev:∀ {xs:Z V} {us:Z A1},Y8 xs us->Y8 xs.reverse us.reverse
 | [],[],_=>.nil
 | x::xs,u::us,.cons h r=>by rw[IN,IN];exact(Y8.rev r).append (.cons h .nil)
theorem jK{p1 q1 q2:Pos}(j:Gl X "list")(m:X.mg "list" = none)(r:Gl X "reversed")(z:X.mg "reversed" = none)(ha:Hf true X [e] fs)(hc:ND X:=by first | exact ND.calm rfl | (exact MU.n ‹_›) | assumption)
   (E:bootBuiltins "list" = some (.type "list"):=by ext) (F:bootBuiltins "reversed" = some (.type "reversed"):=by ext)
   (x:starEach [.Call (.Name "reversed" p2) [e] [] q2] X.env=[(false,eval (.Call (.Name "reversed" p2) [e] [] q2) X.env)]:=by rfl)
   (G:starEach [e] X.env=[(false,eval e X.env)]:=by rfl) :
   MS X (.Call (.Name "list" p1) [.Call (.Name "reversed" p2) [e] [] q2] [] q1) (QY fs):=by
 intro aa s σ H Q I ⟨env,R,A,ds,k,e1,q⟩;unfold QY at e1;split at e1
 case h_2=>cases e1
 rename_i xs P;cases e1;refine Call_ (Jj I j m E (callWith_type1 ?_ x rfl));rw[x];refine JJ ?_;refine Call_ (Jj I r z F (callWith_type1 (V2 (ha q2 aa s σ H (λvs H1=>∃ v,Zp H H1/\vs=[v]/\Pk X.K A H1 (.lst xs) v) I ⟨env,R,A,[.lst xs],k,P,λvs H1 s1 r1=>?_⟩) λus s1 ⟨vs,H1,I1,r1,v,sm,ev,pv⟩=>?_) G rfl))
 · obtain⟨v,e3,p1⟩:=r1.one
   exact⟨v,s1,e3,p1⟩
 subst ev;obtain⟨a,ys,ea,h1,r2⟩:=pv.lst;subst ea;obtain⟨u,rfl,B⟩:=Jg r1;cases B;obtain⟨its,h,pl,hz⟩:=I1.list h1.sq;refine call_reversed_list pl.isList ?_;refine JS ?_;have ae:=I1.hok;obtain⟨oa,d,_⟩:=id pl.isList;have ag:a≠s1.heap.objs.size:=BJ (AN d);obtain⟨hs,g,t⟩:=dY (show HdS X.A.in1.in1 s1.heap from hc _ _ _ _ I1);have f:∀ p∈hs,s1.heap.get? p.1=some p.2:=λp hp=>(t p hp).1
 have ap:∀ p∈hs,p.1≠s1.heap.objs.size:=λp hp=>BJ (AN (f p hp))
 have W:=(Walks.listRevH (prog:=X.prog) (w:=X.w) (A:=X.A.in1.in1) hs g s1.heap.objs.size a ag ap its.toArray).toS;have J:=h.length;refine Ar W (T:="list_reverseiterator") (λi s st=>st.2.1.typeIs) (.inr rfl) (eh _ _ λs st=>st.2.1.typeIs) ⟨CV _,?_,pl.isList.at λo eo=>AD _ eo,λp hp=>AD _ (f p hp)⟩ ?_ (by simp) ?_ ?_
 · refine⟨_,AU _ rfl,rfl,?_⟩
   simp[revObj]
 · intro b hb
   rcases BA.mp hb with rfl | hb
   · rw[Yy];exact ED _
   · rcases BA.mp hb with rfl | hb
     · exact AO (AN d) (by rw[Yy];lia)
     · obtain⟨p,hp,rfl⟩:=CS.mp hb
       exact AO (AN (f p hp)) (by rw[Yy];lia)
 · intro h' tk c c' Y hl hi
   have kp:∀ b o,s1.heap.get? b=some o->h'.get? b=some o:=λb o C=>Y b o (λhm=>by
     have ae:=AN C;rw[AI.mp hm] at ae;exact DI _ ae) (AD _ C)
   have D:c.toList=its.reverse:=by
     apply List.ext_getElem?;intro i;by_cases y:i<its.length
     · have M:i<c.size:=by rw[hi.1];simpa using y
       have:=hi.2 i c[i] (by simp[M]);rw[EN,CC M,List.getElem?_reverse y];simpa using this.symm
     · rw[EJ (l:=c.toList) (by rw[BF,hi.1];simpa using y),EJ (l:=its.reverse) (by rw[JB];exact IJ y)]
   generalize hS:({ heap:=s1.heap.push (revObj a ((its.toArray.size:Int) - 1)),gens:=s1.gens,drawn:=s1.drawn,toks:=s1.toks,os:=s1.os }:A4).heap.objs.size=S at hl ⊢;have N:s1.heap.objs.size<=S:=by
     rw[<- hS];show _<=(Heap.push _ _).objs.size;rw[Yy];exact DP _
   have I2:F' X aa σ (W7 H1 S (.lst ys.reverse)) { s1 with heap:=h',toks:=tk }:=I1.laid kp N (show Yr X.prog X.w _ h' _ (.lst ys.reverse) from⟨by rw[JB];exact hz,c.toList,c',by rw[D];exact h.rev,by rw[Array.toArray_toList];exact hl⟩);exact⟨.ref S,_,I2,rfl,(q.mono sm).at (vs:=ys.reverse) (by rw[JB,<- Zv r2];exact hz) (jr r2) _ (I1.hok.fresh N)⟩
 · rw[AV,<- J];exact hz
def Pb:Z Dat->C1 Dat
 | [.int i]=>some (.int i)
 | [.bl b]=>some (.int (if b then 1 else 0))
 | _=>none
theorem Aj:Im X (.type "int") Pb:=mH.weak λvs H Q M=>by
 obtain⟨A,ds,d,mu,e,p,q⟩:=M;unfold Pb at e;split at e
 .obtain⟨v,e1,p1⟩:=p.one
  cases e;exact .inl ⟨_,by rw[e1,p1.int],q.here Wc⟩
 .obtain⟨v,e1,p1⟩:=p.one
  cases e;exact .inr ⟨_,by rw[e1,p1.bl],q.here Wc⟩
 .cases e
def US:Dat->Dat->C1 Dat
 | .str x,.int k=>if 1<=k/\k<=1000/\x.length<=1000 then some (.str (Txt.mul x k)) else none
 | _,_=>none
theorem ZS(x:Array α)(c:α):∀ (n:Nat) (B:Array α),c∈(List.replicate n x).foldl (·++·) B->c∈B\/c∈x
 | 0,B,h=>.inl h
 | n+1,B,h=>by
  rw[List.replicate_succ,List.foldl_cons] at h;rcases ZS x c n _ h with h | h
  .rcases Array.mem_append.mp h with h | h
   .exact .inl h
   .exact .inr h
  .exact .inr h
theorem ju{x:Str}{k:Int}(h:PyData.strOk x=true):PyData.strOk (Txt.mul x k)=true:=by
 unfold Txt.mul;split
 .unfold PyData.strOk Str.empty;simp
 .split
  .exact h
  .unfold PyData.strOk at h ⊢
   rw[JL] at h ⊢;intro c hc;rcases ZS x.cps c _ _ hc with z | z
   .simp at z
   .exact h c z
theorem im:Sr X (binaryOp .Mult) US:=λaa s σ H x y v u Q I S m M=>by
 obtain⟨A,a,b,d,mu,e,p1,p2,q⟩:=M;unfold US at e;split at e
 .rename_i z k
  split at e
  .rename_i hz
   cases e;obtain⟨e1,k1⟩:=p1.str;have e2:=p2.int;subst e1 e2;obtain⟨t,rfl⟩:=S;obtain⟨t',rfl⟩:=m;have hl:(Txt.mul z k).length<=1000*1000:=len_mul_leN hz.2.2 hz.2.1;refine SB.mul (mulOk_of 1000 1000 hz.2.2 hz.2.1 (by lia) (by decide) (by decide)) λt' k'=>⟨.str (Txt.mul z k),H,I.tok _,⟨_,rfl⟩,q.here (So (MD.of (ju k1.ok) (BC hl (by decide))))⟩
  .cases e
 .cases e
def Gi:Dat->Dat->C1 Dat
 | .int i,.int j=>YQ (.int i) (.int j)
 | .str x,.int k=>US (.str x) (.int k)
 | _,_=>none
theorem Sz:Sr X (binaryOp .Mult) Gi:=Sr.or j' im λx y d e=>by
 unfold Gi at e;split at e
 .exact .inl e
 .exact .inr e
 .cases e
end
end L2
namespace L2
open PySem
section
variable{g:Array GenState}{d:Drawn}{t:Nat}{os:OsState}
variable{nm q:Str}{N:A2}{bs aF:Z A1}{sub:Z A1}{aM:String}
theorem Xo(T:OwnTail h [.type "ValueError",.type "Exception",.type "BaseException",.type "object"] bm){e t0:A2}{x:A1}{Q:LM}
  (hC:h.get? C=some (excClassObj nm q C N bs bm hdct sn sub ab col dd k0 k1 k2 k3 k5 newId)) (he:h.get? e=some { cls:=.ref C,dict:=dct,data:=.fields #[.ref t0,.none,.none,.none,.bool false,.none] })
  (hq:∀ h',h'.get? e=some { cls:=.ref C,dict:=dct,data:=.fields #[.ref h.objs.size,.none,.none,.none,.bool false,.none] }->(∀ b o,b≠e->h.get? b=some o->h'.get? b=some o)->h.objs.size<=h'.objs.size->Q .none ⟨h',g,d,t,os⟩) :
  wpAny (model prog w) A (call (.builtin "ValueError.__init__") [.ref e,x]) Q E ⟨h,g,d,t,os⟩:=by
 have F:=EI;refine FL (EW F.init.plain F.initEntry (wpAny_check_init_subU F T hC he rfl ?_));have a:=AD { cls:=.type "tuple",data:=.seq #[x] } he
 wp_walk
 refine hq _ ?_ ?_ ?_
 .rw[BH _ a rfl]
  rfl
 .intro b o hb c
  rw[BB _ _ (AY hb)];exact AD _ c
 .rw[Heap.size_after_update,EX];exact DP _
end
end L2
namespace L2
open PySem PySem.Spec PyProof.Rows PySem.W
open PySem.Builtin PySem.Builtin.ObjectAttr
def Qi:Z A1:=[.type "ValueError",.type "Exception",.type "BaseException",.type "object"]
section
variable{K:Frag}{x a b:A2}{cd:ClassData}{R:Result->A4->Prop}
theorem ZB{g:Obj}{od:C1 Obj}(X:K.In s.heap)(I:InstAt s.heap x g C od)(hc:clsIn K C=some cd)(hm:cd.mro=.ref a::.ref b::Qi)(ha:findIn K (.ref C) name=some none)
  (h:wpAny (model prog w) A.in1 (storeInOwnDict (.ref x) (.ref C) (.str name tk) name v false)
   (λB s'=>match B with | .done f=>R (.ok f) s' | .again c'=>c'.quiet=true/\codeAny (model prog w) A c' R s') (λe s'=>R (.error e) s') s) :
  codeAny (model prog w) A (.call (.builtin "object.__setattr__") ⟨[.ref x,.str name tk,v],[]⟩) R s:=by
 have c:=PySem.F.store_object;have sub:Looks (model prog w) s.heap (isInstance (.ref x) (.type "object")) true:=I.type.andThen (looks_mroIn X (by unfold mroIn;rw[hc,Option.bind_some,hm];rfl));refine EW c.slot.plain c.entry (@check_slot (model prog w) _ _ s "object.__setattr__" "object" "__setattr__" (.ref x) [.str name tk,v] [] _ c.kind c.split sub (c.args (.ref x) (.str name tk) v) ?_);have d:Looks (model prog w) s.heap (mroOf (.ref C)) cd.mro:=(looks_clsIn X hc).andThen .now;rw[osa_eq,refuse_eq];refine AA (AA (I.type.here (AA (d.here ?_))));rw[hm,refuseLoop_ref,refuseLoop_ref,show Qi=[.type "ValueError",.type "Exception",.type "BaseException",.type "object"] from rfl,PySem.F.store_ValueError.passes];refine AC (AA (I.type.here (AA ((looks_findIn X ha).here (AA ?_)))));exact AC h
end
section
variable{g:Array GenState}{d:Drawn}{t:Nat}{os:OsState}{x:A2}{oC:Obj}{cd:ClassData}
theorem eZ{o:Obj}{Q:Fin->A4->Prop}(hx:h.get? x=some o)(hc:o.cls=.ref C)(f:∀ c,o.data≠.cls c)(u:o.dict=none)(hC:h.get? C=some oC)(ai:oC.data=.cls cd)(J:cd.hasDict=true)
   (hq:∀ h' r,h'.get? x=some { cls:=o.cls,dict:=some h.objs.size,data:=o.data,slots:=o.slots }->h'.Ns1 h.objs.size (λy=>if y=name then some v else none)->(∀ b ob,b≠x->h.get? b=some ob->h'.get? b=some ob)->h.objs.size<h'.objs.size->Q (.done (.ret .none)) ⟨h',g,d,r,os⟩) :
   wpAny (model prog w) A (storeInOwnDict (.ref x) (.ref C) (.str name tk) name v false) Q E ⟨h,g,d,t,os⟩:=by
 unfold storeInOwnDict;repeat (first | (with_reducible refine BE hx ?_;rw[hc]) | with_reducible refine BE hC ?_ | wp_step)
 rw[ai];refine AC ?_;rw[J,AK (by decide),u];show wpAny _ _ (if(!true||!typeHasDict (Value.ref C))=true then pure none else _) _ _ _;rw[AK (by simp[typeHasDict])];have hx₁:(h.push { cls:=.type "dict",data:=.dict #[] }).get? x=some o:=AD _ hx;have am:x≠h.objs.size:=BJ (AN hx);split
 · rename_i c k
   exact absurd k (f c)
 · refine AA (wpAny_alloc' ?_)
   refine AA (wpAny_update' hx₁ ?_);refine AC ?_;have m:((h.push { cls:=.type "dict",data:=.dict #[] }).update x λo=>{ cls:=o.cls,dict:=some h.objs.size,data:=o.data,slots:=o.slots }).get? h.objs.size
       = some { cls:=.type "dict",data:=.dict #[] } :=
     (Heap.get?_update_ne _ _ _ _ am.symm).trans (Heap.get?_push_at rfl rfl)
   have aa:((h.push { cls:=.type "dict",data:=.dict #[] }).update x λo=>{ cls:=o.cls,dict:=some h.objs.size,data:=o.data,slots:=o.slots }).Ns h.objs.size (λ_=>none) :=
     ⟨_,#[],_,m,rfl,λe he=>absurd he (by simp),λ_=>rfl⟩
   show wpAny _ _ (storeInDict h.objs.size (.str name tk) name v) _ _ _;unfold storeInDict newKeyGuard;refine AA (AC (AA (wpAny_nsSet1 (Heap.Ns1.of_empty aa) λh' B hs=>?_)));obtain⟨R,q,s,a,j,l⟩:=B.count (Within.cons name v Within.nil);refine AA (wpAny_lookBehind a (by rw[j];exact pastItsLine_dict (BC l (by rw[BS,KJ,DQ];lia))) ?_)
   wp_walk
   have ak:h'.get? x=some { cls:=o.cls,dict:=some h.objs.size,data:=o.data,slots:=o.slots }:=by
     refine(hs.2 x am).trans (BH _ hx₁ ?_);have ag:=(Heap.get?_some_iff.mp hx).2;obtain⟨oc,od,p,i⟩:=o;cases p<;>first | rfl | exact ag
   refine hq h' _ ak B (λb ob n hb=>?_) ?_
   · exact(hs.2 b (BJ (AN hb))).trans ((Heap.get?_update_ne _ _ _ _ n).trans (AD _ hb))
   · have h1:=hs.1
     rw[Heap.size_after_update,EX] at h1;lia
theorem gp{o:Obj}{ns:Z Str}{Q:Fin->A4->Prop}(hx:h.get? x=some o)(hc:o.cls=.ref C)(m:o.dict=some dx)(p:h.Ns1 dx mA)(hw:Within mA ns)(hsz:ns.length<=1000)(hC:h.get? C=some oC)(ai:oC.data=.cls cd)(J:cd.hasDict=true)
   (hq:∀ h' r,h'.Ns1 dx (λy=>if y=name then some v else mA y)->(∀ b ob,b≠dx->h.get? b=some ob->h'.get? b=some ob)->h.objs.size<=h'.objs.size->Q (.done (.ret .none)) ⟨h',g,d,r,os⟩) :
   wpAny (model prog w) A (storeInOwnDict (.ref x) (.ref C) (.str name tk) name v false) Q E ⟨h,g,d,t,os⟩:=by
 unfold storeInOwnDict;repeat (first | (with_reducible refine BE hx ?_;rw[hc]) | with_reducible refine BE hC ?_ | wp_step)
 rw[ai];refine AC ?_;rw[J,AK (by decide),m];refine AC ?_;show wpAny _ _ (storeInDict dx (.str name tk) name v) _ _ _;unfold storeInDict newKeyGuard;refine AA (AC (AA (wpAny_nsSet1 p λh' B hs=>?_)));obtain⟨R,q,s,a,j,l⟩:=B.count (Within.cons name v hw);refine AA (wpAny_lookBehind a (by rw[j];exact pastItsLine_dict (BC l (by rw[BS,DQ];lia))) ?_)
 wp_walk
 exact hq h' _ B (λb ob n hb=>(hs.2 b n).trans hb) (by have h1:h'.objs.size=h.objs.size:=hs.1;lia)
end
open PySem.Builtin PySem.Builtin.ObjectAttr
section
variable{g:Array GenState}{d:Drawn}{t:Nat}{os:OsState}{x:A2}{oC o:Obj}{cd:ClassData}{K:Frag}
theorem n3{Q:Fin->A4->Prop}(X:K.In h)(hx:h.get? x=some o)(hc:o.cls=.ref C)(f:∀ c,o.data≠.cls c)(m:o.dict=some dx)(p:h.Ns1 dx mA)(hv:mA name=some v)
   (hf:findIn K (.ref C) name=some none) (hC:h.get? C=some oC) (ai:oC.data=.cls cd) (J:cd.hasDict=true) (hq:Q (.done (.ret v)) ⟨h,g,d,t,os⟩) :
   wpAny (model prog w) A (Builtin.«object.__getattribute__» ⟨[.ref x,.str name tk],[]⟩) Q E ⟨h,g,d,t,os⟩:=by
 have b:=looks_findIn (M:=model prog w) X hf;unfold Builtin.«object.__getattribute__»;repeat (first | (with_reducible refine BE hx ?_;rw[hc]) | with_reducible refine b.at ?_ | wp_step)
 split
 · rename_i c k
   exact absurd k (f c)
 unfold instanceDict;repeat (first | (with_reducible refine BE hx ?_;rw[hc]) | with_reducible refine BE hC ?_ | wp_step)
 rw[ai];refine AC ?_;rw[J,AK (by decide),m];refine AC ?_;unfold inDict;repeat (first | (with_reducible refine wpAny_nsGet p.ns ?_;rw[hv]) | wp_step)
 exact hq
theorem lA{R:Result->A4->Prop}(X:K.In h)(hx:h.get? x=some o)(hc:o.cls=.ref C)(f:∀ c,o.data≠.cls c)(m:o.dict=some dx)(p:h.Ns1 dx mA)(hv:mA name=some v)
  (hf:findIn K (.ref C) name=some none) (hC:h.get? C=some oC) (ai:oC.data=.cls cd) (J:cd.hasDict=true) (G:Looks (model prog w) h (isInstance (.ref x) (.type "BaseException")) true) (hq:R (.ok (.ret v)) ⟨h,g,d,t,os⟩) :
  codeAny (model prog w) A (.call (.builtin "BaseException.__getattribute__") ⟨[.ref x,.str name tk],[]⟩) R ⟨h,g,d,t,os⟩:=by
 have Y:builtinKind "BaseException.__getattribute__" = some .slot:=by ext
 have a:splitId "BaseException.__getattribute__" = some ("BaseException","__getattribute__"):=by ext
 refine EW PySem.F.excAttr_ValueError.ga.plain PySem.F.entry_bexc_ga (@check_slot (model prog w) _ _ ⟨h,g,d,t,os⟩ "BaseException.__getattribute__" "BaseException" "__getattribute__" (.ref x) [.str name tk] [] _ Y a G (PySem.F.args_bexc_ga (.ref x) (.str name tk)) ?_);exact n3 X hx hc f m p hv hf hC ai J hq
theorem gu{a:Bool}{Q:LM}(X:K.In h)(hx:h.get? x=some o)(hc:o.cls=.ref C)(f:∀ c,o.data≠.cls c)(m:o.dict=some dx)(p:h.Ns1 dx mA)(hv:mA name=some v)
   (hf:findIn K (.ref C) name=some none) (hC:h.get? C=some oC) (ai:oC.data=.cls cd) (J:cd.hasDict=true) (G:Looks (model prog w) h (isInstance (.ref x) (.type "BaseException")) true)
   (e:findIn K (.ref C) "__getattribute__" = some (some (.builtin "BaseException.__getattribute__"))) (i:findIn K (.ref C) "__getattr__" = some none) (hh:handedOut v=pure v) (hq:Q v ⟨h,g,d,t+1,os⟩) :
   wpAny (model prog w) A (getAttr (.ref x) name a) Q E ⟨h,g,d,t,os⟩:=by
 have b:=looks_findIn (M:=model prog w) X e;have L2:=looks_findIn (M:=model prog w) X i;have f3:=PySem.F.excAttr_ValueError.ga.bind (.ref x);have hx0:(a&&onTheHeap (Value.builtin "BaseException.__getattribute__"))=false:=by cases a<;>rfl
 have j:(Value.builtin "BaseException.__getattribute__" == Value.builtin "object.__getattribute__")=false:=by ext
 have k:(onTheHeap (Value.ref C)&&Value.builtin "BaseException.__getattribute__" == Value.builtin "object.__getattribute__")=false:=by rw[j];rfl
 unfold getAttr;repeat (any_goals (first | assumption | (with_reducible refine BE hx ?_;rw[hc]) | with_reducible refine b.at ?_ | with_reducible refine L2.at ?_ | wp_step))
 refine lA X hx hc f m p hv hf hC ai J G ?_;show wpAny _ _ (handedOut v) _ _ _;rw[hh];exact AC hq
end
open PySem.Builtin PySem.Builtin.ObjectAttr
section
variable{g:Array GenState}{d:Drawn}{t:Nat}{os:OsState}{x:A2}{o:Obj}{K:Frag}
theorem mq{R:Result->A4->Prop}(hx:h.get? x=some o)(hc:o.cls=.ref C)(hs:Looks (model prog w) h (isSubtype (.ref C) (.type "object")) true)(hq:R (.ok (.ret (.ref C))) ⟨h,g,d,t,os⟩) :
   codeAny (model prog w) A (.call (.builtin "getset_descriptor.__get__") ⟨[.builtin "object.__class__",.ref x,.ref C],[]⟩) R ⟨h,g,d,t,os⟩:=by
 have a:(⟨h,g,d,t,os⟩:A4).TypeIs (.builtin "object.__class__") "getset_descriptor" := GO;have b:Looks (model prog w) h (isSubtype (.ref C) (.type (".".intercalate ("object.__class__".cutAt '.').dropLast))) true:=by rw[PySem.F.owner_object_class];exact hs
 refine EW PySem.F.slot_gs_get.plain PySem.F.entry_gs_get (PySem.F.slot_gs_get.check _ _ _ _ _ _ _ _ a (PySem.F.args_gs_get _ _ _) ?_);repeat (any_goals (first | assumption | (with_reducible refine BE hx ?_;rw[hc]) | with_reducible refine b.at ?_ | wp_step))
 refine⟨GB _ (by ext),DG PySem.F.entry_object_class ?_⟩;repeat (any_goals (first | assumption | (with_reducible refine BE hx ?_;rw[hc]) | wp_step))
theorem e8{Q:Fin->A4->Prop}(X:K.In h)(hx:h.get? x=some o)(hc:o.cls=.ref C)(ha:findIn K (.ref C) "__class__" = some (some (.builtin "object.__class__")))(hs:Looks (model prog w) h (isSubtype (.ref C) (.type "object")) true)(hq:Q (.done (.ret (.ref C))) ⟨h,g,d,t,os⟩) :
   wpAny (model prog w) A (Builtin.«object.__getattribute__» ⟨[.ref x,.str "__class__" tk],[]⟩) Q E ⟨h,g,d,t,os⟩:=by
 have a:(⟨h,g,d,t,os⟩:A4).TypeIs (.builtin "object.__class__") "getset_descriptor" := GO;have b:=looks_findIn (M:=model prog w) X ha;have j:=GO;have f6:=PySem.F.slot_gs_get.lookup;have f7:=PySem.F.slot_gs_set.lookup;repeat (any_goals (first | assumption | (with_reducible refine BE hx ?_;rw[hc]) | with_reducible refine b.at ?_ | wp_step))
 refine mq hx hc hs ?_;repeat (any_goals (first | assumption | wp_step))
theorem pR(X:K.In h)(hx:h.get? x=some o)(hc:o.cls=.ref C)(ha:findIn K (.ref C) "__class__" = some (some (.builtin "object.__class__")))(hs:Looks (model prog w) h (isSubtype (.ref C) (.type "object")) true)
   (G:Looks (model prog w) h (isInstance (.ref x) (.type "BaseException")) true) (e:findIn K (.ref C) "__getattribute__" = some (some (.builtin "BaseException.__getattribute__"))) (i:findIn K (.ref C) "__getattr__" = some none) (hq:Q (some (.ref C)) ⟨h,g,d,t+1,os⟩) :
   wpAny (model prog w) A (getAttr? (.ref x) "__class__") Q E ⟨h,g,d,t,os⟩:=by
 have b:=looks_findIn (M:=model prog w) X e;have L2:=looks_findIn (M:=model prog w) X i;have f3:=PySem.F.excAttr_ValueError.ga.bind (.ref x);have j:(Value.builtin "BaseException.__getattribute__" == Value.builtin "object.__getattribute__")=false:=by ext
 have k:(onTheHeap (Value.ref C)&&Value.builtin "BaseException.__getattribute__" == Value.builtin "object.__getattribute__")=false:=by rw[j];rfl
 have Y:builtinKind "BaseException.__getattribute__" = some .slot:=by ext
 have a:splitId "BaseException.__getattribute__" = some ("BaseException","__getattribute__"):=by ext
 unfold getAttr? getAttrBy?;repeat (any_goals (first | assumption | (with_reducible refine BE hx ?_;rw[hc]) | with_reducible refine b.at ?_ | with_reducible refine L2.at ?_ | wp_step))
 refine EW PySem.F.excAttr_ValueError.ga.plain PySem.F.entry_bexc_ga (@check_slot (model prog w) _ _ ⟨h,g,d,t+1,os⟩ "BaseException.__getattribute__" "BaseException" "__getattribute__" (.ref x) [.str "__class__" t] [] _ Y a G (PySem.F.args_bexc_ga (.ref x) (.str "__class__" t)) ?_);refine e8 X hx hc ha hs ?_;repeat (any_goals (first | assumption | wp_step))
structure LL (K:Frag) (C:Addr):Prop where
 cd:∃ cd,clsIn K C=some cd/\cd.hasDict=true/\∃ a b,cd.mro=.ref a::.ref b::Qi
 cl:findIn K (.ref C) "__class__" = some (some (.builtin "object.__class__"))
 ga:findIn K (.ref C) "__getattribute__" = some (some (.builtin "BaseException.__getattribute__"))
 gh:findIn K (.ref C) "__getattr__" = some none
 sa:findIn K (.ref C) "__setattr__" = some (some (.builtin "object.__setattr__"))
theorem LL.sub(c:LL K C)(X:K.In h)(T:String)(hT:Qi.contains (.type T)=true){M:Model}:Looks M h (isSubtype (.ref C) (.type T)) true:=by
 obtain⟨cd,hc,_,a,b,hm⟩:=c.cd;have x:Value.type T∈Qi:=by simpa using hT
 exact looks_mroIn X (by unfold mroIn;rw[hc,Option.bind_some,hm];simp[x])
theorem LL.ld(c:LL K C)(X:K.In h):∃ oC cd,h.get? C=some oC/\oC.data=.cls cd/\cd.hasDict=true:=by
 obtain⟨cd,hc,hd,_⟩:=c.cd;unfold clsIn at hc;split at hc
 .rename_i c' d' R sl' ho
  cases hc;exact⟨_,_,X _ _ ho,rfl,hd⟩
 .cases hc
def iz(x C:A2)(h:G2):Prop:=∃ o,h.get? x=some o/\o.cls=.ref C
theorem ij(c:LL K C):KitX K (.ref x) (.ref C) (iz x C) where
 ty:=λM h _ ⟨o,h1,h2⟩=>h2▸(Looks.ld h1).andThen .now
 it:=λM h X _=>by
  obtain⟨oC,cd,h1,h2,_⟩:=c.ld X;intro A' Q' E' s' k q;unfold isType loadHead;refine AA (wpAny_loadPart (k _ _ h1) ?_);rw[h2];exact AC q
 ne:=λh tp dd its n sl X a=>by
  obtain⟨oC,cd,h1,h2,_⟩:=c.ld X;refine JV.mpr λq=>?_
  have e:C=tp:=Value.ref.inj (DC.mp q);subst e;rw[h1] at a;cases a;cases h2
 ca:=λ{prog w A E Q s} X p k=>by
  obtain⟨o,h1,h2⟩:=p;obtain⟨h,g,d,t,os⟩:=s;exact pR X h1 h2 c.cl (c.sub X "object" (by decide)) ((h2▸(Looks.ld h1).andThen .now:Looks _ _ (typeOf (.ref x)) (.ref C)).andThen (c.sub X "BaseException" (by decide))) c.ga c.gh k
end
end L2
namespace L2
open PySem PySem.Spec PyProof.Rows
theorem Ip(ok:Mp P w H h)(k:F0 l ch h h')(hc:∀ b∈ch,H b=none)(hf:∀ b∈E9 l,H b=none):Mp P w H h':=λa o e=>by
 have aj:∀ b u,H b≠none->h.get? b=some u->h'.get? b=some u:=λb u n q=>(k b u q λz=>n (hc b z)).1 λz=>n (hf b z)
 exact(ok a o e).stay (λb u z q=>aj b u (by rcases z with z | z<;>simp_all) q) (λ_ q=>q) λ_ _ q=>q
theorem VV(k:F0 l ch h h')(hc:∀ b∈ch,H b=none):Un (E9 l) ch H H h h' where
 keep:=λb o q n hf hx=>(k b o q hx).1 hf
 slot:=λb o q n hf hx=>(k b o q hx).2
 free:=λb o q n hx=>n
 there:=λb o q hx=>by obtain⟨sl,z⟩:=(k b o q hx).2;exact⟨_,z⟩
 tups:=λb xs q=>q
 frzs:=λb o u q=>q
 tbls:=λb ps q=>⟨#[],by simpa using q⟩
def MM(P:Fn)(w:Gf)(base:G2)(pl:Bool:=false):Xm:=λouter H s E ev s'=>∃ e C dct T H' c2,ev=.ref e/\s'.os=s.os/\AllBare s'.gens/\Un (E9 outer) [] H H' s.heap s'.heap/\Mp P w H' s'.heap /\
 s.heap.objs.size<=e/\s.heap.objs.size<=T/\H' e=none/\H' T=none/\Lz s'.heap base e T (.ref C,c2) dct .none/\OU pl H' c2/\Xl H H' dct/\E (.ref C) dct H'
theorem F'.noBase{X:Cx}(I:F' X aa σ H s){e:A2}(h:X.s₀.heap.objs.size<=e):X.base.get? e=none:=by
 cases q:X.base.get? e with
 | none=>rfl
 | some o=>exact absurd (AN (I.ok.bs e o q).1) (FD.mpr h)
theorem K0{Y:Cx}{N:Z Str}{E:XK}{e:A2} 
  (I:F' (Tv (MM P w base pl) P w K mg base N aj scope f cd A outer s H E) aa σ H' s') (x:SH Y aa H' s'.heap e C dct) (j:Y={ Tv (MM P w base pl) P w K mg base N aj scope f cd A outer s H E with pl:=pl }) (i:Xl H H' dct) (q:E (.ref C) dct H') :
  (Tv (MM P w base pl) P w K mg base N aj scope f cd A outer s H E).xe (.ref e) s':=by
 subst j;have ag:(A.deeper (envOfC aj scope s.heap.objs.size f cd)).frames=some (envOfC aj scope s.heap.objs.size f cd::outer):=I.ok.frames;have hl:s'.heap.FunFrames base (envOfC aj scope s.heap.objs.size f cd::outer):=I.stack;have d:base.StaysIn s'.heap:=I.bk;have lo:s.heap.objs.size<=e:=x.lo;have F:base.get? e=none:=I.noBase x.lo;have bs:Un (E9 outer) [] H H' s.heap s'.heap:=I.base;have g:∀ b∈E9 (envOfC aj scope s.heap.objs.size f cd::outer),H' b=none:=I.stkFree;have B:∀ (h':G2) (T':A2) (c2:C1 A1) (ch:Z A2),OU pl H' c2->(∀ b∈ch,H' b=none/\s.heap.objs.size<=b)->s.heap.objs.size<=T'->H' T'=none->Lz h' base e T' (.ref C,c2) dct .none->F0 (envOfC aj scope s.heap.objs.size f cd::outer) ch s'.heap h' ->
   MM P w base pl outer H s E (.ref e) { s' with heap:=h' }:=λh' T' c2 ch ak S hT h ht kp=>by
  have a:∀ {b:A2} {o:Obj},s.heap.get? b=some o->b∉ch:=λ{b o} q z=>absurd (AN q) (FD.mpr (S b z).2)
  have c:∀ {b:A2} {o:Obj},s.heap.get? b=some o->b∉E9 outer->b∉E9 (envOfC aj scope s.heap.objs.size f cd::outer):=λ{b o} q n z=>by
   rcases BA.mp (I.stkSub b z) with e1 | e1
   .have:b=s.heap.objs.size:=e1
    exact absurd (AN q) (by rw[this];exact DI _)
   .exact n e1
  refine⟨e,C,dct,T',H',c2,rfl,I.os,I.bare,⟨?_,?_,?_,?_,bs.tups,bs.frzs,bs.tbls⟩,Ip I.hok kp (λb z=>(S b z).1) g,lo,hT,x.un,h,ht,ak,i,q⟩
  .exactλb o q n hf hx=>(kp b o (bs.keep b o q n hf hx) (a q)).1 (c q hf)
  .intro b o q n hf hx
   obtain⟨sl,z⟩:=bs.slot b o q n hf hx;obtain⟨sl',l⟩:=(kp b _ z (a q)).2;exact⟨sl',l⟩
  .exactλb o q n hx=>bs.free b o q n hx
  .intro b o q hx
   obtain⟨o',z⟩:=bs.there b o q hx;obtain⟨sl,l⟩:=(kp b o' z (a q)).2;exact⟨_,l⟩
 have sz:s.heap.objs.size<=s'.heap.objs.size:=I.sz;rcases x.ob with⟨o,vs,he,hc,hd,Q,h1,hp⟩ | ⟨T,c2,hT,h,_,ht,hp⟩
 .refine As ag hl rfl he d F Q h1 λh' T' k z1 W z3 z4=>?_
  rw[hc,hd] at z3;exact B h' T' _ [e] (hp.v (I.ok.hd rfl)) (λb hb=>by rw[AI.mp hb];exact⟨x.un,lo⟩) (BC sz k) (I.hok.fresh k) z3 z4
 .refine jP ag hl rfl ht d F λh' T' k z1 W z3 z4=>?_
  refine B h' T' _ [e,T] (hp.v (I.ok.hd rfl)) (λb hb=>?_) (BC sz k) (I.hok.fresh k) z3 z4;rcases BA.mp hb with e1 | e1
  .rw[e1];exact⟨x.un,lo⟩
  .rw[AI.mp e1];exact⟨h,hT⟩
def QX(K:KX)(fr:Bool)(R:AS)(H:Hp)(Q:VK)(E:XK):Rs->Prop
 | .ok d=>∀ v H',Zp H H'->Rp K (av H' R) d v->(fr=true->MK K ⟨H,R,true⟩ H' d v)->Q v H'
 | .exc c fs=>∀ C dct H',Zp H H'->Wd K c C->Bj K (av H' R) dct fs->E (.ref C) dct H'
 | .no=>False
def lj(K:KX)(fr:Bool)(p:Nat)(F:Z Dat->Rs):Sp:=λvs H Q E=>vs.length=p/\∃ ds R,Ux R H/\Wm K (av H R) ds vs/\QX K fr R H Q E (F ds)
structure MG (P:Program) (w:World) (K:KX) (mg:LO) (base:Heap) (k:Nat) (x:Str) (ps:List Str) (fr:Bool) (F:List Dat->Rs) (pl:Bool:=false):Prop where
 ex:∃ f fd,LN P w K mg base (MM P w base pl) k f fd ps (lj K fr ps.length F)/\mg x=some (.ref f)/\PySem.W.keepIn K (.ref f)=true/\Jz K fd ps []
 len:∀ ds,F ds≠.no->ds.length=ps.length
theorem MJ.okX{x:Str}{st:Df}{N:Z Str}(F:MJ K x aj st f fd)(S:FnScope N ps (Z7 st))(len:∀ vs H Q E,sp vs H Q E->vs.length=ps.length)
  (a:∀ (ak:A1) (A:C0) (outer:Z J1) (s:A4) (H:Hp) (vs:Z V) (Q:VK) (E:XK),J2 k (A.deeper (envOfC aj (Z7 st) s.heap.objs.size f ak))->sp vs H Q E ->
   ∃ t,R7 (Tv CX P w K mg base N aj (Z7 st) f ak A outer s H E) (Yj st) t/\t { nx:=λ_ H'=>Q .non H',rt:=Q } (LJ N vs) H):LN P w K mg base CX (k+1) f fd ps sp:=by
 obtain⟨oc,od,kV,aw,pm,an,ak,ct,i,rfl,lk,ai⟩:=F.ex;exact XR lk ai S len λA outer s H vs Q E hr ac=>a ak A outer s H vs Q E hr ac
theorem Kp{n p:Nat}(h:Yk n p g ds≠.no):ds.length=p:=by
 unfold Yk at h;split at h
 .assumption
 .exact absurd rfl h
theorem oD{N:Z Str}{E:XK}{p:Nat}{R:AS}{Q:VK}(hp:p<=N.length)(mu:Ux R H)(r:Wm K (av H R) ds vs)
  (q:QX K fr R H Q E (Yk N.length p g ds)) :
  tS fr (Tv (MM P w base) P w K mg base N aj scope f cd A outer s H E) g (LP.mk (λ_ H'=>Q .non H') Q (λ_ _=>False) (λ_ _=>False)) (LJ N vs) H:=by
 unfold Yk at q;split at q
 .rename_i hl
  refine⟨Ue N.length ds,⟨H,R,true⟩,R,Ik mu r (by lia),rfl,?_⟩;split at q
  .rename_i d' e
   rw[e];exactλv H' s r n=>q v H' s r n
  .rename_i env e
   rw[e];exactλA' H' σ' s k=>q .non H' k.h0 Kr (λ_=>trivial)
  .rename_i env c fs e
   rw[e];exactλA' H' σ' st k aa s' e C dct I hc x hf i=>K0 I x rfl i (q C dct H' k.h0 hc (hf.mono (Vb k.ra)))
  .exact q.elim
 .exact q.elim
theorem nh{x:Str}{st:Df}{N:Z Str}(D:OR K mg x st)(S:FnScope N ps (Z7 st))
  (j:dV x st ps)
  (hb:∀ (f:A2) (ak:A1) (A:C0) (outer:Z J1) (s:A4) (H:Hp) (E:XK),J2 k (A.deeper (envOfC x (Z7 st) s.heap.objs.size f ak))->Xk fr (Tv (MM P w base) P w K mg base N x (Z7 st) f ak A outer s H E) (Yj st) g) :
  MG P w K mg base (k+1) x ps fr (Yk N.length ps.length g):=by
 have ac:ps.length<=N.length:=by have:=EB List.length S.pre;rw[BN] at this;lia
 obtain⟨f,fd,F,hm⟩:=D.ex;refine⟨⟨f,fd,F.okX S (λvs H Q E h=>h.1) λak A outer s H vs Q E hr zz=>⟨_,hb f ak A outer s H E hr,?_⟩,hm,F.kp,F.binds j⟩,λds h=>Kp h⟩;obtain⟨hl,ds,R,mu,r,q⟩:=zz;exact oD ac mu r q
section
variable{X:Cx}{F:Z Dat->Rs}{x:Str}{es:Z C3}
def OW(X:Cx)(fr:Bool)(F:Z Dat->Rs)(fs:Zzv):TE:=λσ H Q=>∃ env B A ds,C' X.K B A H σ env/\fs env=some ds/\match F ds with
 | .ok d=>∀ v H',Zp H H'->Rp X.K (av H' A) d v->Q v H'
 | .exc c fl=>∀ A' H' σ',I' A H A' H'->C' X.K B A' H' σ' env->σ'=σ->XW X B.H₀ A' H' σ' c fl
 | .no=>False
def nD(X:Cx)(fr pl:Bool)(F:Z Dat->Rs)(fs:Zzv):TE:=λσ H Q=>∃ env B A ds,C' X.K B A H σ env/\fs env=some ds/\match F ds with
 | .ok d=>∀ v H',Zp H H'->Rp X.K (av H' A) d v->(fr=true->MK X.K ⟨H,A,true⟩ H' d v)->Q v H'
 | .exc c fl=>(X.pl=true->pl=true)/\∀ A' H' σ',I' A H A' H'->C' X.K B A' H' σ' env->σ'=σ->XW X B.H₀ A' H' σ' c fl
 | .no=>False
theorem ZR(C:MG X.prog X.w X.K X.mg X.base k x ps fr F pl)(hr:J2 k X.A)(ha:Hf false X (e::es) fs)(hg:Gl X x:=by rfl)
  (l:C2 x:=by decide) (he:Z0 X.env e es:=by rfl) (ac:Z1 pos X.env es:=by rfl) :
  PE X (.Call (.Name x p) (e::es) [] pos) (nD X fr pl F fs):=by
 obtain⟨f,fd,D,hm,Y,hb⟩:=C.ex;intro aa s σ H Q I ⟨env,B,A,ds,kk,e1,q⟩;refine CU (U9 I hg hm ?_ l);refine GD (h₀:=X.base) I.ok.mod.kin Y (V2 (ha pos aa s σ H (λvs H1=>Zp H H1/\Wm X.K (av H1 A) ds vs) I ⟨env,B,A,ds,kk,e1,λvs H1 s1 rs=>⟨s1,rs.rps⟩⟩) λus s1 ⟨vs,H1,I1,r,sm,rs⟩=>⟨I1.kIn,?_⟩) he ac;have ag:F ds≠.no:=λz=>by rw[z] at q;exact q
 have hl:us.length=ps.length:=by rw[<- r.length,Zv rs];exact C.len ds ag
 let E:XK:=λcls dct H'=>∃ c fl C,F ds=.exc c fl/\cls=.ref C/\Wd X.K c C/\Zp H1 H'/\Bj X.K (av H' A) dct fl
 refine FL (EF (D.run X.A X.stack s1 H1 ⟨us,[]⟩ us vs Q E hr I1.env0 (by simpa using hb s1 us I1.kIn (by simpa using hl)) r ⟨by rw[Zv rs];exact C.len ds ag,ds,A,kk.mu.mono sm,rs,?_⟩) λm s' hq=>?_)
 .unfold QX
  split
  .rename_i d hd
   rw[hd] at q;exactλv H' s2 r2 n=>q v H' (sm.trans s2) r2 λz=>(n z).mono (λ_ y=>sm.free y) λ_ y=>y
  .rename_i c fl hd
   exactλC dct H' s2 hc hf=>⟨c,fl,C,hd,rfl,hc,s2,hf⟩
  .rename_i hd
   exact ag hd
 .cases m with
  | error ev =>
   obtain⟨ex,C,dct,T,H',c2,rfl,ho,G,un,hok,h1,h2,h3,h4,ht,ak,i,c,fl,g,t,M,hc,j,hf⟩:=hq;cases M;rw[t] at q;obtain⟨hp,q⟩:=q;have I2:F' X aa σ H' s':=I1.call' (ch:=[]) ho un hok G (λb z=>absurd z (by simp));have sz:X.s₀.heap.objs.size<=s1.heap.objs.size:=I1.sz;have np:∀ {a:A2},s1.heap.objs.size<=a->∀ p∈X.pn++aa,p.1≠a:=λ{a} ha p hp z=>by
    have:=(I1.pin p hp).1;rw[z] at this;exact absurd (AN this) (FD.mpr ha)
   exact q A H' σ (I'.same (sm.trans j)) (kk.mono (sm.trans j)) rfl aa s' ex C dct I2 hc ⟨BC sz h1,h3,.inr ⟨T,c2,BC sz h2,h4,np h2,ht,ak.x hp⟩,np h1⟩ hf (i.mono λb z=>kk.h0.none (sm.none z))
  | ok fl =>
   cases fl with
   | ret u=>exact I1.after hq
   | next=>exact False.elim hq
   | brk=>exact False.elim hq
   | cont=>exact False.elim hq
theorem Pn(C:MG X.prog X.w X.K X.mg X.base k x ps fr F pl)(hr:J2 k X.A)(ha:Hf false X (e::es) fs)(hg:Gl X x:=by rfl)
  (l:C2 x:=by decide) (he:Z0 X.env e es:=by rfl) (ac:Z1 pos X.env es:=by rfl) (hp:X.pl=true->pl=true:=by first | exactλ_=>rfl | exactλz=>nomatch z) :
  PE X (.Call (.Name x p) (e::es) [] pos) (OW X fr F fs):=(ZR C hr ha hg l he ac).weak λσ H Q M=>by
 obtain⟨env,B,A,ds,k,e1,q⟩:=M;refine⟨env,B,A,ds,k,e1,?_⟩;split at q
 .exactλv H' s r _=>q v H' s r
 .exact⟨hp,q⟩
 .exact q
def R3(i:Nat)(F:Z Dat->Rs)(fs:Zzv):Ev->Fl:=λenv=>match fs env with
 | none=>.no
 | some ds=>match F ds with
  | .ok d=>.next (env.set i (.fz d))
  | .exc c fl=>.exc env c fl
  | .no=>.no
theorem O9(i:Nat)(hN:X.N.Nodup)(he:PE X e (OW X aI F fs))(hi:X.N[i]?=some x:=by rfl)(hx:Cp X.env.scope x:=by ext)(hs:swapsWith e (some (.Name x ao)) pos.line X.env=pure false:=by rfl)
  (hf:X.fn x=true\/X.env.scope.names.lookup x=some .local:=by ext):Eo fr X (.Assign [.Name x ao] e pos) (R3 i F fs):=(Gk hN hi hx he hs hf).weak λD σ H M=>by
 obtain⟨env,B,A,k,af,q⟩:=M;unfold R3 at q;split at q
 .exact q.elim
 rename_i ds e1;refine⟨env,B,A,ds,k,e1,?_⟩;split at q
 .rename_i d hd
  exactλv H' s r=>q A H' _ (I'.same s) ((k.mono s).put i r)
 .rename_i c fl hd
  exactλA' H' σ' s k' _=>q A' H' σ' s k'
 .exact q.elim
def Sg(F:Z Dat->Rs)(fs:Zzv):Ev->Fl:=λenv=>match fs env with
 | none=>.no
 | some ds=>match F ds with
  | .ok d=>.ret d
  | .exc c fl=>.exc env c fl
  | .no=>.no
theorem iB(he:PE X e (OW X aI F fs)):Eo false X (.Return (some e) pos) (Sg F fs):=(D6 he).weak λD σ H M=>by
 obtain⟨env,B,A,k,af,q⟩:=M;unfold Sg at q;split at q
 .exact q.elim
 rename_i ds e1;refine⟨env,B,A,ds,k,e1,?_⟩;split at q
 .rename_i d hd
  exactλv H' s r=>q v H' (Kc k s r).1 (Kc k s r).2 (λz=>by cases z)
 .rename_i c fl hd
  exactλA' H' σ' s k' _=>q A' H' σ' s k'
 .exact q.elim
end
variable{vs:Z C3}
theorem ii:∀ i:Fin 1000,(Str.ofString (toString (i.val:Int))).length<=3:=by ext
theorem Li{i:Int}(h0:0<=i)(h1:i<1000):(Str.ofString (toString i)).length<=3:=by
 have:=ii ⟨i.toNat,by lia⟩;have e:((i.toNat:Nat):Int)=i:=by lia
 rw[e] at this;exact this
theorem N4:∀ (ts:Z Str) (k:Nat) (B:Str),(textFrom k B ts).length<=B.length+piled ts
 | [],k,B=>by rw[piled_nil];exact AT _
 | t::ts,k,B=>by
  have h:=N4 ts (k+1) (B++(if k > 0 then ", " else "" : String)++t);rw[piled_cons];have e:(B++(if k > 0 then ", " else "" : String)++t).length<=B.length+2+t.length:=by
   rw[GW,GW];have:(Str.ofString (if k > 0 then ", " else "")).length<=2:=by split<;>decide
   lia
  show(textFrom (k+1) (B++(if k > 0 then ", " else "" : String)++t) ts).length<=_;lia
def Kg(ns:Z Int):Prop:=ns.length<=500/\∀ n∈ns,0<=n/\n<1000
theorem mj(h:Kg ns):(PyData.shown (.list (ns.map PyData.int))).length<=3000:=by
 have aj:∀ ns:Z Int,(∀ n∈ns,0<=n/\n<1000)->piled (PyData.shownAll (ns.map PyData.int))<=5*ns.length:=by
  intro ns;induction ns with
  | nil=>intro _;simp[PyData.shownAll,piled_nil]
  | cons n ns ih =>
   intro hn;have h1:=ih λm hm=>hn m (AR _ hm)
   have h2:=hn n AX;rw[CF,PyData.shownAll,piled_cons,BS];have:(PyData.shown (.int n)).length<=3:=by rw[PyData.shown];exact Li h2.1 h2.2
   lia
 have Y:=aj ns h.2;have h5:=h.1;rw[PyData.shown];show(textFrom 0 "[" _++"]").length<=_;rw[GW];have:=N4 (PyData.shownAll (ns.map PyData.int)) 0 "[";have e1:(Str.ofString "[").length=1:=by decide
 have e2:(Str.ofString "]").length=1:=by decide
 lia
theorem Ss:∀ {ns:Z Int},(∀ n∈ns,0<=n/\n<1000)->PyData.showableAll (ns.map PyData.int)=true
 | [],_=>by simp[PyData.showableAll]
 | n::ns,h=>by
  have h2:=h n AX;rw[CF,PyData.showableAll,Ss λm hm=>h m (AR _ hm),Bool.and_true,PyData.showable];have h3:n.natAbs<2^1920:=AO (show n.natAbs<2^10 by lia) (DA (by decide) (by decide));by_cases h0:n.natAbs=0
  .rw[h0];decide
  .exact AL ((Nat.log2_lt h0).mpr h3)
theorem Lq:∀ (ns:Z Int),PyData.hasDictAll (ns.map PyData.int)=false
 | []=>by simp[PyData.hasDictAll]
 | n::ns=>by rw[CF,PyData.hasDictAll,Lq ns,PyData.hasDict];rfl
theorem Om:∀ (ns:Z Int),PyData.depthAll (ns.map PyData.int)=0
 | []=>by simp[PyData.depthAll]
 | n::ns=>by rw[CF,PyData.depthAll,Om ns,PyData.depth];rfl
theorem Xg:∀ {ns:Z Int} {its:Z A1},Y8 (ns.map V.int) its->ReadsAll h its (ns.map PyData.int) []
 | [],[],_=>.nil
 | [],_::_,r=>by have:=r.length;simp at this
 | _::_,[],r=>by have:=r.length;simp at this
 | n::ns,v::its,r=>by
  cases r with
  | cons h1 r' =>
   obtain⟨t,rfl⟩:=h1;exact .cons (as:=[]) (bs:=[]) (.int n t) (Xg r')
section
variable{X:Cx}
def WV(K:KX)(te:TE)(r:TJ):TJ:=λσ H B Q=>te σ H λx H1=>((∃ i:Int,x=.int i/\0<=i/\i<1000)\/∃ a ns,x=.ref a/\SL K H1 a (ns.map V.int)/\Kg ns)/\B.length<=100000/\∀ y:Str,y.length<=3000->r σ H1 (B++y) Q
theorem B9(hr:J3 k X.A)(he:PE X e te)(b:PJ X vs r):PJ X (.FormattedValue e (-1) none pos::vs) (WV X.K te r):=by
 intro aa s σ H B Q I hz h;refine joinParts_cons (FormattedValue_plain (V2 (he aa s σ H _ I h) λv s1 zz=>?_));obtain⟨x,H1,I1,r1,hx,M,q⟩:=zz;have N:∀ y:Str,y.length<=3000->(B++y).length<=sizeLine:=λy G=>by rw[GW,DQ];lia
 rcases hx with⟨i,rfl,h0,h1⟩ | ⟨a,ns,rfl,hS,g⟩
 .obtain⟨t,rfl⟩:=r1
  have G:(Str.ofString (toString i)).length<=3000:=BC (Li h0 h1) (by decide);refine formatField_int_small ?_ ⟨N _ G,b aa _ σ H1 _ Q (I1.tok _) (N _ G) (q _ G)⟩;by_cases c:i.natAbs=0
  .rw[c];decide
  .exact(Nat.log2_lt c).mpr (AO (show i.natAbs<2^10 by lia) (DA (by decide) (by decide)))
 .cases r1
  obtain⟨its,n,w1,g1,_⟩:=hS.get I1;have G:=mj g;have rd:Reads s1.heap (.ref a) (.list (ns.map PyData.int)) [a]:=.list g1 rfl rfl (by simpa using Xg w1);refine formatField_of_reads (h₀:=s1.heap) rd (by rw[PyData.showable];exact Ss g.2) (PyData.noDict_hsm (by rw[PyData.hasDict];exact Lq ns)) hr.gd (by rw[PyData.depth,Om];have:=hr.un;lia) (λ_ _ q=>q) (λh' u tk Y=>?_) (BC G (by decide));exact⟨N _ G,b aa _ σ H1 _ Q (I1.kept Y) (N _ G) (q _ G)⟩
theorem WP(hr:J2 k X.A)(he:PE X e te)(b:PJ X vs r):PJ X (.FormattedValue e (-1) none pos::vs) (WV X.K te r):=B9 hr.n he b
end
end L2
variable{T':PySem.Addr}{b₀:PySem.Stmt}{np aW aX aG aO:PySem.Pos}{cv dc:PySem.Value}{src:L2.Zzv}{pn:LK}{k1 k2:L2.Ev->L2.Fl}{aK aR:Z PySem.Stmt}{σ1:L2.St}
namespace L2
open PySem PySem.Spec PyProof.Rows PySem.W
theorem fV{K:Frag}{N:A2}{n:Str}(X:K.In h)(G:h.Ns N mg)(e:nsIn K N n=some (some v)):mg n=some v:=by
 obtain⟨o,es,ep,ho,hd,_,hf⟩:=G;unfold nsIn at e;split at e
 .rename_i c d i g sl q
  have:=X _ _ q;rw[ho] at this;cases this;cases hd;split at e
  .rename_i P he
   cases e;rw[<- hf];unfold nsFind findBy;rw[<- Array.find?_toList,he];rfl
  .split at e<;>cases e
 .cases e
def R9(K:Frag)(C fI D:A2):Bool:=match K.lookup C with
 | some ⟨.type "type",_,.cls cd,sl⟩=>(match cd.mro,sl.toList with
  | .ref g::bm,[_,_,_,_,some (.builtin n),_]=>g==C&&n=="ValueError.__new__" && !cd.hasDel&&cd.hasDict&&bm==.ref D::Qi&&tailIn K Qi bm&&nsOkIn K cd.ns&&nsIn K cd.ns "__init__" == some (some (.ref fI))
  | _,_=>false)
 | _=>false
theorem Ou{K:Frag}{D:A2}(X:K.In h)(q:R9 K C fI D=true):∃ nm qn N bs sn sub ab col dd k0 k1 k2 k3 k5 mN,
  h.get? C=some (excClassObj nm qn C N bs (.ref D::Qi) true sn sub ab col dd k0 k1 k2 k3 k5 "ValueError.__new__")/\h.Ns N mN/\mN "__init__" = some (.ref fI)/\OwnTail h Qi (.ref D::Qi):=by
 unfold R9 at q;split at q
 .rename_i dd cd sl ho
  split at q
  .rename_i g bm k0 k1 k2 k3 n k5 hm hs
   simp only[AW,DC,JW] at q;obtain⟨⟨⟨⟨⟨⟨⟨rfl,rfl⟩,b⟩,a⟩,rfl⟩,ht⟩,hok⟩,c⟩:=q;obtain⟨nm,bs,mro,ns,qn,hd,sn,sub,ab,col,del⟩:=cd;dsimp only at hm b hok c a;subst hm b a;have E:sl=#[k0,k1,k2,k3,some (.builtin "ValueError.__new__"),k5]:=by
    obtain⟨l⟩:=sl;simp only at hs;rw[hs]
   subst E;have G:h.Ns ns (h.nsMap ns):=.of_isNs (isNs_of_in X hok);exact⟨nm,qn,ns,bs,sn,sub,ab,col,dd,k0,k1,k2,k3,k5,_,X _ _ ho,G,fV X G c,tail_of_in X ht⟩
  .cases q
 .cases q
def Ew(e C:A2)(dct:C1 A2)(h:G2):Prop:=∃ t:A2,h.get? e=some { cls:=.ref C,dict:=dct,data:=.fields #[.ref t,.none,.none,.none,.bool false,.none] }
theorem iJ{a:A2}{o:HO}(h:H a=some o):W7 H a o=H:=by
 funext b;unfold W7;split
 .rename_i e;rw[e,h]
 .rfl
theorem Bc{e:A2}(x:Ew e C dct h):Yr P w H h e (.ext (Ew e C dct)):=by
 obtain⟨t,ht⟩:=x;exact⟨⟨t,ht⟩,⟨_,ht⟩,λh1 h2 ⟨t,q⟩ k=>⟨t,k _ q⟩⟩
structure MC (K:Frag) (mg:LO) (D:Addr):Prop where
 mg:mg "CalmError" = some (.ref D)
 ga:specialIn K (.ref D) "__getattribute__" = some (some (.builtin "type.__getattribute__"))
 rd:readsIn K D (.type "type")=true
 fi:findCls K (.ref D) (.type "type") "__init__" = some (.val (.builtin "ValueError.__init__"))
section
variable{X:Cx}{es:Z C3}{t:TA}{D:A2}
def UG(K:Frag)(t:TA):TE:=λσ H Q=>t σ H λvs H1=>∃ e C dct v fI D,vs=[.ref e,v]/\H1 e=some (.ext (Ew e C dct))/\R9 K C fI D=true/\Q .non H1
theorem Nw{pl:Sem Bool}(B:MC X.K X.mg D)(ha:PA X (e::es) t)(hg:Gl X "CalmError" := by rfl)(he:Z0 X.env e es:=by rfl)(ac:Z1 pos X.env es:=by rfl)
  (ht:eval (.Call (.Attribute (.Name "CalmError" p) "__init__" ay) (e::es) [] pos) X.env=(do
   let E <- eval (.Name "CalmError" p) X.env
   standAt ay.atName
   let (f,first) <- holding [E] (getMethod E "__init__" pl)
   callWith pos f first (backTo pos (starEach (e::es) X.env)) (backToKw pos (keywordEach [] X.env))):=by rfl) :
  PE X (.Call (.Attribute (.Name "CalmError" p) "__init__" ay) (e::es) [] pos) (UG X.K t):=by
 intro aa s σ H Q I h;refine methodCall_KW (pl:=pl) (U9 I hg B.mg ?_ (by decide)) ht;refine method_cls I.kIn B.ga (cls_value I.kIn B.rd B.fi rfl ?_);refine PyProof.Rows.callWith_builtin1 (V2 (ha pos aa _ σ H _ (I.tok _) h) λus s1 zz=>?_) he ac;obtain⟨vs,H1,I1,r,ex,C,dct,v,fI,D',ev,hx,hc,q⟩:=zz;subst ev;obtain⟨u,J,rfl,r1,r2⟩:=Ae r;cases r1;obtain⟨nm,qn,N,bs,sn,sub,ab,col,dd,k0,k1,k2,k3,k5,mN,hC,hN,hi,T⟩:=Ou I1.kIn hc;obtain⟨⟨t0,P⟩,_,_⟩:=(show Yr X.prog X.w H1 s1.heap ex (.ext (Ew ex C dct)) from I1.hok ex _ hx);obtain⟨hh,g,d,tk,os⟩:=s1;refine Xo T hC P λh' a Y hsz=>⟨.non,H1,?_,rfl,q⟩
 have:=I1.write (h':=h') (x:=ex) (e:=ex) (o:=.ext (Ew ex C dct)) (t':=tk) (by rw[hx];trivial) (.inl rfl) (λb u hb q=>Y b u hb q) ⟨_,a⟩ (Bc ⟨_,a⟩);rw[iJ hx] at this;exact this
def VR(K:Frag)(ta tv:TE)(f:Str):TS:=λD σ H=>tv σ H λy H1=>ta σ H1 λx H2=>∃ a C dct fI D',x=.ref a/\H2 a=some (.ext (Ew a C dct))/\R9 K C fI D'=true/\LL K C/\findIn K (.ref C) f=some none /\
 match dct with
 | none=>∀ dx,H2 dx=none->dx≠a->D.nx σ (W7 (W7 H2 a (.ext (Ew a C (some dx)))) dx (.xd [(f,y)]))
 | some dx=>False
theorem Bi{o:C3}{f:Str}(ha:PE X o ta)(hv:PE X au tv)(hs:swapsWith au (some (.Attribute o f ao)) pos.line X.env=pure false:=by rfl):PS X (.Assign [.Attribute o f ao] au pos) (VR X.K ta tv f):=by
 intro aa s σ H D I h;refine plainObj_wpAny_Assign_Attribute (V2 (hv aa s σ H _ I h) λu s1 ⟨y,H1,I1,m,q⟩=>V2 (ha aa s1 σ H1 _ I1 q) λE s2 zz=>?_) hs;obtain⟨x,H2,I2,S,a,C,dct,fI,D',ex,ea,hc,xc,hf,q2⟩:=zz;subst ex;obtain rfl:E=Value.ref a:=S;cases dct with
 | some dx=>exact q2.elim
 | none =>
  obtain⟨⟨t0,P⟩,_,_⟩:=(show Yr X.prog X.w H2 s2.heap a (.ext (Ew a C none)) from I2.hok a _ ea);obtain⟨cd,ai,J,T,b',hm⟩:=xc.cd;obtain⟨oC,R,hC,k,A⟩:=xc.ld I2.kIn;have IA:InstAt s2.heap a { cls:=.ref C,dict:=none,data:=.fields #[.ref t0,.none,.none,.none,.bool false,.none] } C none:=⟨P,rfl,rfl,trivial⟩;refine set_plain I2.kIn IA xc.sa ?_;refine ZB (s:={ s2 with toks:=s2.toks+1 }) I2.kIn IA ai hm hf ?_;obtain⟨hh,g,d,tk,os⟩:=s2;refine eZ P rfl (λc z=>by cases z) rfl hC k A λh' r ak p Y hsz=>?_
  have ae:a<hh.objs.size:=AN P;have ag:H2 hh.objs.size=none:=I2.hok.fresh (AT _);have Q:hh.objs.size≠a:=JF ae;have i:∀ b,b≠a->b≠hh.objs.size->W7 (W7 H2 a (.ext (Ew a C (some hh.objs.size)))) hh.objs.size (.xd [(f,y)]) b=H2 b:=λb h1 h2=>by rw[Zf h2,Zf h1]
  have j:∀ {b:A2} {o:HO},H2 b=some o->b≠hh.objs.size:=λ{b o} q z=>by rw[z,ag] at q;cases q
  have un:Un X.fs [] H2 (W7 (W7 H2 a (.ext (Ew a C (some hh.objs.size)))) hh.objs.size (.xd [(f,y)])) hh h':=by
   refine⟨λb o q n _ _=>Y b o (λz=>by rw[z,ea] at n;cases n) q,λb o q n _ _=>⟨o.slots,Y b o (λz=>by rw[z,ea] at n;cases n) q⟩,λb o q n _=>?_,λb o q _=>?_,λb xs q=>?_,λb o u q=>?_,λb ps q=>?_⟩
   .rw[i b (λz=>by rw[z,ea] at n;cases n) (λz=>by rw[z] at q;exact absurd (AN q) (DI _))];exact n
   .by_cases z:b=a
    .subst z;exact⟨_,ak⟩
    .exact⟨_,Y b o z q⟩
   .rw[i b (λz=>by rw[z,ea] at q;cases q) (j q)];exact q
   .rw[i b (λz=>by rw[z,ea] at q;cases q) (j q)];exact q
   .exact⟨#[],by rw[i b (λz=>by rw[z,ea] at q;cases q) (j q)];simpa using q⟩
  have hok:Mp X.prog X.w (W7 (W7 H2 a (.ext (Ew a C (some hh.objs.size)))) hh.objs.size (.xd [(f,y)])) h':=by
   intro b o q;by_cases W:b=hh.objs.size
   .subst W
    rw[Zn] at q;cases q;refine⟨_,p,λg=>?_⟩;show Na (List.lookup g [(f,y)]) (if g=f then some u else none);by_cases e:g=f
    .subst e;simp[List.lookup,Na];exact m
    .have e':(g==f)=false:=by simpa using e
     simp[List.lookup,e',e,Na]
   .by_cases z1:b=a
    .subst z1
     rw[Zf W,Zn] at q;cases q;exact Bc ⟨t0,ak⟩
    .rw[i b z1 W] at q
     refine(I2.hok b o q).stay (λc v z w=>Y c v (λM=>?_) w) (λc w=>?_) λc xs w=>?_
     .rcases z with z | z
      .exact z1 (z.symm.trans M)
      .rw[M,ea] at z;cases z
     .rw[i c (λM=>by rw[M,ea] at w;cases w) (j w)];exact w
     .rw[i c (λM=>by rw[M,ea] at w;cases w) (j w)];exact w
  exact⟨σ,_,I2.un (h':=h') (t':=r) un hok,q2 _ ag Q⟩
end
variable{e:A2}{env:Ev}{v:V}{Q:Unit->A4->Prop}{h2:G2}
def NW(K:Frag)(C:A2)(p:Nat)(G:Z Dat->C1 (Z (Str×XD))):Sp:=λvs H Q _=>∃ e ws ds R fl,vs=.ref e::ws/\ws.length=p/\H e=some (.ext (Ew e C none))/\Ux R H/\R e=false/\Wm K (av H R) ds ws/\G ds=some fl /\
 ∀ H' dct,(∀ c o,c≠e->H c=some o->H' c=some o)->H' e=some (.ext (Ew e C dct))->Bj K (av H' R) dct fl->Xl H H' dct->Q .non H'
structure LY (P:Program) (w:World) (K:Frag) (mg:LO) (base:Heap) (k:Nat) (c:Str) (p:Nat) (G:List Dat->Option (List (Str×XD))):Prop where
 ex:∃ C fI D fd ps,Wd K c C/\mg c=some (.ref C)/\keepIn K (.ref C)=true/\R9 K C fI D=true/\LL K C/\isFn K (.ref fI)=true/\LN P w K mg base Eu k fI fd ps (NW K C p G)/\Jz K fd ps []
 len:∀ ds fl,G ds=some fl->ds.length=p
 few:p<=10
theorem Bj.of_ne{K:Frag}{fs:Z (Str×XD)}{g:G2->Prop}(he:H e=some (.ext g))(k:∀ c o,c≠e->H c=some o->H' c=some o)(h:Bj K H dct fs):Bj K H' dct fs:=by
 have ne:∀ {c:A2} {o:HO},H c=some o->(∀ g,o≠.ext g)->H' c=some o:=λ{c o} q n=>k c o (λz=>by rw[z,he] at q;exact n _ (BI q).symm) q
 cases dct with
 | none=>exact h
 | some dx =>
  obtain⟨j,e1,e2⟩:=h;refine⟨j,ne e1 (λ_ z=>by cases z),λf=>(e2 f).imp id λ⟨d,v,a,b,c⟩=>⟨d,v,a,b,?_⟩⟩;cases d with
  | int i=>exact c
  | nums is =>
   obtain⟨a,z1,W,z3⟩:=c;refine⟨a,z1,?_,z3⟩;rcases W with(z | ⟨o,z⟩) | z
   .exact .inl (.inl (ne z (λ_ w=>by cases w)))
   .exact .inl (.inr ⟨o,ne z (λ_ w=>by cases w)⟩)
   .exact .inr z
def NB(H:Hp)(a:A2):Hp:=λb=>if b=a then none else H b
theorem D8{a b:A2}(h:b≠a):NB H a b=H b:=by unfold NB;rw[AK h]
theorem Hu{a:A2}:NB H a a=none:=by unfold NB;rw[AE rfl]
theorem Iz{a b:A2}(h:H b=none):NB H a b=none:=by unfold NB;split<;>first | rfl | exact h
theorem F'.drop{X:Cx}{a:A2}{g:G2->Prop}(I:F' X aa σ H s)(ha:H a=some (.ext g)):F' X aa σ (NB H a) s:=by
 have ne:∀ {b:A2} {o:HO},H b=some o->(∀ g,o≠.ext g)->NB H a b=some o:=λ{b o} q n=>by rw[D8 (λz=>by rw[z,ha] at q;exact n _ (BI q).symm)];exact q
 refine⟨I.ok,I.os,I.bare,⟨I.base.keep,I.base.slot,λb o q n hx=>Iz (I.base.free b o q n hx),I.base.there,λb xs q=>ne (I.base.tups b xs q) (λ_ z=>by cases z),λb o u q=>ne (I.base.frzs b o u q) (λ_ z=>by cases z),λb ps q=>?_⟩,I.loc,I.cell,Iz I.free,λx c e=>Iz (I.freeC x c e),λp hp=>?_,λb o q=>?_,I.len⟩
 .obtain⟨f,z⟩:=I.base.tbls b ps q
  exact⟨f,ne z (λ_ z=>by cases z)⟩
 .obtain⟨h1,h2,h3⟩:=I.pin p hp
  exact⟨h1,Iz h2,h3⟩
 .have hb:b≠a:=λz=>by rw[z,Hu] at q;cases q
  rw[D8 hb] at q;exact(I.hok b o q).stay (λ_ _ _ w=>w) (λc w=>ne w (λ_ z=>by cases z)) λc xs w=>ne w (λ_ z=>by cases z)
theorem dw{ex:A2}{o:HO}(h:Xl (W7 H ex o) H' dct)(hx:∃ g,H' ex=some (.ext g))(s:Zp H0 H):Xl H0 (NB H' ex) dct:=λdx e=>by
 have m:∀ b,W7 H ex o b=none->H0 b=none:=λb z=>by
  have hb:b≠ex:=λw=>by rw[w,Zn] at z;cases z
  rw[Zf hb] at z;exact s.none z
 refine⟨m _ (h dx e).1,λj f a q l=>?_⟩;have q':H' dx=some (.xd j):=by
  have hb:dx≠ex:=λw=>by rw[w,Hu] at q;cases q
  rw[D8 hb] at q;exact q
 obtain⟨y1,xs,y2⟩:=(h dx e).2 j f a q' l;refine⟨m _ y1,xs,?_⟩;have ha:a≠ex:=λw=>by
  obtain⟨g,hg⟩:=hx;rw[w,hg] at y2;cases y2
 rw[D8 ha];exact y2
theorem Mr{a:A2}{o:HO}(h:H a=none):Zp H (W7 H a o):=λb u e=>by rw[Zf (λz=>by rw[z,h] at e;cases e)];exact e
section
variable{X:Cx}{e:C3}{es:Z C3}{n:Nat}{c:Str}
def Uh(c:Str)(G:Z Dat->C1 (Z (Str×XD)))(fs:Zzv):Ev->Fl:=λenv=>match (fs env).bind G with
 | none=>.no
 | some fl=>.exc env c fl
theorem Ai{A:AS}(M:LY X.prog X.w X.K X.mg X.base k c n G)(hr:J2 (k+1) X.A)
  (I:F' X aa σ H s) (kk:C' X.K B A H σ env) (r:Y8 vs us) (rs:Wm X.K (av H A) ds vs) (hG:G ds=some fl) {C fI D:A2} (ah:Wd X.K c C) (hx:R9 X.K C fI D=true) {fd:Ff} {ps:Z Str} (ai:isFn X.K (.ref fI)=true) (F:LN X.prog X.w X.K X.mg X.base Eu k fI fd ps (NW X.K C n G)) (hb:Jz X.K fd ps [])
  (q:∀ H' σ',σ'=σ->Zp H H'->C' X.K B A H' σ env->XW X B.H₀ A H' σ c fl) :
  wpAny (model X.prog X.w) X.A (call (.ref C) us) (λv s'=>∃ ex t dct,v=.ref ex/\(∃ o,s'.heap.get? C=some o)/\s'.heap.get? ex=some { cls:=.ref C,dict:=dct,data:=.fields #[.ref t,.none,.none,.none,.bool false,.none] }/\X.K.In s'.heap/\X.xe (.ref ex) s') X.xe s:=by
 obtain⟨nm,qn,N,bs,sn,sub,ab,col,dd,k0,k1,k2,k3,k5,mN,hC,hN,hi,T⟩:=Ou I.kIn hx;have f:∃ y,s.heap.get? fI=some y/\y.cls=.type "function" := by
  have:=DC.mp ai;obtain⟨y,h1,h2⟩:=Option.map_eq_some_iff.mp this;exact⟨y,I.kIn _ _ h1,h2⟩
 obtain⟨y,f,W⟩:=f;have J:us.length<=sizeLine:=by
  have h1:=r.length;have h2:=Zv rs;have h3:=M.len ds fl hG;have h4:=M.few;exact EU (Tr (by lia))
 obtain⟨hh,g,d,tk,os⟩:=s;refine X0 (hrest:=J) EI (by decide) EI T hC hN hi f W λh' ex i hm=>?_
 obtain⟨t0,P,_,_⟩:=hm.there;have ag:H ex=none:=I.hok.fresh i;have I2:F' X aa σ (W7 H ex (.ext (Ew ex C none))) ⟨h',g,d,tk,os⟩:=I.laid (h':=h') (t':=tk) (a:=ex) (o:=.ext (Ew ex C none)) hm.keeps i (Bc ⟨t0,P⟩);have h:A ex=false:=by
  cases z:A ex with
  | false=>rfl
  | true=>obtain⟨o,ho⟩:=(kk.mu ex z).some;rw[ag] at ho;cases ho
 have l:Zp H (W7 H ex (.ext (Ew ex C none))):=Mr ag;let Q':VK:=λv H'=>v=.non/\∃ dct,(∀ c o,c≠ex->W7 H ex (.ext (Ew ex C none)) c=some o->H' c=some o)/\H' ex=some (.ext (Ew ex C dct))/\Bj X.K (av H' A) dct fl/\Xl (W7 H ex (.ext (Ew ex C none))) H' dct
 have ac:NW X.K C n G (.ref ex::vs) (W7 H ex (.ext (Ew ex C none))) Q' E0:=⟨ex,vs,ds,A,fl,rfl,by rw[Zv rs];exact M.len ds fl hG,Zn,kk.mu.mono l,h,rs.mono (Wl l),hG,λH' dct h1 h2 h3 h4=>⟨rfl,dct,h1,h2,h3,h4⟩⟩;have af:(Value.ref ex::us).length=ps.length:=by
  have e1:=F.len _ _ _ _ ac;have e2:=r.length;rw[BS] at e1 ⊢;lia
 refine FL (EF (F.run _ X.stack ⟨h',g,d,tk,os⟩ _ ⟨Value.ref ex::us,[]⟩ (Value.ref ex::us) (V.ref ex::vs) Q' E0 (hr.make C us []) (I2.env0.make C us []) (by simpa using hb _ (Value.ref ex::us) I2.kIn (by simpa using af)) (.cons rfl r) ac) λm s' hq=>?_);cases m with
 | error e=>exact False.elim hq
 | ok aq =>
  cases aq with
  | ret u =>
   obtain⟨v,H',R,rv,ev,dct,h1,h2,h3,h4⟩:=I2.after hq;subst ev;have eu:u=.none:=rv;subst eu;refine⟨rfl,?_⟩;obtain⟨⟨S,ak⟩,_,_⟩:=(show Yr X.prog X.w H' s'.heap ex (.ext (Ew ex C dct)) from R.hok ex _ h2);have I4:=R.drop h2;have sm:Zp H (NB H' ex):=λb o q=>by
    have hb:b≠ex:=λz=>by rw[z,ag] at q;cases q
    rw[D8 hb];exact h1 b o hb (by rw[Zf hb];exact q)
   have x:X.s₀.heap.objs.size<=ex:=BC I.sz i;obtain⟨nm',qn',N',bs',sn',sub',ab',col',j,k0',k1',k2',k3',k5',mN',E,_,_,_⟩:=Ou R.kIn hx;refine⟨ex,S,dct,rfl,⟨_,E⟩,ak,R.kIn,?_⟩;refine q (NB H' ex) σ rfl sm (kk.mono sm) aa s' ex C dct I4 ah ⟨x,Hu,.inl ⟨_,_,ak,rfl,rfl,rfl,rfl,.inl rfl⟩,λp hp z=>?_⟩ ?_ (dw h4 ⟨_,h2⟩ kk.h0)
   .have:=(I.pin p hp).1
    rw[z] at this;exact absurd (AN this) (FD.mpr i)
   .exact h3.of_ne (e:=ex) (V4 h2 h) λc o hc q=>V4 (by rw[D8 hc];exact(Tg q).2) (Tg q).1
  | next=>exact False.elim hq
  | brk=>exact False.elim hq
  | cont=>exact False.elim hq
theorem Cn(M:LY X.prog X.w X.K X.mg X.base k c n G)(hr:J2 (k+1) X.A)(hc:X.calm=true)(ha:Hf false X (e::es) fs)(hg:Gl X c:=by rfl)(l:C2 c:=by decide)
  (he:Z0 X.env e es:=by rfl) (ac:Z1 am X.env es:=by rfl):Eo fr X (.Raise (some (.Call (.Name c p) (e::es) [] am)) none pos) (Uh c G fs):=by
 intro aa s σ H D I ⟨env,B,A,kk,af,q⟩;obtain⟨C,fI,D',fd,ps,ah,hm,a,hx,xc,ai,F,hb⟩:=M.ex;unfold Uh at q;split at q
 .exact q.elim
 rename_i fl P;obtain⟨ds,e1,hG⟩:=bind_some P;obtain⟨nm,qn,N,bs,sn,sub,ab,col,dd,k0,k1,k2,k3,k5,mN,hC,hN,hi,T⟩:=Ou I.kIn hx;have aj:wpAny (model X.prog X.w) X.A (eval (.Call (.Name c p) (e::es) [] am) X.env) (λv s'=>∃ ex t dct,v=.ref ex/\(∃ o,s'.heap.get? C=some o)/\s'.heap.get? ex=some { cls:=.ref C,dict:=dct,data:=.fields #[.ref t,.none,.none,.none,.bool false,.none] }/\X.K.In s'.heap/\X.xe (.ref ex) s') X.xe s:=by
  refine CU (U9 I hg hm ?_ l);refine callWith_K (h₀:=X.base) I.ok.mod.kin a (V2 (ha am aa s σ H (λvs H1=>Zp H H1/\Wm X.K (av H1 A) ds vs) I ⟨env,B,A,ds,kk,e1,λvs H1 s1 rs=>⟨s1,rs.rps⟩⟩) λus s1 ⟨vs,H1,I1,r,sm,rs⟩=>⟨I1.kIn,?_⟩) he ac;exact Ai M hr I1 (kk.mono sm) r rs hG ah hx ai F hb λH' σ' _ j k2=>q A H' σ (I'.same (sm.trans j)) k2
 rw[KP];refine AA (DO (N8 (C:=C) (nm:=nm) (q:=qn) (N:=N) (bs:=bs) (bm:=.ref D'::Qi) (hdct:=true) (sn:=sn) (sub:=sub) (ab:=ab) (col:=col) (dd:=dd) (k0:=k0) (k1:=k1) (k2:=k2) (k3:=k3) (k5:=k5) (newId:="ValueError.__new__") (by simp[Qi]) (I.ok.hd hc) (AA (BQ aj (λv s₃ h₃=>AA (DO (AC ?_))) λ_ _ x=>x))));obtain⟨ex,t,dct,rfl,_,hex,f,b⟩:=h₃;obtain⟨o,lk⟩:∃ o,X.K.lookup C=some o:=by
  unfold R9 at hx;split at hx
  .rename_i ho;exact⟨_,ho⟩
  .cases hx
 have e2:=(I.kIn _ _ lk).symm.trans hC;cases e2;exact⟨ex,.ref t,dct,rfl,f _ _ lk,hex,b⟩
end
def Rl(ns:Z Int):Bool:=decide (ns.length<=500)&&ns.all λn=>decide (0<=n)&&decide (n<1000)
theorem Fy(h:Rl ns=true):Kg ns:=by
 unfold Rl at h;rw[AW,DH] at h;refine⟨BK h.1,λn hn=>?_⟩;have:=h.2 n hn;rw[AW] at this;exact⟨BK this.1,BK this.2⟩
def gW(f:Str):Z Dat->C1 (Z (Str×XD))
 | [.lst xs]=>(Qj xs).bind λns=>if Rl ns=true then some [(f,.nums ns)] else none
 | _=>none
def QG(n:Nat)(σ:St)(H:Hp)(r:TJ):Prop:=∀ (B:Str) (Q:VK),B.length<=n->(∀ z,Q (.str z) H)->r σ H B Q
theorem Co{n:Nat} :QG n σ H ck:=λB Q _ q=>q B
theorem Hx{n:Nat}{c:Str}(hr:QG (n+c.length) σ H r)(h:n+c.length<=100000):QG n σ H (cG c r):=λB Q ha q=>by
 have e:(B++c).length=B.length+c.length:=GW _ _;exact⟨by rw[e,DQ];lia,hr _ Q (by rw[e];lia) q⟩
theorem K7{n:Nat}{K:Frag}(hr:QG (n+3000) σ H r)(h:n<=90000)(hv:σ[i]?=some (some v))(hs:(∃ i:Int,v=.int i/\0<=i/\i<1000)\/∃ a ns,v=.ref a/\SL K H a (ns.map V.int)/\Kg ns):QG n σ H (WV K (Hv i) r):=λB Q ha q =>
 ⟨v,hv,hs,by lia,λy G=>hr _ Q (by rw[GW];lia) q⟩
section
variable{K:Frag}
end
section
variable{X:Cx}
theorem Nl{M:Model}{x:Str}(I:F' X aa σ H s)(hN:X.N.Nodup)(hi:X.N[i]?=some x)(Y:X.env.kindOf x=some .local)
   (h:∀ s',F' X aa (σ.set i none) H s'->Q () s'):wpAny M A (do bindName X.env x .none;unbindBehindTheSuite X.env x pos) Q E s:=by
 obtain⟨m,hn,hl⟩:=id I.loc;have t:(X.env.scope.kind==.class||(X.env.scope.kind==.module&&X.env.locals != X.env.globals))=false:=by rw[I.ok.kind];rfl
 have cne:=I.cne;refine wpAny_nameGoes_keeps Y hn t λh' v B hs=>?_
 obtain⟨oL,_,_,F,_⟩:=id hn;refine h _ ⟨I.ok,I.os,I.bare,⟨λb o e n hb hx=>?_,λb o e n hb hx=>?_,I.base.free,λb o e hx=>?_,I.base.tups,I.base.frzs,I.base.tbls⟩,⟨_,B,λj y D e1 e2 e3=>?_⟩,λy c e=>?_,I.free,I.freeC,λp hp=>?_,λb ob e=>?_,by simpa using I.len⟩
 · exact(hs.2 b (BJ (AO (AN e) I.ok.above))).trans (I.base.keep b o e n hb hx)
 · obtain⟨sl,e1⟩:=I.base.slot b o e n hb hx
   exact⟨sl,(hs.2 b (BJ (AO (AN e) I.ok.above))).trans e1⟩
 · obtain⟨o',e1⟩:=I.base.there b o e hx
   exact⟨o',(hs.2 b (BJ (AO (AN e) I.ok.above))).trans e1⟩
 · by_cases hj:j=i
   · subst hj
     rw[AZ] at e2;simp at e2
   · rw[IR (AY hj)] at e2
     obtain⟨f,r',q⟩:=hl j y D e1 e2 e3;refine⟨f,r',?_⟩;rcases q with⟨k,e⟩ | ⟨k,c,e,z⟩
     · refine .inl ⟨k,?_⟩
       have:y≠x:=λe=>hj (Pu hN e1 (e▸hi))
       simp[this,e]
     · exact .inr ⟨k,c,e,z.sameBut hs (cne y c e)⟩
 · obtain⟨J,z⟩:=I.cell y c e
   exact⟨J,z.sameBut hs (cne y c e)⟩
 · obtain⟨e,n,ne,P,d⟩:=I.pin p hp
   exact⟨(hs.2 p.1 ne).trans e,n,ne,P,d⟩
 · refine(I.hok b ob e).stay (λc J hc q=>(hs.2 c ?_).trans q) (λ_ q=>q) λ_ _ q=>q
   rintro rfl;rcases hc with rfl | hc
   · rw[I.free] at e;cases e
   · rw[I.free] at hc;cases hc
theorem F'.track{a:A2}{o:HO}(I:F' X aa σ H s)(ha:H a=none)(lo:X.s₀.heap.objs.size<=a)(hl:a≠X.env.locals)(hc:∀ x c,X.env.cells.lookup x=some c->c≠a)(hp:∀ p∈X.pn++aa,p.1≠a)(ok:Yr X.prog X.w (W7 H a o) s.heap a o):F' X aa σ (W7 H a o) s:=by
 have sm:Zp H (W7 H a o):=Mr ha;refine⟨I.ok,I.os,I.bare,⟨I.base.keep,I.base.slot,λb ob q n hx=>?_,I.base.there,λb xs q=>sm _ _ (I.base.tups b xs q),λb o u q=>sm _ _ (I.base.frzs b o u q),λb ps q=>?_⟩,I.loc,I.cell,?_,λx c e=>?_,λp h=>?_,λb u q=>?_,I.len⟩
 .rw[Zf (λz=>by rw[z] at q;exact absurd (AN q) (FD.mpr lo))]
  exact I.base.free b ob q n hx
 .obtain⟨f,z⟩:=I.base.tbls b ps q
  exact⟨f,sm _ _ z⟩
 .rw[Zf (AY hl)];exact I.free
 .rw[Zf (hc x c e)];exact I.freeC x c e
 .obtain⟨h1,h2,h3⟩:=I.pin p h
  exact⟨h1,by rw[Zf (hp p h)];exact h2,h3⟩
 .by_cases z:b=a
  .subst z;rw[Zn] at q;cases q;exact ok
  .rw[Zf z] at q
   exact(I.hok b u q).stay (λ_ _ _ w=>w) (λc w=>sm _ _ w) λc xs w=>sm _ _ w
abbrev Cx.inTry(X:Cx)(pn:LK)(E:LM):Cx:={ X with pn:=pn,xe:=E }
abbrev Cx.inH(X:Cx)(pn:LK)(e:A2):Cx:={ X with A:=X.A.mark (some (.ref e)),calm:=false,pn:=pn,xe:=λ_ _=>False }
theorem F'.toTry(I:F' X aa σ H s):F' (X.inTry (X.pn++aa) E) [] σ H s :=
 ⟨⟨I.ok.mod,I.ok.kind,I.ok.glob,I.ok.blt,I.ok.above,I.ok.inj,I.ok.has,I.ok.cab,I.ok.hd,I.ok.frames,I.ok.stk,I.ok.exf,I.ok.bs,I.ok.bsz,I.ok.noex,I.ok.exfs,I.ok.funs,I.ok.frf⟩,I.os,I.bare,I.base,I.loc,I.cell,I.free,I.freeC,λp hp=>I.pin p (by simpa using hp),I.hok,I.len⟩
theorem F'.ofTry(ok:X.Ok)(I:F' (X.inTry (X.pn++aa) E) aB σ H s):F' X aa σ H s :=
 ⟨ok,I.os,I.bare,I.base,I.loc,I.cell,I.free,I.freeC,λp hp=>I.pin p (CP _ hp),I.hok,I.len⟩
theorem F'.toH(I:F' X aa σ H s):F' (X.inH (X.pn++aa) e) [] σ H s :=
 ⟨⟨I.ok.mod,I.ok.kind,I.ok.glob,I.ok.blt,I.ok.above,I.ok.inj,I.ok.has,I.ok.cab,(λz=>nomatch z),I.ok.frames,I.ok.stk,I.ok.exf,I.ok.bs,I.ok.bsz,I.ok.noex,I.ok.exfs,I.ok.funs,I.ok.frf⟩,I.os,I.bare,I.base,I.loc,I.cell,I.free,I.freeC,λp hp=>I.pin p (by simpa using hp),I.hok,I.len⟩
theorem F'.ofH(ok:X.Ok)(I:F' (X.inH (X.pn++aa) e) aB σ H s):F' X aa σ H s :=
 ⟨ok,I.os,I.bare,I.base,I.loc,I.cell,I.free,I.freeC,λp hp=>I.pin p (CP _ hp),I.hok,I.len⟩
end
theorem C'.clr{K:Frag}{A:AS}(k:C' K B A H σ env)(i:Nat):C' K B A H (σ.set i none) (env.set i .un):=by
 obtain⟨own,h1,h2,h4⟩:=k.sl;refine⟨k.h0,k.r0,k.ra,k.ar,k.mu,by rw[CQ,CQ];exact k.len,λaf j d=>?_,own,h1,h2,λj s e=>?_⟩
 .rw[AZ]
  split
  .split<;>simp
  .exact k.np af j d
 .rw[AZ] at e
  split at e
  .rename_i c
   split at e
   .rename_i hl
    cases e;exact⟨none,by rw[AZ,AE c,AE (by rw[k.len];exact hl)],trivial⟩
   .cases e
  .rename_i c
   obtain⟨x,e1,e2⟩:=h4 j s e;exact⟨x,by rw[AZ,AK c];exact e1,e2⟩
def bo(i:Nat):Fl->Fl
 | .next e=>.next (e.set i .un)
 | .brk e=>.brk (e.set i .un)
 | .cont e=>.cont (e.set i .un)
 | .ret d=>.ret d
 | .exc _ _ _=>.no
 | .no=>.no
def OS(g:Ev->Fl)(k:Ev->Str->Z (Str×XD)->Fl):Ev->Fl:=λenv=>match g env with
 | .exc env' c fl=>k env' c fl
 | r=>r
def OK(sub:Str->Bool)(i:Nat)(g h:Ev->Fl):Ev->Fl:=OS g λenv' c fl=>if sub c=true then bo i (h (env'.set i (.fz (.exc c fl)))) else .no
abbrev Cx.pls(X:Cx)(b:Bool):Cx:={ X with pl:=b }
section
variable{X:Cx}{b:Bool}
theorem F'.pls(I:F' X aa σ H s):F' (X.pls b) aa σ H s :=
 ⟨⟨I.ok.mod,I.ok.kind,I.ok.glob,I.ok.blt,I.ok.above,I.ok.inj,I.ok.has,I.ok.cab,I.ok.hd,I.ok.frames,I.ok.stk,I.ok.exf,I.ok.bs,I.ok.bsz,I.ok.noex,I.ok.exfs,I.ok.funs,I.ok.frf⟩,I.os,I.bare,I.base,I.loc,I.cell,I.free,I.freeC,I.pin,I.hok,I.len⟩
theorem F'.unpls(I:F' (X.pls b) aa σ H s):F' X aa σ H s :=
 ⟨⟨I.ok.mod,I.ok.kind,I.ok.glob,I.ok.blt,I.ok.above,I.ok.inj,I.ok.has,I.ok.cab,I.ok.hd,I.ok.frames,I.ok.stk,I.ok.exf,I.ok.bs,I.ok.bsz,I.ok.noex,I.ok.exfs,I.ok.funs,I.ok.frf⟩,I.os,I.bare,I.base,I.loc,I.cell,I.free,I.freeC,I.pin,I.hok,I.len⟩
end
theorem Hz(k:F0 l ch h h')(hT:h.objs.size<=T')(y:∀ b o,h'.get? b=some o->b∉[T']->h2.get? b=some o):F0 l ch h h2:=λb o hb hc=>by
 obtain⟨k1,sl,k2⟩:=k b o hb hc;have f:b∉[T']:=λz=>by
  have e1:b=T':=by simpa using z
  rw[e1] at hb;exact absurd (AN hb) (FD.mpr hT)
 exact⟨λhl=>y b o (k1 hl) f,sl,y b _ k2 f⟩
structure Ld (X:Cx) (aa:LK) (σ:St) (H:Hp) (s:Shared) (e C T:Addr) (dct:Option Addr) (c2:Option Value):Prop where
 J:F' X aa σ H s
 sb:X.base.StaysIn s.heap
 ff:s.heap.FunFrames X.base (X.env::X.outer)
 tr:Lz s.heap X.base e T (.ref C,c2) dct .none
 lo:X.s₀.heap.objs.size<=e
 un:H e=none
 pe:∀ p∈X.pn++aa,p.1≠e
 tl:X.s₀.heap.objs.size<=T
 tn:H T=none
 tp:∀ p∈X.pn++aa,p.1≠T
section
variable{X:Cx}
theorem F'.nloc(J:F' X aa σ H s){a:A2}{o:Obj}{vs:Array A1}(ho:s.heap.get? a=some o)(hd:o.data=.fields vs):a≠X.env.locals/\∀ y c,X.env.cells.lookup y=some c->c≠a:=by
 refine⟨λz=>?_,λy c hc z=>?_⟩
 .obtain⟨m,⟨o',es,ep,f,u,_⟩,_⟩:=J.loc
  rw[z,f] at ho;cases ho;rw[hd] at u;cases u
 .obtain⟨v,o',f,u⟩:=J.cell y c hc
  rw[z,ho] at f;cases f;rw[hd] at u;cases u
theorem F'.kpx(J:F' X aa σ H s)(j:X.stack=X.env::X.outer)(kp:F0 (X.env::X.outer) ch s.heap h2)(S:∀ b∈ch,H b=none/\X.s₀.heap.objs.size<=b/\(∃ o vs,s.heap.get? b=some o/\o.data=.fields vs)/\∀ p∈X.pn++aa,p.1≠b):F' X aa σ H { s with heap:=h2 } :=
 J.call' (s':={ s with heap:=h2 }) (ch:=ch) rfl (by rw[j];exact VV kp λb hb=>(S b hb).1) (Ip J.hok kp (λb hb=>(S b hb).1) (by rw[<- j];exact J.stkFree)) J.bare λb hb=>by
  obtain⟨_,h1,⟨o,vs,h2,h3⟩,h4⟩:=S b hb;have:=J.nloc h2 h3;exact⟨.inr h1,this.1,this.2,h4⟩
theorem Ld.land{M:Model}(Lq_:Ld X aa σ H s e C T dct c2)(j:X.stack=X.env::X.outer)(k:∀ s',Ld X aa σ H s' e C T dct c2->Q () s'):wpAny M A (setFlight (.ref e) none) Q E s :=
 RO Lq_.sb Lq_.ff Lq_.tr λh3 y1 y2 y3 G y5=>k _ ⟨Lq_.J.kpx j (ch:=[T]) (.of λb o hb hc=>G b o hb hc) λb hb=>by
  obtain⟨oe,ve,oT,ts,g1,g2,g3,g4,g5,g6,g7,Y,g9,ae⟩:=Lq_.tr;rw[AI.mp hb];exact⟨Lq_.tn,Lq_.tl,⟨_,_,Y,g9⟩,Lq_.tp⟩,y1,y2,y3,Lq_.lo,Lq_.un,Lq_.pe,Lq_.tl,Lq_.tn,Lq_.tp⟩
theorem cP{b:Bool}{k:Ev->Str->Z (Str×XD)->Fl}{h₀:ExceptHandler}{hs:Z ExceptHandler}(hb:∀ pn E,Xk fr ((X.inTry pn E).pls b) body g)
  (hh:∀ aa (D:LP) B A H env' c fl m H1 σ1 s1 e C T dct c2,I' A H m H1->C' X.K B m H1 σ1 env'->B.st=true->Wd X.K c C->Bj X.K (av H1 m) dct fl->Ld X aa σ1 H1 s1 e C T dct c2->Gj (X.pls b) H1 c2->Ky fr X B A H D (k env' c fl)->wpAny (model X.prog X.w) X.A (handleBy (.ref e) X.env (h₀::hs)) (SP X aa D) X.xe s1)
  (j:X.stack=X.env::X.outer/\X.env.frame=some X.env.locals):Eo fr X (.Try body (h₀::hs) [] [] pos) (OS g k):=by
 intro aa s σ H D I ⟨env,B,A,kk,af,q⟩;refine wpAny_Try_except (BQ (hb (X.pn++aa) _ [] s σ H D I.toTry.pls ⟨env,B,A,kk,af,?_⟩) (λf s₁ hs=>?_) (λe s₁ hx=>hx))
 .unfold OS at q
  cases J:g env with
  | next e'=>rw[J] at q;exact q
  | brk e'=>rw[J] at q;exact q
  | cont e'=>rw[J] at q;exact q
  | ret d=>rw[J] at q;exact q
  | no=>rw[J] at q;exact q
  | exc env' c fl =>
   rw[J] at q;intro m H1 σ1 ai k1 aB s1 e C dct I1 ah x am i;have l:F' X aa σ1 H1 s1:=I1.unpls.ofTry I.ok;have ag:X.A.frames=some (X.env::X.outer):=by rw[<- j.1];exact l.ok.frames
   have hl:s1.heap.FunFrames X.base (X.env::X.outer):=by rw[<- j.1];exact l.stack
   have F:X.base.get? e=none:=l.noBase x.lo;have M:∀ {a:A2},(∀ p∈(X.pn++aa)++aB,p.1≠a)->∀ p∈X.pn++aa,p.1≠a:=λ{a} z p hp=>z p (CP _ hp)
   have after:∀ (h2:G2) (T':A2) (c2:C1 A1) (ch:Z A2),Gj (X.pls b) H1 c2->s1.heap.objs.size<=T'->X.base.StaysIn h2->h2.FunFrames X.base (X.env::X.outer)->Lz h2 X.base e T' (.ref C,c2) dct .none->F0 (X.env::X.outer) ch s1.heap h2->(∀ b∈ch,H1 b=none/\X.s₀.heap.objs.size<=b/\(∃ o vs,s1.heap.get? b=some o/\o.data=.fields vs)/\∀ p∈X.pn++aa,p.1≠b)->wpAny (model X.prog X.w) X.A (handleBy (.ref e) X.env (h₀::hs)) (SP X aa D) X.xe { s1 with heap:=h2 }:=λh2 T' c2 ch r n t W aj kp S =>
    hh aa D B A H env' c fl m H1 σ1 _ e C T' dct c2 ai k1 af ah am ⟨l.kpx j.1 kp S,t,W,aj,x.lo,x.un,M x.pe,BC l.sz n,l.hok.fresh n,λp hp z=>by
     have:=(l.pin p hp).1;rw[z] at this;exact absurd (AN this) (FD.mpr n)⟩ r q
   show wpAny _ _ _ _ _ _;rcases x.ob with⟨o,vs,he,hc,hd,Q,h1,ac⟩ | ⟨T0,c2,hT,h,ak,ht,ac⟩
   .refine Sw ag hl j.2 he l.bk F Q h1 λh' T' y x1 x2 x3 P N=>?_
    refine RO (s:={ s1 with heap:=h' }) x1 x2 x3 λh2 y1 y2 y3 G y5=>?_
    rw[hc,hd] at y3;refine after h2 T' _ [e] ac y y1 y2 y3 (Hz P y G) λb hb=>?_
    rw[AI.mp hb];exact⟨x.un,x.lo,⟨_,_,he,Q⟩,M x.pe⟩
   .refine WT ag hl j.2 ht l.bk F λh' T' y x1 x2 x3 P N=>?_
    refine RO (s:={ s1 with heap:=h' }) x1 x2 x3 λh2 y1 y2 y3 G y5=>?_
    refine after h2 T' _ [e,T0] ac y y1 y2 y3 (Hz P y G) λb hb=>?_
    obtain⟨oe,ve,oT,ts,g1,g2,g3,g4,g5,g6,g7,Y,g9,ae⟩:=id ht;rcases BA.mp hb with z | z
    .rw[z];exact⟨x.un,x.lo,⟨_,_,g1,g4⟩,M x.pe⟩
    .rw[AI.mp z];exact⟨h,hT,⟨_,_,Y,g9⟩,M ak⟩
 .cases f with
  | next=>obtain⟨σ',H',R,q'⟩:=hs;exact AC ⟨σ',H',R.unpls.ofTry I.ok,q'⟩
  | brk=>obtain⟨σ',H',R,q'⟩:=hs;exact⟨σ',H',R.unpls.ofTry I.ok,q'⟩
  | cont=>obtain⟨σ',H',R,q'⟩:=hs;exact⟨σ',H',R.unpls.ofTry I.ok,q'⟩
  | ret u=>obtain⟨v,σ',H',R,r',q'⟩:=hs;exact⟨v,σ',H',R.unpls.ofTry I.ok,r',q'⟩
end
section
variable{X:Cx}{h:Ev->Fl}{suite:Z Df}{T n:Str}{sub:Str->Bool}{DT:A2}
theorem oy(hb:∀ pn E,Xk fr (X.inTry pn E) body g)(hh:∀ pn e,R7 (X.inH pn e) (b₀::suite) (λD σ H=>NX (X.inH pn e).A H/\tS fr (X.inH pn e) h D σ H))(hN:X.N.Nodup)(hi:X.N[i]?=some n)(hx:Cp X.env.scope n)(hT:X.mg T=some (.ref DT))
  (G:∀ c C,Wd X.K c C->sub c=true->exmOne X.K (.ref C) (.ref DT)=some true) (Y:X.env.kindOf n=some .local:=by rfl) (hg:Gl X T:=by rfl) (l:C2 T:=by decide)
  (j:X.stack=X.env::X.outer/\X.env.frame=some X.env.locals:=by exact⟨rfl,rfl⟩)
  (hf:X.fn n=true\/X.env.scope.names.lookup n=some .local:=by ext) (a:X.calm=true:=by rfl) :
  Eo fr X (.Try body [.ExceptHandler (some (.Name T np)) (some n) (b₀::suite) aL] [] [] pos) (OK sub i g h):=by
 refine cP (b:=X.pl) hb (λaa D B A H env' c fl m H1 σ1 s1 e C T' dct c2 ai k1 af ah am Lq_ r q=>?_) j;split at q
 case isFalse=>exact q.elim
 rename_i x;have r:F3 H1 c2:=(Gj.v r (Lq_.J.ok.hd a)).f;obtain⟨oe,ve,oT,ts,g1,g2,_⟩:=id Lq_.tr;have LT:Looks (model X.prog X.w) s1.heap (typeOf (.ref e)) (.ref C):=(JI g2).1▸(Looks.ld g1).andThen .now;refine JC (IM (U9 (Lq_.J.toH (e:=e)) hg hT ?_ l)) (by intro z;cases z);refine(exm_one (M:=model X.prog X.w) Lq_.J.kIn LT (G c C ah x)).here ?_;show codeAny _ _ _ _ _;refine codeAny_handlers_suite_as (Lq_.land j.1 λs3 I=>?_);obtain⟨s,F,_,_,e1,e2,e3,e4,_⟩:=id I.tr;have ak:F[2]?=c2:=(JI e2).2;have t:=I.J.nloc e1 e4;have S:NE e C dct s3.heap:=⟨s,e1,(JI e2).1,e3,λcc z=>by rw[e4] at z;cases z⟩;have J4:F' X aa σ1 (W7 H1 e (.frz s (.ext (NE e C dct)))) s3:=I.J.track Lq_.un Lq_.lo t.1 t.2 Lq_.pe ⟨e1,S,⟨_,e1⟩,λha hb ⟨o,z1,W⟩ k=>⟨o,k _ z1,W⟩⟩;have sm:Zp H1 (W7 H1 e (.frz s (.ext (NE e C dct)))):=Mr Lq_.un;have ae:m e=false:=by
  cases y:m e with
  | false=>rfl
  | true=>obtain⟨o,ho⟩:=(k1.mu e y).some;rw[Lq_.un] at ho;cases ho
 refine Hg J4 hN hi hx (v:=.ref e) rfl (λs5 J5=>?_) hf;have rp:Rp X.K (av (W7 H1 e (.frz s (.ext (NE e C dct)))) m) (.exc c fl) (.ref e):=by
  unfold Rp;exact⟨e,C,dct,rfl,.inr ⟨s,V4 Zn ae⟩,ah,am.mono (Wl sm)⟩
 have k5:=(k1.mono sm).put i rp;have P:Ky fr (X.inH (X.pn++aa) e) B m (W7 H1 e (.frz s (.ext (NE e C dct)))) (LP.mk (λσ' H'=>D.nx (σ'.set i none) H') D.rt (λσ' H'=>D.bk (σ'.set i none) H') (λσ' H'=>D.ct (σ'.set i none) H')) (h (env'.set i (.fz (.exc c fl)))):=by
  have q2:=q.step (ai.trans (I'.same sm));unfold bo at q2;cases p:h (env'.set i (.fz (.exc c fl))) with
  | next e'=>rw[p] at q2;exactλA' H' σ' s' k'=>q2 A' H' _ s' (k'.clr i)
  | brk e'=>rw[p] at q2;exactλA' H' σ' s' k'=>q2 A' H' _ s' (k'.clr i)
  | cont e'=>rw[p] at q2;exactλA' H' σ' s' k'=>q2 A' H' _ s' (k'.clr i)
  | ret d=>rw[p] at q2;exact q2
  | exc e' c' Q=>rw[p] at q2;exact q2.elim
  | no=>rw[p] at q2;exact q2
 refine BQ (hh (X.pn++aa) e [] s5 _ _ _ J5.toH ⟨.inr ⟨e,s,F,_,rfl,Zn,e4,by rw[ak];exact r.mono sm⟩,_,B,m,k5,af,P⟩) (λf s6 hs=>?_) (λ_ _ z=>z.elim);show wpAny _ _ _ _ _ _;cases f with
 | next=>obtain⟨σ',H',R,q'⟩:=hs;exact Nl (R.ofH Lq_.J.ok) hN hi Y λs7 I7=>⟨_,H',I7,q'⟩
 | brk=>obtain⟨σ',H',R,q'⟩:=hs;exact Nl (R.ofH Lq_.J.ok) hN hi Y λs7 I7=>⟨_,H',I7,q'⟩
 | cont=>obtain⟨σ',H',R,q'⟩:=hs;exact Nl (R.ofH Lq_.J.ok) hN hi Y λs7 I7=>⟨_,H',I7,q'⟩
 | ret u=>obtain⟨v,σ',H',R,r',q'⟩:=hs;exact Nl (R.ofH Lq_.J.ok) hN hi Y λs7 I7=>⟨v,_,H',I7,r',q'⟩
end
section
variable{X:Cx}{e:C3}{f:Zzu}
def NF(sb:Str->C1 Bool)(f:Zzu):Ev->C1 Dat:=λenv=>(f env).bind λd=>match d with
 | .exc c _=>(sb c).map .bl
 | _=>none
theorem bC{c:Str}{b:Bool}{Q:LM}(I:F' X aa σ H s)(r:Rp X.K H (.exc c fl) v)(B:Yu v u)(Y:∀ C,Wd X.K c C->kitOne X.K (.ref C) cv=some b/\LL X.K C)(h:∀ tk,Q (.bool b) { s with toks:=tk }) :
  wpAny (model X.prog X.w) A (call (.builtin "isinstance") [u,cv]) Q E s:=by
 obtain⟨ex,C,dct,e1,e2,e3,e4⟩:=VI r;subst e1;cases B;obtain⟨o,h1,h2,_⟩:=e2.ok I.hok;obtain⟨a,xc⟩:=Y C e3;exact kia_one (ij xc) I.kIn ⟨o,h1,h2⟩ a (λz=>nomatch z) h
theorem mw{x:Str}{D:A2}(hg:Gl X x)(hm:X.mg x=some (.ref D))(hd:C2 x:=by decide):PE X (.Name x p) (λσ H Q=>Q (.ref D) H):=λaa s σ H Q I h=>U9 I hg hm ⟨.ref D,H,I,rfl,h⟩ hd
theorem i0{sb:Str->C1 Bool}{D:A2}(he:Wp true X e f)(j:X.mg tx=some (.ref D))(Y:∀ c C b,Wd X.K c C->sb c=some b->kitOne X.K (.ref C) (.ref D)=some b/\LL X.K C)(hm:X.mg "isinstance" = none)(hg:Gl X "isinstance" := by rfl)(i:Gl X tx:=by rfl)(hv:bootBuiltins "isinstance" = some (.builtin "isinstance"):=by ext)(g:C2 tx:=by decide)
  (hs:starEach [e,.Name tx p2] X.env=(false,eval e X.env)::starEach [.Name tx p2] X.env:=by rfl):Wp m X (.Call (.Name "isinstance" p) [e,.Name tx p2] [] pos) (NF sb f):=by
 have hc:Vf X (.builtin "isinstance") (λvs H Q=>∃ v A d b c fl,vs=[v,.ref D]/\Ux A H/\d=.exc c fl/\sb c=some b/\Pk X.K A H d v/\T9 false X.K A H (.bl b) Q):=by
  intro aa s σ H xs us Q I r ⟨v,A,d,b,c,fl,e1,mu,e2,e3,p1,q⟩;subst e1 e2;obtain⟨u,J,rfl,B,a⟩:=Ae r;cases a;exact bC I p1.rp B (λC hC=>Y c C b hC e3) λtk=>⟨.bl b,H,I.tok _,rfl,q.here T3⟩
 refine Wp.any ((Sv hc hg hm hv (Yl he (Yl (mw i j g) Vo) hs) (he:=hs)).weak λσ H Q zz=>?_);obtain⟨env,R,A,d,k,q1,q2⟩:=zz;obtain⟨x,e1,h⟩:=bind_some q1;cases x with
 | exc c fl =>
  obtain⟨b,e2,h⟩:=map_some h;subst h;exact⟨env,R,A,_,k,e1,λv H1 s1 p1=>⟨v,A,_,b,c,fl,rfl,k.mu.mono s1,rfl,e2,p1,q2.mono s1⟩⟩
 | _=>cases h
theorem eU{sb:Str->C1 Bool}{T:String}(he:Wp true X e f)(j:X.mg tx=none)(l:bootBuiltins tx=some (.type T))(n:tx≠"__name__")(Y:∀ c C b,Wd X.K c C->sb c=some b->kitOne X.K (.ref C) (.type T)=some b/\LL X.K C)(hm:X.mg "isinstance" = none)(hg:Gl X "isinstance" := by rfl)(i:Gl X tx:=by rfl)(hv:bootBuiltins "isinstance" = some (.builtin "isinstance"):=by ext)(g:C2 tx:=by decide)
  (hs:starEach [e,.Name tx p2] X.env=(false,eval e X.env)::starEach [.Name tx p2] X.env:=by rfl):Wp m X (.Call (.Name "isinstance" p) [e,.Name tx p2] [] pos) (NF sb f):=by
 have hc:Vf X (.builtin "isinstance") (λvs H Q=>∃ v A d b c fl,vs=[v,.ty T]/\Ux A H/\d=.exc c fl/\sb c=some b/\Pk X.K A H d v/\T9 false X.K A H (.bl b) Q):=by
  intro aa s σ H xs us Q I r ⟨v,A,d,b,c,fl,e1,mu,e2,e3,p1,q⟩;subst e1 e2;obtain⟨u,J,rfl,B,a⟩:=Ae r;cases a;exact bC I p1.rp B (λC hC=>Y c C b hC e3) λtk=>⟨.bl b,H,I.tok _,rfl,q.here T3⟩
 refine Wp.any ((Sv hc hg hm hv (Yl he (Yl (ZZ i j l n g) Vo) hs) (he:=hs)).weak λσ H Q zz=>?_);obtain⟨env,R,A,d,k,q1,q2⟩:=zz;obtain⟨x,e1,h⟩:=bind_some q1;cases x with
 | exc c fl =>
  obtain⟨b,e2,h⟩:=map_some h;subst h;exact⟨env,R,A,_,k,e1,λv H1 s1 p1=>⟨v,A,_,b,c,fl,rfl,k.mu.mono s1,rfl,e2,p1,q2.mono s1⟩⟩
 | _=>cases h
def XD.d:XD->Dat
 | .int i=>.int i
 | .nums is=>.lst (is.map .int)
def RZ(ok:Str->Bool)(fd:Str)(f:Zzu):Ev->C1 Dat:=λenv=>(f env).bind λd=>match d with
 | .exc c fl=>if ok c=true then(fl.lookup fd).map XD.d else none
 | _=>none
theorem gw{K:Frag}{d:XD}(h:RB K H d v):Rp K H d.d v:=by
 cases d with
 | int i=>cases h;exact Wc
 | nums is =>
  obtain⟨a,e1,e2,e3⟩:=h;subst e1;exact Da (by rw[AB];exact e3) e2 (Mw is)
theorem UA{fd:Str}{okc:Str->Bool}(he:Wp false X e f)(Y:∀ c C,Wd X.K c C->okc c=true->LL X.K C/\findIn X.K (.ref C) fd=some none)(hb:attributeBase e fd X.env (eval e X.env)=eval e X.env:=by rfl):Wp m X (.Attribute e fd pos) (RZ okc fd f):=by
 refine Wp.any ?_;intro aa s σ H Q I ⟨env,R,A,d,k,q1,q2⟩;obtain⟨x,e1,h⟩:=bind_some q1;cases x with
 | exc c fl =>
  dsimp only at h;split at h
  case isFalse=>cases h
  rename_i hok;obtain⟨xd,e2,h⟩:=map_some h;subst h;refine jU hb (V2 (he aa s σ H (λv H1=>Zp H H1/\Rp X.K (av H1 A) (.exc c fl) v) I ⟨env,R,A,_,k,e1,λv H1 s1 p1=>?_⟩) λu s1 ⟨v,H1,I1,B,sm,r⟩=>?_)
  .exact⟨s1,p1⟩
  obtain⟨ex,C,dct,z1,W,z3,z4⟩:=VI r;subst z1;cases B;obtain⟨o,h1,h2,h3,h4⟩:=(W.mono W5).ok I1.hok;obtain⟨xc,hf⟩:=Y c C z3 hok;cases dct with
  | none =>
   have z4:fl=[]:=z4;subst z4;cases e2
  | some dx =>
   obtain⟨j,y1,y2⟩:=z4;rcases y2 fd with⟨y3,_⟩ | ⟨d',n,y3,G,y5⟩
   .rw[y3] at e2;cases e2
   .rw[y3] at e2;cases e2
    obtain⟨mA,p,F⟩:=(show Yr X.prog X.w H1 s1.heap dx (.xd j) from I1.hok dx _ (Tg y1).2);have hr:=F fd;rw[G] at hr;obtain⟨b,hu,l⟩:∃ b,mA fd=some b/\Yu n b:=by
     cases hm:mA fd with
     | none=>rw[hm] at hr;exact hr.elim
     | some b=>rw[hm] at hr;exact⟨b,rfl,hr⟩
    obtain⟨oC,cd,hC,ai,J⟩:=xc.ld I1.kIn;have LT:Looks (model X.prog X.w) s1.heap (typeOf (.ref ex)) (.ref C):=h2▸(Looks.ld h1).andThen .now;have hh:handedOut b=pure b:=by
     refine handedOut_of ?_;cases xd with
     | int i=>cases y5;obtain⟨t,rfl⟩:=l;rfl
     | nums is=>obtain⟨a,z,_⟩:=y5;subst z;cases l;rfl
    obtain⟨hh',g,d,tk,os⟩:=s1;refine gu (K:=X.K) I1.kIn h1 h2 h4 h3 p hu hf hC ai J (LT.andThen (xc.sub I1.kIn "BaseException" (by decide))) xc.ga xc.gh hh ?_;exact⟨n,H1,I1.tok _,l,(q2.mono sm).here (gw y5)⟩
 | _=>cases h
end
end L2
variable{vs:Z PySem.Value}{y:PySem.Str}{al:Z PySem.Stmt}
namespace L2
open PySem
def NK(xs:Array Nat):Prop:=∀ i k (h1:i<k) (h2:k<xs.size),xs[i]<xs[k]
theorem Xd(xs:Array Nat)(j:Nat)(hr:NK xs):∀ (fuel lo hi:Nat),hi - lo<=fuel->lo<=hi->hi<=xs.size->(∀ k (h:k<xs.size),k<lo->xs[k]<j)->(∀ k (h:k<xs.size),hi<=k->j<=xs[k]) ->
  SetTable.below.go xs j fuel lo hi<=xs.size/\(∀ k (h:k<xs.size),k<SetTable.below.go xs j fuel lo hi->xs[k]<j)/\(∀ k (h:k<xs.size),SetTable.below.go xs j fuel lo hi<=k->j<=xs[k])
 | 0,lo,hi,hf,hl,hh,h1,h2=>by
  have:lo=hi:=by lia
  subst this;exact⟨hh,h1,h2⟩
 | fuel+1,lo,hi,hf,hl,hh,h1,h2=>by
  rw[SetTable.below.go];split
  .rename_i ae
   dsimp only;have hm:(lo+hi) / 2<xs.size:=by lia
   have hg:xs.getD ((lo+hi) / 2) j=xs[(lo+hi) / 2]:=by simp[Array.getD,hm]
   rw[hg];split
   .rename_i hx
    refine Xd xs j hr fuel _ _ (by lia) (by lia) hh (λk h Y=>?_) h2;rcases EV k ((lo+hi) / 2) with h3 | h3
    .exact LI (hr k _ h3 hm) hx
    .have:k=(lo+hi) / 2:=by lia
     subst this;exact hx
   .rename_i hx
    refine Xd xs j hr fuel _ _ (by lia) (by lia) (by lia) h1 (λk h Y=>?_);rcases EV ((lo+hi) / 2) k with h3 | h3
    .exact EU (EL (IJ hx) (hr _ k h3 h))
    .have:k=(lo+hi) / 2:=by lia
     subst this;exact IJ hx
  .have:lo=hi:=by lia
   subst this;exact⟨hh,h1,h2⟩
theorem O6(hr:NK xs)(j:Nat):SetTable.below xs j<=xs.size/\(∀ k (h:k<xs.size),k<SetTable.below xs j->xs[k]<j)/\(∀ k (h:k<xs.size),SetTable.below xs j<=k->j<=xs[k]) :=
 Xd xs j hr xs.size 0 xs.size (by lia) (CV _) (AT _) (λk h Y=>by lia) (λk h Y=>by lia)
theorem XY(hr:NK xs)(hi:i<=xs.size)(h1:∀ k (h:k<xs.size),k<i->xs[k]<j)(h2:∀ k (h:k<xs.size),i<=k->j<=xs[k]):SetTable.below xs j=i:=by
 obtain⟨a,b,c⟩:=O6 hr j;rcases Nat.lt_trichotomy (SetTable.below xs j) i with h | h | h
 .have Y:SetTable.below xs j<xs.size:=by lia
  have:=c _ Y (AT _);have:=h1 _ Y h;lia
 .exact h
 .have Y:i<xs.size:=by lia
  have:=b _ Y h;have:=h2 _ Y (AT _);lia
theorem me(hr:NK xs)(i:Nat)(hi:i<xs.size):SetTable.below xs (xs[i]+1)=i+1 :=
 XY hr (by lia) (λk h Y=>by
  rcases EV k i with h3 | h3
  .exact DJ (hr k i h3 hi)
  .have:k=i:=by lia
   subst this;exact ED _) (λk h Y=>hr i k (by lia) h)
theorem gP(hr:NK xs):SetTable.below xs 0=0:=XY hr (CV _) (λk h Y=>by lia) (λk h Y=>CV _)
theorem Pd:NK xs↔xs.toList.Pairwise (· < ·):=by
 rw[HB];constructor
 .intro h i j hi hj c
  have:=h i j c (by simpa using hj);simpa using this
 .intro h i j c hj
  have:=h i j (by simp;lia) (by simpa using hj) c;simpa using this
theorem fH(xs:Array α)(p:Nat)(x:α)(hp:p<=xs.size):(SetTable.insertAt xs p x).toList=xs.toList.take p++x::xs.toList.drop p:=by
 unfold SetTable.insertAt;simp;rw[BZ (by rw[CA,BF];exact AT _)]
theorem jp(hr:NK xs)(hn:¬ xs[SetTable.below xs j]?=some j):NK (SetTable.insertAt xs (SetTable.below xs j) j):=by
 obtain⟨a,b,c⟩:=O6 hr j;rw[Pd,fH _ _ _ a,List.pairwise_append];have hp:=Pd.mp hr;refine⟨hp.sublist (JT _ _),JM.mpr ⟨λy G=>?_,hp.sublist (List.drop_sublist _ _)⟩,λy G z hz=>?_⟩
 .obtain⟨k,Y,rfl⟩:=IV.mp G
  rw[CA,BF] at Y;have l:SetTable.below xs j+k<xs.size:=by lia
  have h1:=c _ l (by lia);rw[List.getElem_drop,IW];rcases Nat.eq_or_lt_of_le h1 with h2 | h2
  .exfalso
   apply hn;have hb:SetTable.below xs j<xs.size:=by lia
   rw[CC hb];congr 1
   have h3:=c _ hb (AT _);rcases DF k with h0 | h0
   .subst h0;simpa using h2.symm
   .have:=hr (SetTable.below xs j) (SetTable.below xs j+k) (by lia) l
    lia
  .exact h2
 .obtain⟨k,Y,rfl⟩:=IV.mp G
  rw[BN,BF] at Y;have l:k<xs.size:=by lia
  rw[List.getElem_take,IW];have h1:=b k l (by lia);rcases BA.mp hz with rfl | hz
  .exact h1
  .obtain⟨m,hm,rfl⟩:=IV.mp hz
   rw[CA,BF] at hm;have h2:=c (SetTable.below xs j+m) (by lia) (by lia);rw[List.getElem_drop,IW];lia
structure LS (t:SetTable):Prop where
 ris:NK t.place
 dum:t.dummies=#[]
theorem pM(n:Nat):NK (Array.range n):=λi k h1 h2=>by simpa using h1
theorem i3:NK #[]:=λi k h1 h2=>by simp at h2
theorem LS.fresh(a b:Nat)(led:Bool):LS (SetTable.fresh a b led):=⟨i3,rfl⟩
theorem LS.standIn(t:SetTable)(n:Nat):LS (t.standIn n):=⟨pM n,rfl⟩
theorem bJ(j:Nat):SetTable.has #[] j=false:=by unfold SetTable.has;simp
theorem oQ{t:SetTable}(h:LS t)(e:t.slot j=.empty):¬ t.place[SetTable.below t.place j]?=some j:=by
 unfold SetTable.slot at e;dsimp only at e;split at e
 .cases e
 .rename_i hn;intro z;apply hn;rw[z];simp
theorem Av{t:SetTable}(h:LS t)(j:Nat):t.slot j≠.dummy:=by
 unfold SetTable.slot;dsimp only;rw[h.dum,bJ];split
 .simp
 .simp
theorem b3{t:SetTable}(h:LS t)(hashAt:Nat->Int)(hs:Int)(ag:∀ i,hashAt i≠hs):∀ (fuel:Nat) (p:SetTable.Probe),p.dummy=none->∀ m,SetTable.probe.go t hashAt hs fuel p=some m->∃ j,m=.empty j none/\t.slot j=.empty
 | 0,p,hd,m,e=>by rw[SetTable.probe.go] at e;cases e
 | fuel+1,p,hd,m,e=>by
  rw[SetTable.probe.go] at e;have b:∀ p:SetTable.Probe,p.dummy=none->(t.advance p).dummy=none:=λp hp=>by
   unfold SetTable.advance;split
   .exact hp
   .exact hp
  split at e
  .rename_i es
   cases e;exact⟨p.j,by rw[hd],es⟩
  .rename_i es
   exact absurd es (Av h _)
  .split at e
   .rename_i hq
    exact absurd (by simpa using hq) (ag _)
   .exact b3 h hashAt hs ag fuel _ (b p hd) m e
theorem lY{t:SetTable}(h:LS t){hs:Int}{d:Bool}(e:t.freeSlot hs=some (j,d)):d=false/\t.slot j=.empty:=by
 unfold SetTable.freeSlot at e;split at e
 .rename_i u dm hp
  obtain⟨F,e1,e2⟩:=b3 h (λ_=>hs+1) hs (λi=>by lia) _ _ rfl _ hp;cases e1;cases e;exact⟨rfl,e2⟩
 .cases e
theorem LS.put{t:SetTable}(h:LS t)(e:t.slot j=.empty):LS (t.put j).1:=by
 unfold SetTable.put;exact⟨jp h.ris (oQ h e),by dsimp only;rw[h.dum,bJ,AK (by decide)]⟩
theorem LS.orStandIn{t:SetTable}(h:LS t)(n:Nat):LS (t.orStandIn n):=by
 unfold SetTable.orStandIn;split
 .exact h
 .exact LS.standIn t n
theorem Xu(t:SetTable)(n:Nat):(t.orStandIn n).led=t.led:=by unfold SetTable.orStandIn SetTable.standIn;split<;>rfl
theorem jc{t:SetTable}(h:LS t)(es:Array (Int×A1))(hs:Int)(x:A1):LS (layNew t es hs x).2.1/\(layNew t es hs x).2.1.led=t.led/\List.Perm (layNew t es hs x).1.toList (es.push (hs,x)).toList:=by
 unfold layNew;split
 .rename_i slot wd e
  obtain⟨_,e2⟩:=lY h e;dsimp only;exact⟨(h.put e2).orStandIn _,by rw[Xu];rfl,SetTable.insertAt_perm es _ _⟩
 .exact⟨LS.standIn _ _,rfl,EO _⟩
theorem Ee(f:Nat->C1 (Nat×Nat))(hf:∀ j p,f j=some p->p.1=j):∀ n,(((List.range n).filterMap f).map (·.1)).Pairwise (· < ·)/\∀ x∈((List.range n).filterMap f).map (·.1),x<n
 | 0=>by simp
 | n+1=>by
  obtain⟨a,b⟩:=Ee f hf n;rw[HM,List.filterMap_append,BM];cases e:f n with
  | none =>
   simp only[EK,e,List.filterMap_nil,KN,EG];exact⟨a,λx hx=>DJ (b x hx)⟩
  | some p =>
   have hp:=hf n p e;simp only[EK,e,List.filterMap_nil,CF,KN];refine⟨List.pairwise_append.mpr ⟨a,List.pairwise_singleton _ _,λx hx y G=>?_⟩,λx hx=>?_⟩
   .rw[AI.mp G,hp];exact b x hx
   .rcases CB.mp hx with h | h
    .exact DJ (b x h)
    .rw[AI.mp h,hp];exact ED _
theorem j7{b c f:Nat}{plain:Bool}{a:Array Int}{t:SetTable}{d:Array Nat}(e:SetTable.laid b c f led plain a=some (t,d)):LS t/\t.led=led:=by
 unfold SetTable.laid at e;cases ho:SetTable.layClean b a with
 | none=>rw[ho] at e;cases e
 | some owner =>
  rw[ho] at e;cases e;refine⟨⟨?_,rfl⟩,rfl⟩;rw[Pd];dsimp only;exact(Ee (λj=>(owner.getD j none).map (j,·)) (λj p hp=>by
   cases h:owner.getD j none with
   | none=>rw[h] at hp;cases hp
   | some q=>rw[h] at hp;cases hp;rfl) (b+1)).1
theorem Ej(xs:Z α):∀ (n:Nat),n<=xs.length->(List.range n).filterMap (xs[·]?)=xs.take n
 | 0,_=>by simp
 | n+1,h=>by
  rw[HM,List.filterMap_append,Ej xs n (by lia),FY,AJ (by lia)];simp[AJ (show n<xs.length by lia)]
theorem N7{t:SetTable}(h:LS t)(es:Array (Int×A1))(c:Nat):LS (relayAll t es c).2.1/\(relayAll t es c).2.1.led=t.led/\List.Perm (relayAll t es c).1.toList es.toList:=by
 unfold relayAll;split
 .rename_i t' d e
  dsimp only;split
  .rename_i hc
   rw[AW] at hc;obtain⟨a,b⟩:=j7 e;refine⟨a,b,?_⟩;have hp:List.Perm d.toList (List.range es.size):=by
    have:=hc.1;unfold coversAll at this;exact List.isPerm_iff.mp this
   rw[Array.toList_filterMap];have h2:=hp.filterMap (es[·]?);refine h2.trans ?_;have h3:=Ej es.toList es.size (by simp);simp only[EN] at h3;rw[h3];rw[BZ (by simp)]
  .exact⟨LS.standIn _ _,rfl,EO _⟩
 .exact⟨LS.standIn _ _,rfl,EO _⟩
end L2
variable{xs:Array PySem.Value}
namespace L2
open PySem PySem.Spec PyProof.Rows
def TD:A1->Int
 | .int i _=>i
 | _=>0
def SO(es:Array (Int×A1)):Z Int:=es.toList.map λe=>TD e.2
def Us(es:Array (Int×A1))(ep:Nat)(t:SetTable):Obj:={ cls:=.type "set",dict:=none,data:=.set es ep t,slots:=#[] }
def SK(P:Fn)(w:Gf)(h:G2)(a:A2)(led:Bool)(ks:Z Int):Prop :=
 ∃ es ep t,h.get? a=some (Us es ep t)/\ElemsOf (intKind P w) es.toList/\(SO es).Perm ks/\es.size<scanBound/\t.fits es.size=true/\LS t/\t.led=led
theorem O7{k:Int}(h:Value.isInt k v=true):∃ t,v=.int k t:=Value.isInt_shape h
theorem gH(i:ElemsOf (intKind P w) es.toList)(k:Int):(es.toList.findIdx? λe=>(intKind P w).is k e.2).isSome=decide (k∈SO es):=by
 rw[DW,List.findIdx?_isSome,FQ,BU];unfold SO;rw[CS];constructor
 .rintro⟨e,he,Y⟩
  obtain⟨t,ht⟩:=O7 Y;exact⟨e,he,by rw[ht];rfl⟩
 .rintro⟨e,he,Y⟩
  obtain⟨⟨k',C,_⟩,_⟩:=i e he;refine⟨e,he,?_⟩;obtain⟨t,ht⟩:=O7 C;rw[ht] at Y;cases Y;exact C
theorem Hc{a:A2}{t:SetTable}(ho:h.get? a=some (Us es ep t))(i:Array (Int×A1))(t':SetTable):(h.update a (Obj.putSet i t')).get? a=some (Us i (ep+1) t'):=by
 have:=BH (Obj.putSet i t') ho rfl;exact this
def Qh(ks:Z Int)(k:Int):Z Int:=if k∈ks then ks else ks++[k]
theorem fy{a:A2}{k:Int}{Q:Bool->A4->Prop}(hS:SK P w s.heap a led ks)(hroom:ks.length+1<scanBound)
   (h:∀ b h',SameBut a s.heap h'->SK P w h' a led (Qh ks k)->Q b { s with heap:=h' }) :
   wpAny (model P w) A (setAddHashed a (.int k tk) (hashInt k)) Q E s:=by
 obtain⟨es,ep,t,ho,i,hp,hb,hf,hT,g⟩:=hS;have l:(intKind P w).is k (.int k tk)=true:=intKind_is _ _ _ _;have J:es.size=ks.length:=by rw[<- BF,<- hp.length_eq];unfold SO;rw[AB]
 unfold setAddHashed setAddHashedIn;refine BP (AA (FJ ho rfl hf ?_));dsimp only;rw[byScan_of (knd:=intKind P w) rfl hb i];simp only[↓reduceIte];unfold setAddByScan;refine AA ?_;refine AA (HQ ?_);refine AA (wpAny_setScan_of (knd:=intKind P w) l ho rfl hf i ?_);have n:=gH i k;cases hr:List.findIdx? (λe=>(intKind P w).is k e.2) es.toList with
 | some j =>
   rw[hr] at n;have Y:k∈ks:=hp.mem_iff.mp (BK n.symm);dsimp only;refine AC (AC ?_);have:=h false s.heap (SameBut.refl a s.heap) ⟨es,ep,t,ho,i,by unfold Qh;rw[AE Y];exact hp,hb,hf,hT,g⟩;cases s;exact this
 | none =>
   rw[hr] at n;have Y:k∉ks:=λhm=>by have:=JN n.symm;exact this (hp.mem_iff.mpr hm)
   dsimp only;obtain⟨l1,l2,l3⟩:=jc hT es (hashInt k) (.int k tk);have d:=layNew_fits t es (hashInt k) (.int k tk);show wpAny _ _ (match layNew t es (hashInt k) (.int k tk) with | (es,t,wasDummy,u)=>_) _ _ _;generalize D:layNew t es (hashInt k) (.int k tk)=Lq_ at l1 l2 l3 d ⊢;obtain⟨c,S,wd,u⟩:=Lq_;dsimp only at l1 l2 l3 d ⊢;rw[Array.toList_push] at l3;have v:ElemsOf (intKind P w) c.toList:=(i.push (knd:=intKind P w) l rfl).perm l3;have hsz1:c.size=es.size+1:=by rw[<- BF,l3.length_eq,AQ,BF];rfl
   have m:c.size<scanBound:=by lia
   have aG:(SO c).Perm (ks++[k]):=by
     have:=l3.map λe:Int×A1=>TD e.2
     rw[BM] at this;exact this.trans (hp.append (EO _))
   have y:Qh ks k=ks++[k]:=by unfold Qh;rw[AK Y]
   have B:∀ h' p r t2,SameBut a s.heap h'->h'.get? a=some (Us p r t2)->List.Perm p.toList c.toList->t2.fits p.size=true->LS t2->t2.led=led->Q true { s with heap:=h' }:=λh' p r t2 o H ae ah x af =>
     h true h' o ⟨p,r,t2,H,v.perm ae,by rw[y];exact(ae.map _).trans aG,by rw[<- BF,ae.length_eq,BF];exact m,ah,x,af⟩
   have z:∀ (b:Bool) (f:Bool->Sem Unit) {s1:A4} {Q':Unit->A4->Prop},(f true=rule "set.scan.the-table-gave-way")->(f false=pure ())->Q' () s1->wpAny (model P w) A (f b) Q' E s1:=λb f s1 Q' h1 h2 hq=>by
     cases b with
     | true=>rw[h1];exact HQ hq
     | false=>rw[h2];exact AC hq
   refine AA (z _ _ rfl rfl ?_);split
   · refine AA ?_
     rw[hashByValue_scannable 8 rfl];refine AC ?_;simp only[plainKind,↓reduceIte];refine AA (HX ho rfl ?_ (FK m));have C:=Hc ho c S;have q:=DR s.heap a (Obj.putSet c S);split
     · obtain⟨r1,r2,r3⟩:=N7 l1 c (SetTable.grown c.size)
       have ag:=relayAll_fits S c (SetTable.grown c.size);refine AA (z _ _ rfl rfl ?_);refine AA (HX C rfl ?_ (FK (by rw[<- BF,r3.length_eq,BF];exact m)));exact AC (AC (B _ _ _ _ (q.trans (DR _ a _)) (Hc C _ _) r3 ag r1 (by rw[r2,l2,g])))
     · exact AC (AC (B _ _ _ _ q C (EO _) d l1 (by rw[l2,g])))
   · refine AA (AC ?_)
     simp only[↓reduceIte];refine AA (HX ho rfl ?_ (FK m));have C:=Hc ho c S;have q:=DR s.heap a (Obj.putSet c S);split
     · obtain⟨r1,r2,r3⟩:=N7 l1 c (SetTable.grown c.size)
       have ag:=relayAll_fits S c (SetTable.grown c.size);refine AA (z _ _ rfl rfl ?_);refine AA (HX C rfl ?_ (FK (by rw[<- BF,r3.length_eq,BF];exact m)));exact AC (AC (B _ _ _ _ (q.trans (DR _ a _)) (Hc C _ _) r3 ag r1 (by rw[r2,l2,g])))
     · exact AC (AC (B _ _ _ _ q C (EO _) d l1 (by rw[l2,g])))
def fm(val:Nat->Int)(i:Nat):Z Int:=((List.range i).map val).foldl Qh []
theorem YB(val:Nat->Int)(i:Nat):fm val (i+1)=Qh (fm val i) (val i):=by unfold fm;rw[HM,BM,IP];rfl
theorem gD(ks:Z Int)(k:Int):(Qh ks k).length<=ks.length+1:=by unfold Qh;split<;>simp
theorem WW(val:Nat->Int):∀ i,(fm val i).length<=i
 | 0=>AT _
 | i+1=>by rw[YB];have:=gD (fm val i) (val i);have:=WW val i;lia
theorem SK.heap{a:A2}(hS:SK P w h a led ks)(e:∀ o,h.get? a=some o->h'.get? a=some o):SK P w h' a led ks:=by
 obtain⟨es,ep,t,ho,r⟩:=hS;exact⟨es,ep,t,e _ ho,r⟩
section
variable{R:Result->A4->Prop}{G:Array GenState->Array GenState->Prop}{n:Nat}{St:Nat->A4->Prop}
theorem ek(W:WalksS P w A.in1 I fp wr G n Pv St)(S:A2)(m:S∉fp)(val:Nat->Int)(a:∀ i v,Pv i v->∃ t,v=.int (val i) t)(hb:n+1<scanBound) :
  ∀ (k i:Nat) (s:A4),n - i=k->i<=n->St i s->SK P w s.heap S led (fm val i) ->
   (∀ s',Moved (S::wr) G s s'->SK P w s'.heap S led (fm val n)->R (.ok (.ret .none)) s') ->
   codeAny (model P w) A (.builtin "set.update.loop" ⟨[.ref S,.ref I],[]⟩) R s:=by
 have hw:S∉wr:=λh=>m (W.sub _ h)
 have up:∀ b∈wr,b∈S::wr:=λb h=>AR _ h
 intro k;induction k with
 | zero =>
  intro i s Y hi af hS hR;obtain rfl:i=n:=by lia
  refine DG F.entry_set_update_loop ?_;rw[FO HU _];show wpAny _ A.in1 (pyNext (.ref I) >>= _) _ _ s;refine AA (W.done s _ _ af λs' hm=>?_);exact AC (hR s' (hm.mono up) (hS.heap λo e=>hm.heap S o hw e))
 | succ k ih =>
  intro i s Y hi af hS hR;have ae:i<n:=by lia
  refine DG F.entry_set_update_loop ?_;rw[FO HU _];show wpAny _ A.in1 (pyNext (.ref I) >>= _) _ _ s;refine AA (W.item i s _ _ ae af λv s' g f hm=>?_);obtain⟨t,rfl⟩:=a i v g;have d:=hS.heap (h':=s'.heap) λo e=>hm.heap S o hw e
  show wpAny _ A.in1 (holding [Value.int (val i) t] (setAdd S (.int (val i) t)) >>= _) _ _ s';refine AA (BP ?_);unfold setAdd;refine BP (AA ((intKind P w).pyHash (k:=val i) (intKind_is _ _ _ _) ?_));refine fy (s:={ s' with toks:=s'.toks+1 }) d (by have:=WW val i;lia) λb h' sb j=>?_
  rw[<- YB] at j;refine AC ⟨GU HU _,ih (i+1) _ (by lia) ae (W.frame _ s' _ _ f (DP _) λb hb o e=>?_) j λc l p=>?_⟩
  .rw[sb.2 b λh=>m (h▸hb)];exact e
  .refine hR c (Moved.trans W.gtrans ((hm.mono up).then_heap (DP _) λb o hb e=>?_) l) p
   rw[sb.2 b λh=>hb (by rw[h];exact AX)];exact e
end
abbrev Lu(w:Gf):Bool:=!w.params.followText "set-order"
abbrev Vu(w:Gf):Obj:=Us #[] 0 (.fresh 0 0 (Lu w))
theorem fq(a:A1){Q₁:LM}(h:Q₁ (.ref s.heap.objs.size) { s with heap:=s.heap.push (Vu w) }) :
  codeAny (model P w) A (.call (.builtin "set.__new__") ⟨[.type "set",a],[]⟩) (wants Q₁ E) s:=by
 refine KI ?_;show wpAny _ A.in1 (do checkBuiltinCall "set.__new__" ⟨[.type "set",a],[]⟩;again (.builtin "set.__new__" ⟨[.type "set",a],[]⟩)) _ _ s;refine AA (ES (F.newCall_set_1 a) (AC ⟨GU F.plain_set_new _,DG F.entry_set_new ?_⟩));rw[FO F.plain_set_new _];unfold Builtin.«set.__new__» Builtin.Frozenset.newClass;have G:=sub_set_self;obtain⟨hp,g,d,tk,os⟩:=s;dsimp only
 wp_walk
 refine KG (AC ?_);dsimp only;simp only[newObj];exact AA (wpAny_alloc (AC (AC h)))
theorem jz(h:G2):SK P w (h.push (Vu w)) h.objs.size (Lu w) []:=⟨#[],0,_,AU _ rfl,λe he=>by simp at he,EO _,by decide,by rfl,LS.fresh _ _ _,rfl⟩
end L2
variable{v:L2.V}
namespace PySem
namespace F
theorem Fs:Manifest.owners.lookup (String.ofList ['r','o','t','a','r','e','t','i','_','t','e','s'].reverse)=some Manifest.sig_set_iterator:=by kernel_rfl
theorem slot_sit_next:Slot "set_iterator" "__next__" "set_iterator.__next__" :=
 .of (owner:="set_iterator") (n:="__next__") (by rw[HA,FH];kernel_rfl) (by ext) (by ext) (by ext)
  (by first | exact .inl (by ext) | exact .inr (by ext)) (by rw[JG];kernel_rfl)
theorem entry_sit_next:entryFor table "set_iterator.__next__" = some Builtin.«set_iterator.__next__» := entryFor_of_tree (by kernel_rfl)
theorem args_sit_next_1(a:A1):argsOk "set_iterator.__next__" ⟨[a],[]⟩:=by
 unfold argsOk;rw[signature?_of (id:="set_iterator.__next__") (n:=['_','_','t','x','e','n','_','_']) (o:=['r','o','t','a','r','e','t','i','_','t','e','s']) (by kernel_rfl) Fs];kernel_rfl
theorem slot_sit_iter:Slot "set_iterator" "__iter__" "set_iterator.__iter__" :=
 .of (owner:="set_iterator") (n:="__iter__") (by rw[HA,FH];kernel_rfl) (by ext) (by ext) (by ext)
  (by first | exact .inl (by ext) | exact .inr (by ext)) (by rw[JG];kernel_rfl)
theorem args_sit_iter_1(a:A1):argsOk "set_iterator.__iter__" ⟨[a],[]⟩:=by
 unfold argsOk;rw[signature?_of (id:="set_iterator.__iter__") (n:=['_','_','r','e','t','i','_','_']) (o:=['r','o','t','a','r','e','t','i','_','t','e','s']) (by kernel_rfl) Fs];kernel_rfl
theorem entry_sit_iter:entryFor table "set_iterator.__iter__" = some Builtin.«dict_keyiterator.__iter__» :=
 entryFor_alias (id':="dict_keyiterator.__iter__") (by kernel_rfl) (by first | rfl | decide +kernel | (unfold String.splitOn;simp +decide [String.splitOnAux])) (by ext) (by kernel_rfl)
end F
end PySem
namespace L2
open PySem PySem.Spec PyProof.Rows
theorem j6{src:Source}{n:Nat}{Q:Nat->A4->Prop}(hn:n≠0)(h:∀ i d,i<n->Q i { s with drawn:=d }):wpAny (model P w) A (choose src n) Q E s:=λΓ p hΓ=>⟨hn,h _ _ (EM _ (Nat.pos_of_ne_zero hn))⟩
theorem Os{xs:Z α}(hi:i<xs.length):(xs[i]::xs.eraseIdx i).Perm xs:=by
 rw[List.eraseIdx_eq_take_drop_succ];have h1:=(List.perm_middle (a:=xs[i]) (l₁:=xs.take i) (l₂:=xs.drop (i+1))).symm;rw[List.getElem_cons_drop,GL] at h1;exact h1
theorem Y':∀ (n:Nat) (xs:Z α) (s:A4) (Q:Z α->A4->Prop),xs.length=n->(∀ ys d,ys.Perm xs->Q ys { s with drawn:=d })->wpAny (model P w) A (drawOrder n xs) Q E s
 | 0,xs,s,Q,hl,h=>by
  have:xs=[]:=List.eq_nil_of_length_eq_zero hl;subst this;unfold drawOrder;have:=h [] s.drawn (EO _);exact AC (by cases s;exact this)
 | n+1,[],s,Q,hl,h=>by simp at hl
 | n+1,x::xs,s,Q,hl,h=>by
  unfold drawOrder;refine AA (j6 (by simp) λi d hi=>?_);have hg:(x::xs)[i]?=some ((x::xs)[i]):=AJ hi;rw[hg];dsimp only;refine AA (Y' n ((x::xs).eraseIdx i) _ _ (by rw[List.length_eraseIdx_of_lt hi];lia) λys d' hp=>?_);refine AC (h _ d' ?_);exact(List.Perm.cons _ hp).trans (Os hi)
theorem cx(next:Nat->Nat):∀ (fuel k:Nat) (left:Z α) (out:Array α),left.length=fuel->(pickOrder.go next fuel k left out).toList.Perm (out.toList++left)
 | 0,k,left,out,hl=>by
  have:left=[]:=List.eq_nil_of_length_eq_zero hl;subst this;rw[pickOrder.go];simp
 | fuel+1,k,left,out,hl=>by
  rw[pickOrder.go];have hi:next k % left.length<left.length:=EM _ (by lia);rw[AJ hi];dsimp only;refine(cx next fuel (k+1) _ _ (by rw[List.length_eraseIdx_of_lt hi];lia)).trans ?_;rw[Array.toList_push,FR];exact List.Perm.append_left _ (Os hi)
theorem Cc(next:Nat->Nat)(xs:Array α):(pickOrder next xs).toList.Perm xs.toList:=by
 have:=cx next xs.size 0 xs.toList #[] (by simp);unfold pickOrder;simpa using this
def ZE(first:A1)(i:Nat)(S:A2)(n ep:Nat):Obj:={ cls:=.type "set_iterator",data:=.fields #[first,rawInt i,.ref S,rawInt n,rawInt ep] }
def Es(h:G2)(I:A2)(first:A1)(i:Nat)(S:A2)(n ep:Nat):Prop:=∃ o,h.get? I=some o/\o.cls=.type "set_iterator" /\ o.data=.fields #[first,rawInt i,.ref S,rawInt n,rawInt ep]
theorem A7{sl':Nat}{t:SetTable}{x:A1}(c:Es s.heap I (rawInt sl) i S es.size ep)(hS:s.heap.get? S=some (Us es ep t))(hf:t.fits es.size=true)
  (b:∀ (A:C0) (E:LM) (Q:C1 (A1×Nat)->A4->Prop),Q (some (x,sl')) s->wpAny (model P w) A (setNext S sl i ep) Q E s)
  (j:∀ h',Es h' I (rawInt sl') (i+1) S es.size ep->SameBut I s.heap h'->Q (some x) { s with heap:=h' }):wpAny (model P w) A (pyNext (.ref I)) Q E s:=by
 obtain⟨o,ho,hc,hd⟩:=id c;have hT:s.TypeIs (.ref I) "set_iterator" := ⟨o,ho,hc⟩;unfold pyNext;refine AA (GV (CL (name:=Str.ofString "__next__") hT F.slot_sit_next
  (BY F.slot_sit_next hT F.entry_sit_next ?_ (F.args_sit_next_1 _))))
 unfold Builtin.«set_iterator.__next__»;refine AA (ES (a:=(Value.ref I,[])) rfl ?_);dsimp only;refine AA (JH ho hd ?_);dsimp only[rawInt];refine AA (FU hS rfl hf ?_);rw[AK (by simp)];refine AA (b _ _ _ ?_);dsimp only;refine AA (CW ho hd (by simp) ?_);have C:=BH (Obj.mapFields (·.setIfInBounds 0 (Value.int sl' 0))) ho (DK (BV hd _));have d:=BV hd (·.setIfInBounds 0 (Value.int sl' 0));refine AA (CW C d (by simp) ?_);have H:=BH (Obj.mapFields (·.setIfInBounds 1 (Value.int ((i:Int)+1) 0))) C (DK (BV d _));have g:=BV d (·.setIfInBounds 1 (Value.int ((i:Int)+1) 0));refine AC ⟨x,rfl,AC (j _ ⟨_,H,?_,?_⟩ ((DR ..).trans (DR ..)))⟩
 .rw[GG,GG];exact hc
 .rw[g];simp[rawInt]
theorem dJ{o:Obj}{vs:Array A1}(hh:A.handled=none)(ho:s.heap.get? I=some o)(hd:o.data=.fields vs)(hz:2<vs.size)(j:∀ h',ExtBut I s.heap h'->Q none { s with heap:=h' }) :
   wpAny (model P w) A.in1 (do setField (.ref I) 2 .none;let e <- newExc (.type "StopIteration") [];raiseNew e) (λB s'=>∃ v,B=Fin.done (Flow.ret v)/\wpAny (model P w) A (pure (some v)) Q E s')
     (λe s'=>wpAny (model P w) A (do let b <- isInstance e (.type "StopIteration");if b=true then pure none else throw e) Q E s') s:=by
 refine AA (CW ho hd hz ?_);refine AA ?_;simp only[newExc,newTuple];refine AA (BO ?_ (by size_fits));refine AA (m:=firstArgMember _ _) (ES (a:=Value.none) (by first | rfl | (simp only[firstArgMember];rfl)) ?_);refine BO ?_ (by size_fits);simp only[raiseNew];refine AA (JP ?_);first | rw[show A.in1.handled=none from hh] | rw[hh]
 refine AA (AC (KM ?_));refine AA (GR (T:="StopIteration") (b:=true) ⟨_,AU _ rfl,rfl⟩ KO ?_);exact AC (j _ (((DR ..).extBut.push _).push _))
theorem bu{t:SetTable}(hh:A.handled=none)(c:Es s.heap I (rawInt sl) i S es.size ep)(hS:s.heap.get? S=some (Us es ep t))(hf:t.fits es.size=true)
  (b:∀ (A:C0) (E:LM) (Q:C1 (A1×Nat)->A4->Prop),Q none s->wpAny (model P w) A (setNext S sl i ep) Q E s)
  (j:∀ h',ExtBut I s.heap h'->Q none { s with heap:=h' }):wpAny (model P w) A (pyNext (.ref I)) Q E s:=by
 obtain⟨o,ho,hc,hd⟩:=id c;have hT:s.TypeIs (.ref I) "set_iterator" := ⟨o,ho,hc⟩;unfold pyNext;refine AA (GV (CL (name:=Str.ofString "__next__") hT F.slot_sit_next
  (BY F.slot_sit_next hT F.entry_sit_next ?_ (F.args_sit_next_1 _))))
 unfold Builtin.«set_iterator.__next__»;refine AA (ES (a:=(Value.ref I,[])) rfl ?_);dsimp only;refine AA (JH ho hd ?_);dsimp only[rawInt];refine AA (FU hS rfl hf ?_);rw[AK (by simp)];refine AA (b _ _ _ ?_);dsimp only;exact dJ hh ho hd (by simp) j
theorem o4{D:A2}{t:SetTable}{ps:Z Nat}{q:Nat}{x:Int×A1}(c:Es s.heap I (.ref D) i S es.size ep)(hS:s.heap.get? S=some (Us es ep t))(hf:t.fits es.size=true)
  (y:s.heap.IsTuple D (ps.map λp:Nat=>rawInt p).toArray) (hq:ps[i]?=some q) (hx:es[q]?=some x)
  (j:∀ h',Es h' I (.ref D) (i+1) S es.size ep->SameBut I s.heap h'->Q (some x.2) { s with heap:=h' }):wpAny (model P w) A (pyNext (.ref I)) Q E s:=by
 obtain⟨o,ho,hc,hd⟩:=id c;obtain⟨od,G,ai,nd,aj⟩:=y;have hT:s.TypeIs (.ref I) "set_iterator" := ⟨o,ho,hc⟩;unfold pyNext;refine AA (GV (CL (name:=Str.ofString "__next__") hT F.slot_sit_next
  (BY F.slot_sit_next hT F.entry_sit_next ?_ (F.args_sit_next_1 _))))
 unfold Builtin.«set_iterator.__next__»;refine AA (ES (a:=(Value.ref I,[])) rfl ?_);dsimp only;refine AA (JH ho hd ?_);dsimp only[rawInt];refine AA (FU hS rfl hf ?_);rw[AK (by simp)];refine AA (GK G aj ?_);have hg:((ps.map λp:Nat=>rawInt p).toArray)[((i:Int)).toNat]?=some (rawInt q):=by simp[hq]
 dsimp only;rw[hg];dsimp only[rawInt];unfold setNextDrawn;refine AA (AA (FJ hS rfl hf ?_));dsimp only;simp only[BR,bne_self_eq_false,FE,HF,hx];refine AC ?_;refine AA (CW ho hd (by simp) ?_);have H:=BH (Obj.mapFields (·.setIfInBounds 1 (Value.int ((i:Int)+1) 0))) ho (DK (BV hd _));have g:=BV hd (·.setIfInBounds 1 (Value.int ((i:Int)+1) 0));refine AC ⟨x.2,rfl,AC (j _ ⟨_,H,?_,?_⟩ (DR ..))⟩
 .rw[GG];exact hc
 .rw[g];simp[rawInt]
theorem pU{D:A2}{t:SetTable}{ps:Z Nat}(hh:A.handled=none)(c:Es s.heap I (.ref D) i S es.size ep)(hS:s.heap.get? S=some (Us es ep t))(hf:t.fits es.size=true)
  (y:s.heap.IsTuple D (ps.map λp:Nat=>rawInt p).toArray) (hq:ps[i]?=none)
  (j:∀ h',ExtBut I s.heap h'->Q none { s with heap:=h' }):wpAny (model P w) A (pyNext (.ref I)) Q E s:=by
 obtain⟨o,ho,hc,hd⟩:=id c;obtain⟨od,G,ai,nd,aj⟩:=y;have hT:s.TypeIs (.ref I) "set_iterator" := ⟨o,ho,hc⟩;unfold pyNext;refine AA (GV (CL (name:=Str.ofString "__next__") hT F.slot_sit_next
  (BY F.slot_sit_next hT F.entry_sit_next ?_ (F.args_sit_next_1 _))))
 unfold Builtin.«set_iterator.__next__»;refine AA (ES (a:=(Value.ref I,[])) rfl ?_);dsimp only;refine AA (JH ho hd ?_);dsimp only[rawInt];refine AA (FU hS rfl hf ?_);rw[AK (by simp)];refine AA (GK G aj ?_);have hg:((ps.map λp:Nat=>rawInt p).toArray)[((i:Int)).toNat]?=none:=by simpa using hq
 dsimp only;rw[hg];dsimp only;refine AA (CW ho hd (by simp) ?_);have C:=BH (Obj.mapFields (·.setIfInBounds 0 (Value.int 0 0))) ho (DK (BV hd _));have d:=BV hd (·.setIfInBounds 0 (Value.int 0 0));exact dJ hh C d (by simp) λh' he=>j h' λb o hb e=>he b o hb ((DR s.heap I (Obj.mapFields (·.setIfInBounds 0 (Value.int 0 0)))).extBut b o hb e)
theorem Du{Q:Bool->A4->Prop}(h:Q (w.params.followText "set-order") s):wpAny (model P w) A setsByText Q E s:=by
 unfold setsByText;exact AA (KG (AC h))
theorem Aa{t:SetTable}{Q:C1 (A1×Nat)->A4->Prop}(hb:w.params.followText "set-order" = true)(hS:s.heap.get? S=some (Us es ep t))(hf:t.fits es.size=true)
  (h:Q (((pickOrder (w.params.setOrder S ep) es)[i]?).map λe=>(e.2,sl)) s):wpAny (model P w) A (setNext S sl i ep) Q E s:=by
 unfold setNext;refine AA (FJ hS rfl hf ?_);dsimp only;refine AA (Du ?_);rw[hb,AE rfl,AK (by simp)];unfold setWalk;refine AA (AA (FJ hS rfl hf ?_));dsimp only;refine AA (Du ?_);rw[hb,AE rfl];refine AA (KG (AC ?_));exact AC h
theorem Pa{t:SetTable}{Q:C1 (A1×Nat)->A4->Prop}(hb:w.params.followText "set-order" = false)(hS:s.heap.get? S=some (Us es ep t))(hf:t.fits es.size=true)(ac:(!t.plain&&decide (es.size > 1))=false)(g:t.led=true)
  (h:Q (match es[SetTable.below t.place sl]?,t.place[SetTable.below t.place sl]? with | some (_,x),some j=>some (x,j+1) | _,_=>none) s):wpAny (model P w) A (setNext S sl i ep) Q E s:=by
 unfold setNext;refine AA (FJ hS rfl hf ?_);dsimp only;refine AA (Du ?_);rw[hb,AK (by decide)];refine HC (λf=>absurd f (by show ¬ ((!t.plain&&decide (es.size > 1))=true);rw[ac];decide)) (λ_=>?_);refine AA ?_;show wpAny _ _ (if(!t.led&&!es.isEmpty)=true then unsupported "set:maker-not-led" else pure ()) _ _ _;rw[g,AK (by simp)];exact AC (AC h)
def By(t:SetTable):Nat->Nat
 | 0=>0
 | i+1=>t.place.getD i 0+1
theorem bO{t:SetTable}(hT:LS t)(hi:i<=t.place.size):SetTable.below t.place (By t i)=i:=by
 cases i with
 | zero=>exact gP hT.ris
 | succ i =>
  have y:i<t.place.size:=hi;show SetTable.below t.place (t.place.getD i 0+1)=i+1;rw[show t.place.getD i 0=t.place[i] by simp[Array.getD,y]];exact me hT.ris i y
theorem mx{t:SetTable}(hh:A.handled=none)(ag:S≠I)(hb:w.params.followText "set-order" = false)(hf:t.fits es.size=true)(ac:(!t.plain&&decide (es.size > 1))=false)(g:t.led=true)(hT:LS t) :
  Walks P w A I [I,S] [I] es.size (λi v=>(es[i]?).map (·.2)=some v) (λi h=>i<=es.size/\Es h I (rawInt (By t i)) i S es.size ep/\h.get? S=some (Us es ep t)) where
 sub:=λb hb=>by simp at hb;simp[hb]
 frame:=λi h h' st Y=>⟨st.1,(by obtain⟨o,a,b⟩:=st.2.1;exact⟨o,Y I (by simp) o a,b⟩),Y S (by simp) _ st.2.2⟩
 item:=λi s Q E hi st j=>by
  have l:t.place.size=es.size:=by unfold SetTable.fits at hf;simp at hf;exact hf.1
  have hx:es[i]?=some es[i]:=CC hi;have hp:t.place[i]?=some t.place[i]:=CC (by lia);refine A7 (sl':=By t (i+1)) (x:=es[i].2) st.2.1 st.2.2 hf (λA E Q q=>Pa hb st.2.2 hf ac g ?_) λh' h1 h2=>?_
  .rw[bO hT (by lia),hx,hp]
   have:By t (i+1)=t.place[i]+1:=by show t.place.getD i 0+1=_;simp[Array.getD,show i<t.place.size by lia]
   rw[this] at q;exact q
  .exact j _ h' s.toks (by rw[hx];rfl) ⟨hi,h1,by rw[h2.2 S ag];exact st.2.2⟩ λb o hb e=>by rw[h2.2 b (λz=>hb (by simp[z]))];exact e
 done:=λs Q E st j=>by
  have l:t.place.size=es.size:=by unfold SetTable.fits at hf;simp at hf;exact hf.1
  refine bu hh st.2.1 st.2.2 hf (λA E Q q=>Pa hb st.2.2 hf ac g ?_) λh' h1=>j h' s.toks λb o hb e=>h1 b o (λz=>hb (by simp[z])) e
  rw[bO hT (by lia),Array.getElem?_eq_none (by lia)];exact q
 self:=λi s Q E st j=>by
  obtain⟨o,ho,hc,hd⟩:=st.2.1;have c:s.TypeIs (.ref I) "set_iterator" := ⟨o,ho,hc⟩;refine HY c F.slot_sit_iter (BY F.slot_sit_iter c F.entry_sit_iter ?_ (F.args_sit_iter_1 _));show wpAny _ _ (ret (.ref I)) _ _ s;exact AC ⟨_,rfl,"set_iterator",_,c,F.slot_sit_next.lookup,j⟩
theorem lI{t:SetTable}(hh:A.handled=none)(ag:S≠I)(hb:w.params.followText "set-order" = true)(hf:t.fits es.size=true) :
  Walks P w A I [I,S] [I] es.size (λi v=>((pickOrder (w.params.setOrder S ep) es)[i]?).map (·.2)=some v) (λi h=>i<=es.size/\Es h I (rawInt (0:Nat)) i S es.size ep/\h.get? S=some (Us es ep t)) where
 sub:=λb hb=>by simp at hb;simp[hb]
 frame:=λi h h' st Y=>⟨st.1,(by obtain⟨o,a,b⟩:=st.2.1;exact⟨o,Y I (by simp) o a,b⟩),Y S (by simp) _ st.2.2⟩
 item:=λi s Q E hi st j=>by
  have hsz:(pickOrder (w.params.setOrder S ep) es).size=es.size:=by have:=(Cc (w.params.setOrder S ep) es).length_eq;simpa using this
  have hx:(pickOrder (w.params.setOrder S ep) es)[i]?=some ((pickOrder (w.params.setOrder S ep) es)[i]):=CC (by lia);refine A7 (sl':=0) (x:=((pickOrder (w.params.setOrder S ep) es)[i]).2) st.2.1 st.2.2 hf (λA E Q q=>Aa hb st.2.2 hf ?_) λh' h1 h2=>?_
  .rw[hx];exact q
  .exact j _ h' s.toks (by rw[hx];rfl) ⟨hi,h1,by rw[h2.2 S ag];exact st.2.2⟩ λb o hb e=>by rw[h2.2 b (λz=>hb (by simp[z]))];exact e
 done:=λs Q E st j=>by
  have hsz:(pickOrder (w.params.setOrder S ep) es).size=es.size:=by have:=(Cc (w.params.setOrder S ep) es).length_eq;simpa using this
  refine bu hh st.2.1 st.2.2 hf (λA E Q q=>Aa hb st.2.2 hf ?_) λh' h1=>j h' s.toks λb o hb e=>h1 b o (λz=>hb (by simp[z])) e
  rw[Array.getElem?_eq_none (by lia)];exact q
 self:=λi s Q E st j=>by
  obtain⟨o,ho,hc,hd⟩:=st.2.1;have c:s.TypeIs (.ref I) "set_iterator" := ⟨o,ho,hc⟩;refine HY c F.slot_sit_iter (BY F.slot_sit_iter c F.entry_sit_iter ?_ (F.args_sit_iter_1 _));show wpAny _ _ (ret (.ref I)) _ _ s;exact AC ⟨_,rfl,"set_iterator",_,c,F.slot_sit_next.lookup,j⟩
theorem kD{D:A2}{t:SetTable}{ps:Z Nat}(hh:A.handled=none)(ag:S≠I)(aa:D≠I)(hf:t.fits es.size=true)(l:ps.Perm (List.range es.size)) :
  Walks P w A I [I,S,D] [I] es.size (λi v=>(ps[i]?).bind (λq=>(es[q]?).map (·.2))=some v) (λi h=>i<=es.size/\Es h I (.ref D) i S es.size ep/\h.get? S=some (Us es ep t)/\h.IsTuple D (ps.map λp:Nat=>rawInt p).toArray) where
 sub:=λb hb=>by simp at hb;simp[hb]
 frame:=λi h h' st Y=>⟨st.1,(by obtain⟨o,a,b⟩:=st.2.1;exact⟨o,Y I (by simp) o a,b⟩),Y S (by simp) _ st.2.2.1,st.2.2.2.at λo e=>Y D (by simp) o e⟩
 item:=λi s Q E hi st j=>by
  have hl:ps.length=es.size:=by have:=l.length_eq;simpa using this
  have hq:ps[i]?=some (ps[i]'(by lia)):=AJ (by lia);have ae:ps[i]'(by lia)<es.size:=DU.mp (l.mem_iff.mp (HZ _));refine o4 st.2.1 st.2.2.1 hf st.2.2.2 hq (CC ae) λh' h1 h2=>?_
  exact j _ h' s.toks (by rw[hq];show Option.map _ _=_;rw[CC ae];rfl) ⟨hi,h1,by rw[h2.2 S ag];exact st.2.2.1,st.2.2.2.at λo e=>by rw[h2.2 D aa];exact e⟩ λb o hb e=>by rw[h2.2 b (λz=>hb (by simp[z]))];exact e
 done:=λs Q E st j=>by
  have hl:ps.length=es.size:=by have:=l.length_eq;simpa using this
  exact pU hh st.2.1 st.2.2.1 hf st.2.2.2 (EJ (by lia)) λh' h1=>j h' s.toks λb o hb e=>h1 b o (λz=>hb (by simp[z])) e
 self:=λi s Q E st j=>by
  obtain⟨o,ho,hc,hd⟩:=st.2.1;have c:s.TypeIs (.ref I) "set_iterator" := ⟨o,ho,hc⟩;refine HY c F.slot_sit_iter (BY F.slot_sit_iter c F.entry_sit_iter ?_ (F.args_sit_iter_1 _));show wpAny _ _ (ret (.ref I)) _ _ s;exact AC ⟨_,rfl,"set_iterator",_,c,F.slot_sit_next.lookup,j⟩
end L2
variable{es:Z PySem.Expr}{Q:Unit->PySem.Shared->Prop}
namespace PySem.F
theorem entry_set_iter:entryFor table "set.__iter__" = some Builtin.«frozenset.__iter__» :=
 entryFor_alias (id':="frozenset.__iter__") (by kernel_rfl) (by first | rfl | decide +kernel | (unfold String.splitOn;simp +decide [String.splitOnAux])) (by ext) (by kernel_rfl)
end PySem.F
namespace L2
open PySem PySem.Spec PyProof.Rows
def SW(P:Fn)(w:Gf)(h':G2)(I S F:Nat)(es:Array (Int×A1)):Prop :=
 ∃ (fp:Z A2) (vs:Z A1) (Pv:Nat->A1->Prop) (St:Nat->G2->Prop),(∀ A:C0,A.handled=none->Walks P w A I fp [I] es.size Pv St)/\St 0 h'/\(∀ i v,Pv i v->vs[i]?=some v)/\vs.Perm (es.toList.map (·.2))/\I∈fp/\(∀ b∈fp,b<h'.objs.size)/\(∀ b∈fp,b=S\/F<=b)/\F<=I
theorem m5{es:Array (Int×A1)}{t:SetTable}{Q:LM}(hS:s.heap.get? S=some (Us es ep t))(hf:t.fits es.size=true)(hT:LS t)(g:t.led=Lu w)(hb:es.size<scanBound)
  (j:∀ I h' d,SW P w h' I S s.heap.objs.size es->(∀ b o,s.heap.get? b=some o->h'.get? b=some o)->Q (.ref I) { s with heap:=h',drawn:=d }):wpAny (model P w) A (pyIter (.ref S)) Q E s:=by
 have c:s.TypeIs (.ref S) "set" := ⟨_,hS,rfl⟩;refine HY c F.slot_set_iter (BY F.slot_set_iter c F.entry_set_iter ?_ (F.args_set_iter_1 _));unfold Builtin.«frozenset.__iter__»;refine AA (ES (a:=S) (by first | rfl | kernel_rfl) ?_);unfold Builtin.Frozenset.sizeOf;refine AA (AA (FU hS rfl hf (AC ?_)));unfold setDrawn;refine AA (AA (FJ hS rfl hf ?_));dsimp only;refine AA (Du (AC ?_));have h:S<s.heap.objs.size:=AN hS;refine HC (λf=>?_) (λf=>?_)
 .refine AA (Y' es.size (List.range es.size) _ _ (by simp) λps d l=>?_)
  simp only[newTuple];have ac:ps.length=es.size:=by have:=l.length_eq;simpa using this
  refine AA (BO ?_ (by show(ps.map λi:Nat=>rawInt i).toArray.size<=sizeLine;rw[AV,AB,ac];exact FK hb));have r:=AD { cls:=Value.type "tuple",data:=Data.seq (ps.map λi:Nat=>rawInt i).toArray } hS;refine AA (wpAny_setEpoch_of (s:={ s with heap:=s.heap.push _,drawn:=d }) r rfl hf ?_);simp only[newFields];refine AA (BO ?_ (by size_fits));refine AC ⟨_,rfl,"set_iterator",_,⟨_,AU _ rfl,rfl⟩,F.slot_sit_next.lookup,j _ _ d ?_ λb o e=>AD _ (AD _ e)⟩;refine⟨[(s.heap.push _).objs.size,S,s.heap.objs.size],ps.map (λq=>((es[q]?).map (·.2)).getD .none),_,_,λA hh=>kD (es:=es) (ep:=ep) (t:=t) (ps:=ps) hh (by rw[Yy];exact BJ (DJ h)) (by rw[Yy];exact BJ (ED _)) hf l,?_,?_,?_,by simp,?_,?_,?_⟩
  .exact⟨CV _,⟨_,AU _ rfl,rfl,rfl⟩,AD _ r,⟨_,AD _ (AU _ rfl),rfl,0,rfl⟩⟩
  .intro i v hv
   cases hq:ps[i]? with
   | none=>rw[hq] at hv;cases hv
   | some q =>
    rw[hq] at hv;rw[AM,hq];show some (((es[q]?).map (·.2)).getD .none)=_;rw[show(es[q]?).map (·.2)=some v from hv];rfl
  .refine(l.map _).trans ?_
   rw[show(List.range es.size).map (λq=>((es[q]?).map (·.2)).getD .none)=es.toList.map (·.2) from ?_];apply List.ext_getElem
   .simp
   .intro k h1 h2
    have Y:k<es.size:=by simpa using h1
    simp[Y]
  .intro b m
   rw[Yy];show b<(Heap.push _ _).objs.size+1;rw[Yy];rcases BA.mp m with e | e
   .rw[e,Yy];exact ED _
   .rcases BA.mp e with e | e
    .rw[e];exact DJ (DJ h)
    .rw[AI.mp e];exact DJ (ED _)
  .intro b m
   rcases BA.mp m with e | e
   .rw[e,Yy];exact .inr (DP _)
   .rcases BA.mp e with e | e
    .exact .inl e
    .rw[AI.mp e];exact .inr (AT _)
  .show _<=(Heap.push _ _).objs.size
   rw[Yy];exact DP _
 .refine AA (AC ?_)
  refine AA (wpAny_setEpoch_of hS rfl hf ?_);simp only[newFields];refine AA (BO ?_ (by size_fits));refine AC ⟨_,rfl,"set_iterator",_,⟨_,AU _ rfl,rfl⟩,F.slot_sit_next.lookup,j _ _ s.drawn ?_ λb o e=>AD _ e⟩;have x:∀ b∈[s.heap.objs.size,S],b<(s.heap.push (ZE (rawInt (0:Nat)) 0 S es.size ep)).objs.size:=λb hb=>by
   rw[Yy];rcases BA.mp hb with e | e
   .rw[e];exact ED _
   .rw[AI.mp e];exact DJ h
  have u:∀ b∈[s.heap.objs.size,S],b=S\/s.heap.objs.size<=b:=λb hb=>by
   rcases BA.mp hb with e | e
   .rw[e];exact .inr (AT _)
   .exact .inl (AI.mp e)
  have p:Es (s.heap.push (ZE (rawInt (0:Nat)) 0 S es.size ep)) s.heap.objs.size (rawInt (0:Nat)) 0 S es.size ep:=⟨_,AU _ rfl,rfl,rfl⟩;cases n:w.params.followText "set-order" with
  | true =>
   refine⟨[s.heap.objs.size,S],(pickOrder (w.params.setOrder S ep) es).toList.map (·.2),_,_,λA hh=>lI (t:=t) hh (BJ h) n hf,⟨CV _,p,AD _ hS⟩,λi v hv=>?_,(Cc _ es).map _,by simp,x,u,AT _⟩;rw[AM,EN];exact hv
  | false =>
   have ac:(!t.plain&&decide (es.size > 1))=false:=by
    rw[n] at f;have:¬ ((!t.plain&&decide (es.size > 1))=true):=λz=>f (show(!false&&(!t.plain&&decide (es.size > 1)))=true by rw[z];rfl)
    simpa using this
   refine⟨[s.heap.objs.size,S],es.toList.map (·.2),_,_,λA hh=>mx (t:=t) (ep:=ep) hh (BJ h) n hf ac (by rw[g];unfold Lu;rw[n];rfl) hT,⟨CV _,p,AD _ hS⟩,λi v hv=>?_,EO _,by simp,x,u,AT _⟩;rw[AM,EN];exact hv
theorem Xq:typeLookup (.type "set") "__len__" = pure (some (.builtin "set.__len__")):=by rw[HA,FH];kernel_rfl
theorem pc{Q:Bool->A4->Prop}(hT:s.TypeIs (.ref S) "set")(h:Q false s):wpAny (model P w) A (Builtin.List.listLengthHint (.ref S)) Q E s:=by
 unfold Builtin.List.listLengthHint;refine AA (IU hT Xq ?_)
 (generalize a:("set.__len__" : String)=c;(fail_if_success (clear a c));wp_delta;rw[show splitId c=some ("set","__len__") from by subst a;decide +kernel];subst a)
 refine AA (GR (b:=true) hT (by rw[JG];kernel_rfl) ?_);refine HC (λf=>absurd f (by decide)) (λ_=>?_);refine HC (λ_=>?_) (λf=>absurd (by ext) f);refine AA (FS hT ?_);exact AC h
theorem kJ{B:Array A1}{n:Nat}(h:ItemsOf Pv B n)(hp:∀ i v,Pv i v->vs[i]?=some v)(hn:vs.length=n):B.toList=vs:=by
 apply List.ext_getElem?;intro i;by_cases hi:i<B.size
 .rw[EN,CC hi]
  exact(hp i _ (h.2 i _ (CC hi))).symm
 .rw[EJ (by rw[BF];lia),EJ (by rw[hn,<- h.1];lia)]
theorem nV{Q:Z A1->A4->Prop}(hh:A.handled=none)(hS:SK P w s.heap S (Lu w) ks)
  (j:∀ vs h' tk d,(∃ ns,IntsAre vs ns/\ns.Perm ks)->(∀ b o,s.heap.get? b=some o->h'.get? b=some o)->s.heap.objs.size<=h'.objs.size->Q vs { s with heap:=h',toks:=tk,drawn:=d }):wpAny (model P w) A (collect (.ref S)) Q E s:=by
 obtain⟨es,ep,t,ho,i,hp,hb,hf,hT,g⟩:=hS;unfold collect;refine AA (HP (DG F.entry_proto_collect ?_));rw[FO F.plain_proto_collect _];show wpAny _ A.in1 (newList [] >>= λl=>again (.builtin "list.__iadd__" ⟨[l,.ref S],[]⟩)) _ _ s;refine AA (BO ?_);refine AC ⟨GU F.plain_list_iadd _,DG F.entry_list_iadd ?_⟩;rw[FO F.plain_list_iadd _];show wpAny _ A.in1 (Builtin.List.listExtendWith (.ref s.heap.objs.size) (.ref S) (.ref s.heap.objs.size)) _ _ _;unfold Builtin.List.listExtendWith;have h:S<s.heap.objs.size:=AN ho;have C:=AD { cls:=Value.type "list",data:=Data.seq ([]:Z A1).toArray } ho;refine AA (FS (T:="set") ⟨_,C,rfl⟩ ?_);have g1:Builtin.List.listSameRef (.ref s.heap.objs.size) (.ref S)=false:=by simp[Builtin.List.listSameRef,JF h]
 have g2:(Value.type "set" == Value.type "list")=false:=by decide
 have g3:(Value.type "set" == Value.type "tuple")=false:=by decide
 simp only[g1,g2,g3,IH,FE,HF];refine AA (m5 C hf hT g hb λI h' d sw kp=>?_);have H:=kp _ _ C;refine AA (BP (pc ⟨_,H,rfl⟩ ?_));refine HC (λ_=>?_) (λf=>absurd (by ext) f);refine AA (HQ ?_);obtain⟨fp,vs,Pv,St,W,st,r,a,hI,ae,q,x⟩:=sw;rw[Yy] at q x;have D:(s.heap.push { cls:=Value.type "list",data:=Data.seq ([]:Z A1).toArray }).get? s.heap.objs.size=some { cls:=Value.type "list",data:=Data.seq ([]:Z A1).toArray }:=AU _ rfl;have y:=kp _ _ D;have m:s.heap.objs.size∉fp:=λhm=>by
  rcases q _ hm with e | e
  .exact JF h e
  .exact Nat.not_succ_le_self _ e
 refine AA ?_;show wpAny _ _ (updateSeq s.heap.objs.size (·.push .none) >>= λ_=>updateSeq s.heap.objs.size (·.pop)) _ _ _;refine AA (KL y rfl ?_);have N:=BH (Obj.mapSeq (·.push Value.none)) y rfl;refine KL (hz:=by seq_fits) N rfl ?_;have R:=BH (Obj.mapSeq (·.pop)) N rfl;have p:∀ b o,b≠s.heap.objs.size->h'.get? b=some o->((h'.update s.heap.objs.size (Obj.mapSeq (·.push Value.none))).update s.heap.objs.size (Obj.mapSeq (·.pop))).get? b=some o:=λb o hb e=>(BB _ _ (AY hb)).trans ((BB _ _ (AY hb)).trans e)
 have X:=W A.in1 hh;have J:vs.length=es.size:=by have:=a.length_eq;simpa using this
 refine AC ⟨GU F.plain_extend_loop _,codeAny_extend_loopS (X.toS) (FK hb) _ m _ es.size 0 _ _ _ rfl (CV _) (X.frame 0 _ _ st λb hb o e=>p b o (λz=>m (z▸hb)) e) R (ItemsOf.nil _) λs' B c hm hA M=>?_⟩;show wpAny _ A (load s.heap.objs.size >>= _) _ _ s';refine AA (wpAny_load hA ?_);rw[KZ hm];refine AC (j _ _ _ _ ?_ (λb o e=>hm.heap b o (λu=>?_) (p b o (BJ (AN e)) (kp _ _ (AD _ e)))) (EU (AN hA)))
 .have e:=kJ M r J
  show ∃ ns,IntsAre B.toList ns/\_;rw[e];refine⟨vs.map TD,?_,?_⟩
  .have G:∀ v∈vs,∃ k t,v=Value.int k t:=λv hv=>by
    obtain⟨e,he,rfl⟩:=CS.mp (a.mem_iff.mp hv);obtain⟨⟨k,Y,_⟩,_⟩:=i e he;obtain⟨t,ht⟩:=O7 Y;exact⟨k,t,ht⟩
   clear a e r J;induction vs with
   | nil=>exact .nil
   | cons v vs ih =>
    obtain⟨k,t,rfl⟩:=G v AX;exact .cons k t (ih λv hv=>G v (AR _ hv))
  .refine(a.map TD).trans ?_
   rw[FB];exact hp
 .have n:=AN e
  rcases BA.mp u with z | z
  .exact BJ n z
  .rw[AI.mp z] at n
   exact DI _ (AO n (Nat.le_of_succ_le x))
end L2
namespace Sq
open PySem PyProof PyProof.Rows
section
variable{a₀:Array Keyed}{p:Array (Nat×Nat×Nat)}
end
section
variable{r:Int->Int->Prop}{a b out:Z Keyed}{ia ib:Nat}
end
section
variable{a b:Array Keyed}{n0:Nat}
end
section
variable{a₀:Array Keyed}
end
end Sq
namespace L2
open PySem PySem.Spec PyProof.Rows
theorem d2(ns:Z Int):fm (λi=>ns.getD i 0) ns.length=ns.foldl Qh []:=by
 unfold fm;congr 1
 apply List.ext_getElem
 .simp
 .intro i h1 h2
  simp[List.getD_eq_getElem?_getD,AJ h2]
section
variable{X:Cx}
theorem F'.drawn(d:Drawn)(I:F' X aa σ H s):F' X aa σ H { s with drawn:=d }:=⟨I.ok,I.os,I.bare,I.base,I.loc,I.cell,I.free,I.freeC,I.pin,I.hok,I.len⟩
theorem addK_nd(h:ks.Nodup)(k:Int):(Qh ks k).Nodup:=by
 unfold Qh;split
 .exact h
 .rename_i Y
  exact GJ.mpr ⟨h,DB.mpr ⟨by simp,DN⟩,λa ha b hb=>by
   rw[AI.mp hb];intro e;exact Y (e▸ha)⟩
theorem Ep:∀ (ns ks:Z Int),ks.Nodup->(ns.foldl Qh ks).Nodup
 | [],_,h=>h
 | n::ns,ks,h=>Ep ns _ (addK_nd h n)
theorem Dh(ns:Z Int):(ns.foldl Qh []).length<=ns.length:=by rw[<- d2];exact WW _ _
end
end L2
set_option maxHeartbeats 4000000
namespace L2
open PySem PySem.Spec PyProof.Rows
section
variable{X:Cx}
theorem Eh:∀ {its:Z A1} {ns:Z Int},Y8 (ns.map V.int) its->∃ xs:Z (Int×Tok),its=xs.map (λp=>Value.int p.1 p.2)/\xs.map (·.1)=ns
 | [],[],_=>⟨[],rfl,rfl⟩
 | [],_::_,r=>by have:=r.length;simp at this
 | _::_,[],r=>by have:=r.length;simp at this
 | v::its,n::ns,r=>by
  cases r with
  | cons h r' =>
   obtain⟨xs,e1,e2⟩:=Eh r';obtain⟨t,rfl⟩:=h;exact⟨(n,t)::xs,by rw[e1];rfl,by rw[CF,e2]⟩
def fE(K:KX):Z V->Hp->VK->Prop:=λxs H Q=>∃ (p:A2) (ns:Z Int),xs=[.ref p]/\E5 K H p (ns.map V.int)/\Q (.int ns.sum) H
def VS:Z Dat->C1 Dat
 | [.lst xs]=>(Qj xs).map λns=>.int ns.sum
 | _=>none
theorem mf{b:A2}{ws:Z A1}{Q:LM}(ht:IsTup s.heap t vs.toArray)(hb:IsTup s.heap b ws.toArray)(hv:vs=[])(h0:Q (.ref b) s):wpAny (model P w) A (binaryOp .Add (.ref t) (.ref b)) Q E s:=by
 obtain⟨⟨cls,dd,data,sl⟩,ho,hc,n,hd⟩:=id ht;obtain⟨⟨d,a,data2,c⟩,H,ak,n2,g⟩:=id hb;simp only at hc hd ak g;subst hc hd ak g;exact LG ⟨_,ho,rfl⟩ ⟨_,H,rfl⟩ KC KY IF HR (HE _ _)
  (tuple_addW0 t b vs.toArray ws.toArray n n2 dd a sl c (by simp[hv])) ⟨ho,H,h0⟩
theorem Pk.tupR{A:AS}(h:Pk K A H (.tup ds) v):Rp K (av H A) (.tup ds) v:=by
 rcases h with h | ⟨a,vs,ds,e1,e2,e3,e4⟩ | ⟨_,_,_,e1,_⟩ | ⟨_,_,e1,_⟩
 .exact h
 .cases e1
 .cases e1
 .cases e1
def K4:Dat->Dat->C1 Dat
 | .tup xs,.tup ys=>if xs.length+ys.length<=sizeLine then some (.tup (xs++ys)) else none
 | _,_=>none
theorem Gq:Sr X (binaryOp .Add) K4:=λaa s σ H x y v u Q I S m M=>by
 obtain⟨A,a,b,d,mu,e,p1,p2,q⟩:=M;unfold K4 at e;split at e
 .rename_i xs ys
  split at e
  .rename_i hz
   cases e;obtain⟨l1,vs,e1,h1,r1⟩:=p1.tup;obtain⟨l2,us,e2,h2,r2⟩:=p2.tup;have z1:=Zv r1;have W:=Zv r2;have w1:=p1.tupR;have w2:=p2.tupR;by_cases hx:xs=[]
   .subst hx e1 e2
    cases S;cases m;obtain⟨its,y1,g1,_⟩:=I.tuple h1;obtain⟨c,y2,g2,_⟩:=I.tuple h2;have hn:its=[]:=by
     have:=y1.length;rw[z1] at this;exact FC.mp this.symm
    refine mf g1 g2 hn ⟨.ref l2,H,I,rfl,?_⟩;exact q.here w2
   .refine lv aa s σ H x y v u Q I S m ⟨l1,l2,vs,us,e1,e2,h1,h2,jL r1 (by simpa using hx),by lia,λG=>?_,λG=>?_⟩
    .have:ys=[]:=by subst G;exact FC.mp W.symm
     subst this;rw[EG] at q;rw[e1] at w1;exact q.here w1
    .exact q.tup mu (by rw[AQ];exact hz) (V5 r1 r2)
  .cases e
 .cases e
end
end L2
namespace L2
open PySem PySem.Spec PyProof.Rows PySem.W
def Md(aq:Z Str)(t:Str):Str->C1 Bool:=λc=>if c∈aq then some (decide (c=t)) else none
def Fh(aq:Z Str):Str->C1 Bool:=λc=>if c∈aq then some true else none
def Wx(aq:Z Str):Str->Bool:=λc=>decide (c∈aq)
def PY(K:Frag)(mg:LO)(tx:Str)(sb:Str->C1 Bool):Prop:=∃ D,mg tx=some (.ref D)/\∀ c C b,Wd K c C->sb c=some b->kitOne K (.ref C) (.ref D)=some b/\LL K C
def VQ(K:Frag)(mg:LO)(tx:Str)(T:String)(sb:Str->C1 Bool):Prop:=∀ c C b,Wd K c C->sb c=some b->kitOne K (.ref C) (.type T)=some b/\LL K C
def UC(K:Frag)(mg:LO)(T:Str)(sub:Str->Bool):Prop:=∃ D,mg T=some (.ref D)/\∀ c C,Wd K c C->sub c=true->exmOne K (.ref C) (.ref D)=some true
def RK(K:Frag)(okc:Str->Bool)(fd:Str):Prop:=∀ c C,Wd K c C->okc c=true->LL K C/\findIn K (.ref C) fd=some none
section
variable{X:Cx}{f:Zzu}{h:Ev->Fl}{suite:Z Df}{T n:Str}{sub:Str->Bool}{sb:Str->C1 Bool}
theorem O'(he:Wp true X e f)(hC:PY X.K X.mg tx sb)(hm:X.mg "isinstance" = none)(hg:Gl X "isinstance" := by rfl)(i:Gl X tx:=by rfl)(hv:bootBuiltins "isinstance" = some (.builtin "isinstance"):=by ext)(g:C2 tx:=by decide)
  (hs:starEach [e,.Name tx p2] X.env=(false,eval e X.env)::starEach [.Name tx p2] X.env:=by rfl):Wp m X (.Call (.Name "isinstance" p) [e,.Name tx p2] [] pos) (NF sb f):=by
 obtain⟨D,h1,h2⟩:=hC;exact i0 he h1 h2 hm hg i hv g hs
end
section
variable{K:Frag}
theorem fA{D:A2}(hm:mg tx=some (.ref D))(h:∀ c∈aq,∃ C,Wd K c C/\kitOne K (.ref C) (.ref D)=some (decide (c=tx))/\LL K C):PY K mg tx (Md aq tx):=by
 refine⟨D,hm,λc C b hc hb=>?_⟩;unfold Md at hb;split at hb
 .rename_i hr
  cases hb;obtain⟨g,h1,h2,h3⟩:=h c hr;unfold Wd at hc h1;rw[hc] at h1;cases h1;exact⟨h2,h3⟩
 .cases hb
theorem pP{T:String}(h:∀ c∈aq,∃ C,Wd K c C/\kitOne K (.ref C) (.type T)=some true/\LL K C):VQ K mg tx T (Fh aq):=by
 refineλc C b hc hb=>?_
 unfold Fh at hb;split at hb
 .rename_i hr
  cases hb;obtain⟨g,h1,h2,h3⟩:=h c hr;unfold Wd at hc h1;rw[hc] at h1;cases h1;exact⟨h2,h3⟩
 .cases hb
theorem fK{T:Str}{D:A2}(hm:mg T=some (.ref D))(h:∀ c∈aq,∃ C,Wd K c C/\exmOne K (.ref C) (.ref D)=some true):UC K mg T (Wx aq):=by
 refine⟨D,hm,λc C hc hb=>?_⟩;obtain⟨g,h1,h2⟩:=h c (BK hb);unfold Wd at hc h1;rw[hc] at h1;cases h1;exact h2
theorem gE{fd:Str}(h:∀ c∈aq,∃ C,Wd K c C/\LL K C/\findIn K (.ref C) fd=some none):RK K (Wx aq) fd:=λc C hc hb=>by
 obtain⟨g,h1,h2⟩:=h c (BK hb);unfold Wd at hc h1;rw[hc] at h1;cases h1;exact h2
end
section
variable{X:Cx}
theorem nt:NH X "list.extend" (λx vs H Q=>∃ l b xs zs,x=.ref l/\vs=[.ref b]/\H l=some (.lst xs)/\SL X.K H b zs/\xs.length+zs.length<=sizeLine/\Q .non (W7 H l (.lst (xs++zs)))):=by
 intro aa s σ H x vs v us Q I S rv h;obtain⟨l,b,xs,zs,rfl,rfl,a,f,hz,q⟩:=h;cases S;obtain⟨u,rfl,B⟩:=rv.one;cases B;obtain⟨z,its,n,r,hl,e⟩:=I.lstM a;obtain⟨c,n2,r2,e2,ag⟩:=f.get I;have af:=r2.length;have hsz:its.toArray.size+c.toArray.size<=sizeLine:=by rw[AV,AV];lia
 have d:¬ (!its.toArray.isEmpty&&Builtin.List.listTooLong (its.toArray.size+c.toArray.size))=true:=by
  rw[oM hsz,Bool.and_false];exact CN
 refine KS PySem.F.slot_list_extend ⟨_,e,rfl⟩ PySem.F.entry_list_extend (PySem.F.args_list_extend_2 _ _)
  (AutoSeq1.list_extend_list_list_0 l its.toArray n b c.toArray n2 d (by rw[AV];lia) (by lia)) ⟨e,e2,?_⟩
 refine⟨.non,_,I.lset (its':=its++c) a e (by simp) (r.append r2) ?_,rfl,q⟩;rw[AQ];lia
def Nm:Z Dat->Z Dat->C1 (Z Dat)
 | ds,[.lst es]=>if ds.length+es.length<=sizeLine then some (ds++es) else none
 | _,_=>none
theorem hJ:SV X "list.extend" Nm:=NH.weak (id:="list.extend") nt λv us H Q M=>by
 obtain⟨A,a,vs,ds,as,ds',mu,e1,h1,r1,r2,e2,q⟩:=M;unfold Nm at e2;split at e2
 .rename_i es
  split at e2
  .rename_i hl
   cases e2;obtain⟨w,h,e3,r3,e4⟩:=r2;obtain⟨b,zs,e5,hS,r5⟩:=Mm r3;subst e5;have l1:=Zv r1;have l2:=Zv r5;refine⟨a,b,vs,zs,e1,by rw[e3,show h=[] from e4],h1,W5.sl hS,by lia,q _ _ (by rw[AQ];exact hl) (V5 r1 r5)⟩
  .cases e2
 .cases e2
end
section
variable{X:Cx}{f:Zzu}{vs:Z C3}{r:Ev->Str->C1 Str}
end
end L2
variable{env env':L2.Ev}{gg:L2.Dat->L2.Ev->C1 L2.Ev}{j:Int}
namespace L2
open PySem PySem.Spec PyProof.Rows PySem.W PySem.Builtin PySem.Builtin.Str
section
variable{X:Cx}
end
end L2
namespace L2
open PySem PySem.Spec PyProof.Rows PySem.W
section
variable{X:Cx}{n:Nat}{c:Str}
theorem nK(M:LY X.prog X.w X.K X.mg X.base k c n G)(hr:J2 (k+1) X.A)(hc:X.calm=true)(hg:Gl X c:=by rfl)(l:C2 c:=by decide)
  : Eo fr X (.Raise (some (.Call (.Name c p) [] [] am)) none pos) (Uh c G Zb):=by
 intro aa s σ H D I ⟨env,B,A,kk,af,q⟩;obtain⟨C,fI,D',fd,ps,ah,hm,a,hx,xc,ai,F,hb⟩:=M.ex;unfold Uh at q;split at q
 .exact q.elim
 rename_i fl P;obtain⟨ds,e1,hG⟩:=bind_some P;obtain⟨nm,qn,N,bs,sn,sub,ab,col,dd,k0,k1,k2,k3,k5,mN,hC,hN,hi,T⟩:=Ou I.kIn hx;have aj:wpAny (model X.prog X.w) X.A (eval (.Call (.Name c p) [] [] am) X.env) (λv s'=>∃ ex t dct,v=.ref ex/\(∃ o,s'.heap.get? C=some o)/\s'.heap.get? ex=some { cls:=.ref C,dict:=dct,data:=.fields #[.ref t,.none,.none,.none,.bool false,.none] }/\X.K.In s'.heap/\X.xe (.ref ex) s') X.xe s:=by
  refine CU (U9 I hg hm ?_ l);refine callWith_K0 I.kIn a ?_;cases e1;exact Ai M hr I kk .nil Ua hG ah hx ai F hb λH' σ' _ j k2=>q A H' σ (I'.same j) k2
 rw[KP];refine AA (DO (N8 (C:=C) (nm:=nm) (q:=qn) (N:=N) (bs:=bs) (bm:=.ref D'::Qi) (hdct:=true) (sn:=sn) (sub:=sub) (ab:=ab) (col:=col) (dd:=dd) (k0:=k0) (k1:=k1) (k2:=k2) (k3:=k3) (k5:=k5) (newId:="ValueError.__new__") (by simp[Qi]) (I.ok.hd hc) (AA (BQ aj (λv s₃ h₃=>AA (DO (AC ?_))) λ_ _ x=>x))));obtain⟨ex,t,dct,rfl,_,hex,f,b⟩:=h₃;obtain⟨o,lk⟩:∃ o,X.K.lookup C=some o:=by
  unfold R9 at hx;split at hx
  .rename_i ho;exact⟨_,ho⟩
  .cases hx
 have e2:=(I.kIn _ _ lk).symm.trans hC;cases e2;exact⟨ex,.ref t,dct,rfl,f _ _ lk,hex,b⟩
end
def gZ:Z Dat->C1 (Z (Str×XD))
 | []=>some []
 | _=>none
theorem YC:∀ ds fl,gZ ds=some fl->ds.length=0:=λds fl h=>by
 unfold gZ at h;split at h
 .rfl
 .cases h
section
variable{K:Frag}
theorem ja{st:Df}{D:A2}{z:Str}(F:MJ K "__init__" aj st fI fd)(S:FnScope ["self"] ["self"] (Z7 st))(hx:R9 K C aC D=true)
  (hb:∀ (ak:A1) (A:C0) (outer:Z J1) (s:A4) (H:Hp) (E:XK),J2 k (A.deeper (envOfC aj (Z7 st) s.heap.objs.size fI ak)) ->
   R7 (Tv Eu P w K mg base ["self"] aj (Z7 st) fI ak A outer s H E).nox (Yj st) (TF (UG K (Hs (Hv 0) (Hs (tC (.str z)) QP))))) :
  LN P w K mg base Eu (k+1) fI fd ["self"] (NW K C 0 gZ):=by
 refine F.ok S (λvs H Q E zz=>by obtain⟨e,ws,ds,R,fl,ev,hl,_⟩:=zz;rw[ev,BS,hl];rfl) λak A outer s H vs Q E hr zz=>⟨_,hb ak A outer s H E hr,?_⟩;obtain⟨e,ws,ds,R,fl,ev,hl,he,mu,re,rs,hG,q⟩:=zz
 subst ev;have ew:ws=[]:=FC.mp hl;subst ew;have t:ds=[]:=FC.mp (YC ds fl hG);subst t;cases hG;exact⟨.ref e,rfl,e,C,none,.str z,aC,D,rfl,he,hx,q H none (λ_ _ _ h=>h) he rfl iq⟩
end
section
variable{X:Cx}
def VP(K:Frag)(ta tv:TE)(f:Str):TS:=λD σ H=>tv σ H λy H1=>ta σ H1 λx H2=>∃ a C dx j fI D',x=.ref a/\H2 a=some (.ext (Ew a C (some dx)))/\H2 dx=some (.xd j)/\j.length<=100/\j.lookup f=none/\R9 K C fI D'=true/\LL K C/\findIn K (.ref C) f=some none /\
 D.nx σ (W7 H2 dx (.xd (j++[(f,y)])))
theorem Ls(f g:Str)(y:β):∀ (l:Z (Str×β)),(l++[(f,y)]).lookup g=match l.lookup g with | some v=>some v | none=>if g=f then some y else none
 | []=>by
   by_cases e:g=f
   · subst e;simp[List.lookup]
   · have e':(g==f)=false:=by simpa using e
     simp[List.lookup,e',e]
 | (h,z)::l=>by
   rw[List.cons_append,ER,ER];cases hh:(g==h) with
   | true=>rfl
   | false=>exact Ls f g y l
theorem Po{z:Str}{v:β}:∀ {l:Z (Str×β)},l.lookup z=some v->z∈l.map (·.1)
 | [],h=>by simp at h
 | (k,w)::l,h=>by
   rw[ER] at h;cases hh:(z==k) with
   | true=>rw[DC.mp hh];simp
   | false=>rw[hh] at h;exact AR _ (Po h)
theorem cp{o:C3}{f:Str}(ha:PE X o ta)(hv:PE X au tv)(hs:swapsWith au (some (.Attribute o f ao)) pos.line X.env=pure false:=by rfl):PS X (.Assign [.Attribute o f ao] au pos) (VP X.K ta tv f):=by
 intro aa s σ H D I h;refine plainObj_wpAny_Assign_Attribute (V2 (hv aa s σ H _ I h) λu s1 ⟨y,H1,I1,m,q⟩=>V2 (ha aa s1 σ H1 _ I1 q) λE s2 zz=>?_) hs;obtain⟨x,H2,I2,S,a,C,dx,j,fI,D',ex,ea,t,N,i,hc,xc,hf,q2⟩:=zz;subst ex;obtain rfl:E=Value.ref a:=S;obtain⟨⟨t0,P⟩,_,_⟩:=(show Yr X.prog X.w H2 s2.heap a (.ext (Ew a C (some dx))) from I2.hok a _ ea);obtain⟨mA,p,F⟩:=(show Yr X.prog X.w H2 s2.heap dx (.xd j) from I2.hok dx _ t);obtain⟨cd,ai,J,T,b',hm⟩:=xc.cd;obtain⟨oC,R,hC,k,A⟩:=xc.ld I2.kIn;have Q:=p;obtain⟨od,es,ep,G,hcod⟩:=p;have IA:InstAt s2.heap a { cls:=.ref C,dict:=some dx,data:=.fields #[.ref t0,.none,.none,.none,.bool false,.none] } C (some od):=⟨P,rfl,rfl,G⟩;refine set_plain I2.kIn IA xc.sa ?_;refine ZB (s:={ s2 with toks:=s2.toks+1 }) I2.kIn IA ai hm hf ?_;obtain⟨hh,g,d,tk,os⟩:=s2;have hw:Within mA (j.map (·.1)):=λz hz=>by
  have:=F z;cases e:j.lookup z with
  | none =>
   rw[e] at this;cases e2:mA z with
   | none=>exact absurd e2 hz
   | some v=>rw[e2] at this;exact this.elim
  | some v=>exact Po e
 refine gp P rfl rfl Q hw (by rw[AB];lia) hC k A λh' r B Y hsz=>?_
 have nd:∀ {b:A2} {o:HO},H2 b=some o->(∀ l,o≠.xd l)->b≠dx:=λ{b o} q n z=>by rw[z,t] at q;cases q;exact n _ rfl
 have n0:∀ {b:A2},H2 b=none->b≠dx:=λ{b} q z=>by rw[z,t] at q;cases q
 have un:Un X.fs [] H2 (W7 H2 dx (.xd (j++[(f,y)]))) hh h':=by
  refine⟨λb o q n _ _=>Y b o (n0 n) q,λb o q n _ _=>⟨o.slots,Y b o (n0 n) q⟩,λb o q n _=>by rw[Zf (n0 n)];exact n,λb o q _=>?_,λb xs q=>by rw[Zf (nd q (λ_ z=>by cases z))];exact q,λb o u q=>by rw[Zf (nd q (λ_ z=>by cases z))];exact q,λb ps q=>⟨#[],by rw[Zf (nd q (λ_ z=>by cases z))];simpa using q⟩⟩;by_cases z:b=dx
  .subst z
   obtain⟨od2,_,_,h2,_⟩:=B;exact⟨_,h2⟩
  .exact⟨_,Y b o z q⟩
 have hok:Mp X.prog X.w (W7 H2 dx (.xd (j++[(f,y)]))) h':=by
  intro b o q;by_cases W:b=dx
  .subst W
   rw[Zn] at q;cases q;refine⟨_,B,λg=>?_⟩;show Na (List.lookup g (j++[(f,y)])) (if g=f then some u else mA g);rw[Ls];by_cases e:g=f
   .subst e
    rw[i];simp[Na];exact m
   .have:=F g
    cases e3:j.lookup g with
    | none=>rw[e3] at this;simpa[e] using this
    | some v=>rw[e3] at this;simpa[e] using this
  .rw[Zf W] at q
   refine(I2.hok b o q).stay (λc v z w=>Y c v (λM=>?_) w) (λc w=>?_) λc xs w=>?_
   .rcases z with z | z
    .exact W (z.symm.trans M)
    .rw[M,t] at z;cases z
   .rw[Zf (λM=>by rw[M,t] at w;cases w)];exact w
   .rw[Zf (λM=>by rw[M,t] at w;cases w)];exact w
 exact⟨σ,_,I2.un (h':=h') (t':=r) un hok,q2⟩
end
variable{f1 f2 f3:Str}{E:XK}{env:J1}{e:A2}
def L5(i:Int):Bool:=decide (0<=i)&&decide (i<1000)
theorem Fg{i:Int}(h:L5 i=true):0<=i/\i<1000:=by
 unfold L5 at h;rw[AW] at h;exact⟨BK h.1,BK h.2⟩
def gC(f1 f2 f3:Str):Z Dat->C1 (Z (Str×XD))
 | [.lst xs,.int i,.int j]=>(Qj xs).bind λns=>if(Rl ns&&L5 i&&L5 j)=true then some [(f1,.nums ns),(f2,.int i),(f3,.int j)] else none
 | _=>none
section
variable{K:Frag}
theorem gA{x1 x2 x3:Str}{st:Df}{D:A2}(F:MJ K "__init__" aj st fI fd)(S:FnScope ["self",x1,x2,x3] ["self",x1,x2,x3] (Z7 st))(hx:R9 K C aC D=true)(xc:LL K C)(h1:findIn K (.ref C) f1=some none)(h2:findIn K (.ref C) f2=some none)(h3:findIn K (.ref C) f3=some none)
  (x:f1≠f2) (aa:f1≠f3) (ac:f2≠f3)
  (hb:∀ (ak:A1) (A:C0) (outer:Z J1) (s:A4) (H:Hp) (E:XK),J2 k (A.deeper (envOfC aj (Z7 st) s.heap.objs.size fI ak)) ->
   R7 (Tv Eu P w K mg base ["self",x1,x2,x3] aj (Z7 st) fI ak A outer s H E).nox (Yj st) (PX (TF (UG K (Hs (Hv 0) (Hs (B1 r) QP)))) (PX (VR K (Hv 0) (TR (WR K) (Hs (Hv 1) QP)) f1) (PX (VP K (Hv 0) (Hv 2) f2) (VP K (Hv 0) (Hv 3) f3)))))
  (hj:∀ (H:Hp) (e a:A2) (ns:Z Int) (i j:Int),SL K H a (ns.map V.int)->Kg ns->0<=i->i<1000->0<=j->j<1000->QG 0 [some (.ref e),some (.ref a),some (.int i),some (.int j)] H r) :
  LN P w K mg base Eu (k+1) fI fd ["self",x1,x2,x3] (NW K C 3 (gC f1 f2 f3)):=by
 refine F.ok S (λvs H Q E zz=>by obtain⟨e,ws,ds,R,fl,ev,hl,_⟩:=zz;rw[ev,BS,hl];rfl) λak A outer s H vs Q E hr zz=>⟨_,hb ak A outer s H E hr,?_⟩;obtain⟨e,ws,ds,R,fl,ev,hl,he,mu,re,rs,hG,q⟩:=zz
 subst ev;unfold gC at hG;split at hG
 .rename_i xs i j
  obtain⟨ns,hn,hG⟩:=bind_some hG;split at hG
  .rename_i hs
   cases hG;rw[AW,AW] at hs;obtain⟨⟨hs,hi⟩,ae⟩:=hs;have hs:=Fy hs;obtain⟨af,W⟩:=Fg hi;obtain⟨ap,T⟩:=Fg ae;obtain⟨v,r',e1,r1,r2⟩:=Y2 rs;obtain⟨f,r'',e2,r3,r4⟩:=Y2 r2;obtain⟨I,r''',e3,r5,r6⟩:=Y2 r4;have e4:=Yv r6;have e5:=Mo r3;have Y:=Mo r5;subst e1 e2 e3 e4 e5 Y;obtain⟨a,us,e3,hS,B⟩:=Mm r1;rw[Q5 hn] at B;have e4:=V3 B;subst e3 e4;have d:SL K H a (ns.map V.int):=W5.sl hS;show PX _ _ _ [some (.ref e),some (.ref a),some (.int i),some (.int j)] H;refine⟨.ref e,rfl,?_⟩;refine hj H e a ns i j d hs af W ap T Str.empty _ (by decide) λz=>?_
   refine⟨e,C,none,.str z,aC,D,rfl,he,hx,?_⟩;refine⟨.ref a,rfl,a,ns.map V.int,rfl,.inl d.sq,λl n=>?_⟩;have N:l≠e:=λz=>by rw[z,he] at n;cases n
   refine⟨.ref e,rfl,e,C,none,aC,D,rfl,by rw[Zf (AY N)];exact he,hx,xc,h1,λdx m p=>?_⟩;have M:dx≠l:=λz=>by rw[z,Zn] at m;cases m
   have u:H dx=none:=by rw[Zf M] at m;exact m
   have t:∀ {b:A2},H b=none->R b=false:=λ{b} z=>by
    cases y:R b with
    | false=>rfl
    | true=>obtain⟨o,ho⟩:=(mu b y).some;rw[z] at ho;cases ho
   have J:∀ (G:Hp) (o o':HO),W7 (W7 G dx o) dx o'=W7 G dx o':=λG o o'=>by funext b;unfold W7;split<;>rfl
   have a1:(f2==f1)=false:=by simpa using AY x
   have a2:(f3==f1)=false:=by simpa using AY aa
   have a3:(f3==f2)=false:=by simpa using AY ac
   have ag:List.lookup f2 [(f1,V.ref l)]=none:=by simp[List.lookup,a1]
   have ah:List.lookup f3 [(f1,V.ref l),(f2,V.int i)]=none:=by simp[List.lookup,a2,a3]
   refine⟨.int i,rfl,.ref e,rfl,e,C,dx,[(f1,.ref l)],aC,D,rfl,by rw[Zf (AY p),Zn],Zn,by simp,ag,hx,xc,h2,?_⟩;refine⟨.int j,rfl,.ref e,rfl,e,C,dx,[(f1,.ref l),(f2,.int i)],aC,D,rfl,by rw[Zf (AY p),Zf (AY p),Zn],Zn,by simp,ah,hx,xc,h3,?_⟩;rw[J,J];refine q _ (some dx) (λc o hc h=>?_) ?_ ?_ (bM u Zn λg a hm=>by simp at hm;obtain⟨_,rfl⟩:=hm;exact⟨n,_,by rw[Zf (AY M),Zf N,Zn]⟩)
   .have c1:c≠dx:=λz=>by rw[z,u] at h;cases h
    have c2:c≠l:=λz=>by rw[z,n] at h;cases h
    rw[Zf c1,Zf hc,Zf c2];exact h
   .rw[Zf (AY p),Zn]
   .refine⟨[(f1,.ref l),(f2,.int i),(f3,.int j)],V4 Zn (t u),λg=>?_⟩
    by_cases g1:g=f1
    .subst g1
     refine .inr ⟨.nums ns,.ref l,by simp[List.lookup],by simp[List.lookup],l,rfl,.inl (.inl (V4 ?_ (t n))),?_⟩
     .rw[Zf (AY M),Zf N,Zn]
     .exact EU (Tr (by have:=hs.1;lia))
    have b1:(g==f1)=false:=by simpa using g1
    by_cases g2:g=f2
    .subst g2
     exact .inr ⟨.int i,.int i,by simp[List.lookup,b1],by simp[List.lookup,b1],rfl⟩
    have b2:(g==f2)=false:=by simpa using g2
    by_cases g3:g=f3
    .subst g3
     exact .inr ⟨.int j,.int j,by simp[List.lookup,b1,b2],by simp[List.lookup,b1,b2],rfl⟩
    have X:(g==f3)=false:=by simpa using g3
    exact .inl ⟨by simp[List.lookup,b1,b2,X],by simp[List.lookup,b1,b2,X]⟩
  .cases hG
 .cases hG
end
theorem ce{f:Str}:∀ ds fl,gW f ds=some fl->ds.length=1:=λds fl h=>by
 unfold gW at h;split at h
 .rfl
 .cases h
theorem jd:∀ ds fl,gC f1 f2 f3 ds=some fl->ds.length=3:=λds fl h=>by
 unfold gC at h;split at h
 .rfl
 .cases h
theorem jm{D:A2}(q:R9 K C fI D=true)(cl:PySem.W.findIn K (.ref C) "__class__" = some (some (.builtin "object.__class__")))(ga:PySem.W.findIn K (.ref C) "__getattribute__" = some (some (.builtin "BaseException.__getattribute__")))(gh:PySem.W.findIn K (.ref C) "__getattr__" = some none)(sa:PySem.W.findIn K (.ref C) "__setattr__" = some (some (.builtin "object.__setattr__"))):LL K C:=by
 refine⟨?_,cl,ga,gh,sa⟩;unfold R9 at q;split at q
 .rename_i dd cd sl ho
  split at q
  .rename_i g bm k0 k1 k2 k3 n k5 hm hs
   simp only[AW,DC,JW] at q;obtain⟨⟨⟨⟨⟨⟨⟨e1,_⟩,_⟩,a⟩,e2⟩,_⟩,_⟩,_⟩:=q;exact⟨cd,by unfold PySem.W.clsIn;rw[ho],a,g,D,by rw[hm,e2]⟩
  .cases q
 .cases q
section
variable{M:Model}{E:LM}
theorem A8(hf:env.frame=some Lq_)(ht:Lz s.heap base e T cls dct (rawInt Lq_))(h:Q () s):wpAny M A (noteFrame (.ref e) env) Q E s:=by
 obtain⟨oe,vs,oT,ts,he,t,hdct,hd,h1,n,k,hT,g,h3⟩:=ht;unfold noteFrame;simp only[hf];refine AA (CH he hd h1 ?_);rw[AE (show(Value.ref T != Value.none)=true from by simp)];refine AA (CH hT g h3 ?_);rw[AE (show((rawInt Lq_==rawInt Lq_)=true) from by simp)];exact AC h
theorem XM{fl:A1}{fr:C1 A2} 
  (d:base.StaysIn s.heap) (hl:s.heap.FunFrames base l) (ht:Lz s.heap base e T cls dct fl)
  (h:∀ h',base.StaysIn h'->h'.FunFrames base l->Lz h' base e T cls dct (fr.elim Value.none λf=>rawInt f)->(∀ b o,s.heap.get? b=some o->b∉[T]->h'.get? b=some o)->h'.objs.size=s.heap.objs.size->Q () { s with heap:=h' }) :
  wpAny M A (setFlight (.ref e) fr) Q E s:=by
 obtain⟨oe,vs,oT,ts,he,t,hdct,hd,h1,n,k,hT,g,h3⟩:=ht;have m:3<ts.size:=(EH.mp h3).1;have a:∀ b,b≠T->(s.heap.update T (Obj.mapFields (·.setIfInBounds 3 (fr.elim Value.none λf=>rawInt f)))).get? b=s.heap.get? b :=
  λb hb=>BB _ _ (AY hb)
 have j:∀ b o,s.heap.get? b=some o->(∀ vs,o.data≠.fields vs)->b≠T:=λb o hb i q=>by
  rw[q,hT] at hb;injection hb with hb;subst hb;exact i ts g
 unfold setFlight;refine AA (CH he hd h1 ?_);rw[AE (show(Value.ref T != Value.none)=true from by simp)];refine CW hT g m (h _ (λb o c=>(a b λq=>by rw[q,n] at c;cases c).trans (d b o c))
  (hl.of_keeps λb o hb i=>⟨o,(a b (j b o hb i)).trans hb,rfl⟩) ?_ (λb o hb i=>(a b (λz=>i (by simp[z]))).trans hb) (ID ..))
 exact⟨oe,vs,_,_,(a e (AY k)).trans he,t,hdct,hd,h1,n,k,BH _ hT (DK (BV g _)),BV g _,by simp[m]⟩
theorem ll(hf:env.frame=some Lq_)
  (d:base.StaysIn s.heap) (hl:s.heap.FunFrames base l) (ht:Lz s.heap base e T cls dct (rawInt Lq_))
  (h:∀ h',base.StaysIn h'->h'.FunFrames base l->Lz h' base e T cls dct .none->F0 l [T] s.heap h'->Q () { s with heap:=h' }):wpAny M A (leaving env (.ref e)) Q E s:=by
 unfold leaving;refine AA (A8 hf ht ?_);exact XM (fr:=none) d hl ht λh' y1 y2 y3 G y5=>h h' y1 y2 y3 (F0.of λb o hb hc=>G b o hb hc)
theorem iT(hf:env.frame=some Lq_)
  (d:base.StaysIn s.heap) (hl:s.heap.FunFrames base l) (ht:Lz s.heap base e T cls dct (rawInt Lq_))
  (h:∀ h',base.StaysIn h'->h'.FunFrames base l->Lz h' base e T cls dct (rawInt Lq_)->F0 l [T] s.heap h'->E' (.ref e) { s with heap:=h' }):notedBy M A' env (cameBackBy M A env E') (.ref e) s:=by
 refine A8 (A:=A') (E:=cameBackBy M A env E') hf ht ?_;obtain⟨oe,vs,oT,ts,he,t,hdct,hd,h1,n,k,hT,g,h3⟩:=id ht;refine AA (CH he hd h1 ?_);rw[AK (show ¬ (Value.ref T==Value.none)=true from by simp)];rw[hf];exact XM (fr:=some Lq_) d hl ht λh' y1 y2 y3 G y5=>h h' y1 y2 y3 (F0.of λb o hb hc=>G b o hb hc)
theorem YF(hf:env.frame=some Lq_)
  (d:base.StaysIn s.heap) (hl:s.heap.FunFrames base l) (ht:Lz s.heap base e T cls dct (rawInt Lq_))
  (h:∀ h',base.StaysIn h'->h'.FunFrames base l->Lz h' base e T cls dct (rawInt Lq_)->(∀ b o,s.heap.get? b=some o->b∉[T]->h'.get? b=some o)->E' (.ref e) { s with heap:=h' }):cameBackBy M A env E' (.ref e) s:=by
 obtain⟨oe,vs,oT,ts,he,t,hdct,hd,h1,n,k,hT,g,h3⟩:=id ht;refine AA (CH he hd h1 ?_);rw[AK (show ¬ (Value.ref T==Value.none)=true from by simp)];rw[hf];exact XM (fr:=some Lq_) d hl ht λh' y1 y2 y3 G y5=>h h' y1 y2 y3 G
end
def OM(X:Cx)(E:XK):A1->A4->Prop:=λv s=>∃ (e C:A2) (dct:C1 A2) (aa:LK) (σ:St) (H:Hp),v=.ref e/\F' X aa σ H s/\X.s₀.heap.objs.size<=e/\H e=none/\(∀ p∈X.pn++aa,p.1≠e) /\
 ((∃ o vs,s.heap.get? e=some o/\o.cls=.ref C/\o.dict=dct/\o.data=.fields vs/\vs[1]?=some .none/\Gj X H vs[2]?)\/∃ T fl c2,X.s₀.heap.objs.size<=T/\H T=none/\(∀ p∈X.pn++aa,p.1≠T)/\Lz s.heap X.base e T (.ref C,c2) dct fl/\(fl=.none\/fl=rawInt X.env.locals)/\Gj X H c2)/\Xl X.H₀ H dct/\E (.ref C) dct H
theorem SH.lie{X:Cx}(I:F' X aa σ H s)(x:SH X aa H s.heap e C dct)(i:Xl X.H₀ H dct)(q:E (.ref C) dct H):OM X E (.ref e) s :=
 ⟨e,C,dct,aa,σ,H,rfl,I,x.lo,x.un,x.pe,x.ob.imp id λzz=>by obtain⟨T,c2,h1,h2,h3,h4,h5⟩:=zz;exact⟨T,.none,c2,h1,h2,h3,h4,.inl rfl,h5⟩,i,q⟩
theorem bh{X:Cx}(hA:A'.frames=X.A.frames)(j:X.stack=X.env::X.outer/\X.env.frame=some X.env.locals):PassesOwnAt (model X.prog X.w) A' X.A X.env (OM X E):=by
 rintro ev s1 ⟨e,C,dct,aa,σ,H,rfl,l,lo,un,pe,ob,i,q⟩;have ag:A'.frames=some (X.env::X.outer):=by rw[hA,<- j.1];exact l.ok.frames
 have hl:s1.heap.FunFrames X.base (X.env::X.outer):=by rw[<- j.1];exact l.stack
 have d:X.base.StaysIn s1.heap:=l.bk;have F:X.base.get? e=none:=l.noBase lo;have g:∀ b∈E9 (X.env::X.outer),H b=none:=by rw[<- j.1];exact l.stkFree
 have nloc:∀ {a:A2} {o:Obj} {vs:Array A1},s1.heap.get? a=some o->o.data=.fields vs->a≠X.env.locals/\∀ y c,X.env.cells.lookup y=some c->c≠a:=λ{a o vs} ho hd=>by
  refine⟨λz=>?_,λy c hc z=>?_⟩
  .obtain⟨m,⟨o',es,ep,f,u,_⟩,_⟩:=l.loc
   rw[z,f] at ho;cases ho;rw[hd] at u;cases u
  .obtain⟨v,o',f,u⟩:=l.cell y c hc
   rw[z,ho] at f;cases f;rw[hd] at u;cases u
 have after:∀ (h2:G2) (T':A2) (c2:C1 A1) (ch:Z A2),Gj X H c2->(X.s₀.heap.objs.size<=T'/\H T'=none/\∀ p∈X.pn++aa,p.1≠T')->Lz h2 X.base e T' (.ref C,c2) dct (rawInt X.env.locals)->F0 (X.env::X.outer) ch s1.heap h2->(∀ b∈ch,H b=none/\X.s₀.heap.objs.size<=b/\b≠X.env.locals/\(∀ y c,X.env.cells.lookup y=some c->c≠b)/\∀ p∈X.pn++aa,p.1≠b)->OM X E (.ref e) { s1 with heap:=h2 }:=λh2 T' c2 ch r hT tr kp S=>by
  have I:F' X aa σ H { s1 with heap:=h2 }:=l.call' (s':={ s1 with heap:=h2 }) (ch:=ch) rfl (by rw[j.1];exact VV kp λb hb=>(S b hb).1) (Ip l.hok kp (λb hb=>(S b hb).1) g) l.bare λb hb=>⟨.inr (S b hb).2.1,(S b hb).2.2.1,(S b hb).2.2.2.1,(S b hb).2.2.2.2⟩
  exact⟨e,C,dct,aa,σ,H,rfl,I,lo,un,pe,.inr ⟨T',_,c2,hT.1,hT.2.1,hT.2.2,tr,.inr rfl,r⟩,i,q⟩
 have fresh:∀ {T':A2},s1.heap.objs.size<=T'->X.s₀.heap.objs.size<=T'/\H T'=none/\∀ p∈X.pn++aa,p.1≠T':=λ{T'} h=>⟨BC l.sz h,l.hok.fresh h,λp hp z=>by
  have:=(l.pin p hp).1;rw[z] at this;exact absurd (AN this) (FD.mpr h)⟩
 rcases ob with⟨o,vs,he,hc,hd,Q,h1,r⟩ | ⟨T,fl,c2,n,x,B,ht,P,r⟩
 .have t:=nloc he Q
  refine Sw (E:=cameBackBy (model X.prog X.w) X.A X.env (OM X E)) ag hl j.2 he d F Q h1 λh' T' k z1 W z3 z4 z5=>?_
  rw[hc,hd] at z3;exact YF (s:={ s1 with heap:=h' }) j.2 z1 W z3 λh2 y1 y2 y3 G=>after h2 T' _ [e] r (fresh k) y3 (Hz z4 k G) λb hb=>by rw[AI.mp hb];exact⟨un,lo,t.1,t.2,pe⟩
 .obtain⟨oe,ve,oT,ts,g1,g2,g3,g4,g5,g6,g7,Y,g9,ae⟩:=id ht
  have t:=nloc g1 g4;have D:=nloc Y g9;rcases P with P | P
  .subst P
   refine WT (E:=cameBackBy (model X.prog X.w) X.A X.env (OM X E)) ag hl j.2 ht d F λh' T' k z1 W z3 z4 z5=>?_
   refine YF (s:={ s1 with heap:=h' }) j.2 z1 W z3 λh2 y1 y2 y3 G=>after h2 T' _ [e,T] r (fresh k) y3 (Hz z4 k G) λb hb=>?_
   rcases BA.mp hb with e1 | e1
   .rw[e1];exact⟨un,lo,t.1,t.2,pe⟩
   .rw[AI.mp e1];exact⟨x,n,D.1,D.2,B⟩
  .subst P
   exact iT j.2 d hl ht λh2 y1 y2 y3 kp=>after h2 T _ [T] r ⟨n,x,B⟩ y3 kp λb hb=>by rw[AI.mp hb];exact⟨x,n,D.1,D.2,B⟩
theorem kz{X:Cx}(j:X.stack=X.env::X.outer/\X.env.frame=some X.env.locals):PassesOwn (model X.prog X.w) X.A X.env (OM X E):=λe s h=>bh rfl j e s h
end L2
variable{f fb:L2.Zzu}{T:PySem.Str}{t:L2.Ev->C1 Bool}{z:L2.Dat}{xs:Z L2.Dat}{tk:Z (Z Nat)}{Lq_:Nat}
namespace L2
open PySem PySem.Spec PyProof.Rows
theorem j0{N:Z Str}{f:A2}{E:XK}{e T:A2} 
  (I:F' (Tv (MM P w base) P w K mg base N aj scope f cd A outer s H E) aa σ H' s') (lo:s.heap.objs.size<=e) (un:H' e=none) (hT:s.heap.objs.size<=T) (h:H' T=none) (ht:Lz s'.heap base e T (.ref C,c2) dct (rawInt s.heap.objs.size)) (r:OU false H' c2) (i:Xl H H' dct) (q:E (.ref C) dct H') :
  (Tv (MM P w base) P w K mg base N aj scope f cd A outer s H E).xe (.ref e) s':=by
 have hl:s'.heap.FunFrames base (envOfC aj scope s.heap.objs.size f cd::outer):=I.stack;have d:base.StaysIn s'.heap:=I.bk;have bs:Un (E9 outer) [] H H' s.heap s'.heap:=I.base;have g:∀ b∈E9 (envOfC aj scope s.heap.objs.size f cd::outer),H' b=none:=I.stkFree;refine ll (env:=envOfC aj scope s.heap.objs.size f cd) rfl d hl ht λh' z1 W z3 kp=>?_
 have S:∀ b∈[T],H' b=none/\s.heap.objs.size<=b:=λb hb=>by rw[AI.mp hb];exact⟨h,hT⟩
 have a:∀ {b:A2} {o:Obj},s.heap.get? b=some o->b∉[T]:=λ{b o} q z=>absurd (AN q) (FD.mpr (S b z).2)
 have c:∀ {b:A2} {o:Obj},s.heap.get? b=some o->b∉E9 outer->b∉E9 (envOfC aj scope s.heap.objs.size f cd::outer):=λ{b o} q n z=>by
  rcases BA.mp (I.stkSub b z) with e1 | e1
  .have:b=s.heap.objs.size:=e1
   exact absurd (AN q) (by rw[this];exact DI _)
  .exact n e1
 refine⟨e,C,dct,T,H',c2,rfl,I.os,I.bare,⟨?_,?_,?_,?_,bs.tups,bs.frzs,bs.tbls⟩,Ip I.hok kp (λb z=>(S b z).1) g,lo,hT,un,h,z3,r,i,q⟩
 .exactλb o q n hf hx=>(kp b o (bs.keep b o q n hf hx) (a q)).1 (c q hf)
 .intro b o q n hf hx
  obtain⟨sl,z⟩:=bs.slot b o q n hf hx;obtain⟨sl',l⟩:=(kp b _ z (a q)).2;exact⟨sl',l⟩
 .exactλb o q n hx=>bs.free b o q n hx
 .intro b o q hx
  obtain⟨o',z⟩:=bs.there b o q hx;obtain⟨sl,l⟩:=(kp b o' z (a q)).2;exact⟨_,l⟩
theorem gK{N:Z Str}{f:A2}{E:XK}{v:A1} 
  (h:OM (Tv (MM P w base) P w K mg base N aj scope f cd A outer s H E) E v s'):(Tv (MM P w base) P w K mg base N aj scope f cd A outer s H E).xe v s':=by
 obtain⟨e,C,dct,aa,σ,H',rfl,J,lo,un,pe,ob,i,q⟩:=h;rcases ob with⟨o,vs,a1,a2,a3,a4,a5,r⟩ | ⟨T,fl,c2,h1,h2,h3,h4,h5 | h5,r⟩
 .exact K0 J ⟨lo,un,.inl ⟨o,vs,a1,a2,a3,a4,a5,r⟩,pe⟩ rfl i q
 .subst h5
  exact K0 J ⟨lo,un,.inr ⟨T,c2,h1,h2,h3,h4,r⟩,pe⟩ rfl i q
 .subst h5
  exact j0 J lo un h1 h2 h4 (r.v (J.ok.hd rfl)) i q
theorem R7.wishE{X:Cx}{st:Z Df}{t:TS}(h:R7 (X.wish E) st t)(he:∀ v s,E v s->X.xe v s):R7 X st t:=λaa s σ H D I hw =>
 BQ (h aa s σ H D (I.wish _) hw) (λ_ _ q=>q.unwish) he
abbrev OB(P:Fn)(w:Gf)(K:KX)(mg:LO)(base:G2)(N:Z Str)(aj:Str)(scope:I3)(f:A2)(cd:A1)(A:C0)(outer:Z J1)(s:A4)(H:Hp)(E:XK):Cx :=
 (Tv (MM P w base) P w K mg base N aj scope f cd A outer s H E).wish (OM (Tv (MM P w base) P w K mg base N aj scope f cd A outer s H E) E)
theorem ei{N:Z Str}{f:A2}{E:XK}{p:Nat}{R:AS}{vs:Z V}{Q:VK}(hp:p<=N.length)(mu:Ux R H)(r:Wm K (av H R) ds vs)
  (q:QX K fr R H Q E (Yk N.length p g ds)) :
  tS fr (OB P w K mg base N aj scope f cd A outer s H E) g (LP.mk (λ_ H'=>Q .non H') Q (λ_ _=>False) (λ_ _=>False)) (LJ N vs) H:=by
 unfold Yk at q;split at q
 .rename_i hl
  refine⟨Ue N.length ds,⟨H,R,true⟩,R,Ik mu r (by lia),rfl,?_⟩;split at q
  .rename_i d' e
   rw[e];exactλv H' s r n=>q v H' s r n
  .rename_i env e
   rw[e];exactλA' H' σ' s k=>q .non H' k.h0 Kr (λ_=>trivial)
  .rename_i env c fs e
   rw[e];exactλA' H' σ' st k aa s' e C dct I hc x hf i=>SH.lie (I.unwish) ⟨x.lo,x.un,x.ob,x.pe⟩ i (q C dct H' k.h0 hc (hf.mono (Vb k.ra)))
  .exact q.elim
 .exact q.elim
theorem VT{x:Str}{st:Df}{N:Z Str}(D:OR K mg x st)(S:FnScope N ps (Z7 st))
  (j:dV x st ps)
  (hb:∀ (f:A2) (ak:A1) (A:C0) (outer:Z J1) (s:A4) (H:Hp) (E:XK),J2 k (A.deeper (envOfC x (Z7 st) s.heap.objs.size f ak))->Xk fr (OB P w K mg base N x (Z7 st) f ak A outer s H E) (Yj st) g) :
  MG P w K mg base (k+1) x ps fr (Yk N.length ps.length g):=by
 have ac:ps.length<=N.length:=by have:=EB List.length S.pre;rw[BN] at this;lia
 obtain⟨f,fd,F,hm⟩:=D.ex;refine⟨⟨f,fd,F.okX S (λvs H Q E h=>h.1) λak A outer s H vs Q E hr ⟨hl,ds,R,mu,r,q⟩=>⟨_,R7.wishE (hb f ak A outer s H E hr) λv s' z=>gK z,?_⟩,hm,F.kp,F.binds j⟩,λds h=>Kp h⟩;exact ei ac mu r q
theorem Ay{N:Z Str}{f:A2}{E:XK} :
  PassesOwn (model P w) (OB P w K mg base N aj scope f cd A outer s H E).A (OB P w K mg base N aj scope f cd A outer s H E).env (OB P w K mg base N aj scope f cd A outer s H E).xe :=
 kz (X:=Tv (MM P w base) P w K mg base N aj scope f cd A outer s H E) ⟨rfl,rfl⟩
section
variable{X:Cx}
def lN:V->Z V->Hp->VK->Prop:=λx vs H Q=>∃ l xs i y,x=.ref l/\vs=[.int i,y]/\H l=some (.lst xs)/\0<=i/\i<=xs.length/\xs.length<sizeLine/\Q .non (W7 H l (.lst (xs.take i.toNat++y::xs.drop i.toNat)))
theorem A0:∀ {vs:Z V} {us:Z A1} (n:Nat),Y8 vs us->Y8 (vs.take n) (us.take n)
 | _,_,0,_=>by simp;exact .nil
 | [],us,n+1,h=>by cases h;exact .nil
 | v::vs,us,n+1,h=>by cases h with | cons a b=>exact .cons a (A0 n b)
theorem Ad:∀ {vs:Z V} {us:Z A1} (n:Nat),Y8 vs us->Y8 (vs.drop n) (us.drop n)
 | _,_,0,h=>h
 | [],us,n+1,h=>by cases h;exact .nil
 | v::vs,us,n+1,h=>by cases h with | cons a b=>exact Ad n b
theorem lb:cV X "list.insert" lN:=by
 intro aa s σ H x vs v us Q I S rv h;obtain⟨l,xs,i,y,rfl,rfl,a,h0,h1,hz,q⟩:=h;cases S;cases rv with
 | cons r1 r2 =>
  cases r2 with
  | cons B r3 =>
   cases r3;obtain⟨t,rfl⟩:=r1;rename_i u;obtain⟨z,its,n,r,hl,e⟩:=I.lstM a;have b:¬ (!Builtin.List.listFitsIndex i)=true:=by
    have:(sizeLine:Nat)<2^62:=by decide
    rw[fitsIndex_both (by lia) (by lia)]
    decide
   refine KS F.slot_list_insert ⟨_,e,rfl⟩ F.entry_list_insert (F.args_list_insert_3 _ _ _) (AutoSeq1.list_insert_list_int_val_1 l its.toArray n i t u b (by rw[AV];lia)) ⟨e,?_⟩;refine⟨.non,_,I.lset (its':=its.take i.toNat++u::its.drop i.toNat) a e ?_ ((A0 _ r).append (.cons B (Ad _ r))) ?_,rfl,q⟩
   .apply Array.toList_inj.mp
    have hm:(if i<0 then(i+(its.toArray.size:Int)).toNat else min i.toNat its.toArray.size)=i.toNat:=by
     rw[AK (by lia),AV,IX (by lia)]
    show((its.toArray.extract 0 (if i<0 then(i+(its.toArray.size:Int)).toNat else min i.toNat its.toArray.size)).push u++its.toArray.extract (if i<0 then(i+(its.toArray.size:Int)).toNat else min i.toNat its.toArray.size)).toList=_;rw[hm];simp[List.extract];exact BZ (by rw[CA];lia)
   .rw[AQ,BS,BN,CA]
    lia
def Rc:Z Dat->Z Dat->C1 (Z Dat)
 | ds,[.int i,d]=>if 0<=i/\i<=ds.length/\ds.length<sizeLine then some (ds.take i.toNat++d::ds.drop i.toNat) else none
 | _,_=>none
theorem O5:SV X "list.insert" Rc:=NH.weak (id:="list.insert") lb λv us H Q M=>by
 obtain⟨A,a,vs,ds,as,ds',mu,e1,h1,r1,r2,e2,q⟩:=M;unfold Rc at e2;split at e2
 .rename_i i d
  split at e2
  .rename_i hl
   cases e2;obtain⟨w,h,e3,r3,e4⟩:=r2;obtain⟨w2,R,e5,r5,Y⟩:=e4;have hw:w=.int i:=(Rm.pk r3).int;have J:=Zv r1;refine⟨a,vs,i,w2,e1,by rw[e3,e5,show R=[] from Y,hw],h1,hl.1,by rw[J];exact hl.2.1,by rw[J];exact hl.2.2,q _ _ (by rw[AQ,BS,BN,CA];lia) (V5 (Pr _ r1) (Wh r5 (O2 _ r1)))⟩
  .cases e2
 .cases e2
def WH(c:Int):A1->Bool
 | .int z _=>z==c
 | _=>false
theorem Bg:∀ {ns:Z Int} {us:Z A1},Y8 (ns.map V.int) us->∀ (j:Nat) (h:j<us.length) (h':j<ns.length),∃ t,us[j]=.int ns[j] t
 | [],us,r,j,h,h'=>by simp at h'
 | n::ns,us,r,j,h,h'=>by
  rw[CF] at r;cases r with
  | cons r1 r2 =>
   obtain⟨t,e⟩:=r1;subst e;cases j with
   | zero=>exact⟨t,rfl⟩
   | succ j=>exact Bg r2 j (by simpa using h) (by simpa using h')
theorem jY(r:Y8 (ns.map V.int) us){y:A1}(h:y∈us):∃ z t,y=.int z t:=by
 obtain⟨j,hj,rfl⟩:=HN h;have hl:=r.length;rw[AB] at hl;obtain⟨t,e⟩:=Bg r j hj (by lia);exact⟨_,t,e⟩
theorem fS:NH X "list.index" (λx vs H Q=>∃ (p:A2) (zs:Z Int) (c:Int),x=.ref p/\vs=[.int c]/\E5 X.K H p (zs.map V.int)/\c∈zs/\Q (.int ((zs.idxOf c:Nat):Int)) H):=by
 intro aa s σ H x vs v us Q I S rs h;obtain⟨p,zs,c,rfl,rfl,hq,hm,q⟩:=h;cases S;obtain⟨f,rfl,B⟩:=Jg rs;obtain⟨u,rfl⟩:=B;obtain⟨its,r',pl,hz⟩:=I.list hq;obtain⟨⟨cls,dd,data,sl⟩,ho,hc,n,hd⟩:=pl.isList;simp only at hc hd;subst hc hd;have a:=r'.length;rw[AB] at a hz;have hj:zs.idxOf c<zs.length:=List.idxOf_lt_length_iff.mpr hm;have E:sizeLine<2^63 - 1:=by decide
 refine KS HV ⟨_,ho,rfl⟩ PySem.F.entry_list_index (PySem.F.args_list_index_2 _ _) (SeqAt.list_indexAt p _ n dd sl (.int c u) (WH c) (zs.idxOf c) (by simpa[<- a] using hj) (by lia) ?_ ?_) ⟨ho,λy G=>?_,⟨.int _,H,I.tok _,⟨_,rfl⟩,q⟩⟩
 .obtain⟨t,e⟩:=Bg r' (zs.idxOf c) (by lia) hj
  show WH c (its[zs.idxOf c]'(by lia))=true;rw[e];show(zs[zs.idxOf c]==c)=true;simpa using List.getElem_idxOf hj
 .intro j hjs ae
  have aD:j<zs.length:=by lia
  obtain⟨t,e⟩:=Bg r' j (by lia) aD;show WH c (its[j]'(by lia))=false;rw[e];show(zs[j]==c)=false;have:=List.not_of_lt_findIdx (xs:=zs) (p:=(·==c)) (i:=j) (by simpa[List.idxOf] using ae);simpa using this
 .obtain⟨z,t,rfl⟩:=jY r' (by simpa using G)
  exact SeqAt.EqAt.int_int z t c u
def Ov:Dat->Z Dat->C1 Dat
 | .lst xs,[.int c]=>(Qj xs).bind λzs=>if c∈zs then some (.int ((zs.idxOf c:Nat):Int)) else none
 | _,_=>none
theorem cB:bQ X "list.index" Ov:=fS.weak λv vs H Q M=>by
 obtain⟨A,x,ds,d,mu,e,p,ps,q⟩:=M;unfold Ov at e;split at e
 .rename_i xs c
  obtain⟨l,us,e2,h1,r1⟩:=p.lst;obtain⟨m,e3,p1⟩:=ps.one;obtain⟨zs,G,e⟩:=bind_some e;split at e
  .rename_i hc
   cases e;rw[Q5 G] at r1;have eu:=V3 r1;subst eu;exact⟨l,zs,c,e2,by rw[e3,p1.int],h1.sq,hc,q.here Wc⟩
  .cases e
 .cases e
end
section
variable{X:Cx}
def My(i:Nat)(fa fb:Zzu):Ev->Fl:=λenv=>match env[i]?,fb env,fa env with
 | some (.ow ds),some d,some (.int k)=>if 0<=k/\k<ds.length then .next (env.set i (.ow (ds.set k.toNat d))) else .no
 | _,_,_=>.no
theorem Af(i:Nat){x:Str}(ha:Wp true X ix fa)(hb:Wp false X e fb)
  (hN:X.N[i]?=some x:=by rfl) (hv:MQ X.env.scope x:=by ext) (hd:C2 x:=by decide) (ai:(x==("__classdict__" : Str))=false:=by decide)
  (hs:swapsWithSole [.Subscript (.Name x p) ix ao] e pos.line X.env=pure false:=by rfl) (hw:swappedStores [.Subscript (.Name x p) ix ao] e X.env=pure none:=by rfl) (h1:(assignEach [.Subscript (.Name x p) ix ao] X.env).map (·.2)=[assign (.Subscript (.Name x p) ix ao) X.env]:=by rfl)
  (hq:∀ v,assign (.Subscript (.Name x p) ix ao) X.env v=(do
   let E <- holding [v] (eval (.Name x p) X.env)
   let b <- holding [v,E] (eval ix X.env)
   standAt ao
   holding [v,E,b] (setItem E b v)
   release [v,E,b] []):=by intro _;rfl) :
  Eo fr X (.Assign [.Subscript (.Name x p) ix ao] e pos) (My i fa fb):=(di hb (mi (Qd hN hv hd ai) ha lP hq) hs hw h1).weak λD σ H M=>by
 obtain⟨env,B,A,k,af,q⟩:=M;unfold My at q;split at q
 .rename_i ds d j e1 e2 e3
  split at q
  .rename_i hj
   refine⟨env,B,A,d,k,e2,λv H1 s1 r1=>?_⟩;have k1:=k.mono s1;obtain⟨a,vs,g1,g2,g3,_⟩:=k1.own af e1;refine⟨.ref a,g1,env,B,A,.int j,k1,e3,λw H2 s2 r2=>?_⟩;have k2:=k1.mono s2;obtain⟨T,c,m1,m2,m3,mz,_,_,_,S,_⟩:=k2.own af e1;rw[g1] at m1;cases m1;have o:w=.int j:=(Rm.pk r2).int;have J:=Zv m3;have f:Rp X.K (av H2 A) d v:=Rp.mono (Wl s2) r1;refine⟨a,c,j,j.toNat,rfl,o,m2,?_,?_⟩
   .unfold ON;rw[AE hj.1,AE (by lia)]
   .obtain⟨z1,W⟩:=S (ds.set j.toNat d) (c.set j.toNat v) (by rw[CQ];exact mz) (ZA _ m3 f)
    exact q A _ σ (((I'.same s1).trans (I'.same s2)).trans z1) W
  .exact q.elim
 .exact q.elim
end
variable{t l:A2}{xs:Array A1}
theorem C'.gx{A:AS}{g:GX}(k:C' K B A H σ env)(af:B.st=true)(h:env[i]?=some (.gx g)) :
  ∃ (v:V) (o:A2->Prop),σ[i]?=some (some v)/\OD K A H o g v/\(∀ b,o b->A b=true/\B.H₀ b=none) /\
   ∀ (b:A2) (f:HO) (g':GX),o b->SE (some f)->OD K A (W7 H b f) o g' v->I' A H A (W7 H b f)/\C' K B A (W7 H b f) σ (env.set i (.gx g')):=by
 obtain⟨own,h1,h2,h4⟩:=k.sl;obtain⟨x,q1,v,e1,e2⟩:=h4 i _ h;subst e1;have aq:∀ b,own i b->A b=true/\B.H₀ b=none:=λb ob=>by
  obtain⟨hA,hR⟩:=h2 i b ob;refine⟨hA,?_⟩;rcases k.ar b hA with z | z
  .rw[z] at hR;cases hR
  .exact z
 refine⟨v,own i,q1,e2,aq,λa f g' oa D hg=>?_⟩;obtain⟨hA,h0⟩:=aq a oa;have m:Zp (av H A) (av (W7 H a f) A):=λb o e=>by
  obtain⟨z1,W⟩:=Tg e;have hb:b≠a:=by intro z;rw[z,hA] at z1;cases z1
  exact V4 (by rw[Zf hb];exact W) z1
 refine⟨⟨λb o hb n=>?_,λb hb=>.inl hb⟩,?_⟩
 .have hn:b≠a:=by intro z;rw[z,hA] at n;cases n
  rw[Zf hn];exact hb
 .refine⟨λb o hb=>?_,k.r0,k.ra,k.ar,λb hb=>?_,by rw[CQ];exact k.len,λhs j d'=>Pe (k.np hs) (λ_ z=>by cases z) j d',own,h1,h2,λj s e=>?_⟩
  .have hn:b≠a:=Yg hb h0
   rw[Zf hn];exact k.h0 b o hb
  .by_cases hn:b=a
   .subst hn;rw[Zn];exact D
   .rw[Zf hn];exact k.mu b hb
  .by_cases hj:i=j
   .subst hj
    rw[AZ,AE rfl] at e;split at e
    .cases e
     exact⟨_,q1,v,rfl,hg⟩
    .cases e
   .rw[AZ,AK hj] at e
    obtain⟨x,p1,p2⟩:=h4 j s e;refine⟨x,p1,?_⟩;cases s with
    | un=>trivial
    | fz d=>obtain⟨v,z1,W⟩:=p2;exact⟨v,z1,W.mono m⟩
    | pk d=>exact absurd e (k.np af j d)
    | ow es =>
     obtain⟨b,us,z1,W,z3,z4,z5⟩:=p2;have hn:b≠a:=λz=>hj (h1 i j a oa (z▸W))
     exact⟨b,us,z1,W,z3,by rw[Zf hn];exact z4,z5.mono m⟩
    | gx g2 =>
     obtain⟨w,z1,W⟩:=p2;exact⟨w,z1,W.frame (λ_ z=>z) (λb x ob z=>by
      have hn:b≠a:=λy=>hj (h1 i j a oa (y▸ob))
      rw[Zf hn];exact z) m⟩
def F4(A:AS)(S:A2->Bool):AS:=λb=>A b||S b
theorem C'.putG{A:AS}(k:C' K B A H σ env)(af:B.st=true)(i:Nat){g:GX}{S:A2->Bool}(s:Zp H H')(hn:∀ p,S p=true->H p=none)(hm:∀ p,S p=true->SE (H' p))(r:OD K (F4 A S) H' (λb=>S b=true) g v) :
  I' A H (F4 A S) H'/\C' K B (F4 A S) H' (σ.set i (some v)) (env.set i (.gx g)):=by
 have c:∀ {b},F4 A S b=true->A b=true\/S b=true:=λ{b} h=>by unfold F4 at h;rw[GE] at h;exact h
 have f:∀ {b},A b=true->F4 A S b=true:=λ{b} h=>by unfold F4;rw[h];rfl
 have n:∀ {b},S b=true->F4 A S b=true:=λ{b} h=>by unfold F4;rw[h,LF]
 have st:I' A H (F4 A S) H':=⟨λa o h _=>s a o h,λa h=>(c h).imp id λz=>hn a z⟩;have m:∀ p,S p=true->A p=false:=λp hp=>k.mu.new (hn p hp)
 have h0:∀ p,S p=true->B.H₀ p=none:=λp hp=>k.h0.free (hn p hp)
 obtain⟨own,h1,h2,h4⟩:=k.sl;refine⟨st,k.h0.trans s,k.r0,λa h=>f (k.ra a h),λa h=>?_,λa h=>?_,by rw[CQ,CQ];exact k.len,λhs j d'=>Pe (k.np hs) (λ_ z=>by cases z) j d',
  λj a=>(j≠i/\own j a)\/(j=i/\S a=true),λj u a z l=>?_,λj a z=>?_,λj sl e=>?_⟩
 .rcases c h with z | z
  .exact k.ar a z
  .exact .inr (h0 a z)
 .rcases c h with z | z
  .exact k.mu.mono s a z
  .exact hm a z
 .rcases z with z | z<;>rcases l with l | l
  .exact h1 j u a z.2 l.2
  .have:=(h2 j a z.2).1;rw[m a l.2] at this;cases this
  .have:=(h2 u a l.2).1;rw[m a z.2] at this;cases this
  .rw[z.1,l.1]
 .rcases z with z | z
  .exact⟨f (h2 j a z.2).1,(h2 j a z.2).2⟩
  .refine⟨n z.2,?_⟩
   cases q:B.R a with
   | false=>rfl
   | true=>obtain⟨o,ho⟩:=k.r0 a q;rw[h0 a z.2] at ho;cases ho
 .by_cases hj:i=j
  .subst hj
   rw[AZ,AE rfl] at e;split at e
   .rename_i hl
    cases e;exact⟨some v,by rw[AZ,AE rfl,AE (by rw[k.len];exact hl)],v,rfl,r.frame (λ_ z=>.inr ⟨rfl,z⟩) (λ_ _ _ z=>z) (Zp.refl _)⟩
   .cases e
  .rw[AZ,AK hj] at e
   obtain⟨x,p1,p2⟩:=h4 j sl e;refine⟨x,by rw[AZ,AK hj];exact p1,?_⟩;cases sl with
   | un=>trivial
   | fz d=>obtain⟨v,z1,W⟩:=p2;exact⟨v,z1,W.mono st.av⟩
   | pk d=>exact absurd e (k.np af j d)
   | ow es =>
    obtain⟨b,us,z1,W,z3,z4,z5⟩:=p2;exact⟨b,us,z1,.inl ⟨AY hj,W⟩,z3,s _ _ z4,z5.mono st.av⟩
   | gx g2 =>
    obtain⟨w,z1,W⟩:=p2;exact⟨w,z1,W.frame (λ_ z=>.inl ⟨AY hj,z⟩) (λb x _ z=>s b x z) st.av⟩
section
variable{X:Cx}
def Gt(dss:Z (Z Dat))(k:Int):C1 (Z Dat):=if 0<=k then dss[k.toNat]? else none
def QM(i:Nat)(fa:Zzu):Ev->C1 Dat:=λenv=>match env[i]?,fa env with
 | some (.gx (.nest dss)),some (.int k)=>(Gt dss k).map .lst
 | _,_=>none
theorem C'.nest{A:AS}(k:C' K B A H σ env)(h:env[i]?=some (.gx (.nest dss))) :
  ∃ (a:A2) (as:Z A2),σ[i]?=some (some (.ref a))/\H a=some (.lst (as.map V.ref))/\as.length=dss.length/\∀ (n:Nat) b ds,as[n]?=some b->dss[n]?=some ds->ds.length<=sizeLine/\∃ vs,H b=some (.lst vs)/\Wm K (av H A) ds vs:=by
 obtain⟨own,h1,h2,h4⟩:=k.sl;obtain⟨x,q1,v,e1,a,as,e2,e3,e4,e5,Y,s,I,e9⟩:=h4 i _ h;subst e1 e2;exact⟨a,as,q1,e5,Y,λn b ds z1 W=>⟨(e9 n b ds z1 W).2.1,(e9 n b ds z1 W).2.2⟩⟩
theorem Lk{k:Int}(h:Gt dss k=some ds):0<=k/\dss[k.toNat]?=some ds/\k=((k.toNat:Nat):Int):=by
 unfold Gt at h;split at h
 .rename_i h0;exact⟨h0,h,(Int.toNat_of_nonneg h0).symm⟩
 .cases h
theorem YH(i:Nat){x:Str}(ha:Wp true X ix fa)(ac:I0 ix)
  (hN:X.N[i]?=some x:=by rfl) (hv:MQ X.env.scope x:=by ext) (hd:C2 x:=by decide) (ai:(x==("__classdict__" : Str))=false:=by decide) :
  Wp true X (.Subscript (.Name x p) ix pos) (QM i fa):=PE.weak (TM Bu (Qd hN hv hd ai) ha ac) λσ H Q M=>by
 obtain⟨env,B,A,d,k,e,q⟩:=M;unfold QM at e;split at e
 .rename_i dss n e1 e2
  obtain⟨ds,e3,e4⟩:=map_some e;subst e4;obtain⟨h0,e5,Y⟩:=Lk e3;obtain⟨a,as,h1,h2,h3,h4⟩:=k.nest e1;refine⟨.ref a,h1,env,B,A,.int n,k,e2,λw H2 s2 r2=>?_⟩;have hw:w=.int n:=(Rm.pk r2).int;have ae:n.toNat<as.length:=by rw[h3];exact(AG.mp e5).1
  obtain⟨hz,vs,g1,g2⟩:=h4 n.toNat _ ds (AJ ae) e5;refine⟨a,as.map V.ref,n,.ref as[n.toNat],rfl,hw,E5.of (s2 _ _ h2),?_,q _ _ s2 (.inr (.inl ⟨_,vs,ds,rfl,rfl,hz,s2 _ _ g1,g2.mono (Wl s2)⟩))⟩;have aa:Fp (as.map V.ref) ((n.toNat:Nat):Int)=some (.ref as[n.toNat]):=Iv (by rw[AM,AJ ae];rfl)
  rwa [<- Y] at aa
 .cases e
def N1(i:Nat)(fa:Zzu)(fs:Zzv):Ev->Fl:=λenv=>match env[i]?,fa env with
 | some (.gx (.nest dss)),some (.int k)=>match Gt dss k with
  | some ds=>match (fs env).bind λas=>Wz ds as with
   | some ds'=>.next (env.set i (.gx (.nest (dss.set k.toNat ds'))))
   | none=>.no
  | none=>.no
 | _,_=>.no
theorem Au (i:Nat) {x:Str} (ha:Wp true X ix fa) (ac:I0 ix) (hb:Hf false X (e::es) fs)
  (hN:X.N[i]?=some x:=by rfl) (hv:MQ X.env.scope x:=by ext) (hd:C2 x:=by decide) (ai:(x==("__classdict__" : Str))=false:=by decide)
  (E:swapsWith (.Call (.Attribute (.Subscript (.Name x p) ix p2) "append" ay) (e::es) [] am) none pos.line X.env=pure false:=by rfl)
  (l:attributeBase (.Subscript (.Name x p) ix p2) "append" X.env (eval (.Subscript (.Name x p) ix p2) X.env)=eval (.Subscript (.Name x p) ix p2) X.env:=by rfl)
  (C:((backTo am (starEach (e::es) X.env)).all (λx=>!x.1)&&(backToKw am (keywordEach [] X.env)).all (λx=>x.1.isSome)
   && decide ((e::es).length+([]:Z Keyword).length+(if([]:Z Keyword).isEmpty then 0 else 1)<30))=true:=by rfl)
  (u:(ay.endLine==am.line)=true:=by rfl) (hs:Z0 X.env e es:=by rfl) (g:Z1 am X.env es:=by rfl) :
  Eo fr X (.Expr (.Call (.Attribute (.Subscript (.Name x p) ix p2) "append" ay) (e::es) [] am) pos) (N1 i fa fs):=(S3 (UH EY CI CJ (id:="list.append") Kt (TM Bu (Qd hN hv hd ai) ha ac) hb l C u hs g) E).weak λD σ H M=>by
 obtain⟨env,B,A,k,af,q⟩:=M;unfold N1 at q;split at q
 .rename_i dss n e1 e2
  split at q
  .rename_i ds e3
   split at q
   .rename_i ds' e4
    obtain⟨al,e5,Y⟩:=bind_some e4;obtain⟨h0,s,I⟩:=Lk e3;obtain⟨a,as,h1,h2,h3,h4⟩:=k.nest e1;refine⟨.ref a,h1,env,B,A,.int n,k,e2,λw H2 s2 r2=>?_⟩;have hw:w=.int n:=(Rm.pk r2).int;have ae:n.toNat<as.length:=by rw[h3];exact(AG.mp s).1
    obtain⟨hz,vs,g1,g2⟩:=h4 n.toNat _ ds (AJ ae) s;refine⟨a,as.map V.ref,n,.ref as[n.toNat],rfl,hw,E5.of (s2 _ _ h2),?_,.inl ⟨rfl,vs,E5.of (s2 _ _ g1)⟩,env,B,A,al,k.mono s2,e5,λus H3 s3 rs=>?_⟩
    .have aa:Fp (as.map V.ref) ((n.toNat:Nat):Int)=some (.ref as[n.toNat]):=Iv (by rw[AM,AJ ae];rfl)
     rwa [<- I] at aa
    have k3:=k.mono (s2.trans s3);obtain⟨v,o,m1,m2,m3,S⟩:=k3.gx af e1;rw[h1] at m1;cases m1;obtain⟨T,t,z1,W,z3,z4,z5,z6,z7,z8⟩:=m2;cases z1;have ao:t.map V.ref=as.map V.ref:=by
     have:=(s2.trans s3) _ _ h2;rw[z4] at this;exact HO.lst.inj (BI this)
    have ah:t=as:=by
     have aj:∀ (l1 l2:Z A2),l1.map V.ref=l2.map V.ref->l1=l2:=λl1=>by
      induction l1 with
      | nil=>intro l2 hl;cases l2 with | nil=>rfl | cons=>cases hl
      | cons y l1 ih =>
       intro l2 hl;cases l2 with
       | nil=>cases hl
       | cons y2 l2=>simp at hl;rw[hl.1,ih l2 (by simpa using hl.2)]
     exact aj _ _ ao
    subst ah;obtain⟨ob,ag,r,g3,g4⟩:=z8 n.toNat _ ds (AJ ae) s;generalize F:t[n.toNat]=b at *;have P:b∈t:=by rw[<- F];exact HZ ae
    unfold Wz at Y;split at Y
    .rename_i d
     split at Y
     .rename_i hl
      cases Y;obtain⟨y,h,e9,r3,ap⟩:=rs;have aq:us=[y]:=by rw[e9,show h=[] from ap]
      refine⟨b,r,y,rfl,aq,g3,by rw[Zv g4];exact hl,?_⟩;have hA:A b=true:=(m3 b ob).1;have m:Zp (av H3 A) (av (W7 H3 b (.lst (r++[y]))) A):=λc o2 ec=>by
       obtain⟨y1,y2⟩:=Tg ec;have hc:c≠b:=by intro z;rw[z,hA] at y1;cases y1
       exact V4 (by rw[Zf hc];exact y2) y1
      have f:a≠b:=λz=>z7 (z▸P)
      have hg:OD X.K A (W7 H3 b (.lst (r++[y]))) o (.nest (dss.set n.toNat (ds++[d]))) (.ref a):=by
       refine⟨a,t,rfl,W,by rw[CQ];exact z3,by rw[Zf f];exact z4,by rw[CQ];exact z5,z6,z7,λj c es q1 q2=>?_⟩;by_cases hj:n.toNat=j
       .subst hj
        rw[AJ ae,F] at q1;cases q1;rw[AZ,AE rfl,AE (by rw[<- h3];exact ae)] at q2;cases q2;exact⟨ob,by rw[AQ,CM];lia,r++[y],Zn,V5 (g4.mono m) (Jt (Rp.mono m r3))⟩
       .rw[AZ,AK hj] at q2
        obtain⟨y1,y2,R,y3,G⟩:=z8 j c es q1 q2;have ar:c≠b:=λz=>by
         obtain⟨J,Q⟩:=AG.mp q1;have:=List.nodup_iff_pairwise_ne.mp z6;rw[HB] at this;rcases EV n.toNat j with ak | hge2
         .exact this n.toNat j ae J ak (by rw[F,Q,z])
         .exact this j n.toNat J ae (by lia) (by rw[F,Q,z])
        exact⟨y1,y2,R,by rw[Zf ar];exact y3,G.mono m⟩
      obtain⟨w1,w2⟩:=S b (.lst (r++[y])) _ ob trivial hg;exact q A _ σ (((I'.same s2).trans (I'.same s3)).trans w1) w2
     .cases Y
    .cases Y
   .exact q.elim
  .exact q.elim
 .exact q.elim
end
section
variable{X:Cx}
def A9(i:Nat)(src:Zzv)(fs:Z (C1 Nat))(gg:Dat->Ev->C1 Ev):Ev->Fl:=λenv=>match src env with
 | some ds=>if ds.all (λd=>(gg d (Tl fs env)).isSome)=true then .next (env.set i (.gx (.nest (List.replicate ds.length [])))) else .no
 | none=>.no
theorem hK{J:It}{fs:Z (C1 Nat)}{g:Dat->Ev->C1 Ev}{Q:VK}{A:AS} 
  (c:∀ i∈is,fs[i]?=some none) (k:C' K B A H1 σ env) (u:PR false K A H1 ds J) (hz:ds.length<=sizeLine) (hc:∀ d∈ds,∃ e',g d (Tl fs env)=some e')
  (q:∀ (p:A2) (as:Z A2) (H':Hp),Zp H1 H'->H1 p=none->H' p=some (.lst (as.map V.ref))->as.length=ds.length->as.Nodup->p∉as->(∀ b∈as,H1 b=none/\H' b=some (.lst []))->Q (.ref p) H') :
  ∃ W:Nat->Nat->Z V->Hp->Prop,(∃ m,W 0 m [] H1)/\∀ i m zs H,W i m zs H ->
   (J.stop i H/\zs.length<=sizeLine/\∀ p,H p=none->Q (.ref p) (W7 H p (.lst zs))) \/
   (J.go i H/\zs.length<=sizeLine/\∃ N:Z V->Hp->Prop,(∀ af H',N af H'->∃ m',m'<m/\W (i+1) m' af H')/\∀ x H',J.yld i H x H'->(∃ env R A d env',C' K R A H' (U2 fs σ) env/\Rp K (av H' A) d x/\g d env=some env'/\∀ σ',C' K R A H' σ' env'->N9 is (U2 fs σ) σ' ->
    (TL (U2 fs σ) σ'/\∃ env R A b,C' K R A H' σ' env/\V7 env=some b/\∀ H3,Zp H' H3->if b=true then(∀ p,H3 p=none->N (zs++[.ref p]) (W7 H3 p (.lst []))) else N zs H3))):=by
 refine⟨λi m zs H=>m=ds.length - i/\i<=ds.length/\Zp H1 H/\∃ as:Z A2,zs=as.map V.ref/\as.length=i/\as.Nodup/\∀ b∈as,H1 b=none/\H b=some (.lst []),
  ⟨ds.length,by simp,CV _,Zp.refl _,[],rfl,rfl,DN,λb hb=>nomatch hb⟩,?_⟩
 rintro i m zs H ⟨rfl,hi,s1,as,rfl,I,aa,has⟩;have s:(as.map V.ref).length<=sizeLine:=by rw[AB];lia
 obtain⟨ah,n⟩:=u A H ⟨rfl,s1⟩ (k.mono s1).mu;by_cases ae:i<ds.length
 .have hx:ds[i]?=some ds[i]:=by simp[ae]
  obtain⟨go,E⟩:=ah i _ hx;obtain⟨l,b1⟩:=hc _ (HZ ae);refine .inr ⟨go,s,λw H'=>i+1<=ds.length/\Zp H1 H'/\∃ as:Z A2,w=as.map V.ref/\as.length=i+1/\as.Nodup/\∀ b∈as,H1 b=none/\H' b=some (.lst []),
   λw H' h=>⟨ds.length - (i+1),by lia,rfl,h⟩,λx H' G=>?_⟩
  obtain⟨s2,S⟩:=E x H' G;refine⟨Tl fs env,⟨H1,A,false⟩,A,ds[i],l,(k.inn fs).mono (s1.trans s2),S,b1,λσ' k' C=>⟨⟨C.1.symm,λj v ej=>?_⟩,l,⟨H1,A,false⟩,A,true,k',rfl,λH3 s3=>?_⟩⟩
  .have hj:j∉is:=λhj=>by
    have:=c j hj;unfold U2 at ej;rw[AM,this] at ej;cases ej
   rw[C.2 j hj];exact ej
  .rw[AE rfl]
   intro p hp;have s4:Zp H1 H3:=(s1.trans s2).trans s3;have f:p∉as:=λz=>by
    have:=(s2.trans s3) _ _ (has p z).2;rw[hp] at this;cases this
   refine⟨ae,λb o hb=>?_,as++[p],by rw[BM];rfl,by rw[AQ,CM,I],GJ.mpr ⟨aa,DB.mpr ⟨by simp,DN⟩,λa ha b hb=>by rw[AI.mp hb];intro z;exact f (z▸ha)⟩,λb hb=>?_⟩
   .have hn:b≠p:=λz=>by have:=s4 b o hb;rw[z,hp] at this;cases this
    rw[Zf hn];exact s4 b o hb
   .rcases CB.mp hb with hb | hb
    .have hn:b≠p:=λz=>f (z▸hb)
     exact⟨(has b hb).1,by rw[Zf hn];exact(s2.trans s3) _ _ (has b hb).2⟩
    .rw[AI.mp hb]
     exact⟨s4.free hp,Zn⟩
 .have e:i=ds.length:=by lia
  subst e;refine .inl ⟨n,s,λp hp=>q p as _ (λb o hb=>?_) (s1.free hp) Zn I aa (λz=>by have:=(has p z).2;rw[hp] at this;cases this) λb hb=>⟨(has b hb).1,?_⟩⟩
  .have hn:b≠p:=λz=>by have:=s1 b o hb;rw[z,hp] at this;cases this
   rw[Zf hn];exact s1 b o hb
  .have hn:b≠p:=λz=>by have:=(has b hb).2;rw[z,hp] at this;cases this
   rw[Zf hn];exact(has b hb).2
theorem ZV(i:Nat){x:Str}{a:Pos}(hN:X.N.Nodup)(ap:I3)(fs:Z (C1 Nat))(N:Z Str)(hp:X.env.scope=ap)(hc:X.calm=true)(hi:NO false X tg iter src)
  (hb:∀ (C:A2) (s:A4) (H:Hp) (fp:Z A2),NN is (Wb X sc N C s H fp) tg gg/\OX (Wb X sc N C s H fp) [] V7)
  (c:∀ i∈is,fs[i]?=some none) (y:X.N[i]?=some x:=by rfl) (hx:Cp X.env.scope x:=by ext) (S:CompOk ap sc X.N N fs:=by exact CompOk.of (by kernel_rfl!)) (hs:∀ x,foldedSetIterable iter X.env x=pure x:=by intro _;rfl) (E:swapsWith (.ListComp (.List [] a) [⟨tg,iter,[],0⟩] sc pos) (some (.Name x ao)) aE.line X.env=pure true:=by rfl)
  (hf:X.fn x=true\/X.env.scope.names.lookup x=some .local:=by ext) :
  Eo fr X (.Assign [.Name x ao] (.ListComp (.List [] a) [⟨tg,iter,[],0⟩] sc pos) aE) (A9 i src fs gg):=(Pf (g:=λv σ H Q=>∃ env R A d env',C' X.K R A H σ env/\Rp X.K (av H A) d v/\gg d env=some env'/\∀ σ',C' X.K R A H σ' env'->N9 is σ σ'->Q σ' H) (tt:=λσ H Q=>∃ env R A b,C' X.K R A H σ env/\V7 env=some b/\∀ H',Zp H H'->Q b H') (te:=λσ H Q=>∀ p,H p=none->Q (.ref p) (W7 H p (.lst []))) hN y hx ap fs N hp S hc hi (λC s H fp=>⟨(hb C s H fp).1,(hb C s H fp).2,(bt Vo).weak λσ H Q h=>⟨CV _,h⟩⟩) hs E hf).weak λD σ H M=>by
 obtain⟨env,B,A,k,af,q⟩:=M;unfold A9 at q;split at q
 .rename_i ds e
  split at q
  .rename_i G
   refine⟨env,B,A,ds,k,e,λJ H1 hz s1 u=>hK (Q:=λv H'=>D.nx (σ.set i (some v)) H') c (k.mono s1) u hz (λd hd=>FT.mp (DH.mp G d hd)) λp as H' s2 hn aG I aa f has=>?_⟩;have h1:=k.putG af i (g:=.nest (List.replicate ds.length [])) (v:=.ref p) (S:=λb=>decide (b=p)||decide (b∈as)) (s1.trans s2) (λb hb=>?_) (λb hb=>?_) ⟨p,as,rfl,by simp,by rw[EZ];exact hz,aG,by rw[EZ];exact I,aa,f,λn b es q1 q2=>?_⟩
   .exact q _ H' _ h1.1 h1.2
   .rw[GE,BU,BU] at hb
    rcases hb with z | z
    .rw[z];exact s1.free hn
    .exact s1.free (has b z).1
   .rw[GE,BU,BU] at hb
    rcases hb with z | z
    .rw[z,aG];trivial
    .rw[(has b z).2];trivial
   .have P:b∈as:=AH q1
    have j:es=[]:=by
     have:=AH q2;exact(FX.mp this).2
    subst j;exact⟨by simp[P],CV _,[],(has b P).2,Ua⟩
  .exact q.elim
 .exact q.elim
end
section
variable{X:Cx}
end
section
variable{z TI TO i1 i2:A2}{f1 f2:Z A2}{n:Nat}{P1 P2:Nat->A1->Prop}{S1 S2:Nat->G2->Prop}{a b:A1}
end
theorem Cw(q:h.IsTuple t xs)(o:Obj):(h.push o).IsTuple t xs:=by
 obtain⟨p,e,r⟩:=q;exact⟨p,AD _ e,r⟩
section
variable{st:Bool}{X:Cx}{l1 l2:C3}{tk:Nat}
end
theorem hH{Q:Z A1->A4->Prop}(hl:s.heap.IsTuple l vs.toArray)
  (h:Q vs { s with heap:=(s.heap.push (seqObj "list" #[] 0)).update s.heap.objs.size (Obj.mapSeq (·++vs.toArray)) }) (hsz:vs.length<=sizeLine) :
  wpAny (model prog w) A (collect (.ref l)) Q E s:=by
 obtain⟨o,ho,hc,n,hd⟩:=id hl;unfold collect;refine AA (HP (DG entry_proto_collect' ?_));show wpAny _ _ (do again (.builtin "list.__iadd__" ⟨[<- newList [],.ref l],[]⟩)) _ _ s;refine AA (LA (AC ⟨GB _ (by ext),DG entry_list_iadd' ?_⟩));show wpAny _ _ (Builtin.List.listExtendWith (.ref s.heap.objs.size) (.ref l) (.ref s.heap.objs.size)) _ _ { s with heap:=s.heap.push (seqObj "list" #[] 0) };unfold Builtin.List.listExtendWith;have f:(s.heap.push (seqObj "list" #[] 0)).get? l=some o:=AD _ ho;refine AA (FS (T:="tuple") ⟨o,f,hc⟩ ?_);have ht:(Value.type "tuple" == Value.type "tuple")=true:=by rfl
 rw[AE (by rw[ht];simp)];refine AA (listItems_at f hd ?_);refine AA (listItems_at (xs:=#[]) (n:=0) (AU _ rfl) rfl ?_);rw[AK (by simp)];refine AA (listUpdate_at (xs:=#[]) (n:=0) (AU _ rfl) rfl ?_ (CV _) (by show(#[]++vs.toArray).size<=sizeLine+1;simp only[Array.size_append,AV,KJ];lia));refine AC ?_;show wpAny (model prog w) A (do
   let o <- load s.heap.objs.size
   match o.data with
   | .seq xs _=>pure xs.toList
   | _=>unsupported "internal:collect") Q E { s with heap:=(s.heap.push (seqObj "list" #[] 0)).update s.heap.objs.size (Obj.mapSeq (·++vs.toArray)) }
 refine AA (wpAny_load (get?_update_seq (AU _ rfl) _) ?_);show wpAny _ _ (pure ((#[]:Array A1)++vs.toArray).toList) Q E _;rw[show((#[]:Array A1)++vs.toArray).toList=vs by simp];exact AC h
theorem f8{Q:LM}(hl:s.heap.IsTuple l vs.toArray)(hI:IntsAre vs ns)(g:vs.length<64)
  (h:∀ (out:Array A1) (a:Z Int),IntsAre out.toList a->a.Perm ns->a.Pairwise (·<=·)->Q (.ref (s.heap.objs.size+1)) { s with heap:=sortedAll s.heap vs out }) :
  wpAny (model prog w) A (call (.builtin "sorted") [.ref l]) Q E s:=by
 refine Calls.call_function_entry kind_sorted plain_sorted entry_sorted (args_sorted1 _) ?_;unfold Builtin.«sorted»;refine AA (m:=checkCount "sorted" 1 1 _) (AC ?_);refine AA (hH hl ?_ (by rw[DQ];lia));refine AA (LA ?_);have hsz:((s.heap.push (seqObj "list" #[] 0)).update s.heap.objs.size (Obj.mapSeq (·++vs.toArray))).objs.size=s.heap.objs.size+1:=by
  rw[ID,size_push']
 have F:(((s.heap.push (seqObj "list" #[] 0)).update s.heap.objs.size (Obj.mapSeq (·++vs.toArray))).push (seqObj "list" vs.toArray 0)).get? (s.heap.objs.size+1)=some (seqObj "list" vs.toArray 0):=by
  rw[<- hsz];exact AU _ rfl
 show wpAny _ _ _ _ _ { s with heap:=((s.heap.push (seqObj "list" #[] 0)).update s.heap.objs.size (Obj.mapSeq (·++vs.toArray))).push (seqObj "list" vs.toArray 0) };rw[hsz];refine AA (BP (BY slot_list_sort ⟨_,F,rfl⟩ entry_list_sort (list_sort_tree F hI g λout a a1 a2 a3=>⟨_,rfl,?_⟩) (args_list_sort _)));exact AC ⟨_,rfl,h out a a1 a2 a3⟩
section
variable{X:Cx}
def mP(K:KX):Z V->Hp->VK->Prop:=λxs H Q=>∃ p ns,xs=[.ref p]/\Sl K H p (ns.map V.int)/\ns.length<64 /\
 ∀ (f:Z Int) (l:A2),f.Perm ns->f.Pairwise (·<=·)->H l=none->Q (.ref l) (W7 H l (.lst (f.map V.int)))
theorem Cf:Vf X (.builtin "sorted") (mP X.K):=by
 intro aa s σ H xs us Q I r h;obtain⟨p,ns,rfl,hq,g,q⟩:=h;obtain⟨u,rfl,S⟩:=Jg r;cases S;obtain⟨its,r',pl,hz⟩:=I.tuple hq;have J:=r'.length;rw[AB] at J;refine f8 (show s.heap.IsTuple p its.toArray from pl) (Hb r') (by lia) λout f h1 h2 h3=>?_
 obtain⟨e,he⟩:=sortedAll_at s.heap its out;have hl:f.length=ns.length:=h2.length_eq;refine⟨.ref (s.heap.objs.size+1),W7 H (s.heap.objs.size+1) (.lst (f.map V.int)),I.laid (t':=s.toks) (λb o q=>sortedAll_old q) (DP _) ?_,rfl,q f _ h2 h3 (I.hok.fresh (DP _))⟩;refine⟨by rw[AB] at hz ⊢;lia,out.toList,e,Ro h1,?_⟩;rw[he]
def Jy:Z Dat->C1 (Z Dat)
 | [.lst xs]=>(Qj xs).bind λns=>if ns.length<64 then some ((Qa ns).map .int) else none
 | [.tup xs]=>(Qj xs).bind λns=>if ns.length<64 then some ((Qa ns).map .int) else none
 | _=>none
theorem Dy:SQ X (.builtin "sorted") Jy:=(B4.or Cf).weak λvs H Q M=>by
 obtain⟨A,ds,d,mu,e,p,q⟩:=M;unfold Jy at e;split at e
 .rename_i xs
  obtain⟨v,e1,p1⟩:=p.one;obtain⟨l,us,e2,h1,r1⟩:=p1.lst;obtain⟨ns,hn,e⟩:=bind_some e;split at e
  .rename_i g
   cases e;rw[Q5 hn] at r1;have eu:=V3 r1;subst eu;refine .inl ⟨l,ns,by rw[e1,e2],h1.sq,g,λf l' hp hs hl=>?_⟩;rw[Tw (hp.trans (V6 ns).symm) hs (Rj ns)];have h0:(64:Nat)<=sizeLine:=by decide
   exact q.at (by rw[AB,(V6 ns).length_eq];lia) (Mw _) l' hl
  .cases e
 .rename_i xs
  obtain⟨v,e1,p1⟩:=p.one;obtain⟨l,us,e2,h1,r1⟩:=p1.tup;obtain⟨ns,hn,e⟩:=bind_some e;split at e
  .rename_i g
   cases e;rw[Q5 hn] at r1;have eu:=V3 r1;subst eu;refine .inr ⟨l,ns,by rw[e1,e2],h1,g,λf l' hp hs hl=>?_⟩;rw[Tw (hp.trans (V6 ns).symm) hs (Rj ns)];have h0:(64:Nat)<=sizeLine:=by decide
   exact q.at (by rw[AB,(V6 ns).length_eq];lia) (Mw _) l' hl
  .cases e
 .cases e
end
open HT in
theorem E6{sl:A2}{Q:LM}(ht:IsTup s.heap t ac)(hs:s.heap.IsSliceOf sl vl vu .none)(pl:IsPart vl lo)(c:IsPart vu hi)
  (hw:(sIx ac.size 0 lo=0/\sIx ac.size ac.size hi=ac.size))
  (h:Q (.ref t) s)
  (hsz:ac.size<=sizeLine):wpAny (model prog w) A (getItem (.ref t) (.ref sl)) Q E s:=by
 obtain⟨os,b,d,o⟩:=id hs;have e:s.TypeIs (.ref sl) "slice" := ⟨os,b,d⟩;unfold getItem;try with_reducible refine BP ?_
 first | refine AA (AC ?_) | skip
 refine AA (wpAny_sequenceKey ht.typeIs (by decide) ?_);refine AA (CL (name:=Str.ofString "__getitem__") ht.typeIs EQ
  (BY EQ ht.typeIs entry_tuple_getitem ?_ (args_tuple_getitem _ _)))
 show wpAny _ _ (Builtin.Tuple.tupleItemsOf (.ref t) >>= _) _ _ s;refine AA (tupleItemsOf_ ht ?_);refine AA (FS e ?_);rw[AE (by decide)];refine AA (Mv hs pl c ?_);have a:(((sIx ac.size 0 lo:Nat):Int)==0&&(1:Int)==1&&(sIx ac.size ac.size hi - sIx ac.size 0 lo)==ac.size)=true:=by
  rw[hw.1,hw.2];simp
 show wpAny _ _ (if(((sIx ac.size 0 lo:Nat):Int)==0&&(1:Int)==1&&(sIx ac.size ac.size hi - sIx ac.size 0 lo)==ac.size)=true then _ else _) _ _ s;rw[AE a];unfold Builtin.Tuple.tupleIsExact;refine AA (AA (FS ht.typeIs (AC ?_)));rw[AE (by decide)];exact AA (HQ (AC ⟨_,rfl,AC h⟩))
section
variable{X:Cx}
def fW(K:KX):V->C1 Int->C1 Int->Hp->VK->Prop:=λx lo hi H Q=>∃ a xs,x=.ref a/\Sl K H a xs /\
 (HT.sIx xs.length 0 lo=0/\HT.sIx xs.length xs.length hi=xs.length)/\Q (.ref a) H
theorem eW:MY X (fW X.K):=by
 intro aa s σ H x v vl vu lo hi sl Q I S hs pl c h;obtain⟨a,xs,rfl,hx,hw,q⟩:=h;cases S;obtain⟨its,r,ht,hz⟩:=I.tuple hx;have J:its.toArray.size=xs.length:=by rw[AV];exact r.length.symm
 refine⟨"tuple",_,PyProof.Rows.slot_tuple_getitem.lookup,ht.typeIs,?_⟩;exact E6 ht hs pl c (by rw[J];exact hw) ⟨.ref a,H,I,rfl,q⟩ (by rw[J];exact hz)
def Xw:Dat->C1 Int->C1 Int->C1 Dat
 | .lst xs,lo,hi=>some (.lst (Ja xs lo hi))
 | .str z,lo,hi=>some (.str (Txt.slice z lo hi))
 | .tup xs,lo,hi=>some (.tup (Ja xs lo hi))
 | _,_,_=>none
theorem Mu:VF X Xw:=(fR.or eW).weak λv lo hi H Q M=>by
 obtain⟨A,x,d,mu,e,p1,q⟩:=M;unfold Xw at e;split at e
 .exact .inl ⟨A,.lst _,d,mu,e,p1,q⟩
 .exact .inl ⟨A,.str _,d,mu,e,p1,q⟩
 .rename_i xs
  by_cases hw:HT.sIx xs.length 0 lo=0/\HT.sIx xs.length xs.length hi=xs.length
  .obtain⟨l,vs,e1,h1,r1⟩:=p1.tup
   cases e;have ec:Ja xs lo hi=xs:=by unfold Ja;rw[hw.1,hw.2];simp
   rw[ec] at q;exact .inr ⟨l,vs,e1,h1,by rw[Zv r1];exact hw,by rw[<- e1];exact q.here (by rcases p1 with h | ⟨_,_,_,e9,_⟩ | ⟨_,_,_,e9,_⟩ | ⟨_,_,e9,_⟩;exact h;cases e9;cases e9;cases e9)⟩
  .exact .inl ⟨A,.tup xs,d,mu,by show(if _ then none else _)=_;rw[AK hw];exact e,p1,q⟩
 .cases e
end
set_option maxHeartbeats 3200000 in
theorem kl{Q:LM}
  (hh:A.handled=none) (hl:s.heap.IsTuple l ac) (hi:IntsAre ac.toList ns) (hb:ac.size+1<scanBound)
  (h:∀ (h':G2) (tk:Nat),SK P w h' s.heap.objs.size (Lu w) (fm (λi=>ns.getD i 0) ac.size)->(∀ b o,s.heap.get? b=some o->h'.get? b=some o)->Q (.ref s.heap.objs.size) { s with heap:=h',toks:=tk }) :
  wpAny (model P w) A (call (.type "set") [.ref l]) Q E s:=by
 obtain⟨c,tl,hmro⟩:=F.called_set.mro;have hmade:=F.called_set.made;have G:=F.called_set.sub;refine FL (KI ?_);show wpAny _ _ (callAny (.type "set") _) _ _ _;refine AC ⟨GB _ (by ext),DG F.entry_type_call ?_⟩;rw[Around.under_plain (weight_type_call_type "set" [.ref l] []) rfl];have h1:=F.called_set.notType;have h2:=F.called_set.canCreate;have hct:=F.typeCall_set_1 (.ref l);repeat (any_goals (first | assumption | wp_step))
 refine EF (fq (.ref l) (E:=E) (Q₁:=λobj s₁=>obj=.ref s.heap.objs.size/\s₁={ s with heap:=s.heap.push (Vu w) }) ⟨rfl,rfl⟩) λr s₁ hr=>?_
 cases r with
 | error e=>exact hr
 | ok fl =>
  cases fl with
  | ret obj =>
   obtain⟨rfl,rfl⟩:=hr;have hS:(s.heap.push (Vu w)).get? s.heap.objs.size=some (Vu w):=AU _ rfl;have hT:Shared.TypeIs { s with heap:=s.heap.push (Vu w) } (.ref s.heap.objs.size) "set" := ⟨_,hS,rfl⟩;have hli:=F.called_set.init.lookup;have j:=F.called_set.init.bind (.ref s.heap.objs.size);repeat (any_goals (first | assumption | wp_step))
   refine EF (EW (R:=wants (λr s₂=>r=.none/\∃ h' tk,s₂={ s with heap:=h',toks:=tk }/\SK P w h' s.heap.objs.size (Lu w) (fm (λi=>ns.getD i 0) ac.size)/\(∀ b o,s.heap.get? b=some o->h'.get? b=some o)) E) F.called_set.init.plain F.entry_set_init (check_set_init_1 hT ?_)) λr₂ s₂ hr₂=>?_
   .obtain⟨y,g,ah,p,M⟩:=hl
    obtain⟨ocls,k,odata,f⟩:=y;simp only at ah M;subst ah;subst M;have n:(s.heap.push (Vu w)).get? l=some { cls:=.type "tuple",dict:=k,data:=.seq ac p,slots:=f }:=AD _ g;have hsls:=F.sub_tuple_set;have hslf:=F.sub_tuple_frozenset;have ag:(Value.type "tuple" == Value.type "dict")=false:=by decide
    have I:(s.heap.push (Vu w)).IsTuple l ac:=⟨_,n,rfl,p,rfl⟩;unfold Builtin.«set.__init__» noKeywords Builtin.Frozenset.updateFrom;generalize z:pyIter=PI
    wp_walk
    subst z;refine GC I ?_;refine AA (HP ?_);have q:l<s.heap.objs.size:=AN g;have x:l≠(s.heap.push (Vu w)).objs.size:=by rw[Yy];exact BJ (DJ q)
    have m:s.heap.objs.size∉[(s.heap.push (Vu w)).objs.size,l]:=by
     rw[Yy];intro hm;rcases BA.mp hm with e | e
     .exact BJ (ED _) e
     .exact JF q (AI.mp e)
    have a:∀ (i:Nat) (v:A1),ac[i]?=some v->∃ t,v=.int ((λi=>ns.getD i 0) i) t:=λi v hv=>IntsAre.int_at hi i v (by rw[EN];exact hv)
    refine ek ((Walks.tuple (show A.in1.in1.in1.handled=none from hh) _ l x ac).toS) s.heap.objs.size m (λi=>ns.getD i 0) a hb (ac.size - 0) 0 _ (by lia) (CV _)
     ⟨⟨_,AU _ rfl,rfl,rfl⟩,(Cw I _)⟩ ((jz s.heap).heap λo e=>AD _ e) ?hR
    case hR =>
     intro s' hm d;rw[KZ hm];show wpAny _ _ _ _ _ _;refine AC ?_;show wpAny _ _ (ret Value.none) _ _ _;refine AC ⟨rfl,_,_,rfl,d,λb o e=>hm.heap b o (λu=>?_) (AD _ (AD _ e))⟩;have ae:=AN e;rcases BA.mp u with e' | u
     .exact BJ ae e'
     .exact BJ (DJ ae) (by have h9:=AI.mp u;rw[Yy] at h9;exact h9)
   .cases r₂ with
    | error e=>exact hr₂
    | ok fl₂ =>
     cases fl₂ with
     | ret r =>
      obtain⟨rfl,h',tk,rfl,d,C⟩:=hr₂;repeat (any_goals (first | assumption | wp_step))
      exact h _ _ d C
     | _=>exact hr₂.elim
  | _=>exact hr.elim
section
variable{X:Cx}
end
theorem Sd(q:h.IsList t xs)(e:∀ o,h.get? t=some o->h'.get? t=some o):h'.IsList t xs:=by
 obtain⟨o,ho,r⟩:=q;exact⟨o,e o ho,r⟩
theorem F8(ag:t≠it):∀ (n i:Nat) (s:A4) (Q:Z A1->A4->Prop),s.heap.IsListIter it t i->s.heap.IsList t ac->i+n<=ac.size ->
  (∀ h',h'.IsListIter it t (i+n)->SameBut it s.heap h'->Q ((ac.toList.drop i).take n) { s with heap:=h' })->wpAny (model prog w) A (draw (.ref it) n) Q E s
 | 0,i,s,Q,c,_,_,j=>by
  show wpAny _ _ (pure []) Q E s;exact AC (by simpa using j s.heap c (SameBut.refl ..))
 | n+1,i,s,Q,c,ht,N,j=>by
  have ae:i<ac.size:=by lia
  show wpAny _ _ (pyNext (.ref it) >>= _) Q E s;refine AA (IE c ht (x:=ac[i]) (by simp[ae]) λh₁ hit₁ hs₁=>?_);refine AA (BP (F8 ag n (i+1) _ _ hit₁ (Sd ht λo e=>hs₁.extBut _ _ ag e) (by lia) λh₂ hit₂ hs₂=>AC ?_));have hd:ac.toList.drop i=ac[i]::ac.toList.drop (i+1):=by simp[FN,ae]
  have:=j h₂ (by rw[show i+(n+1)=i+1+n by lia];exact hit₂) (hs₁.trans hs₂);rw[hd,GH] at this;exact this
theorem Lh{Q:Z A1->A4->Prop}(hh:A.handled=none)(ht:s.heap.IsList t ac)
  (j:∀ h',ExtBut s.heap.objs.size s.heap h'->Q ac.toList { s with heap:=h' }):wpAny (model prog w) A (unpackItems (.ref t) ac.size none) Q E s:=by
 have ae:t≠s.heap.objs.size:=by obtain⟨o,ho,_⟩:=ht;exact BJ (AN ho)
 unfold unpackItems;refine AA ?_
 .unfold notIterableAtAll
  refine AA (IU ht.typeIs slot_list_iter.lookup ?_);refine AC ?_;simp only[FE,HF];refine AA (BP (JR ht ?_));refine AA (BP (F8 ae ac.size 0 _ _ ⟨_,AU _ rfl,rfl,rfl⟩ (Sd ht λo e=>AD _ e) (by lia) λh₁ hit₁ hs₁=>?_));have G:List.take ac.size (List.drop 0 ac.toList)=ac.toList:=by
   rw[LB];exact BZ (by simp)
  rw[G];rw[AK (by simp)];have ht₁:Heap.IsList h₁ t ac:=Sd (Sd ht λo e=>AD _ e) λo e=>hs₁.extBut _ _ ae e
  refine AA (BP (IL hh hit₁ ht₁ (by simp) λh₂ he₂=>?_));simp only[Option.isSome_none,FE,HF];refine AC (j h₂ λb o hb e=>he₂ b o hb (hs₁.extBut b o hb (AD _ e)))
theorem Ie{env:J1}{a:Z C3}{x1}(hh:A.handled=none)(ht:s.heap.IsList t ac)
  (hn:(assignEach a env).length=ac.size) (b:(assignEach a env).findIdx? (·.1)=none)
  (h:∀ h',ExtBut s.heap.objs.size s.heap h'->wpAny (model prog w) A (assignInOrder ((assignEach a env).map (·.2)) ac.toList) Q E { s with heap:=h' }) :
  wpAny (model prog w) A (assign (.Tuple a x1 pos) env (.ref t)) Q E s:=by
 rw[assign_Tuple];refine AA (DO ?_);unfold unpack;rw[hn,b];exact AA (BP (Lh hh ht h))
section
variable{X:Cx}
def eQ(K:KX)(n:Nat)(t:NP):TG:=λv σ H Q=>∃ a xs,v=.ref a/\E5 K H a xs/\xs.length=n/\t xs σ H Q
theorem je{t:NP}{n:Nat}(hc:X.calm=true)(h:OH X es t)
  (hn:(assignEach es X.env).length=n:=by rfl) (af:(assignEach es X.env).findIdx? (·.1)=none:=by rfl):PG X (.Tuple es k pos) (λv σ H Q=>bX X.K n t v σ H Q\/eQ X.K n t v σ H Q):=by
 intro aa s σ H v u Q I r hw;rcases hw with hw | hw
 .exact mK hc h hn af aa s σ H v u Q I r hw
 obtain⟨a,xs,e1,hq,hl,hw⟩:=hw;subst e1;cases r;obtain⟨its,rv,pl,hz⟩:=I.list hq;refine Ie (I.ok.hd hc) pl.isList (by simp[hn,<- hl,rv.length]) af λh' hx=>?_
 have I1:F' X aa σ H { s with heap:=h' }:=I.kept (t':=s.toks) λb o e=>hx b o (BJ (AN e)) e
 exact h aa _ σ H xs _ Q I1 (by simpa using rv) hw
def Sa(n:Nat)(b:Z Dat->Ev->C1 Ev):Dat->Ev->C1 Ev:=λd env=>match d with
 | .tup ds=>if ds.length=n then b ds env else none
 | .lst ds=>if ds.length=n then b ds env else none
 | _=>none
theorem Jp{b:Z Dat->Ev->C1 Ev}{n:Nat}(hc:X.calm=true)(h:SY is X es b)
  (hn:(assignEach es X.env).length=n:=by rfl) (af:(assignEach es X.env).findIdx? (·.1)=none:=by rfl):NN is X (.Tuple es k pos) (Sa n b):=(je hc h hn af).weak λv σ H Q M=>by
 obtain⟨env,R,A,d,env',k,r,e,q⟩:=M;unfold Sa at e;split at e
 .rename_i ds
  split at e
  .rename_i hl
   obtain⟨a,vs,ev,h1,r1⟩:=Re r;exact .inl ⟨a,vs,ev,W5.seqT h1,by rw[Zv r1];exact hl,env,R,A,ds,env',k,r1,e,q⟩
  .cases e
 .rename_i ds
  split at e
  .rename_i hl
   obtain⟨a,vs,ev,h1,r1⟩:=Mm r;exact .inr ⟨a,vs,ev,(W5.sl h1).sq,by rw[Zv r1];exact hl,env,R,A,ds,env',k,r1,e,q⟩
  .cases e
 .cases e
end
theorem Al{Q:LM}(hh:A.handled=none)(hS:SK P w s.heap S (Lu w) ks)(g:ks.length<64)(aa:ks.Nodup)
  (h:∀ (out:Array A1) (f:Z Int) (h':G2) (tk:Nat) (d:Drawn) (Lq_:A2) (e:Nat),IntsAre out.toList f->f.Perm ks->f.Pairwise (·<=·)->(∀ b o,s.heap.get? b=some o->h'.get? b=some o)->s.heap.objs.size<=Lq_->h'.get? Lq_=some (seqObj "list" out e)->Q (.ref Lq_) { s with heap:=h',toks:=tk,drawn:=d }) :
  wpAny (model P w) A (call (.builtin "sorted") [.ref S]) Q E s:=by
 refine Calls.call_function_entry kind_sorted plain_sorted entry_sorted (args_sorted1 _) ?_;unfold Builtin.«sorted»;refine AA (m:=checkCount "sorted" 1 1 _) (AC ?_);refine AA (nV (A:=A.in1) hh hS λvs h' tk d hv kp W=>?_);obtain⟨ns,hI,hp⟩:=hv;have J:vs.length=ns.length:=by
  clear hp;induction hI with
  | nil=>rfl
  | cons n t hr ih=>simp[ih]
 refine AA (LA (hsz:=by have:=hp.length_eq;rw[DQ];simp;lia) ?_);have F:(h'.push (seqObj "list" vs.toArray 0)).get? h'.objs.size=some (seqObj "list" vs.toArray 0):=AU _ rfl;refine AA (BP (BY slot_list_sort ⟨_,F,rfl⟩ entry_list_sort (list_sort_tree F hI (by rw[J,hp.length_eq];exact g) λout f a1 a2 a3=>⟨_,rfl,?_⟩) (args_list_sort _)));obtain⟨e,he⟩:=sortedHeap_at (out:=out) F;refine AC ⟨_,rfl,h out f _ tk d h'.objs.size e a1 (a2.trans hp) a3 (λb o C=>?_) W he⟩;have hb:=kp b o C;have ae:=AN hb;rw[sortedHeap_old (BJ ae) (by rw[Yy];exact DJ ae)];exact AD _ hb
section
variable{X:Cx}
def PM(fs:Zzv):Ev->C1 (Z Dat):=λenv=>match fs env with
 | some [.tup xs]=>(Qj xs).bind λns=>if ns.length<64 then some ((Qa (ns.foldl Qh [])).map .int) else none
 | _=>none
theorem Cv{p1 q1 q2:Pos}(j:Gl X "sorted")(m:X.mg "sorted" = none)(r:Gl X "set")(z:X.mg "set" = none)(ha:Hf true X [e] fs)(hc:X.calm=true:=by rfl)
  (E:bootBuiltins "sorted" = some (.builtin "sorted"):=by ext) (F:bootBuiltins "set" = some (.type "set"):=by ext)
  (x:starEach [.Call (.Name "set" p2) [e] [] q2] X.env=[(false,eval (.Call (.Name "set" p2) [e] [] q2) X.env)]:=by rfl)
  (G:starEach [e] X.env=[(false,eval e X.env)]:=by rfl) :
  MS X (.Call (.Name "sorted" p1) [.Call (.Name "set" p2) [e] [] q2] [] q1) (PM fs):=by
 intro aa s σ H Q I ⟨env,R,A,ds,k,e1,q⟩;unfold PM at e1;split at e1
 case h_2=>cases e1
 rename_i xs P;obtain⟨ns,hn,e1⟩:=bind_some e1;split at e1
 case isFalse=>cases e1
 rename_i g;cases e1;refine CU (Jj I j m E (callWith_builtin1 ?_ x rfl));rw[x];refine JJ ?_;refine Call_ (Jj I r z F (callWith_type1 (V2 (ha q2 aa s σ H (λvs H1=>∃ v,Zp H H1/\vs=[v]/\Pk X.K A H1 (.tup xs) v) I ⟨env,R,A,[.tup xs],k,P,λvs H1 s1 r1=>?_⟩) λus s1 ⟨vs,H1,I1,r1,v,sm,ev,pv⟩=>?_) G rfl))
 .obtain⟨v,e3,p1⟩:=r1.one
  exact⟨v,s1,e3,p1⟩
 subst ev;obtain⟨a,ys,ea,h1,r2⟩:=pv.tup;subst ea;obtain⟨u,rfl,B⟩:=Jg r1;cases B;rw[Q5 hn] at r2;have eu:=V3 r2;subst eu;obtain⟨its,h,pl,hz⟩:=I1.tuple h1;have J:=h.length;rw[AB] at J;have hsz:its.toArray.size=ns.length:=by rw[AV];exact J.symm
 refine kl (I1.ok.hd hc) (show s1.heap.IsTuple a its.toArray from pl) (Hb h) (by rw[hsz];unfold scanBound;lia) λh' tk hS kp=>?_
 refine JS ?_;rw[hsz,d2] at hS;have Y:=Dh ns;refine Al (s:={ s1 with heap:=h',toks:=tk }) (I1.ok.hd hc) hS (by lia) (Ep ns [] DN) λout f h2 l d Lq_ c a1 a2 a3 n D he=>?_
 have i:s1.heap.objs.size<=Lq_:=by
  rcases EV Lq_ s1.heap.objs.size with ae | W
  .exfalso
   obtain⟨es,ep,t,ho,_⟩:=hS;have:=AN ho;exact DI _ (EL D (LI ae this))
  .exact W
 have hml:f.length<=ns.length:=by rw[a2.length_eq];exact Y
 have h0:(64:Nat)<=sizeLine:=by decide
 have I2:F' X aa σ (W7 H1 Lq_ (.lst (f.map V.int))) { s1 with heap:=h2,toks:=l }:=I1.laid (λb o C=>n b o (kp b o C)) i (show Yr X.prog X.w _ h2 _ (.lst (f.map V.int)) from⟨by rw[AB];lia,out.toList,c,Ro a1,he⟩);have em:f=Qa (ns.foldl Qh []):=Tw (a2.trans (V6 _).symm) a3 (Rj _);subst em;exact⟨.ref Lq_,_,I2.drawn d,rfl,(q.mono sm).at (by rw[AB];lia) (Mw _) _ (I1.hok.fresh i)⟩
end
variable{k:C3}
def QJ:Dat->C1 (Z Vz)
 | .tup [.int a,.int b]=>some [.inl a,.inl b]
 | _=>none
theorem C6{A:AS}{d:Dat}{ks:Z Vz}(e:QJ d=some ks)(r:Pk K A H d v):∃ p,v=.ref p/\H p=some (.tup (ks.map kV)):=by
 unfold QJ at e;split at e
 .rename_i a b
  cases e;obtain⟨p,vs,e1,h1,r1⟩:=r.tup;have ev:vs=[.int a,.int b]:=V3 (ns:=[a,b]) r1;subst ev;rcases h1 with h1 | ⟨_,_,_,_,_,_,_,_,h2⟩
  .exact⟨p,e1,h1⟩
  .exact absurd AX (h2 a)
 .cases e
def Lp(kvs:Z (Z Vz×Dat))(ks:Z Vz):Bool:=(kvs.map (·.1)).any λx=>decide (x=ks)
theorem cX{us:Z (Z Vz×V)}{k:Z Vz}:(Eb us k).isSome=(us.map (·.1)).any λx=>decide (x=k):=by
 rw[any_map,<- Hi];congr 1
section
variable{X:Cx}{g:Zzu}
def RX(neg:Bool)(i:Nat)(f:Zzu):Ev->C1 Dat:=λenv=>match env[i]?,f env with
 | some (.gx (.dict kvs)),some d=>(QJ d).map λks=>.bl (if neg then !Lp kvs ks else Lp kvs ks)
 | _,_=>none
theorem C'.dictA{A:AS}{kvs:Z (Z Vz×Dat)}(k:C' K B A H σ env)(h:env[i]?=some (.gx (.dict kvs))) :
  ∃ (a:A2) (us:Z (Z Vz×V)),σ[i]?=some (some (.ref a))/\H a=some (.dT us)/\us.map (·.1)=kvs.map (·.1):=by
 obtain⟨own,h1,h2,h4⟩:=k.sl;obtain⟨x,q1,v,e1,a,us,e2,e3,e4,e5,Y,s⟩:=h4 i _ h;subst e1 e2;exact⟨a,us,q1,e5,Y⟩
def Xe(i:Nat)(fk fv:Zzu):Ev->Fl:=λenv=>match env[i]?,fv env,fk env with
 | some (.gx (.dict kvs)),some d,some y=>match QJ y with
  | some ks=>if Lp kvs ks=false/\kvs.length<sizeLine then .next (env.set i (.gx (.dict (kvs++[(ks,d)])))) else .no
  | none=>.no
 | _,_,_=>.no
theorem mm(i:Nat){x:Str}(hu:X.A.units+1<cLine)(ha:Wp true X ix f)(hb:Wp false X e g)
  (hN:X.N[i]?=some x:=by rfl) (hv:MQ X.env.scope x:=by ext) (hd:C2 x:=by decide) (ai:(x==("__classdict__" : Str))=false:=by decide)
  (hs:swapsWith e (some (.Subscript (.Name x p) ix ao)) pos.line X.env=pure false:=by rfl) :
  Eo fr X (.Assign [.Subscript (.Name x p) ix ao] e pos) (Xe i f g):=(hZ hu (Qd hN hv hd ai) ha hb hs).weak λD σ H M=>by
 obtain⟨env,B,A,k,af,q⟩:=M;unfold Xe at q;split at q
 .rename_i kvs d y h1 h2 h3
  split at q
  .rename_i ks Y
   split at q
   .rename_i hc
    obtain⟨a,us,s1,s2,s3⟩:=k.dictA h1;refine⟨env,B,A,d,k,h2,λv H1 l r1=>⟨.ref a,s1,env,B,A,y,k.mono l,h3,λu H2 j r2=>?_⟩⟩;obtain⟨b,e4,e5⟩:=C6 Y r2.pk;subst e4;have sm:=l.trans j;have k3:=k.mono sm;obtain⟨I,o,m1,m2,m3,S⟩:=k3.gx af h1;rw[s1] at m1;cases m1;obtain⟨T,h,z1,W,z3,z4,z5,z6⟩:=m2;cases z1;have s:h=us:=by
     have:=sm _ _ s2;rw[z4] at this;exact HO.dT.inj (BI this)
    subst s;have n:Eb h ks=none:=by
     have:=cX (us:=h) (k:=ks);rw[s3] at this;have h9:Lp kvs ks=false:=hc.1;unfold Lp at h9;rw[h9] at this;cases r:Eb h ks with
     | none=>rfl
     | some _=>rw[r] at this;cases this
    have w:h.length=kvs.length:=by have:=EB List.length s3;rwa [AB,AB] at this
    have ep:Kb h ks v=h++[(ks,v)]:=il v n;refine⟨a,W7 H2 a (.dT (h++[(ks,v)])),rfl,by rw[<- ep];exact SM.t (sm _ _ s2) e5 (by rw[w];exact hc.2),?_⟩;have hA:A a=true:=(m3 a W).1;have m:Zp (av H2 A) (av (W7 H2 a (.dT (h++[(ks,v)]))) A):=λc o2 ec=>by
     obtain⟨y1,y2⟩:=Tg ec;have hc:c≠a:=by intro z;rw[z,hA] at y1;cases y1
     exact V4 (by rw[Zf hc];exact y2) y1
    have hg:OD X.K A (W7 H2 a (.dT (h++[(ks,v)]))) o (.dict (kvs++[(ks,d)])) (.ref a):=by
     refine⟨a,h++[(ks,v)],rfl,W,by rw[AQ];exact hc.2,Zn,by rw[BM,BM,s3];rfl,?_⟩;rw[BM,BM];exact V5 (z6.mono m) (Jt ((Rp.mono (Wl j) (show Rp X.K (av H1 A) d v from r1)).mono m))
    obtain⟨w1,w2⟩:=S a (.dT (h++[(ks,v)])) _ W trivial hg;exact q A _ σ ((I'.same sm).trans w1) w2
   .exact q.elim
  .exact q.elim
 .exact q.elim
def jh(tk tv:TE):TE:=λσ H Q=>∀ p,H p=none->tk σ (W7 H p (.dT [])) λy H1=>tv σ H1 λx H2=>H2 p=some (.dT [])/\∃ ks b,y=.ref b/\H2 b=some (.tup (ks.map kV))/\Q (.ref p) (W7 H2 p (.dT [(ks,x)]))
theorem lE{env:J1}{K:Type}[DecidableEq K]{knd:HeapKind prog w K}{v:C3}{Q:LM}
  (h:wpAny (model prog w) A (evalPairs (pairTrees [some k] [v] env pos)) (λvs s₁=>∃ b x ks,vs=[(.ref b,x)]/\knd.room A/\knd.is s₁.heap ks b/\s₁.heap.DictOfH knd s.heap.objs.size [] /\
   ∀ h',h'.DictOfH knd s.heap.objs.size (storedH [] ks b x)->SameBut s.heap.objs.size s₁.heap h'->Q (.ref s.heap.objs.size) { s₁ with heap:=h',toks:=s₁.toks+knd.draws ks }) E
   { s with heap:=s.heap.push { cls:=.type "dict",data:=.dict #[] } }) :
  wpAny (model prog w) A (eval (.Dict [some k] [v] pos) env) Q E s:=by
 rw[arm_eval_Dict,zip_pairTrees [some k] [v] env pos rfl rfl,dictDisplay_pairs (pairTrees [some k] [v] env pos) (by simp[pairTrees]) (by simp[pairTrees])];refine AA (DO (AA ?_));unfold subDict;refine AA (wpAny_alloc ?_);refine AA (BP ?_);rw[AE (by simp[pairTrees])];refine AA (BQ h (λvs s₁ h₁=>?_) λ_ _ e=>e);obtain⟨b,x,ks,rfl,hr,Y,hm,hq⟩:=h₁;refine BP ?_;rw[List.forIn_cons];refine AA (AA (AA (wpAny_dictSet_heap hr Y hm (λh' a c=>AC ?_) (CV _))));show wpAny _ _ (forIn ([]:Z (A1×A1)) PUnit.unit _) _ _ _;rw[List.forIn_nil];exact AC (AC (AC (AC (hq h' a c))))
theorem fY{v:C3}{tk:TE}(hu:X.A.units+1<cLine)(Y:PE X k tk)(hv:PE X v tv):PE X (.Dict [some k] [v] pos) (jh tk tv):=by
 intro aa s σ H Q I q;have hn:=I.hok.fresh (AT s.heap.objs.size);have I1:=I.laid (a:=s.heap.objs.size) (o:=.dT []) (h':=s.heap.push { cls:=.type "dict",data:=.dict #[] }) (t':=s.toks) (λ_ _ q=>AD _ q) (AT _) (jX s.heap I.big);refine lE (knd:=tupleKind (Vp X.prog X.w)) (pairTrees_cons_walk (V2 (Y aa _ σ _ _ I1 (q _ hn)) λu s1 ⟨y,H1,I2,m,q1⟩=>V2 (hv aa s1 σ H1 _ I2 q1) λJ s2 ⟨x,H2,R,S,q2⟩=>pairTrees_nil_walk ?_));obtain⟨hp,ks,b,p,C,q3⟩:=q2;subst p;cases (show u=Value.ref b from m);obtain⟨z,hd,xs,d,dd⟩:=dG R.hok hp;cases d;refine⟨b,J,ks,rfl,(show X.A.units<cLine by lia),Cs R.hok C,dd,λh' j hs=>⟨.ref s.heap.objs.size,_,?_,rfl,q3⟩⟩;obtain⟨q,es,ep,hq,h2,h3,h4,_,h5⟩:=j;have r1:=(KT.put (H:=H2) (kvs:=[]) (xs:=[]) .nil ks C S);refine Cq R (by rw[hp];exact FM) hs ⟨q,hq⟩ ⟨by show 1<=sizeLine;decide,hd,_,r1.keeps λc ys ec=>?_,q,es,ep,hq,h2,h3,h4,h5⟩;rw[Zf (ZN ec hp (λz=>nomatch z))];exact ec
def SF(i:Nat)(fk fv:Zzu):Ev->Fl:=λenv=>match fk env,fv env with
 | some y,some (.bl d)=>match QJ y with
  | some ks=>.next (env.set i (.gx (.dict [(ks,.bl d)])))
  | none=>.no
 | _,_=>.no
theorem kO(i:Nat){x:Str}{m:C3}{a:Pos}(hN:X.N.Nodup)(hi:X.N[i]?=some x)(hx:Cp X.env.scope x)(hu:X.A.units+1<cLine)(ha:Wp true X m f)(hb:Wp false X e g)
  (hs:swapsWith (.Dict [some m] [e] a) (some (.Name x ao)) pos.line X.env=pure false:=by rfl)
  (hf:X.fn x=true\/X.env.scope.names.lookup x=some .local:=by ext) :
  Eo fr X (.Assign [.Name x ao] (.Dict [some m] [e] a) pos) (SF i f g):=(Gk hN hi hx (fY hu ha hb) hs hf).weak λD σ H M=>by
 obtain⟨env,B,A,k,af,q⟩:=M;unfold SF at q;split at q
 .rename_i y d h1 h2
  split at q
  .rename_i ks Y
   intro p hp;have h:Zp H (W7 H p (.dT [])):=Zp.new hp;refine⟨env,B,A,y,k.mono h,h1,λu H1 l r1=>⟨env,B,A,.bl d,(k.mono h).mono l,h2,λv H2 j r2=>⟨j _ _ (l _ _ Zn),?_⟩⟩⟩;obtain⟨b,e4,e5⟩:=C6 Y r1.pk;refine⟨ks,b,e4,j _ _ e5,?_⟩;have n:Zp H (W7 H2 p (.dT [(ks,v)])):=λc o ec=>by
    rw[Zf (λz=>by rw[z,hp] at ec;cases ec)];exact j _ _ (l _ _ (h _ _ ec))
   have h9:=k.putG af i (g:=.dict [(ks,.bl d)]) (v:=.ref p) (S:=λb=>decide (b=p)) n (λb hb=>by rw[BK hb];exact hp) (λb hb=>by rw[BK hb,Zn];trivial) ⟨p,[(ks,v)],rfl,by simp,by show 1<=sizeLine;decide,Zn,rfl,Jt ?_⟩
   .exact q _ _ _ h9.1 h9.2
   .rw[(show Rp X.K (av H2 A) (.bl d) v from r2) |> Lj];exact T3
  .exact q.elim
 .exact q.elim
end
end L2
variable{r:L2.Fl}{h:L2.Ev->L2.Fl}{q:Nat×Nat}{l:Z Nat}{as ys:Z L2.Dat}{lo:Int}{I:Nat×Nat->Prop}{s0:Nat}{rs:Z (Nat×Nat)}
namespace L2
open PySem PySem.Spec PyProof.Rows PySem.W
section
variable{X:Cx}{h₀:ExceptHandler}{hs:Z ExceptHandler}
variable{a b c:C3}{f1 f2 f3:Zzu}{F1 F2:Dat->Dat->C1 Dat}{m1 m2 m3:Bool}
def RD(i:Nat)(f:Zzu):Ev->Fl:=λenv=>match env[i]?,f env with
 | some (.fz (.int x)),some (.int y)=>.next (env.set i (.fz (.int (x+y))))
 | _,_=>.no
theorem hk(i:Nat){x:Str}(hN:X.N.Nodup)(hi:X.N[i]?=some x)(hx:Cp X.env.scope x)(he:Wp m1 X e f1)
  (hf:X.fn x=true\/X.env.scope.names.lookup x=some .local:=by ext):Eo fr X (.AugAssign (.Name x ao) .Add e pos) (RD i f1):=(pB hN hi hx he pC hf).weak λD σ H M=>by
 obtain⟨env,B,A,k,af,q⟩:=M;unfold RD at q;split at q
 .rename_i n m h1 h2
  obtain⟨own,z1,W,z4⟩:=k.sl;obtain⟨w,q1,v,e1,e2⟩:=z4 i _ h1;subst e1;have ev:v=.int n:=Mo e2;subst ev;refine⟨.int n,q1,env,B,A,.int m,k,h2,λy H1 s1 r1=>?_⟩;refine⟨n,m,rfl,r1.pk.int,?_⟩;exact q A H1 _ (I'.same s1) ((k.mono s1).put i Wc)
 .exact q.elim
theorem hF(i:Nat){x:Str}(hu:X.A.units+1<cLine)(he:Wp true X e f1)(hN:X.N[i]?=some x:=by rfl)(hv:MQ X.env.scope x:=by ext)(hd:C2 x:=by decide)(ai:(x==("__classdict__" : Str))=false:=by decide)
  (hm:behindInMarks .In (.Name x p)=false:=by rfl):MX X (.Compare e [.In] [.Name x p] pos) (dB (RX false i f1)):=(hD (la hu he (Qd hN hv hd ai)) hm).weak λσ H Q M=>by
 obtain⟨env,R,A,d,k,e1,q⟩:=M;have e1:=B0 e1;unfold RX at e1;split at e1
 .rename_i kvs d0 h1 h2
  obtain⟨ks,Y,e3⟩:=map_some e1;have e4:=Dat.bl.inj e3;subst e4;obtain⟨a,us,s1,s2,s3⟩:=k.dictA h1;refine⟨env,R,A,d0,k,h2,λy H1 sm r1=>⟨.ref a,s1,a,Eb us ks,rfl,?_,_,rfl,?_⟩⟩
  .obtain⟨b,e4,e5⟩:=C6 Y r1.pk
   subst e4;exact RJ.t (sm _ _ s2) e5
  .rw[cX,s3]
   exact q H1 sm
 .cases e1
end
end L2
namespace L2
open PySem PySem.Spec PyProof.Rows
section
variable{κ:Type}[DecidableEq κ]{kd:HeapKind prog w κ}
end
section
variable{X:Cx}{F:Z Dat->Rs}
theorem kL{x:Str}(C:MG X.prog X.w X.K X.mg X.base k x ps fr F)(hr:J2 k X.A)(ha:Hf false X (e::es) fs)(hg:Gl X x:=by rfl)
  (l:C2 x:=by decide) (he:Z0 X.env e es:=by rfl) (ac:Z1 pos X.env es:=by rfl) (hp:X.pl=false:=by rfl) :
  Wp m X (.Call (.Name x p) (e::es) [] pos) (Y3 F fs):=Wp.any ((Pn C hr ha hg l he ac (λz=>by rw[hp] at z;cases z)).weak λσ H Q M=>by
 obtain⟨env,B,A,d,kk,q1,q2⟩:=M;obtain⟨ds,e1,e2⟩:=bind_some q1;have e3:=Di e2;refine⟨env,B,A,ds,kk,e1,?_⟩;rw[e3];exactλv H' s r=>q2 v H' s r)
end
end L2
namespace L2
open PySem PySem.Spec PyProof.Rows PySem.W
section
variable{X:Cx}{b:Bool}
theorem SP.unpls{D:LP}{f:Flow}(h:SP (X.pls b) aa D f s):SP X aa D f s:=by
 cases f with
 | next=>obtain⟨σ',H',I,q⟩:=h;exact⟨σ',H',I.unpls,q⟩
 | brk=>obtain⟨σ',H',I,q⟩:=h;exact⟨σ',H',I.unpls,q⟩
 | cont=>obtain⟨σ',H',I,q⟩:=h;exact⟨σ',H',I.unpls,q⟩
 | ret u=>obtain⟨v,σ',H',I,r,q⟩:=h;exact⟨v,σ',H',I.unpls,r,q⟩
theorem R7.unpls{st:Z Df}{t:TS}(h:R7 (X.pls b) st t):R7 X st t:=λaa s σ H D I hw =>
 BQ (h aa s σ H D I.pls hw) (λ_ _ q=>q.unpls) λ_ _ z=>z
end
section
variable{K:Frag}
abbrev lD(P:Fn)(w:Gf)(K:KX)(mg:LO)(base:G2)(N:Z Str)(aj:Str)(scope:I3)(f:A2)(cd:A1)(A:C0)(outer:Z J1)(s:A4)(H:Hp)(E:XK):Cx :=
 (Tv (MM P w base true) P w K mg base N aj scope f cd A outer s H E).pls true
theorem oP{x:Str}{st:Df}{N:Z Str}(D:OR K mg x st)(S:FnScope N ps (Z7 st))
  (j:dV x st ps)
  (hb:∀ (f:A2) (ak:A1) (A:C0) (outer:Z J1) (s:A4) (H:Hp) (E:XK),J2 k (A.deeper (envOfC x (Z7 st) s.heap.objs.size f ak))->Xk fr (lD P w K mg base N x (Z7 st) f ak A outer s H E) (Yj st) g) :
  MG P w K mg base (k+1) x ps fr (Yk N.length ps.length g) true:=by
 have ac:ps.length<=N.length:=by have:=EB List.length S.pre;rw[BN] at this;lia
 obtain⟨f,fd,F,hm⟩:=D.ex;refine⟨⟨f,fd,F.okX S (λvs H Q E h=>h.1) λak A outer s H vs Q E hr ⟨hl,ds,R,mu,r,q⟩=>⟨_,R7.unpls (hb f ak A outer s H E hr),?_⟩,hm,F.kp,F.binds j⟩,λds h=>Kp h⟩;unfold Yk at q;split at q
 .rename_i hl
  refine⟨Ue N.length ds,⟨H,R,true⟩,R,Ik mu r (by lia),rfl,?_⟩;split at q
  .rename_i d' e
   rw[e];exactλv H' s r n=>q v H' s r n
  .rename_i env e
   rw[e];exactλA' H' σ' s k=>q .non H' k.h0 Kr (λ_=>trivial)
  .rename_i env c fs e
   rw[e];exactλA' H' σ' st k aa s' e C dct I hc x hf i=>K0 I.unpls x rfl i (q C dct H' k.h0 hc (hf.mono (Vb k.ra)))
  .exact q.elim
 .exact q.elim
structure MO (P:Program) (w:World) (K:KX) (mg:LO) (base:Heap) (k:Nat) (x:Str) (ps:List Str) (fr:Bool) (F:List Dat->Rs):Prop where
 ex:∃ f fd,LR P w K mg base Eu k f fd ps (WS K fr ps.length F)/\mg x=some (.ref f)/\PySem.W.keepIn K (.ref f)=true/\Jz K fd ps []
 len:∀ ds d,F ds=.ok d->ds.length=ps.length
theorem MO.d{x:Str}{F:Z Dat->Rs}(C:MO P w K mg base k x ps fr F):MZ P w K mg base k x ps fr F:=by
 obtain⟨f,fd,D,r⟩:=C.ex;exact⟨⟨f,fd,D.x,r⟩,C.len⟩
theorem MJ.okN{x:Str}{st:Df}{f:A2}{N:Z Str}(F:MJ K x aj st f fd)(S:FnScope N ps (Z7 st))(len:∀ vs H Q E,sp vs H Q E->vs.length=ps.length)
  (a:∀ (ak:A1) (A:C0) (outer:Z J1) (s:A4) (H:Hp) (vs:Z V) (Q:VK) (E:XK),J3 k (A.deeper (envOfC aj (Z7 st) s.heap.objs.size f ak))->MU (D5 Eu P w K mg base N aj (Z7 st) f ak A outer s H E).nox->sp vs H Q E ->
   ∃ t,R7 (D5 Eu P w K mg base N aj (Z7 st) f ak A outer s H E).nox (Yj st) t/\t { nx:=λ_ H'=>Q .non H',rt:=Q } (LJ N vs) H):LR P w K mg base Eu (k+1) f fd ps sp:=by
 obtain⟨oc,od,kV,aw,pm,an,ak,ct,i,rfl,lk,ai⟩:=F.ex;refine nw lk ai S len λA outer s H vs Q E hr Y ac=>?_
 obtain⟨t,h,q⟩:=a ak A outer s H vs Q E hr (show MU (D5 Eu P w K mg base N aj (Z7 st) f ak A outer s H E).nox from⟨Y,rfl⟩) ac;exact⟨t,h.nox,q⟩
theorem cb{x:Str}{st:Df}{N:Z Str}(D:OR K mg x st)(S:FnScope N ps (Z7 st))
  (j:dV x st ps)
  (hb:∀ (f:A2) (ak:A1) (A:C0) (outer:Z J1) (s:A4) (H:Hp) (E:XK),J3 k (A.deeper (envOfC x (Z7 st) s.heap.objs.size f ak))->MU (D5 Eu P w K mg base N x (Z7 st) f ak A outer s H E).nox->Xk fr (D5 Eu P w K mg base N x (Z7 st) f ak A outer s H E).nox (Yj st) g) :
  MO P w K mg base (k+1) x ps fr (Yk N.length ps.length g):=by
 have ac:ps.length<=N.length:=by have:=EB List.length S.pre;rw[BN] at this;lia
 obtain⟨f,fd,F,hm⟩:=D.ex;refine⟨⟨f,fd,F.okN S (λvs H Q E h=>h.1) λak A outer s H vs Q E hr hh zz=>⟨_,hb f ak A outer s H E hr hh,?_⟩,hm,F.kp,F.binds j⟩,λds d h=>cC h⟩;obtain⟨hl,ds,R,d,mu,r,t,q⟩:=zz;exact Pq ac mu r t q
end
section
variable{X:Cx}{F:Z Dat->Rs}{x:Str}
theorem bc(C:MO X.prog X.w X.K X.mg X.base k x ps fr F)(hr:J3 k X.A)(hh:RA X)(ha:Hf false X (e::es) fs)(hg:Gl X x:=by rfl)
  (l:C2 x:=by decide) (he:Z0 X.env e es:=by rfl) (ac:Z1 pos X.env es:=by rfl) :
  Wp m X (.Call (.Name x p) (e::es) [] pos) (Y3 F fs):=by
 obtain⟨f,fd,D,hm,Y,hb⟩:=C.ex;have aj:=pD (dvs:=[]) (ds:=[]) (E:=E0) D hr hh hg hm Y hb .nil cw ha l he ac (p:=p);have a:PE X (.Call (.Name x p) (e::es) [] pos) (cM (WS X.K fr ps.length F) (λσ H Q=>∃ env R A ds,C' X.K R A H σ env/\fs env=some ds/\∀ vs H',Zp H H'->ML false X.K A H' ds vs->Q vs H')):=λaa s σ H Q I h=>aj aa s σ H Q I (by
  unfold SU;simp only[EG];exact h)
 refine Wp.any (a.weak λσ H Q zz=>?_);obtain⟨env,R,A,d,k,q1,q2⟩:=zz;obtain⟨ds,e1,e2⟩:=bind_some q1;have e3:=Di e2;refine⟨env,R,A,ds,k,e1,λvs H1 s1 rs=>⟨by rw[Zv rs.rps];exact C.len ds d e3,ds,A,d,k.mu.mono s1,rs.rps,e3,λv H' s r _=>q2 v H' (s1.trans s) r⟩⟩
end
structure XMakeN (P:Program) (w:World) (K:Frag) (mg:LO) (base:Heap) (k:Nat) (c:Str) (p:Nat) (G:List Dat->Option (List (Str×XD))):Prop where
 ex:∃ C fI D fd ps,Wd K c C/\mg c=some (.ref C)/\keepIn K (.ref C)=true/\R9 K C fI D=true/\LL K C/\isFn K (.ref fI)=true/\LR P w K mg base Eu k fI fd ps (NW K C p G)/\Jz K fd ps []
 len:∀ ds fl,G ds=some fl->ds.length=p
 few:p<=10
variable{P:Str->A2->Prop}{e:A2}{b1 b2:Df}{T1 T2 q:Str}{l:Z (Str×A2)}
theorem XMakeN.x{P:Fn}{w:Gf}{K:Frag}{mg:LO}{base:G2}{k:Nat}{c:Str}{p:Nat}{G:Z Dat->C1 (Z (Str×XD))}(M:XMakeN P w K mg base k c p G):LY P w K mg base k c p G:=by
 obtain⟨C,fI,D,fd,ps,h1,h2,h3,h4,h5,h6,h7,r⟩:=M.ex;exact⟨⟨C,fI,D,fd,ps,h1,h2,h3,h4,h5,h6,h7.x,r⟩,M.len,M.few⟩
section
variable{P:Fn}{K:Frag}
theorem bp{x:Str}{st:Df}{D:A2}{f:Str}{r:TJ}(F:MJ K "__init__" aj st fI fd)(S:FnScope ["self",x] ["self",x] (Z7 st))(hx:R9 K C aC D=true)(xc:LL K C)(hf:findIn K (.ref C) f=some none)
  (hb:∀ (ak:A1) (A:C0) (outer:Z J1) (s:A4) (H:Hp) (E:XK),J3 k (A.deeper (envOfC aj (Z7 st) s.heap.objs.size fI ak)) ->
   R7 (D5 Eu P w K mg base ["self",x] aj (Z7 st) fI ak A outer s H E).nox (Yj st) (PX (TF (UG K (Hs (Hv 0) (Hs (B1 r) QP)))) (VR K (Hv 0) (TR (WR K) (Hs (Hv 1) QP)) f)))
  (hj:∀ (H:Hp) (e a:A2) (ns:Z Int),SL K H a (ns.map V.int)->Kg ns->QG 0 [some (.ref e),some (.ref a)] H r) :
  LR P w K mg base Eu (k+1) fI fd ["self",x] (NW K C 1 (gW f)):=by
 refine F.okN S (λvs H Q E zz=>by obtain⟨e,ws,ds,R,fl,ev,hl,_⟩:=zz;rw[ev,BS,hl];rfl) λak A outer s H vs Q E hr hh zz=>⟨_,hb ak A outer s H E hr,?_⟩;obtain⟨e,ws,ds,R,fl,ev,hl,he,mu,re,rs,hG,q⟩:=zz
 subst ev;unfold gW at hG;split at hG
 .rename_i xs
  obtain⟨ns,hn,hG⟩:=bind_some hG;split at hG
  .rename_i hs
   cases hG;have hs:=Fy hs;obtain⟨v,r',e1,r1,r2⟩:=Y2 rs;have e2:=Yv r2;subst e1 e2;obtain⟨a,us,e3,hS,B⟩:=Mm r1;rw[Q5 hn] at B;have e4:=V3 B;subst e3 e4;have d:SL K H a (ns.map V.int):=W5.sl hS;show PX _ _ _ [some (.ref e),some (.ref a)] H;refine⟨.ref e,rfl,?_⟩;refine hj H e a ns d hs Str.empty _ (by decide) λz=>?_
   refine⟨e,C,none,.str z,aC,D,rfl,he,hx,?_⟩;refine⟨.ref a,rfl,a,ns.map V.int,rfl,.inl d.sq,λl n=>?_⟩;have N:l≠e:=λz=>by rw[z,he] at n;cases n
   refine⟨.ref e,rfl,e,C,none,aC,D,rfl,by rw[Zf (AY N)];exact he,hx,xc,hf,λdx m p=>?_⟩;have M:dx≠l:=λz=>by rw[z,Zn] at m;cases m
   have u:H dx=none:=by rw[Zf M] at m;exact m
   have t:∀ {b:A2},H b=none->R b=false:=λ{b} z=>by
    cases y:R b with
    | false=>rfl
    | true=>obtain⟨o,ho⟩:=(mu b y).some;rw[z] at ho;cases ho
   refine q _ (some dx) (λc o hc h=>?_) ?_ ?_ (bM u Zn λg a hm=>by simp at hm;obtain⟨_,rfl⟩:=hm;exact⟨n,_,by rw[Zf (AY M),Zf N,Zn]⟩)
   .have c1:c≠dx:=λz=>by rw[z,u] at h;cases h
    have c2:c≠l:=λz=>by rw[z,n] at h;cases h
    rw[Zf c1,Zf hc,Zf c2];exact h
   .rw[Zf (AY p),Zn]
   .refine⟨[(f,.ref l)],V4 Zn (t u),λg=>?_⟩
    by_cases J:g=f
    .subst J
     refine .inr ⟨.nums ns,.ref l,by simp[List.lookup],by simp[List.lookup],l,rfl,.inl (.inl (V4 ?_ (t n))),?_⟩
     .rw[Zf (AY M),Zf N,Zn]
     .exact EU (Tr (by have:=hs.1;lia))
    .have e':(g==f)=false:=by simpa using J
     exact .inl ⟨by simp[List.lookup,e'],by simp[List.lookup,e']⟩
  .cases hG
 .cases hG
end
theorem gm{K:Frag}{A:AS}(h:Bj K H dct fl)(n:Xl H0 H dct)(J:∀ b,H0 b=none->A b=false):Bj K (av H A) dct fl:=by
 cases dct with
 | none=>exact h
 | some dx =>
  obtain⟨j,e1,e2⟩:=h;refine⟨j,V4 e1 (J _ (n dx rfl).1),λf=>(e2 f).imp id λ⟨d,v,a,b,c⟩=>⟨d,v,a,b,?_⟩⟩;cases d with
  | int i=>exact c
  | nums is =>
   obtain⟨T,z1,W,z3⟩:=c;subst z1;have hn:=J _ (((n dx rfl).2 j f T e1 b).1);refine⟨T,rfl,?_,z3⟩;rcases W with(z | ⟨o,z⟩) | z
   .exact .inl (.inl (V4 z hn))
   .exact .inl (.inr ⟨o,V4 z hn⟩)
   .exact .inr z
def Iy(F:Z Dat->Rs):Z Dat->Rs:=λds=>match F ds with
 | .ok d=>if RH d=true then .ok d else .no
 | r=>r
section
variable{X:Cx}{F:Z Dat->Rs}{x:Str}{e:C3}
theorem eM(C:MG X.prog X.w X.K X.mg X.base k x ps fr F pl)(hr:J2 k X.A)(ha:Hf true X (e::es) fs)(hg:Gl X x:=by rfl)
  (l:C2 x:=by decide) (he:Z0 X.env e es:=by rfl) (ac:Z1 pos X.env es:=by rfl) (hp:X.pl=true->pl=true:=by first | exactλ_=>rfl | exactλz=>nomatch z) :
  PE X (.Call (.Name x p) (e::es) [] pos) (OW X fr (Iy F) fs):=by
 obtain⟨f,fd,D,hm,Y,hb⟩:=C.ex;intro aa s σ H Q I ⟨env,B,A,ds,kk,e1,q⟩;refine CU (U9 I hg hm ?_ l);refine GD (h₀:=X.base) I.ok.mod.kin Y (V2 (ha pos aa s σ H (λvs H1=>Zp H H1/\Wm X.K H1 ds vs) I ⟨env,B,A,ds,kk,e1,λvs H1 s1 rs=>⟨s1,rs.full⟩⟩) λus s1 ⟨vs,H1,I1,r,sm,rs⟩=>⟨I1.kIn,?_⟩) he ac;have ag:F ds≠.no:=λz=>by unfold Iy at q;rw[z] at q;exact q
 have hl:us.length=ps.length:=by rw[<- r.length,Zv rs];exact C.len ds ag
 let E:XK:=λcls dct H'=>∃ c fl C,F ds=.exc c fl/\cls=.ref C/\Wd X.K c C/\Zp H1 H'/\Bj X.K H' dct fl
 refine FL (EF (D.run X.A X.stack s1 H1 ⟨us,[]⟩ us vs Q E hr I1.env0 (by simpa using hb s1 us I1.kIn (by simpa using hl)) r ⟨by rw[Zv rs];exact C.len ds ag,ds,no,(λa h=>by cases h),by rw[TW];exact rs,?_⟩) λm s' hq=>?_)
 .unfold QX
  split
  .rename_i d hd
   unfold Iy at q;rw[hd] at q;dsimp only at q;split at q
   .rename_i d' hq
    split at hq
    .rename_i n
     cases hq;exactλv H' s2 r2 _=>q v H' (sm.trans s2) (by rw[TW] at r2;exact Rp.pure (kk.mu.mono (sm.trans s2)) n r2)
    .cases hq
   .rename_i hq
    split at hq<;>cases hq
   .exact q.elim
  .rename_i c fl hd
   exactλC dct H' s2 hc hf=>⟨c,fl,C,hd,rfl,hc,s2,by rw[TW] at hf;exact hf⟩
  .rename_i hd
   exact ag hd
 .cases m with
  | error ev =>
   obtain⟨ex,C,dct,T,H',c2,rfl,ho,G,un,hok,h1,h2,h3,h4,ht,ak,i,c,fl,g,t,M,hc,j,hf⟩:=hq;cases M;unfold Iy at q;rw[t] at q;have I2:F' X aa σ H' s':=I1.call' (ch:=[]) ho un hok G (λb z=>absurd z (by simp));have sz:X.s₀.heap.objs.size<=s1.heap.objs.size:=I1.sz;have np:∀ {a:A2},s1.heap.objs.size<=a->∀ p∈X.pn++aa,p.1≠a:=λ{a} ha p hp z=>by
    have:=(I1.pin p hp).1;rw[z] at this;exact absurd (AN this) (FD.mpr ha)
   have J:∀ b,H1 b=none->A b=false:=λb z=>by
    cases y:A b with
    | false=>rfl
    | true=>obtain⟨o,ho⟩:=(kk.mu.mono sm b y).some;rw[z] at ho;cases ho
   exact q A H' σ (I'.same (sm.trans j)) (kk.mono (sm.trans j)) rfl aa s' ex C dct I2 hc ⟨BC sz h1,h3,.inr ⟨T,c2,BC sz h2,h4,np h2,ht,ak.x hp⟩,np h1⟩ (gm hf i J) (i.mono λb z=>kk.h0.none (sm.none z))
  | ok fl =>
   cases fl with
   | ret u=>exact I1.after hq
   | next=>exact False.elim hq
   | brk=>exact False.elim hq
   | cont=>exact False.elim hq
end
variable{x:Str}
theorem J3.make(r:J3 (k+1) A)(C:A2)(us:Z A1)(kw:Z (Str×A1)):J3 k (A.under (.builtin "type.__call__" ⟨.ref C::us,kw⟩)) :=
 ⟨by have:=r.dp;rw[P6];lia,by have:=r.un;rw[X1];lia,r.gd⟩
abbrev Cx.inR(X:Cx)(pn:LK)(e:A2):Cx:={ X with A:=X.A.mark (some (.ref e)),calm:=false,pn:=pn }
theorem XV{X:Cx}(j:X.stack=X.env::X.outer/\X.env.frame=some X.env.locals)(hm:(e,oe)∈pn)(hd:oe.data=.fields ve)(h2:ve[2]?=some .none):QL (X.inR pn e):=λaa σ H s I=>by
 obtain⟨a,b,c,d,_⟩:=I.pin (e,oe) (CP _ hm);refine .inr ⟨e,oe,ve,rfl,a,hd,h2,b,λz=>?_⟩;have z:e∈E9 X.stack:=z;rw[j.1] at z;unfold E9 at z;rw[EK,j.2] at z;rcases BA.mp z with z | z
 .exact c z
 .exact d z
section
variable{X:Cx}{e:C3}{aS:Pos}{n:Nat}{c:Str}
theorem fe{vs:Z V}{A:AS}(M:XMakeN X.prog X.w X.K X.mg X.base k c n G)(hr:J3 (k+1) X.A)(hh:RA X)
  (I:F' X aa σ H s) (kk:C' X.K B A H σ env) (r:Y8 vs us) (rs:Wm X.K (av H A) ds vs) (hG:G ds=some fl) {C fI D:A2} (ah:Wd X.K c C) (hx:R9 X.K C fI D=true) {fd:Ff} {ps:Z Str} (ai:isFn X.K (.ref fI)=true) (F:LR X.prog X.w X.K X.mg X.base Eu k fI fd ps (NW X.K C n G)) (hb:Jz X.K fd ps []) :
  wpAny (model X.prog X.w) X.A (call (.ref C) us) (λv s'=>∃ ex t dct H',v=.ref ex/\s'.heap.get? ex=some { cls:=.ref C,dict:=dct,data:=.fields #[.ref t,.none,.none,.none,.bool false,.none] }/\F' X aa σ H' s'/\Zp H H'/\X.s₀.heap.objs.size<=ex/\H' ex=none/\(∀ p∈X.pn++aa,p.1≠ex)/\Bj X.K (av H' A) dct fl/\s.heap.objs.size<=ex/\Xl B.H₀ H' dct) E s:=by
 obtain⟨nm,qn,N,bs,sn,sub,ab,col,dd,k0,k1,k2,k3,k5,mN,hC,hN,hi,T⟩:=Ou I.kIn hx;have f:∃ y,s.heap.get? fI=some y/\y.cls=.type "function" := by
  have:=DC.mp ai;obtain⟨y,h1,h2⟩:=Option.map_eq_some_iff.mp this;exact⟨y,I.kIn _ _ h1,h2⟩
 obtain⟨y,f,W⟩:=f;have J:us.length<=sizeLine:=by
  have h1:=r.length;have h2:=Zv rs;have h3:=M.len ds fl hG;have h4:=M.few;exact EU (Tr (by lia))
 obtain⟨hp,g,d,tk,os⟩:=s;refine X0 (hrest:=J) EI (by decide) EI T hC hN hi f W λh' ex i hm=>?_
 obtain⟨t0,P,_,_⟩:=hm.there;have ag:H ex=none:=I.hok.fresh i;have I2:F' X aa σ (W7 H ex (.ext (Ew ex C none))) ⟨h',g,d,tk,os⟩:=I.laid (h':=h') (t':=tk) (a:=ex) (o:=.ext (Ew ex C none)) hm.keeps i (Bc ⟨t0,P⟩);have h:A ex=false:=by
  cases z:A ex with
  | false=>rfl
  | true=>obtain⟨o,ho⟩:=(kk.mu ex z).some;rw[ag] at ho;cases ho
 have l:Zp H (W7 H ex (.ext (Ew ex C none))):=Mr ag;let Q':VK:=λv H'=>v=.non/\∃ dct,(∀ c o,c≠ex->W7 H ex (.ext (Ew ex C none)) c=some o->H' c=some o)/\H' ex=some (.ext (Ew ex C dct))/\Bj X.K (av H' A) dct fl/\Xl (W7 H ex (.ext (Ew ex C none))) H' dct
 have ac:NW X.K C n G (.ref ex::vs) (W7 H ex (.ext (Ew ex C none))) Q' E0:=⟨ex,vs,ds,A,fl,rfl,by rw[Zv rs];exact M.len ds fl hG,Zn,kk.mu.mono l,h,rs.mono (Wl l),hG,λH' dct h1 h2 h3 h4=>⟨rfl,dct,h1,h2,h3,h4⟩⟩;have af:(Value.ref ex::us).length=ps.length:=by
  have e1:=F.len _ _ _ _ ac;have e2:=r.length;rw[BS] at e1 ⊢;lia
 refine FL (EF (F.run _ X.stack ⟨h',g,d,tk,os⟩ _ ⟨Value.ref ex::us,[]⟩ (Value.ref ex::us) (V.ref ex::vs) Q' E0 (hr.make C us []) (hh _ _ _ _ I2) (I2.env0.make C us []) (by simpa using hb _ (Value.ref ex::us) I2.kIn (by simpa using af)) (.cons rfl r) ac) λm s' hq=>?_);cases m with
 | error e=>exact False.elim hq
 | ok aq =>
  cases aq with
  | ret u =>
   obtain⟨v,H',R,rv,ev,dct,h1,h2,h3,h4⟩:=I2.after hq;subst ev;have eu:u=.none:=rv;subst eu;refine⟨rfl,?_⟩;obtain⟨⟨S,ak⟩,_,_⟩:=(show Yr X.prog X.w H' s'.heap ex (.ext (Ew ex C dct)) from R.hok ex _ h2);have I4:=R.drop h2;have sm:Zp H (NB H' ex):=λb o q=>by
    have hb:b≠ex:=λz=>by rw[z,ag] at q;cases q
    rw[D8 hb];exact h1 b o hb (by rw[Zf hb];exact q)
   refine⟨ex,S,dct,NB H' ex,rfl,ak,I4,sm,BC I.sz i,Hu,λp hp z=>?_,?_,i,dw h4 ⟨_,h2⟩ kk.h0⟩
   .have:=(I.pin p hp).1
    rw[z] at this;exact absurd (AN this) (FD.mpr i)
   .exact h3.of_ne (e:=ex) (V4 h2 h) λc o hc q=>V4 (by rw[D8 hc];exact(Tg q).2) (Tg q).1
  | next=>exact False.elim hq
  | brk=>exact False.elim hq
  | cont=>exact False.elim hq
theorem ZY(M:XMakeN X.prog X.w X.K X.mg X.base k c n G)(hr:J3 (k+1) X.A)(hh:QL X)(ha:Hf false X (e::es) fs)(hn:X.A.handled≠none)(Q:X.pl=false:=by rfl)(j:X.stack=X.env::X.outer:=by rfl)(hg:Gl X c:=by rfl)(l:C2 c:=by decide)
  (he:Z0 X.env e es:=by rfl) (ac:Z1 am X.env es:=by rfl) {kn:Nat}:Eo fr X (.Raise (some (.Call (.Name c p) (e::es) [] am)) (some (.Constant .none kn aS)) pos) (Uh c G fs):=by
 intro aa s σ H D I ⟨env,B,A,kk,af,q⟩;obtain⟨C,fI,D',fd,ps,ah,hm,a,hx,xc,ai,F,hb⟩:=M.ex;unfold Uh at q;split at q
 .exact q.elim
 rename_i fl P;obtain⟨ds,e1,hG⟩:=bind_some P;obtain⟨nm,qn,N,bs,sn,sub,ab,col,dd,k0,k1,k2,k3,k5,mN,hC,hN,hi,T⟩:=Ou I.kIn hx;obtain⟨h,J⟩:∃ h,X.A.handled=some (.ref h):=by
  rcases hh _ _ _ _ I with z | ⟨h,_,_,z,_⟩
  .exact absurd z hn
  .exact⟨h,z⟩
 have aj:wpAny (model X.prog X.w) X.A (eval (.Call (.Name c p) (e::es) [] am) X.env) (λv s'=>∃ ex t dct H',v=.ref ex/\s'.heap.get? ex=some { cls:=.ref C,dict:=dct,data:=.fields #[.ref t,.none,.none,.none,.bool false,.none] }/\F' X aa σ H' s'/\Zp H H'/\X.s₀.heap.objs.size<=ex/\H' ex=none/\(∀ p∈X.pn++aa,p.1≠ex)/\Bj X.K (av H' A) dct fl/\h≠ex/\Xl B.H₀ H' dct) X.xe s:=by
  refine CU (U9 I hg hm ?_ l);refine callWith_K (h₀:=X.base) I.ok.mod.kin a (V2 (ha am aa s σ H (λvs H1=>Zp H H1/\Wm X.K (av H1 A) ds vs) I ⟨env,B,A,ds,kk,e1,λvs H1 s1 rs=>⟨s1,rs.rps⟩⟩) λus s1 ⟨vs,H1,I1,r,sm,rs⟩=>⟨I1.kIn,?_⟩) he ac;refine BQ (fe (E:=X.xe) M hr hh.c I1 (kk.mono sm) r rs hG ah hx ai F hb) (λv s' ⟨ex,t,dct,H',z1,W,z3,z4,z5,z6,z7,z8,z9,al⟩=>⟨ex,t,dct,H',z1,W,z3,sm.trans z4,z5,z6,z7,z8,λz=>?_,al⟩) λ_ _ z=>z
  rcases hh _ _ _ _ I1 with y | ⟨h',_,_,y,y1,_⟩
  .exact hn y
  .rw[J] at y
   cases y;have:=AN y1;rw[z] at this;exact absurd this (FD.mpr z9)
 obtain⟨o,lk⟩:∃ o,X.K.lookup C=some o:=by
  unfold R9 at hx;split at hx
  .rename_i ho;exact⟨_,ho⟩
  .cases hx
 have e2:=(I.kIn _ _ lk).symm.trans hC;cases e2;rw[KP];refine AA (DO (lF (C:=C) (nm:=nm) (q:=qn) (N:=N) (bs:=bs) (bm:=.ref D'::Qi) (hdct:=true) (sn:=sn) (sub:=sub) (ab:=ab) (col:=col) (dd:=dd) (k0:=k0) (k1:=k1) (k2:=k2) (k3:=k3) (k5:=k5) (newId:="ValueError.__new__") (by simp[Qi]) J (AA (BQ aj (λv s₃ h₃=>AA (DO (AC ?_))) λ_ _ x=>x))));obtain⟨ex,t,dct,H',rfl,hex,R,sm,lo,un,pe,hf,ag,i⟩:=h₃;obtain⟨oh,vh,ae,d,ao⟩:∃ oh vh,s₃.heap.get? h=some oh/\oh.data=.fields vh/\vh[2]?=some .none:=by
  rcases hh _ _ _ _ R with y | ⟨h',oh,vh,y,y1,y2,y3,_⟩
  .exact absurd y hn
  .rw[J] at y
   cases y;exact⟨oh,vh,y1,y2,y3⟩
 have nloc:ex≠X.env.locals/\∀ y c,X.env.cells.lookup y=some c->c≠ex:=by
  refine⟨λz=>?_,λy c hc z=>?_⟩
  .obtain⟨m,⟨o',es,ep,f,u,_⟩,_⟩:=R.loc
   rw[z,f] at hex;cases hex;cases u
  .obtain⟨v,o',f,u⟩:=R.cell y c hc
   rw[z,hex] at f;cases f;cases u
 refine⟨ex,.ref t,dct,rfl,R.kIn _ _ lk,hex,ag,⟨oh,vh,ae,d,ao⟩,AA (wpAny_Constant_none (AA (DO (AC ⟨rfl,rfl,λh' Y ak hz=>?_⟩))))⟩;have g:∀ b∈E9 (X.env::X.outer),H' b=none:=by rw[<- j];exact R.stkFree
 have kp:F0 (X.env::X.outer) [ex] s₃.heap h':=F0.of λb o hb hc=>(Y b (by simpa using hc)).trans hb
 have S:∀ b∈[ex],b=ex:=λb hb=>AI.mp hb
 have I4:F' X aa σ H' { s₃ with heap:=h' }:=R.call' (s':={ s₃ with heap:=h' }) (ch:=[ex]) rfl (by rw[j];exact VV kp λb hb=>by rw[S b hb];exact un) (Ip R.hok kp (λb hb=>by rw[S b hb];exact un) g) R.bare λb hb=>by rw[S b hb];exact⟨.inr lo,nloc.1,nloc.2,pe⟩
 exact q A H' σ (I'.same sm) (kk.mono sm) aa { s₃ with heap:=h' } ex C dct I4 ah ⟨lo,un,.inl ⟨_,_,ak,rfl,rfl,rfl,rfl,.inr ⟨Q,.inr ⟨h,rfl,J⟩⟩⟩,pe⟩ hf i
end
def QW(K:Frag)(mg:LO)(T:Str)(known:Z Str):Prop:=∃ D,mg T=some (.ref D)/\∀ c C,c∈known->Wd K c C->exmOne K (.ref C) (.ref D)=some (decide (c=T))
def SS(known:Z Str)(T1 T2:Str)(g k1 k2:Ev->Fl):Ev->Fl:=OS g λenv' c fl=>if c∈known then(if c=T1 then k1 env' else if c=T2 then k2 env' else .no) else .no
theorem F'.ofR{X:Cx}(ok:X.Ok)(hs:∀ p∈X.pn++aa,p∈pn)(I:F' (X.inR pn e) aB σ H s):F' X aa σ H s :=
 ⟨ok,I.os,I.bare,I.base,I.loc,I.cell,I.free,I.freeC,λp hp=>I.pin p (CP _ (hs p hp)),I.hok,I.len⟩
theorem SP.ofR{X:Cx}{D:LP}{f:Flow}(ok:X.Ok)(hs:∀ p∈X.pn++aa,p∈pn)(h:SP (X.inR pn e) [] D f s):SP X aa D f s:=by
 cases f with
 | next=>obtain⟨σ',H',I,q⟩:=h;exact⟨σ',H',I.ofR ok hs,q⟩
 | brk=>obtain⟨σ',H',I,q⟩:=h;exact⟨σ',H',I.ofR ok hs,q⟩
 | cont=>obtain⟨σ',H',I,q⟩:=h;exact⟨σ',H',I.ofR ok hs,q⟩
 | ret u=>obtain⟨v,σ',H',I,r,q⟩:=h;exact⟨v,σ',H',I.ofR ok hs,r,q⟩
theorem nk{o:Obj}{u:HO}(h:Xl H0 H dct)(he:H e=none):Xl H0 (W7 H e (.frz o u)) dct:=λdx t=>⟨(h dx t).1,λj f a q l=>by
 have hd:dx≠e:=λz=>by rw[z,Zn] at q;cases q
 rw[Zf hd] at q;obtain⟨h1,xs,h2⟩:=(h dx t).2 j f a q l;exact⟨h1,xs,Mr he _ _ h2⟩⟩
section
variable{X:Cx}{known:Z Str}
theorem Ld.suite{l:Ev->Fl}{m:AS}{D:LP}(Lq_:Ld X aa σ1 H1 s1 e C T' dct c2)(hp:∀ e,PassesOwnAt (model X.prog X.w) (X.A.mark (some (.ref e))) X.A X.env X.xe)
  (hh:∀ pn oe ve,(e,oe)∈pn->oe.data=.fields ve->ve[2]?=c2->Xk fr (X.inR pn e) (b1::aK) l) (h:C' X.K B m H1 σ1 env') (af:B.st=true) (q2:Ky fr X B m H1 D (l env')) (hx:c2=some .none\/∀ a b c,l env'≠.exc a b c) (j:X.stack=X.env::X.outer/\X.env.frame=some X.env.locals) :
  codeAny (model X.prog X.w) (X.A.mark (some (.ref e))) (.handlers (.ref e) [.ExceptHandler none none (b1::aK) aG] X.env) (λr s₂=>match r with
   | .ok f=>SP X aa D f s₂
   | .error x=>cameBackBy (model X.prog X.w) X.A X.env X.xe x s₂) s1:=by
 refine codeAny_handlers_suite (Lq_.land j.1 λs3 I=>?_);obtain⟨s,F,_,_,e1,e2,e3,e4,_⟩:=id I.tr;have q:F[2]?=c2:=(JI e2).2;have t:=I.J.nloc e1 e4;have u:e∉X.fs:=λz=>by
  obtain⟨_,o,ho,i⟩:=I.ff.mem (show e∈(X.env::X.outer).filterMap (·.frame) from by
   rw[EK,j.2];exact AR _ z)
  have ho:s3.heap.get? e=some o:=ho;rw[e1] at ho;cases ho;exact i F e4
 have hs:∀ p∈X.pn++aa,p∈X.pn++aa++[(e,s)]:=λp hp=>CP _ hp
 have hm:(e,s)∈X.pn++aa++[(e,s)]:=BX _ (AI.mpr rfl);have g:=I.J;have J4:F' (X.inR (X.pn++aa++[(e,s)]) e) [] σ1 H1 s3 :=
  ⟨⟨g.ok.mod,g.ok.kind,g.ok.glob,g.ok.blt,g.ok.above,g.ok.inj,g.ok.has,g.ok.cab,(λz=>nomatch z),g.ok.frames,g.ok.stk,g.ok.exf,g.ok.bs,g.ok.bsz,g.ok.noex,g.ok.exfs,g.ok.funs,g.ok.frf⟩,g.os,g.bare,g.base,g.loc,g.cell,g.free,g.freeC,λp hp=>by
   rw[EG] at hp;rcases CB.mp hp with hp | hp
   .exact g.pin p hp
   .rw[AI.mp hp]
    exact⟨e1,Lq_.un,t.1,u,λv z=>by rw[e4] at z;cases z⟩,g.hok,g.len⟩
 have E:Ky fr (X.inR (X.pn++aa++[(e,s)]) e) B m H1 D (l env'):=by
  cases H:l env' with
  | exc e' c' Q =>
   rw[H] at q2;rcases hx with hx | hx
   case inr=>exact absurd H (hx e' c' Q)
   intro A' H' σ' s' k' k s5 e5 C5 d5 I5 G N P R;obtain⟨p1,p2,n,p4,_⟩:=I5.pin (e,s) (CP _ hm);have sm:Zp H' (W7 H' e (.frz s (.own 0))):=Mr p2;have I6:F' X aa σ' (W7 H' e (.frz s (.own 0))) s5:=(I5.ofR g.ok hs).track p2 Lq_.lo t.1 t.2 Lq_.pe ⟨p1,_,p1⟩;have ne:∀ {a:A2},(∀ p∈(X.inR (X.pn++aa++[(e,s)]) e).pn++k,p.1≠a)->a≠e:=λ{a} z y=>z (e,s) (CP _ hm) y.symm
   have Y:∀ {c:C1 A1},Gj (X.inR (X.pn++aa++[(e,s)]) e) H' c->Gj X (W7 H' e (.frz s (.own 0))) c:=λ{c} z=>z.imp id λ⟨z1,W⟩=>⟨z1,.inl (W.elim (λz=>z.mono sm) λM=>by
    obtain⟨a,z3,z4⟩:=M;have z4:some (Value.ref e)=some (Value.ref a):=z4;cases z4;exact .inr ⟨e,s,F,z3,Zn,e4,q.trans hx⟩)⟩
   exact q2 A' _ σ' (s'.trans (I'.same sm)) (k'.mono sm) aa s5 e5 C5 d5 I6 G ⟨N.lo,by rw[Zf (ne N.pe)];exact N.un,N.ob.imp (λzz=>by obtain⟨o,vs,a1,a2,a3,a4,a5,a6⟩:=zz;exact⟨o,vs,a1,a2,a3,a4,a5,Y a6⟩) λzz=>by obtain⟨T,c2,a1,a2,a3,a4,a5⟩:=zz;exact⟨T,c2,a1,by rw[Zf (ne a3)];exact a2,λp hp=>a3 p (CP _ (hs p hp)),a4,Y a5⟩,λp hp=>N.pe p (CP _ (hs p hp))⟩ (P.mono (Wl sm)) (nk R p2)
  | next e'=>rw[H] at q2;exact q2
  | brk e'=>rw[H] at q2;exact q2
  | cont e'=>rw[H] at q2;exact q2
  | ret d=>rw[H] at q2;exact q2
  | no=>rw[H] at q2;exact q2
 exact BQ (hh _ s F hm e4 q [] _ _ _ _ J4 ⟨_,B,m,h,af,E⟩) (λf s6 S=>S.ofR g.ok hs) (λev s6 z=>hp e ev s6 z)
theorem Ld.looks(Lq_:Ld X aa σ1 H1 s1 e C T' dct c2):Looks (model X.prog X.w) s1.heap (typeOf (.ref e)) (.ref C):=by
 obtain⟨oe,ve,oT,ts,g1,g2,_⟩:=Lq_.tr;exact(JI g2).1▸(Looks.ld g1).andThen .now
theorem iS(hp:∀ e,PassesOwnAt (model X.prog X.w) (X.A.mark (some (.ref e))) X.A X.env X.xe)(hb:∀ pn E,Xk fr ((X.inTry pn E).pls true) body g)
  (h1:∀ pn e,QL (X.inR pn e)->Xk fr (X.inR pn e) (b1::aK) k1) (k:∀ pn e,QL (X.inR pn e)->Xk fr (X.inR pn e) (b2::aR) k2) (c1:QW X.K X.mg T1 known) (c2:QW X.K X.mg T2 known)
  (ae:Gl X T1:=by rfl) (a:C2 T1:=by decide) (d:Gl X T2:=by rfl) (f:C2 T2:=by decide)
  (j:X.stack=X.env::X.outer/\X.env.frame=some X.env.locals:=by exact⟨rfl,rfl⟩) :
  Eo fr X (.Try body [.ExceptHandler (some (.Name T1 aW)) none (b1::aK) aG,.ExceptHandler (some (.Name T2 aX)) none (b2::aR) aO] [] [] pos) (SS known T1 T2 g k1 k2):=by
 obtain⟨D1,m1,x1⟩:=c1;obtain⟨D2,m2,x2⟩:=c2;refine cP (b:=true) hb (λaa D B A H env' c fl m H1 σ1 s1 e C T' dct c2 ai h af ah am Lq_ r q=>?_) j;split at q
 case isFalse=>exact q.elim
 rename_i i;have hn:=r.no rfl;have e1:=x1 c C i ah;have e2:=x2 c C i ah;refine JC (IM (U9 (Lq_.J.toH (e:=e)) ae m1 ?_ a)) (by intro z;cases z);by_cases z1:c=T1
 .rw[AL z1] at e1
  rw[AE z1] at q;exact(exm_one (M:=model X.prog X.w) Lq_.J.kIn Lq_.looks e1).here (Lq_.suite hp (λpn oe ve hm h3 h4=>h1 pn e (XV j hm h3 (h4.trans hn))) h af (q.step ai) (.inl hn) j)
 .rw[AF z1] at e1
  rw[AK z1] at q;refine(exm_one (M:=model X.prog X.w) Lq_.J.kIn Lq_.looks e1).here ?_;show wpAny _ _ _ _ _ _;refine JC (IM (U9 (Lq_.J.toH (e:=e)) d m2 ?_ f)) (by intro z;cases z);by_cases W:c=T2
  .rw[AL W] at e2
   rw[AE W] at q;exact(exm_one (M:=model X.prog X.w) Lq_.J.kIn Lq_.looks e2).here (Lq_.suite hp (λpn oe ve hm h3 h4=>k pn e (XV j hm h3 (h4.trans hn))) h af (q.step ai) (.inl hn) j)
  .rw[AK W] at q
   exact q.elim
end
variable{e:C3}{suite:Z Df}
theorem fB{P:Fn}{K:Frag}{N:Z Str}{f:A2}{E:XK}(e:A2) :
  PassesOwnAt (model P w) ((OB P w K mg base N aj scope f cd A outer s H E).A.mark (some (.ref e))) (OB P w K mg base N aj scope f cd A outer s H E).A (OB P w K mg base N aj scope f cd A outer s H E).env (OB P w K mg base N aj scope f cd A outer s H E).xe :=
 bh (X:=Tv (MM P w base) P w K mg base N aj scope f cd A outer s H E) rfl ⟨rfl,rfl⟩
theorem fO{K:Frag}{D:A2}(hm:mg T=some (.ref D))(h:∀ c∈aq,∃ C,Wd K c C/\exmOne K (.ref C) (.ref D)=some (decide (c=T))):QW K mg T aq:=by
 refine⟨D,hm,λc C hc hb=>?_⟩;obtain⟨g,h1,h2⟩:=h c hc;unfold Wd at hb h1;rw[hb] at h1;cases h1;exact h2
theorem J3.mark{v:C1 A1}(r:J3 k A):J3 k (A.mark v):=⟨r.dp,r.un,r.gd⟩
section
variable{X:Cx}{known:Z Str}{b1' b2':Str->Bool}
end
def DD(K:Frag)(n:Str)(st:Df):Prop:=∃ f oc od kV dc pm an cd ct sl,nsIn K mainGlobals n=some (some (.ref f))/\K.lookup f=some ⟨oc,od,.func (fnOf n n (Vr st) (Yj st) (Z7 st) .none kV dc pm an cd ct),sl⟩/\codeIn K cd n=true/\keepIn K (.ref f)=true
theorem hQ{K:Frag}{n:Str}{st:Df}{f:A2}{kV:A1}{sl:Array (C1 A1)}(h1:nsIn K mainGlobals n=some (some (.ref f)))(h2:K.lookup f=some ⟨oc,od,.func (fnOf n n (Vr st) (Yj st) (Z7 st) .none kV dc pm an cd ct),sl⟩)(h3:codeIn K cd n=true)(h4:keepIn K (.ref f)=true):DD K n st:=⟨f,oc,od,kV,dc,pm,an,cd,ct,sl,h1,h2,h3,h4⟩
theorem gN{K:Frag}{h:G2}(X:K.In h)(G:h.Ns mainGlobals mg){n:Str}{st:Df}(d:DD K n st):OR K mg n st:=by
 obtain⟨f,oc,od,kV,dc,pm,an,cd,ct,sl,h1,h2,h3,h4⟩:=d;exact⟨_,_,VX (st:=st) h2 h3 h4,mg_of X G h1⟩
def CD(K:Frag)(D C:A2)(q:Str)(i:Df):Prop:=∃ J fd,MJ K "__init__" q i J fd/\keepIn K (.ref C)=true/\R9 K C J D=true/\LL K C/\isFn K (.ref J)=true
theorem eX{K:Frag}{D J:A2}{i:Df}{a b c:C1 A2}{qs d:Array (C1 A1)}{e f kV:A1}{cd:ClassData}(h1:K.lookup C=some ⟨e,a,.cls cd,qs⟩)(h2:nsIn K cd.ns "__init__" = some (some (.ref J)))(h3:K.lookup J=some ⟨f,c,.func (fnOf "__init__" q (Vr i) (Yj i) (Z7 i) .none kV dc pm b cv ct),d⟩)(h4:codeIn K cv q=true)(h5:keepIn K (.ref J)=true)(h6:isFn K (.ref J)=true)(h7:keepIn K (.ref C)=true)
  (r1:findIn K (.ref C) "__class__" = some (some (.builtin "object.__class__"))) (r2:findIn K (.ref C) "__getattribute__" = some (some (.builtin "BaseException.__getattribute__"))) (r3:findIn K (.ref C) "__getattr__" = some none) (r4:findIn K (.ref C) "__setattr__" = some (some (.builtin "object.__setattr__"))) (x:R9 K C J D=true):CD K D C q i :=
 ⟨_,_,VX h3 h4 h5,h7,x,jm x r1 r2 r3 r4,h6⟩
theorem CD.xc{K:Frag}{D:A2}{i:Df}(h:CD K D C q i):LL K C:=let ⟨_,_,_,_,_,x,_⟩:=h;x
def Ts(P:Str->A2->Prop):Z (Str×A2)->Prop
 | []=>True
 | (n,C)::l=>P n C/\Ts P l
theorem Ts.n:Ts P []:=trivial
theorem Ts.c{n:Str}(h:P n C)(t:Ts P l):Ts P ((n,C)::l):=⟨h,t⟩
theorem Ts.get{Q R:Str->A2->Prop}:∀ {l:Z (Str×A2)},Ts P l->Ts Q l->Ts R l->∀ c∈l.map (·.1),∃ C,P c C/\Q c C/\R c C
 | (n,C)::l,p,q,r,c,hc=>by
   rcases BA.mp hc with e | e
   · subst e
     exact⟨C,p.1,q.1,r.1⟩
   · exact Ts.get p.2 q.2 r.2 c e
abbrev YA(K:Frag)(l:Z (Str×A2)):Prop:=Ts (λc C=>nsIn K mainGlobals c=some (some (.ref C))) l
abbrev XA(K:Frag)(l:Z (Str×A2)):Prop:=Ts (λ_ C=>LL K C) l
abbrev KA(K:Frag)(l:Z (Str×A2))(D:A1)(b:Str->Bool):Prop:=Ts (λc C=>kitOne K (.ref C) D=some (b c)) l
abbrev EA(K:Frag)(l:Z (Str×A2))(D:A2)(b:Str->Bool):Prop:=Ts (λc C=>exmOne K (.ref C) (.ref D)=some (b c)) l
section
variable{K:Frag}{D:A2}{b:Str->Bool}
theorem TV(y:YA K l)(x:XA K l)(t:KA K l (.ref D) λc=>decide (c=T))(hm:mg T=some (.ref D)):PY K mg T (Md (l.map (·.1)) T):=fA hm λc hc=>let ⟨C,h1,h2,h3⟩:=Ts.get y t x c hc;⟨C,h1,h2,h3⟩
theorem kq{T':String}(y:YA K l)(x:XA K l)(t:KA K l (.type T') λ_=>true):VQ K mg T T' (Fh (l.map (·.1))):=pP λc hc=>let ⟨C,h1,h2,h3⟩:=Ts.get y t x c hc;⟨C,h1,h2,h3⟩
theorem hy(y:YA K l)(t:EA K l D λ_=>true)(hm:mg T=some (.ref D)):UC K mg T (Wx (l.map (·.1))):=fK hm λc hc=>let ⟨C,h1,h2,_⟩:=Ts.get y t y c hc;⟨C,h1,h2⟩
theorem cy(y:YA K l)(t:EA K l D λc=>decide (c=T))(hm:mg T=some (.ref D)):QW K mg T (l.map (·.1)):=fO hm λc hc=>let ⟨C,h1,h2,_⟩:=Ts.get y t y c hc;⟨C,h1,h2⟩
abbrev FA(K:Frag)(l:Z (Str×A2))(x:Str):Prop:=Ts (λ_ C=>findIn K (.ref C) x=some none) l
theorem XF(y:YA K l)(z:XA K l)(t:FA K l x):RK K (Wx (l.map (·.1))) x:=gE λc hc=>let ⟨C,h1,h2,h3⟩:=Ts.get y z t c hc;⟨C,h1,h2,h3⟩
end
section
variable{X:Cx}
end
section
variable{X:Cx}{n:Str}{sub:Str->Bool}{DT:A2}
end
section
variable{X:Cx}
theorem hB(hc:ND X):Vf X (.builtin "sum") (fE X.K):=by
 intro aa s σ H xs us Q I r h;obtain⟨p,ns,rfl,hq,q⟩:=h;obtain⟨u,rfl,S⟩:=Jg r;cases S;obtain⟨its,r',pl,hz⟩:=I.list hq;have hl:=pl.isList;obtain⟨ys,e1,e2⟩:=Eh r';have a:s.heap.IsList p (intItems ys.toArray):=by
  have:intItems ys.toArray=its.toArray:=by rw[e1];simp[intItems]
  rw[this];exact hl
 obtain⟨hs,g,f⟩:=dY (show HdS X.A.in1 s.heap from hc _ _ _ _ I);refine call_sum_walkG (iter_intList a λs₂ e st x c=>?_);subst e;refine⟨_,_,_,_,_,_,numAt ys.toArray,rfl,Walks.listH (A:=X.A.in1) hs g _ p c (λq hq=>BJ (AN (f q hq).1)) (intItems ys.toArray),⟨st,λq hq=>AD _ (f q hq).1⟩,λb hb=>?_,(λ_ _=>intItems_at),λh' tk t' Y=>?_⟩
 .rcases BA.mp hb with z | hb
  .exact x b (by rw[z];simp)
  .rcases BA.mp hb with z | hb
   .exact x b (by rw[z];simp)
   .obtain⟨q,hq,rfl⟩:=CS.mp hb
    exact AO (AN (f q hq).1) (by show _<=(Heap.push _ _).objs.size;rw[EX];exact DP _)
 have e:preSum (numAt ys.toArray) (intItems ys.toArray).size=ns.sum:=by
  have:(intItems ys.toArray).size=ys.toArray.size:=by simp[intItems]
  rw[this,preSum_eq,BZ (by simp)];show(List.map (·.1) ys).sum=_;rw[e2]
 rw[e];exact⟨.int _,H,I.kept (h':=h') (t':=tk) (old_kept Y),⟨_,rfl⟩,q⟩
theorem et(hc:ND X):Im X (.builtin "sum") VS:=(hB hc).weak λvs H Q M=>by
 obtain⟨A,ds,d,mu,e,p,q⟩:=M;unfold VS at e;split at e
 .obtain⟨v,e1,p1⟩:=p.one
  obtain⟨l,us,e2,h1,r1⟩:=p1.lst;obtain⟨ns,hn,e⟩:=map_some e;subst e;rw[Q5 hn] at r1;have eu:=V3 r1;subst eu;exact⟨l,ns,by rw[e1,e2],h1.sq,q.here Wc⟩
 .cases e
theorem nz{g:Dat->Ev->C1 Ev}(ap:I3)(fs:Z (C1 Nat))(N:Z Str)(hp:X.env.scope=ap)(hq:MU X)(hi:UL true false X tg iter src)
 (hb:∀ (C:A2) (s:A4) (H:Hp) (fp:Z A2),NN is (Wb X sc N C s H fp) tg g/\OX (Wb X sc N C s H fp) az t/\Wp false (Wb X sc N C s H fp) aA f)
 (c:∀ i∈is,fs[i]?=some none) (hs:∀ x,foldedSetIterable iter X.env x=pure x:=by intro _;rfl) (S:CompOk ap sc X.N N fs:=by exact CompOk.of (by kernel_rfl!)):MS X (.ListComp aA [⟨tg,iter,az,0⟩] sc pos) (Vk src fs g t f):=XZ ap fs N hp (.inr ⟨rfl,hq⟩) hi hb c hs S
end
section
variable{X:Cx}{F:Z Dat->Rs}
theorem jW(C:MO X.prog X.w X.K X.mg X.base k x ps aI F)(hr:J3 k X.A)(ha:Hf false X (e::es) fs)(hg:Gl X x:=by rfl)
  (l:C2 x:=by decide) (he:Z0 X.env e es:=by rfl) (ac:Z1 pos X.env es:=by rfl) :
  PE X (.Call (.Name x p) (e::es) [] pos) (λσ H Q=>NX X.A H/\∃ env R A d,C' X.K R A H σ env/\Y3 F fs env=some d/\T9 false X.K A H d Q):=by
 obtain⟨f,fd,D,hm,Y,hb⟩:=C.ex;intro aa s σ H Q I ⟨hz,env,B,A,d,kk,e1,q⟩;obtain⟨ds,e2,e3⟩:=bind_some e1;have e4:=Di e3;refine CU (U9 I hg hm ?_ l);refine GD (h₀:=X.base) I.ok.mod.kin Y (V2 (ha pos aa s σ H (λvs H1=>Zp H H1/\Wm X.K (av H1 A) ds vs) I ⟨env,B,A,ds,kk,e2,λvs H1 s1 rs=>⟨s1,rs.rps⟩⟩) λus s1 ⟨vs,H1,I1,r,sm,rs⟩=>⟨I1.kIn,?_⟩) he ac;have hl:us.length=ps.length:=by rw[<- r.length,Zv rs];exact C.len ds d e4
 refine FL (EF (D.run X.A X.stack s1 H1 ⟨us,[]⟩ us vs Q E0 hr ((hz.mono sm).k I1.hok) I1.env0 (by simpa using hb s1 us I1.kIn (by simpa using hl)) r ⟨by rw[Zv rs];exact C.len ds d e4,ds,A,d,kk.mu.mono sm,rs,e4,λv H' s r _=>q v H' (sm.trans s) r⟩) λm s' hq=>?_);cases m with
 | error ev=>exact False.elim hq
 | ok fl =>
  cases fl with
  | ret u=>exact I1.after hq
  | next=>exact False.elim hq
  | brk=>exact False.elim hq
  | cont=>exact False.elim hq
theorem c5(i:Nat)(hN:X.N.Nodup)(hi:X.N[i]?=some y)(hx:Cp X.env.scope y)(C:MO X.prog X.w X.K X.mg X.base k x ps aI F)(hr:J3 k X.A)(ha:Hf false X (e::es) fs)(hg:Gl X x:=by rfl)
  (l:C2 x:=by decide) (he:Z0 X.env e es:=by rfl) (ac:Z1 pos X.env es:=by rfl)
  (hs:swapsWith (.Call (.Name x p) (e::es) [] pos) (some (.Name y ao)) ay.line X.env=pure false:=by rfl)
  (hf:X.fn y=true\/X.env.scope.names.lookup y=some .local:=by ext):R7 X [.Assign [.Name y ao] (.Call (.Name x p) (e::es) [] pos) ay] (λD σ H=>NX X.A H/\tS fr X (Zt i (Y3 F fs)) D σ H) :=
 Jr ((Gk hN hi hx (jW C hr ha hg l he ac) hs hf).weak λD σ H M=>by
  obtain⟨hz,env,B,A,k,af,q⟩:=M;unfold Zt at q;split at q
  .rename_i d e
   exact⟨hz,env,B,A,d,k,e,λv H' s r=>q A H' _ (I'.same s) ((k.mono s).put i r)⟩
  .exact q.elim)
end
section
variable{X:Cx}{n:Str}{sub:Str->Bool}
theorem ZC(hb:∀ pn E,Xk fr (X.inTry pn E) body g)(hh:∀ pn e,R7 (X.inH pn e) (b₀::suite) (λD σ H=>NX (X.inH pn e).A H/\tS fr (X.inH pn e) h D σ H))(hC:UC X.K X.mg T sub)(hN:X.N.Nodup)(hi:X.N[i]?=some n)(hx:Cp X.env.scope n)(Y:X.env.kindOf n=some .local:=by rfl)(hg:Gl X T:=by rfl)(l:C2 T:=by decide)
  (j:X.stack=X.env::X.outer/\X.env.frame=some X.env.locals:=by exact⟨rfl,rfl⟩)
  (hf:X.fn n=true\/X.env.scope.names.lookup n=some .local:=by ext) (a:X.calm=true:=by rfl) :
  Eo fr X (.Try body [.ExceptHandler (some (.Name T np)) (some n) (b₀::suite) aL] [] [] pos) (OK sub i g h):=by
 obtain⟨D,h1,h2⟩:=hC;exact oy hb hh hN hi hx h1 h2 Y hg l j hf a
end
structure Bd where
 P:Program
 w:World
 K:KX
 mg:Str->Option Value
 base:Heap
abbrev Bd.F(b:Bd):=OR b.K b.mg
abbrev Bd.D(b:Bd):=MZ b.P b.w b.K b.mg b.base
abbrev Bd.X(b:Bd)(k:Nat)(x:Str)(ps:Z Str)(fr:Bool)(F:Z Dat->Rs)(pl:Bool:=false):=MG b.P b.w b.K b.mg b.base k x ps fr F pl
abbrev Bd.N(b:Bd):=MO b.P b.w b.K b.mg b.base
abbrev Bd.M(b:Bd):=LY b.P b.w b.K b.mg b.base
abbrev Bd.R(b:Bd):=XMakeN b.P b.w b.K b.mg b.base
end L2
variable{F:Z L2.Dat->L2.Rs}{x:L2.Dat}{c:PySem.Str}{ps l':Z Nat}{B w n z m ai sp m':Nat}{g:L2.Dat->L2.Ev->C1 L2.Ev}{N:L2.Ev->Prop}{R:L2.Dat->Prop}{Lq_:Nat->Nat}{qs:Z (Nat×Nat)}
namespace L2
open PySem PySem.Spec PyProof.Rows
def QC(c:Str)(F:Z Dat->Rs):Z Dat->Rs:=λxs=>match F xs with
 | .ok d=>.ok (.tup [.str c,d])
 | .exc c' fl=>.exc c' fl
 | .no=>.no
def Xf(i:Nat)(fs:Zzv):Ev->Fl:=λenv=>match env[i]? with
 | some (.fz (.tup [.str c,.lst ds]))=>(match fs env with
  | some [_]=>if c="rows" /\ ds.length+1<=10000000 then .next (env.map λ_=>.un) else .no
  | _=>.no)
 | _=>.no
def PK(G F:Z Dat->Rs):Z Dat->Rs
 | []=>.no
 | d0::ds=>match G ds with
  | .ok d=>(match F [d0,d] with | .ok r=>.ok r | _=>.no)
  | .exc c fl=>.exc c fl
  | .no=>.no
section
variable{X:Cx}{G:Z Dat->Rs}{x:Str}
theorem WU{x1 j}(h1:PE X e (OW X aI F fs))(hc:MD c:=by ext)(hs:starEach [.Constant (.str c) j p,e] X.env=(false,eval (.Constant (.str c) j p) X.env)::starEach [e] X.env:=by rfl)(x:starEach [e] X.env=(false,eval e X.env)::starEach [] X.env:=by rfl) :
  PE X (.Tuple [.Constant (.str c) j p,e] x1 pos) (OW X false (QC c F) fs):=(V' (Yl B6 (Yl h1 Vo x) hs)).weak λσ H Q M=>by
 obtain⟨env,B,A,xs,kk,e1,q⟩:=M;unfold QC at q;refine⟨env,B,A,xs,kk,e1,?_⟩;cases t:F xs with
 | ok d =>
  rw[t] at q;dsimp only at q;intro v H1 s1 r1;refine⟨by simp;decide,?_⟩;exact T9.tup (m:=false) (K:=X.K) (A:=A) (ds:=[.str c,d]) (λD H' s r=>q D H' (s1.trans s) r) (kk.mu.mono s1) (by simp;decide) (Wh (So hc) (Wh r1 rfl))
 | exc c fl=>rw[t] at q;exact q
 | no=>rw[t] at q;exact q.elim
def TB(X:Cx)(F:Z Dat->Rs)(fs:Zzv):TE:=λσ H Q=>∃ env B A ds,C' X.K B A H σ env/\fs env=some ds/\match F ds with
 | .ok d=>∀ v H',Zp H H'->Rp X.K (av H' A) d v->MK X.K ⟨H,A,true⟩ H' d v->Q v H'
 | .exc c fl=>∀ A' H' σ',I' A H A' H'->C' X.K B A' H' σ' env->σ'=σ->XW X B.H₀ A' H' σ' c fl
 | .no=>False
theorem mW(he:PE X e (TB X F fs)):Eo true X (.Return (some e) pos) (Sg F fs):=(D6 he).weak λD σ H M=>by
 obtain⟨env,B,A,k,af,q⟩:=M;unfold Sg at q;split at q
 .exact q.elim
 rename_i ds e1;refine⟨env,B,A,ds,k,e1,?_⟩;split at q
 .rename_i d hd
  try rw[hd]
  intro v H' s r f;exact q v H' (k.h0.trans s) (r.mono (Vb k.ra)) λ_=>f.mono (λ_ z=>k.h0.free z) k.ra
 .rename_i c fl hd
  try rw[hd]
  exactλA' H' σ' s k' _=>q A' H' σ' s k'
 .exact q.elim
theorem mU{ps:Z Str}{T:C3}{f0:Zzu}(C:MZ X.prog X.w X.K X.mg X.base k x ps true F)(hr:J2 k X.A)(h0:Wp false X T f0)(h1:PE X e (OW X aI G fs))(hg:Gl X x:=by rfl)
  (l:C2 x:=by decide) (he:starEach [T,e] X.env=(false,eval T X.env)::starEach [e] X.env:=by rfl) (a:starEach [e] X.env=(false,eval e X.env)::starEach [] X.env:=by rfl) (ac:(backTo pos (starEach [e] X.env)).any (·.1)=false:=by rfl) :
  PE X (.Call (.Name x p) [T,e] [] pos) (TB X (PK G F) (O f0 fs)):=(XC C.cal hr (Yl h0 (Yl h1 Vo a) he) hg l he ac).weak λσ H Q M=>by
 obtain⟨env,B,A,xs,kk,e1,q⟩:=M;unfold O at e1;obtain⟨d0,ef,e1⟩:=bind_some e1;cases J:fs env with
 | none=>rw[J] at e1;cases e1
 | some ds =>
  rw[J] at e1;cases e1;unfold PK at q;dsimp only at q;refine⟨env,B,A,d0,kk,ef,λI H0 s0 r0=>⟨env,B,A,ds,kk.mono s0,J,?_⟩⟩;cases hG:G ds with
  | ok b =>
   rw[hG] at q;dsimp only at q;intro v H1 s1 r1;cases t:F [d0,b] with
   | ok d =>
    rw[t] at q;dsimp only at q;have m:Wm X.K (av H1 A) [d0,b] [I,v]:=Wh (Rp.mono (Wl s1) (show Rp X.K (av H0 A) d0 I from r0)) (Wh r1 rfl);refine⟨by rw[Zv m];exact C.len _ d t,[d0,b],A,d,kk.mu.mono (s0.trans s1),m,t,λD H' s r f=>q D H' ((s0.trans s1).trans s) r ((f rfl).mono (λ_ z=>(s0.trans s1).free z) λ_ z=>z)⟩
   | exc c fl=>rw[t] at q;exact q.elim
   | no=>rw[t] at q;exact q.elim
  | exc c fl =>
   rw[hG] at q;exactλA' H' σ' st k' e'=>q A' H' σ' ((I'.same s0).trans st) k' e'
  | no=>rw[hG] at q;exact q.elim
theorem jw{ps:Z Str}(C:MG X.prog X.w X.K X.mg X.base k x ps true F pl)(hr:J2 k X.A)(ha:Hf false X (e::es) fs)(hg:Gl X x:=by rfl)
  (l:C2 x:=by decide) (he:Z0 X.env e es:=by rfl) (ac:Z1 pos X.env es:=by rfl) (hp:X.pl=true->pl=true:=by first | exactλ_=>rfl | exactλz=>nomatch z) :
  PE X (.Call (.Name x p) (e::es) [] pos) (TB X F fs):=(ZR C hr ha hg l he ac).weak λσ H Q M=>by
 obtain⟨env,B,A,ds,k,e1,q⟩:=M;refine⟨env,B,A,ds,k,e1,?_⟩;cases t:F ds with
 | ok d=>rw[t] at q;exactλv H' s r n=>q v H' s r (n rfl)
 | exc c fl=>rw[t] at q;exact⟨hp,q⟩
 | no=>rw[t] at q;exact q.elim
def SI(i:Nat)(c:Str)(F:Z Dat->Rs)(fs:Zzv):Ev->Fl:=λenv=>match fs env with
 | none=>.no
 | some ds=>match F ds with
  | .ok (.lst l)=>.next (env.set i (.gx (.pair c l)))
  | .exc c fl=>.exc env c fl
  | _=>.no
theorem kP(i:Nat){d:Pos}{x1 j}(hN:X.N.Nodup)(h1:PE X e (TB X F fs))(hc:MD c:=by ext)(h:starEach [.Constant (.str c) j p,e] X.env=(false,eval (.Constant (.str c) j p) X.env)::starEach [e] X.env:=by rfl)(m:starEach [e] X.env=(false,eval e X.env)::starEach [] X.env:=by rfl)
  (hi:X.N[i]?=some y:=by rfl) (hx:Cp X.env.scope y:=by ext) (hs:swapsWith (.Tuple [.Constant (.str c) j p,e] x1 d) (some (.Name y ao)) pos.line X.env=pure false:=by rfl)
  (hf:X.fn y=true\/X.env.scope.names.lookup y=some .local:=by ext):Eo fr X (.Assign [.Name y ao] (.Tuple [.Constant (.str c) j p,e] x1 d) pos) (SI i c F fs):=(Gk hN hi hx (V' (Yl B6 (Yl h1 Vo m) h)) hs hf).weak λD σ H M=>by
 obtain⟨env,B,A,k,af,q⟩:=M;unfold SI at q;split at q
 .exact q.elim
 rename_i ds e1;refine⟨env,B,A,ds,k,e1,?_⟩;split at q
 .rename_i l hd
  try rw[hd]
  intro v H' s r n;obtain⟨a,vs,z1,W,z3,z4,z5⟩:=n;subst z1;refine⟨by simp;decide,λt ht=>?_⟩;have f:t≠a:=λz=>by rw[z,z3] at ht;cases ht
  obtain⟨s2,k2⟩:=k.putG af i (g:=.pair c l) (v:=.ref t) (S:=λb=>b==a) (s.trans (Zp.new ht)) (λb hb=>by rw[BK hb];exact W) (λb hb=>by rw[BK hb,Zf (AY f),z3];trivial)
   ⟨t,a,vs,rfl,V4 Zn (d4 ((k.mu.mono s).new ht) f),hc,DX a,z4,by rw[Zf (AY f)];exact z3,z5.mono (Wl (Zp.new ht))⟩
  exact q _ _ _ s2 k2
 .rename_i c' fl hd
  try rw[hd]
  exactλA' H' σ' s k' _=>q A' H' σ' s k'
 .exact q.elim
def Ll:Dat->Bool
 | .lst _=>true
 | .tup [.str c,.lst _]=>c=="rows"
 | _=>false
theorem oz{B:Bs}{d:Dat}(h:Ll d=false):MK K B H d v:=by
 unfold MK;unfold Ll at h;split
 .cases h
 .intro hc;subst hc;exact absurd (show(("rows" : Str)=="rows")=false from h) (by decide)
 .trivial
def UY(fr:Bool)(i:Nat):Ev->Fl:=λenv=>match env[i]? with
 | some (.gx (.pair c ds))=>.ret (.tup [.str c,.lst ds])
 | some (.fz d)=>if(fr&&Ll d)=true then .no else .ret d
 | _=>.no
theorem nl(i:Nat)(hN:X.N[i]?=some y:=by rfl)(hv:MQ X.env.scope y:=by ext)(hd:C2 y:=by decide)
  (ai:(y==("__classdict__" : Str))=false:=by decide):Eo fr X (.Return (some (.Name y p)) pos) (UY fr i):=(D6 (Qd hN hv hd ai)).weak λD σ H M=>by
 obtain⟨env,B,A,k,af,q⟩:=M;obtain⟨own,h1,h2,h4⟩:=k.sl;unfold UY at q;split at q
 .rename_i c ds e
  obtain⟨x,q1,v,rfl,t,a,us,rfl,e2,e3,e4,e5,Y,s⟩:=h4 i _ e;obtain⟨hA,hR⟩:=h2 i a e4;have h0:B.H₀ a=none:=(k.ar a hA).elim (λz=>by rw[hR] at z;cases z) id;refine⟨.ref t,q1,q (.ref t) H k.h0 (Bh (by simp;decide) (.inl (Vb k.ra _ _ e2)) (Wh (So e3) (Wh (Da e5 (.inl (.inl (V4 Y hR))) (s.mono (Vb k.ra))) rfl))) λ_ _=>⟨t,.ref a,rfl,(Tg e2).2,a,us,rfl,h0,Y,e5,s.mono (Vb λb hb=>?_)⟩⟩;exact(Ga hb).elim (k.ra b) λz=>by rw[z];exact hA
 .rename_i d e
  obtain⟨x,q1,v,rfl,r⟩:=h4 i _ e;split at q
  .exact q.elim
  .rename_i hz
   refine⟨v,q1,q v H k.h0 (r.mono (Vb k.ra)) λhf=>oz ?_⟩;rw[hf] at hz;cases hq:Ll d with
   | false=>rfl
   | true=>rw[hq] at hz;exact absurd rfl hz
 .exact q.elim
theorem MK.up{B:Bs}{d:Dat}(h:MK K B H d v)(s:Zp H H'):MK K B H' d v:=by
 have up:∀ {ds v},PL K B H ds v->PL K B H' ds v:=λzz=>by obtain⟨p,vs,a1,a2,a3,a4,a5⟩:=zz;exact⟨p,vs,a1,a2,s _ _ a3,a4,a5.mono (Wl s)⟩
 unfold MK at h ⊢;split at h
 .exact up h
 .exactλz=>let ⟨t,w,e1,e2,e3⟩:=h z;⟨t,w,e1,s _ _ e2,up e3⟩
 .trivial
def UK(X:Cx)(i:Nat)(g:Ev->Fl):TS:=λD σ H=>∃ env B A,C' X.K B A H σ env/\B.st=true/\(∀ d,env[i]?=some (.fz d)->∃ v,σ[i]?=some (some v)/\MK X.K B H d v)/\Ky false X B A H D (g env)
theorem cn{cc c:C3}{p1:Pos}{g:Ev->Fl}(hc:MX X cc t)(he:Wp false X c f)(hr:R7 X al (UK X i g)):R7 X (.If cc [.Return (some c) p1] [] pos::al) (UK X i (Zc (J9 t (W4 f) Ug) g)) :=
 (T6 (d9 hc (Jr (D6 he)) d6) hr).weak λD σ H M=>by
  obtain⟨env,B,A,k,af,pn,q⟩:=M;unfold Zc J9 W4 at q;cases ht:t env with
  | none=>rw[ht] at q;exact q.elim
  | some b =>
   rw[ht] at q;refine⟨env,B,A,b,k,ht,λH' s=>?_⟩;cases b with
   | true =>
    refine VG ?_;cases hf:f env with
    | none=>rw[hf] at q;exact q.elim
    | some d =>
     rw[hf] at q;exact⟨env,B,A,d,k.mono s,hf,λv H2 s2 r=>q v H2 (Kc (k.mono s) s2 r).1 (Kc (k.mono s) s2 r).2 (λz=>by cases z)⟩
   | false =>
    refine VA ?_;exact⟨env,B,A,k.mono s,af,λd hd=>let ⟨v,a,b⟩:=pn d hd;⟨v,a,b.up s⟩,q.step (I'.same s)⟩
theorem ft(i:Nat){ps:Z Str}{g:Ev->Fl}(hN:X.N.Nodup)(C:MZ X.prog X.w X.K X.mg X.base k x ps true F)(hr:J2 k X.A)(ha:Hf false X (e::es) fs)(h2:R7 X al (UK X i g))(hg:Gl X x:=by rfl)
  (l:C2 x:=by decide) (he:Z0 X.env e es:=by rfl) (ac:Z1 am X.env es:=by rfl)
  (hi:X.N[i]?=some y:=by rfl) (hx:Cp X.env.scope y:=by ext) (hs:swapsWith (.Call (.Name x p) (e::es) [] am) (some (.Name y ao)) pos.line X.env=pure false:=by rfl)
  (hf:X.fn y=true\/X.env.scope.names.lookup y=some .local:=by ext):Xk false X (.Assign [.Name y ao] (.Call (.Name x p) (e::es) [] am) pos::al) (Zc (Zt i (Y3 F fs)) g) :=
 (T6 (Gk hN hi hx (XC C.cal hr ha hg l he ac) hs hf) h2).weak λD σ H M=>by
  obtain⟨env,B,A,k,af,q⟩:=M;unfold Zc Zt at q;cases h1:Y3 F fs env with
  | none=>rw[h1] at q;exact q.elim
  | some d =>
   rw[h1] at q;obtain⟨ds,e1,e2⟩:=bind_some h1;have e3:=Di e2;refine⟨env,B,A,ds,k,e1,λvs H1 s1 rs=>⟨by rw[Zv rs.rps];exact C.len ds d e3,ds,A,d,k.mu.mono s1,rs.rps,e3,λv H' s r n=>?_⟩⟩;have sm:=s1.trans s;refine⟨_,B,A,(k.mono sm).put i r,af,λd' hd=>?_,q.step (I'.same sm)⟩;rw[AZ,AE rfl] at hd;split at hd
   .rename_i hl
    cases hd;exact⟨v,by rw[AZ,AE rfl,AE (by rw[k.len];exact hl)],(n rfl).mono (λ_ z=>(k.h0.trans s1).free z) k.ra⟩
   .cases hd
theorem fZ:(∃ c ds d0,env[i]?=some (.fz (.tup [.str c,.lst ds]))/\fs env=some [d0]/\c="rows" /\ ds.length+1<=10000000/\Xf i fs env=.next (env.map λ_=>.un))\/Xf i fs env=.no:=by
 unfold Xf;split
 .rename_i c ds e
  split
  .rename_i d e1
   split
   .rename_i h
    exact .inl ⟨c,ds,d,e,e1,h.1,h.2,rfl⟩
   .exact .inr rfl
  .exact .inr rfl
 .exact .inr rfl
theorem ms(i:Nat){n p4 d:Pos}{j F}{b:Bool}(hb:Hf false X (e::es) fs)
  (hN:X.N[i]?=some y:=by rfl) (hv:MQ X.env.scope y:=by ext) (hd:C2 y:=by decide) (ai:(y==("__classdict__" : Str))=false:=by decide)
  (ac:I0 (.Constant (.int 1) j n):=by exactλ_ _=>rfl)
  (E:swapsWith (.Call (.Attribute (.Subscript (.Name y p) (.Constant (.int 1) j n) p2) "append" ay) (e::es) [] am) none pos.line X.env=pure false:=by rfl)
  (l:attributeBase (.Subscript (.Name y p) (.Constant (.int 1) j n) p2) "append" X.env (eval (.Subscript (.Name y p) (.Constant (.int 1) j n) p2) X.env)=eval (.Subscript (.Name y p) (.Constant (.int 1) j n) p2) X.env:=by rfl)
  (C:((backTo am (starEach (e::es) X.env)).all (λx=>!x.1)&&(backToKw am (keywordEach [] X.env)).all (λx=>x.1.isSome)
   && decide ((e::es).length+([]:Z Keyword).length+(if([]:Z Keyword).isEmpty then 0 else 1)<30))=true:=by rfl)
  (u:(ay.endLine==am.line)=true:=by rfl) (hs:Z0 X.env e es:=by rfl) (g:Z1 am X.env es:=by rfl) :
  R7 X [.Expr (.Call (.Attribute (.Subscript (.Name y p) (.Constant (.int 1) j n) p2) "append" ay) (e::es) [] am) pos,.Return (some (.Constant (.bool b) F p4)) d] (UK X i (Zc (Xf i fs) (W4 (dC (.bl b))))) :=
 (T6 (S3 (UH EY CI CJ (id:="list.append") Kt (TM bB (Qd hN hv hd ai) bz ac) hb l C u hs g) E) (Jr (D6 c3))).weak λD σ H M=>by
  obtain⟨env,B,A,k,af,pn,q⟩:=M;unfold Zc at q;rcases fZ (i:=i) (fs:=fs) (env:=env) with⟨c,ds,d0,T,e1,e2,e3,e4⟩ | e4
  .rw[e4] at q
   obtain⟨v,m,f⟩:=pn _ T;obtain⟨t,w,e5,Y,a,vs,s,I,e9,_,r⟩:=f e2;subst e5 s;refine⟨.ref t,m,t,[.str c,.ref a],1,.ref a,rfl,rfl,Sl.of Y,rfl,.inl ⟨rfl,vs,E5.of e9⟩,env,B,A,[d0],k,e1,λus H3 s3 rs=>?_⟩;obtain⟨y,h,z1,_,z3⟩:=rs;refine⟨a,vs,y,rfl,by rw[z1,show h=[] from z3],s3 _ _ e9,by rw[Zv r,DQ];lia,q (.bl b) _ (λz o hz=>?_) T3 (λz=>by cases z)⟩;have ag:z≠a:=λy=>by rw[y,I] at hz;cases hz
   rw[Zf ag];exact(k.h0.trans s3) z o hz
  .rw[e4] at q
   exact q.elim
end
def Te:=@VD false
def Zm:=@ZD true
def Z3:=@xv true
def Z4:=@ZK true
def Jb:=@bE true
def Zx:=@d8 true
def Yh{X:Cx}:=@YU X true
def Z6:=@xv false
def Zs:=@ZD false
def Zy:=@ZK false
def Zi:=@YI false
def Ze:=@YI true
def Zq{X:Cx}:=@YU X false
def T7:=@MS.x false
def Zu:=@bN false
def Yi:=@MS.x true
def Qb:=@bN true
def Vy:=@n4 false
def Up:=@d8 false
def Yo:=@bE false
def Vm:=@Pi true
end L2
variable{p:Nat×Nat}{v:Nat}{ks:Z Nat}
namespace K41
open PySem PySem.Spec PyProof.Rows L2
abbrev dn:Z Str:=["_law_script","_law_cell","_law_graph_here","_law_many","_law_most","_law_other","_law_one"]
abbrev dj:Z Str:=["_law_graph_here","_law_at","_law_kind","_law_up","_law_word_here"]
abbrev SD:Z Str:=["_law_wire","_law_rise","_law_takes","_law_fills","_law_at"]
abbrev bP:Z Str:=["_law_script","_law_first","_law_most","_law_arrows_here"]
abbrev bg:Z Str:=["_law_w","_law_word_here","_law_script","_law_first"]
abbrev dQ:Z Str:=["_law_script","_law_first","_law_many","_law_size"]
abbrev dq:Z Str:=["_law_script","_law_first","_law_n","_law_many"]
abbrev TK:Z Str:=["_law_j","_law_many","_law_own","_law_cell"]
abbrev Z':Z Str:=["_law_graph_here","_law_stand","_law_wire"]
abbrev UP:Z Str:=["_law_mode","_law_graph_here","_law_most"]
abbrev J':Z Str:=["Broken","Crowded","TooMany","CalledOff"]
abbrev NT:Z Str:=["_law_graph_here","_law_cell"]
abbrev PH:Z Str:=["place","wire","one","other"]
abbrev PV:Z Str:=["graph","found","at","step"]
abbrev P':Z Str:=["graph","stand","wire","up"]
abbrev PU:Z Str:=["number","step","wire","up"]
abbrev QB:Z Str:=["self","way","lost","by"]
abbrev QE:Z Str:=["graph","stand","wires"]
abbrev OF:Z Str:=["graph","stand","step"]
abbrev PN:Z Str:=["graph","stand","wire"]
abbrev OG:Z Str:=["step","graph","stand"]
abbrev QH:Z Str:=["wires","one","other"]
abbrev NG:Z Str:=["graph","by","lost"]
abbrev LU:Z Str:=["graph","step"]
abbrev MR:Z Str:=["graph","most"]
abbrev NI:Z Str:=["_law_script"]
abbrev NA:Z Str:=["self","way"]
def L4:Ev->Fl:=(W4 (dO Mq (dO Yq (dO Yq (dO Yq (U 0) (dC (.int 0))) (U 1)) (dC (.int 1))) (dC (.str "made"))))
def Qz:Z Dat->Rs:=Yk 2 2 L4
def WB:Ev->Fl:=(W4 (dL (Vk (U1 (O (dF U0 (O (dO Yq (U 0) (dC (.int 0))) Zb)) Zb)) [none,some 0] (Zz 0) (dT (Y3 Qz (O (U 1) (O (U 0) Zb)))) (U 0))))
def XE:Z Dat->Rs:=Yk 1 1 WB
def H9:Ev->Fl:=(W4 (dL (Vk (E8 (dO Yq (U 0) (dC (.int 1)))) [none,none,some 1,some 2] (Sa 2 (Y7 (Zz 0) (Y7 (Zz 1) T5))) (Ec (dB (dO Mq (dO Yq (U 1) (dC (.int 0))) (U 2))) (dB (dO Mq (dO Yq (U 1) (dC (.int 1))) (U 3)))) (U 0))))
def G0:Z Dat->Rs:=Yk 3 3 H9
def Km:Ev->Fl:=(W4 (dO Yq (dO Yq (dO Yq (U 0) (dC (.int 1))) (U 1)) (dC (.int 0))))
def R4:Z Dat->Rs:=Yk 2 2 Km
def Ks:Ev->Fl:=(W4 (dO Yq (dO Yq (dO Yq (U 0) (dC (.int 1))) (U 1)) (dC (.int 1))))
def Kk:Z Dat->Rs:=Yk 2 2 Ks
def Gm:Ev->Fl:=(W4 (dO Yq (dO Yq (dO Yq (U 0) (dC (.int 1))) (U 1)) (dC (.int 2))))
def Tq:Z Dat->Rs:=Yk 2 2 Gm
def Gn:Ev->Fl:=(W4 (dO Yq (dO Yq (dO Yq (U 0) (dC (.int 1))) (U 1)) (dC (.int 3))))
def S4:Z Dat->Rs:=Yk 2 2 Gn
def WI:Ev->Fl:=(Zc (Zt 1 (dC (.int 0)))
 (Zc (Uf (Uw (U 0)) (Zz 2) (Zt 1 (dO NL (U 1) (dO Gg (dC (.int 1)) (U 2)))))
 (W4 (U 1))))
def Dl:Z Dat->Rs:=Yk 3 1 WI
def Kx:Ev->Fl:=(W4 (dO Mq (dO Gc (dO Xv (U 0) (U 1)) (dC (.int 1))) (dC (.int 1))))
def L0:Z Dat->Rs:=Yk 2 2 Kx
def WC:Ev->Fl:=(Zc (Zt 3 (Y3 Dl (O (Y3 Tq (O (U 0) (O (U 2) Zb))) Zb)))
 (W4 (dO Mq (dO Gc (dO Yq (U 1) (dC (.int 0))) (U 3)) (U 3))))
def A3:Z Dat->Rs:=Yk 4 3 WC
def D0:Ev->Fl:=(Zc (Zt 3 (Y3 R4 (O (U 0) (O (U 2) Zb))))
 (Zc (J9 (dB (dO Mq (Y3 L0 (O (dO Yq (U 1) (dC (.int 1))) (O (U 3) Zb))) (Y3 Kk (O (U 0) (O (U 2) Zb))))) (Uh "Broken" (gW "way") (O (dL (Ut (O (U 2) Zb))) Zb)) Ug)
 (Zc (Zt 4 (dO Gc (dO Yq (U 1) (dC (.int 0))) (dU UI (Y3 Dl (O (Y3 Tq (O (U 0) (O (U 2) Zb))) Zb)))))
 (Zc (Zt 5 (Y3 Dl (O (Y3 S4 (O (U 0) (O (U 2) Zb))) Zb)))
 (Zc (J9 (dB (dO Nz (dO Gc (U 4) (U 5)) (dC (.int 0)))) (Uh "Crowded" (gW "way") (O (dL (Ut (O (U 2) Zb))) Zb)) Ug)
 (W4 (Yt (O (dO NL (U 4) (U 5)) (O (dO UN (dO Yq (U 1) (dC (.int 1))) (dO Gg (dC (.int 1)) (U 3))) Zb)))))))))
def Hr:Z Dat->Rs:=Yk 6 3 D0
def G5:Ev->Fl:=(W4 (dL (Vk (U1 (O (dF U0 (O (dO Yq (U 0) (dC (.int 1))) Zb)) Zb)) [none,some 0,some 1] (Zz 0) (dT (Y3 A3 (O (U 1) (O (U 2) (O (U 0) Zb))))) (U 0))))
def Rh:Z Dat->Rs:=Yk 2 2 G5
def UW:Ev->Fl:=(Zc (Sk 2 (Ut Zb))
 (Zc (Zt 3 (U 1))
 (Zc (D4 (dB (dO VH (dO Yq (dO Yq (U 0) (U 3)) (dC (.int 2))) (dC .non))) (Zc (Q9 2 Wz (O (dO Yq (dO Yq (U 0) (U 3)) (dC (.int 3))) Zb))
 (Zt 3 (dO Yq (dO Yq (U 0) (U 3)) (dC (.int 2))))))
 (W4 (dL (QY (O (dP 2) Zb)))))))
def N2:Z Dat->Rs:=Yk 4 2 UW
def J8:Ev->Fl:=(SS J' "Broken" "Crowded" (Sg Hr (O (U 0) (O (dS Xw (dO Yq (U 1) (U 2)) Qk (Tb (dC (.int 2)))) (O (U 3) Zb)))) (Uh "Broken" (gW "way") (O (dL (dO Nd (Y3 N2 (O (U 1) (O (U 2) Zb))) (dL (Ut (O (U 3) Zb))))) Zb)) (Uh "Crowded" (gW "way") (O (dL (dO Nd (Y3 N2 (O (U 1) (O (U 2) Zb))) (dL (Ut (O (U 3) Zb))))) Zb)))
def Ds:Z Dat->Rs:=Yk 4 4 J8
def Pw:Ev->Fl:=(Zc (Sk 2 (Ut (O (Yt (O (dO Yq (U 0) (dC (.int 2))) (O (dO Yq (U 0) (dC (.int 3))) (O (dC .non) (O (dC .non) Zb))))) Zb)))
 (Zc (SF 3 (Yt (O (dO Yq (U 0) (dC (.int 2))) (O (dO Yq (U 0) (dC (.int 3))) Zb))) (dC (.bl true)))
 (Zc (Zt 4 (dC (.int 0)))
 (Zc (D4 (dB (dO UX (U 4) (dF U0 (O (dP 2) Zb)))) (Zc (Zt 5 (Y3 Rh (O (U 0) (O (dS Xw (dO Yq (dP 2) (U 4)) Qk (Tb (dC (.int 2)))) Zb))))
 (Zc (Uf (Uw (U 5)) (Zz 6) (Zc (R3 7 (Iy Ds) (O (U 0) (O (dP 2) (O (U 4) (O (U 6) Zb)))))
 (Zc (J9 (dB (RX false 3 (U 7))) (λenv=>.cont env) Ug)
 (Zc (J9 (dB (dO RE (dF U0 (O (dP 2) Zb)) (U 1))) (Uh "TooMany" gZ Zb) Ug)
 (Zc (Xe 3 (U 7) (dC (.bl true)))
 (Q9 2 Wz (O (Yt (O (dO Yq (U 7) (dC (.int 0))) (O (dO Yq (U 7) (dC (.int 1))) (O (U 4) (O (U 6) Zb))))) Zb)))))))
 (RD 4 (dC (.int 1))))))
 (En 2)))))
def Mx:Z Dat->Rs:=Yk 8 2 Pw
def Do:Ev->Fl:=(W4 (dF RW (O (dL (Vk (Uw (Y3 G0 (O (U 0) (O (U 2) (O (U 3) Zb))))) [none,some 0,some 1] (Zz 0) V7 (Y3 A3 (O (U 1) (O (U 2) (O (U 0) Zb)))))) Zb)))
def M4:Z Dat->Rs:=Yk 4 4 Do
def Bt:Ev->Fl:=(Zc (J9 (dT (Y3 M4 (O (U 0) (O (U 1) (O (U 2) (O (dC (.bl true)) Zb)))))) (W4 (dC (.int 1))) Ug)
 (Zc (J9 (dT (Y3 M4 (O (U 0) (O (U 1) (O (U 2) (O (dC (.bl false)) Zb)))))) (W4 (dU XI (dC (.int 1)))) Ug)
 (W4 (dC (.int 0)))))
def Nv:Z Dat->Rs:=Yk 3 3 Bt
def Ch:Ev->Fl:=(Zc (Zt 3 (dO Gc (Y3 Dl (O (Y3 Tq (O (U 0) (O (U 1) Zb))) Zb)) (dU UI (Y3 Dl (O (Y3 S4 (O (U 0) (O (U 1) Zb))) Zb)))))
 (W4 (dO Nz (dO Gc (U 3) (Y3 Dl (O (Y3 Tq (O (U 0) (O (U 2) Zb))) Zb))) (dC (.int 0)))))
def XH:Z Dat->Rs:=Yk 4 3 Ch
def Jk:Ev->Fl:=(W4 (TY (Y3 Qz (O (U 0) (O (Y3 R4 (O (U 0) (O (U 1) Zb))) Zb))) (Y3 Qz (O (U 0) (O (Y3 R4 (O (U 0) (O (U 2) Zb))) Zb)))))
def Jq:Z Dat->Rs:=Yk 3 3 Jk
def Ix:Ev->Fl:=(Zc (Sk 1 (Ut Zb))
 (Zc (Uf (U1 (O (dF U0 (O (dO Yq (U 0) (dC (.int 1))) Zb)) Zb)) (Zz 2) (Uf (U1 (O (dF U0 (O (dO Yq (U 0) (dC (.int 1))) Zb)) Zb)) (Zz 3) (J9 (Ec (dB (dO Nz (U 2) (U 3))) (Ec (dT (Y3 Jq (O (U 0) (O (U 2) (O (U 3) Zb))))) (dT (Y3 XH (O (U 0) (O (U 2) (O (U 3) Zb))))))) (Q9 1 Wz (O (Yt (O (U 2) (O (U 3) Zb))) Zb)) Ug)))
 (En 1)))
def P0:Z Dat->Rs:=Yk 4 1 Ix
def K6:Ev->Fl:=(Zc (R3 2 Mx (O (U 0) (O (U 1) Zb)))
 (Zc (Zt 3 (Y3 P0 (O (U 0) Zb)))
 (Zc (Uf (E8 (U 2)) (Sa 2 (Y7 (Zz 4) (Y7 (Zz 5) T5))) (Zc (Zt 6 (Y3 Rh (O (U 0) (O (dS Xw (U 5) Qk (Tb (dC (.int 2)))) Zb))))
 (Uf (Uw (U 3)) (Sa 2 (Y7 (Zz 7) (Y7 (Zz 8) T5))) (J9 (Ec (dB (dO NY (U 7) (U 6))) (dB (dO NY (U 8) (U 6)))) (Uh "CalledOff" (gC "way" "lost" "by") (O (Y3 N2 (O (U 2) (O (U 4) Zb))) (O (U 8) (O (U 7) Zb)))) Ug))))
 (W4 (U 2)))))
def Vn:Z Dat->Rs:=Yk 9 2 K6
def Gh:Ev->Fl:=(W4 (dL (Vk (Uw (U 2)) [none,some 0,some 1] (Zz 0) V7 (Y3 Nv (O (U 1) (O (U 2) (O (U 0) Zb)))))))
def Se:Z Dat->Rs:=Yk 3 3 Gh
def Pj:Ev->Fl:=(W4 (dL (Vk (E8 (U 0)) [none,none,some 1,some 2] (Sa 2 (Y7 (Zz 0) (Y7 (Zz 1) T5))) (dB (dO Nz (dO Yq (U 2) (U 0)) (dO Yq (U 3) (U 0)))) (U 1))))
def Og:Z Dat->Rs:=Yk 3 3 Pj
def Qe:Ev->Fl:=(Zc (Zt 2 (Y3 XE (O (U 0) Zb)))
 (Zc (Zt 3 (dL (Vk (Uw (U 1)) [none,some 0,some 2] (Zz 0) V7 (Y3 Se (O (U 1) (O (dS Xw (U 0) Qk (Tb (dC (.int 2)))) (O (U 2) Zb)))))))
 (Zc (Sk 4 (Ut Zb))
 (Zc (Uf (U1 (O (dF U0 (O (U 1) Zb)) Zb)) (Zz 5) (Uf (Ab (O (dO Ym (U 5) (dC (.int 1))) (O (dF U0 (O (U 1) Zb)) Zb))) (Zz 6) (J9 (dB (dO Mq (dO Yq (dO Yq (U 1) (U 5)) (dC (.int 1))) (dO Yq (dO Yq (U 1) (U 6)) (dC (.int 1))))) (Q9 4 Nm (O (dL (Vk (Uw (Y3 Og (O (U 2) (O (dO Yq (U 3) (U 5)) (O (dO Yq (U 3) (U 6)) Zb))))) [none,some 5,some 6] (Zz 0) V7 (Yt (O (U 1) (O (U 2) (O (U 0) Zb)))))) Zb)) Ug)))
 (En 4)))))
def Qc:Z Dat->Rs:=Yk 7 2 Qe
def J6:Ev->Fl:=(Sg (PK Vn Qc) (O (U 0) (O (U 0) (O (U 1) Zb))))
def Tu:Z Dat->Rs:=Yk 2 2 J6
def Je:Ev->Fl:=(Zc (Zt 2 (dO Ym (dO Gi (dC (.int 7919)) (U 1)) (dC (.int 12345))))
 (Zc (J9 (dB (dO UX (U 1) (dF U0 (O (U 0) Zb)))) (Zt 2 (dO Ym (U 2) (dO Gi (dO Yq (U 0) (U 1)) (dC (.int 6364136223846793005))))) Ug)
 (W4 (dO Vc (dO Gi (U 2) (dC (.int 48271))) (dC (.int 1000000000039))))))
def W6:Z Dat->Rs:=Yk 3 2 Je
def M8:Ev->Fl:=(Zc (Zt 2 (dC (.str "abcdefghijklmnopqrstuvwxyz")))
 (Zc (Zt 3 (dO Ym (dC (.int 2)) (dO Vc (U 0) (dC (.int 7)))))
 (Zc (Zt 4 (dO Vc (dO Wj (U 0) (dC (.int 7))) (U 3)))
 (Zc (Zt 5 (dC (.str "")))
 (Zc (Uf (U1 (O (U 3) Zb)) (Zz 6) (Zc (Zt 7 (dC (.int 0)))
 (Zc (J9 (dB (dO Mq (U 6) (U 4))) (Zt 7 (U 1)) Ug)
 (Zt 5 (dO Ym (U 5) (dO Yq (U 2) (dO Vc (dO Ym (dO Ym (dO Wj (U 0) (dC (.int 49))) (dO Gi (dC (.int 5)) (U 6))) (dO Gi (dC (.int 7)) (U 7))) (dC (.int 26)))))))))
 (Zc (J9 (dB (dO NY (U 5) (dL (Ut (O (dC (.str "given")) (O (dC (.str "made")) (O (dC (.str "up")) (O (dC (.str "down")) (O (dC (.str "start")) Zb))))))))) (Zt 5 (dO Ym (dS Xw (U 5) (Tb (dC (.int 1))) Qk) (dC (.str "q")))) Ug)
 (W4 (U 5))))))))
def Vl:Z Dat->Rs:=Yk 8 2 M8
def Qs:Ev->Fl:=(Zc (Sk 3 (Ut Zb))
 (Zc (Uf (U1 (O (U 2) Zb)) (Zz 4) (Zc (Zt 5 (Y3 W6 (O (U 0) (O (dO Ym (U 1) (U 4)) Zb))))
 (Zc (Zt 6 (dO Vc (U 5) (dO Ym (dF U0 (O (dP 3) Zb)) (dC (.int 1)))))
 (Zc (Q9 3 Rc (O (U 6) (O (U 4) Zb)))
 (Zc (Zt 7 (dO Vc (dO Wj (U 5) (dC (.int 64))) (dO OO (dF U0 (O (dP 3) Zb)) (U 6))))
 (Q9 3 Rc (O (dO Ym (dO Ym (U 6) (dC (.int 1))) (U 7)) (O (U 4) Zb))))))))
 (En 3)))
def S8:Z Dat->Rs:=Yk 8 3 Qs
def Q0:Ev->Fl:=(Zc (Sk 4 (Ut Zb))
 (Zc (Uf (U1 (O (U 2) Zb)) (Zz 5) (Zc (Zt 6 (Y3 W6 (O (U 0) (O (dO Ym (U 1) (U 5)) Zb))))
 (Zc (Zt 7 (dO Vc (U 6) (U 3)))
 (Zc (Zt 8 (dO Vc (dO Wj (U 6) (dC (.int 64))) (U 3)))
 (J9 (Ec (dB (dO Nz (U 7) (U 8))) (dB (dO PQ (Yt (O (dF QN (O (U 7) (O (U 8) Zb))) (O (dF OJ (O (U 7) (O (U 8) Zb))) Zb))) (dP 4)))) (Q9 4 Wz (O (Yt (O (dF QN (O (U 7) (O (U 8) Zb))) (O (dF OJ (O (U 7) (O (U 8) Zb))) Zb))) Zb)) Ug)))))
 (En 4)))
def Mb:Z Dat->Rs:=Yk 9 4 Q0
def Qw:Ev->Fl:=(Zc (Zt 4 (Y3 S8 (O (U 0) (O (U 1) (O (U 2) Zb)))))
 (Zc (Zt 5 (dO Gi (dC (.int 2)) (U 2)))
 (Zc (Zt 6 (Y3 W6 (O (U 0) (O (dO Ym (U 1) (U 2)) Zb))))
 (Zc (Zt 7 (Y3 Mb (O (U 0) (O (dO Ym (dO Ym (U 1) (U 2)) (dC (.int 1))) (O (U 3) (O (U 5) Zb))))))
 (Zc (J9 (dB (dO Mq (dO Vc (U 6) (dC (.int 3))) (dC (.int 0)))) (Zt 7 (dO Ym (U 7) (dL (Vk (U1 (O (dO OO (U 5) (dC (.int 1))) Zb)) [none,some 7] (Zz 0) (dB (dO PQ (Yt (O (U 0) (O (dO Ym (U 0) (dC (.int 1))) Zb))) (U 1))) (Yt (O (U 0) (O (dO Ym (U 0) (dC (.int 1))) Zb))))))) Ug)
 (Zc (Uf (U1 (O (U 2) Zb)) (Zz 8) (Zc (Zt 9 (dM "list" Ov (U 4) (O (U 8) Zb)))
 (Zc (Zt 10 (dO Ym (dO Ym (U 9) (dC (.int 1))) (dM "list" Ov (dS Xw (U 4) (Tb (dO Ym (U 9) (dC (.int 1)))) Qk) (O (U 8) Zb))))
 (Zt 7 (dO Ym (dL (Vk (Uw (U 7)) [none,some 9,some 10] (Zz 0) (dB (dO Nz (U 0) (Yt (O (U 1) (O (U 2) Zb))))) (U 0))) (dL (Ut (O (Yt (O (U 9) (O (U 10) Zb))) Zb))))))))
 (Zc (A9 11 (Uw (U 4)) [none] (Zz 0))
 (Zc (A9 12 (Uw (U 4)) [none] (Zz 0))
 (Zc (Zt 13 (dC (.int 0)))
 (Zc (Zt 14 (dO Vc (dO Wj (U 6) (dC (.int 3))) (dC (.int 20))))
 (Zc (Uf (Uw (U 7)) (Sa 2 (Y7 (Zz 15) (Y7 (Zz 16) T5))) (Zc (N1 12 (U 15) (O (U 14) Zb))
 (Zc (N1 11 (U 16) (O (U 14) Zb))
 (Zc (N1 12 (U 16) (O (dO Ym (U 14) (dC (.int 1))) Zb))
 (Zc (N1 11 (U 15) (O (dO Ym (U 14) (dC (.int 1))) Zb))
 (Zc (Zt 13 (dO NL (U 13) (dO Gg (dC (.int 1)) (dO Ym (U 14) (dC (.int 1))))))
 (Zt 14 (dO Ym (U 14) (dC (.int 2))))))))))
 (Zc (Zt 17 (dO Vc (dO Wj (U 6) (dC (.int 60))) (dO Gg (dC (.int 1)) (U 2))))
 (Zc (Zt 18 (U 17))
 (Zc (Sk 19 (Ut Zb))
 (Zc (Uf (E8 (U 4)) (Sa 2 (Y7 (Zz 20) (Y7 (Zz 8) T5))) (Zc (Q9 19 Wz (O (Yt (O (U 8) (O (dO Mq (dO Gc (dO Xv (U 18) (U 8)) (dC (.int 1))) (dC (.int 0))) (O (dF tupleD (O (dL (dF Jy (O (QM 11 (U 20)) Zb))) Zb)) (O (dF tupleD (O (dL (dF Jy (O (QM 12 (U 20)) Zb))) Zb)) Zb))))) Zb))
 (Zt 18 (dO UN (U 18) (dO Gg (dC (.int 1)) (U 8))))))
 (Zc (Zt 21 (dO Vc (dO Wj (U 6) (dC (.int 2000))) (U 5)))
 (Zc (Sk 19 (dO Nd (dS Xw (dP 19) (Tb (U 21)) Qk) (dS Xw (dP 19) Qk (Tb (U 21)))))
 (Zc (Zt 22 (dO Wj (U 6) (dC (.int 40000))))
 (Zc (Zt 23 (dL (Vk (U1 (O (U 2) Zb)) [none,some 22,some 0,some 1] (Zz 0) V7 (Yt (O (Y3 Vl (O (U 1) (O (U 0) Zb))) (O (dO Yq (dL (Ut (O (dC (.str "given")) (O (dC (.str "made")) Zb)))) (dO Vc (dO Wj (Y3 W6 (O (U 2) (O (dO Ym (U 3) (U 0)) Zb))) (dC (.int 4096))) (dC (.int 2)))) Zb))))))
 (W4 (Yt (O (dF tupleD (O (U 23) Zb)) (O (dF tupleD (O (dP 19) Zb)) (O (U 13) (O (U 17) Zb)))))))))))))))))))))))))
def Rr:Z Dat->Rs:=Yk 24 4 Qw
def Q2:Ev->Fl:=(Zc (Zt 2 (dO Ym (dC (.int 2)) (dO Vc (Y3 W6 (O (U 0) (O (U 1) Zb))) (dC (.int 2)))))
 (Zc (Zt 3 (dO Ym (dC (.int 1)) (dO Vc (dO Wj (Y3 W6 (O (U 0) (O (U 1) Zb))) (dC (.int 2))) (dC (.int 2)))))
 (Zc (Zt 4 (dO Wj (Y3 W6 (O (U 0) (O (U 1) Zb))) (dC (.int 4))))
 (Zc (Zt 5 (dL (Vk (U1 (O (U 2) Zb)) [none,some 4] (Zz 0) V7 (Yt (O (Y3 Vl (O (U 1) (O (U 0) Zb))) (O (dC (.str "given")) Zb))))))
 (Zc (Zt 5 (dO Ym (U 5) (dL (Vk (U1 (O (U 3) Zb)) [none,some 4,some 2] (Zz 0) V7 (Yt (O (Y3 Vl (O (U 1) (O (dO Ym (U 2) (U 0)) Zb))) (O (dC (.str "made")) Zb)))))))
 (Zc (Sk 6 (Ut Zb))
 (Zc (Zt 7 (dC (.int 1)))
 (Zc (Uf (U1 (O (U 2) Zb)) (Zz 8) (Zc (Zt 9 (Y3 W6 (O (U 0) (O (dO Ym (dO Ym (U 1) (dC (.int 1))) (U 8)) Zb))))
 (Zc (Zt 10 (dL (Vk (U1 (O (U 3) Zb)) [none,some 2,some 3,some 9] (Zz 0) V7 (dO Ym (U 1) (dO Vc (dO Ym (U 3) (U 0)) (U 2))))))
 (Zc (Zt 11 (dL (Vk (U1 (O (U 3) Zb)) [none,some 2,some 3,some 9] (Zz 0) V7 (dO Ym (U 1) (dO Vc (dO Ym (dO Wj (U 3) (dC (.int 2))) (U 0)) (U 2))))))
 (Zc (Sk 12 (dO Nd (dL (Vk (Uw (U 10)) [none] (Zz 0) V7 (Yt (O (U 0) (O (dC (.bl true)) Zb))))) (dL (Vk (Uw (U 11)) [none] (Zz 0) V7 (Yt (O (U 0) (O (dC (.bl false)) Zb)))))))
 (Zc (Q9 12 Rc (O (dO Vc (dO Wj (U 9) (dC (.int 4))) (dO Ym (dF U0 (O (dP 12) Zb)) (dC (.int 1)))) (O (Yt (O (U 8) (O (dC (.bl false)) Zb))) Zb)))
 (Zc (Zt 13 (dC (.int 0)))
 (Uf (E8 (dO Ym (dL (Ut (O (Yt (O (U 8) (O (dC (.bl true)) Zb))) Zb))) (dP 12))) (Sa 2 (Y7 (Zz 14) (Y7 (Zz 15) T5))) (Zc (Zt 16 (U 7))
 (Zc (J9 (dB (dO Mq (U 14) (dF U0 (O (dP 12) Zb)))) (Zt 16 (dC (.int 0))) Ug)
 (Zc (Q9 6 Wz (O (Yt (O (dO Yq (U 15) (dC (.int 0))) (O (dO Yq (U 15) (dC (.int 1))) (O (Yt (O (U 13) Zb)) (O (Yt (O (U 16) Zb)) Zb))))) Zb))
 (Zc (Zt 13 (U 16))
 (Zt 7 (dO Ym (U 7) (dC (.int 1))))))))))))))))
 (W4 (Yt (O (dF tupleD (O (U 5) Zb)) (O (dF tupleD (O (dP 6) Zb)) (O (dC (.int 1)) (O (dC (.int 0)) Zb))))))))))))))
def Mj:Z Dat->Rs:=Yk 17 2 Q2
def S0:Ev->Fl:=(Zc (OT (U 0) (Sa 4 (Y7 (Zz 5) (Y7 (Zz 6) (Y7 (Zz 7) (Y7 (Zz 8) T5))))))
 (Zc (Zt 9 (dO Gc (U 8) (dO OO (dO Gg (dC (.int 1)) (U 1)) (dC (.int 1)))))
 (Zc (Zt 8 (dO NL (dO NL (U 9) (dO Gg (dF Pb (O (U 3) Zb)) (U 1))) (dO Gg (dO Xv (U 8) (U 1)) (dO Ym (U 1) (dC (.int 1))))))
 (Zc (Zt 10 (dL (Vk (Uw (U 6)) [none,none,none,none,some 1] (Sa 4 (Y7 (Zz 0) (Y7 (Zz 1) (Y7 (Zz 2) (Y7 (Zz 3) T5))))) V7 (Yt (O (dO Ym (U 0) (dF Pb (O (dO RE (U 0) (U 4)) Zb))) (O (U 1) (O (U 2) (O (U 3) Zb))))))))
 (W4 (Yt (O (dO K4 (dO K4 (dS Xw (U 5) Qk (Tb (U 1))) (Yt (O (Yt (O (U 4) (O (U 2) Zb))) Zb))) (dS Xw (U 5) (Tb (U 1)) Qk)) (O (dF tupleD (O (U 10) Zb)) (O (U 7) (O (U 8) Zb))))))))))
def S9:Z Dat->Rs:=Yk 11 5 S0
def Uc:Ev->Fl:=(Zc (Zt 4 (Y3 W6 (O (U 0) (O (U 1) Zb))))
 (Zc (J9 (dB (dO Mq (dO Vc (U 4) (dC (.int 3))) (dC (.int 0)))) (Zt 5 (Y3 Mj (O (U 0) (O (dO Ym (U 1) (dC (.int 1))) Zb)))) (Zt 5 (Y3 Rr (O (U 0) (O (dO Ym (U 1) (dC (.int 1))) (O (dO Ym (dC (.int 1)) (dO Vc (dO Wj (U 4) (dC (.int 3))) (U 2))) (O (dO Vc (dO Wj (U 4) (dC (.int 30))) (dO Ym (U 3) (dC (.int 1)))) Zb)))))))
 (Zc (Zt 6 (dO Wj (U 4) (dC (.int 1000))))
 (Zc (J9 (dB (dO Mq (dO Vc (U 6) (dC (.int 4))) (dC (.int 0)))) (Zc (Zt 7 (dO Vc (dO Wj (U 6) (dC (.int 4))) (dF U0 (O (dO Yq (U 5) (dC (.int 1))) Zb))))
 (Zt 5 (Yt (O (dO Yq (U 5) (dC (.int 0))) (O (dO K4 (dS Xw (dO Yq (U 5) (dC (.int 1))) Qk (Tb (U 7))) (dS Xw (dO Yq (U 5) (dC (.int 1))) (Tb (dO Ym (U 7) (dC (.int 1)))) Qk)) (O (dO Yq (U 5) (dC (.int 2))) (O (dO Yq (U 5) (dC (.int 3))) Zb))))))) Ug)
 (Zc (Zt 8 (dO Yq (dL (Ut (O (dC (.int 0)) (O (dC (.int 0)) (O (dC (.int 0)) (O (dC (.int 0)) (O (dC (.int 1)) (O (dC (.int 1)) (O (dC (.int 2)) (O (dO OO (dC (.int 10)) (dF U0 (O (dO Yq (U 5) (dC (.int 0))) Zb))) Zb)))))))))) (dO Vc (dO Wj (U 6) (dC (.int 100))) (dC (.int 8)))))
 (Zc (Uf (U1 (O (U 8) Zb)) (Zz 9) (Zc (Zt 10 (dO Vc (dO Ym (dO Wj (U 6) (dC (.int 800))) (dO Gi (dC (.int 7)) (U 9))) (dO Ym (dF U0 (O (dO Yq (U 5) (dC (.int 0))) Zb)) (dC (.int 1)))))
 (Zc (Zt 11 (dO Yq (dL (Ut (O (dC (.str "given")) (O (dC (.str "made")) Zb)))) (dO Vc (dO Ym (dO Wj (U 6) (dC (.int 10000))) (U 9)) (dC (.int 2)))))
 (Zt 5 (Y3 S9 (O (U 5) (O (U 10) (O (U 11) (O (dO Mq (dO Vc (dO Ym (dO Wj (U 6) (dC (.int 20000))) (dO Wj (U 9) (dC (.int 2)))) (dC (.int 2))) (dC (.int 1))) (O (dO Yq (dC (.str "abcdefghij")) (U 9)) Zb))))))))))
 (W4 (U 5))))))))
def Tt:Z Dat->Rs:=Yk 12 4 Uc
def Dp:Ev->Fl:=(Zc (Zt 1 (dC (.int 0)))
 (Zc (Uf (Uw (U 0)) (Zz 2) (Zt 1 (dO NL (U 1) (dO Gg (dC (.int 1)) (U 2)))))
 (W4 (U 1))))
def Q8:Z Dat->Rs:=Yk 3 1 Dp
def Gv:Ev->Fl:=(Zc (Zt 3 (Y3 Q8 (O (dO Yq (dO Yq (dO Yq (U 0) (dC (.int 1))) (U 2)) (dC (.int 2))) Zb)))
 (W4 (dO Mq (dO Gc (dO Yq (U 1) (dC (.int 0))) (U 3)) (U 3))))
def G6:Z Dat->Rs:=Yk 4 3 Gv
def Sf:Ev->Fl:=(Zc (Uf (E8 (dO Yq (U 0) (dC (.int 1)))) (Sa 2 (Y7 (Zz 3) (Y7 (Zz 4) T5))) (J9 (Ec (dB (dO Mq (dO Yq (U 4) (dC (.int 0))) (U 2))) (dT (Y3 G6 (O (U 0) (O (U 1) (O (U 3) Zb)))))) (W4 (dO OO (dO Gi (dC (.int 2)) (dF Pb (O (dO Yq (U 4) (dC (.int 1))) Zb))) (dC (.int 1)))) Ug))
 (W4 (dC (.int 0))))
def Qn:Z Dat->Rs:=Yk 5 3 Sf
def Tz:Ev->Fl:=(Zc (Sk 2 (dF Fd (O (dO Yq (U 0) (dC (.int 1))) Zb)))
 (Zc (Zt 3 (dO Vc (U 1) (dF U0 (O (dP 2) Zb))))
 (Zc (Zt 4 (dO Vc (dO Wj (U 1) (dC (.int 32))) (dF U0 (O (dP 2) Zb))))
 (Zc (OT (dO Yq (dP 2) (U 4)) (Sa 4 (Y7 (Zz 5) (Y7 (Zz 6) (Y7 (Zz 7) (Y7 (Zz 8) T5))))))
 (Zc (My 2 (U 4) (Yt (O (U 5) (O (U 6) (O (dF tupleD (O (dL (PM (O (dO K4 (U 7) (dO Yq (dO Yq (dP 2) (U 3)) (dC (.int 2)))) Zb))) Zb)) (O (U 8) Zb))))))
 (W4 (Yt (O (dO Yq (U 0) (dC (.int 0))) (O (dF tupleD (O (dP 2) Zb)) (O (dO Yq (U 0) (dC (.int 2))) (O (dO Yq (U 0) (dC (.int 3))) Zb)))))))))))
def M9:Z Dat->Rs:=Yk 9 2 Tz
def Tc:Ev->Fl:=(Zc (Zt 2 (dO Yq (U 0) (dC (.int 2))))
 (Zc (Uf (Uw (dO Yq (U 0) (dC (.int 1)))) (Zz 3) (Zt 2 (dO NL (dO NL (U 2) (Y3 Q8 (O (dO Yq (U 3) (dC (.int 2))) Zb))) (Y3 Q8 (O (dO Yq (U 3) (dC (.int 3))) Zb)))))
 (Zc (Zt 4 (dO Yq (dL (Vk (U1 (O (dC (.int 64)) Zb)) [none,some 2] (Zz 0) (dB (dO Mq (dO Gc (dO Xv (U 1) (U 0)) (dC (.int 1))) (dC (.int 0)))) (U 0))) (dO Vc (U 1) (dC (.int 3)))))
 (Zc (Sk 5 (Ut Zb))
 (Zc (Uf (E8 (dO Yq (U 0) (dC (.int 1)))) (Sa 2 (Y7 (Zz 6) (Y7 (Zz 3) T5))) (Zc (OT (U 3) (Sa 4 (Y7 (Zz 7) (Y7 (Zz 8) (Y7 (Zz 9) (Y7 (Zz 10) T5))))))
 (Zc (J9 (dB (dO Mq (dO Gc (dO Xv (dO Wj (U 1) (dC (.int 3))) (U 6)) (dC (.int 1))) (dC (.int 1)))) (Zc (Zt 9 (dF tupleD (O (dL (dF Jy (O (dO K4 (U 9) (Yt (O (U 4) Zb))) Zb))) Zb)))
 (Zt 10 (dF tupleD (O (dL (dF Jy (O (dO K4 (U 10) (Yt (O (U 4) Zb))) Zb))) Zb)))) Ug)
 (Q9 5 Wz (O (Yt (O (U 7) (O (U 8) (O (U 9) (O (U 10) Zb))))) Zb)))))
 (W4 (Yt (O (dO Yq (U 0) (dC (.int 0))) (O (dF tupleD (O (dP 5) Zb)) (O (dO NL (dO Yq (U 0) (dC (.int 2))) (dO Gg (dC (.int 1)) (U 4))) (O (dO Yq (U 0) (dC (.int 3))) Zb)))))))))))
def Jl:Z Dat->Rs:=Yk 11 2 Tc
def Ge:Ev->Fl:=(Zc (Sk 2 (Ut Zb))
 (Zc (Uf (U1 (O (dF U0 (O (U 1) Zb)) Zb)) (Zz 3) (Uf (Ab (O (dO Ym (U 3) (dC (.int 1))) (O (dF U0 (O (U 1) Zb)) Zb))) (Zz 4) (J9 (dB (dO Mq (dO Yq (dO Yq (U 1) (U 3)) (dC (.int 1))) (dO Yq (dO Yq (U 1) (U 4)) (dC (.int 1))))) (Uf (E8 (dO Yq (U 0) (dC (.int 0)))) (Sa 2 (Y7 (Zz 5) (Y7 (Zz 6) T5))) (Zc (Zt 7 (Y3 Qn (O (U 0) (O (dO Yq (U 1) (U 3)) (O (U 5) Zb)))))
 (J9 (Ec (dB (dO Mq (dO Yq (U 6) (dC (.int 1))) (dC (.str "made")))) (dB (dO Nz (U 7) (Y3 Qn (O (U 0) (O (dO Yq (U 1) (U 4)) (O (U 5) Zb))))))) (Q9 2 Wz (O (Yt (O (U 3) (O (U 4) (O (U 5) Zb)))) Zb)) Ug))) Ug)))
 (En 2)))
def Gz:Z Dat->Rs:=Yk 8 2 Ge
def Ra:Ev->Fl:=(Zc (J9 (Xt (Dd (dT (dI "list" (U 0)))) (dB (dO Nz (dF U0 (O (U 0) Zb)) (dF U0 (O (U 1) Zb))))) (W4 (dC (.bl false))) Ug)
 (Zc (Uf (Uw (U 0)) (Zz 2) (Zc (J9 (Xt (Dd (dT (dI "tuple" (U 2)))) (dB (dO Nz (dF U0 (O (U 2) Zb)) (dC (.int 3))))) (W4 (dC (.bl false))) Ug)
 (Uf (Uw (U 2)) (Zz 3) (J9 (Xt (Dd (dT (dI "int" (U 3)))) (dT (dI "bool" (U 3)))) (W4 (dC (.bl false))) Ug))))
 (W4 (dO Mq (U 0) (U 1)))))
def Sc:Z Dat->Rs:=Yk 4 2 Ra
def Ma:Ev->Fl:=(Zc (Sk 2 (dF Fd (O (dO Yq (U 0) (dC (.int 0))) Zb)))
 (Zc (OT (dO Yq (dP 2) (U 1)) (Sa 2 (Y7 (Zz 3) (Y7 (Zz 4) T5))))
 (Zc (My 2 (U 1) (Yt (O (U 3) (O (dO Yq (dL (Ut (O (dC (.str "given")) (O (dC (.str "made")) Zb)))) (dF Pb (O (dO Mq (U 4) (dC (.str "given"))) Zb))) Zb))))
 (W4 (dO K4 (Yt (O (dF tupleD (O (dP 2) Zb)) Zb)) (dS Xw (U 0) (Tb (dC (.int 1))) Qk))))))
def Mk:Z Dat->Rs:=Yk 5 2 Ma
def Ef:Ev->Fl:=(Zc (Zt 1 (dL (Ut (O (NF (Md J' "Broken") (U 0)) (O (NF (Md J' "Crowded") (U 0)) (O (NF (Md J' "CalledOff") (U 0)) (O (NF (Md J' "TooMany") (U 0)) Zb)))))))
 (Zc (J9 (Xt (dB (dO Nz (dF VS (O (dL (Vk (WM (U 1)) [none] (Zz 0) V7 (dF Pb (O (U 0) Zb)))) Zb)) (dC (.int 1)))) (Dd (dT (NF (Fh J') (U 0))))) (W4 (Yt (O (dC (.str "other")) Zb))) Ug)
 (Zc (J9 (dT (NF (Md J' "CalledOff") (U 0))) (W4 (Yt (O (dC (.str "called off")) (O (dL (dF Fd (O (RZ (Wx J') "way" (U 0)) Zb))) (O (RZ (Wx J') "lost" (U 0)) (O (RZ (Wx J') "by" (U 0)) Zb)))))) Ug)
 (Zc (J9 (dT (NF (Md J' "TooMany") (U 0))) (W4 (Yt (O (dC (.str "many")) Zb))) Ug)
 (W4 (Yt (O (dO Yq (dL (Ut (O (dC (.str "broken")) (O (dC (.str "crowded")) Zb)))) (dF Pb (O (NF (Md J' "Crowded") (U 0)) Zb))) (O (dL (dF Fd (O (RZ (Wx J') "way" (U 0)) Zb))) Zb))))))))
def Yd:Z Dat->Rs:=Yk 2 1 Ef
def M7:Ev->Fl:=(Zc (Zt 3 (Yt (O (dC (.str "none")) Zb)))
 (Zc (OK (Wx J') 4 (J9 (dB (dO Mq (U 0) (dC (.int 0)))) (R3 3 (QC "rows" Vn) (O (U 1) (O (U 2) Zb))) (R3 3 (QC "rows" Tu) (O (U 1) (O (U 2) Zb)))) (Zt 3 (Y3 Yd (O (U 4) Zb))))
 (W4 (U 3))))
def Jv:Z Dat->Rs:=Yk 5 3 M7
def Ql:Ev->Fl:=(Zc (Zt 3 (Yt (O (dC (.str "none")) Zb)))
 (Zc (OK (Wx J') 4 (J9 (dB (dO Mq (U 0) (dC (.int 0)))) (R3 3 (QC "rows" Vn) (O (U 1) (O (U 2) Zb))) (SI 3 "rows" Tu (O (U 1) (O (U 2) Zb)))) (Zt 3 (Y3 Yd (O (U 4) Zb))))
 (UY true 3)))
def Qr:Z Dat->Rs:=Yk 5 3 Ql
def Rt:Ev->Fl:=(Zc (Zt 2 (Y3 Jv (O (dC (.int 0)) (O (U 0) (O (U 1) Zb)))))
 (Zc (Zt 3 (Y3 Qr (O (dC (.int 1)) (O (U 0) (O (U 1) Zb)))))
 (Zc (J9 (Xt (dB (dO Nz (dO Yq (U 2) (dC (.int 0))) (dC (.str "rows")))) (dB (dO Nz (dO Yq (U 3) (dC (.int 0))) (dC (.str "rows"))))) (W4 (dO Mq (U 3) (U 2))) Ug)
 (Zc (J9 (Dd (dT (Y3 Sc (O (dO Yq (U 3) (dC (.int 1))) (O (Y3 Gz (O (U 0) (O (dO Yq (U 2) (dC (.int 1))) Zb))) Zb))))) (W4 (dC (.bl false))) Ug)
 (Zc (Xf 3 (O (Yt (O (dC (.int 0)) (O (dC (.int 0)) (O (dC (.int 0)) Zb)))) Zb))
 (W4 (dC (.bl true))))))))
def Rb:Z Dat->Rs:=Yk 4 2 Rt
def UD:Ev->Fl:=(Zc (Zt 1 (Y3 W6 (O (U 0) (O (dC (.int 0)) Zb))))
 (Zc (Zt 2 (Y3 Tt (O (U 0) (O (dC (.int 1)) (O (dC (.int 4)) (O (dC (.int 5)) Zb))))))
 (Zc (J9 (dB (dO Mq (dO Vc (dO Wj (U 1) (dC (.int 4096))) (dC (.int 3))) (dC (.int 0)))) (Zt 2 (Y3 Jl (O (U 2) (O (dO Wj (U 1) (dC (.int 12288))) Zb)))) Ug)
 (Zc (Zt 3 (dF U0 (O (Y3 Vn (O (U 2) (O (dC (.int 400)) Zb))) Zb)))
 (Zc (Zt 4 (dO Yq (dL (Ut (O (dC (.int 400)) (O (dC (.int 400)) (O (U 3) (O (dF OJ (O (dC (.int 1)) (O (dO OO (U 3) (dC (.int 1))) Zb))) Zb)))))) (dO Vc (U 1) (dC (.int 4)))))
 (Zc (Zt 5 (Y3 Mk (O (U 2) (O (dO Vc (dO Wj (U 1) (dC (.int 4))) (dF U0 (O (dO Yq (U 2) (dC (.int 0))) Zb))) Zb))))
 (Zc (Uf (Uw (dL (Ut (O (U 2) (O (U 5) (O (Y3 M9 (O (U 2) (O (dO Wj (U 1) (dC (.int 64))) Zb))) (O (U 2) Zb))))))) (Zz 6) (J9 (Dd (dT (Y3 Rb (O (U 6) (O (U 4) Zb))))) (W4 (dC (.bl false))) Ug))
 (W4 (dC (.bl true))))))))))
def ZX:Z Dat->Rs:=Yk 7 1 UD
theorem Qv{N P:Z Str}(h1:sc.kind=.function:=by rfl)(h2:sc.isCoroutine=false:=by rfl)(h3:sc.isGenerator=false:=by rfl)(h4:N.Nodup:=by ext)(h5:N.take P.length=P:=by rfl)(h6:∀ x∈P,sc.names.lookup x=some .local\/sc.names.lookup x=some .cell:=by ext)(h7:∀ y∈sc.names,y.2≠.free:=by ext):FnScope N P sc:=⟨h1,h2,h3,h4,h5,h6,h7⟩
def Qo(i:Nat):Df:=PySem.Challenge.pw_calmwires_k41_clashes_told.main.body.getD i (.Pass ⟨0,0,0,0⟩)
abbrev Kd:Df:=Qo 8
theorem lB:FnScope ["graph","wire"] ["graph","wire"] (Z7 Kd):=Qv
abbrev B7:Df:=Qo 7
theorem eH:FnScope ["graph"] ["graph"] (Z7 B7):=Qv
abbrev S5:Df:=Qo 9
theorem kZ:FnScope ["graph","wire","up"] ["graph","wire","up"] (Z7 S5):=Qv
abbrev Ki:Df:=Qo 10
theorem iv:FnScope LU LU (Z7 Ki):=Qv
abbrev Ku:Df:=Qo 11
theorem ov:FnScope LU LU (Z7 Ku):=Qv
abbrev G7:Df:=Qo 12
theorem j2:FnScope LU LU (Z7 G7):=Qv
abbrev G4:Df:=Qo 13
theorem eK:FnScope LU LU (Z7 G4):=Qv
abbrev VN:Df:=Qo 14
theorem No:FnScope ["some","number","place"] ["some"] (Z7 VN):=Qv
abbrev Ke:Df:=Qo 15
theorem eF:FnScope ["number","place"] ["number","place"] (Z7 Ke):=Qv
abbrev W':Df:=Qo 17
theorem ZG:FnScope ["graph","stand","step","takes"] OF (Z7 W'):=Qv
abbrev Oe:Df:=Qo 18
theorem E2:FnScope ["graph","stand","step","wire","left","fills"] OF (Z7 Oe):=Qv
abbrev Rn:Df:=Qo 20
theorem lp:FnScope ["graph","stand"] ["graph","stand"] (Z7 Rn):=Qv
abbrev UT:Df:=Qo 22
theorem Bx:FnScope ["found","n","steps","at"] ["found","n"] (Z7 UT):=Qv
abbrev Kw:Df:=Qo 21
theorem fX:FnScope PV PV (Z7 Kw):=Qv
abbrev Pp:Df:=Qo 19
theorem T4:FnScope ["graph","most","found","seen","at","here","step","stand"] MR (Z7 Pp):=Qv
abbrev Jx:Df:=Qo 25
theorem Cu:FnScope P' P' (Z7 Jx):=Qv
abbrev WK:Df:=Qo 24
theorem k6:FnScope PN PN (Z7 WK):=Qv
abbrev WY:Df:=Qo 26
theorem cg:FnScope ["graph","by","lost","kept"] NG (Z7 WY):=Qv
abbrev Jd:Df:=Qo 29
theorem Ni:FnScope NG NG (Z7 Jd):=Qv
abbrev Oz:Df:=Qo 28
theorem Dv:FnScope ["graph","pairs","by","lost"] ["graph"] (Z7 Oz):=Qv
abbrev Ci:Df:=Qo 27
theorem Q4:FnScope ["graph","most","found","pairs","n","stand","here","by","lost"] MR (Z7 Ci):=Qv
abbrev Rz:Df:=Qo 33
theorem mb:FnScope QE QE (Z7 Rz):=Qv
abbrev Hd:Df:=Qo 34
theorem k8:FnScope QH QH (Z7 Hd):=Qv
abbrev Vs:Df:=Qo 32
theorem Wu:FnScope ["graph","found","wires","wanted","told","n","m"] ["graph","found"] (Z7 Vs):=Qv
abbrev Ko:Df:=Qo 31
theorem kB:FnScope MR MR (Z7 Ko):=Qv
abbrev Ha:Df:=Qo 36
theorem Sy:FnScope ["_law_script","_law_k","_law_number"] ["_law_script","_law_k"] (Z7 Ha):=Qv
abbrev D3:Df:=Qo 37
theorem Wg:FnScope ["_law_cell","_law_k","_law_letters","_law_size","_law_at","_law_word_here","_law_j","_law_shift"] ["_law_cell","_law_k"] (Z7 D3):=Qv
abbrev Rg:Df:=Qo 38
theorem Vw:FnScope ["_law_script","_law_first","_law_n","_law_order_here","_law_w","_law_cell","_law_at","_law_far"] ["_law_script","_law_first","_law_n"] (Z7 Rg):=Qv
abbrev Me:Df:=Qo 39
theorem Vi:FnScope ["_law_script","_law_first","_law_many","_law_size","_law_pairs","_law_k","_law_cell","_law_i","_law_j"] dQ (Z7 Me):=Qv
abbrev V0:Df:=Qo 40
theorem Zk:FnScope ["_law_script","_law_first","_law_n","_law_many","_law_order_here","_law_size","_law_cell","_law_pairs","_law_w","_law_one","_law_two","_law_takes","_law_fills","_law_marks","_law_spots","_law_i","_law_j","_law_code","_law_seen","_law_steps","_law_d","_law_turn","_law_word_here","_law_wires"] dq (Z7 V0):=Qv
abbrev Wf:Df:=Qo 41
theorem Zr:FnScope ["_law_script","_law_first","_law_many","_law_own","_law_word_here","_law_wires","_law_steps","_law_spots","_law_k","_law_cell","_law_chain","_law_back","_law_both","_law_last","_law_at","_law_deed","_law_fill"] ["_law_script","_law_first"] (Z7 Wf):=Qv
abbrev Qp:Df:=Qo 42
theorem Wr:FnScope ["_law_graph_here","_law_at","_law_kind","_law_up","_law_word_here","_law_wires","_law_steps","_law_marks","_law_code","_law_low","_law_rows"] dj (Z7 Qp):=Qv
abbrev Tk:Df:=Qo 43
theorem Y5:FnScope ["_law_script","_law_first","_law_most","_law_arrows_here","_law_cell","_law_graph_here","_law_more","_law_gone","_law_many","_law_k","_law_at","_law_kind"] bP (Z7 Tk):=Qv
abbrev Dm:Df:=Qo 44
theorem Qy:FnScope ["_law_some","_law_number","_law_place"] ["_law_some"] (Z7 Dm):=Qv
abbrev Gy:Df:=Qo 45
theorem Lx:FnScope ["_law_graph_here","_law_stand","_law_k","_law_takes"] ["_law_graph_here","_law_stand","_law_k"] (Z7 Gy):=Qv
abbrev S6:Df:=Qo 47
theorem Ml:FnScope ["_law_graph_here","_law_stand","_law_wire","_law_k","_law_step"] Z' (Z7 S6):=Qv
abbrev Mh:Df:=Qo 48
theorem Wi:FnScope ["_law_graph_here","_law_cell","_law_steps","_law_i","_law_j","_law_wire","_law_up","_law_takes","_law_fills"] NT (Z7 Mh):=Qv
abbrev Td:Df:=Qo 49
theorem Y4:FnScope ["_law_graph_here","_law_cell","_law_there","_law_step","_law_spot","_law_steps","_law_k","_law_wire","_law_up","_law_takes","_law_fills"] NT (Z7 Td):=Qv
abbrev Gs:Df:=Qo 50
theorem U4:FnScope ["_law_graph_here","_law_rows_of_stands","_law_rows","_law_n","_law_m","_law_wire","_law_pair","_law_one"] ["_law_graph_here","_law_rows_of_stands"] (Z7 Gs):=Qv
abbrev Rv:Df:=Qo 51
theorem Mi:FnScope ["_law_got","_law_due_here","_law_row","_law_number"] ["_law_got","_law_due_here"] (Z7 Rv):=Qv
abbrev Mf:Df:=Qo 52
theorem T8:FnScope ["_law_graph_here","_law_wire","_law_wires","_law_name","_law_kind"] ["_law_graph_here","_law_wire"] (Z7 Mf):=Qv
abbrev Q1:Df:=Qo 53
theorem Su:FnScope ["_law_e","_law_some"] ["_law_e"] (Z7 Q1):=Qv
abbrev Jw:Df:=Qo 54
theorem Ys:FnScope ["_law_mode","_law_graph_here","_law_most","_law_answer","_law_e"] UP (Z7 Jw):=Qv
abbrev Ry:Df:=Qo 55
theorem Mc:FnScope ["_law_graph_here","_law_most","_law_due_here","_law_answer"] ["_law_graph_here","_law_most"] (Z7 Ry):=Qv
abbrev Ei:Df:=Qo 56
theorem Dk:FnScope dn NI (Z7 Ei):=Qv
structure Txt (K:KX) (mg:LO):Prop where
 b_ValueError:mg "ValueError" = none
 b_any:mg "any" = none
 b_bool:mg "bool" = none
 b_enumerate:mg "enumerate" = none
 b_int:mg "int" = none
 b_isinstance:mg "isinstance" = none
 b_len:mg "len" = none
 b_list:mg "list" = none
 b_max:mg "max" = none
 b_min:mg "min" = none
 b_range:mg "range" = none
 b_reversed:mg "reversed" = none
 b_set:mg "set" = none
 b_sorted:mg "sorted" = none
 b_sum:mg "sum" = none
 b_tuple:mg "tuple" = none
 i_0:PY K mg "Broken" (Md J' "Broken")
 i_3:PY K mg "CalledOff" (Md J' "CalledOff")
 i_1:PY K mg "Crowded" (Md J' "Crowded")
 i_2:PY K mg "TooMany" (Md J' "TooMany")
 j_ValueError:VQ K mg "ValueError" "ValueError" (Fh J')
 k_8:UC K mg "CalmError" (Wx J')
 q_0:QW K mg "Broken" J'
 q_1:QW K mg "Crowded" J'
 f_by:RK K (Wx J') "by"
 f_lost:RK K (Wx J') "lost"
 f_way:RK K (Wx J') "way"
abbrev TX(b:Bd):=Txt b.K b.mg
abbrev Le(b:Bd):Prop:=b.D 1 "is_made" ["graph","wire"] false Qz
abbrev dR(b:Bd):Prop:=b.D 2 "made" ["graph"] true XE
abbrev Oc(b:Bd):Prop:=b.D 1 "steps_of" ["graph","wire","up"] true G0
abbrev Kz(b:Bd):Prop:=b.D 1 "wire_of" LU false R4
abbrev Fw(b:Bd):Prop:=b.D 1 "is_rise" LU false Kk
abbrev Sb(b:Bd):Prop:=b.D 1 "takes_of" LU false Tq
abbrev Gp(b:Bd):Prop:=b.D 1 "fills_of" LU false S4
abbrev Cb(b:Bd):Prop:=b.D 1 "bits" ["some"] false Dl
abbrev Fz(b:Bd):Prop:=b.D 1 "has_one" ["number","place"] false L0
abbrev VE(b:Bd):Prop:=b.D 2 "can" OF false A3
abbrev dy(b:Bd):Prop:=b.X 3 "behind" OF false Hr true
abbrev Gr(b:Bd):Prop:=b.D 3 "steps_at" ["graph","stand"] true Rh
abbrev gL(b:Bd):Prop:=b.D 1 "way" ["found","n"] true N2
abbrev ba(b:Bd):Prop:=b.N 1 "way" ["found","n"] true N2
abbrev Fj(b:Bd):Prop:=b.X 4 "come_to" PV false Ds
abbrev cR(b:Bd):Prop:=b.X 5 "stands" MR true Mx
abbrev Lv(b:Bd):Prop:=b.D 3 "is_called" P' false M4
abbrev c7(b:Bd):Prop:=b.D 4 "wants" PN false Nv
abbrev YM(b:Bd):Prop:=b.D 2 "robs" NG false XH
abbrev Sm(b:Bd):Prop:=b.D 2 "touches_made" NG false Jq
abbrev dz(b:Bd):Prop:=b.D 3 "rivals" ["graph"] true P0
abbrev Ia(b:Bd):Prop:=b.X 6 "sound" MR false Vn
abbrev O3(b:Bd):Prop:=b.D 5 "wants_of" QE true Se
abbrev bV(b:Bd):Prop:=b.D 1 "unlike" QH true Og
abbrev Sh(b:Bd):Prop:=b.D 6 "clashes_among" ["graph","found"] true Qc
abbrev Kf(b:Bd):Prop:=b.X 7 "clashes" MR true Tu
abbrev Uv(b:Bd):Prop:=b.D 1 "_law_mix" ["_law_script","_law_k"] false W6
abbrev Dn(b:Bd):Prop:=b.D 1 "_law_word" ["_law_cell","_law_k"] false Vl
abbrev Io(b:Bd):Prop:=b.D 2 "_law_order" ["_law_script","_law_first","_law_n"] true S8
abbrev El(b:Bd):Prop:=b.D 2 "_law_arrows" dQ true Mb
abbrev He(b:Bd):Prop:=b.D 3 "_law_graph" dq false Rr
abbrev Et(b:Bd):Prop:=b.D 2 "_law_choice" ["_law_script","_law_first"] false Mj
abbrev Ir(b:Bd):Prop:=b.D 1 "_law_wider" dj false S9
abbrev R1(b:Bd):Prop:=b.D 4 "_law_any_graph" bP false Tt
abbrev De(b:Bd):Prop:=b.D 1 "_law_bits" ["_law_some"] false Q8
abbrev Oy(b:Bd):Prop:=b.D 2 "_law_can" ["_law_graph_here","_law_stand","_law_k"] false G6
abbrev Ho(b:Bd):Prop:=b.D 3 "_law_wants" Z' false Qn
abbrev Eg(b:Bd):Prop:=b.D 1 "_law_spoilt" NT false M9
abbrev Sn(b:Bd):Prop:=b.D 2 "_law_lookers" NT false Jl
abbrev Oj(b:Bd):Prop:=b.D 4 "_law_due" ["_law_graph_here","_law_rows_of_stands"] true Gz
abbrev Hy(b:Bd):Prop:=b.D 1 "_law_alike" ["_law_got","_law_due_here"] false Sc
abbrev Ed(b:Bd):Prop:=b.D 1 "_law_turned" ["_law_graph_here","_law_wire"] false Mk
abbrev Ji(b:Bd):Prop:=b.N 1 "_law_fields" ["_law_e"] false Yd
abbrev Lo(b:Bd):Prop:=b.D 8 "_law_told" UP false Jv
abbrev K9(b:Bd):Prop:=b.D 8 "_law_told" UP true Qr
abbrev Hn(b:Bd):Prop:=b.D 9 "_law_right" ["_law_graph_here","_law_most"] false Rb
section
variable{w:Gf}{b:Bd}
end
abbrev i_0:Df:=Nu (Qo 2) 0
theorem eY:FnScope NA NA (Z7 i_0):=Qv
abbrev i_1:Df:=Nu (Qo 3) 0
theorem i9:FnScope NA NA (Z7 i_1):=Qv
abbrev i_2:Df:=Nu (Qo 4) 0
theorem o7:FnScope ["self"] ["self"] (Z7 i_2):=Qv
abbrev i_3:Df:=Nu (Qo 5) 0
theorem jy:FnScope QB QB (Z7 i_3):=Qv
section
variable{P:Fn}{w:Gf}{K:KX}{mg:LO}{base:G2}{b:Bd}
theorem iK{C D:A2}(B:MC K mg D)(z:CD K D C "Broken.__init__" i_0)(hc:Wd K "Broken" C)(hm:mg "Broken" = some (.ref C))(bl:mg "list" = none)(b:PySem.W.findIn K (.ref C) "way" = some none):XMakeN P w K mg base 1 "Broken" 1 (gW "way"):=let ⟨fI,fd,F,Y,hx,xc,a⟩:=z
 ⟨⟨C,fI,D,fd,NA,hc,hm,Y,hx,xc,a,bp (k:=0) F eY hx xc b (λak A outer s H E hr=>(T6 (S3 (Nw B (Yl (pv 0) (Yl (Kn (X2 (B9 hr (pv 1) WL))) Vo)))) (Jr (Bi (pv 0) (R5 (G8 K) rfl bl (by ext) (Yl (pv 1) Vo)))))) (λH e a0 n0 l0 m0=>(Hx (K7 Co (by ext) rfl (.inr ⟨a0,n0,rfl,l0,m0⟩)) (by ext))),
  F.binds λ_ _ _ _ _ _ us hl=>LX us hl λ_ _=>rfl⟩,ce,by lia⟩
theorem oO{C D:A2}(B:MC K mg D)(z:CD K D C "Crowded.__init__" i_1)(hc:Wd K "Crowded" C)(hm:mg "Crowded" = some (.ref C))(bl:mg "list" = none)(b:PySem.W.findIn K (.ref C) "way" = some none):XMakeN P w K mg base 1 "Crowded" 1 (gW "way"):=let ⟨fI,fd,F,Y,hx,xc,a⟩:=z
 ⟨⟨C,fI,D,fd,NA,hc,hm,Y,hx,xc,a,bp (k:=0) F i9 hx xc b (λak A outer s H E hr=>(T6 (S3 (Nw B (Yl (pv 0) (Yl (Kn (X2 (B9 hr (pv 1) WL))) Vo)))) (Jr (Bi (pv 0) (R5 (G8 K) rfl bl (by ext) (Yl (pv 1) Vo)))))) (λH e a0 n0 l0 m0=>(Hx (K7 Co (by ext) rfl (.inr ⟨a0,n0,rfl,l0,m0⟩)) (by ext))),
  F.binds λ_ _ _ _ _ _ us hl=>LX us hl λ_ _=>rfl⟩,ce,by lia⟩
theorem lZ{C D:A2}(B:MC K mg D)(z:CD K D C "TooMany.__init__" i_2)(hc:Wd K "TooMany" C)(hm:mg "TooMany" = some (.ref C))(bl:mg "list" = none)  : LY P w K mg base 1 "TooMany" 0 gZ:=let ⟨fI,fd,F,Y,hx,xc,a⟩:=z
 ⟨⟨C,fI,D,fd,["self"],hc,hm,Y,hx,xc,a,ja (k:=0) F o7 hx (λak A outer s H E hr=>(Jr (S3 (Nw B (Yl (pv 0) (Yl B6 Vo)))))),
  F.binds λ_ _ _ _ _ _ us hl=>PZ us hl λ_=>rfl⟩,YC,by lia⟩
theorem eb{C D:A2}(B:MC K mg D)(z:CD K D C "CalledOff.__init__" i_3)(hc:Wd K "CalledOff" C)(hm:mg "CalledOff" = some (.ref C))(bl:mg "list" = none)(b:PySem.W.findIn K (.ref C) "way" = some none)(am:PySem.W.findIn K (.ref C) "lost" = some none)(ah:PySem.W.findIn K (.ref C) "by" = some none):LY P w K mg base 1 "CalledOff" 3 (gC "way" "lost" "by"):=let ⟨fI,fd,F,Y,hx,xc,a⟩:=z
 ⟨⟨C,fI,D,fd,QB,hc,hm,Y,hx,xc,a,gA (k:=0) F jy hx xc b am ah (by ext) (by ext) (by ext) (λak A outer s H E hr=>(T6 (S3 (Nw B (Yl (pv 0) (Yl (Kn (X2 (WP hr (pv 2) (X2 (WP hr (pv 3) (X2 (WP hr (pv 1) WL))))))) Vo)))) (T6 (Bi (pv 0) (R5 (G8 K) rfl bl (by ext) (Yl (pv 1) Vo))) (T6 (cp (pv 0) (pv 2)) (Jr (cp (pv 0) (pv 3))))))) (λH e a0 n0 c i1 l0 m0 d I g m=>(Hx (K7 (Hx (K7 (Hx (K7 Co (by ext) rfl (.inr ⟨a0,n0,rfl,l0,m0⟩)) (by ext)) (by ext) rfl (.inl ⟨i1,rfl,g,m⟩)) (by ext)) (by ext) rfl (.inl ⟨c,rfl,d,I⟩)) (by ext))),
  F.binds λ_ _ _ _ _ _ us hl=>QA us hl λ_ _ _ _=>rfl⟩,jd,by lia⟩
local macro_rules|`(tactic|ext)=>`(tactic|first|exactλ_ _ _ _ _ _ us hl=>LX us hl λ_ _=>rfl|exactλ_ _ _ _ _ _ us hl=>PZ us hl λ_=>rfl|exactλ_ _ _ _ _ _ us hl=>MT us hl λ_ _ _=>rfl|exactλ_ _ _ _ _ _ us hl=>QA us hl λ_ _ _ _=>rfl|exactλ_ _ _ _ _ _ us hl=>YZ us hl λ_ _ _ _ _=>rfl)
theorem j5(d:b.F "is_made" Kd)(T:TX b)   : Le b :=
 W8 d lB (by ext) (λ_ _ _ _ _ _ _ hr=>(by
  unfold L4;exact(Zj (Yz (Te (Q3 hr.units) (Zm Zw (Zm Zw (Zm Zw (Z3 0) (Z4)) (Z3 1)) (Z4)) (Jb) (Ya _))))))
theorem lT(d:b.F "made" B7)(T:TX b) (a:Le b):dR b :=
 W8 d eH (by ext) (λ_ _ _ _ _ _ _ hr=>(by
  unfold WB;refine(Zj (Lg ?c0))
  case c0=>exact Tp (Z7 B7) [none,some 0] ["wire","graph"] rfl rfl (W2 T.b_range (L (Zx Vt T.b_len (L (Zm Zw (Z3 0) (Z4)) Z8)) Z8)) (λ_ _ _ _=>⟨(Zl 0 (by ext)),(X5 (Ea (Yh a hr.mono (L (Z6 1) (L (Z6 0) Z8))))),(Z6 0)⟩) (by decide)))
theorem nR(d:b.F "steps_of" S5)(T:TX b)   : Oc b :=
 W8 d kZ (by ext) (λ_ _ _ _ _ _ _ hr=>(by
  unfold H9;refine(Zj (Lg ?c0))
  case c0=>exact Tp (Z7 S5) [none,none,some 1,some 2] PU rfl rfl (cY T.b_enumerate (Zm Zw (Z3 0) (Z4))) (λ_ _ _ _=>⟨(Jp (n:=2) rfl (Y6 (Zl 0 (by ext)) (Y6 (Zl 1 (by ext)) Uq))),(X5 (Br.pt (Pl (Vx (Q3 hr.units) (Zm Zw (Z3 1) (Z4)) (Z3 2) (Ya _)) (Lb (Vx (Q3 hr.units) (Zm Zw (Z3 1) (Z4)) (Z3 3) (Ya _)))))),(Z6 0)⟩) (by decide)))
theorem oo(d:b.F "wire_of" Ki)(T:TX b)   : Kz b :=
 W8 d iv (by ext) (λ_ _ _ _ _ _ _ hr=>(by
  unfold Km;exact(Zj (Yz (Zs Zw (Zm Zw (Zm Zw (Z3 0) (Z4)) (Z3 1)) (Z4))))))
theorem mL(d:b.F "is_rise" Ku)(T:TX b)   : Fw b :=
 W8 d ov (by ext) (λ_ _ _ _ _ _ _ hr=>(by
  unfold Ks;exact(Zj (Yz (Zs Zw (Zm Zw (Zm Zw (Z3 0) (Z4)) (Z3 1)) (Z4))))))
theorem kg(d:b.F "takes_of" G7)(T:TX b)   : Sb b :=
 W8 d j2 (by ext) (λ_ _ _ _ _ _ _ hr=>(by
  unfold Gm;exact(Zj (Yz (Zs Zw (Zm Zw (Zm Zw (Z3 0) (Z4)) (Z3 1)) (Z4))))))
theorem eT(d:b.F "fills_of" G4)(T:TX b)   : Gp b :=
 W8 d eK (by ext) (λ_ _ _ _ _ _ _ hr=>(by
  unfold Gn;exact(Zj (Yz (Zs Zw (Zm Zw (Zm Zw (Z3 0) (Z4)) (Z3 1)) (Z4))))))
theorem mO(d:b.F "bits" VN)(T:TX b)   : Cb b :=
 W8 d No (by ext) (λ_ _ _ _ _ _ _ hr=>(by
  unfold WI;exact(Za (Zo 1 No.nd (Zy))
  (Za (Ve BD rfl (Ka (Z6 0)) (Zl 2 No.nd) (Zj (Zo 1 No.nd (Zi At (Z3 1) (Ze Er (Z4) (Z3 2))))))
  (Zj (Yz (Z6 1)))))))
theorem fc(d:b.F "has_one" Ke)(T:TX b)   : Fz b :=
 W8 d eF (by ext) (λ_ _ _ _ _ _ _ hr=>(by
  unfold Kx;exact(Zj (Yz (Te (Q3 hr.units) (Ze Dc (Ze RV (Z3 0) (Z3 1)) (Z4)) (Z4) (Ya _))))))
theorem ka(d:b.F "can" W')(T:TX b) (c:Cb b)(a:Sb b):VE b :=
 W8 d ZG (by ext) (λ_ _ _ _ _ _ _ hr=>(by
  unfold WC;exact(Za (Zo 3 ZG.nd (Zq c hr.mono (L (Zq a hr.mono (L (Z6 0) (L (Z6 2) Z8))) Z8)))
  (Zj (Yz (Te (Q3 hr.units) (Ze Dc (Zm Zw (Z3 1) (Z4)) (Z3 3)) (Z3 3) (Ya _)))))))
theorem f5(d:b.F "behind" Oe)(T:TX b)(i:b.M 1 "Broken" 1 (gW "way"))(j:b.M 1 "Crowded" 1 (gW "way"))(e:Kz b)(c:Cb b)(g:Fz b)(h:Fw b)(f:Gp b)(a:Sb b):dy b :=
 oP d E2 (by ext) (λ_ _ _ _ _ _ _ hr=>(by
  unfold D0;exact(Za (Zo 3 E2.nd (Zq e hr.mono (L (Z6 0) (L (Z6 2) Z8))))
  (Za (Ur (Vx (Q3 hr.units) (Yh g hr.mono (L (Zs Zw (Z3 1) (Z4)) (L (Z6 3) Z8))) (Yh h hr.mono (L (Z6 0) (L (Z6 2) Z8))) (Ya _)) (Zj (Cn i hr.mono rfl (L (T7 (Qg (L (Z6 2) Z8))) Z8))) V9)
  (Za (Zo 4 E2.nd (Zi Dc (Zm Zw (Z3 1) (Z4)) (WG (m:=true) YR (Yh c hr.mono (L (Zq a hr.mono (L (Z6 0) (L (Z6 2) Z8))) Z8)))))
  (Za (Zo 5 E2.nd (Zq c hr.mono (L (Zq f hr.mono (L (Z6 0) (L (Z6 2) Z8))) Z8)))
  (Za (Ur (Vx (Nf hr.units) (Ze Dc (Z3 4) (Z3 5)) (Z4) (Ya _)) (Zj (Cn j hr.mono rfl (L (T7 (Qg (L (Z6 2) Z8))) Z8))) V9)
  (Zj (Yz (Zu (L (Zi At (Z3 4) (Z3 5)) (L (Zi cQ (Zm Zw (Z3 1) (Z4)) (Ze Er (Z4) (Z3 3))) Z8))))))))))))
theorem mR(d:b.F "steps_at" Rn)(T:TX b) (c:VE b):Gr b :=
 W8 d lp (by ext) (λ_ _ _ _ _ _ _ hr=>(by
  unfold G5;refine(Zj (Lg ?c0))
  case c0=>exact Tp (Z7 Rn) [none,some 0,some 1] OG rfl rfl (W2 T.b_range (L (Zx Vt T.b_len (L (Zm Zw (Z3 0) (Z4)) Z8)) Z8)) (λ_ _ _ _=>⟨(Zl 0 (by ext)),(X5 (Ea (Yh c hr.mono (L (Z6 1) (L (Z6 2) (L (Z6 0) Z8)))))),(Z6 0)⟩) (by decide)))
theorem mF(d:b.F "way" UT)(T:TX b)   : ba b :=
 cb d Bx (by ext) (λ_ _ _ _ _ _ _ hr hd=>(by
  unfold UW;exact(Za (M5 2 Bx.nd (Qg Z8))
  (Za (Zo 3 Bx.nd (Z6 1))
  (Za (d7 BD (Vx pV (Zm Zw (Zm Zw (Z3 0) (Z3 3)) (Z4)) (VU (m:=true)) (Ya _)) (Za (Qf 2 CI CJ Q6 (L (Zs Zw (Zm Zw (Z3 0) (Z3 3)) (Z4)) Z8))
  (Zj (Zo 3 Bx.nd (Zs Zw (Zm Zw (Z3 0) (Z3 3)) (Z4))))))
  (Zj (Lg (jK (by rfl) T.b_list (by rfl) T.b_reversed (L (xo 2) Z8)))))))))
theorem nS(d:b.F "come_to" Kw)(T:TX b)(i:b.R 1 "Broken" 1 (gW "way"))(j:b.R 1 "Crowded" 1 (gW "way"))(a:dy b)(e:ba b):Fj b :=
 VT d fX (by ext) (λ_ _ _ _ _ _ _ hr=>(by
  unfold J8;exact(Zj (iS (known:=J') fB (λ_ _=>(Zj (iB (Pn a hr.mono (L (Z6 0) (L (Pi (m:=false) Mu (Zm Zw (Z3 1) (Z3 2)) Tn (To (Z4))) (L (Z6 3) Z8))))))) (λ_ _ hd=>(Zj (ZY i (hr.n.mono (by lia)).mark hd (L (T7 (TH RU (bc (m:=true) e (hr.n.mono (by lia)).mark hd.c (L (Z6 1) (L (Z6 2) Z8))) (Yi (Qg (L (Z6 3) Z8))))) Z8) (by intro z;cases z)))) (λ_ _ hd=>(Zj (ZY j (hr.n.mono (by lia)).mark hd (L (T7 (TH RU (bc (m:=true) e (hr.n.mono (by lia)).mark hd.c (L (Z6 1) (L (Z6 2) Z8))) (Yi (Qg (L (Z6 3) Z8))))) Z8) (by intro z;cases z)))) T.q_0 T.q_1))))
theorem jt(d:b.F "stands" Pp)(T:TX b)(e:b.M 1 "TooMany" 0 gZ)(a:Gr b)(c:Fj b):cR b :=
 VT d T4 (by ext) (λ_ _ _ _ _ _ _ hr=>(by
  unfold Pw;exact(Za (M5 2 T4.nd (Qg (L (Zu (L (Zs Zw (Z3 0) (Z4)) (L (Zs Zw (Z3 0) (Z4)) (L (VU (m:=false)) (L (VU (m:=false)) Z8))))) Z8)))
  (Za (kO 3 T4.nd rfl (DE rfl) (VL hr) (Qb (L (Zs Zw (Z3 0) (Z4)) (L (Zs Zw (Z3 0) (Z4)) Z8))) (Vy))
  (Za (Zo 4 T4.nd (Zy))
  (Za (d7 Ay (Vx dD (Z3 4) (Zx Vt T.b_len (L (xo 2) Z8)) (Ya _)) (Za (Zo 5 T4.nd (Zq a hr.mono (L (Z6 0) (L (Pi (m:=false) Mu (Zm Zw (xo 2) (Z3 4)) Tn (To (Z4))) Z8))))
  (Za (Ve Ay rfl (Ka (Z6 5)) (Zl 6 T4.nd) (Za (O9 7 T4.nd (eM c hr.mono (L (Z3 0) (L (xo 2) (L (Z3 4) (L (Z3 6) Z8))))))
  (Za (Ur (hF 3 (VL hr) (Z3 7)) (Zj lV) V9)
  (Za (Ur (Vx bw (Zx Vt T.b_len (L (xo 2) Z8)) (Z3 1) (Ya _)) (Zj (nK e hr.mono rfl)) V9)
  (Za (mm 3 (VL hr) (Z3 7) (Vy))
  (Zj (Qf 2 CI CJ Q6 (L (Zu (L (Zs Zw (Z3 7) (Z4)) (L (Zs Zw (Z3 7) (Z4)) (L (Z6 4) (L (Z6 6) Z8))))) Z8))))))))
  (Zj (hk 4 T4.nd rfl (DE rfl) (Zy))))))
  (Zj (L6 2))))))))
theorem ol(d:b.F "is_called" Jx)(T:TX b) (c:VE b)(a:Oc b):Lv b :=
 W8 d Cu (by ext) (λ_ _ _ _ _ _ _ hr=>(by
  unfold Do;refine(Zj (Yz (Up (ng rfl) T.b_any (L (Yi ?c0) Z8))))
  case c0=>exact Tp (Z7 Jx) [none,some 0,some 1] OG rfl rfl (Mg (Yh a hr.mono (L (Z6 0) (L (Z6 2) (L (Z6 3) Z8))))) (λ_ _ _ _=>⟨(Zl 0 (by ext)),Jn,(Zq c hr.mono (L (Z6 1) (L (Z6 2) (L (Z6 0) Z8))))⟩) (by decide)))
theorem kx(d:b.F "wants" WK)(T:TX b) (a:Lv b):c7 b :=
 W8 d k6 (by ext) (λ_ _ _ _ _ _ _ hr=>(by
  unfold Bt;exact(Za (Ur (Ea (Yh a hr.mono (L (Z6 0) (L (Z6 1) (L (Z6 2) (L (Vy) Z8)))))) (Zj (Yz (Zy))) V9)
  (Za (Ur (Ea (Yh a hr.mono (L (Z6 0) (L (Z6 1) (L (Z6 2) (L (Vy) Z8)))))) (Zj (Yz (WG (m:=false) nc (Z4)))) V9)
  (Zj (Yz (Zy)))))))
theorem lh(d:b.F "robs" WY)(T:TX b) (c:Cb b)(a:Sb b)(f:Gp b):YM b :=
 W8 d cg (by ext) (λ_ _ _ _ _ _ _ hr=>(by
  unfold Ch;exact(Za (Zo 3 cg.nd (Zi Dc (Yh c hr.mono (L (Zq a hr.mono (L (Z6 0) (L (Z6 1) Z8))) Z8)) (WG (m:=true) YR (Yh c hr.mono (L (Zq f hr.mono (L (Z6 0) (L (Z6 1) Z8))) Z8)))))
  (Zj (Yz (Te (Nf hr.units) (Ze Dc (Z3 3) (Yh c hr.mono (L (Zq a hr.mono (L (Z6 0) (L (Z6 2) Z8))) Z8))) (Z4) (Ya _)))))))
theorem Oa(d:b.F "touches_made" Jd)(T:TX b) (a:Le b)(e:Kz b):Sm b :=
 W8 d Ni (by ext) (λ_ _ _ _ _ _ _ hr=>(by
  unfold Jk;exact(Zj (Yz (jF (m:=false) (Yh a hr.mono (L (Z6 0) (L (Zq e hr.mono (L (Z6 0) (L (Z6 1) Z8))) Z8))) (oA (Zq a hr.mono (L (Z6 0) (L (Zq e hr.mono (L (Z6 0) (L (Z6 2) Z8))) Z8)))))))))
theorem n8(d:b.F "rivals" Oz)(T:TX b) (a:Sm b)(c:YM b):dz b :=
 W8 d Dv (by ext) (λ_ _ _ _ _ _ _ hr=>(by
  unfold Ix;exact(Za (M5 1 Dv.nd (Qg Z8))
  (Za (Ve BD rfl (W2 T.b_range (L (Zx Vt T.b_len (L (Zm Zw (Z3 0) (Z4)) Z8)) Z8)) (Zl 2 Dv.nd) (Zj (Ve BD rfl (W2 T.b_range (L (Zx Vt T.b_len (L (Zm Zw (Z3 0) (Z4)) Z8)) Z8)) (Zl 3 Dv.nd) (Zj (Ur (Br.pt (Pl (Vx (Nf hr.units) (Z3 2) (Z3 3) (Ya _)) (Pl (Ea (Yh a hr.mono (L (Z6 0) (L (Z6 2) (L (Z6 3) Z8))))) (Lb (Ea (Yh c hr.mono (L (Z6 0) (L (Z6 2) (L (Z6 3) Z8))))))))) (Zj (Qf 1 CI CJ Q6 (L (Zu (L (Z6 2) (L (Z6 3) Z8))) Z8))) V9)))))
  (Zj (L6 1))))))
theorem lJ(d:b.F "sound" Ci)(T:TX b)(g:b.M 1 "CalledOff" 3 (gC "way" "lost" "by"))(c:cR b)(f:dz b)(a:Gr b)(e:gL b):Ia b :=
 VT d Q4 (by ext) (λ_ _ _ _ _ _ _ hr=>(by
  unfold K6;exact(Za (O9 2 Q4.nd (Pn c hr.mono (L (Z6 0) (L (Z6 1) Z8))))
  (Za (Zo 3 Q4.nd (Zq f hr.mono (L (Z6 0) Z8)))
  (Za (Ve Ay rfl (L9 T.b_enumerate (Z6 2)) (Jp (n:=2) rfl (Y6 (Zl 4 Q4.nd) (Y6 (Zl 5 Q4.nd) Uq))) (Za (Zo 6 Q4.nd (Zq a hr.mono (L (Z6 0) (L (Pi (m:=false) Mu (Z3 5) Tn (To (Z4))) Z8))))
  (Zj (Ve Ay rfl (Ka (Z6 3)) (Jp (n:=2) rfl (Y6 (Zl 7 Q4.nd) (Y6 (Zl 8 Q4.nd) Uq))) (Zj (Ur (Br.pt (Pl (Vx (VM hr.units) (Z3 7) (Z3 6) (by rfl)) (Lb (Vx (VM hr.units) (Z3 8) (Z3 6) (by rfl))))) (Zj (Cn g hr.mono rfl (L (Zq e hr.mono (L (Z6 2) (L (Z6 4) Z8))) (L (Z6 8) (L (Z6 7) Z8))))) V9))))))
  (Zj (Yz (Z6 2))))))))
theorem mS(d:b.F "wants_of" Rz)(T:TX b) (a:c7 b):O3 b :=
 W8 d mb (by ext) (λ_ _ _ _ _ _ _ hr=>(by
  unfold Gh;refine(Zj (Lg ?c0))
  case c0=>exact Tp (Z7 Rz) [none,some 0,some 1] ["wire","graph","stand"] rfl rfl (Mg (Z3 2)) (λ_ _ _ _=>⟨(Zl 0 (by ext)),Jn,(Zq a hr.mono (L (Z6 1) (L (Z6 2) (L (Z6 0) Z8))))⟩) (by decide)))
theorem nL(d:b.F "unlike" Hd)(T:TX b)   : bV b :=
 W8 d k8 (by ext) (λ_ _ _ _ _ _ _ hr=>(by
  unfold Pj;refine(Zj (Lg ?c0))
  case c0=>exact Tp (Z7 Hd) [none,none,some 1,some 2] PH rfl rfl (cY T.b_enumerate (Z3 0)) (λ_ _ _ _=>⟨(Jp (n:=2) rfl (Y6 (Zl 0 (by ext)) (Y6 (Zl 1 (by ext)) Uq))),(X5 (Vx (Nf hr.units) (Zm Zw (Z3 2) (Z3 0)) (Zm Zw (Z3 3) (Z3 0)) (Ya _))),(Z6 1)⟩) (by decide)))
theorem Nb(d:b.F "clashes_among" Vs)(T:TX b) (e:dR b)(a:O3 b)(c:bV b):Sh b :=
 W8 d Wu (by ext) (λ_ _ _ _ _ _ _ hr=>(by
  unfold Qe;refine(Za (Zo 2 Wu.nd (Zq e hr.mono (L (Z6 0) Z8)))
  (Za (Kq 3 Wu.nd (Z7 Vs) [none,some 0,some 2] ["stand","graph","wires"] rfl rfl (Mg (Z3 1)) (λ_ _ _ _=>⟨(Zl 0 (by ext)),Jn,(Zq a hr.mono (L (Z6 1) (L (Pi (m:=false) Mu (Z3 0) Tn (To (Z4))) (L (Z6 2) Z8))))⟩) (by decide))
  (Za (M5 4 Wu.nd (Qg Z8))
  (Za (Ve BD rfl (W2 T.b_range (L (Zx Vt T.b_len (L (Z3 1) Z8)) Z8)) (Zl 5 Wu.nd) (Zj (Ve BD rfl (bY T.b_range (L (Ze Yf (Z3 5) (Z4)) (L (Zx Vt T.b_len (L (Z3 1) Z8)) Z8))) (Zl 6 Wu.nd) (Zj (Ur (Vx (Q3 hr.units) (Zm Zw (Zm Zw (Z3 1) (Z3 5)) (Z4)) (Zm Zw (Zm Zw (Z3 1) (Z3 6)) (Z4)) (Ya _)) (Zj (Qf 4 PySem.F.slot_list_extend PySem.F.type_list_extend hJ (L (T7 ?c0) Z8))) V9)))))
  (Zj (L6 4))))))
  case c0=>exact Tp (Z7 Vs) [none,some 5,some 6] ["wire","n","m"] rfl rfl (Mg (Yh c hr.mono (L (Z6 2) (L (Zs Zw (Z3 3) (Z3 5)) (L (Zs Zw (Z3 3) (Z3 6)) Z8))))) (λ_ _ _ _=>⟨(Zl 0 (by ext)),Jn,(Zu (L (Z6 1) (L (Z6 2) (L (Z6 0) Z8))))⟩) (by decide)))
theorem lG(d:b.F "clashes" Ko)(T:TX b) (a:Sh b)(c:Ia b):Kf b :=
 nh d kB (by ext) (λ_ _ _ _ _ _ _ hr=>(by
  unfold J6;exact(Zj (mW (mU a hr.mono (Z6 0) (Pn c hr.mono (L (Z6 0) (L (Z6 1) Z8))))))))
theorem jl(d:b.F "_law_mix" Ha)(T:TX b)   : Uv b :=
 W8 d Sy (by ext) (λ_ _ _ _ _ _ _ hr=>(by
  unfold Je;exact(Za (Zo 2 Sy.nd (Zi Yf (Ze Sz (Z4) (Z3 1)) (Z4)))
  (Za (Ur (Vx dD (Z3 1) (Zx Vt T.b_len (L (Z3 0) Z8)) (Ya _)) (Zj (Zo 2 Sy.nd (Zi Yf (Z3 2) (Ze Sz (Zm Zw (Z3 0) (Z3 1)) (Z4))))) V9)
  (Zj (Yz (Zi Wo (Ze Sz (Z3 2) (Z4)) (Z4))))))))
theorem ip(d:b.F "_law_word" D3)(T:TX b)   : Dn b :=
 W8 d Wg (by ext) (λ_ _ _ _ _ _ _ hr=>(by
  unfold M8;exact(Za (Zo 2 Wg.nd (Yo))
  (Za (Zo 3 Wg.nd (Zi Yf (Z4) (Ze Wo (Z3 0) (Z4))))
  (Za (Zo 4 Wg.nd (Zi Wo (Ze Wa (Z3 0) (Z4)) (Z3 3)))
  (Za (Zo 5 Wg.nd (Yo))
  (Za (Ve BD rfl (W2 T.b_range (L (Z3 3) Z8)) (Zl 6 Wg.nd) (Za (Zo 7 Wg.nd (Zy))
  (Za (Ur (Vx (Q3 hr.units) (Z3 6) (Z3 4) (Ya _)) (Zj (Zo 7 Wg.nd (Z6 1))) V9)
  (Zj (Zo 5 Wg.nd (Zi Yf (Z3 5) (Zm Zw (Z3 2) (Ze Wo (Ze Yf (Ze Yf (Ze Wa (Z3 0) (Z4)) (Ze Sz (Z4) (Z3 6))) (Ze Sz (Z4) (Z3 7))) (Z4)))))))))
  (Za (Ur (Vx (VM hr.units) (Z3 5) (Yi (Qg (L (Yo) (L (Yo) (L (Yo) (L (Yo) (L (Yo) Z8))))))) (by rfl)) (Zj (Zo 5 Wg.nd (Zi Yf (Vm Mu (Z3 5) (To (Z4)) Tn) (Jb)))) V9)
  (Zj (Yz (Z6 5)))))))))))
theorem C9(d:b.F "_law_order" Rg)(T:TX b) (a:Uv b):Io b :=
 W8 d Vw (by ext) (λ_ _ _ _ _ _ _ hr=>(by
  unfold Qs;exact(Za (M5 3 Vw.nd (Qg Z8))
  (Za (Ve BD rfl (W2 T.b_range (L (Z3 2) Z8)) (Zl 4 Vw.nd) (Za (Zo 5 Vw.nd (Zq a hr.mono (L (Z6 0) (L (Zi Yf (Z3 1) (Z3 4)) Z8))))
  (Za (Zo 6 Vw.nd (Zi Wo (Z3 5) (Ze Yf (Zx Vt T.b_len (L (xo 3) Z8)) (Z4))))
  (Za (Qf 3 HI HJ O5 (L (Z6 6) (L (Z6 4) Z8)))
  (Za (Zo 7 Vw.nd (Zi Wo (Ze Wa (Z3 5) (Z4)) (Ze F7 (Zx Vt T.b_len (L (xo 3) Z8)) (Z3 6))))
  (Zj (Qf 3 HI HJ O5 (L (Zi Yf (Ze Yf (Z3 6) (Z4)) (Z3 7)) (L (Z6 4) Z8)))))))))
  (Zj (L6 3))))))
theorem Xz(d:b.F "_law_arrows" Me)(T:TX b) (a:Uv b):El b :=
 W8 d Vi (by ext) (λ_ _ _ _ _ _ _ hr=>(by
  unfold Q0;exact(Za (M5 4 Vi.nd (Qg Z8))
  (Za (Ve BD rfl (W2 T.b_range (L (Z3 2) Z8)) (Zl 5 Vi.nd) (Za (Zo 6 Vi.nd (Zq a hr.mono (L (Z6 0) (L (Zi Yf (Z3 1) (Z3 5)) Z8))))
  (Za (Zo 7 Vi.nd (Zi Wo (Z3 6) (Z3 3)))
  (Za (Zo 8 Vi.nd (Zi Wo (Ze Wa (Z3 6) (Z4)) (Z3 3)))
  (Zj (Ur (Br.pt (Pl (Vx (Nf hr.units) (Z3 7) (Z3 8) (Ya _)) (Lb (Vx (bH hr.units) (Qb (L (Up (YT rfl) T.b_min (L (Z3 7) (L (Z3 8) Z8))) (L (Up (U' rfl) T.b_max (L (Z3 7) (L (Z3 8) Z8))) Z8))) (xo 4) (by rfl))))) (Zj (Qf 4 CI CJ Q6 (L (Zu (L (Up (YT rfl) T.b_min (L (Z3 7) (L (Z3 8) Z8))) (L (Up (U' rfl) T.b_max (L (Z3 7) (L (Z3 8) Z8))) Z8))) Z8))) V9))))))
  (Zj (L6 4))))))
theorem B3(d:b.F "_law_graph" V0)(T:TX b) (f:Io b)(a:Uv b)(e:El b)(c:Dn b):He b :=
 W8 d Zk (by ext) (λ_ _ _ _ _ _ _ hr=>(by
  unfold Qw;refine(Za (Zo 4 Zk.nd (Zq f hr.mono (L (Z6 0) (L (Z6 1) (L (Z6 2) Z8)))))
  (Za (Zo 5 Zk.nd (Zi Sz (Z4) (Z3 2)))
  (Za (Zo 6 Zk.nd (Zq a hr.mono (L (Z6 0) (L (Zi Yf (Z3 1) (Z3 2)) Z8))))
  (Za (Zo 7 Zk.nd (Zq e hr.mono (L (Z6 0) (L (Zi Yf (Ze Yf (Z3 1) (Z3 2)) (Z4)) (L (Z6 3) (L (Z6 5) Z8))))))
  (Za (Ur (Vx (Q3 hr.units) (Ze Wo (Z3 6) (Z4)) (Z4) (Ya _)) (Zj (Zo 7 Zk.nd (Zi Yf (Z3 7) (Yi ?c0)))) V9)
  (Za (Ve BD rfl (W2 T.b_range (L (Z3 2) Z8)) (Zl 8 Zk.nd) (Za (Zo 9 Zk.nd (eB (m:=false) EY HV PySem.F.type_list_index cB (Z3 4) (L (Z3 8) Z8)))
  (Za (Zo 10 Zk.nd (Zi Yf (Ze Yf (Z3 9) (Z4)) (eB (m:=true) EY HV PySem.F.type_list_index cB (Vm Mu (Z3 4) (To (Ze Yf (Z3 9) (Z4))) Tn) (L (Z3 8) Z8))))
  (Zj (Zo 7 Zk.nd (Zi Yf (Yi ?c1) (Yi (Qg (L (Zu (L (Z6 9) (L (Z6 10) Z8))) Z8)))))))))
  (Za (ZV 11 Zk.nd (Z7 V0) [none] ["_law_d"] rfl rfl (Mg (Z3 4)) (λ_ _ _ _=>⟨(Zl 0 (by ext)),Jn⟩) (by decide))
  (Za (ZV 12 Zk.nd (Z7 V0) [none] ["_law_d"] rfl rfl (Mg (Z3 4)) (λ_ _ _ _=>⟨(Zl 0 (by ext)),Jn⟩) (by decide))
  (Za (Zo 13 Zk.nd (Zy))
  (Za (Zo 14 Zk.nd (Zi Wo (Ze Wa (Z3 6) (Z4)) (Z4)))
  (Za (Ve BD rfl (Ka (Z6 7)) (Jp (n:=2) rfl (Y6 (Zl 15 Zk.nd) (Y6 (Zl 16 Zk.nd) Uq))) (Za (Au 12 (Z3 15) (λ_ _=>rfl) (L (Z6 14) Z8))
  (Za (Au 11 (Z3 16) (λ_ _=>rfl) (L (Z6 14) Z8))
  (Za (Au 12 (Z3 16) (λ_ _=>rfl) (L (Zi Yf (Z3 14) (Z4)) Z8))
  (Za (Au 11 (Z3 15) (λ_ _=>rfl) (L (Zi Yf (Z3 14) (Z4)) Z8))
  (Za (Zo 13 Zk.nd (Zi At (Z3 13) (Ze Er (Z4) (Ze Yf (Z3 14) (Z4)))))
  (Zj (Zo 14 Zk.nd (Zi Yf (Z3 14) (Z4))))))))))
  (Za (Zo 17 Zk.nd (Zi Wo (Ze Wa (Z3 6) (Z4)) (Ze Er (Z4) (Z3 2))))
  (Za (Zo 18 Zk.nd (Z6 17))
  (Za (M5 19 Zk.nd (Qg Z8))
  (Za (Ve BD rfl (L9 T.b_enumerate (Z6 4)) (Jp (n:=2) rfl (Y6 (Zl 20 Zk.nd) (Y6 (Zl 8 Zk.nd) Uq))) (Za (Qf 19 CI CJ Q6 (L (Zu (L (Z6 8) (L (Te (Q3 hr.units) (Ze Dc (Ze RV (Z3 18) (Z3 8)) (Z4)) (Z4) (Ya _)) (L (Vq (m:=false) Ub T.b_tuple (L (Yi (Cz Dy T.b_sorted (L (YH 11 (Z3 20) (λ_ _=>rfl)) Z8))) Z8)) (L (Vq (m:=false) Ub T.b_tuple (L (Yi (Cz Dy T.b_sorted (L (YH 12 (Z3 20) (λ_ _=>rfl)) Z8))) Z8)) Z8))))) Z8))
  (Zj (Zo 18 Zk.nd (Zi cQ (Z3 18) (Ze Er (Z4) (Z3 8)))))))
  (Za (Zo 21 Zk.nd (Zi Wo (Ze Wa (Z3 6) (Z4)) (Z3 5)))
  (Za (M5 19 Zk.nd (TH RU (Vm Mu (xo 19) (To (Z3 21)) Tn) (Vm Mu (xo 19) Tn (To (Z3 21)))))
  (Za (Zo 22 Zk.nd (Zi Wa (Z3 6) (Z4)))
  (Za (Kq 23 Zk.nd (Z7 V0) [none,some 22,some 0,some 1] bg rfl rfl (W2 T.b_range (L (Z3 2) Z8)) (λ_ _ _ _=>⟨(Zl 0 (by ext)),Jn,(Zu (L (Zq c hr.mono (L (Z6 1) (L (Z6 0) Z8))) (L (Zs Zw (Yi (Qg (L (Yo) (L (Yo) Z8)))) (Ze Wo (Ze Wa (Yh a hr.mono (L (Z6 2) (L (Zi Yf (Z3 3) (Z3 0)) Z8))) (Z4)) (Z4))) Z8)))⟩) (by decide))
  (Zj (Yz (Zu (L (Vq (m:=false) Ub T.b_tuple (L (Z3 23) Z8)) (L (Vq (m:=false) Ub T.b_tuple (L (xo 19) Z8)) (L (Z6 13) (L (Z6 17) Z8))))))))))))))))))))))))))
  case c0=>exact Tp (Z7 V0) [none,some 7] ["_law_k","_law_pairs"] rfl rfl (W2 T.b_range (L (Ze F7 (Z3 5) (Z4)) Z8)) (λ_ _ _ _=>⟨(Zl 0 (by ext)),(X5 (Vx (bH hr.units) (Qb (L (Z6 0) (L (Zi Yf (Z3 0) (Z4)) Z8))) (Z3 1) (by rfl))),(Zu (L (Z6 0) (L (Zi Yf (Z3 0) (Z4)) Z8)))⟩) (by decide)
  case c1=>exact Tp (Z7 V0) [none,some 9,some 10] ["_law_pair","_law_one","_law_two"] rfl rfl (Mg (Z3 7)) (λ_ _ _ _=>⟨(Zl 0 (by ext)),(X5 (Vx (Nf hr.units) (Z3 0) (Qb (L (Z6 1) (L (Z6 2) Z8))) (Ya _))),(Z6 0)⟩) (by decide)))
theorem F6(d:b.F "_law_choice" Wf)(T:TX b) (a:Uv b)(c:Dn b):Et b :=
 W8 d Zr (by ext) (λ_ _ _ _ _ _ _ hr=>(by
  unfold Q2;refine(Za (Zo 2 Zr.nd (Zi Yf (Z4) (Ze Wo (Yh a hr.mono (L (Z6 0) (L (Z6 1) Z8))) (Z4))))
  (Za (Zo 3 Zr.nd (Zi Yf (Z4) (Ze Wo (Ze Wa (Yh a hr.mono (L (Z6 0) (L (Z6 1) Z8))) (Z4)) (Z4))))
  (Za (Zo 4 Zr.nd (Zi Wa (Yh a hr.mono (L (Z6 0) (L (Z6 1) Z8))) (Z4)))
  (Za (Kq 5 Zr.nd (Z7 Wf) [none,some 4] ["_law_k","_law_word_here"] rfl rfl (W2 T.b_range (L (Z3 2) Z8)) (λ_ _ _ _=>⟨(Zl 0 (by ext)),Jn,(Zu (L (Zq c hr.mono (L (Z6 1) (L (Z6 0) Z8))) (L (Yo) Z8)))⟩) (by decide))
  (Za (Zo 5 Zr.nd (Zi Yf (Z3 5) (Yi ?c0)))
  (Za (M5 6 Zr.nd (Qg Z8))
  (Za (Zo 7 Zr.nd (Zy))
  (Za (Ve BD rfl (W2 T.b_range (L (Z3 2) Z8)) (Zl 8 Zr.nd) (Za (Zo 9 Zr.nd (Zq a hr.mono (L (Z6 0) (L (Zi Yf (Ze Yf (Z3 1) (Z4)) (Z3 8)) Z8))))
  (Za (Kq 10 Zr.nd (Z7 Wf) [none,some 2,some 3,some 9] TK rfl rfl (W2 T.b_range (L (Z3 3) Z8)) (λ_ _ _ _=>⟨(Zl 0 (by ext)),Jn,(Zi Yf (Z3 1) (Ze Wo (Ze Yf (Z3 3) (Z3 0)) (Z3 2)))⟩) (by decide))
  (Za (Kq 11 Zr.nd (Z7 Wf) [none,some 2,some 3,some 9] TK rfl rfl (W2 T.b_range (L (Z3 3) Z8)) (λ_ _ _ _=>⟨(Zl 0 (by ext)),Jn,(Zi Yf (Z3 1) (Ze Wo (Ze Yf (Ze Wa (Z3 3) (Z4)) (Z3 0)) (Z3 2)))⟩) (by decide))
  (Za (M5 12 Zr.nd (TH RU (Yi ?c1) (Yi ?c2)))
  (Za (Qf 12 HI HJ O5 (L (Zi Wo (Ze Wa (Z3 9) (Z4)) (Ze Yf (Zx Vt T.b_len (L (xo 12) Z8)) (Z4))) (L (Zu (L (Z6 8) (L (Vy) Z8))) Z8)))
  (Za (Zo 13 Zr.nd (Zy))
  (Zj (Ve BD rfl (L9 T.b_enumerate (Zi Yf (Yi (Qg (L (Zu (L (Z6 8) (L (Vy) Z8))) Z8))) (xo 12))) (Jp (n:=2) rfl (Y6 (Zl 14 Zr.nd) (Y6 (Zl 15 Zr.nd) Uq))) (Za (Zo 16 Zr.nd (Z6 7))
  (Za (Ur (Vx (Q3 hr.units) (Z3 14) (Zx Vt T.b_len (L (xo 12) Z8)) (Ya _)) (Zj (Zo 16 Zr.nd (Zy))) V9)
  (Za (Qf 6 CI CJ Q6 (L (Zu (L (Zs Zw (Z3 15) (Z4)) (L (Zs Zw (Z3 15) (Z4)) (L (Zu (L (Z6 13) Z8)) (L (Zu (L (Z6 16) Z8)) Z8))))) Z8))
  (Za (Zo 13 Zr.nd (Z6 16))
  (Zj (Zo 7 Zr.nd (Zi Yf (Z3 7) (Z4)))))))))))))))))
  (Zj (Yz (Zu (L (Vq (m:=false) Ub T.b_tuple (L (Z3 5) Z8)) (L (Vq (m:=false) Ub T.b_tuple (L (xo 6) Z8)) (L (Zy) (L (Zy) Z8)))))))))))))))
  case c0=>exact Tp (Z7 Wf) [none,some 4,some 2] ["_law_k","_law_word_here","_law_many"] rfl rfl (W2 T.b_range (L (Z3 3) Z8)) (λ_ _ _ _=>⟨(Zl 0 (by ext)),Jn,(Zu (L (Zq c hr.mono (L (Z6 1) (L (Zi Yf (Z3 2) (Z3 0)) Z8))) (L (Yo) Z8)))⟩) (by decide)
  case c1=>exact Tp (Z7 Wf) [none] ["_law_wire"] rfl rfl (Mg (Z3 10)) (λ_ _ _ _=>⟨(Zl 0 (by ext)),Jn,(Zu (L (Z6 0) (L (Vy) Z8)))⟩) (by decide)
  case c2=>exact Tp (Z7 Wf) [none] ["_law_wire"] rfl rfl (Mg (Z3 11)) (λ_ _ _ _=>⟨(Zl 0 (by ext)),Jn,(Zu (L (Z6 0) (L (Vy) Z8)))⟩) (by decide)))
theorem Ce(d:b.F "_law_wider" Qp)(T:TX b)   : Ir b :=
 W8 d Wr (by ext) (λ_ _ _ _ _ _ _ hr=>(by
  unfold S0;exact(Za (TQ (Z6 0) (Jp (n:=4) rfl (Y6 (Zl 5 Wr.nd) (Y6 (Zl 6 Wr.nd) (Y6 (Zl 7 Wr.nd) (Y6 (Zl 8 Wr.nd) Uq))))))
  (Za (Zo 9 Wr.nd (Zi Dc (Z3 8) (Ze F7 (Ze Er (Z4) (Z3 1)) (Z4))))
  (Za (Zo 8 Wr.nd (Zi At (Ze At (Z3 9) (Ze Er (Vq (m:=true) Aj T.b_int (L (Z3 3) Z8)) (Z3 1))) (Ze Er (Ze RV (Z3 8) (Z3 1)) (Ze Yf (Z3 1) (Z4)))))
  (Za (Kq 10 Wr.nd (Z7 Qp) [none,none,none,none,some 1] SD rfl rfl (Mg (Z3 6)) (λ_ _ _ _=>⟨(Jp (n:=4) rfl (Y6 (Zl 0 (by ext)) (Y6 (Zl 1 (by ext)) (Y6 (Zl 2 (by ext)) (Y6 (Zl 3 (by ext)) Uq))))),Jn,(Zu (L (Zi Yf (Z3 0) (Vq (m:=true) Aj T.b_int (L (VD (m:=true) bw (Z3 0) (Z3 4) (Ya _)) Z8))) (L (Z6 1) (L (Z6 2) (L (Z6 3) Z8)))))⟩) (by decide))
  (Zj (Yz (Zu (L (Zi Gq (Ze Gq (Vm Mu (Z3 5) Tn (To (Z3 1))) (Qb (L (Zu (L (Z6 4) (L (Z6 2) Z8))) Z8))) (Vm Mu (Z3 5) (To (Z3 1)) Tn)) (L (Vq (m:=false) Ub T.b_tuple (L (Z3 10) Z8)) (L (Z6 7) (L (Z6 8) Z8)))))))))))))
theorem Lc(d:b.F "_law_any_graph" Tk)(T:TX b) (a:Uv b)(c:Et b)(e:He b)(f:Ir b):R1 b :=
 W8 d Y5 (by ext) (λ_ _ _ _ _ _ _ hr=>(by
  unfold Uc;refine Za ?s0 ?_
  case s0=>exact(Zo 4 Y5.nd (Zq a hr.mono (L (Z6 0) (L (Z6 1) Z8))))
  refine Za ?s1 ?_
  case s1=>exact(Ur (Vx (Q3 hr.units) (Ze Wo (Z3 4) (Z4)) (Z4) (Ya _)) (Zj (Zo 5 Y5.nd (Zq c hr.mono (L (Z6 0) (L (Zi Yf (Z3 1) (Z4)) Z8))))) (Zj (Zo 5 Y5.nd (Zq e hr.mono (L (Z6 0) (L (Zi Yf (Z3 1) (Z4)) (L (Zi Yf (Z4) (Ze Wo (Ze Wa (Z3 4) (Z4)) (Z3 2))) (L (Zi Wo (Ze Wa (Z3 4) (Z4)) (Ze Yf (Z3 3) (Z4))) Z8))))))))
  refine Za ?s2 ?_
  case s2=>exact(Zo 6 Y5.nd (Zi Wa (Z3 4) (Z4)))
  refine Za ?s3 ?_
  case s3 =>
   exact(Ur (Vx (Q3 hr.units) (Ze Wo (Z3 6) (Z4)) (Z4) (Ya _)) (Za (Zo 7 Y5.nd (Zi Wo (Ze Wa (Z3 6) (Z4)) (Zx Vt T.b_len (L (Zm Zw (Z3 5) (Z4)) Z8))))
  (Zj (Zo 5 Y5.nd (Zu (L (Zs Zw (Z3 5) (Z4)) (L (Zi Gq (Vm Mu (Zm Zw (Z3 5) (Z4)) Tn (To (Z3 7))) (Vm Mu (Zm Zw (Z3 5) (Z4)) (To (Ze Yf (Z3 7) (Z4))) Tn)) (L (Zs Zw (Z3 5) (Z4)) (L (Zs Zw (Z3 5) (Z4)) Z8)))))))) V9)
  refine Za ?s4 ?_
  case s4=>exact(by
    refine Zo (x:="_law_many") 8 ?a1 ?a2 ?a3 ?a4 ?a5 ?a6
    case a1=>exact Y5.nd
    case a3=>rfl
    case a4=>exact(DE rfl)
    case a5=>kernel_rfl!
    case a6=>first | exact .inl rfl | exact .inr rfl
    case a2 =>
     exact(Zs Zw (Yi (Qg (by
      refine L ?q0 ?r0 ?h0
      case h0=>show _=_;kernel_rfl!
      case q0=>exact(Zy)
      refine L ?q1 ?r1 ?h1
      case h1=>show _=_;kernel_rfl!
      case q1=>exact(Zy)
      refine L ?q2 ?r2 ?h2
      case h2=>show _=_;kernel_rfl!
      case q2=>exact(Zy)
      refine L ?q3 ?r3 ?h3
      case h3=>show _=_;kernel_rfl!
      case q3=>exact(Zy)
      refine L ?q4 ?r4 ?h4
      case h4=>show _=_;kernel_rfl!
      case q4=>exact(Zy)
      refine L ?q5 ?r5 ?h5
      case h5=>show _=_;kernel_rfl!
      case q5=>exact(Zy)
      refine L ?q6 ?r6 ?h6
      case h6=>show _=_;kernel_rfl!
      case q6=>exact(Zy)
      refine L ?q7 ?r7 ?h7
      case h7=>show _=_;kernel_rfl!
      case q7=>exact(Zi F7 (Z4) (Zx Vt T.b_len (L (Zm Zw (Z3 5) (Z4)) Z8)))
      exact Z8))) (Ze Wo (Ze Wa (Z3 6) (Z4)) (Z4))))
  refine Za ?s5 ?_
  case s5 =>
   exact(Ve BD rfl (W2 T.b_range (L (Z3 8) Z8)) (Zl 9 Y5.nd) (Za (Zo 10 Y5.nd (Zi Wo (Ze Yf (Ze Wa (Z3 6) (Z4)) (Ze Sz (Z4) (Z3 9))) (Ze Yf (Zx Vt T.b_len (L (Zm Zw (Z3 5) (Z4)) Z8)) (Z4))))
  (Za (Zo 11 Y5.nd (Zs Zw (Yi (Qg (L (Yo) (L (Yo) Z8)))) (Ze Wo (Ze Yf (Ze Wa (Z3 6) (Z4)) (Z3 9)) (Z4))))
  (Zj (Zo 5 Y5.nd (Zq f hr.mono (L (Z6 5) (L (Z6 10) (L (Z6 11) (L (Te (Q3 hr.units) (Ze Wo (Ze Yf (Ze Wa (Z3 6) (Z4)) (Ze Wa (Z3 9) (Z4))) (Z4)) (Z4) (Ya _)) (L (Zs Zw (Jb) (Z3 9)) Z8)))))))))))
  exact(Zj (Yz (Z6 5)))))
theorem mI(d:b.F "_law_bits" Dm)(T:TX b)   : De b :=
 W8 d Qy (by ext) (λ_ _ _ _ _ _ _ hr=>(by
  unfold Dp;exact(Za (Zo 1 Qy.nd (Zy))
  (Za (Ve BD rfl (Ka (Z6 0)) (Zl 2 Qy.nd) (Zj (Zo 1 Qy.nd (Zi At (Z3 1) (Ze Er (Z4) (Z3 2))))))
  (Zj (Yz (Z6 1)))))))
theorem iL(d:b.F "_law_can" Gy)(T:TX b) (a:De b):Oy b :=
 W8 d Lx (by ext) (λ_ _ _ _ _ _ _ hr=>(by
  unfold Gv;exact(Za (Zo 3 Lx.nd (Zq a hr.mono (L (Zs Zw (Zm Zw (Zm Zw (Z3 0) (Z4)) (Z3 2)) (Z4)) Z8)))
  (Zj (Yz (Te (Q3 hr.units) (Ze Dc (Zm Zw (Z3 1) (Z4)) (Z3 3)) (Z3 3) (Ya _)))))))
theorem Cg(d:b.F "_law_wants" S6)(T:TX b) (a:Oy b):Ho b :=
 W8 d Ml (by ext) (λ_ _ _ _ _ _ _ hr=>(by
  unfold Sf;exact(Za (Ve BD rfl (L9 T.b_enumerate (Zs Zw (Z3 0) (Z4))) (Jp (n:=2) rfl (Y6 (Zl 3 Ml.nd) (Y6 (Zl 4 Ml.nd) Uq))) (Zj (Ur (Br.pt (Pl (Vx (Q3 hr.units) (Zm Zw (Z3 4) (Z4)) (Z3 2) (Ya _)) (Lb (Ea (Yh a hr.mono (L (Z6 0) (L (Z6 1) (L (Z6 3) Z8)))))))) (Zj (Yz (Zi F7 (Ze Sz (Z4) (Vq (m:=true) Aj T.b_int (L (Zm Zw (Z3 4) (Z4)) Z8))) (Z4)))) V9)))
  (Zj (Yz (Zy))))))
theorem Xr(d:b.F "_law_spoilt" Mh)(T:TX b)   : Eg b :=
 W8 d Wi (by ext) (λ_ _ _ _ _ _ _ hr=>(by
  unfold Tz;exact(Za (M5 2 Wi.nd (Aq B8 T.b_list (L (Zm Zw (Z3 0) (Z4)) Z8)))
  (Za (Zo 3 Wi.nd (Zi Wo (Z3 1) (Zx Vt T.b_len (L (xo 2) Z8))))
  (Za (Zo 4 Wi.nd (Zi Wo (Ze Wa (Z3 1) (Z4)) (Zx Vt T.b_len (L (xo 2) Z8))))
  (Za (TQ (Zs Zw (xo 2) (Z3 4)) (Jp (n:=4) rfl (Y6 (Zl 5 Wi.nd) (Y6 (Zl 6 Wi.nd) (Y6 (Zl 7 Wi.nd) (Y6 (Zl 8 Wi.nd) Uq))))))
  (Za (Af 2 (Z3 4) (Zu (L (Z6 5) (L (Z6 6) (L (Vq (m:=false) Ub T.b_tuple (L (Yi (Cv (by rfl) T.b_sorted (by rfl) T.b_set (L (Ze Gq (Z3 7) (Zm Zw (Zm Zw (xo 2) (Z3 3)) (Z4))) Z8))) Z8)) (L (Z6 8) Z8))))))
  (Zj (Yz (Zu (L (Zs Zw (Z3 0) (Z4)) (L (Vq (m:=false) Ub T.b_tuple (L (xo 2) Z8)) (L (Zs Zw (Z3 0) (Z4)) (L (Zs Zw (Z3 0) (Z4)) Z8))))))))))))))
theorem Pm(d:b.F "_law_lookers" Td)(T:TX b) (a:De b):Sn b :=
 W8 d Y4 (by ext) (λ_ _ _ _ _ _ _ hr=>(by
  unfold Tc;refine(Za (Zo 2 Y4.nd (Zs Zw (Z3 0) (Z4)))
  (Za (Ve BD rfl (Ka (Zs Zw (Z3 0) (Z4))) (Zl 3 Y4.nd) (Zj (Zo 2 Y4.nd (Zi At (Ze At (Z3 2) (Yh a hr.mono (L (Zs Zw (Z3 3) (Z4)) Z8))) (Yh a hr.mono (L (Zs Zw (Z3 3) (Z4)) Z8))))))
  (Za (Zo 4 Y4.nd (Zs Zw (Yi ?c0) (Ze Wo (Z3 1) (Z4))))
  (Za (M5 5 Y4.nd (Qg Z8))
  (Za (Ve BD rfl (L9 T.b_enumerate (Zs Zw (Z3 0) (Z4))) (Jp (n:=2) rfl (Y6 (Zl 6 Y4.nd) (Y6 (Zl 3 Y4.nd) Uq))) (Za (TQ (Z6 3) (Jp (n:=4) rfl (Y6 (Zl 7 Y4.nd) (Y6 (Zl 8 Y4.nd) (Y6 (Zl 9 Y4.nd) (Y6 (Zl 10 Y4.nd) Uq))))))
  (Za (Ur (Vx (Q3 hr.units) (Ze Dc (Ze RV (Ze Wa (Z3 1) (Z4)) (Z3 6)) (Z4)) (Z4) (Ya _)) (Za (Zo 9 Y4.nd (Vq (m:=false) Ub T.b_tuple (L (Yi (Cz Dy T.b_sorted (L (Ze Gq (Z3 9) (Qb (L (Z6 4) Z8))) Z8))) Z8)))
  (Zj (Zo 10 Y4.nd (Vq (m:=false) Ub T.b_tuple (L (Yi (Cz Dy T.b_sorted (L (Ze Gq (Z3 10) (Qb (L (Z6 4) Z8))) Z8))) Z8))))) V9)
  (Zj (Qf 5 CI CJ Q6 (L (Zu (L (Z6 7) (L (Z6 8) (L (Z6 9) (L (Z6 10) Z8))))) Z8))))))
  (Zj (Yz (Zu (L (Zs Zw (Z3 0) (Z4)) (L (Vq (m:=false) Ub T.b_tuple (L (xo 5) Z8)) (L (Zi At (Zm Zw (Z3 0) (Z4)) (Ze Er (Z4) (Z3 4))) (L (Zs Zw (Z3 0) (Z4)) Z8))))))))))))
  case c0=>exact Tp (Z7 Td) [none,some 2] ["_law_p","_law_there"] rfl rfl (W2 T.b_range (L (Z4) Z8)) (λ_ _ _ _=>⟨(Zl 0 (by ext)),(X5 (Vx (Q3 hr.units) (Ze Dc (Ze RV (Z3 1) (Z3 0)) (Z4)) (Z4) (Ya _))),(Z6 0)⟩) (by decide)))
theorem gq(d:b.F "_law_due" Gs)(T:TX b) (a:Ho b):Oj b :=
 W8 d U4 (by ext) (λ_ _ _ _ _ _ _ hr=>(by
  unfold Ge;exact(Za (M5 2 U4.nd (Qg Z8))
  (Za (Ve BD rfl (W2 T.b_range (L (Zx Vt T.b_len (L (Z3 1) Z8)) Z8)) (Zl 3 U4.nd) (Zj (Ve BD rfl (bY T.b_range (L (Ze Yf (Z3 3) (Z4)) (L (Zx Vt T.b_len (L (Z3 1) Z8)) Z8))) (Zl 4 U4.nd) (Zj (Ur (Vx (Q3 hr.units) (Zm Zw (Zm Zw (Z3 1) (Z3 3)) (Z4)) (Zm Zw (Zm Zw (Z3 1) (Z3 4)) (Z4)) (Ya _)) (Zj (Ve BD rfl (L9 T.b_enumerate (Zs Zw (Z3 0) (Z4))) (Jp (n:=2) rfl (Y6 (Zl 5 U4.nd) (Y6 (Zl 6 U4.nd) Uq))) (Za (Zo 7 U4.nd (Zq a hr.mono (L (Z6 0) (L (Zs Zw (Z3 1) (Z3 3)) (L (Z6 5) Z8)))))
  (Zj (Ur (Br.pt (Pl (Vx (Q3 hr.units) (Zm Zw (Z3 6) (Z4)) (Jb) (Ya _)) (Lb (Vx (Nf hr.units) (Z3 7) (Yh a hr.mono (L (Z6 0) (L (Zs Zw (Z3 1) (Z3 4)) (L (Z6 5) Z8)))) (Ya _))))) (Zj (Qf 2 CI CJ Q6 (L (Zu (L (Z6 3) (L (Z6 4) (L (Z6 5) Z8)))) Z8))) V9))))) V9)))))
  (Zj (L6 2))))))
theorem An(d:b.F "_law_alike" Rv)(T:TX b)   : Hy b :=
 W8 d Mi (by ext) (λ_ _ _ _ _ _ _ hr=>(by
  unfold Ra;exact(Za (Ur (Br.pt (RL (QU (Ea (UJ (m:=true) (T:="list") (Z3 0) (by rfl) T.b_isinstance (by ext) (by rfl) T.b_list (by ext)))) (RF (Vx (Nf hr.units) (Zx Vt T.b_len (L (Z3 0) Z8)) (Zx Vt T.b_len (L (Z3 1) Z8)) (Ya _))))) (Zj (Yz (Vy))) V9)
  (Za (Ve BD rfl (Ka (Z6 0)) (Zl 2 Mi.nd) (Za (Ur (Br.pt (RL (QU (Ea (UJ (m:=true) (T:="tuple") (Z3 2) (by rfl) T.b_isinstance (by ext) (by rfl) T.b_tuple (by ext)))) (RF (Vx (Nf hr.units) (Zx Vt T.b_len (L (Z3 2) Z8)) (Z4) (Ya _))))) (Zj (Yz (Vy))) V9)
  (Zj (Ve BD rfl (Ka (Z6 2)) (Zl 3 Mi.nd) (Zj (Ur (Br.pt (RL (QU (Ea (UJ (m:=true) (T:="int") (Z3 3) (by rfl) T.b_isinstance (by ext) (by rfl) T.b_int (by ext)))) (RF (Ea (UJ (m:=true) (T:="bool") (Z3 3) (by rfl) T.b_isinstance (by ext) (by rfl) T.b_bool (by ext)))))) (Zj (Yz (Vy))) V9))))))
  (Zj (Yz (Te (Q3 hr.units) (Z3 0) (Z3 1) (Ya _))))))))
theorem Xn(d:b.F "_law_turned" Mf)(T:TX b)   : Ed b :=
 W8 d T8 (by ext) (λ_ _ _ _ _ _ _ hr=>(by
  unfold Ma;exact(Za (M5 2 T8.nd (Aq B8 T.b_list (L (Zm Zw (Z3 0) (Z4)) Z8)))
  (Za (TQ (Zs Zw (xo 2) (Z3 1)) (Jp (n:=2) rfl (Y6 (Zl 3 T8.nd) (Y6 (Zl 4 T8.nd) Uq))))
  (Za (Af 2 (Z3 1) (Zu (L (Z6 3) (L (Zs Zw (Yi (Qg (L (Yo) (L (Yo) Z8)))) (Vq (m:=true) Aj T.b_int (L (VD (m:=true) (Q3 hr.units) (Z3 4) (Jb) (Ya _)) Z8))) Z8))))
  (Zj (Yz (Zi Gq (Qb (L (Vq (m:=false) Ub T.b_tuple (L (xo 2) Z8)) Z8)) (Vm Mu (Z3 0) (To (Z4)) Tn)))))))))
theorem Xx(d:b.F "_law_fields" Q1)(T:TX b)   : Ji b :=
 cb d Su (by ext) (λ_ _ _ _ _ _ _ hr hd=>(by
  unfold Ef;refine(Za (Zo 1 Su.nd (T7 (Qg (L (O' (m:=false) (tx:="Broken") (sb:=Md J' "Broken") (Z3 0) T.i_0 T.b_isinstance) (L (O' (m:=false) (tx:="Crowded") (sb:=Md J' "Crowded") (Z3 0) T.i_1 T.b_isinstance) (L (O' (m:=false) (tx:="CalledOff") (sb:=Md J' "CalledOff") (Z3 0) T.i_3 T.b_isinstance) (L (O' (m:=false) (tx:="TooMany") (sb:=Md J' "TooMany") (Z3 0) T.i_2 T.b_isinstance) Z8)))))))
  (Za (Ur (Br.pt (RL (Vx (Nf hr.units) (Zx (et hd.n) T.b_sum (L (Yi ?c0) Z8)) (Z4) (Ya _)) (RF (QU (Ea (eU (m:=true) (sb:=Fh J') (Z3 0) T.b_ValueError (by ext) (by ext) T.j_ValueError T.b_isinstance)))))) (Zj (Yz (Zu (L (Yo) Z8)))) V9)
  (Za (Ur (Ea (O' (m:=true) (tx:="CalledOff") (sb:=Md J' "CalledOff") (Z3 0) T.i_3 T.b_isinstance)) (Zj (Yz (Zu (L (Yo) (L (T7 (Aq B8 T.b_list (L (UA (m:=true) (okc:=Wx J') (Z6 0) T.f_way) Z8))) (L (UA (m:=false) (okc:=Wx J') (Z6 0) T.f_lost) (L (UA (m:=false) (okc:=Wx J') (Z6 0) T.f_by) Z8))))))) V9)
  (Za (Ur (Ea (O' (m:=true) (tx:="TooMany") (sb:=Md J' "TooMany") (Z3 0) T.i_2 T.b_isinstance)) (Zj (Yz (Zu (L (Yo) Z8)))) V9)
  (Zj (Yz (Zu (L (Zs Zw (Yi (Qg (L (Yo) (L (Yo) Z8)))) (Vq (m:=true) Aj T.b_int (L (O' (m:=true) (tx:="Crowded") (sb:=Md J' "Crowded") (Z3 0) T.i_1 T.b_isinstance) Z8))) (L (T7 (Aq B8 T.b_list (L (UA (m:=true) (okc:=Wx J') (Z6 0) T.f_way) Z8))) Z8)))))))))
  case c0=>exact nz (Z7 Q1) [none] ["_law_one"] rfl hd (io (Z3 1)) (λ_ _ _ _=>⟨(Zl 0 (by ext)),Jn,(Vq (m:=false) Aj T.b_int (L (Z3 0) Z8))⟩) (by decide)))
theorem l5(d:b.F "_law_told" Jw)(T:TX b) (a:Ji b)(c:Ia b)(e:Kf b):Lo b :=
 W8 d Ys (by ext) (λ_ _ _ _ _ _ _ hr=>(by
  unfold M7;exact(Za (Zo 3 Ys.nd (Zu (L (Yo) Z8)))
  (Za (ZC (i:=4) (sub:=Wx J') (λ_ _=>(Zj (Ur (Vx (Q3 hr.units) (Z3 0) (Z4) (Ya _)) (Zj (O9 3 Ys.nd (WU (Pn c hr.mono (L (Z6 1) (L (Z6 2) Z8)))))) (Zj (O9 3 Ys.nd (WU (Pn e hr.mono (L (Z6 1) (L (Z6 2) Z8))))))))) (λ_ _=>(c5 3 Ys.nd rfl (DE rfl) a (hr.n.mono (by lia)).mark (L (Z6 4) Z8))) T.k_8 Ys.nd rfl (DE rfl))
  (Zj (Yz (Z6 3)))))))
theorem Bf(d:b.F "_law_told" Jw)(T:TX b) (a:Ji b)(c:Ia b)(e:Kf b):K9 b :=
 W8 d Ys (by ext) (λ_ _ _ _ _ _ _ hr=>(by
  unfold Ql;exact(Za (Zo 3 Ys.nd (Zu (L (Yo) Z8)))
  (Za (ZC (i:=4) (sub:=Wx J') (λ_ _=>(Zj (Ur (Vx (Q3 hr.units) (Z3 0) (Z4) (Ya _)) (Zj (O9 3 Ys.nd (WU (Pn c hr.mono (L (Z6 1) (L (Z6 2) Z8)))))) (Zj (kP 3 Ys.nd (jw e hr.mono (L (Z6 1) (L (Z6 2) Z8)))))))) (λ_ _=>(c5 3 Ys.nd rfl (DE rfl) a (hr.n.mono (by lia)).mark (L (Z6 4) Z8))) T.k_8 Ys.nd rfl (DE rfl))
  (Zj (nl 3))))))
theorem C7(d:b.F "_law_right" Ry)(T:TX b) (e:Lo b)(a:Hy b)(f:Oj b)(c:K9 b):Hn b :=
 W8 d Mc (by ext) (λ_ _ _ _ _ _ _ hr=>(by
  unfold Rt;exact(Za (Zo 2 Mc.nd (Zq e hr.mono (L (Zy) (L (Z6 0) (L (Z6 1) Z8)))))
  (ft 3 Mc.nd c hr.mono (L (Zy) (L (Z6 0) (L (Z6 1) Z8)))
  (cn (Br.pt (RL (Vx (Nf hr.units) (Zm Zw (Z3 2) (Z4)) (Jb) (Ya _)) (RF (Vx (Nf hr.units) (Zm Zw (Z3 3) (Z4)) (Jb) (Ya _))))) (Te (Q3 hr.units) (Z3 3) (Z3 2) (Ya _))
  (cn (QU (Ea (Yh a hr.mono (L (Zs Zw (Z3 3) (Z4)) (L (Zq f hr.mono (L (Z6 0) (L (Zs Zw (Z3 2) (Z4)) Z8))) Z8))))) (Vy)
  (ms 3 (L (Zu (L (Zy) (L (Zy) (L (Zy) Z8)))) Z8))))))))
theorem jI{f:A2}(d:MJ b.K "law" "law" Ei f fd)(T:TX b) (a:Uv b)(e:R1 b)(i:Ed b)(h:Sn b)(c:Ia b)(j:Eg b)(k:Hn b)(hl:∀ ns:Z Int,ns.length<=63->ZX [.lst (ns.map .int)]=.ok (.bl true)):LN b.P b.w b.K b.mg b.base Eu 10 f fd NI (RN b.K) :=
 nB (N:=dn) (ps:=NI) (st:=Ei) (g:=UD) d Dk rfl (λ_ _ _ _ _ _ hr=>(by
  unfold UD;exact(Za (Zo 1 Dk.nd (Zq a hr.mono (L (Z6 0) (L (Zy) Z8))))
  (Za (Zo 2 Dk.nd (Zq e hr.mono (L (Z6 0) (L (Zy) (L (Zy) (L (Zy) Z8))))))
  (Za (Ur (Vx (Q3 hr.units) (Ze Wo (Ze Wa (Z3 1) (Z4)) (Z4)) (Z4) (Ya _)) (Zj (Zo 2 Dk.nd (Zq h hr.mono (L (Z6 2) (L (Zi Wa (Z3 1) (Z4)) Z8))))) V9)
  (Za (Zo 3 Dk.nd (Up Vt T.b_len (L (kL (m:=true) c hr.mono (L (Z6 2) (L (Zy) Z8))) Z8)))
  (Za (Zo 4 Dk.nd (Zs Zw (Yi (Qg (L (Zy) (L (Zy) (L (Z6 3) (L (Up (U' rfl) T.b_max (L (Z4) (L (Ze F7 (Z3 3) (Z4)) Z8))) Z8)))))) (Ze Wo (Z3 1) (Z4))))
  (Za (Zo 5 Dk.nd (Zq i hr.mono (L (Z6 2) (L (Zi Wo (Ze Wa (Z3 1) (Z4)) (Zx Vt T.b_len (L (Zm Zw (Z3 2) (Z4)) Z8))) Z8))))
  (Za (Ve BD rfl (Ka (T7 (Qg (L (Z6 2) (L (Z6 5) (L (Zq j hr.mono (L (Z6 2) (L (Zi Wa (Z3 1) (Z4)) Z8))) (L (Z6 2) Z8))))))) (Zl 6 Dk.nd) (Zj (Ur (QU (Ea (Yh k hr.mono (L (Z6 6) (L (Z6 4) Z8))))) (Zj (Yz (Vy))) V9)))
  (Zj (Yz (Vy)))))))))))) hl
end
end K41
variable{u:L2.Ev->C1 Bool}{d0 D:L2.Dat}{G:Z L2.Dat->L2.Rs}{ah:Nat}{rt:L2.Ev->L2.Fl}
namespace L2
open PySem PySem.Spec PyProof.Rows
def Gd(r:Fl)(N:Ev->Prop)(R:Dat->Prop):Prop:=match r with
 | .next e=>N e
 | .ret d=>R d
 | _=>False
structure Go (r:Fl) (N:Ev->Prop) (R:Dat->Prop):Prop where
 of:Gd r N R
section
variable{g:Ev->Fl}{d:Dat}
theorem Go.mono{N':Ev->Prop}{c:Dat->Prop}(q:Go r N R)(hN:∀ e,N e->N' e)(hR:∀ d,R d->c d):Go r N' c:=by
 cases r with
 | next e=>exact⟨hN e q.of⟩
 | ret d=>exact⟨hR d q.of⟩
 | _=>exact q.of.elim
theorem W9(q:N env):Go (Ug env) N R:=⟨q⟩
theorem Z9(q:Go (g env) (λe=>Go (h e) N R) R):Go (Zc g h env) N R:=by
 unfold Zc;cases e:g env with
 | next e'=>rw[e] at q;exact q.of
 | ret d=>rw[e] at q;exact⟨q.of⟩
 | _=>rw[e] at q;exact q.of.elim
theorem Zg(e:f env=some d)(q:N (env.set i (.fz d))):Go (Zt i f env) N R:=by unfold Zt;rw[e];exact⟨q⟩
theorem Tf(e:fs env=some ds)(q:N (env.set i (.ow ds))):Go (Sk i fs env) N R:=by unfold Sk;rw[e];exact⟨q⟩
theorem Yb(e:f env=some d)(q:R d):Go (W4 f env) N R:=by unfold W4;rw[e];exact⟨q⟩
theorem Dz(e:env[i]?=some (.ow ds))(q:R (.lst ds)):Go (En i env) N R:=by unfold En;rw[e];exact⟨q⟩
theorem oH(e:t env=some true)(q:Go (g env) N R):Go (J9 t g h env) N R:=by unfold J9;rw[e];exact q
theorem Cj(e:t env=some false)(q:Go (h env) N R):Go (J9 t g h env) N R:=by unfold J9;rw[e];exact q
theorem U6{b:Bool}(e:t env=some b)(q1:b=true->Go (g env) N R)(q2:b=false->Go (h env) N R):Go (J9 t g h env) N R:=by
 cases b with
 | true=>exact oH e (q1 rfl)
 | false=>exact Cj e (q2 rfl)
theorem C4(e:f env=some d)(e2:gg d env=some env')(q:N env'):Go (OT f gg env) N R:=by
 unfold OT;rw[e];dsimp only[Option.bind];rw[e2];exact⟨q⟩
theorem Uk{F:Z Dat->Z Dat->C1 (Z Dat)}{ds':Z Dat}(e:env[i]?=some (.ow ds))(e2:fs env=some as)(e3:F ds as=some ds')(q:N (env.set i (.ow ds'))):Go (Q9 i F fs env) N R:=by
 unfold Q9;rw[e];dsimp only;rw[e2];dsimp only[Option.bind];rw[e3];exact⟨q⟩
theorem bj(P:Nat->Ev->Prop):∀ (ds:Z Dat) (k:Nat) (env:Ev),P k env->(∀ i d e,ds[i]?=some d->P (k+i) e->∃ e1,gg d e=some e1/\Go (g e1) (P (k+i+1)) R)->(∀ e,P (k+ds.length) e->N e)->Go (Nk gg g ds env) N R
 | [],k,env,h0,_,hN=>⟨hN env h0⟩
 | d::ds,k,env,h0,hs,hN=>by
  obtain⟨e1,a1,a2⟩:=hs 0 d env rfl h0;rw[Nk,a1];dsimp only;cases e:g e1 with
  | next e' =>
   rw[e] at a2;exact bj P ds (k+1) e' a2.of (λi d e hi hp=>by
    have:=hs (i+1) d e (by simpa using hi) (by rw[show k+(i+1)=k+1+i by lia];exact hp);rw[show k+1+i+1=k+(i+1)+1 by lia];exact this) (λe hp=>hN e (by rw[BS,show k+(ds.length+1)=k+1+ds.length by lia];exact hp))
  | ret d'=>rw[e] at a2;exact⟨a2.of⟩
  | _=>rw[e] at a2;exact a2.of.elim
theorem Wq(P:Nat->Ev->Prop)(e:src env=some ds)(h0:P 0 env)(hs:∀ i d e,ds[i]?=some d->P i e->∃ e1,gg d e=some e1/\Go (g e1) (P (i+1)) R)(hN:∀ e,P ds.length e->N e):Go (Uf src gg g env) N R:=by
 unfold Uf;rw[e];exact bj P ds 0 env h0 (λi d e hi hp=>by simpa using hs i d e hi (by simpa using hp)) (λe hp=>hN e (by simpa using hp))
theorem Go.ne(q:Go r N R):r≠.no:=λz=>by rw[z] at q;exact q.of
theorem kT(W:Nat->Ev->Prop)(h0:W n env)(hs:∀ n e,W n e->(t e=some false/\N e)\/(t e=some true/\Go (g e) (λe'=>∃ m,m<n/\W m e') R)):Go (D4 t g env) N R:=by
 have aj:∀ n e,W n e->Go (Vj t g (n+1) e) N R:=by
  intro n;induction n using strongRecOn with
  | _ n ih =>
   intro e hw;rcases hs n e hw with⟨a,b⟩ | ⟨a,b⟩
   .rw[Vj,a];exact⟨b⟩
   .rw[Vj,a]
    dsimp only;cases J:g e with
    | next e' =>
     rw[J] at b;obtain⟨m,hm,f⟩:=b.of;have q:=ih m hm e' f;dsimp only;have:=Uy (n - (m+1)) q.ne;rw[show m+1+(n - (m+1))=n by lia] at this;rw[this];exact q
    | ret d=>rw[J] at b;exact⟨b.of⟩
    | _=>rw[J] at b;exact b.of.elim
 have q:=aj n env h0;rw[Fc q.ne];exact q
theorem Y9{p:Nat}(hp:ds.length=p)(q:Go (g (Ue n ds)) (λ_=>R .non) R):∃ d,Yk n p g ds=.ok d/\R d:=by
 unfold Yk;rw[AE hp];cases e:g (Ue n ds) with
 | next e'=>rw[e] at q;exact⟨_,rfl,q.of⟩
 | ret d=>rw[e] at q;exact⟨_,rfl,q.of⟩
 | _=>rw[e] at q;exact q.of.elim
end
variable{z:α}{Lq_:Nat}
theorem Ud{d:Dat}(h:(rng lo n)[i]?=some d):i<n/\d=.int (lo+i):=by
 unfold rng at h;rw[AM] at h;by_cases hi:i<n
 .rw[HL hi] at h
  exact⟨hi,(BI h).symm⟩
 .rw[EJ (by simpa using hi)] at h
  cases h
theorem W3(h:fs env=some [.int n])(hn:n<=100000):U1 fs env=some (rng 0 n):=by
 unfold U1;rw[h];dsimp only;rw[AE ⟨by lia,by lia,by rw[DQ];simp;lia⟩,BR]
theorem Hw{i:Int}(h:PB i j):Gi (.int i) (.int j)=some (.int (i*j)):=AE h
theorem cD{i:Int}(h:0<j):Vc (.int i) (.int j)=some (.int (i % j)):=AE h
theorem gQ{i:Int}(h:RM i j):Wj (.int i) (.int j)=some (.int (i / j)):=AE h
theorem Z5{F:Dat->Dat->C1 α}{g:Zzu}{y:Dat}(h1:f env=some x)(h2:g env=some y)(h3:F x y=some z):dO F f g env=some z:=by unfold dO;rw[h1,h2];exact h3
theorem Yn{F:Z Dat->C1 α}(h1:fs env=some xs)(h3:F xs=some z):dF F fs env=some z:=by unfold dF;rw[h1];exact h3
theorem Z2(h1:f env=some x)(h2:fs env=some xs):O f fs env=some (x::xs):=by unfold O;rw[h1,h2];rfl
theorem Zh{d:Dat}(h1:fs env=some xs)(h2:F xs=.ok d):Y3 F fs env=some d:=by unfold Y3;rw[h1];show WX (F xs)=_;rw[h2];rfl
theorem We{b:Bool}(h:f env=some (.bl b)):dB f env=some b:=by unfold dB;rw[h]
theorem oW(z:Str)(ws:Z Str):(ws.map Dat.str).any (λy=>Si y (.str z))=decide (z∈ws):=by
 induction ws with
 | nil=>simp
 | cons w ws ih =>
  rw[CF,HD,ih];have:Si (.str w) (.str z)=(w==z):=by unfold Si;rfl
  rw[this];by_cases e:w=z
  .subst e;simp
  .have e':(w==z)=false:=by simpa using e
   have e2:¬ z=w:=λq=>e q.symm
   rw[e'];simp[e2]
theorem YL(n:Nat)(z:Str):pd n (.str z)=true:=by cases n<;>rfl
theorem pK(ws:Z Str):(ws.map Dat.str).all (pd 20)=true:=by
 induction ws with
 | nil=>rfl
 | cons w ws ih=>rw[CF,List.all_cons,ih,YL];rfl
theorem lH(z:Str)(ws:Z Str):NU (.str z) (.lst (ws.map .str))=some (decide (z∈ws)):=by
 unfold NU;dsimp only;rw[pK,YL,Bool.and_self,AE rfl,oW]
theorem f'(z:Str)(ws:Z Str):NY (.str z) (.lst (ws.map .str))=some (.bl (decide (z∈ws))):=by unfold NY;rw[lH];rfl
theorem Ri{a b:Bool}(h1:t env=some a)(h2:a=true->u env=some b):Ec t u env=some (a&&b):=by
 unfold Ec;rw[h1];cases a with
 | false=>rfl
 | true=>exact h2 rfl
theorem R0{F:Dat->C1 Int->C1 Int->C1 Dat}{l h:Ev->C1 (C1 Int)}{z:Dat}{a b:C1 Int}(h1:f env=some x)(h2:l env=some a)(h3:h env=some b)(h4:F x a b=some z):dS F f l h env=some z:=by
 unfold dS;rw[h1,h2,h3];exact h4
theorem Vd{i:Int}(h:f env=some (.int i)):Tb f env=some (some i):=by unfold Tb;rw[h]
theorem Uo{j:Nat}(h:xs[j]?=some x):Yq (.lst xs) (.int j)=some x:=Iv h
theorem Ru{j:Nat}(h:xs[j]?=some x):Yq (.tup xs) (.int j)=some x:=Iv h
theorem m7(x y:Dat)(h0:0<=j)(h1:j<2):Yq (.lst [x,y]) (.int j)=some (if j=1 then y else x):=by
 rcases(show j=0\/j=1 by lia) with rfl | rfl<;>rfl
theorem Y0(h:fs env=some xs)(hl:Nat.ble xs.length 1000=true:=by rfl):Yt fs env=some (.tup xs):=by unfold Yt;rw[h];exact AE (Nat.le_of_ble_eq_true hl)
theorem Uz{d:Dat}(h:ds.length<=1000):Wz ds [d]=some (ds++[d]):=AE (EL h (by decide))
abbrev Jh(ns:Z Int):Dat:=.lst (ns.map .int)
abbrev Ju:Str:="abcdefghijklmnopqrstuvwxyz"
theorem Bz:cl Ju=List.range' 97 26:=by ext
theorem kK(h0:0<=j)(h1:j<26):Fp (cl Ju) j=some (97+j.toNat):=by
 obtain⟨n,rfl⟩:∃ n:Nat,j=n:=⟨j.toNat,(Int.toNat_of_nonneg h0).symm⟩;refine Iv ?_;rw[Bz,List.getElem?_range' (by lia)];simp
theorem mG(h0:0<=j)(h1:j<26):Yq (.str Ju) (.int j)=some (.str ⟨#[97+j.toNat]⟩):=by
 show(Fp (cl Ju) j).map _=_;rw[kK h0 h1];rfl
theorem XX{x:Str}(h:x.length+y.length<=1000):Ym (.str x) (.str y)=some (.str (x++y)):=AE (BC h (by decide))
theorem Hl{b:Bool}(h:f env=some (.bl b)):dT f env=some b:=by unfold dT;rw[h];rfl
theorem iQ{b:Bool}(h:t env=some b):Dd t env=some (!b):=by unfold Dd;rw[h];rfl
theorem Ws{r:Rs}(h:∃ d,r=.ok d/\d=d0):r=.ok d0:=by obtain⟨d,e,rfl⟩:=h;exact e
theorem gS(i:Str):Mq (.str i) (.str i)=some (.bl true):=by unfold Mq;rw[AE (by rfl)];unfold Si;simp
theorem Wk{g:Zzv}(h:g env=some ds):dL g env=some (.lst ds):=by unfold dL;rw[h];rfl
theorem W0{fs:Z (C1 Nat)}(h1:src env=some xs)(h2:Tl fs env=env')(h3:Wn g t f env' xs=some ys):Vk src fs g t f env=some ys:=by
 unfold Vk;rw[h1,h2];exact h3
theorem Ic(h:f env=some (.tup xs)):Uw f env=some xs:=by unfold Uw;rw[h]
theorem dE(h:f env=some (.tup xs)):E8 f env=some (Qx 0 xs):=by unfold E8;rw[Ic h];rfl
theorem Vv(D:α->Dat)(y:α->Dat):∀ (xs:Z α),(∀ x∈xs,∃ e1,g (D x) env=some e1/\t e1=some true/\f e1=some (y x))->Wn g t f env (xs.map D)=some (xs.map y)
 | [],_=>rfl
 | x::xs,h=>by
  obtain⟨e1,a1,a2,a3⟩:=h x AX;have ih:=Vv D y xs λz hz=>h z (AR _ hz)
  rw[CF,Wn,a1];dsimp only[Option.bind];rw[a2];dsimp only;rw[AE rfl,a3];dsimp only;rw[ih];rfl
theorem eq_made(b:Bool):Mq (.str (if b then "made" else "given")) (.str "made")=some (.bl b):=by
 cases b
 .show Mq (.str "given") (.str "made")=_
  unfold Mq;rw[AE (by rfl)];unfold Si;rw[show(("given" : Str)=="made")=false by ext]
 .exact gS _
theorem VZ(i j:Bool):Mq (.bl i) (.bl j)=some (.bl (i==j)):=rfl
theorem La(a b:Nat):Builtin.bitOr (a:Int) (b:Int)=((a ||| b:Nat):Int):=by
 unfold Builtin.bitOr Builtin.bitAnd Builtin.bitNot;have h1:decide (0<=-(a:Int) - 1)=false:=by simp;lia
 have h2:decide (0<=-(b:Int) - 1)=false:=by simp;lia
 rw[h1,h2];dsimp only;rw[show(-(-(a:Int) - 1) - 1).toNat=a by lia,show(-(-(b:Int) - 1) - 1).toNat=b by lia];lia
theorem Rx(a b:Nat):Builtin.bitAnd (a:Int) (b:Int)=((a &&& b:Nat):Int):=by
 unfold Builtin.bitAnd;rw[show decide (0<=(a:Int))=true by simp,show decide (0<=(b:Int))=true by simp];simp
def K'(ps:Z Nat):Nat:=ps.foldl (λa p=>a ||| 2^p) 0
theorem kU(ps:Z Nat):∀ (a j:Nat),(ps.foldl (λa p=>a ||| 2^p) a).testBit j=(a.testBit j||decide (j∈ps)):=by
 induction ps with
 | nil=>intro a j;simp
 | cons p ps ih =>
  intro a j;rw[List.foldl_cons,ih,DY,DM];by_cases h:j=p
  .subst h;simp
  .have h':¬ p=j:=λe=>h e.symm
   simp[h,h']
theorem Ww(ps:Z Nat)(j:Nat):(K' ps).testBit j=decide (j∈ps):=by unfold K';rw[kU];simp
theorem oq(ps:Z Nat):(ps.map λp:Nat=>(p:Int)).map Dat.int=ps.map λp:Nat=>Dat.int (p:Int):=by rw[FB];rfl
abbrev Zd(ps:Z Nat):Z Dat:=(ps.map λp:Nat=>(p:Int)).map Dat.int
theorem OI(p:Nat)(hp:p<=1000):Gg (.int 1) (.int (p:Int))=some (.int ((2^p:Nat):Int)):=by
 have:Gg (.int 1) (.int (p:Int))=some (.int (1*2^((p:Int)).toNat)):=AE ⟨by lia,by lia,by decide⟩;rw[this,BR,Int.one_mul];congr 2
theorem bR(n:Nat)(i:Int):pd n (.int i)=true:=by cases n<;>rfl
theorem pd_nats(ps:Z Nat):(Zd ps).all (pd 20)=true:=DH.mpr λx hx=>by
 obtain⟨i,_,rfl⟩:=CS.mp hx;exact bR 20 i
theorem oF(p:Nat)(ps:Z Nat):NU (.int (p:Int)) (.lst (Zd ps))=some (decide (p∈ps)):=by
 unfold NU;dsimp only;rw[pd_nats,bR,Bool.and_self,AE rfl];congr 1
 rw[DW,FQ,BU];constructor
 .rintro⟨x,hx,he⟩
  obtain⟨i,hi,rfl⟩:=CS.mp hx;obtain⟨q,hq,rfl⟩:=CS.mp hi;have:((q:Int)==(p:Int))=true:=by unfold Si at he;exact he
  have:q=p:=by have h9:=eq_of_beq this;lia
  exact this▸hq
 .intro h
  refine⟨.int (p:Int),GI (GI h),?_⟩;unfold Si;simp
theorem br(h:∀ p∈ps,p<k):K' ps<2^k:=Nat.lt_pow_two_of_testBit _ λi hi=>by
 rw[Ww];apply AF;intro hm;have:=h i hm;lia
theorem X3(a b:Nat):Builtin.bitXor (a:Int) (b:Int)=((a ^^^ b:Nat):Int):=by
 unfold Builtin.bitXor;rw[La,Rx];have aj:∀ (x y:Nat),x ||| y=(x ^^^ y)+(x &&& y):=by
  intro x;induction x using strongRecOn with
  | _ x ih =>
   intro y;by_cases hx:x=0
   .subst hx;simp
   .have h:=ih (x / 2) (by lia) (y / 2)
    have e1:x ||| y=2*(x / 2 ||| y / 2)+(x ||| y) % 2:=by rw[<- Nat.or_div_two];lia
    have e2:x ^^^ y=2*(x / 2 ^^^ y / 2)+(x ^^^ y) % 2:=by rw[<- Nat.xor_div_two];lia
    have e3:x &&& y=2*(x / 2 &&& y / 2)+(x &&& y) % 2:=by rw[<- Nat.and_div_two];lia
    have e4:(x ||| y) % 2=(x ^^^ y) % 2+(x &&& y) % 2:=by
     have S:∀ z:Nat,z % 2=(z.testBit 0).toNat:=λz=>by rw[Nat.testBit_zero];by_cases q:z % 2=1<;>simp[q];lia
     rw[S,S,S,DY,IC,EE];cases x.testBit 0<;>cases y.testBit 0<;>rfl
    lia
 have:=aj a b;lia
theorem Gu(a b:Nat):∃ c:Nat,Builtin.bitAnd (a:Int) (-(b:Int) - 1)=(c:Int)/\∀ j,c.testBit j=(a.testBit j&&!b.testBit j):=by
 refine⟨a ^^^ (a &&& b),?_,λj=>by rw[IC,EE];cases a.testBit j<;>cases b.testBit j<;>rfl⟩;have hx:=X3 a (a &&& b);unfold Builtin.bitXor at hx;rw[La,Rx] at hx;have e1:a ||| (a &&& b)=a:=CT λj=>by rw[DY,EE];cases a.testBit j<;>cases b.testBit j<;>rfl
 have e2:a &&& (a &&& b)=a &&& b:=CT λj=>by rw[EE,EE];cases a.testBit j<;>cases b.testBit j<;>rfl
 rw[e1,e2] at hx;rw[<- hx];unfold Builtin.bitAnd Builtin.bitNot;have h1:decide (0<=(a:Int))=true:=by simp
 have h2:decide (0<=-(b:Int) - 1)=false:=by simp;lia
 rw[h1,h2];dsimp only;rw[show(-(-(b:Int) - 1) - 1).toNat=b by lia,BR]
theorem SC(n j:Nat):Xv (.int (n:Int)) (.int (j:Int))=some (.int ((n / 2^j:Nat):Int)):=by
 have:Xv (.int (n:Int)) (.int (j:Int))=some (.int ((n:Int) / 2^((j:Int)).toNat)):=by unfold Xv MI;dsimp only;rw[AE (by lia)]
 rw[this,BR];congr 2
theorem UB(n j:Nat):Gc (.int ((n / 2^j:Nat):Int)) (.int 1)=some (.int (if n.testBit j then 1 else 0)):=by
 show some (Dat.int (Builtin.bitAnd ((n / 2^j:Nat):Int) ((1:Nat):Int)))=_;rw[Rx,Nat.and_one_is_mod,Nat.testBit_eq_decide_div_mod_eq];generalize n / 2^j=q;congr 2
 rcases(show q % 2=0\/q % 2=1 by lia) with h | h<;>simp[h]
theorem QO(a b:Nat):Gc (.int (a:Int)) (.int (b:Int))=some (.int ((a &&& b:Nat):Int)):=by
 show some (Dat.int (Builtin.bitAnd _ _))=_;rw[Rx]
theorem OC(a b:Nat):NL (.int (a:Int)) (.int (b:Int))=some (.int ((a ||| b:Nat):Int)):=by
 show some (Dat.int (Builtin.bitOr _ _))=_;rw[La]
theorem cj(a b:Nat):UN (.int (a:Int)) (.int (b:Int))=some (.int ((a ^^^ b:Nat):Int)):=by
 show some (Dat.int (Builtin.bitXor _ _))=_;rw[X3]
theorem df(b:Bool):Mq (.int (if b then 1 else 0)) (.int 1)=some (.bl b):=by cases b<;>rfl
theorem NC(a b:Nat):Mq (.int (a:Int)) (.int (b:Int))=some (.bl (a==b)):=by
 show some (Dat.bl ((a:Int)==(b:Int)))=_;congr 2
 rw[DW,DC,DC];lia
theorem bS(i j:Int):Nz (.int i) (.int j)=some (.bl (!(i==j))):=rfl
theorem oB(bs:Z Bool):RW [.lst (bs.map .bl)]=some (.bl (bs.any id)):=by unfold RW;dsimp only;rw[fh];rfl
theorem Qq(h:fs env=some xs)(hl:Nat.ble xs.length 1000=true:=by rfl):Ut fs env=some xs:=by unfold Ut;rw[h];exact AE (BC (Nat.le_of_ble_eq_true hl) (by decide))
theorem Wt(ps:Z Nat):Zd ps=ps.map λp:Nat=>Dat.int (p:Int):=oq ps
theorem XN{F:Dat->C1 Dat}{z:Dat}(h1:f env=some x)(h2:F x=some z):dU F f env=some z:=by unfold dU;rw[h1];exact h2
theorem Ii(D:α->Dat)(P:α->Prop):∀ (xs:Z Dat),(∀ x∈xs,∃ (e1:Ev) (y:α),g x env=some e1/\f e1=some (D y)/\P y)->∃ ys:Z α,Wn g V7 f env xs=some (ys.map D)/\ys.length=xs.length/\∀ y∈ys,P y
 | [],_=>⟨[],rfl,rfl,λ_ h=>nomatch h⟩
 | x::xs,h=>by
  obtain⟨e1,y,a1,a2,a3⟩:=h x AX;obtain⟨ys,b1,b2,X⟩:=Ii D P xs λz hz=>h z (AR _ hz)
  refine⟨y::ys,?_,by rw[BS,BS,b2],λz hz=>?_⟩
  .rw[Wn,a1]
   dsimp only[Option.bind,V7];rw[AE rfl,a2];dsimp only;rw[b1];rfl
  .rcases BA.mp hz with e | e
   .exact e▸a3
   .exact X z e
theorem Ct{d:Dat}(h:d∈rng lo n):∃ i:Nat,i<n/\d=.int (lo+i):=by
 obtain⟨i,hi,e⟩:=HN h;have:=Ud (lo:=lo) (n:=n) (i:=i) (d:=d) (by rw[AJ hi,e]);exact⟨i,this.1,this.2⟩
theorem Ht{d:Dat}(h:(Zd ps)[i]?=some d):∃ p:Nat,ps[i]?=some p/\d=.int (p:Int):=by
 rw[AM,AM] at h;obtain⟨y,G,rfl⟩:=map_some h;obtain⟨p,hq,rfl⟩:=map_some G;exact⟨p,hq,rfl⟩
theorem og:(m &&& K' ps)=K' ps↔∀ p∈ps,m.testBit p=true:=by
 constructor
 .intro h p hp
  have:(m &&& K' ps).testBit p=true:=by rw[h,Ww];simpa using hp
  rw[EE] at this;exact(DZ.mp this).1
 .intro h
  apply CT;intro j;rw[EE,Ww];by_cases hj:j∈ps
  .simp[hj,h j hj]
  .simp[hj]
structure St3 where
 w:Nat
 up:Bool
 takes:List Nat
 fills:List Nat
def St3.d(s:St3):Dat:=.tup [.int (s.w:Int),.bl s.up,.tup (Zd s.takes),.tup (Zd s.fills)]
structure G3 where
 wires:List (Str×Bool)
 steps:List St3
 marks:Nat
 code:Nat
variable{G:G3}
def Uu(w:Str×Bool):Dat:=.tup [.str w.1,.str (if w.2 then "made" else "given")]
def G3.d(G:G3):Dat:=.tup [.tup (G.wires.map Uu),.tup (G.steps.map St3.d),.int (G.marks:Int),.int (G.code:Int)]
theorem Uj(r m:Nat)(h:0<m:=by decide):Vc (.int (r:Int)) (.int (m:Int))=some (.int ((r % m:Nat):Int)):=by
 rw[cD (by lia)];rfl
theorem V8(r m:Nat)(h:0<m:=by decide)(h2:m<1073741824:=by decide):Wj (.int (r:Int)) (.int (m:Int))=some (.int ((r / m:Nat):Int)):=by
 rw[gQ ⟨by lia,by lia⟩];rfl
theorem UM(r m:Nat)(h:r<18446744073709551616):Gi (.int (r:Int)) (.int (m:Int))=some (.int ((r*m:Nat):Int)):=by
 rw[Hw (.inl ⟨by lia,by lia⟩)];rfl
theorem Va(r m:Nat):Ym (.int (r:Int)) (.int (m:Int))=some (.int ((r+m:Nat):Int)):=rfl
def U5(s:St3)(m:Nat):Bool:=(m &&& K' s.takes)==K' s.takes
theorem R6{s:St3} :U5 s m=true↔∀ p∈s.takes,m.testBit p=true:=by
 unfold U5;rw[DC];exact og
theorem f4(ps:Z Nat):∃ qs:Z Nat,(Qa (ps.map λp:Nat=>(p:Int))).map Dat.int=Zd qs/\qs.Perm ps:=by
 refine⟨(Qa (ps.map λp:Nat=>(p:Int))).map Int.toNat,?_,?_⟩
 .show _=(((Qa (ps.map λp:Nat=>(p:Int))).map Int.toNat).map λp:Nat=>(p:Int)).map Dat.int
  congr 1
  rw[FB];conv=>lhs;rw[<- List.map_id (Qa _)]
  apply JD;intro x hx;have:=(V6 _).mem_iff.mp hx;obtain⟨p,_,rfl⟩:=CS.mp this;simp
 .have h:=(V6 (ps.map λp:Nat=>(p:Int))).map Int.toNat
  rw[FB] at h;have e:(Int.toNat ∘ λp:Nat=>(p:Int))=id:=by funext p;simp
  rw[e,List.map_id] at h;exact h
theorem Lr(ps:Z Nat)(h:ps.length<64):∃ qs:Z Nat,bZ [.lst (Zd ps)]=some (Zd qs)/\qs.Perm ps:=by
 obtain⟨qs,e,hp⟩:=f4 ps;refine⟨qs,?_,hp⟩;unfold bZ;dsimp only;rw[Ms];show(if(ps.map λp:Nat=>(p:Int)).length<64 then _ else _)=_;rw[AE (by rw[AB];exact h),e]
theorem Pg(x y:Str):(x++y).length=x.length+y.length:=eA x y
theorem P4{d:Dat}(e:env[i]?=some (.ow ds))(e1:fb env=some d)(e2:fa env=some (.int (k:Int)))(Y:k<ds.length)(q:N (env.set i (.ow (ds.set k d)))):Go (My i fa fb env) N R:=by
 unfold My;rw[e,e1,e2];dsimp only;rw[AE ⟨by lia,by lia⟩];exact⟨q⟩
theorem ZJ{fs:Z (C1 Nat)}{h:Nat}(e:src env=some ds)(q:N (env.set i (.gx (.nest (List.replicate ds.length []))))):Go (A9 i src fs (Zz h) env) N R:=by
 unfold A9;rw[e];dsimp only;rw[AE (show(ds.all λd=>(Zz h d (Tl fs env)).isSome)=true from DH.mpr λd _=>rfl)];exact⟨q⟩
def Ng(tk:Z (Z Nat))(k x:Nat):Z (Z Nat):=tk.set k (tk.getD k []++[x])
theorem Jf(tk:Z (Z Nat))(k x:Nat):(Ng tk k x).length=tk.length:=by unfold Ng;rw[CQ]
structure MV (Lq_ B:Nat) (tk:List (List Nat)):Prop where
 len:∀ l∈tk,l.length<=Lq_
 lt:∀ l∈tk,∀ p∈l,p<B
theorem MV.mono{L' B':Nat}(h:MV Lq_ B tk)(h1:Lq_<=L')(h2:B<=B'):MV L' B' tk:=⟨λl q=>BC (h.len l q) h1,λl q p z=>AO (h.lt l q p z) h2⟩
theorem MV.app(h:MV Lq_ B tk)(k x:Nat)(hx:x<B):MV (Lq_+1) B (Ng tk k x):=by
 have hg:(tk.getD k []).length<=Lq_/\∀ p∈tk.getD k [],p<B:=by
  cases e:tk[k]? with
  | none=>simp[List.getD,e]
  | some l=>have hm:=AH e;simp only[List.getD,e,KD];exact⟨h.len l hm,h.lt l hm⟩
 constructor
 .intro l hl
  rcases FP hl with q | q
  .exact HW (h.len l q)
  .rw[q,AQ];show _+1<=_;lia
 .intro l hl p hp
  rcases FP hl with q | q
  .exact h.lt l q p hp
  .rw[q] at hp
   rcases CB.mp hp with z | z
   .exact hg.2 p z
   .rw[AI.mp z];exact hx
theorem MV.nil(n:Nat):MV 0 0 (List.replicate n []):=⟨λl h=>by rw[(FX.mp h).2];exact AT _,λl h p hp=>by rw[(FX.mp h).2] at hp;cases hp⟩
theorem oE(n:Nat):(List.replicate n ([]:Z Dat))=(List.replicate n ([]:Z Nat)).map Zd:=by rw[List.map_replicate];rfl
theorem Nr{x:Nat}(e:env[i]?=some (.gx (.nest (tk.map Zd))))(h:MV Lq_ B tk)(D:Lq_<=1000)(Y:k<tk.length)(e1:fa env=some (.int (k:Int)))(e2:fs env=some [.int (x:Int)])(q:N (env.set i (.gx (.nest ((Ng tk k x).map Zd))))):Go (N1 i fa fs env) N R:=by
 unfold N1;rw[e,e1];dsimp only;have aa:Gt (tk.map Zd) (k:Int)=some (Zd tk[k]):=by
  unfold Gt;rw[AE (by lia),BR];simp[Y]
 rw[aa,e2];dsimp only;have hl:=h.len _ (HZ Y);rw[show(some [Dat.int (x:Int)]).bind (λas=>Wz (Zd tk[k]) as)=some (Zd (tk[k]++[x])) by
  show Wz (Zd tk[k]) [Dat.int (x:Int)]=_;rw[Uz (by rw[AB,AB];lia)];simp[Zd]]
 dsimp only;have:(tk.map Zd).set ((k:Int)).toNat (Zd (tk[k]++[x]))=(Ng tk k x).map Zd:=by
  unfold Ng;rw[BR,map_set];congr 2
  simp[List.getD,Y]
 rw[this];exact⟨q⟩
theorem cO(e:env[i]?=some (.gx (.nest (tk.map Zd))))(e1:fa env=some (.int (k:Int)))(Y:tk[k]?=some l):QM i fa env=some (.lst (Zd l)):=by
 unfold QM;rw[e,e1];dsimp only;unfold Gt;rw[AE (by lia),BR,AM,Y];rfl
theorem Fi(D E:α->Dat):∀ (xs:Z α),(∀ x∈xs,∃ e1 b,g (D x) env=some e1/\t e1=some b/\f e1=some (E x))->∃ ys:Z α,ys.Sublist xs/\Wn g t f env (xs.map D)=some (ys.map E)
 | [],_=>⟨[],.slnil,rfl⟩
 | x::xs,h=>by
  obtain⟨ys,h1,h2⟩:=Fi D E xs λz hz=>h z (AR _ hz)
  obtain⟨e1,b,a1,a2,a3⟩:=h x AX;cases b with
  | true=>exact⟨x::ys,h1.cons₂ x,by rw[CF,Wn,a1];show(t e1).bind _=_;rw[a2];show(f e1).bind _=_;rw[a3,h2];rfl⟩
  | false=>exact⟨ys,h1.cons x,by rw[CF,Wn,a1];show(t e1).bind _=_;rw[a2];exact h2⟩
theorem TC(r m:Nat)(h:m<=r):OO (.int (r:Int)) (.int (m:Int))=some (.int ((r - m:Nat):Int)):=by
 show some (Dat.int ((r:Int) - (m:Int)))=_;rw[Int.ofNat_sub h]
theorem F9(ps:Z Nat):U0 [.lst (Zd ps)]=some (.int ((ps.length:Nat):Int)):=by
 show some (Dat.int ((Zd ps).length:Int))=_;rw[AB,AB]
theorem N0(ps:Z Nat)(a w:Nat)(h:a<=ps.length)(hl:ps.length<=1000):Rc (Zd ps) [.int (a:Int),.int (w:Int)]=some (Zd (ps.take a++w::ps.drop a)):=by
 show(if _ then some _ else none)=_;rw[AE ⟨by lia,by rw[AB,AB];lia,by rw[AB,AB];exact EL hl (by decide)⟩,BR];simp[Zd,map_take,map_drop]
theorem Jm(ps:Z α)(a:Nat)(w:α):(ps.take a++w::ps.drop a).length=ps.length+1:=by
 rw[AQ,BS,BN,CA];lia
theorem n6(ps:Z α)(a:Nat)(w:α):(ps.take a++w::ps.drop a).Perm (w::ps):=by
 have h:(ps.take a++w::ps.drop a).Perm (w::(ps.take a++ps.drop a)):=List.perm_middle;rw[GL] at h;exact h
theorem K8(ps:Z Nat)(a w v:Nat):(ps.take a++w::ps.drop a).count v=ps.count v+(if w=v then 1 else 0):=by
 rw[(n6 ps a w).count_eq,List.count_cons];by_cases h:w=v<;>simp[h]
theorem Is(xs:Z α)(t:Nat)(h:t<=xs.length):Ja xs (some (t:Int)) none=xs.drop t:=by
 unfold Ja;rw[HT.sIx_nat,HT.sIx_none,IX h,BZ (by rw[CA];exact AT _)]
theorem Hj(xs:Z α)(t:Nat)(h:t<=xs.length):Ja xs none (some (t:Int))=xs.take t:=by
 unfold Ja;rw[HT.sIx_nat,HT.sIx_none,IX h,LB,Nat.sub_zero]
theorem Qu(f:α->β)(xs:Z α)(a b:C1 Int):Ja (xs.map f) a b=(Ja xs a b).map f:=by
 unfold Ja;rw[AB,map_take,map_drop]
theorem nC(ps:Z Nat)(c:Nat):(ps.map λp:Nat=>(p:Int)).idxOf (c:Int)=ps.idxOf c:=by
 induction ps with
 | nil=>rfl
 | cons p ps ih =>
  rw[CF,FZ,FZ,ih];by_cases h:p=c
  .subst h;rw[show((p:Int)==(p:Int))=true from DX _,show(p==p)=true from DX _]
  .rw[show((p:Int)==(c:Int))=false from DV.mpr (by lia),show(p==c)=false from DV.mpr h]
theorem Op(ps:Z Nat)(c:Nat)(h:c∈ps):Ov (.lst (Zd ps)) [.int (c:Int)]=some (.int ((ps.idxOf c:Nat):Int)):=by
 show((Qj (Zd ps)).bind λzs=>if(c:Int)∈zs then some (Dat.int ((zs.idxOf (c:Int):Nat):Int)) else none)=_;rw[Ms];show(if _ then some _ else none)=_;rw[AE (GI h),nC]
theorem O1(h:xs.length+ys.length<=1000):Ym (.lst xs) (.lst ys)=some (.lst (xs++ys)):=AE (BC h (by decide))
theorem cW(h:xs.length+ys.length<=1000):Nd (.lst xs) (.lst ys)=some (xs++ys):=AE (BC h (by decide))
theorem Rq(h:xs.length+ys.length<=1000):K4 (.tup xs) (.tup ys)=some (.tup (xs++ys)):=AE (BC h (by decide))
def Y1(p:Nat×Nat):Dat:=.tup [.int (p.1:Int),.int (p.2:Int)]
theorem Nn(p:Nat×Nat):pd 20 (Y1 p)=true:=rfl
theorem Fu(p:Nat×Nat)(qs:Z (Nat×Nat)):∃ b,PQ (Y1 p) (.lst (qs.map Y1))=some (.bl b):=by
 refine⟨!((qs.map Y1).any λy=>Si y (Y1 p)),?_⟩;unfold PQ NU;dsimp only;rw[AE]
 .rfl
 .rw[Nn,GY]
  exact DH.mpr λx hx=>by obtain⟨q,_,rfl⟩:=CS.mp hx;exact Nn q
theorem kr(a b:Nat):QN [.int (a:Int),.int (b:Int)]=some (.int ((min a b:Nat):Int)):=by
 show some (Dat.int (if(b:Int)<(a:Int) then(b:Int) else(a:Int)))=_;congr 2
 split<;>lia
theorem kA(a b:Nat):OJ [.int (a:Int),.int (b:Int)]=some (.int ((max a b:Nat):Int)):=by
 show some (Dat.int (if(b:Int) > (a:Int) then(b:Int) else(a:Int)))=_;congr 2
 split<;>lia
theorem db(a b:Nat):Nz (.int (a:Int)) (.int (b:Int))=some (.bl (!(a==b))):=by
 rw[bS];congr 3
 rw[DW];simp;lia
theorem Hm(ps:Z Nat)(h:ps.length<64):∃ qs:Z Nat,Jy [.lst (Zd ps)]=some (Zd qs)/\qs.Perm ps:=Lr ps h
theorem Lm(ps:Z Nat)(h:ps.length<64):∃ qs:Z Nat,Jy [.tup (Zd ps)]=some (Zd qs)/\qs.Perm ps:=Lr ps h
theorem Dw(n:Nat):rng 0 n=(List.range n).map λk:Nat=>Dat.int (k:Int):=by
 unfold rng;congr 1
 funext k
 rw[DL]
theorem J7{d:Dat}(h:(Qx 0 xs)[i]?=some d):∃ x,xs[i]?=some x/\d=.tup [.int (i:Int),x]:=by
 rw[P3] at h;cases e:xs[i]? with
 | none=>rw[e] at h;cases h
 | some x=>rw[e] at h;cases h;exact⟨x,rfl,by rw[KB]⟩
theorem YW{T:String}{F:Dat->Z Dat->C1 α}(h1:f env=some x)(ht:OZ T x=true)(h2:fs env=some as)(h3:F x as=some z):dM T F f fs env=some z:=by
 unfold dM;rw[h1];show(if _ then _ else _)=_;rw[AE ht,h2];exact h3
theorem UR(h:f env=some (.lst xs)):Uw f env=some xs:=by unfold Uw;rw[h]
theorem Pz(h:f env=some (.lst xs)):E8 f env=some (Qx 0 xs):=by unfold E8;rw[UR h];rfl
theorem k9(ds:Z Dat)(a:Nat)(d:Dat)(h:a<=ds.length)(hl:ds.length<=1000):Rc ds [.int (a:Int),d]=some (ds.take a++d::ds.drop a):=by
 show(if _ then some _ else none)=_;rw[AE ⟨by lia,by lia,EL hl (by decide)⟩,BR]
theorem Jo(D E:α->Dat)(p:α->Bool):∀ (xs:Z α),(∀ x∈xs,∃ e1,g (D x) env=some e1/\t e1=some (p x)/\f e1=some (E x))->Wn g t f env (xs.map D)=some ((xs.filter p).map E)
 | [],_=>rfl
 | x::xs,h=>by
  have ih:=Jo D E p xs λz hz=>h z (AR _ hz)
  obtain⟨e1,a1,a2,a3⟩:=h x AX;rw[CF,Wn,a1];show(t e1).bind _=_;rw[a2];cases hp:p x with
  | true=>show(f e1).bind _=_;rw[a3,ih,List.filter_cons_of_pos hp];rfl
  | false=>rw[List.filter_cons_of_neg (by rw[hp];decide)];exact ih
theorem pF(zs:Z Int)(ps:Z Nat)(h:∀ z∈zs,∃ p∈ps,z=((p:Nat):Int)):∃ qs:Z Nat,(Qa zs).map Dat.int=Zd qs/\qs.length=zs.length/\∀ q∈qs,q∈ps:=by
 have h':∀ z∈Qa zs,∃ p∈ps,z=((p:Nat):Int):=λz hz=>h z ((V6 zs).mem_iff.mp hz)
 refine⟨(Qa zs).map Int.toNat,?_,by rw[AB,(V6 zs).length_eq],λq hq=>?_⟩
 .unfold Zd
  rw[FB,FB];refine JD λz hz=>?_
  obtain⟨p,_,rfl⟩:=h' z hz;show Dat.int ((p:Nat):Int)=Dat.int (((p:Nat):Int).toNat:Int);rw[BR]
 .obtain⟨z,hz,rfl⟩:=CS.mp hq
  obtain⟨p,hp,rfl⟩:=h' z hz;rw[BR];exact hp
theorem Sx:∀ (ns ks:Z Int) (x:Int),x∈ns.foldl Qh ks->x∈ks\/x∈ns
 | [],ks,x,h=>.inl h
 | n::ns,ks,x,h=>by
  rcases Sx ns (Qh ks n) x h with q | q
  .unfold Qh at q
   split at q
   .exact .inl q
   .rcases CB.mp q with z | z
    .exact .inl z
    .exact .inr (BA.mpr (.inl (AI.mp z)))
  .exact .inr (AR _ q)
theorem mo(ps:Z Nat)(h:fs env=some [.tup (Zd ps)])(hl:ps.length<64):∃ qs:Z Nat,PM fs env=some (Zd qs)/\qs.length<=ps.length/\∀ q∈qs,q∈ps:=by
 unfold PM;rw[h];dsimp only;rw[Ms];have hz:=Dh (ps.map λp:Nat=>(p:Int));obtain⟨qs,e,l,m⟩:=pF ((ps.map λp:Nat=>(p:Int)).foldl Qh []) ps λz hz=>by
  rcases Sx _ _ _ hz with q | q
  .cases q
  .obtain⟨p,hp,rfl⟩:=CS.mp q;exact⟨p,hp,rfl⟩
 rw[AB] at hz;refine⟨qs,?_,by lia,m⟩;show(if _ then some _ else none)=_;rw[AE (by rw[AB];exact hl),e]
theorem Ak(xs:Z Dat)(a b:C1 Int):Xw (.lst xs) a b=some (.lst (Ja xs a b)):=rfl
theorem Ny(xs:Z Dat)(a b:C1 Int):Xw (.tup xs) a b=some (.tup (Ja xs a b)):=rfl
theorem mn(z:Str)(a b:C1 Int):Xw (.str z) a b=some (.str (Txt.slice z a b)):=rfl
def U8(s:St3)(p:Nat×Nat):Nat×Nat:=((p.1 ^^^ (p.1 &&& K' s.takes)) ||| K' s.fills,p.2 ^^^ 2^s.w)
theorem Ln(s:St3)(p:Nat×Nat)(j:Nat):(U8 s p).1.testBit j=((p.1.testBit j&&!decide (j∈s.takes))||decide (j∈s.fills)):=by
 unfold U8;dsimp only;rw[DY,IC,EE,Ww,Ww];cases p.1.testBit j<;>cases decide (j∈s.takes)<;>rfl
theorem eL(s:St3)(p:Nat×Nat)(j:Nat):(U8 s p).2.testBit j=(p.2.testBit j ^^ decide (s.w=j)):=by
 unfold U8;dsimp only;rw[IC,DM]
structure LV (G:G3) (I:Nat×Nat->Prop):Prop where
 ini:I (G.marks,G.code)
 lev:∀ p s,I p->s∈G.steps->U5 s p.1=true->p.2.testBit s.w≠s.up
 room:∀ p s,I p->s∈G.steps->U5 s p.1=true->∀ q∈s.fills,p.1.testBit q=true->q∈s.takes
 nxt:∀ p s,I p->s∈G.steps->U5 s p.1=true->I (U8 s p)
 few:∀ l:List (Nat×Nat),l.Nodup->(∀ p∈l,I p)->l.length<=400
structure Rw where
 m:Nat
 c:Nat
 src:Option (Nat×Nat)
def Rw.st(r:Rw):Nat×Nat:=(r.m,r.c)
def Rw.d(r:Rw):Dat:=.tup [.int (r.m:Int),.int (r.c:Int),match r.src with | none=>.non | some p=>.int (p.1:Int),match r.src with | none=>.non | some p=>.int (p.2:Int)]
structure MP (G:G3) (I:Nat×Nat->Prop) (af:List Rw):Prop where
 zero:af[0]?=some ⟨G.marks,G.code,none⟩
 inv:∀ r∈af,I r.st
 nd:(af.map Rw.st).Nodup
 src:∀ i r,af[i]?=some r->0<i->∃ f k s c,r.src=some (f,k)/\f<i/\G.steps[k]?=some s/\af[f]?=some c/\U5 s c.m=true/\r.st=U8 s c.st
variable{af:Z Rw}{r:Rw}
def Ij(af:Z Rw):Nat->Nat->Z Nat
 | 0,_=>[]
 | fu+1,n=>match (af[n]?).bind Rw.src with
  | none=>[]
  | some p=>Ij af fu p.1++[p.2]
theorem Kl(t:MP G I af):∀ (fu n:Nat),n<af.length->n<=fu->Ij af fu n=Ij af n n
 | 0,n,_,h=>by rw[show n=0 by lia]
 | fu+1,n,hl,h=>by
  obtain⟨r,hr⟩:∃ r,af[n]?=some r:=⟨_,AJ hl⟩;rcases DF n with z | z
  .subst z
   show(match (af[0]?).bind Rw.src with | none=>[] | some p=>Ij af fu p.1++[p.2])=[];rw[t.zero];rfl
  .obtain⟨f,k,s,c,a1,a2,_,a4,_,_⟩:=t.src n r hr z
   have P:=(AG.mp a4).1;obtain⟨g,rfl⟩:∃ g,n=g+1:=⟨n - 1,by lia⟩;rw[Ij,Ij,hr];show(match r.src with | none=>[] | some p=>Ij af fu p.1++[p.2])=(match r.src with | none=>[] | some p=>Ij af g p.1++[p.2]);rw[a1];show Ij af fu f++[k]=Ij af g f++[k];rw[Kl t fu f P (by lia),Kl t g f P (by lia)]
def R8(af:Z Rw)(n:Nat):Z Nat:=Ij af n n
theorem ZQ(af:Z Rw):R8 af 0=[]:=rfl
theorem dW(t:MP G I af){f:Nat}(hr:af[n]?=some r)(hs:r.src=some (f,k))(h0:0<n):R8 af n=R8 af f++[k]:=by
 obtain⟨Q,k',s,c,a1,a2,_,a4,_,_⟩:=t.src n r hr h0;rw[hs] at a1;cases a1;have P:=(AG.mp a4).1;obtain⟨g,rfl⟩:∃ g,n=g+1:=⟨n - 1,by lia⟩;unfold R8;rw[Ij,hr];show(match r.src with | none=>[] | some p=>Ij af g p.1++[p.2])=_;rw[hs];show Ij af g f++[k]=_;rw[Kl t g f P (by lia)]
theorem jM(t:MP G I af)(hr:af[n]?=some r):r.src=none↔n=0:=by
 constructor
 .intro h
  rcases DF n with z | z
  .exact z
  .obtain⟨f,k,s,c,a1,_⟩:=t.src n r hr z
   rw[h] at a1;cases a1
 .rintro rfl
  rw[t.zero] at hr;cases hr;rfl
end L2
variable{f:Nat×Nat->Nat}{g:L2.Ev->L2.Fl}{d:L2.Dat}{G G':L2.G3}{af:Z L2.Rw}{s:L2.St3}{ss:Z L2.St3}
namespace L2
theorem Mt[BEq α][LawfulBEq α]:∀ (l m:Z α),l.Nodup->(∀ x∈l,x∈m)->l.length<=m.length
 | [],_,_,_=>CV _
 | x::l,m,hn,hs=>by
  obtain⟨h1,h2⟩:=DB.mp hn;have hx:=hs x AX;have:=Mt l (m.erase x) h2 λy G=>by
   refine(List.mem_erase_of_ne ?_).mpr (hs y (AR _ G));rintro rfl;exact h1 G
  rw[List.length_erase_of_mem hx] at this;have:=List.length_pos_of_mem hx;show l.length+1<=_;lia
theorem cz(R:Nat->α->Prop)(hR:∀ k a b,R k a->R k b->a=b)(N:Nat):∀ l:Z α,l.Nodup->(∀ p∈l,∃ k,k<N/\R k p)->l.length<=N:=by
 intro l hn hl;have:∃ ks:Z Nat,ks.length=l.length/\ks.Nodup/\∀ k∈ks,k<N/\∃ p∈l,R k p:=by
  revert hn hl;induction l with
  | nil=>intro _ _;exact⟨[],rfl,DN,by simp⟩
  | cons p l ih =>
   intro hn hl;obtain⟨h1,h2⟩:=DB.mp hn;obtain⟨ks,a1,a2,a3⟩:=ih h2 λq hq=>hl q (AR _ hq)
   obtain⟨k,Y,hr⟩:=hl p AX;refine⟨k::ks,by simp[a1],DB.mpr ⟨λhm=>?_,a2⟩,λk' C=>?_⟩
   .obtain⟨_,e,f,v⟩:=a3 k hm
    exact h1 (hR k p e hr v▸f)
   .rcases BA.mp C with rfl | h
    .exact⟨Y,p,AX,hr⟩
    .obtain⟨b1,e,b2,X⟩:=a3 k' h
     exact⟨b1,e,AR _ b2,X⟩
 obtain⟨ks,a1,a2,a3⟩:=this;have:=Mt ks (List.range N) a2 λk Y=>DU.mpr (a3 k Y).1
 rw[CZ] at this;lia
def Ih(s0:Nat)(rs:Z (Nat×Nat))(f g:Nat×Nat->Nat)(d:Nat)(l:Z Nat):Prop:=∀ q,q∈l↔∃ t p,rs[t]?=some p/\((q=s0+2*t/\f p=d)\/(q=s0+2*t+1/\g p=d))
structure OY (G:G3) (s0:Nat) (one two:Nat->Nat) (rs:List (Nat×Nat)) (n d:Nat) (s:St3):Prop where
 w:s.w<n
 dl:d<2*n
 tk:Ih s0 rs (·.2) (·.1) d s.takes
 fl:Ih s0 rs (·.1) (·.2) d s.fills
 lev:(d=one s.w/\s.up=!G.code.testBit s.w)\/(d=two s.w/\s.up=G.code.testBit s.w)
structure RG (G:G3) (n s0:Nat) (one two:Nat->Nat) (rs:List (Nat×Nat)):Prop where
 ne:∀ q∈rs,q.1≠q.2
 ring:∀ w,w<n->(one w,two w)∈rs
 inj:∀ w v,w<n->v<n->(one w=one v\/two w=two v\/one w=two v)->w=v/\one w≠two v
 mks:∀ q,G.marks.testBit q=true↔∃ t,t<rs.length/\q=s0+2*t+1
 st:∀ s∈G.steps,∃ d,OY G s0 one two rs n d s
structure RI (G:G3) (n s0:Nat) (one two:Nat->Nat) (rs:List (Nat×Nat)) (k:Nat) (p:Nat×Nat):Prop where
 a:∀ t q,rs[t]?=some q->p.1.testBit (s0+2*t)=(k.testBit q.1 ^^ k.testBit q.2)
 b:∀ t q,rs[t]?=some q->p.1.testBit (s0+2*t+1)=!(k.testBit q.1 ^^ k.testBit q.2)
 o:∀ j,(∀ t,t<rs.length->j≠s0+2*t/\j≠s0+2*t+1)->p.1.testBit j=false
 c:∀ w,p.2.testBit w=(G.code.testBit w ^^ (decide (w<n)&&(k.testBit (one w) ^^ k.testBit (two w))))
theorem Ih.a{g:Nat×Nat->Nat}{d:Nat}(h:Ih s0 rs f g d l){t:Nat}(e:rs[t]?=some q):s0+2*t∈l↔f q=d:=by
 rw[h];constructor
 .rintro⟨t',p,e',⟨h1,h2⟩ | ⟨h1,_⟩⟩
  .have:t'=t:=by lia
   subst this;rw[e] at e';cases e';exact h2
  .lia
 .exactλh2=>⟨t,q,e,.inl ⟨rfl,h2⟩⟩
theorem Ih.b{g:Nat×Nat->Nat}{d:Nat}(h:Ih s0 rs f g d l){t:Nat}(e:rs[t]?=some q):s0+2*t+1∈l↔g q=d:=by
 rw[h];constructor
 .rintro⟨t',p,e',⟨h1,_⟩ | ⟨h1,h2⟩⟩
  .lia
  .have:t'=t:=by lia
   subst this;rw[e] at e';cases e';exact h2
 .exactλh2=>⟨t,q,e,.inr ⟨rfl,h2⟩⟩
theorem Ih.o{g:Nat×Nat->Nat}{d:Nat}(h:Ih s0 rs f g d l){j:Nat}(e:∀ t,t<rs.length->j≠s0+2*t/\j≠s0+2*t+1):j∉l:=by
 intro hj;obtain⟨t,p,H,h1⟩:=(h j).mp hj;have:=e t (AG.mp H).1;rcases h1 with h1 | h1
 .exact this.1 h1.1
 .exact this.2 h1.1
theorem Vh(k d j:Nat):(k ^^^ 2^d).testBit j=(k.testBit j ^^ decide (d=j)):=by
 rw[IC,DM]
theorem lf{one two:Nat->Nat}(h:RG G n s0 one two rs)(hn:n<=4):LV G λp=>∃ k,k<2^(2*n)/\RI G n s0 one two rs k p where
 ini:=by
  refine⟨0,GZ _,?_,?_,?_,?_⟩
  .intro t q e
   simp only[IK,Bool.xor_false];rw[JV];intro hh;obtain⟨t',_,e'⟩:=(h.mks _).mp hh;lia
  .intro t q e
   simp only[IK,Bool.xor_false,Bool.not_false];exact(h.mks _).mpr ⟨t,(AG.mp e).1,rfl⟩
  .intro j hj
   rw[JV];intro hh;obtain⟨t',g,e'⟩:=(h.mks _).mp hh;exact(hj t' g).2 e'
  .intro w;simp
 lev:=by
  rintro p s ⟨k,Y,hi⟩ hs hc;obtain⟨d,hd⟩:=h.st s hs;obtain⟨t,ht⟩:=ET (h.ring s.w hd.w);rw[hi.c,AL hd.w,GY];have hc:=R6.mp hc;rcases hd.lev with⟨e1,e2⟩ | ⟨e1,e2⟩
  .have:=hc _ ((hd.tk.b ht).mpr e1.symm)
   rw[hi.b t _ ht] at this;have hx:(k.testBit (one s.w) ^^ k.testBit (two s.w))=false:=by simpa using this
   rw[hx,e2];cases G.code.testBit s.w<;>simp
  .have:=hc _ ((hd.tk.a ht).mpr e1.symm)
   rw[hi.a t _ ht] at this;have hx:(k.testBit (one s.w) ^^ k.testBit (two s.w))=true:=this;rw[hx,e2];cases G.code.testBit s.w<;>simp
 room:=by
  rintro p s ⟨k,Y,hi⟩ hs hc q hq hb;obtain⟨d,hd⟩:=h.st s hs;have hc:=R6.mp hc;obtain⟨t,r,H,hh⟩:=(hd.fl q).mp hq;exfalso;rcases hh with⟨rfl,e1⟩ | ⟨rfl,e1⟩
  .have:=hc _ ((hd.tk.b H).mpr e1)
   rw[hi.b t _ H] at this;rw[hi.a t _ H] at hb;rw[hb] at this;cases this
  .have:=hc _ ((hd.tk.a H).mpr e1)
   rw[hi.a t _ H] at this;rw[hi.b t _ H,this] at hb;cases hb
 nxt:=by
  rintro p s ⟨k,Y,hi⟩ hs hc;obtain⟨d,hd⟩:=h.st s hs;have hc:=R6.mp hc;have ae:k ^^^ 2^d<2^(2*n):=Nat.xor_lt_two_pow Y (IY (by lia) hd.dl);refine⟨k ^^^ 2^d,ae,?_,?_,?_,?_⟩
  .intro t q e
   have ag:=h.ne q (AH e);have ha:=hi.a t q e;have hb:=hi.b t q e;have h1:=hd.tk.a e;have h2:=hd.fl.a e;have h3:=hd.tk.b e;rw[Ln,Vh,Vh];by_cases e1:q.2=d
   .have:=hc _ (h1.mpr e1)
    have e2:¬ q.1=d:=λe2=>ag (e2.trans e1.symm)
    rw[AL (h1.mpr e1),AF (mt h2.mp e2),AL e1.symm,AF (AY e2)];rw[ha] at this;revert this;cases k.testBit q.1<;>cases k.testBit q.2<;>simp
   .by_cases e2:q.1=d
    .have:=hc _ (h3.mpr e2)
     rw[AF (mt h1.mp e1),AL (h2.mpr e2),AF (AY e1),AL e2.symm];rw[hb] at this;revert this;cases k.testBit q.1<;>cases k.testBit q.2<;>simp
    .rw[AF (mt h1.mp e1),AF (mt h2.mp e2),AF (AY e1),AF (AY e2),ha]
     simp
  .intro t q e
   have ag:=h.ne q (AH e);have ha:=hi.a t q e;have hb:=hi.b t q e;have h1:=hd.tk.b e;have h2:=hd.fl.b e;have h3:=hd.tk.a e;rw[Ln,Vh,Vh];by_cases e1:q.1=d
   .have:=hc _ (h1.mpr e1)
    have e2:¬ q.2=d:=λe2=>ag (e1.trans e2.symm)
    rw[AL (h1.mpr e1),AF (mt h2.mp e2),AL e1.symm,AF (AY e2)];rw[hb] at this;revert this;cases k.testBit q.1<;>cases k.testBit q.2<;>simp
   .by_cases e2:q.2=d
    .have:=hc _ (h3.mpr e2)
     rw[AF (mt h1.mp e1),AL (h2.mpr e2),AF (AY e1),AL e2.symm];rw[ha] at this;revert this;cases k.testBit q.1<;>cases k.testBit q.2<;>simp
    .rw[AF (mt h1.mp e1),AF (mt h2.mp e2),AF (AY e1),AF (AY e2),hb]
     simp
  .intro j hj
   rw[Ln,hi.o j hj,AF (hd.fl.o hj)];simp
  .intro w
   rw[eL,hi.c,Vh,Vh];by_cases hw:w<n
   .rw [AL hw,GY,GY]
    have aj:decide (s.w=w)=(decide (d=one w) ^^ decide (d=two w)):=by
     by_cases ew:s.w=w
     .subst ew
      have ag:=(h.inj s.w s.w hd.w hd.w (.inl rfl)).2;rcases hd.lev with⟨e1,_⟩ | ⟨e1,_⟩
      .rw[AL rfl,AL e1,AF (λe2=>ag (e1.symm.trans e2))];rfl
      .rw[AL rfl,AL e1,AF (λe2=>ag (e2.symm.trans e1))];rfl
     .have n1:¬ d=one w:=by
       intro T;rcases hd.lev with⟨e1,_⟩ | ⟨e1,_⟩
       .exact ew (h.inj s.w w hd.w hw (.inl (e1.symm.trans T))).1
       .exact ew (h.inj w s.w hw hd.w (.inr (.inr (T.symm.trans e1)))).1.symm
      have n2:¬ d=two w:=by
       intro T;rcases hd.lev with⟨e1,_⟩ | ⟨e1,_⟩
       .exact ew (h.inj s.w w hd.w hw (.inr (.inr (e1.symm.trans T)))).1
       .exact ew (h.inj s.w w hd.w hw (.inr (.inl (e1.symm.trans T)))).1
      rw[AF ew,AF n1,AF n2];rfl
    rw[aj];cases G.code.testBit w<;>cases k.testBit (one w)<;>cases k.testBit (two w)<;>cases decide (d=one w)<;>cases decide (d=two w)<;>rfl
   .have:s.w≠w:=λe=>hw (e▸hd.w)
    rw[AF hw,AF this];simp
 few:=by
  intro l hl hp;have N:2^(2*n)<=256:=BC (DA (by lia) (show 2*n<=8 by lia)) (by decide);have:=cz (λk p=>RI G n s0 one two rs k p) (λk p q h1 h2=>?_) (2^(2*n)) l hl hp
  .lia
  .refine II (CT λj=>?_) (CT λj=>by rw[h1.c,h2.c])
   by_cases hj:∀ t,t<rs.length->j≠s0+2*t/\j≠s0+2*t+1
   .rw[h1.o j hj,h2.o j hj]
   .simp only[Classical.not_forall] at hj
    obtain⟨t,ht,hj⟩:=hj;have e:rs[t]?=some rs[t]:=AJ ht;by_cases e1:j=s0+2*t
    .rw[e1,h1.a t _ e,h2.a t _ e]
    .have e2:j=s0+2*t+1:=Classical.byContradiction λe2=>hj ⟨e1,e2⟩
     rw[e2,h1.b t _ e,h2.b t _ e]
structure NV (G:G3) (b:Nat) (Lq_:Nat->Nat):Prop where
 bl:b<64
 ma:G.marks=2^b
 cd:G.code=Lq_ b
 st:∀ s∈G.steps,∃ x y,x<64/\y<64/\x≠y/\s.takes=[x]/\s.fills=[y]/\Lq_ y=Lq_ x ^^^ 2^s.w/\(Lq_ x).testBit s.w≠s.up
theorem el{b:Nat}(h:NV G b Lq_):LV G λp=>∃ k,k<64/\p=(2^k,Lq_ k):=by
 have aj:∀ (p:Nat×Nat) (s:St3),(∃ k,k<64/\p=(2^k,Lq_ k))->s∈G.steps->U5 s p.1=true->∃ x y,x<64/\y<64/\x≠y/\s.takes=[x]/\s.fills=[y]/\Lq_ y=Lq_ x ^^^ 2^s.w/\(Lq_ x).testBit s.w≠s.up/\p=(2^x,Lq_ x):=by
  rintro p s ⟨k,Y,rfl⟩ hs hc;obtain⟨x,y,h1,h2,h3,h4,h5,h6,h7⟩:=h.st s hs;have:=R6.mp hc x (by rw[h4];simp);have e:k=x:=by
   have:(2^k).testBit x=true:=this;rw[DM] at this;simpa using this
  subst e;exact⟨k,y,h1,h2,h3,h4,h5,h6,h7,rfl⟩
 refine⟨⟨b,h.bl,by rw[h.ma,h.cd]⟩,?_,?_,?_,?_⟩
 .intro p s hi hs hc
  obtain⟨x,y,h1,h2,h3,h4,h5,h6,h7,rfl⟩:=aj p s hi hs hc;exact h7
 .intro p s hi hs hc q hq hb
  obtain⟨x,y,h1,h2,h3,h4,h5,h6,h7,rfl⟩:=aj p s hi hs hc;rw[h5] at hq;rw[AI.mp hq,DM] at hb;exact absurd (by simpa using hb) h3
 .intro p s hi hs hc
  obtain⟨x,y,h1,h2,h3,h4,h5,h6,h7,rfl⟩:=aj p s hi hs hc;refine⟨y,h2,II (CT λj=>?_) h6.symm⟩;rw[Ln,h4,h5];show((2^x).testBit j&&!decide (j∈[x])||decide (j∈[y]))=(2^y).testBit j;rw[DM,DM];by_cases e1:x=j
  .subst e1;simp[eq_comm]
  .by_cases e2:y=j<;>simp[e1,e2,eq_comm]
 .intro l hl hp
  have:=cz (λk p=>p=(2^k,Lq_ k)) (λk p q h1 h2=>h1.trans h2.symm) 64 l hl hp;lia
structure OQ (G G':G3) (z:Nat):Prop where
 len:G'.steps.length=G.steps.length
 ma:G'.marks=G.marks ||| 2^z
 mz:G.marks.testBit z=false
 cd:G'.code=G.code
 st:∀ s'∈G'.steps,∃ s∈G.steps,∃ b:Bool,s'.w=s.w/\s'.up=s.up/\z∉s.takes/\z∉s.fills/\(∀ q,q∈s'.takes↔q∈s.takes\/(b=true/\q=z))/\(∀ q,q∈s'.fills↔q∈s.fills\/(b=true/\q=z))
theorem ey(h:OQ G G' z)(hc:LV G I):LV G' λp=>∃ m,m.testBit z=false/\p.1=m ||| 2^z/\I (m,p.2):=by
 have a:∀ m j:Nat,(m ||| 2^z).testBit j=(m.testBit j||decide (z=j)):=λm j=>by rw[DY,DM]
 have aj:∀ (m:Nat) (s' s:St3) (b:Bool),z∉s.takes->(∀ q,q∈s'.takes↔q∈s.takes\/(b=true/\q=z))->U5 s' (m ||| 2^z)=true->U5 s m=true:=by
  intro m s' s b hz ht hc;refine R6.mpr λq hq=>?_
  have:=R6.mp hc q ((ht q).mpr (.inl hq));rw[a] at this;have ag:z≠q:=by rintro rfl;exact hz hq
  rw[AF ag,IH] at this;exact this
 refine⟨⟨G.marks,h.mz,h.ma,by rw[h.cd];exact hc.ini⟩,?_,?_,?_,?_⟩
 .rintro p s' ⟨m,hm,e,hi⟩ F g
  obtain⟨s,hs,b,w,u,c,d,ht,hf⟩:=h.st s' F;rw[e] at g;have:=hc.lev (m,p.2) s hi hs (aj m s' s b c ht g);rw[w,u];exact this
 .rintro p s' ⟨m,hm,e,hi⟩ F g q hq hb
  obtain⟨s,hs,b,w,u,c,d,ht,hf⟩:=h.st s' F;rw[e] at g hb;rcases(hf q).mp hq with h1 | ⟨h1,h2⟩
  .have ag:z≠q:=by rintro rfl;exact d h1
   rw[a,AF ag,IH] at hb;exact(ht q).mpr (.inl (hc.room (m,p.2) s hi hs (aj m s' s b c ht g) q h1 hb))
  .exact(ht q).mpr (.inr ⟨h1,h2⟩)
 .rintro p s' ⟨m,hm,e,hi⟩ F g
  obtain⟨s,hs,b,w,u,c,d,ht,hf⟩:=h.st s' F;rw[e] at g;have hn:=hc.nxt (m,p.2) s hi hs (aj m s' s b c ht g);refine⟨(U8 s (m,p.2)).1,?_,CT λj=>?_,?_⟩
  .rw[Ln,hm,AF d];rfl
  .rw[a,Ln,Ln,e,a]
   by_cases ej:z=j
   .subst ej
    rw[AL rfl];cases b
    .have n1:z∉s'.takes:=λx=>by rcases(ht z).mp x with y | y;exact c y;exact absurd y.1 (by simp)
     rw[AF n1];simp
    .rw[AL ((hf z).mpr (.inr ⟨rfl,rfl⟩))];simp
   .have S:decide (j∈s'.takes)=decide (j∈s.takes):=by
     rw[DW,BU,BU,ht j];exact⟨λx=>x.elim id λy=>absurd y.2.symm ej,.inl⟩
    have t2:decide (j∈s'.fills)=decide (j∈s.fills):=by
     rw[DW,BU,BU,hf j];exact⟨λx=>x.elim id λy=>absurd y.2.symm ej,.inl⟩
    rw[S,t2,AF ej];simp
  .have:(U8 s' p).2=(U8 s (m,p.2)).2:=by unfold U8;rw[w]
   rw[this];exact hn
 .intro l hl hp
  have:=hc.few (l.map λp=>(p.1 ^^^ 2^z,p.2)) ?_ ?_
  .rwa [AB] at this
  .refine JX.mpr (hl.imp ?_)
   intro p q ag e;apply ag;have e1:=EB Prod.fst e;have e2:=EB Prod.snd e;refine II (CT λj=>?_) e2;have:(p.1 ^^^ 2^z).testBit j=(q.1 ^^^ 2^z).testBit j:=by rw[show p.1 ^^^ 2^z=q.1 ^^^ 2^z from e1]
   rw[Vh,Vh] at this;simpa using this
  .intro p f
   obtain⟨q,hq,rfl⟩:=CS.mp f;obtain⟨m,hm,e,hi⟩:=hp q hq;have:q.1 ^^^ 2^z=m:=CT λj=>by
    rw[Vh,e,a];by_cases ej:z=j
    .subst ej;rw[hm];simp
    .simp[ej]
   show I (q.1 ^^^ 2^z,q.2);rw[this];exact hi
end L2
variable{b:Bool}{a:Nat}
namespace L2
def Tj(ps:Z Nat)(w:Nat):Nat:=ps.idxOf w
def Ti(ps:Z Nat)(w:Nat):Nat:=ps.idxOf w+1+(ps.drop (ps.idxOf w+1)).idxOf w
theorem cr:∀ {ps:Z Nat} {d:Nat},ps[d]?=some w->ps.count w=1->(ps.take d).count w=0/\d=ps.idxOf w
 | [],_,h,_=>by cases h
 | p::ps,0,h,_=>by
  cases h;exact⟨rfl,by rw[FZ];simp⟩
 | p::ps,d+1,h,hc=>by
  have h':ps[d]?=some w:=h;by_cases e:p=w
  .subst e
   rw[IZ] at hc;have:ps.count p=0:=by lia
   exact absurd (AH h') (List.count_eq_zero.mp this)
  .rw[GM e] at hc
   obtain⟨h1,h2⟩:=cr h' hc;rw[GH,GM e,FZ,show(p==w)=false from DV.mpr e];exact⟨h1,by simp[h2]⟩
theorem VB:∀ {ps:Z Nat} {d:Nat},ps[d]?=some w->ps.count w=2->((ps.take d).count w=0/\d=Tj ps w)\/((ps.take d).count w=1/\d=Ti ps w)
 | [],_,h,_=>by cases h
 | p::ps,0,h,_=>by
  cases h;exact .inl ⟨rfl,by unfold Tj;rw[FZ];simp⟩
 | p::ps,d+1,h,hc=>by
  have h':ps[d]?=some w:=h;by_cases e:p=w
  .subst e
   rw[IZ] at hc;obtain⟨h1,h2⟩:=cr h' (by lia);refine .inr ⟨by rw[GH,IZ,h1],?_⟩;unfold Ti;rw[FZ,DX];show d+1=0+1+ps.idxOf p;lia
  .rw[GM e] at hc
   have e1:(p::ps).idxOf w=ps.idxOf w+1:=by rw[FZ,show(p==w)=false from DV.mpr e];rfl
   rw[GH,GM e];unfold Tj Ti;rw[e1];rcases VB h' hc with⟨h1,h2⟩ | ⟨h1,h2⟩
   .exact .inl ⟨h1,by unfold Tj at h2;lia⟩
   .refine .inr ⟨h1,?_⟩
    unfold Ti at h2;show d+1=ps.idxOf w+1+1+(ps.drop (ps.idxOf w+1)).idxOf w;lia
theorem VW:∀ {ps:Z Nat},ps.count v=2->v∈ps.drop (ps.idxOf v+1)
 | [],h=>by cases h
 | p::ps,h=>by
  rw[List.count_cons] at h;rw[FZ];by_cases e:p=v
  .subst e
   rw[show(p==p)=true from DX _] at h ⊢;show p∈ps;refine JO.mp ?_;simp at h;lia
  .rw[show(p==v)=false from DV.mpr e] at h ⊢
   show v∈ps.drop (ps.idxOf v+1);exact VW (by simpa using h)
theorem YJ(h:w∈ps):ps[ps.idxOf w]?=some w:=by
 have hl:=GP h;rw[AJ hl,List.getElem_idxOf hl]
theorem cK(h:ps.count w=2):ps[Tj ps w]?=some w:=YJ (JO.mp (by lia))
theorem cs(h:ps.count w=2):ps[Ti ps w]?=some w:=by
 have:=YJ (VW h);rw[GS] at this;exact this
theorem jq(ps:Z Nat)(w:Nat):Tj ps w<Ti ps w:=by unfold Tj Ti;lia
structure OA (n:Nat) (ps:List Nat):Prop where
 len:ps.length=2*n
 cnt:∀ v,ps.count v=if v<n then 2 else 0
theorem OA.mem(h:OA n ps) :v∈ps↔v<n:=by
 rw[<- JO,h.cnt];split<;>lia
theorem OA.two(h:OA n ps)(hv:v<n):ps.count v=2:=by rw[h.cnt,AE hv]
theorem OA.inj{n:Nat}{ps:Z Nat}(h:OA n ps)(w v:Nat)(hw:w<n)(hv:v<n)(e:Tj ps w=Tj ps v\/Ti ps w=Ti ps v\/Tj ps w=Ti ps v):w=v/\Tj ps w≠Ti ps v:=by
 have a1:=cK (h.two hw);have a2:=cs (h.two hw);have b1:=cK (h.two hv);have b2:=cs (h.two hv);have a:w=v:=by
  rcases e with e | e | e
  .rw[e,b1] at a1;exact(BI a1).symm
  .rw[e,b2] at a2;exact(BI a2).symm
  .rw[e,b2] at a1;exact(BI a1).symm
 subst a;exact⟨rfl,by have:=jq ps w;lia⟩
theorem iR(tk:Z (Z Nat))(k x d:Nat)(Y:k<tk.length):(Ng tk k x).getD d []=if d=k then tk.getD d []++[x] else tk.getD d []:=by
 unfold Ng;by_cases e:d=k
 .subst e
  simp[List.getD,AZ,Y]
 .have e':¬ k=d:=λz=>e z.symm
  simp[List.getD,AZ,e,e']
theorem cN(tk:Z (Z Nat))(k x d q:Nat)(Y:k<tk.length):q∈(Ng tk k x).getD d []↔q∈tk.getD d []\/(d=k/\q=x):=by
 rw[iR tk k x d Y];by_cases e:d=k
 .rw[AE e];simp[e]
 .rw[AK e];simp[e]
def NS(s0:Nat)(rs:Z (Nat×Nat))(f g:Nat×Nat->Nat)(tk:Z (Z Nat)):Prop:=∀ d,Ih s0 rs f g d (tk.getD d [])
variable{g:Nat×Nat->Nat}
theorem NS.nil(s0 m:Nat)(f g:Nat×Nat->Nat):NS s0 [] f g (List.replicate m []):=λd q=>by
 have:(List.replicate m ([]:Z Nat)).getD d []=[]:=by
  simp only[List.getD];cases e:(List.replicate m ([]:Z Nat))[d]? with
  | none=>rfl
  | some l=>have:=AH e;rw[(FX.mp this).2];rfl
 rw[this];simp
theorem NS.app(h:NS s0 rs f g tk)(p:Nat×Nat)(hf:f p<tk.length)(hg:g p<tk.length):NS s0 (rs++[p]) f g (Ng (Ng tk (f p) (s0+2*rs.length)) (g p) (s0+2*rs.length+1)):=λd q=>by
 rw[cN _ _ _ _ _ (by rw[Jf];exact hg),cN _ _ _ _ _ hf,h d q];constructor
 .rintro((⟨t,r,e,h1⟩ | ⟨h1,h2⟩) | ⟨h1,h2⟩)
  .exact⟨t,r,by rw[BG (AG.mp e).1];exact e,h1⟩
  .exact⟨rs.length,p,by simp,.inl ⟨h2,h1.symm⟩⟩
  .exact⟨rs.length,p,by simp,.inr ⟨h2,h1.symm⟩⟩
 .rintro⟨t,r,e,h1⟩
  rcases EV t rs.length with hl | hl
  .rw[BG hl] at e
   exact .inl (.inl ⟨t,r,e,h1⟩)
  .rw[CK hl] at e
   have T:t - rs.length=0:=by
    rcases DF (t - rs.length) with z | z
    .exact z
    .rw[GT,AK (by lia)] at e;cases e
   rw[T] at e;cases e;have H:t=rs.length:=by lia
   subst H;rcases h1 with⟨h1,h2⟩ | ⟨h1,h2⟩
   .exact .inl (.inr ⟨h2.symm,h1⟩)
   .exact .inr ⟨h2.symm,h1⟩
theorem Ao{Lq_:Nat}(hb:MV Lq_ B tk)(h:∀ l∈tk,l.Nodup)(k x:Nat)(hx:B<=x):∀ l∈Ng tk k x,l.Nodup:=by
 intro l hl;rcases FP hl with q | q
 .exact h l q
 .rw[q]
  cases e:tk[k]? with
  | none=>simp[List.getD,e]
  | some l' =>
   have hm:=AH e;simp only[List.getD,e,KD];refine GJ.mpr ⟨h l' hm,DB.mpr ⟨by simp,DN⟩,λa ha b m=>?_⟩;have:=hb.lt l' hm a ha;rw[AI.mp m];lia
theorem Ih.perm{d:Nat}(h:Ih s0 rs f g d l)(e:l'.Perm l):Ih s0 rs f g d l':=λq=>by rw[e.mem_iff];exact h q
structure SB (B n:Nat) (s:St3):Prop where
 w:s.w<n
 t:∀ p∈s.takes,p<B
 f:∀ p∈s.fills,p<B
 tn:s.takes.Nodup
 fn:s.fills.Nodup
theorem bd(h:l.Nodup)(hb:∀ p∈l,p<B):l.length<=B:=by
 have:=Mt l (List.range B) h λx hx=>DU.mpr (hb x hx)
 rwa [CZ] at this
structure Gb (B:Nat) (G:G3):Prop where
 w2:G.wires.length<=10
 s1:1<=G.steps.length
 s2:G.steps.length<=24
 st:∀ s∈G.steps,SB B G.wires.length s
 mks:G.marks<2^B
end L2
variable{f:L2.Zzu}{ps:Z (Nat×Nat)}
namespace L2
open PySem PySem.Spec PyProof.Rows
section
variable{fk fv:Zzu}
theorem i7{x y:Int}(e:env[i]?=some (.fz (.int x)))(e2:f env=some (.int y))(q:N (env.set i (.fz (.int (x+y))))):Go (RD i f env) N R:=by
 unfold RD;rw[e,e2];exact⟨q⟩
def Oh(p:Nat×Nat):Z Vz:=[.inl (p.1:Int),.inl (p.2:Int)]
theorem nN:Oh p=Oh q↔p=q:=by
 constructor
 .intro h
  unfold Oh at h;simp only[List.cons.injEq,Sum.inl.injEq,and_true] at h;exact II (by lia) (by lia)
 .rintro rfl;rfl
theorem L7(p:Nat×Nat):QJ (Y1 p)=some (Oh p):=rfl
def Ig(ps:Z (Nat×Nat)):Z (Z Vz×Dat):=ps.map λp=>(Oh p,.bl true)
theorem P8(ps:Z (Nat×Nat))(q:Nat×Nat):Lp (Ig ps) (Oh q)=decide (q∈ps):=by
 unfold Lp Ig;rw[FB,DW,FQ,BU];constructor
 .rintro⟨x,hx,e⟩
  obtain⟨p,hp,rfl⟩:=CS.mp hx;have:Oh p=Oh q:=BK e;rw[<- nN.mp this];exact hp
 .intro h
  exact⟨Oh q,CS.mpr ⟨q,h,rfl⟩,AL rfl⟩
theorem nP(e:env[i]?=some (.gx (.dict (Ig ps))))(e2:f env=some (Y1 q)):RX false i f env=some (.bl (decide (q∈ps))):=by
 unfold RX;rw[e,e2];dsimp only;rw[L7];show some (Dat.bl (Lp (Ig ps) (Oh q)))=_;rw[P8]
theorem l6(e:env[i]?=some (.gx (.dict (Ig ps))))(e2:fv env=some (.bl true))(e3:fk env=some (Y1 q))(hq:q∉ps)(hl:ps.length<=1000)(n:N (env.set i (.gx (.dict (Ig (ps++[q])))))):Go (Xe i fk fv env) N R:=by
 unfold Xe;rw[e,e2,e3];dsimp only;rw[L7];dsimp only;rw[AE ⟨by rw[P8,AF hq],by unfold Ig;rw[AB];exact EL hl (by decide)⟩];have:Ig ps++[(Oh q,Dat.bl true)]=Ig (ps++[q]):=by unfold Ig;rw[BM];rfl
 rw[this];exact⟨n⟩
theorem nQ(e:fk env=some (Y1 q))(e2:fv env=some (.bl true))(n:N (env.set i (.gx (.dict (Ig [q]))))):Go (SF i fk fv env) N R:=by
 unfold SF;rw[e,e2];dsimp only;rw[L7];exact⟨n⟩
theorem eD(h1:fs env=some [.lst xs]):QY fs env=some xs.reverse:=by unfold QY;rw[h1]
end
theorem Ft:∀ xs:Z Dat,(∀ x∈xs,Si x x=true)->OV xs xs=true
 | [],_=>by unfold OV;rfl
 | x::xs,h=>by unfold OV;rw[h x AX,Ft xs λy G=>h y (AR _ G)];rfl
theorem Hq(h:∀ x∈xs,Si x x=true/\pd 19 x=true):pd 20 (.lst xs)=true/\Si (.lst xs) (.lst xs)=true:=by
 constructor
 .show xs.all (pd 19)=true
  exact DH.mpr λx hx=>(h x hx).2
 .unfold Si;exact Ft xs λx hx=>(h x hx).1
theorem cE(h:pd 20 d=true/\Si d d=true):Mq d d=some (.bl true):=by unfold Mq;rw[h.1,h.2];rfl
theorem Iq(i:Int):Si (.int i) (.int i)=true:=by unfold Si;exact DX i
theorem Fo(ps:Z Nat):pd 20 (.lst (Zd ps))=true/\Si (.lst (Zd ps)) (.lst (Zd ps))=true:=Hq λx hx=>by
 rw[Wt] at hx;obtain⟨p,_,rfl⟩:=CS.mp hx;exact⟨Iq _,rfl⟩
def Ca(G:G3)(m k:Nat):Bool:=match G.steps[k]? with
 | some s=>U5 s m
 | none=>false
theorem hL(h:Ca G m k=true):∃ s,G.steps[k]?=some s/\U5 s m=true:=by
 unfold Ca at h;cases e:G.steps[k]? with
 | none=>rw[e] at h;cases h
 | some s=>rw[e] at h;exact⟨s,rfl,h⟩
def PF(G:G3)(m:Nat):Z Nat:=(List.range G.steps.length).filter (Ca G m)
theorem B2{F:Z Rw}(h:af <+: F){r:Rw}(e:af[i]?=some r):F[i]?=some r:=by
 obtain⟨t,rfl⟩:=h;rw[BG (AG.mp e).1];exact e
theorem jn(h:k∈PF G m):Ca G m k=true:=(GQ.mp h).2
def iC(r:Fl)(N C:Ev->Prop)(R:Dat->Prop)(E:Str->Z (Str×XD)->Prop):Prop:=match r with
 | .next e=>N e
 | .cont e=>C e
 | .ret d=>R d
 | .exc _ c fl=>E c fl
 | _=>False
structure L1 (r:Fl) (N C:Ev->Prop) (R:Dat->Prop) (E:Str->List (Str×XD)->Prop):Prop where
 of:iC r N C R E
section
variable{C:Ev->Prop}{E:Str->Z (Str×XD)->Prop}
theorem Go.toE(q:Go r N R):L1 r N C R E:=by
 cases r with
 | next e=>exact⟨q.of⟩
 | ret d=>exact⟨q.of⟩
 | _=>exact q.of.elim
theorem U3(q:L1 (g env) (λe=>L1 (h e) N C R E) C R E):L1 (Zc g h env) N C R E:=by
 unfold Zc;cases e:g env with
 | next e'=>rw[e] at q;exact q.of
 | ret d=>rw[e] at q;exact⟨q.of⟩
 | cont d=>rw[e] at q;exact⟨q.of⟩
 | exc e' c fl=>rw[e] at q;exact⟨q.of⟩
 | _=>rw[e] at q;exact q.of.elim
theorem Tx(q:Go (g env) (λe=>L1 (h e) N C R E) R):L1 (Zc g h env) N C R E:=U3 q.toE
theorem Xc(e:t env=some b)(q1:b=true->L1 (g env) N C R E)(q2:b=false->L1 (h env) N C R E):L1 (J9 t g h env) N C R E:=by
 unfold J9;rw[e];cases b with
 | true=>exact q1 rfl
 | false=>exact q2 rfl
theorem Dx{a:Z Dat->C1 (Z (Str×XD))}(e:fs env=some ds)(e2:a ds=some fl)(q:E c fl):L1 (Uh c a fs env) N C R E:=by
 unfold Uh;rw[e];dsimp only[Option.bind];rw[e2];exact⟨q⟩
theorem ZT(P:Nat->Ev->Prop):∀ (ds:Z Dat) (k:Nat) (env:Ev),P k env->(∀ i d e,ds[i]?=some d->P (k+i) e->∃ e1,gg d e=some e1/\L1 (g e1) (P (k+i+1)) (P (k+i+1)) R E)->(∀ e,P (k+ds.length) e->N e)->L1 (Nk gg g ds env) N C R E
 | [],k,env,h0,_,hN=>⟨hN env h0⟩
 | d::ds,k,env,h0,hs,hN=>by
  obtain⟨e1,a1,a2⟩:=hs 0 d env rfl h0;rw[Nk,a1];dsimp only;have f:∀ e',P (k+0+1) e'->L1 (Nk gg g ds e') N C R E:=λe' h'=>ZT P ds (k+1) e' h' (λi d e hi hp=>by
   have:=hs (i+1) d e (by simpa using hi) (by rw[show k+(i+1)=k+1+i by lia];exact hp);rw[show k+1+i+1=k+(i+1)+1 by lia];exact this) (λe hp=>hN e (by rw[BS,show k+(ds.length+1)=k+1+ds.length by lia];exact hp))
  cases e:g e1 with
  | next e'=>rw[e] at a2;exact f e' a2.of
  | cont e'=>rw[e] at a2;exact f e' a2.of
  | ret d'=>rw[e] at a2;exact⟨a2.of⟩
  | exc e' c fl=>rw[e] at a2;exact⟨a2.of⟩
  | _=>rw[e] at a2;exact a2.of.elim
theorem Bb(P:Nat->Ev->Prop)(e:src env=some ds)(h0:P 0 env)(hs:∀ i d e,ds[i]?=some d->P i e->∃ e1,gg d e=some e1/\L1 (g e1) (P (i+1)) (P (i+1)) R E)(hN:∀ e,P ds.length e->N e):L1 (Uf src gg g env) N C R E:=by
 unfold Uf;rw[e];exact ZT P ds 0 env h0 (λi d e hi hp=>by simpa using hs i d e hi (by simpa using hp)) (λe hp=>hN e (by simpa using hp))
theorem L1.ne(q:L1 r N C R E):r≠.no:=λz=>by rw[z] at q;exact q.of
theorem nZ(W:Nat->Ev->Prop)(h0:W n env)(hs:∀ n e,W n e->(t e=some false/\N e)\/(t e=some true/\L1 (g e) (λe'=>∃ m,m<n/\W m e') (λ_=>False) R E)):L1 (D4 t g env) N C R E:=by
 have aj:∀ n e,W n e->L1 (Vj t g (n+1) e) N C R E:=by
  intro n;induction n using strongRecOn with
  | _ n ih =>
   intro e hw;rcases hs n e hw with⟨a,b⟩ | ⟨a,b⟩
   .rw[Vj,a];exact⟨b⟩
   .rw[Vj,a]
    dsimp only;cases J:g e with
    | next e' =>
     rw[J] at b;obtain⟨m,hm,f⟩:=b.of;have q:=ih m hm e' f;dsimp only;have:=Uy (n - (m+1)) q.ne;rw[show m+1+(n - (m+1))=n by lia] at this;rw[this];exact q
    | ret d=>rw[J] at b;exact⟨b.of⟩
    | exc e' c fl=>rw[J] at b;exact⟨b.of⟩
    | _=>rw[J] at b;exact b.of.elim
 have q:=aj n env h0;rw[Fc q.ne];exact q
theorem Bw{p:Nat}(hp:ds.length=p)(q:L1 (g (Ue n ds)) (λ_=>R .non) (λ_=>False) R E):(∃ d,Yk n p g ds=.ok d/\R d)\/∃ c fl,Yk n p g ds=.exc c fl/\E c fl:=by
 unfold Yk;rw[AE hp];cases e:g (Ue n ds) with
 | next e'=>rw[e] at q;exact .inl ⟨_,rfl,q.of⟩
 | ret d=>rw[e] at q;exact .inl ⟨_,rfl,q.of⟩
 | exc e' c fl=>rw[e] at q;exact .inr ⟨_,_,rfl,q.of⟩
 | _=>rw[e] at q;exact q.of.elim
variable{e' e3:Ev}{sub:Str->Bool}
end
end L2
variable{r:L2.Rw}
namespace L2
open PySem
def Q7(G:G3)(s:St3):Bool:=match G.wires[s.w]? with
 | some u=>u.2
 | none=>false
def Ui(G:G3):Prop:=∀ (i j:Nat) (m l:St3),i≠j->G.steps[i]?=some m->G.steps[j]?=some l->∀ q,q∈m.takes->q∉m.fills->q∈l.takes->Q7 G m=false/\Q7 G l=false
theorem o5{one two:Nat->Nat}(ds:Z Nat)(nd:ds.Nodup)(h:∀ (i:Nat) (s:St3),G.steps[i]?=some s->∃ d:Nat,ds[i]?=some d/\OY G s0 one two rs n d s):Ui G:=by
 intro i j m l c hi hj q hq _ b;exfalso;obtain⟨k,e1,h1⟩:=h i m hi;obtain⟨o,e2,h2⟩:=h j l hj;have hd:k=o:=by
  obtain⟨t,p,H,hp⟩:=(h1.tk q).mp hq;obtain⟨t',e,a,f⟩:=(h2.tk q).mp b;rcases hp with⟨a1,a2⟩ | ⟨a1,a2⟩<;>rcases f with⟨b1,b2⟩ | ⟨b1,b2⟩
  .have:t=t':=by lia
   subst this;rw[H] at a;cases a;rw[<- a2,<- b2]
  .lia
  .lia
  .have:t=t':=by lia
   subst this;rw[H] at a;cases a;rw[<- a2,<- b2]
 subst hd;obtain⟨l1,g1⟩:=AG.mp e1;obtain⟨l2,g2⟩:=AG.mp e2;have g:=HB.mp nd;rcases Nat.lt_or_gt_of_ne c with h0 | h0
 .exact g i j l1 l2 h0 (g1.trans g2.symm)
 .exact g j i l2 l1 h0 (g2.trans g1.symm)
def Fb(G:G3)(g:Nat):G3:=⟨G.wires,G.steps.take g++G.steps.drop (g+1),G.marks,G.code⟩
theorem ZI(l:Z α)(g i:Nat)(hg:g<l.length):(l.take g++l.drop (g+1))[i]?=l[if i<g then i else i+1]?:=by
 by_cases h:i<g
 .rw[AE h,BG (by rw[BN];lia),IG,AE h]
 .rw[AK h,CK (by rw[BN];lia),GS,BN]
  congr 1
  lia
theorem Dj{g:Nat}(h:s∈(Fb G g).steps):s∈G.steps:=by
 rcases CB.mp h with h | h
 .exact List.mem_of_mem_take h
 .exact List.mem_of_mem_drop h
theorem gF(h:LV G I)(g:Nat):LV (Fb G g) I where
 ini:=h.ini
 lev:=λp s hi hs=>h.lev p s hi (Dj hs)
 room:=λp s hi hs=>h.room p s hi (Dj hs)
 nxt:=λp s hi hs=>h.nxt p s hi (Dj hs)
 few:=h.few
theorem hX(h:Ui G){g:Nat}(hg:g<G.steps.length):Ui (Fb G g):=by
 intro i j m l c hi hj;have y:G.steps[if i<g then i else i+1]?=some m:=by rw[<- ZI G.steps g i hg];exact hi
 have a:G.steps[if j<g then j else j+1]?=some l:=by rw[<- ZI G.steps g j hg];exact hj
 refine h _ _ m l ?_ y a;split<;>split<;>lia
def M'(o w:Nat):Nat:=if o<=w then w+1 else w
def L8(c o:Nat)(u:Bool):Nat:=(c % 2^o) ||| ((if u then 1 else 0)*2^o) ||| (c / 2^o*2^(o+1))
theorem Nt(c o:Nat)(u:Bool)(j:Nat):(L8 c o u).testBit j=if j<o then c.testBit j else if j=o then u else c.testBit (j - 1):=by
 unfold L8;rw[DY,DY,Nat.testBit_mod_two_pow,Nat.testBit_mul_two_pow,Nat.testBit_mul_two_pow,Nat.testBit_div_two_pow];by_cases h1:j<o
 .rw[AE h1,AL h1,AF (show ¬ o<=j by lia),AF (show ¬ o+1<=j by lia)];simp
 .rw[AK h1,AF h1]
  by_cases h2:j=o
  .subst h2
   rw[AE rfl,AL (AT _),AF (show ¬ j+1<=j by lia)];cases u<;>simp
  .rw[AK h2,AL (show o<=j by lia),AL (show o+1<=j by lia)]
   have e1:o+(j - (o+1))=j - 1:=by lia
   have T:(if u=true then 1 else 0:Nat).testBit (j - o)=false:=by
    have:j - o≠0:=by lia
    cases u
    .simp
    .rw[AE rfl,show(1:Nat)=2^0 from rfl,DM];simp;lia
   rw[T,Nat.add_comm,e1];simp
theorem nq(c o w:Nat)(u:Bool):L8 (c ^^^ 2^w) o u=L8 c o u ^^^ 2^M' o w:=CT λj=>by
 rw[Nt,Vh c,Vh c,Vh (L8 c o u),Nt];unfold M';by_cases h1:j<o
 .rw[AE h1,AE h1]
  by_cases h2:o<=w
  .rw[AE h2,AF (show ¬ w=j by lia),AF (show ¬ w+1=j by lia)]
  .rw[AK h2]
 .rw[AK h1,AK h1]
  by_cases h3:j=o
  .rw[AE h3,AE h3]
   by_cases h2:o<=w
   .rw[AE h2,AF (show ¬ w+1=j by lia)];simp
   .rw[AK h2,AF (show ¬ w=j by lia)];simp
  .rw[AK h3,AK h3]
   by_cases h2:o<=w
   .rw[AE h2]
    congr 1
    by_cases e:w=j - 1
    .rw[AL e,AL (show w+1=j by lia)]
    .rw[AF e,AF (show ¬ w+1=j by lia)]
   .rw[AK h2,AF (show ¬ w=j - 1 by lia),AF (show ¬ w=j by lia)]
theorem mZ(c o w:Nat)(u:Bool):(L8 c o u).testBit (M' o w)=c.testBit w:=by
 rw[Nt];unfold M';by_cases h:o<=w
 .rw[AE h,AK (by lia),AK (by lia)];congr 1
 .rw[AK h,AE (by lia)]
def Am(o:Nat)(s:St3):St3:=⟨M' o s.w,s.up,s.takes,s.fills⟩
variable{l:Z (Nat×Bool)}
def QF(G:G3)(o:Nat)(x:Str×Bool)(u:Bool):G3:=⟨G.wires.take o++x::G.wires.drop o,G.steps.map (Am o),G.marks,L8 G.code o u⟩
theorem gi(h:LV G I)(o:Nat)(x:Str×Bool)(u:Bool):LV (QF G o x u) λp=>∃ c,I (p.1,c)/\p.2=L8 c o u where
 ini:=⟨G.code,h.ini,rfl⟩
 lev:=by
  rintro p s ⟨c,hi,e⟩ hs hc;obtain⟨r,hr,rfl⟩:=CS.mp hs;rw[e];show(L8 c o u).testBit (M' o r.w)≠r.up;rw[mZ];exact h.lev (p.1,c) r hi hr hc
 room:=by
  rintro p s ⟨c,hi,e⟩ hs hc;obtain⟨r,hr,rfl⟩:=CS.mp hs;exact h.room (p.1,c) r hi hr hc
 nxt:=by
  rintro p s ⟨c,hi,e⟩ hs hc;obtain⟨r,hr,rfl⟩:=CS.mp hs;refine⟨c ^^^ 2^r.w,h.nxt (p.1,c) r hi hr hc,?_⟩;show p.2 ^^^ 2^M' o r.w=_;rw[e,nq]
 few:=by
  intro l hl hp;obtain⟨l',e1,e2,e3⟩:∃ l':Z (Nat×Nat),l'.length=l.length/\l'.Nodup/\∀ q∈l',I q/\(q.1,L8 q.2 o u)∈l:=by
   clear h;induction l with
   | nil=>exact⟨[],rfl,DN,by simp⟩
   | cons p l ih =>
    obtain⟨h1,h2⟩:=DB.mp hl;obtain⟨l',a1,a2,a3⟩:=ih h2 λq hq=>hp q (AR _ hq)
    obtain⟨c,hi,e⟩:=hp p AX;refine⟨(p.1,c)::l',by simp[a1],DB.mpr ⟨λhm=>?_,a2⟩,λq hq=>?_⟩
    .have:=(a3 _ hm).2
     rw[<- e] at this;exact h1 this
    .rcases BA.mp hq with rfl | hq
     .exact⟨hi,by rw[<- e];exact AX⟩
     .exact⟨(a3 q hq).1,AR _ (a3 q hq).2⟩
  have:=h.few l' e2 λq hq=>(e3 q hq).1
  lia
theorem l8(l:Z α)(o w:Nat)(x:α)(ha:o<=l.length):(l.take o++x::l.drop o)[M' o w]?=l[w]?:=by
 unfold M';by_cases h:o<=w
 .rw[AE h,CK (by rw[BN];lia),BN,IX ha,show w+1 - o=(w - o)+1 by lia,HS,GS]
  congr 1;lia
 .rw[AK h,BG (by rw[BN];lia),IG,AE (by lia)]
theorem ci(G:G3)(o:Nat)(x:Str×Bool)(u:Bool)(ha:o<=G.wires.length)(s:St3):Q7 (QF G o x u) (Am o s)=Q7 G s:=by
 unfold Q7;show(match (G.wires.take o++x::G.wires.drop o)[M' o s.w]? with | some u=>u.2 | none=>false)=_;rw[l8 G.wires o s.w x ha]
theorem jv(h:Ui G)(o:Nat)(x:Str×Bool)(u:Bool)(ha:o<=G.wires.length):Ui (QF G o x u):=by
 intro i j m l c hi hj q h1 h2 h3;have y:(G.steps.map (Am o))[i]?=some m:=hi;have a:(G.steps.map (Am o))[j]?=some l:=hj;rw[AM] at y a;cases b:G.steps[i]? with
 | none=>rw[b] at y;cases y
 | some d =>
  cases ej:G.steps[j]? with
  | none=>rw[ej] at a;cases a
  | some e =>
   rw[b] at y;cases y;rw[ej] at a;cases a;rw[ci G o x u ha,ci G o x u ha];exact h i j d e c b ej q h1 h2 h3
structure MA (G G':G3) (z:Nat):Prop where
 ws:G'.wires=G.wires
 ma:G'.marks=G.marks ||| 2^z
 mz:G.marks.testBit z=false
 cd:G'.code=G.code
 len:G'.steps.length=G.steps.length
 st:∀ (i:Nat) (s':St3),G'.steps[i]?=some s'->∃ s:St3,G.steps[i]?=some s/\∃ b:Bool,s'.w=s.w/\s'.up=s.up/\z∉s.takes/\z∉s.fills/\(∀ q,q∈s'.takes↔q∈s.takes\/(b=true/\q=z))/\(∀ q,q∈s'.fills↔q∈s.fills\/(b=true/\q=z))
theorem MA.look(h:MA G G' z):OQ G G' z:=⟨h.len,h.ma,h.mz,h.cd,λs' hs=>by
 obtain⟨i,hi⟩:=ET hs;obtain⟨s,e,b,q⟩:=h.st i s' hi;exact⟨s,AH e,b,q⟩⟩
theorem mh(h:MA G G' z)(hn:Ui G):Ui G':=by
 intro i j m l c hi hj q h1 h2 h3;obtain⟨d,b,k,w1,g,f,zf1,S,f1⟩:=h.st i m hi;obtain⟨e,ej,o,w2,J,zt2,zf2,t2,f2⟩:=h.st j l hj;have k1:Q7 G' m=Q7 G d:=by unfold Q7;rw[h.ws,w1]
 have k2:Q7 G' l=Q7 G e:=by unfold Q7;rw[h.ws,w2]
 rw[k1,k2];have hz:q≠z:=by
  rintro rfl;rcases(S q).mp h1 with a | ⟨a,_⟩
  .exact f a
  .exact h2 ((f1 q).mpr (.inr ⟨a,rfl⟩))
 refine hn i j d e c b ej q ?_ (λa=>h2 ((f1 q).mpr (.inl a))) ?_
 .exact((S q).mp h1).elim id λa=>absurd a.2 hz
 .exact((t2 q).mp h3).elim id λa=>absurd a.2 hz
def Ek(l:Z (Nat×Bool)):Nat:=l.foldl (λc q=>c ^^^ 2^q.1) 0
theorem ji(l:Z (Nat×Bool))(q:Nat×Bool):Ek (l++[q])=Ek l ^^^ 2^q.1:=by unfold Ek;rw[IP];rfl
def E3(n:Nat)(l:Z (Nat×Bool)):Bool:=((List.range l.length).all λi=>match l[i]? with
 | some q=>!((Ek (l.take i)).testBit q.1==q.2)&&decide (q.1<n)
 | none=>true)&&Ek l==0
def Wy(ai own r:Nat):Z Nat:=(List.range own).map λj=>ai+(r+j) % own
def Pc(ai own r:Nat):Z (Nat×Bool):=((Wy ai own r).map λw=>(w,true))++((Wy ai own (r / 2)).map λw=>(w,false))
def XB(k pos:Nat)(a:Z (Nat×Bool)):Z (Nat×Bool):=(k,true)::(a.take pos++(k,false)::a.drop pos)
theorem A6(ai own r:Nat)(h1:1<=own)(h2:own<=2):Wy ai own r=Wy ai own (r % 2):=by
 unfold Wy;refine JD λj _=>?_
 rcases(show own=1\/own=2 by lia) with rfl | rfl<;>lia
def m9(ai own a b:Nat):Z (Nat×Bool):=((Wy ai own a).map λw=>(w,true))++((Wy ai own b).map λw=>(w,false))
theorem m6:([2,3].all λai=>[1,2].all λown=>(List.range ai).all λk=>(List.range 2).all λa=>(List.range 2).all λb=>(List.range (2*own+1)).all λpos=>E3 (ai+own) (XB k pos (m9 ai own a b)))=true:=by ext
theorem eG{own r pos:Nat}(m1:2<=ai)(m2:ai<=3)(o1:1<=own)(o2:own<=2)(Y:k<ai)(hp:pos<=2*own):E3 (ai+own) (XB k pos (Pc ai own r))=true:=by
 have h:=m6;simp only[DH] at h;have:=h ai (by rcases(show ai=2\/ai=3 by lia) with rfl | rfl<;>simp) own (by rcases(show own=1\/own=2 by lia) with rfl | rfl<;>simp) k (DU.mpr Y) (r % 2) (DU.mpr (by lia)) (r / 2 % 2) (DU.mpr (by lia)) pos (DU.mpr (by lia));unfold Pc;rw[A6 ai own r o1 o2,A6 ai own (r / 2) o1 o2];exact this
theorem om(h:E3 n l=true){q:Nat×Bool}(e:l[i]?=some q):(Ek (l.take i)).testBit q.1≠q.2/\q.1<n:=by
 unfold E3 at h;have h1:=DH.mp (DZ.mp h).1 i (DU.mpr (AG.mp e).1);rw[e] at h1;dsimp only at h1;obtain⟨a,b⟩:=DZ.mp h1;exact⟨by simpa using a,BK b⟩
theorem ed(h:E3 n l=true):Ek l=0:=by
 unfold E3 at h;exact DC.mp (DZ.mp h).2
structure CG (ai n sp:Nat) (Lq_:Nat->Nat) (ss:List St3):Prop where
 l0:Lq_ 0=0
 st:∀ s∈ss,∃ x y,x<sp/\y<sp/\x≠y/\s.takes=[x]/\s.fills=[y]/\Lq_ y=Lq_ x ^^^ 2^s.w/\(Lq_ x).testBit s.w≠s.up/\s.w<n/\(x=0->s.w<ai)
 sh:∀ (i j:Nat) (m l:St3),i≠j->ss[i]?=some m->ss[j]?=some l->∀ x,m.takes=[x]->l.takes=[x]->x=0
theorem Aw{l:Z α}{a b:α}(h:(l++[a])[i]?=some b):(i<l.length/\l[i]?=some b)\/(i=l.length/\b=a):=by
 rcases EV i l.length with hl | hl
 .rw[BG hl] at h;exact .inl ⟨hl,h⟩
 .rw[CK hl] at h
  rcases DF (i - l.length) with z | z
  .rw[z] at h;cases h;exact .inr ⟨by lia,rfl⟩
  .rw[GT,AK (by lia)] at h;cases h
theorem CG.add{L':Nat->Nat}(h:CG ai n sp Lq_ ss){b fill:Nat}{up:Bool}(hl:b<sp)(hf:fill<sp+1)(ag:b≠fill)(fr:∀ s∈ss,s.takes=[b]->b=0)(hw:w<n)(hg:b=0->w<ai)(ax:L' 0=0)(D:∀ p,p<sp->L' p=Lq_ p)(h1:L' fill=Lq_ b ^^^ 2^w)(h2:(Lq_ b).testBit w≠up):CG ai n (sp+1) L' (ss++[⟨w,up,[b],[fill]⟩]) where
 l0:=ax
 st:=λs hs=>by
  rcases CB.mp hs with a | a
  .obtain⟨x,y,b1,b2,X,b4,d,e,f,g,k⟩:=h.st s a
   exact⟨x,y,by lia,by lia,X,b4,d,by rw[D x b1,D y b2];exact e,by rw[D x b1];exact f,g,k⟩
  .rw[AI.mp a]
   exact⟨b,fill,by lia,hf,ag,rfl,rfl,by rw[h1,D b hl],by rw[D b hl];exact h2,hw,hg⟩
 sh:=λi j m l c hi hj x e1 e2=>by
  rcases Aw hi with⟨a1,a2⟩ | ⟨a1,a2⟩<;>rcases Aw hj with⟨b1,b2⟩ | ⟨b1,b2⟩
  .exact h.sh i j m l c a2 b2 x e1 e2
  .subst b2
   have ex:b=x:=by simpa using e2
   subst ex;exact fr m (AH a2) e1
  .subst a2
   have ex:b=x:=by simpa using e1
   subst ex;exact fr l (AH b2) e2
  .lia
theorem CG.one(h:CG ai n sp Lq_ G.steps)(hs:sp<=64)(hm:G.marks=1)(hc:G.code=0):NV G 0 Lq_ where
 bl:=by lia
 ma:=hm
 cd:=by rw[hc,h.l0]
 st:=λs F=>by
  obtain⟨x,y,b1,b2,X,b4,d,e,f,_⟩:=h.st s F;exact⟨x,y,by lia,by lia,X,b4,d,e,f⟩
theorem CG.noriv(h:CG ai n sp Lq_ G.steps)(Y:∀ s:St3,s.w<ai->Q7 G s=false):Ui G:=by
 intro i j m l c hi hj q h1 _ h3;obtain⟨x,y,_,_,_,S,_,_,_,_,g1⟩:=h.st m (AH hi);obtain⟨J,d,_,_,_,t2,_,_,_,_,g2⟩:=h.st l (AH hj);rw[S] at h1;rw[t2] at h3;have e1:q=x:=AI.mp h1;have e2:q=J:=AI.mp h3;have a:x=J:=e1.symm.trans e2;subst a;have hx:=h.sh i j m l c hi hj x S t2;exact⟨Y m (g1 hx),Y l (g2 hx)⟩
end L2
namespace K41
open PySem PySem.Spec PyProof.Rows L2
theorem Dq(ns:Z Int)(k:Nat)(Y:k<=100000):∃ r:Nat,W6 [Jh ns,.int (k:Int)]=.ok (.int (r:Int))/\r<1000000000039:=by
 have:=Y9 (n:=3) (p:=2) (ds:=[Jh ns,.int (k:Int)]) (g:=Je) (R:=λd=>∃ r:Nat,d=.int (r:Int)/\r<1000000000039) rfl ?_
 .obtain⟨d,e,r,rfl,h⟩:=this
  exact⟨r,e,h⟩
 show Go (Je [.fz (Jh ns),.fz (.int (k:Int)),.un]) _ _;unfold Je;have B:∀ z:Int,Go (W4 (dO Vc (dO Gi (U 2) (dC (.int 48271))) (dC (.int 1000000000039))) [.fz (Jh ns),.fz (.int (k:Int)),.fz (.int z)]) (λ_=>False) (λd=>∃ r:Nat,d=.int (r:Int)/\r<1000000000039):=λz=>by
  refine Yb (d:=.int (z*48271 % 1000000000039)) (Z5 (Z5 rfl rfl (Hw (.inr (by lia)))) rfl (cD (by lia))) ⟨(z*48271 % 1000000000039).toNat,?_,?_⟩
  .congr 1;lia
  .lia
 refine Z9 (Zg (d:=.int (7919*(k:Int)+12345)) (Z5 (Z5 rfl rfl (Hw (.inl (by lia)))) rfl rfl) ?_);refine Z9 (U6 (b:=decide ((k:Int)<((ns.map Dat.int).length:Int))) rfl (λhb=>?_) (λhb=>?_))
 .have s:k<ns.length:=by have:=BK hb;rw[AB] at this;lia
  have D:Yq (Jh ns) (.int (k:Int))=some (.int ns[k]):=Uo (by simp[s]);refine Zg (d:=.int (7919*(k:Int)+12345+ns[k]*6364136223846793005)) (Z5 rfl (Z5 (Z5 rfl rfl D) rfl (Hw (.inr (by lia)))) rfl) ?_;exact(B _).mono (λ_ h=>h.elim) λ_ h=>h
 .refine W9 ?_
  exact(B _).mono (λ_ h=>h.elim) λ_ h=>h
theorem Bp(c k:Nat):∃ z:Str,Vl [.int (c:Int),.int (k:Int)]=.ok (.str z):=by
 have:=Y9 (n:=8) (p:=2) (ds:=[.int (c:Int),.int (k:Int)]) (g:=M8) (R:=λd=>∃ z:Str,d=.str z) rfl ?_
 .obtain⟨d,e,z,rfl⟩:=this
  exact⟨z,e⟩
 unfold M8;obtain⟨n,hn,ar⟩:∃ n:Nat,2+c % 7=n/\n<=8:=⟨_,rfl,by lia⟩;refine Z9 (Zg (d:=.str Ju) rfl ?_);refine Z9 (Zg (d:=.int (n:Int)) (by rw[<- hn];exact Z5 rfl (Z5 rfl rfl (Uj c 7)) (Va 2 _)) ?_);refine Z9 (Zg (Z5 (Z5 rfl rfl (V8 c 7)) rfl (Uj (c / 7) n (by lia))) ?_);refine Z9 (Zg (d:=.str "") rfl ?_);generalize c / 7 % n=o;refine Z9 (Wq (ds:=rng 0 n) (λi e=>∃ (z:Str) (l A:LQ),e=[.fz (.int (c:Int)),.fz (.int (k:Int)),.fz (.str Ju),.fz (.int (n:Int)),.fz (.int (o:Int)),.fz (.str z),l,A]/\z.length=i) (W3 (Z2 rfl rfl) (by lia)) ⟨"",.un,.un,rfl,by decide⟩ ?_ ?_)
 .rintro i d e hi ⟨z,l,A,rfl,hz⟩
  obtain⟨W,rfl⟩:=Ud hi;rw[DL];refine⟨_,rfl,?_⟩;refine Z9 (Zg (d:=.int ((0:Nat):Int)) rfl ?_);have B:∀ q:Nat,Go (Zt 5 (dO Ym (U 5) (dO Yq (U 2) (dO Vc (dO Ym (dO Ym (dO Wj (U 0) (dC (.int 49))) (dO Gi (dC (.int 5)) (U 6))) (dO Gi (dC (.int 7)) (U 7))) (dC (.int 26))))) [.fz (.int (c:Int)),.fz (.int (k:Int)),.fz (.str Ju),.fz (.int (n:Int)),.fz (.int (o:Int)),.fz (.str z),.fz (.int (i:Int)),.fz (.int (q:Int))]) (λe=>∃ (z:Str) (l A:LQ),e=[.fz (.int (c:Int)),.fz (.int (k:Int)),.fz (.str Ju),.fz (.int (n:Int)),.fz (.int (o:Int)),.fz (.str z),l,A]/\z.length=i+1) (λd=>∃ z:Str,d=.str z):=λq=>by
   have hx:=mG (j:=(((c / 49+5*i+7*q) % 26:Nat):Int)) (by lia) (by lia);refine Zg (Z5 rfl (Z5 rfl (Z5 (Z5 (Z5 (Z5 rfl rfl (V8 c 49)) (Z5 rfl rfl (UM 5 i (by lia))) (Va _ _)) (Z5 rfl rfl (UM 7 q (by lia))) (Va _ _)) rfl (Uj _ 26)) hx) (XX (by show z.length+1<=_;lia))) ?_;exact⟨_,_,_,rfl,by rw[Pg];show _+1=_;lia⟩
  refine Z9 (U6 (We (Z5 rfl rfl (NC i o))) (λhb=>?_) (λhb=>?_))
  .exact Zg rfl (B k)
  .exact W9 (B 0)
 .rintro e ⟨z,l,A,rfl,hz⟩
  rw[Ta] at hz;refine Z9 (U6 (b:=decide (z∈(["given","made","up","down","start"]:Z Str))) (We (Z5 rfl rfl (f' z ["given","made","up","down","start"]))) (λhb=>?_) (λhb=>?_))
  .refine Zg (Z5 (R0 rfl (Vd rfl) rfl (mn z _ _)) rfl (XX ?_)) (Yb rfl ⟨_,rfl⟩)
   have:=HG z (some 1) none;show(Txt.slice z (some 1) none).length+1<=_;lia
  .exact W9 (Yb rfl ⟨_,rfl⟩)
theorem ig(ns:Z Int)(first n:Nat)(hf:first<=1000)(hn:n<=10):∃ ps:Z Nat,S8 [Jh ns,.int (first:Int),.int (n:Int)]=.ok (.lst (Zd ps))/\OA n ps:=by
 have:=Y9 (n:=8) (p:=3) (ds:=[Jh ns,.int (first:Int),.int (n:Int)]) (g:=Qs) (R:=λd=>∃ ps:Z Nat,d=.lst (Zd ps)/\OA n ps) rfl ?_
 .obtain⟨d,e,z,rfl,h⟩:=this
  exact⟨z,e,h⟩
 unfold Qs;refine Z9 (Tf (ds:=Zd []) rfl ?_);refine Z9 (Wq (ds:=rng 0 n) (λi e=>∃ (ps:Z Nat) (f w l A:LQ),e=[.fz (Jh ns),.fz (.int (first:Int)),.fz (.int (n:Int)),.ow (Zd ps),f,w,l,A]/\OA i ps) (W3 (Z2 rfl rfl) (by lia)) ⟨[],.un,.un,.un,.un,rfl,rfl,λv=>by simp⟩ ?_ ?_)
 .rintro i d e hi ⟨ps,f,w,l,A,rfl,ho⟩
  obtain⟨W,rfl⟩:=Ud hi;rw[DL];refine⟨_,rfl,?_⟩;obtain⟨c,ec,lc⟩:=Dq ns (first+i) (by lia);have hl:=ho.len;refine Z9 (Zg (Zh (xs:=[Jh ns,.int ((first+i:Nat):Int)]) (Z2 rfl (Z2 (Z5 rfl rfl (Va _ _)) rfl)) ec) ?_);refine Z9 (Zg (Z5 rfl (Z5 (Yn (Z2 rfl rfl) (F9 ps)) rfl (Va _ 1)) (Uj c (ps.length+1) (by lia))) ?_);have ha:c % (ps.length+1)<=ps.length:=by have:=EM c (show 0<ps.length+1 by lia);lia
  generalize c % (ps.length+1)=a at ha;refine Z9 (Uk (ds:=Zd ps) (as:=[.int (a:Int),.int (i:Int)]) rfl rfl (N0 ps a i ha (by lia)) ?_);have I:=Jm ps a i;have ar:=K8 ps a i;generalize ps.take a++i::ps.drop a=qs at I ar;refine Z9 (Zg (Z5 (Z5 rfl rfl (V8 c 64)) (Z5 (Yn (Z2 rfl rfl) (F9 qs)) rfl (TC _ a (by lia))) (Uj (c / 64) (qs.length - a) (by lia))) ?_);have hb:c / 64 % (qs.length - a)<qs.length - a:=EM _ (by lia);generalize c / 64 % (qs.length - a)=b at hb;refine Uk (ds:=Zd qs) (as:=[.int ((a+1+b:Nat):Int),.int (i:Int)]) rfl (Z2 (Z5 (Z5 rfl rfl (Va a 1)) rfl (Va _ b)) (Z2 rfl rfl)) (N0 qs (a+1+b) i (by lia) (by lia)) ?_;have af:=Jm qs (a+1+b) i;have ak:=K8 qs (a+1+b) i;refine⟨_,_,_,_,_,rfl,by lia,λv=>?_⟩;rw[ak,ar,ho.cnt];by_cases h1:i=v
  .subst h1;rw[AK (by lia),AE rfl,AE (by lia)]
  .rw[AK h1]
   by_cases h2:v<i
   .rw[AE h2,AE (by lia)]
   .rw[AK h2,AK (by lia)]
 .rintro e ⟨ps,f,w,l,A,rfl,ho⟩
  rw[Ta] at ho;exact Dz rfl ⟨ps,rfl,ho⟩
structure LZ (n m:Nat) (qs:List (Nat×Nat)):Prop where
 len:qs.length<=m
 lt:∀ q∈qs,q.1<q.2/\q.2<n
theorem LZ.app(h:LZ n m qs)(h':LZ n m' rs):LZ n (m+m') (qs++rs):=⟨by rw[AQ];have:=h.len;have:=h'.len;lia,λq hq=>(CB.mp hq).elim (h.lt q) (h'.lt q)⟩
theorem LZ.sub(h:LZ n m qs)(s:rs.Sublist qs):LZ n m rs:=⟨BC s.length_le h.len,λq hq=>h.lt q (s.subset hq)⟩
theorem LZ.one(h1:q.1<q.2)(h2:q.2<n):LZ n 1 [q]:=⟨AT _,λp hp=>by rw[AI.mp hp];exact⟨h1,h2⟩⟩
theorem LZ.mono(h:LZ n m qs)(hm:m<=m'):LZ n m' qs:=⟨BC h.len hm,h.lt⟩
theorem LZ.nil(n m:Nat):LZ n m []:=⟨CV _,λq hq=>by cases hq⟩
theorem mY(ns:Z Int)(first ai size:Nat)(hf:first<=1000)(hm:ai<=100)(hs:0<size):∃ qs:Z (Nat×Nat),Mb [Jh ns,.int (first:Int),.int (ai:Int),.int (size:Int)]=.ok (.lst (qs.map Y1))/\LZ size ai qs:=by
 have:=Y9 (n:=9) (p:=4) (ds:=[Jh ns,.int (first:Int),.int (ai:Int),.int (size:Int)]) (g:=Q0) (R:=λd=>∃ qs:Z (Nat×Nat),d=.lst (qs.map Y1)/\LZ size ai qs) rfl ?_
 .obtain⟨d,e,z,rfl,h⟩:=this
  exact⟨z,e,h⟩
 unfold Q0;refine Z9 (Tf (ds:=([]:Z (Nat×Nat)).map Y1) rfl ?_);refine Z9 (Wq (ds:=rng 0 ai) (λi e=>∃ (qs:Z (Nat×Nat)) (w l A F:LQ),e=[.fz (Jh ns),.fz (.int (first:Int)),.fz (.int (ai:Int)),.fz (.int (size:Int)),.ow (qs.map Y1),w,l,A,F]/\LZ size i qs) (W3 (Z2 rfl rfl) (by lia)) ⟨[],.un,.un,.un,.un,rfl,LZ.nil _ _⟩ ?_ ?_)
 .rintro i d e hi ⟨qs,w,l,A,F,rfl,hq⟩
  obtain⟨W,rfl⟩:=Ud hi;rw[DL];refine⟨_,rfl,?_⟩;obtain⟨c,ec,lc⟩:=Dq ns (first+i) (by lia);refine Z9 (Zg (Zh (xs:=[Jh ns,.int ((first+i:Nat):Int)]) (Z2 rfl (Z2 (Z5 rfl rfl (Va _ _)) rfl)) ec) ?_);refine Z9 (Zg (Z5 rfl rfl (Uj c size hs)) ?_);refine Z9 (Zg (Z5 (Z5 rfl rfl (V8 c 64)) rfl (Uj _ size hs)) ?_);have ha:c % size<size:=EM _ hs;have hb:c / 64 % size<size:=EM _ hs;generalize c % size=a at ha;generalize c / 64 % size=b at hb;obtain⟨z,hz⟩:=Fu (min a b,max a b) qs;have H:∀ env:Ev,env[7]?=some (.fz (.int (a:Int)))->env[8]?=some (.fz (.int (b:Int)))->Yt (O (dF QN (O (U 7) (O (U 8) Zb))) (O (dF OJ (O (U 7) (O (U 8) Zb))) Zb)) env=some (Y1 (min a b,max a b)):=λenv h7 r=>by
   have s:U 7 env=some (.int (a:Int)):=by unfold U;rw[h7]
   have I:U 8 env=some (.int (b:Int)):=by unfold U;rw[r]
   exact Y0 (Z2 (Yn (Z2 s (Z2 I rfl)) (kr a b)) (Z2 (Yn (Z2 s (Z2 I rfl)) (kA a b)) rfl))
  refine U6 (Ri (We (Z5 rfl rfl (db a b))) λ_=>We (Z5 (H _ rfl rfl) rfl hz)) (λhb=>?_) (λ_=>W9 ⟨qs,_,_,_,_,rfl,hq.mono (by lia)⟩);have ag:a≠b:=by
   have:=(DZ.mp hb).1;simpa using this
  refine Uk (ds:=qs.map Y1) (as:=[Y1 (min a b,max a b)]) (ds':=(qs++[(min a b,max a b)]).map Y1) rfl (Z2 (H _ rfl rfl) rfl) (by rw[Uz (by rw[AB];have:=hq.len;lia),BM];rfl) ⟨_,_,_,_,_,rfl,hq.app (LZ.one (by show min a b<max a b;lia) (by show max a b<_;lia))⟩
 .rintro e ⟨qs,w,l,A,F,rfl,hq⟩
  rw[Ta] at hq;exact Dz rfl ⟨qs,rfl,hq⟩
end K41
set_option maxHeartbeats 1000000
namespace K41
open PySem PySem.Spec PyProof.Rows L2
theorem jx(p q:Nat×Nat):Si (Y1 p) (Y1 q)=decide (p=q):=by
 show(((p.1:Int)==(q.1:Int))&&(((p.2:Int)==(q.2:Int))&&true))=_;rw[DW];simp only[AW,DC,BU,and_true];constructor
 .rintro⟨h1,h2⟩;exact II (by lia) (by lia)
 .rintro rfl;exact⟨rfl,rfl⟩
theorem ls(p q:Nat×Nat):Nz (Y1 p) (Y1 q)=some (.bl (!decide (p=q))):=by
 unfold Nz;rw[Nn,Nn,jx];rfl
theorem pL(ps:Z Nat)(t:Nat)(h:t<=ps.length):Ja (Zd ps) (some (t:Int)) none=Zd (ps.drop t):=by
 unfold Zd;rw[Qu,Qu,Is ps t h]
theorem bx(b:Bool):Mq (.int (if b then 1 else 0)) (.int 0)=some (.bl (!b)):=by cases b<;>rfl
theorem TZ{b:Nat}(h1:a<2^k)(h2:b<2^k):a ||| b<2^k:=Nat.or_lt_two_pow h1 h2
structure DS (s0:Nat) (rs:List (Nat×Nat)) (ps:List Nat) (code d:Nat) (s:St3):Prop where
 w:ps[d]?=some s.w
 tk:Ih s0 rs (·.2) (·.1) d s.takes
 fl:Ih s0 rs (·.1) (·.2) d s.fills
 up:s.up=!(code.testBit s.w ^^ decide ((ps.take d).count s.w % 2=1))
theorem hY(ns:Z Int)(first n ai:Nat)(hf:first<=900)(ar:1<=n)(aI:n<=4)(hm:ai<=5):∃ (G:G3) (s0:Nat) (ps:Z Nat) (rs:Z (Nat×Nat)),Rr [Jh ns,.int (first:Int),.int (n:Int),.int (ai:Int)]=.ok G.d/\RG G n s0 (Tj ps) (Ti ps) rs/\Gb 54 G/\Ui G/\G.wires.length=n/\2<=G.steps.length/\G.code<2^n/\rs.length<=17:=by
 have:=Y9 (n:=24) (p:=4) (ds:=[Jh ns,.int (first:Int),.int (n:Int),.int (ai:Int)]) (g:=Qw) (R:=λd=>∃ (G:G3) (s0:Nat) (ps:Z Nat) (rs:Z (Nat×Nat)),d=G.d/\RG G n s0 (Tj ps) (Ti ps) rs/\Gb 54 G/\Ui G/\G.wires.length=n/\2<=G.steps.length/\G.code<2^n/\rs.length<=17) rfl ?_
 .obtain⟨d,e,z,s0,ps,rs,rfl,h⟩:=this
  exact⟨z,s0,ps,rs,e,h⟩
 unfold Qw;obtain⟨ps,eo,ho⟩:=ig ns first n (by lia) (by lia);have ac:=ho.len;refine Z9 (Zg (Zh (xs:=[Jh ns,.int (first:Int),.int (n:Int)]) rfl eo) ?_);refine Z9 (Zg (Z5 rfl rfl (UM 2 n (by lia))) ?_);obtain⟨m,aP⟩:∃ m:Nat,2*n=m:=⟨_,rfl⟩;rw[aP] at ac ⊢;obtain⟨c,ec,lc⟩:=Dq ns (first+n) (by lia);refine Z9 (Zg (Zh (xs:=[Jh ns,.int ((first+n:Nat):Int)]) (Z2 rfl (Z2 (Z5 rfl rfl (Va _ _)) rfl)) ec) ?_);obtain⟨qs,eq,hq⟩:=mY ns (first+n+1) ai m (by lia) (by lia) (by lia);refine Z9 (Zg (Zh (xs:=[Jh ns,.int ((first+n+1:Nat):Int),.int (ai:Int),.int (m:Int)]) (Z2 rfl (Z2 (Z5 (Z5 rfl rfl (Va _ _)) rfl (Va _ 1)) rfl)) eq) ?_);refine Z9 (Go.mono (N:=λe=>∃ rs:Z (Nat×Nat),e=[.fz (Jh ns),.fz (.int (first:Int)),.fz (.int (n:Int)),.fz (.int (ai:Int)),.fz (.lst (Zd ps)),.fz (.int (m:Int)),.fz (.int (c:Int)),.fz (.lst (rs.map Y1)),.un,.un,.un,.un,.un,.un,.un,.un,.un,.un,.un,.un,.un,.un,.un,.un]/\LZ m 12 rs) ?_ ?_ (λ_ h=>h))
 .refine U6 (We (Z5 (Z5 rfl rfl (Uj c 3)) rfl (NC _ 0))) (λ_=>?_) (λ_=>W9 ⟨qs,rfl,hq.mono (by lia)⟩)
  obtain⟨ks,hs,hc⟩:=Fi (g:=Zz 0) (t:=dB (dO PQ (Yt (O (U 0) (O (dO Ym (U 0) (dC (.int 1))) Zb))) (U 1))) (f:=Yt (O (U 0) (O (dO Ym (U 0) (dC (.int 1))) Zb))) (env:=[.un,.fz (.lst (qs.map Y1))]) (λk:Nat=>Dat.int (k:Int)) (λk:Nat=>Y1 (k,k+1)) (List.range (m - 1)) λk _=>by
   obtain⟨b,hb⟩:=Fu (k,k+1) qs;have H:Yt (O (U 0) (O (dO Ym (U 0) (dC (.int 1))) Zb)) [.fz (.int (k:Int)),.fz (.lst (qs.map Y1))]=some (Y1 (k,k+1)):=Y0 (Z2 rfl (Z2 (Z5 rfl rfl (Va k 1)) rfl));exact⟨_,b,rfl,We (Z5 H rfl hb),H⟩
  rw[<- Dw] at hc;have hp:LZ m 7 (ks.map λk=>(k,k+1)):=⟨by have:=hs.length_le;rw[CZ] at this;rw[AB];lia,λq hq=>by
   obtain⟨k,Y,rfl⟩:=CS.mp hq;have:=DU.mp (hs.subset Y);exact⟨by show k<k+1;lia,by show k+1<m;lia⟩⟩
  have I:=hq.len;have af:=hp.len;rw[AB] at af;refine Zg (Z5 rfl (Wk (W0 (xs:=rng 0 (m - 1)) (W3 (Z2 (Z5 rfl rfl (TC m 1 (by lia))) rfl) (by lia)) rfl hc)) (O1 (by rw[AB,AB];lia))) ⟨qs++ks.map λk=>(k,k+1),by rw[BM,FB];rfl,(hq.app hp).mono (by lia)⟩
 rintro e ⟨rs,rfl,hr⟩;clear eq hq qs;refine Z9 (Wq (ds:=rng 0 n) (λi e=>∃ (rs:Z (Nat×Nat)) (F Q D:LQ),e=[.fz (Jh ns),.fz (.int (first:Int)),.fz (.int (n:Int)),.fz (.int (ai:Int)),.fz (.lst (Zd ps)),.fz (.int (m:Int)),.fz (.int (c:Int)),.fz (.lst (rs.map Y1)),F,Q,D,.un,.un,.un,.un,.un,.un,.un,.un,.un,.un,.un,.un,.un]/\LZ m (12+i) rs/\∀ w,w<i->(Tj ps w,Ti ps w)∈rs) (W3 (Z2 rfl rfl) (by lia)) ⟨rs,.un,.un,.un,rfl,hr,λw hw=>absurd hw (by lia)⟩ ?_ ?_)
 .rintro i d e hi ⟨rs,F,Q,D,rfl,hr,aA⟩
  obtain⟨W,rfl⟩:=Ud hi;rw[DL];refine⟨_,rfl,?_⟩;have u:i∈ps:=ho.mem.mpr W;have aJ:ps.idxOf i<ps.length:=GP u;have h2:=VW (ho.two W);have au:Ti ps i=ps.idxOf i+1+(ps.drop (ps.idxOf i+1)).idxOf i:=rfl;have aC:Tj ps i=ps.idxOf i:=rfl;refine Z9 (Zg (YW rfl rfl rfl (Op ps i u)) ?_);generalize ps.idxOf i=one at aJ h2 au aC;have aD:(ps.drop (one+1)).idxOf i<(ps.drop (one+1)).length:=GP h2;rw[CA] at aD;refine Z9 (Zg (Z5 (Z5 rfl rfl (Va one 1)) (YW (x:=.lst (Zd (ps.drop (one+1)))) (R0 rfl (Vd (Z5 rfl rfl (Va one 1))) rfl (by rw[Ak,pL ps _ (by lia)])) rfl rfl (Op _ i h2)) (Va _ _)) ?_);generalize (ps.drop (one+1)).idxOf i=x2 at aD au;have hc:=Jo (g:=Zz 0) (t:=dB (dO Nz (U 0) (Yt (O (U 1) (O (U 2) Zb))))) (f:=U 0) (env:=[.un,.fz (.int (one:Int)),.fz (.int ((one+1+x2:Nat):Int))]) Y1 Y1 (λq=>!decide (q=(one,one+1+x2))) rs λq _ =>
   ⟨_,rfl,We (Z5 rfl (Y0 rfl) (ls q (one,one+1+x2))),rfl⟩
  have hs:(rs.filter λq=>!decide (q=(one,one+1+x2))).Sublist rs:=List.filter_sublist;have hl:=hs.length_le;have af:=hr.len;refine Zg (Z5 (Wk (W0 (xs:=rs.map Y1) rfl rfl hc)) (Wk (Qq (xs:=[Y1 (one,one+1+x2)]) (Z2 (Y0 rfl) rfl))) (O1 (by rw[AB];show _+1<=_;lia))) ⟨(rs.filter λq=>!decide (q=(one,one+1+x2)))++[(one,one+1+x2)],_,_,_,by rw[BM];rfl,?_,?_⟩
  .exact((hr.sub hs).app (LZ.one (by show one<one+1+x2;lia) (by show one+1+x2<m;lia))).mono (by lia)
  .intro w hw
   by_cases e:(Tj ps w,Ti ps w)=(one,one+1+x2)
   .rw[e];exact BX _ (AI.mpr rfl)
   .have aQ:w<i:=by
     rcases EV w i with h | h
     .exact h
     .have:w=i:=by lia
      subst this;exact absurd (II aC au) e
    exact CP _ (GQ.mpr ⟨aA w aQ,by rw[AF e];rfl⟩)
 rintro e ⟨rs,F,Q,D,rfl,hr,aA⟩;rw[Ta] at hr aA;refine Z9 (ZJ (ds:=Zd ps) rfl ?_);refine Z9 (ZJ (ds:=Zd ps) rfl ?_);rw[AB,AB,ac,oE];refine Z9 (Zg (d:=.int ((0:Nat):Int)) rfl ?_);refine Z9 (Zg (Z5 (Z5 rfl rfl (V8 c 3)) rfl (Uj _ 20)) ?_);have aR:c / 3 % 20<20:=EM _ (by lia);generalize c / 3 % 20=s0 at aR;refine Z9 (Wq (ds:=rs.map Y1) (λi e=>∃ (tk fl:Z (Z Nat)) (mk:Nat) (A B:LQ),e=[.fz (Jh ns),.fz (.int (first:Int)),.fz (.int (n:Int)),.fz (.int (ai:Int)),.fz (.lst (Zd ps)),.fz (.int (m:Int)),.fz (.int (c:Int)),.fz (.lst (rs.map Y1)),F,Q,D,.gx (.nest (tk.map Zd)),.gx (.nest (fl.map Zd)),.fz (.int (mk:Int)),.fz (.int ((s0+2*i:Nat):Int)),A,B,.un,.un,.un,.un,.un,.un,.un]/\tk.length=m/\fl.length=m/\MV (2*i) (s0+2*i) tk/\MV (2*i) (s0+2*i) fl/\mk<2^(s0+2*i)/\(∀ l∈tk,l.Nodup)/\(∀ l∈fl,l.Nodup)/\NS s0 (rs.take i) (·.2) (·.1) tk/\NS s0 (rs.take i) (·.1) (·.2) fl/\∀ q,mk.testBit q=true↔∃ t,t<i/\q=s0+2*t+1) rfl ⟨_,_,0,.un,.un,rfl,EZ,EZ,(MV.nil m).mono (by lia) (by lia),(MV.nil m).mono (by lia) (by lia),GZ _,λl h=>by rw[(FX.mp h).2];exact DN,λl h=>by rw[(FX.mp h).2];exact DN,by rw[LC];exact NS.nil _ _ _ _,by rw[LC];exact NS.nil _ _ _ _,λq=>by simp⟩ ?_ ?_)
 .rintro i d e hi ⟨tk,fl,mk,A,B,rfl,aK,P,ht,X,ao,aF,aG,aw,ax,aB⟩
  rw[AM] at hi;obtain⟨q,hq,rfl⟩:=map_some hi;have aL:=(AG.mp hq).1;have aM:=hr.lt q (AH hq);have aS:=hr.len;refine⟨_,rfl,?_⟩;have ak:=ht.mono (AT _) (show s0+2*i<=s0+2*i+2 by lia);have am:=X.mono (AT _) (show s0+2*i<=s0+2*i+2 by lia);refine Z9 (Nr rfl am (by lia) (k:=q.1) (by lia) rfl rfl ?_);refine Z9 (Nr rfl ak (by lia) (k:=q.2) (by lia) rfl rfl ?_);have aN:=ak.app q.2 (s0+2*i) (by lia);have ah:=am.app q.1 (s0+2*i) (by lia);refine Z9 (Nr (x:=s0+2*i+1) rfl ah (by lia) (k:=q.2) (by rw[Jf];lia) rfl rfl ?_);refine Z9 (Nr (x:=s0+2*i+1) rfl aN (by lia) (k:=q.1) (by rw[Jf];lia) rfl rfl ?_);have aT:=aN.app q.1 (s0+2*i+1) (by lia);have aU:=ah.app q.2 (s0+2*i+1) (by lia);have aV:=(ht.mono (AT _) (show s0+2*i<=s0+2*i+1 by lia)).app q.2 (s0+2*i) (by lia);have aW:=(X.mono (AT _) (show s0+2*i<=s0+2*i+1 by lia)).app q.1 (s0+2*i) (by lia);have aO:(rs.take i).length=i:=by rw[BN];lia
  have aE:rs.take (i+1)=rs.take i++[q]:=by rw[FY,hq];rfl
  refine Z9 (Zg (Z5 rfl (Z5 rfl (Z5 rfl rfl (Va _ 1)) (OI (s0+2*i+1) (by lia))) (OC mk _)) ?_);refine Zg (Z5 rfl rfl (Va _ 2)) ⟨_,_,_,_,_,rfl,by rw[Jf,Jf,aK],by rw[Jf,Jf,P],aT.mono (by lia) (by lia),aU.mono (by lia) (by lia),?_,?_,?_,?_,?_,?_⟩
  .exact TZ (AO ao (DA (by lia) (by lia))) (IY (by lia) (by lia))
  .exact Ao aV (Ao ht aF _ _ (AT _)) _ _ (AT _)
  .exact Ao aW (Ao X aG _ _ (AT _)) _ _ (AT _)
  .have:=aw.app q (by show q.2<_;lia) (by show q.1<_;lia)
   rw[aO] at this;rw[aE];exact this
  .have:=ax.app q (by show q.1<_;lia) (by show q.2<_;lia)
   rw[aO] at this;rw[aE];exact this
  .intro j
   rw[DY,GE,aB,DM,BU];constructor
   .rintro(⟨t,h1,h2⟩ | h1)
    .exact⟨t,by lia,h2⟩
    .exact⟨i,by lia,h1.symm⟩
   .rintro⟨t,h1,h2⟩
    rcases EV t i with h | h
    .exact .inl ⟨t,h,h2⟩
    .have:t=i:=by lia
     subst this;exact .inr h2.symm
 rintro e ⟨tk,fl,mk,A,B,rfl,aK,P,ht,X,ao,aF,aG,aw,ax,aB⟩;rw[AB] at ht X ao aw ax aB ⊢;rw[BZ (AT _)] at aw ax;have aS:=hr.len;have ht:=ht.mono (L':=32) (B':=54) (by lia) (by lia);have X:=X.mono (L':=32) (B':=54) (by lia) (by lia);have ao:mk<2^54:=AO ao (DA (by lia) (by lia));refine Z9 (Zg (Z5 (Z5 rfl rfl (V8 c 60)) (Z5 rfl rfl (OI n (by lia))) (Uj _ (2^n) (GZ _))) ?_);have ay:c / 60 % 2^n<2^n:=EM _ (GZ _);generalize c / 60 % 2^n=code at ay;refine Z9 (Zg rfl ?_);refine Z9 (Tf (ds:=([]:Z St3).map St3.d) rfl ?_);generalize (s0+2*rs.length)=s9;refine Z9 (Wq (ds:=Qx 0 (Zd ps)) (λi e=>∃ (ss:Z St3) (seen:Nat) (F aH:LQ),e=[.fz (Jh ns),.fz (.int (first:Int)),.fz (.int (n:Int)),.fz (.int (ai:Int)),.fz (.lst (Zd ps)),.fz (.int (m:Int)),.fz (.int (c:Int)),.fz (.lst (rs.map Y1)),F,Q,D,.gx (.nest (tk.map Zd)),.gx (.nest (fl.map Zd)),.fz (.int (mk:Int)),.fz (.int (s9:Int)),A,B,.fz (.int (code:Int)),.fz (.int (seen:Int)),.ow (ss.map St3.d),aH,.un,.un,.un]/\ss.length=i/\(∀ v,seen.testBit v=(code.testBit v ^^ decide ((ps.take i).count v % 2=1)))/\(∀ j s,ss[j]?=some s->DS s0 rs ps code j s)/\∀ s∈ss,SB 54 n s) rfl ⟨[],code,F,.un,rfl,rfl,λv=>by simp,λj s h=>(by simp at h),by simp⟩ ?_ ?_)
 .rintro i d e hi ⟨ss,seen,F,aH,rfl,E,ap,o,az⟩
  obtain⟨x,hx,rfl⟩:=J7 hi;obtain⟨w,hw,rfl⟩:=Ht hx;have aL:=(AG.mp hw).1;have ag:w<n:=ho.mem.mp (AH hw);refine⟨_,rfl,?_⟩;have e1:tk[i]?=some tk[i]:=AJ (by lia);have e2:fl[i]?=some fl[i]:=AJ (by lia);have n1:=aw i;have n2:=ax i;rw[show tk.getD i []=tk[i] by rw[List.getD,e1];rfl] at n1;rw[show fl.getD i []=fl[i] by rw[List.getD,e2];rfl] at n2;generalize al:tk[i]=tl at e1 n1;generalize hfl':fl[i]=aq at e2 n2;have S:=ht.len _ (AH e1);have t2:=ht.lt _ (AH e1);have f1:=X.len _ (AH e2);have f2:=X.lt _ (AH e2);obtain⟨ta,ea,pa⟩:=Hm tl (by lia);obtain⟨fa,C,pb⟩:=Hm aq (by lia);refine Z9 (Uk (ds:=ss.map St3.d) (as:=[(⟨w,!(seen.testBit w),ta,fa⟩:St3).d]) (ds':=(ss++[(⟨w,!(seen.testBit w),ta,fa⟩:St3)]).map St3.d) rfl (Z2 (Y0 (Z2 rfl (Z2 (Z5 (Z5 (Z5 rfl rfl (SC seen w)) rfl (UB seen w)) rfl (bx _)) (Z2 (Yn (Z2 (Wk (Yn (Z2 (cO rfl rfl e1) rfl) ea)) rfl) rfl) (Z2 (Yn (Z2 (Wk (Yn (Z2 (cO rfl rfl e2) rfl) C)) rfl) rfl) rfl))))) rfl) ?_ ?_)
  .rw[Uz (by rw[AB];lia),BM];rfl
  .refine Zg (Z5 rfl (Z5 rfl rfl (OI w (by lia))) (cj seen _)) ⟨_,_,_,_,rfl,by rw[AQ,CM,E],?_,?_,λs hs=>?_⟩
   .intro v
    rw[Vh,ap,FY,hw];show(code.testBit v ^^ decide ((ps.take i).count v % 2=1) ^^ decide (w=v))=(code.testBit v ^^ decide ((ps.take i++[w]).count v % 2=1));rw[List.count_append,List.count_singleton];by_cases ew:w=v
    .subst ew
     rw[show(w==w)=true from DX _,AL rfl,AE rfl];by_cases hp:(ps.take i).count w % 2=1
     .rw[AL hp,AF (by lia)];cases code.testBit w<;>rfl
     .rw[AF hp,AL (by lia)];cases code.testBit w<;>rfl
    .rw[show(w==v)=false from DV.mpr ew,AF ew];simp
   .intro j s hj
    rcases EV j ss.length with hl | hl
    .rw[BG hl] at hj
     exact o j s hj
    .rw[CK hl] at hj
     have T:j - ss.length=0:=by
      rcases DF (j - ss.length) with z | z
      .exact z
      .rw[GT,AK (by lia)] at hj;cases hj
     rw[T] at hj;cases hj;have ej:j=i:=by lia
     subst ej;exact⟨hw,n1.perm pa,n2.perm pb,by show(!(seen.testBit w))=_;rw[ap]⟩
   rcases CB.mp hs with h | h
   .exact az s h
   .rw[AI.mp h]
    exact⟨ag,λp hp=>t2 p (pa.mem_iff.mp hp),λp hp=>f2 p (pb.mem_iff.mp hp),pa.nodup_iff.mpr (aF _ (AH e1)),pb.nodup_iff.mpr (aG _ (AH e2))⟩
 rintro e ⟨ss,seen,F,aH,rfl,E,ap,o,az⟩;rw[U7,AB,AB] at E;refine Z9 (Zg (Z5 (Z5 rfl rfl (V8 c 2000)) rfl (Uj _ m (by lia))) ?_);have aX:c / 2000 % m<m:=EM _ (by lia);generalize c / 2000 % m=t at aX;refine Z9 (Tf (ds:=(ss.drop t++ss.take t).map St3.d) (by
  refine Z5 (R0 rfl (Vd rfl) rfl (Ak _ _ _)) (R0 rfl rfl (Vd rfl) (Ak _ _ _)) ?_;rw[Qu,Qu,Is ss t (by lia),Hj ss t (by lia),cW (by rw[AB,AB,CA,BN];lia),BM]) ?_)
 refine Z9 (Zg (Z5 rfl rfl (V8 c 40000)) ?_);obtain⟨ws,ew,wl,_⟩:=Ii (g:=Zz 0) (f:=Yt (O (Y3 Vl (O (U 1) (O (U 0) Zb))) (O (dO Yq (dL (Ut (O (dC (.str "given")) (O (dC (.str "made")) Zb)))) (dO Vc (dO Wj (Y3 W6 (O (U 2) (O (dO Ym (U 3) (U 0)) Zb))) (dC (.int 4096))) (dC (.int 2)))) Zb))) (env:=[.un,.fz (.int ((c / 40000:Nat):Int)),.fz (Jh ns),.fz (.int (first:Int))]) Uu (λ_=>True) (rng 0 n) λx hx=>by
  obtain⟨i,hi,rfl⟩:=Ct hx;rw[DL];obtain⟨z,ez⟩:=Bp (c / 40000) i;obtain⟨r,er,_⟩:=Dq ns (first+i) (by lia);have p1:=m7 (.str "given") (.str "made") (j:=((r / 4096 % 2:Nat):Int)) (by lia) (by lia);refine⟨[.fz (.int (i:Int)),.fz (.int ((c / 40000:Nat):Int)),.fz (Jh ns),.fz (.int (first:Int))],(z,decide (((r / 4096 % 2:Nat):Int)=1)),rfl,?_,trivial⟩;refine KU (Y0 (Z2 (Zh (xs:=[.int ((c / 40000:Nat):Int),.int (i:Int)]) rfl ez) (Z2 (Z5 (x:=.lst [.str "given",.str "made"]) rfl (Z5 (Z5 (Zh (xs:=[Jh ns,.int ((first+i:Nat):Int)]) (Z2 rfl (Z2 (Z5 rfl rfl (Va _ _)) rfl)) er) rfl (V8 r 4096)) rfl (Uj _ 2)) p1) rfl))) ?_;show some (Dat.tup [.str z,if((r / 4096 % 2:Nat):Int)=1 then .str "made" else .str "given"])=some (Dat.tup [.str z,.str (if decide (((r / 4096 % 2:Nat):Int)=1)=true then "made" else "given")]);by_cases hb:((r / 4096 % 2:Nat):Int)=1
  .rw[AE hb,AL hb];rfl
  .rw[AK hb,AF hb];rfl
 rw[Ta] at wl;refine Z9 (Zg (d:=.lst (ws.map Uu)) (Wk (W0 (xs:=rng 0 n) (W3 (Z2 rfl rfl) (by lia)) rfl ew)) ?_);have a:(ss.drop t++ss.take t).Perm ss:=by
  have:=List.perm_append_comm (l₁:=ss.drop t) (l₂:=ss.take t);rw[GL] at this;exact this
 have J:=a.length_eq;refine Yb (Y0 (Z2 (Yn (Z2 rfl rfl) rfl) (Z2 (Yn (Z2 rfl rfl) rfl) rfl))) ⟨⟨ws,ss.drop t++ss.take t,mk,code⟩,s0,ps,rs,rfl,?_,?_,?_,wl,by show 2<=(ss.drop t++ss.take t).length;lia,ay,by lia⟩
 .exact {
   ne:=λq hq=>by have:=(hr.lt q hq).1;lia
   ring:=aA
   inj:=λw v hw hv h=>ho.inj w v hw hv h
   mks:=aB
   st:=λs hs=>by
    obtain⟨d,hd⟩:=ET (a.mem_iff.mp hs);have q:=o d s hd;have ag:=(az s (a.mem_iff.mp hs)).w;have M:=(AG.mp hd).1;refine⟨d,ag,by lia,q.tk,q.fl,?_⟩;have hu:=q.up;rcases VB q.w (ho.two ag) with⟨h1,h2⟩ | ⟨h1,h2⟩
    .exact .inl ⟨h2,by rw[hu,h1];show(!(code.testBit s.w ^^ decide (0 % 2=1)))=(!code.testBit s.w);simp⟩
    .exact .inr ⟨h2,by rw[hu,h1];show(!(code.testBit s.w ^^ decide (1 % 2=1)))=code.testBit s.w;simp⟩ }
 .exact { w2:=by show ws.length<=10;lia,s1:=by show 1<=(ss.drop t++ss.take t).length;lia,s2:=by show(ss.drop t++ss.take t).length<=24;lia,st:=λs hs=>by show SB 54 ws.length s;rw[wl];exact az s (a.mem_iff.mp hs),mks:=ao }
 .have aa:((List.range m).drop t++(List.range m).take t).Nodup:=by
   have hp:((List.range m).drop t++(List.range m).take t).Perm (List.range m):=by
    have:=List.perm_append_comm (l₁:=(List.range m).drop t) (l₂:=(List.range m).take t);rw[GL] at this;exact this
   exact hp.nodup_iff.mpr List.nodup_range
  refine o5 (n:=n) (s0:=s0) (one:=Tj ps) (two:=Ti ps) (rs:=rs) _ aa λi s hi=>?_
  have aj:∀ d:Nat,ss[d]?=some s->OY (⟨ws,ss.drop t++ss.take t,mk,code⟩:G3) s0 (Tj ps) (Ti ps) rs n d s:=λd hd=>by
   have q:=o d s hd;have ag:=(az s (AH hd)).w;have M:=(AG.mp hd).1;refine⟨ag,by lia,q.tk,q.fl,?_⟩;have hu:=q.up;rcases VB q.w (ho.two ag) with⟨h1,h2⟩ | ⟨h1,h2⟩
   .exact .inl ⟨h2,by rw[hu,h1];show(!(code.testBit s.w ^^ decide (0 % 2=1)))=(!code.testBit s.w);simp⟩
   .exact .inr ⟨h2,by rw[hu,h1];show(!(code.testBit s.w ^^ decide (1 % 2=1)))=code.testBit s.w;simp⟩
  have y:(ss.drop t++ss.take t)[i]?=some s:=hi;rcases EV i (m - t) with h | h
  .rw[BG (by rw[CA];lia),GS] at y
   refine⟨t+i,?_,aj _ y⟩;rw[BG (by rw[CA,CZ];lia),GS,HL (by lia)]
  .rw[CK (by rw[CA];lia),CA,IG] at y
   split at y
   .rename_i ae
    refine⟨i - (ss.length - t),?_,aj _ y⟩;have e9:i - (m - t)=i - (ss.length - t):=by lia
    rw[CK (by rw[CA,CZ];lia),CA,CZ,IG,e9,AE ae,HL (by lia)]
   .cases y
variable{e:Ev}
def Th(p:Nat×Bool):Dat:=.tup [.int (p.1:Int),.bl p.2]
theorem CG.sb(h:CG ai n sp Lq_ ss)(hs:sp<=54)(hm:s∈ss):SB 54 n s:=by
 obtain⟨x,y,b1,b2,X,b4,d,e,f,g,k⟩:=h.st s hm;exact⟨g,λp hp=>by rw[b4] at hp;rw[AI.mp hp];lia,λp hp=>by rw[d] at hp;rw[AI.mp hp];lia,by rw[b4];exact DB.mpr ⟨by simp,DN⟩,by rw[d];exact DB.mpr ⟨by simp,DN⟩⟩
theorem gs(ns:Z Int)(first:Nat)(hf:first<=900):∃ (G:G3) (Lq_:Nat->Nat),Mj [Jh ns,.int (first:Int)]=.ok G.d/\NV G 0 Lq_/\Gb 54 G/\Ui G/\1<=G.wires.length/\G.wires.length<=5/\2<=G.steps.length/\G.code=0:=by
 have:=Y9 (n:=17) (p:=2) (ds:=[Jh ns,.int (first:Int)]) (g:=Q2) (R:=λd=>∃ (G:G3) (Lq_:Nat->Nat),d=G.d/\NV G 0 Lq_/\Gb 54 G/\Ui G/\1<=G.wires.length/\G.wires.length<=5/\2<=G.steps.length/\G.code=0) rfl ?_
 .obtain⟨d,e,z,Lq_,rfl,h⟩:=this
  exact⟨z,Lq_,e,h⟩
 unfold Q2;obtain⟨c,ec,lc⟩:=Dq ns first (by lia);have ay:∀ env:Ev,env[0]?=some (.fz (Jh ns))->env[1]?=some (.fz (.int (first:Int)))->Y3 W6 (O (U 0) (O (U 1) Zb)) env=some (.int (c:Int)):=λenv h0 h1=>Zh (xs:=[Jh ns,.int (first:Int)]) (Z2 (by unfold U;rw[h0]) (Z2 (by unfold U;rw[h1]) rfl)) ec
 obtain⟨ai,aL,X,M⟩:∃ n:Nat,2+c % 2=n/\2<=n/\n<=3:=⟨_,rfl,by lia,by lia⟩;obtain⟨own,aM,C,H⟩:∃ n:Nat,1+c / 2 % 2=n/\1<=n/\n<=2:=⟨_,rfl,by lia,by lia⟩;refine Z9 (Zg (d:=.int (ai:Int)) (by rw[<- aL];exact Z5 rfl (Z5 (ay _ rfl rfl) rfl (Uj c 2)) (Va 2 _)) ?_);refine Z9 (Zg (d:=.int (own:Int)) (by rw[<- aM];exact Z5 rfl (Z5 (Z5 (ay _ rfl rfl) rfl (V8 c 2)) rfl (Uj _ 2)) (Va 1 _)) ?_);refine Z9 (Zg (Z5 (ay _ rfl rfl) rfl (V8 c 4)) ?_);generalize c / 4=wd;obtain⟨ws,ew,wl,aN⟩:=Ii (g:=Zz 0) (f:=Yt (O (Y3 Vl (O (U 1) (O (U 0) Zb))) (O (dC (.str "given")) Zb))) (env:=[.un,.fz (.int (wd:Int))]) Uu (λu=>u.2=false) (rng 0 ai) λx hx=>by
  obtain⟨i,hi,rfl⟩:=Ct hx;rw[DL];obtain⟨z,ez⟩:=Bp wd i;exact⟨[.fz (.int (i:Int)),.fz (.int (wd:Int))],(z,false),rfl,Y0 (Z2 (Zh (xs:=[.int (wd:Int),.int (i:Int)]) rfl ez) rfl),rfl⟩
 rw[Ta] at wl;refine Z9 (Zg (d:=.lst (ws.map Uu)) (Wk (W0 (xs:=rng 0 ai) (W3 (Z2 rfl rfl) (by lia)) rfl ew)) ?_);obtain⟨us,eu,ul,_⟩:=Ii (g:=Zz 0) (f:=Yt (O (Y3 Vl (O (U 1) (O (dO Ym (U 2) (U 0)) Zb))) (O (dC (.str "made")) Zb))) (env:=[.un,.fz (.int (wd:Int)),.fz (.int (ai:Int))]) Uu (λ_=>True) (rng 0 own) λx hx=>by
  obtain⟨i,hi,rfl⟩:=Ct hx;rw[DL];obtain⟨z,ez⟩:=Bp wd (ai+i);exact⟨[.fz (.int (i:Int)),.fz (.int (wd:Int)),.fz (.int (ai:Int))],(z,true),rfl,Y0 (Z2 (Zh (xs:=[.int (wd:Int),.int ((ai+i:Nat):Int)]) (Z2 rfl (Z2 (Z5 rfl rfl (Va _ _)) rfl)) ez) rfl),trivial⟩
 rw[Ta] at ul;refine Z9 (Zg (d:=.lst ((ws++us).map Uu)) (by
  rw[BM];exact Z5 rfl (Wk (W0 (xs:=rng 0 own) (W3 (Z2 rfl rfl) (by lia)) rfl eu)) (O1 (by rw[AB,AB];lia))) ?_)
 have t:(ws++us).length=ai+own:=by rw[AQ];lia
 have aE:∀ w u,w<ai->(ws++us)[w]?=some u->u.2=false:=λw u hw hu=>by
  rw[BG (by lia)] at hu;exact aN u (AH hu)
 generalize ws++us=wires at t aE;refine Z9 (Tf (ds:=([]:Z St3).map St3.d) rfl ?_);refine Z9 (Zg (d:=.int ((1:Nat):Int)) rfl ?_);refine Z9 (Wq (ds:=rng 0 ai) (λi e=>∃ (ss:Z St3) (sp:Nat) (Lq_:Nat->Nat) (F Q D Y az aA af A B:LQ),e=[.fz (Jh ns),.fz (.int (first:Int)),.fz (.int (ai:Int)),.fz (.int (own:Int)),.fz (.int (wd:Int)),.fz (.lst (wires.map Uu)),.ow (ss.map St3.d),.fz (.int (sp:Int)),F,Q,D,Y,az,aA,af,A,B]/\ss.length=i*(2+2*own)/\1<=sp/\sp<=1+6*i/\CG ai (ai+own) sp Lq_ ss) (W3 (Z2 rfl rfl) (by lia)) ⟨[],1,λ_=>0,.un,.un,.un,.un,.un,.un,.un,.un,.un,rfl,by simp,by lia,by lia,⟨rfl,λs hs=>(nomatch hs),λi j m l _ hi=>(by simp at hi)⟩⟩ ?_ ?_)
 .rintro i d e hi ⟨ss,sp,Lq_,F,Q,D,Y,az,aA,af,A,B,rfl,E,aF,ac,o⟩
  obtain⟨W,rfl⟩:=Ud hi;rw[DL];refine⟨_,rfl,?_⟩;obtain⟨r,er,_⟩:=Dq ns (first+1+i) (by lia);refine Z9 (Zg (Zh (xs:=[Jh ns,.int ((first+1+i:Nat):Int)]) (Z2 rfl (Z2 (Z5 (Z5 rfl rfl (Va _ 1)) rfl (Va _ _)) rfl)) er) ?_);have S:Wn (Zz 0) V7 (dO Ym (U 1) (dO Vc (dO Ym (U 3) (U 0)) (U 2))) [.un,.fz (.int (ai:Int)),.fz (.int (own:Int)),.fz (.int (r:Int))] (rng 0 own)=some (Zd (Wy ai own r)):=by
   rw[Dw,Vv (λj:Nat=>Dat.int (j:Int)) (λj:Nat=>Dat.int ((ai+(r+j) % own:Nat):Int)) (List.range own) λj _=>⟨[.fz (.int (j:Int)),.fz (.int (ai:Int)),.fz (.int (own:Int)),.fz (.int (r:Int))],rfl,rfl,Z5 rfl (Z5 (Z5 rfl rfl (Va _ _)) rfl (Uj _ own (by lia))) (Va _ _)⟩];unfold Wy;rw[Wt,FB];rfl
  have aO:Wn (Zz 0) V7 (dO Ym (U 1) (dO Vc (dO Ym (dO Wj (U 3) (dC (.int 2))) (U 0)) (U 2))) [.un,.fz (.int (ai:Int)),.fz (.int (own:Int)),.fz (.int (r:Int))] (rng 0 own)=some (Zd (Wy ai own (r / 2))):=by
   rw[Dw,Vv (λj:Nat=>Dat.int (j:Int)) (λj:Nat=>Dat.int ((ai+(r / 2+j) % own:Nat):Int)) (List.range own) λj _=>⟨[.fz (.int (j:Int)),.fz (.int (ai:Int)),.fz (.int (own:Int)),.fz (.int (r:Int))],rfl,rfl,Z5 rfl (Z5 (Z5 (Z5 rfl rfl (V8 r 2)) rfl (Va _ _)) rfl (Uj _ own (by lia))) (Va _ _)⟩];unfold Wy;rw[Wt,FB];rfl
  refine Z9 (Zg (Wk (W0 (xs:=rng 0 own) (W3 (Z2 rfl rfl) (by lia)) rfl S)) ?_);refine Z9 (Zg (Wk (W0 (xs:=rng 0 own) (W3 (Z2 rfl rfl) (by lia)) rfl aO)) ?_);have ar:Wn (Zz 0) V7 (Yt (O (U 0) (O (dC (.bl true)) Zb))) [.un] (Zd (Wy ai own r))=some (((Wy ai own r).map λw=>(w,true)).map Th):=by
   rw[Wt,Vv (λw:Nat=>Dat.int (w:Int)) (λw:Nat=>Th (w,true)) (Wy ai own r) λw _=>⟨[.fz (.int (w:Int))],rfl,rfl,Y0 rfl⟩,FB];rfl
  have ak:Wn (Zz 0) V7 (Yt (O (U 0) (O (dC (.bl false)) Zb))) [.un] (Zd (Wy ai own (r / 2)))=some (((Wy ai own (r / 2)).map λw=>(w,false)).map Th):=by
   rw[Wt,Vv (λw:Nat=>Dat.int (w:Int)) (λw:Nat=>Th (w,false)) (Wy ai own (r / 2)) λw _=>⟨[.fz (.int (w:Int))],rfl,rfl,Y0 rfl⟩,FB];rfl
  have I:∀ q,(Wy ai own q).length=own:=λq=>by unfold Wy;rw[AB,CZ]
  refine Z9 (Tf (ds:=(Pc ai own r).map Th) (by
   unfold Pc;rw[BM];exact Z5 (Wk (W0 (xs:=Zd (Wy ai own r)) rfl rfl ar)) (Wk (W0 (xs:=Zd (Wy ai own (r / 2))) rfl rfl ak)) (cW (by simp only[AB,I];lia))) ?_)
  have aq:(Pc ai own r).length=2*own:=by unfold Pc;rw[AQ,AB,AB,I,I];lia
  have aj:=λpos hp=>eG (k:=i) (r:=r) (pos:=pos) X M C H W hp
  generalize Pc ai own r=a at aq aj;generalize Wy ai own r=ao;generalize Wy ai own (r / 2)=ah;have aa:r / 4 % (a.length+1)<=a.length:=by have:=EM (r / 4) (show 0<a.length+1 by lia);lia
  refine Z9 (Uk (ds:=a.map Th) (as:=[.int ((r / 4 % (a.length+1):Nat):Int),Th (i,false)]) (ds':=(a.take (r / 4 % (a.length+1))++(i,false)::a.drop (r / 4 % (a.length+1))).map Th) rfl (Z2 (Z5 (Z5 rfl rfl (V8 r 4)) (Z5 (y:=.int 1) (z:=.int ((a.length+1:Nat):Int)) (Yn (xs:=[.lst (a.map Th)]) (z:=.int ((a.length:Nat):Int)) rfl (by show some (Dat.int ((a.map Th).length:Int))=_;rw[AB])) rfl (Va _ 1)) (Uj _ (a.length+1) (by lia))) (Z2 (Y0 rfl) rfl)) (by rw[k9 _ _ _ (by rw[AB];exact aa) (by rw[AB];lia),BM,map_take,CF,map_drop]) ?_);have hok:=aj (r / 4 % (a.length+1)) (by lia);have aP:=Jm a (r / 4 % (a.length+1)) (i,false);unfold XB at hok;generalize a.take (r / 4 % (a.length+1))++(i,false)::a.drop (r / 4 % (a.length+1))=bs at hok aP;refine Z9 (Zg (d:=.int ((0:Nat):Int)) rfl ?_);have aB:((i,true)::bs).length=2+2*own:=by rw[BS];lia
  refine Wq (ds:=Qx 0 (((i,true)::bs).map Th)) (λj e=>∃ (new:Z St3) (b:Nat) (Lq_:Nat->Nat) (af A B:LQ),e=[.fz (Jh ns),.fz (.int (first:Int)),.fz (.int (ai:Int)),.fz (.int (own:Int)),.fz (.int (wd:Int)),.fz (.lst (wires.map Uu)),.ow ((ss++new).map St3.d),.fz (.int ((sp+j:Nat):Int)),.fz (.int (i:Int)),.fz (.int (r:Int)),.fz (.lst (Zd ao)),.fz (.lst (Zd ah)),.ow (bs.map Th),.fz (.int (b:Int)),af,A,B]/\new.length=j/\b<sp+j/\CG ai (ai+own) (sp+j) Lq_ (ss++new)/\Lq_ b=Ek (((i,true)::bs).take j)/\(j=0->b=0)/\(0<j->j<2+2*own->b≠0/\∀ s∈ss++new,s.takes≠[b])) (Pz (Z5 (x:=.lst [Th (i,true)]) (y:=.lst (bs.map Th)) (Wk (Qq (Z2 (Y0 rfl) rfl))) rfl (O1 (by rw[AB];show 1+_<=_;lia)))) ⟨[],0,Lq_,_,_,_,by rw[EG];rfl,rfl,by lia,by rw[EG];exact o,o.l0,λ_=>rfl,λh=>absurd h (by lia)⟩ ?_ ?_
  .rintro j d e hj ⟨new,b,Lq_,af,A,B,rfl,v,aG,o,aC,ap,T⟩
   obtain⟨x,hx,rfl⟩:=J7 hj;rw[AM] at hx;obtain⟨q,hq,rfl⟩:=map_some hx;obtain⟨aH,aQ⟩:=om hok hq;have au:=(AG.mp hq).1;rw[aB] at au;rw[<- aC] at aH;have al:((i,true)::bs).take (j+1)=((i,true)::bs).take j++[q]:=by rw[FY,hq];rfl
   have am:Ek (((i,true)::bs).take (j+1))=Lq_ b ^^^ 2^q.1:=by rw[al,ji,aC]
   have ag:∀ s∈ss++new,s.takes=[b]->b=0:=λs hs e=>by
    rcases DF j with z | z
    .exact ap z
    .exact absurd e ((T z au).2 s hs)
   have aR:b=0->q.1<ai:=λe=>by
    rcases DF j with z | z
    .subst z
     have:q=(i,true):=by simpa using hq.symm
     rw[this];exact W
    .exact absurd e (T z au).1
   refine⟨_,rfl,?_⟩;refine Z9 (Zg rfl ?_);refine Z9 (Go.mono (N:=λe=>∃ (fill:Nat) (L':Nat->Nat),fill<sp+j+1/\b≠fill/\L' 0=0/\(∀ p,p<sp+j->L' p=Lq_ p)/\L' fill=Lq_ b ^^^ 2^q.1/\(j+1<2+2*own->fill=sp+j)/\e=[.fz (Jh ns),.fz (.int (first:Int)),.fz (.int (ai:Int)),.fz (.int (own:Int)),.fz (.int (wd:Int)),.fz (.lst (wires.map Uu)),.ow ((ss++new).map St3.d),.fz (.int ((sp+j:Nat):Int)),.fz (.int (i:Int)),.fz (.int (r:Int)),.fz (.lst (Zd ao)),.fz (.lst (Zd ah)),.ow (bs.map Th),.fz (.int (b:Int)),.fz (.int (j:Int)),.fz (Th q),.fz (.int (fill:Int))]) ?_ ?_ (λ_ h=>h))
   .refine U6 (We (Z5 rfl (Yn (xs:=[.lst (bs.map Th)]) (z:=.int ((bs.length:Nat):Int)) rfl (by show some (Dat.int ((bs.map Th).length:Int))=_;rw[AB])) (NC _ _))) (λhb=>?_) (λhb=>W9 ?_)
    .have aD:j=bs.length:=by simpa using hb
     have aI:Ek (((i,true)::bs).take (j+1))=0:=by rw[BZ (by rw[aB];lia)];exact ed hok
     exact Zg (d:=.int ((0:Nat):Int)) rfl ⟨0,Lq_,by lia,(T (by lia) au).1,o.l0,λp _=>rfl,by rw[o.l0,<- am,aI],λh=>absurd h (by lia),rfl⟩
    .refine⟨sp+j,λp=>if p=sp+j then Lq_ b ^^^ 2^q.1 else Lq_ p,by lia,by lia,?_,λp hp=>AK (by lia),AE rfl,λ_=>rfl,rfl⟩
     show(if 0=sp+j then _ else Lq_ 0)=0;rw[AK (by lia)];exact o.l0
   rintro e ⟨fill,L',P,J,ax,aS,aJ,aT,rfl⟩;refine Z9 (Uk (ds:=(ss++new).map St3.d) (as:=[(⟨q.1,q.2,[b],[fill]⟩:St3).d]) (ds':=(ss++(new++[(⟨q.1,q.2,[b],[fill]⟩:St3)])).map St3.d) rfl (Z2 (Y0 (Z2 rfl (Z2 rfl (Z2 (Y0 rfl) (Z2 (Y0 rfl) rfl))))) rfl) (by
    have hi2:i*(2+2*own)<=18:=BC (KQ (show i<=3 by lia) (show 2+2*own<=6 by lia)) (by lia);rw[Uz (by rw[AB,AQ];lia),<- FR,BM (l₁:=ss++new)];rfl) ?_)
   refine Z9 (Zg rfl ?_);have aw:=o.add (up:=q.2) aG P J ag aQ aR ax aS aJ aH;rw[FR] at aw;refine Zg (Z5 rfl rfl (Va _ 1)) ⟨new++[(⟨q.1,q.2,[b],[fill]⟩:St3)],fill,L',_,_,_,rfl,by rw[AQ,CM,v],P,aw,by rw[aJ,am],λh=>absurd h (by lia),λ_ ae=>?_⟩;have ef:=aT ae;refine⟨by lia,λs hs e=>?_⟩;rw[<- FR] at hs;rcases CB.mp hs with h | h
   .obtain⟨x,y,b1,_,_,b4,_⟩:=o.st s h
    rw[b4] at e;have:x=fill:=by simpa using e
    lia
   .rw[AI.mp h] at e
    have:b=fill:=by simpa using e
    exact J this
  .rintro e ⟨new,b,Lq_,af,A,B,rfl,v,aG,o,aC,ap,T⟩
   rw[U7,AB] at v o ⊢;rw[aB] at v o ⊢;refine⟨ss++new,sp+(2+2*own),Lq_,_,_,_,_,_,_,_,_,_,rfl,?_,by lia,by lia,o⟩;rw[AQ,E,v];exact(Nat.succ_mul i (2+2*own)).symm
 .rintro e ⟨ss,sp,Lq_,F,Q,D,Y,az,aA,af,A,B,rfl,E,aF,ac,o⟩
  rw[Ta] at E ac;have b1:ai*(2+2*own)<=18:=BC (KQ M (show 2+2*own<=6 by lia)) (by lia);have b2:8<=ai*(2+2*own):=BC (by lia) (KQ X (show 4<=2+2*own by lia));have aK:CG ai (ai+own) sp Lq_ (⟨wires,ss,1,0⟩:G3).steps:=o;refine Yb (Y0 (Z2 (Yn (Z2 rfl rfl) rfl) (Z2 (Yn (Z2 rfl rfl) rfl) rfl))) ⟨⟨wires,ss,1,0⟩,Lq_,rfl,aK.one (by lia) rfl rfl,?_,aK.noriv λs hs=>?_,by show 1<=wires.length;lia,by show wires.length<=5;lia,by show 2<=ss.length;lia,rfl⟩
  .exact { w2:=by show wires.length<=10;lia,s1:=by show 1<=ss.length;lia,s2:=by show ss.length<=24;lia,st:=λs hs=>by show SB 54 wires.length s;rw[t];exact CG.sb o (by lia) hs,mks:=by show 1<2^54;decide }
  .unfold Q7
   show(match wires[s.w]? with | some u=>u.2 | none=>false)=false;cases e:wires[s.w]? with
   | none=>rfl
   | some u=>exact aE s.w u hs e
theorem Dg(ps:Z Nat)(hp:∀ p∈ps,p<=1000):Q8 [.tup (Zd ps)]=.ok (.int (K' ps:Int)):=by
 refine Ws (Y9 rfl ?_);unfold Dp;refine Z9 (Zg (d:=.int 0) rfl ?_);refine Z9 (Wq (ds:=Zd ps) (λi e=>∃ (z:Int) (v:LQ),e=[.fz (.tup (Zd ps)),.fz (.int z),v]/\z=(((ps.take i).foldl (λa p=>a ||| 2^p) 0:Nat):Int)) rfl ⟨0,.un,rfl,rfl⟩ ?_ ?_)
 .rintro i x e hi ⟨z,v,rfl,rfl⟩
  obtain⟨p,hq,rfl⟩:=Ht hi;have ae:=hp p (AH hq);refine⟨_,rfl,?_⟩;refine Zg (d:=.int ((((ps.take (i+1)).foldl (λa p=>a ||| 2^p) 0:Nat)):Int)) (Z5 rfl (Z5 rfl rfl (OI p ae)) ?_) ⟨_,_,rfl,rfl⟩;rw[OC,FY,hq,IP];rfl
 .rintro e ⟨z,v,rfl,rfl⟩
  refine Yb rfl ?_;rw[AB,AB,BZ (AT _)];rfl
theorem K5(a b:Z Nat):Zd a++Zd b=Zd (a++b):=by unfold Zd;rw[BM,BM]
theorem Qm(f:α->Dat)(xs:Z α):U0 [.lst (xs.map f)]=some (.int ((xs.length:Nat):Int)):=by
 show some (Dat.int ((xs.map f).length:Int))=_;rw[AB]
theorem K2(f:α->Dat)(xs:Z α):U0 [.tup (xs.map f)]=some (.int ((xs.length:Nat):Int)):=by
 show some (Dat.int ((xs.map f).length:Int))=_;rw[AB]
theorem eE(a b:Nat):RE (.int (a:Int)) (.int (b:Int))=some (.bl (decide (b<=a))):=by
 show some (Dat.bl (decide ((b:Int)<=(a:Int))))=_;by_cases h:b<=a
 .rw[AL h,AL (by lia)]
 .rw[AF h,AF (by lia)]
theorem cS(b:Bool):Pb [.bl b]=some (.int ((if b then 1 else 0:Nat):Int)):=by cases b<;>rfl
theorem b9(a p:Nat)(ha:a<18446744073709551616)(hp:p<=1000):Gg (.int (a:Int)) (.int (p:Int))=some (.int ((a*2^p:Nat):Int)):=by
 have:Gg (.int (a:Int)) (.int (p:Int))=some (.int ((a:Int)*2^((p:Int)).toNat)):=AE ⟨by lia,by lia,by rw[Int.natAbs_natCast];exact ha⟩;rw[this,BR];congr 2
theorem fG{c:Nat}(h:c<2^n)(hn:n<=10):c<1024:=AO h (DA (by lia) hn)
theorem gM{c o:Nat}(u:Bool)(h:c<2^n)(ha:o<=n):L8 c o u<2^(n+1):=Nat.lt_pow_two_of_testBit _ λj hj=>by
 rw[Nt,AK (by lia),AK (by lia)];exact Nat.testBit_lt_two_pow (AO h (DA (by lia) (by lia)))
structure GA (G:G3):Prop where
 calm:∃ I,LV G I
 gb:Gb 54 G
 nr:Ui G
 w1:1<=G.wires.length
 cd:G.code<2^G.wires.length
 few:∀ s∈G.steps,s.takes.length<=17
theorem fg{one two:Nat->Nat}(h:RG G n s0 one two rs)(hb:Gb 54 G)(hs:s∈G.steps):s.takes.length<=rs.length:=by
 obtain⟨d,hd⟩:=h.st s hs;have hm:∀ p∈s.takes,∃ t q,rs[t]?=some q/\t<rs.length/\(p - s0) / 2=t/\((p=s0+2*t/\q.2=d)\/(p=s0+2*t+1/\q.1=d)):=λp hp=>by
  obtain⟨t,q,e,z⟩:=(hd.tk p).mp hp;exact⟨t,q,e,(AG.mp e).1,by lia,z⟩
 have aa:(s.takes.map λp=>(p - s0) / 2).Nodup:=by
  refine JX.mpr ((hb.st s hs).tn.imp_of_mem λ{a b} ha m f z=>?_);obtain⟨t,q,e,_,ht,hz⟩:=hm a ha;obtain⟨t',q',e',_,g,r⟩:=hm b m;have:t=t':=by lia
  subst this;rw[e] at e';cases e';have:=h.ne q (AH e);lia
 have:=Mt _ (List.range rs.length) aa λx hx=>by
  obtain⟨p,hp,rfl⟩:=CS.mp hx;obtain⟨t,q,e,hl,ht,_⟩:=hm p hp;exact DU.mpr (by lia)
 rw[AB,CZ] at this;exact this
theorem gr(h:GA G)(o:Nat)(x:Str×Bool)(u:Bool)(ha:o<=G.wires.length)(hw:G.wires.length<10):GA (QF G o x u):=by
 obtain⟨I,hI⟩:=h.calm;have hl:(QF G o x u).wires.length=G.wires.length+1:=by show(G.wires.take o++x::G.wires.drop o).length=_;exact Jm G.wires o x
 refine⟨⟨_,gi hI o x u⟩,⟨by lia,by show 1<=(G.steps.map _).length;rw[AB];exact h.gb.s1,by show(G.steps.map _).length<=24;rw[AB];exact h.gb.s2,λs hs=>?_,h.gb.mks⟩,jv h.nr o x u ha,by lia,by rw[hl];exact gM u h.cd ha,λs hs=>by obtain⟨r,hr,rfl⟩:=CS.mp hs;exact h.few r hr⟩;obtain⟨r,hr,rfl⟩:=CS.mp hs;have hb:=h.gb.st r hr;refine⟨?_,hb.t,hb.f,hb.tn,hb.fn⟩;rw[hl];show M' o r.w<_;have:=hb.w;unfold M';split<;>lia
theorem nY(G:G3)(h:GA G)(o:Nat)(ha:o<=G.wires.length)(hw:G.wires.length<10)(b u:Bool)(z:Str):S9 [G.d,.int (o:Int),.str (if b then "made" else "given"),.bl u,.str z]=.ok (QF G o (z,b) u).d:=by
 refine Ws (Y9 rfl ?_);unfold S0;have hc10:=fG h.cd (by lia);have B:=h.gb.s2;refine Z9 (C4 (d:=G.d) (env':=[.fz G.d,.fz (.int (o:Int)),.fz (.str (if b then "made" else "given")),.fz (.bl u),.fz (.str z),.fz (.tup (G.wires.map Uu)),.fz (.tup (G.steps.map St3.d)),.fz (.int (G.marks:Int)),.fz (.int (G.code:Int)),.un,.un]) rfl rfl ?_);refine Z9 (Zg (d:=.int ((G.code % 2^o:Nat):Int)) (Z5 rfl (Z5 (Z5 rfl rfl (OI o (by lia))) rfl (TC (2^o) 1 (GZ _))) ((QO _ _).trans (by rw[Nat.and_two_pow_sub_one_eq_mod]))) ?_);have hdiv:G.code / 2^o<=G.code:=Nat.div_le_self _ _;refine Z9 (Zg (d:=.int ((L8 G.code o u:Nat):Int)) (Z5 (Z5 rfl (Z5 (Yn (Z2 rfl rfl) (cS u)) rfl (b9 _ o (by split<;>lia) (by lia))) (OC _ _)) (Z5 (Z5 rfl rfl (SC G.code o)) (Z5 rfl rfl (Va o 1)) (b9 _ (o+1) (by lia) (by lia))) (OC _ _)) ?_);have hc:Wn (Sa 4 (Y7 (Zz 0) (Y7 (Zz 1) (Y7 (Zz 2) (Y7 (Zz 3) T5))))) V7 (Yt (O (dO Ym (U 0) (dF Pb (O (dO RE (U 0) (U 4)) Zb))) (O (U 1) (O (U 2) (O (U 3) Zb))))) [.un,.un,.un,.un,.fz (.int (o:Int))] (G.steps.map St3.d)=some (G.steps.map λs=>(Am o s).d) :=
  Vv St3.d (λs=>(Am o s).d) G.steps λs _=>⟨[.fz (.int (s.w:Int)),.fz (.bl s.up),.fz (.tup (Zd s.takes)),.fz (.tup (Zd s.fills)),.fz (.int (o:Int))],rfl,rfl,Y0 (Z2 (Z5 rfl (Yn (Z2 (Z5 rfl rfl (eE s.w o)) rfl) (cS _)) ((Va _ _).trans (by
   congr 3
   unfold Am M';by_cases hh:o<=s.w
   .rw[AL hh,AE rfl,AE hh]
   .rw[AF hh,AK (by decide),AK hh];rfl))) rfl)⟩
 refine Z9 (Zg (d:=.lst (G.steps.map λs=>(Am o s).d)) (Wk (W0 (xs:=G.steps.map St3.d) (Ic rfl) rfl hc)) ?_);refine Yb (d:=(QF G o (z,b) u).d) (Y0 (xs:=[.tup ((G.wires.take o++(z,b)::G.wires.drop o).map Uu),.tup ((G.steps.map (Am o)).map St3.d),.int (G.marks:Int),.int ((L8 G.code o u:Nat):Int)]) (Z2 (Z5 (Z5 (R0 rfl rfl (Vd rfl) (Ny _ _ _)) (Y0 (xs:=[Uu (z,b)]) (Z2 (Y0 rfl) rfl)) (Rq (by rw[Qu,AB,Hj G.wires o ha,BN];show _+1<=_;lia))) (R0 rfl (Vd rfl) rfl (Ny _ _ _)) (by
  rw[Qu,Qu,Hj G.wires o ha,Is G.wires o ha,Rq (by rw[AQ,AB,AB,BN,CA];show _+1+_<=_;lia),BM,FR];rfl)) (Z2 (Yn (Z2 rfl rfl) (by rw[FB];rfl)) rfl))) rfl
theorem aZ(hb:∀ p∈l,p<B)(f:B<=64)(hz:z<64)(hn:l.Nodup)(c:z∉l)(e:l'.Perm (l++[z])):(∀ p∈l',p<64)/\l'.Nodup/\∀ q,q∈l'↔q∈l\/(true=true/\q=z):=by
 refine⟨λp hp=>?_,?_,λq=>?_⟩
 .rcases CB.mp (e.mem_iff.mp hp) with h | h
  .have:=hb p h;lia
  .rw[AI.mp h];exact hz
 .refine e.nodup_iff.mpr (GJ.mpr ⟨hn,DB.mpr ⟨by simp,DN⟩,λa ha b m=>?_⟩)
  rw[AI.mp m];rintro rfl;exact c ha
 .rw[e.mem_iff];simp
structure VY (G:G3) (z i:Nat) (s':St3):Prop where
 a:∃ s:St3,G.steps[i]?=some s/\∃ b:Bool,s'.w=s.w/\s'.up=s.up/\z∉s.takes/\z∉s.fills/\(∀ q,q∈s'.takes↔q∈s.takes\/(b=true/\q=z))/\(∀ q,q∈s'.fills↔q∈s.fills\/(b=true/\q=z))
 b:SB 64 G.wires.length s'
variable{z:Str}
theorem eN(G:G3)(hG:Gb 54 G)(c:Nat):∃ (G':G3) (z:Nat),Jl [G.d,.int (c:Int)]=.ok G'.d/\MA G G' z/\Gb 64 G':=by
 have:=Y9 (n:=11) (p:=2) (ds:=[G.d,.int (c:Int)]) (g:=Tc) (R:=λd=>∃ (G':G3) (z:Nat),d=G'.d/\MA G G' z/\Gb 64 G') rfl ?_
 .obtain⟨d,e,z,b,rfl,h⟩:=this
  exact⟨z,b,e,h⟩
 unfold Tc;refine Z9 (Zg (d:=.int (G.marks:Int)) (Z5 rfl rfl rfl) ?_);refine Z9 (Wq (ds:=G.steps.map St3.d) (λi e=>∃ (th:Nat) (I:LQ),e=[.fz G.d,.fz (.int (c:Int)),.fz (.int (th:Int)),I,.un,.un,.un,.un,.un,.un,.un]/\th<2^54/\(∀ j,G.marks.testBit j=true->th.testBit j=true)/\∀ s∈G.steps.take i,∀ j,j∈s.takes\/j∈s.fills->th.testBit j=true) (Ic (Z5 rfl rfl rfl)) ⟨G.marks,.un,rfl,hG.mks,λj h=>h,λs hs=>by simp at hs⟩ ?_ ?_)
 .rintro i d e hi ⟨th,I,rfl,h1,h2,h3⟩
  rw[AM] at hi;obtain⟨s,hs,rfl⟩:=map_some hi;have o:=hG.st s (AH hs);refine⟨_,rfl,?_⟩;refine Zg (Z5 (Z5 rfl (Zh (xs:=[.tup (Zd s.takes)]) (Z2 (Z5 rfl rfl rfl) rfl) (Dg s.takes λp hp=>by have:=o.t p hp;lia)) (OC th _)) (Zh (xs:=[.tup (Zd s.fills)]) (Z2 (Z5 rfl rfl rfl) rfl) (Dg s.fills λp hp=>by have:=o.f p hp;lia)) (OC _ _)) ⟨_,_,rfl,TZ (TZ h1 (br o.t)) (br o.f),λj h=>by rw[DY,DY,h2 j h];rfl,λr hr j hj=>?_⟩;rw[FY,hs] at hr;rw[DY,DY,Ww,Ww];rcases CB.mp hr with h | h
  .rw[h3 r h j hj];rfl
  .have:r=s:=AI.mp h
   subst this;rcases hj with hj | hj
   .rw[AL hj];simp
   .rw[AL hj];simp
 rintro e ⟨th,I,rfl,h1,h2,h3⟩;rw[AB,BZ (AT _)] at h3;have hc:=Jo (g:=Zz 0) (t:=dB (dO Mq (dO Gc (dO Xv (U 1) (U 0)) (dC (.int 1))) (dC (.int 0)))) (f:=U 0) (env:=[.un,.fz (.int (th:Int))]) (λk:Nat=>Dat.int (k:Int)) (λk:Nat=>Dat.int (k:Int)) (λp=>!th.testBit p) (List.range 64) λp _=>⟨[.fz (.int (p:Int)),.fz (.int (th:Int))],rfl,We (Z5 (Z5 (Z5 rfl rfl (SC th p)) rfl (UB th p)) rfl (bx _)),rfl⟩
 rw[<- Dw] at hc;have P:3<=((List.range 64).filter λp=>!th.testBit p).length:=by
  refine Mt [54,55,56] _ (by decide) λp hp=>GQ.mpr ⟨DU.mpr ?_,?_⟩
  .have:p=54\/p=55\/p=56:=by simpa using hp
   lia
  .have:p=54\/p=55\/p=56:=by simpa using hp
   rw[Nat.testBit_lt_two_pow (AO h1 (DA (by lia) (by lia)))];rfl
 have y:c % 3<((List.range 64).filter λp=>!th.testBit p).length:=by lia
 have hz:=HZ y;have ez:((List.range 64).filter λp=>!th.testBit p)[c % 3]?=some _:=AJ y;generalize ((List.range 64).filter λp=>!th.testBit p)[c % 3]=z at hz ez;obtain⟨C,ag⟩:=GQ.mp hz;have m:z<64:=DU.mp C;have v:th.testBit z=false:=by simpa using ag
 have M:∀ s∈G.steps,z∉s.takes/\z∉s.fills:=λs hs=>⟨λh=>absurd (h3 s hs z (.inl h)) (by rw[v];decide),λh=>absurd (h3 s hs z (.inr h)) (by rw[v];decide)⟩
 have N:G.marks.testBit z=false:=by
  cases h:G.marks.testBit z with
  | false=>rfl
  | true=>rw[h2 z h] at v;cases v
 refine Z9 (Zg (d:=.int (z:Int)) (Z5 (Wk (W0 (xs:=rng 0 64) (W3 (Z2 rfl rfl) (by lia)) rfl hc)) (Z5 rfl rfl (Uj c 3)) (Uo (by rw[AM,ez];rfl))) ?_);refine Z9 (Tf (ds:=([]:Z St3).map St3.d) rfl ?_);refine Z9 (Wq (ds:=Qx 0 (G.steps.map St3.d)) (λi e=>∃ (ss:Z St3) (I l A F Q D:LQ),e=[.fz G.d,.fz (.int (c:Int)),.fz (.int (th:Int)),I,.fz (.int (z:Int)),.ow (ss.map St3.d),l,A,F,Q,D]/\ss.length=i/\∀ (j:Nat) (s:St3),ss[j]?=some s->VY G z j s) (by unfold E8;rw[Ic (xs:=G.steps.map St3.d) (Z5 rfl rfl rfl)];rfl) ⟨[],I,.un,.un,.un,.un,.un,rfl,rfl,λj s h=>(by simp at h)⟩ ?_ ?_)
 .rintro i d e hi ⟨ss,I,l,A,F,Q,D,rfl,E,T⟩
  obtain⟨x,hx,rfl⟩:=J7 hi;rw[AM] at hx;obtain⟨s,hs,rfl⟩:=map_some hx;have u:=AH hs;have o:=hG.st s u;have aL:=(AG.mp hs).1;have hs24:=hG.s2;obtain⟨n1,n2⟩:=M s u;have ae:s.takes.length<=54:=bd o.tn o.t;have J:s.fills.length<=54:=bd o.fn o.f;refine⟨[.fz G.d,.fz (.int (c:Int)),.fz (.int (th:Int)),.fz s.d,.fz (.int (z:Int)),.ow (ss.map St3.d),.fz (.int (i:Int)),A,F,Q,D],rfl,?_⟩;refine Z9 (C4 (d:=s.d) (env':=[.fz G.d,.fz (.int (c:Int)),.fz (.int (th:Int)),.fz s.d,.fz (.int (z:Int)),.ow (ss.map St3.d),.fz (.int (i:Int)),.fz (.int (s.w:Int)),.fz (.bl s.up),.fz (.tup (Zd s.takes)),.fz (.tup (Zd s.fills))]) rfl rfl ?_);have B:∀ (t f:Z Nat),VY G z i ⟨s.w,s.up,t,f⟩->Go (Q9 5 Wz (O (Yt (O (U 7) (O (U 8) (O (U 9) (O (U 10) Zb))))) Zb) [.fz G.d,.fz (.int (c:Int)),.fz (.int (th:Int)),.fz s.d,.fz (.int (z:Int)),.ow (ss.map St3.d),.fz (.int (i:Int)),.fz (.int (s.w:Int)),.fz (.bl s.up),.fz (.tup (Zd t)),.fz (.tup (Zd f))]) (λe=>∃ (ss:Z St3) (I l A F Q D:LQ),e=[.fz G.d,.fz (.int (c:Int)),.fz (.int (th:Int)),I,.fz (.int (z:Int)),.ow (ss.map St3.d),l,A,F,Q,D]/\ss.length=i+1/\∀ (j:Nat) (s:St3),ss[j]?=some s->VY G z j s) (λd=>∃ (G':G3) (z:Nat),d=G'.d/\MA G G' z/\Gb 64 G'):=λt f hl=>by
   refine Uk (ds:=ss.map St3.d) (as:=[(⟨s.w,s.up,t,f⟩:St3).d]) (ds':=(ss++[(⟨s.w,s.up,t,f⟩:St3)]).map St3.d) rfl (Z2 (Y0 rfl) rfl) (by rw[Uz (by rw[AB];lia),BM];rfl) ⟨_,_,_,_,_,_,_,rfl,by rw[AQ,CM,E],λj r hr=>?_⟩;rcases Aw hr with⟨_,h⟩ | ⟨h1,h2⟩
   .exact T j r h
   .rw[h2,h1,E];exact hl
  refine Z9 (U6 (We (Z5 (Z5 (Z5 (Z5 rfl rfl (V8 c 3)) rfl (SC _ i)) rfl (UB _ i)) rfl (df _))) (λ_=>?_) (λ_=>W9 ?_))
  .obtain⟨t,H,pt⟩:=Lm (s.takes++[z]) (by rw[AQ,CM];lia)
   obtain⟨f,ef,W⟩:=Lm (s.fills++[z]) (by rw[AQ,CM];lia);have a1:K4 (.tup (Zd s.takes)) (.tup [.int (z:Int)])=some (.tup (Zd (s.takes++[z]))):=by
    rw[Rq (by unfold Zd;rw[AB,AB];show _+1<=_;lia),<- K5];rfl
   have a2:K4 (.tup (Zd s.fills)) (.tup [.int (z:Int)])=some (.tup (Zd (s.fills++[z]))):=by
    rw[Rq (by unfold Zd;rw[AB,AB];show _+1<=_;lia),<- K5];rfl
   refine Z9 (Zg (d:=.tup (Zd t)) (Yn (Z2 (Wk (Yn (Z2 (Z5 rfl (Y0 (Z2 rfl rfl)) a1) rfl) H)) rfl) rfl) ?_);refine Zg (d:=.tup (Zd f)) (Yn (Z2 (Wk (Yn (Z2 (Z5 rfl (Y0 (Z2 rfl rfl)) a2) rfl) ef)) rfl) rfl) ?_;obtain⟨S,t2,X⟩:=aZ o.t (by lia) m o.tn n1 pt;obtain⟨f1,f2,f3⟩:=aZ o.f (by lia) m o.fn n2 W;exact B t f ⟨⟨s,hs,true,rfl,rfl,n1,n2,X,f3⟩,⟨o.w,S,f1,t2,f2⟩⟩
  .exact B s.takes s.fills ⟨⟨s,hs,false,rfl,rfl,n1,n2,λq=>by simp,λq=>by simp⟩,⟨o.w,λp hp=>by have:=o.t p hp;lia,λp hp=>by have:=o.f p hp;lia,o.tn,o.fn⟩⟩
 rintro e ⟨ss,I,l,A,F,Q,D,rfl,E,T⟩;rw[U7,AB] at E;have:=hG.s1;have:=hG.s2;have:=hG.w2;refine Yb (Y0 (Z2 (Z5 rfl rfl rfl) (Z2 (Yn (Z2 rfl rfl) rfl) (Z2 (Z5 (Z5 rfl rfl rfl) (Z5 rfl rfl (OI z (by lia))) (OC G.marks _)) (Z2 (Z5 rfl rfl rfl) rfl))))) ⟨⟨G.wires,ss,G.marks ||| 2^z,G.code⟩,z,rfl,?_,?_⟩
 .exact { ws:=rfl,len:=E,ma:=rfl,mz:=N,cd:=rfl,st:=λi s hs=>(T i s hs).a }
 .exact { w2:=hG.w2,s1:=by show 1<=ss.length;lia,s2:=by show ss.length<=24;lia,st:=λs hs=>by obtain⟨i,hi⟩:=ET hs;exact(T i s hi).b,mks:=TZ (AO hG.mks (DA (by lia) (by lia))) (IY (by lia) m) }
theorem pZ:∀ k:Nat,k<10->∃ z:Str,Yq (.str "abcdefghij") (.int (k:Int))=some (.str z)
 | 0,_=>⟨_,rfl⟩ | 1,_=>⟨_,rfl⟩ | 2,_=>⟨_,rfl⟩ | 3,_=>⟨_,rfl⟩ | 4,_=>⟨_,rfl⟩ | 5,_=>⟨_,rfl⟩ | 6,_=>⟨_,rfl⟩ | 7,_=>⟨_,rfl⟩ | 8,_=>⟨_,rfl⟩ | 9,_=>⟨_,rfl⟩
theorem e6(n j:Nat)(hj:j<8)(hn:n<=5):∃ m:Nat,Yq (.lst [.int 0,.int 0,.int 0,.int 0,.int 1,.int 1,.int 2,.int ((10 - n:Nat):Int)]) (.int (j:Int))=some (.int (m:Int))/\n+m<=10:=by
 rcases(show j=0\/j=1\/j=2\/j=3\/j=4\/j=5\/j=6\/j=7 by lia) with rfl | rfl | rfl | rfl | rfl | rfl | rfl | rfl
 .exact⟨0,rfl,by lia⟩
 .exact⟨0,rfl,by lia⟩
 .exact⟨0,rfl,by lia⟩
 .exact⟨0,rfl,by lia⟩
 .exact⟨1,rfl,by lia⟩
 .exact⟨1,rfl,by lia⟩
 .exact⟨2,rfl,by lia⟩
 .exact⟨10 - n,rfl,by lia⟩
theorem ky(j:Nat)(hj:j<2):∃ b:Bool,Yq (.lst [.str "given",.str "made"]) (.int (j:Int))=some (.str (if b then "made" else "given")):=by
 rcases(show j=0\/j=1 by lia) with rfl | rfl
 .exact⟨false,rfl⟩
 .exact⟨true,rfl⟩
theorem lQ(ns:Z Int)(first ah a:Nat)(hf:first<=800)(X:1<=ah)(M:ah<=4)(ha:a<=5):∃ G:G3,Tt [Jh ns,.int (first:Int),.int (ah:Int),.int (a:Int)]=.ok G.d/\GA G:=by
 have:=Y9 (n:=12) (p:=4) (ds:=[Jh ns,.int (first:Int),.int (ah:Int),.int (a:Int)]) (g:=Uc) (R:=λd=>∃ G:G3,d=G.d/\GA G) rfl ?_
 .obtain⟨d,e,z,rfl,h⟩:=this
  exact⟨z,e,h⟩
 unfold Uc;obtain⟨c,ec,lc⟩:=Dq ns first (by lia);refine Z9 (Zg (Zh (xs:=[Jh ns,.int (first:Int)]) rfl ec) ?_);refine Z9 (Go.mono (N:=λe=>∃ G:G3,e=[.fz (Jh ns),.fz (.int (first:Int)),.fz (.int (ah:Int)),.fz (.int (a:Int)),.fz (.int (c:Int)),.fz G.d,.un,.un,.un,.un,.un,.un]/\GA G/\G.wires.length<=5/\2<=G.steps.length) ?_ ?_ (λ_ h=>h))
 .refine U6 (We (Z5 (Z5 rfl rfl (Uj c 3)) rfl (NC _ 0))) (λ_=>?_) (λ_=>?_)
  .obtain⟨G,Lq_,e,h1,h2,h3,h4,h5,h6,h7⟩:=gs ns (first+1) (by lia)
   exact Zg (Zh (xs:=[Jh ns,.int ((first+1:Nat):Int)]) (Z2 rfl (Z2 (Z5 rfl rfl (Va _ 1)) rfl)) e) ⟨G,rfl,⟨⟨_,el h1⟩,h2,h3,h4,by rw[h7];exact GZ _,λs hs=>by obtain⟨x,y,_,_,_,q,_⟩:=h1.st s hs;rw[q];simp⟩,h5,h6⟩
  .have hmm:c / 3 % ah<ah:=EM _ (by lia)
   have har:c / 30 % (a+1)<a+1:=EM _ (by lia);obtain⟨G,s0,ps,rs,e,h1,h2,h3,h4,h5,h6,h7⟩:=hY ns (first+1) (1+c / 3 % ah) (c / 30 % (a+1)) (by lia) (by lia) (by lia) (by lia);exact Zg (Zh (xs:=[Jh ns,.int ((first+1:Nat):Int),.int ((1+c / 3 % ah:Nat):Int),.int ((c / 30 % (a+1):Nat):Int)]) (Z2 rfl (Z2 (Z5 rfl rfl (Va _ 1)) (Z2 (Z5 rfl (Z5 (Z5 rfl rfl (V8 c 3)) rfl (Uj _ ah (by lia))) (Va 1 _)) (Z2 (Z5 (Z5 rfl rfl (V8 c 30)) (Z5 rfl rfl (Va a 1)) (Uj _ (a+1) (by lia))) rfl)))) e) ⟨G,rfl,⟨⟨_,lf h1 (by lia)⟩,h2,h3,by lia,by rw[h4];exact h6,λs hs=>BC (fg h1 h2 hs) h7⟩,by lia,h5⟩
 rintro e ⟨G,rfl,hG,j,B⟩;refine Z9 (Zg (Z5 rfl rfl (V8 c 1000)) ?_);generalize c / 1000=f;refine Z9 (Go.mono (N:=λe=>∃ (G:G3) (A:LQ),e=[.fz (Jh ns),.fz (.int (first:Int)),.fz (.int (ah:Int)),.fz (.int (a:Int)),.fz (.int (c:Int)),.fz G.d,.fz (.int (f:Int)),A,.un,.un,.un,.un]/\GA G/\G.wires.length<=5) ?_ ?_ (λ_ h=>h))
 .refine U6 (We (Z5 (Z5 rfl rfl (Uj f 4)) rfl (NC _ 0))) (λ_=>?_) (λ_=>W9 ⟨G,.un,rfl,hG,j⟩)
  have J:dF U0 (O (dO Yq (U 5) (dC (.int 1))) Zb) [.fz (Jh ns),.fz (.int (first:Int)),.fz (.int (ah:Int)),.fz (.int (a:Int)),.fz (.int (c:Int)),.fz G.d,.fz (.int (f:Int)),.un,.un,.un,.un,.un]=some (.int ((G.steps.length:Nat):Int)):=Yn (Z2 (Z5 rfl rfl rfl) rfl) (K2 St3.d G.steps);refine Z9 (Zg (Z5 (Z5 rfl rfl (V8 f 4)) J (Uj _ G.steps.length (by lia))) ?_);have hg:f / 4 % G.steps.length<G.steps.length:=EM _ (by lia);generalize f / 4 % G.steps.length=g at hg;have h24:=hG.gb.s2;refine Zg (d:=(Fb G g).d) (Y0 (xs:=[.tup (G.wires.map Uu),.tup ((G.steps.take g++G.steps.drop (g+1)).map St3.d),.int (G.marks:Int),.int (G.code:Int)]) (Z2 (Z5 rfl rfl rfl) (Z2 (Z5 (R0 (Z5 rfl rfl rfl) rfl (Vd rfl) (Ny _ _ _)) (R0 (Z5 rfl rfl rfl) (Vd (Z5 rfl rfl (Va g 1))) rfl (Ny _ _ _)) (by
   rw[Qu,Qu,Hj G.steps g (by lia),Is G.steps (g+1) (by lia),Rq (by rw[AB,AB,BN,CA];lia),BM])) (Z2 (Z5 rfl rfl rfl) (Z2 (Z5 rfl rfl rfl) rfl))))) ⟨Fb G g,_,rfl,?_,j⟩
  obtain⟨I,hI⟩:=hG.calm;have hl:(Fb G g).steps.length=G.steps.length - 1:=by show(G.steps.take g++G.steps.drop (g+1)).length=_;rw[AQ,BN,CA];lia
  exact⟨⟨I,gF hI g⟩,⟨hG.gb.w2,by lia,by lia,λs hs=>hG.gb.st s (Dj hs),hG.gb.mks⟩,hX hG.nr hg,hG.w1,hG.cd,λs hs=>hG.few s (Dj hs)⟩
 clear B j hG G;rintro e ⟨G,A,rfl,hG,j⟩;have t:∀ (G:G3) (e:Ev),e[5]?=some (.fz G.d)->dF U0 (O (dO Yq (U 5) (dC (.int 0))) Zb) e=some (.int ((G.wires.length:Nat):Int)):=λG e he=>Yn (Z2 (x:=.tup (G.wires.map Uu)) (Z5 (x:=G.d) (by unfold U;rw[he]) rfl rfl) rfl) (K2 Uu G.wires)
 obtain⟨m,em,hm⟩:=e6 G.wires.length (f / 100 % 8) (EM _ (by lia)) j;refine Z9 (Zg (d:=.int (m:Int)) (Z5 (Wk (Qq (Z2 rfl (Z2 rfl (Z2 rfl (Z2 rfl (Z2 rfl (Z2 rfl (Z2 rfl (Z2 (Z5 rfl (t G _ rfl) (TC 10 G.wires.length (by lia))) rfl)))))))))) (Z5 (Z5 rfl rfl (V8 f 100)) rfl (Uj _ 8)) em) ?_);obtain⟨n0,k⟩:∃ n0:Nat,G.wires.length=n0:=⟨_,rfl⟩;rw[k] at hm;have ae:=hG.w1;refine Z9 (Wq (ds:=rng 0 m) (λi e=>∃ (G:G3) (Q D Y:LQ),e=[.fz (Jh ns),.fz (.int (first:Int)),.fz (.int (ah:Int)),.fz (.int (a:Int)),.fz (.int (c:Int)),.fz G.d,.fz (.int (f:Int)),A,.fz (.int (m:Int)),Q,D,Y]/\GA G/\G.wires.length=n0+i) (W3 (Z2 rfl rfl) (by lia)) ⟨G,.un,.un,.un,rfl,hG,k⟩ ?_ ?_)
 .rintro i d e hi ⟨G,Q,D,Y,rfl,hG,l⟩
  obtain⟨W,rfl⟩:=Ud hi;rw[DL];refine⟨_,rfl,?_⟩;refine Z9 (Zg (Z5 (Z5 (Z5 rfl rfl (V8 f 800)) (Z5 rfl rfl (UM 7 i (by lia))) (Va _ _)) (Z5 (t G _ rfl) rfl (Va _ 1)) (Uj _ (G.wires.length+1) (by lia))) ?_);have aa:(f / 800+7*i) % (G.wires.length+1)<G.wires.length+1:=EM _ (by lia);generalize (f / 800+7*i) % (G.wires.length+1)=o at aa;obtain⟨b,hb⟩:=ky ((f / 10000+i) % 2) (EM _ (by lia));refine Z9 (Zg (Z5 (x:=.lst [.str "given",.str "made"]) rfl (Z5 (Z5 (Z5 rfl rfl (V8 f 10000)) rfl (Va _ i)) rfl (Uj _ 2)) hb) ?_);obtain⟨z,hz⟩:=pZ i (by lia);refine Zg (Zh (xs:=[G.d,.int (o:Int),.str (if b then "made" else "given"),.bl ((f / 20000+i / 2) % 2==1),.str z]) (Z2 rfl (Z2 rfl (Z2 rfl (Z2 (Z5 (Z5 (Z5 (Z5 rfl rfl (V8 f 20000)) (Z5 rfl rfl (V8 i 2)) (Va _ _)) rfl (Uj _ 2)) rfl (NC _ 1)) (Z2 (Z5 rfl rfl hz) rfl))))) (nY G hG o (by lia) (by lia) b _ z)) ⟨_,_,_,_,rfl,gr hG o (z,b) _ (by lia) (by lia),?_⟩;show(G.wires.take o++(z,b)::G.wires.drop o).length=_;rw[Jm];lia
 .rintro e ⟨G,Q,D,Y,rfl,hG,l⟩
  exact Yb rfl ⟨G,rfl,hG⟩
theorem Db(G:G3)(k:Nat)(s:St3)(h:G.steps[k]?=some s):Tq [G.d,.int (k:Int)]=.ok (.tup (Zd s.takes)):=by
 refine Ws (Y9 rfl ?_);unfold Gm;exact Yb (Z5 (Z5 (Z5 rfl rfl rfl) rfl (Ru (x:=s.d) (by rw[AM,h];rfl))) rfl rfl) rfl
theorem Js(ps:Z Nat)(hp:∀ p∈ps,p<=1000):Dl [.tup (Zd ps)]=.ok (.int (K' ps:Int)):=by
 refine Ws (Y9 rfl ?_);unfold WI;refine Z9 (Zg (d:=.int 0) rfl ?_);refine Z9 (Wq (ds:=Zd ps) (λi e=>∃ (z:Int) (v:LQ),e=[.fz (.tup (Zd ps)),.fz (.int z),v]/\z=(((ps.take i).foldl (λa p=>a ||| 2^p) 0:Nat):Int)) rfl ⟨0,.un,rfl,rfl⟩ ?_ ?_)
 .rintro i x e hi ⟨z,v,rfl,rfl⟩
  obtain⟨p,hq,rfl⟩:=Ht hi;have ae:=hp p (AH hq);refine⟨_,rfl,?_⟩;refine Zg (d:=.int ((((ps.take (i+1)).foldl (λa p=>a ||| 2^p) 0:Nat)):Int)) (Z5 rfl (Z5 rfl rfl (OI p ae)) ?_) ⟨_,_,rfl,rfl⟩;rw[OC,FY,hq,IP];rfl
 .rintro e ⟨z,v,rfl,rfl⟩
  refine Yb rfl ?_;rw[AB,AB,BZ (AT _)];rfl
theorem O0(G:G3)(k:Nat)(s:St3)(h:G.steps[k]?=some s):R4 [G.d,.int (k:Int)]=.ok (.int (s.w:Int)):=by
 refine Ws (Y9 rfl ?_);unfold Km;exact Yb (Z5 (Z5 (Z5 rfl rfl rfl) rfl (Ru (x:=s.d) (by rw[AM,h];rfl))) rfl rfl) rfl
theorem cT(G:G3)(k:Nat)(s:St3)(h:G.steps[k]?=some s):Kk [G.d,.int (k:Int)]=.ok (.bl s.up):=by
 refine Ws (Y9 rfl ?_);unfold Ks;exact Yb (Z5 (Z5 (Z5 rfl rfl rfl) rfl (Ru (x:=s.d) (by rw[AM,h];rfl))) rfl rfl) rfl
theorem O8(G:G3)(k:Nat)(s:St3)(h:G.steps[k]?=some s):S4 [G.d,.int (k:Int)]=.ok (.tup (Zd s.fills)):=by
 refine Ws (Y9 rfl ?_);unfold Gn;exact Yb (Z5 (Z5 (Z5 rfl rfl rfl) rfl (Ru (x:=s.d) (by rw[AM,h];rfl))) rfl rfl) rfl
theorem bG(n p:Nat):L0 [.int (n:Int),.int (p:Int)]=.ok (.bl (n.testBit p)):=by
 refine Ws (Y9 rfl ?_);unfold Kx;exact Yb (Z5 (Z5 (Z5 rfl rfl (SC n p)) rfl (UB n p)) rfl (df _)) rfl
theorem WO(a:Nat):Nz (.int (a:Int)) (.int 0)=some (.bl (!(a==0))):=by
 rw[bS];congr 3
 rw[DW,DC,DC];lia
theorem cf(G:G3)(hG:Gb 64 G)(m:Nat)(cd:Dat)(k:Nat)(s:St3)(h:G.steps[k]?=some s):A3 [G.d,.tup [.int (m:Int),cd],.int (k:Int)]=.ok (.bl (U5 s m)):=by
 refine Ws (Y9 rfl ?_);unfold WC;have hs:=hG.st s (AH h);refine Z9 (Zg (Zh (xs:=[.tup (Zd s.takes)]) (Z2 (Zh (xs:=[G.d,.int (k:Int)]) rfl (Db G k s h)) rfl) (Js s.takes λp hp=>by have:=hs.t p hp;lia)) ?_);exact Yb (Z5 (Z5 (Z5 rfl rfl rfl) rfl (QO m _)) rfl (NC _ _)) rfl
structure ME (s:St3) (p:Nat×Nat):Prop where
 can:U5 s p.1=true
 lev:p.2.testBit s.w≠s.up
 room:∀ q∈s.fills,p.1.testBit q=true->q∈s.takes
theorem f9(G:G3)(hG:Gb 64 G)(p:Nat×Nat)(k:Nat)(s:St3)(h:G.steps[k]?=some s)(hf:ME s p):Hr [G.d,Y1 p,.int (k:Int)]=.ok (Y1 (U8 s p)):=by
 have hs:=hG.st s (AH h);have o:=hG.w2;have r:=hs.w;refine Ws (Y9 rfl ?_);unfold D0;refine Z9 (Zg (Zh (xs:=[G.d,.int (k:Int)]) rfl (O0 G k s h)) ?_);refine Z9 (Cj (We (Z5 (Zh (xs:=[.int (p.2:Int),.int (s.w:Int)]) (Z2 (Z5 rfl rfl rfl) rfl) (bG p.2 s.w)) (Zh (xs:=[G.d,.int (k:Int)]) rfl (cT G k s h)) (by rw[VZ,show(p.2.testBit s.w==s.up)=false by simpa using hf.lev]))) (W9 ?_));obtain⟨b,H,J⟩:=Gu p.1 (K' s.takes);refine Z9 (Zg (d:=.int (b:Int)) (Z5 (Z5 rfl rfl rfl) (XN (Zh (xs:=[.tup (Zd s.takes)]) (Z2 (Zh (xs:=[G.d,.int (k:Int)]) rfl (Db G k s h)) rfl) (Js s.takes λp hp=>by have:=hs.t p hp;lia)) (z:=.int (-(K' s.takes:Int) - 1)) rfl) (by show some (Dat.int (Builtin.bitAnd _ _))=_;rw[H])) ?_);refine Z9 (Zg (d:=.int (K' s.fills:Int)) (Zh (xs:=[.tup (Zd s.fills)]) (Z2 (Zh (xs:=[G.d,.int (k:Int)]) rfl (O8 G k s h)) rfl) (Js s.fills λp hp=>by have:=hs.f p hp;lia)) ?_);have hz:b &&& K' s.fills=0:=CT λj=>by
  rw[EE,J,Ww,Ww,IK];by_cases h1:j∈s.fills
  .by_cases h2:p.1.testBit j=true
   .rw[AL (hf.room j h1 h2)];simp
   .have:p.1.testBit j=false:=by simpa using h2
    rw[this];rfl
  .rw[AF h1,Bool.and_false]
 refine Z9 (Cj (We (Z5 (Z5 rfl rfl (QO b _)) rfl (by rw[hz];exact WO 0))) (W9 ?_));have em:b ||| K' s.fills=(U8 s p).1:=CT λj=>by rw[DY,J,Ww,Ww,Ln]
 refine Yb (Y0 (xs:=[.int ((U8 s p).1:Int),.int ((U8 s p).2:Int)]) (Z2 (Z5 rfl rfl (by rw[OC,em])) (Z2 (Z5 (Z5 rfl rfl rfl) (Z5 rfl rfl (OI s.w (by lia))) (cj p.2 _)) rfl))) rfl
theorem Ap(r:Rw):Xw r.d none (some 2)=some (Y1 r.st):=rfl
theorem Ly(G:G3)(hG:Gb 64 G)(p:Nat×Nat):Rh [G.d,Y1 p]=.ok (.lst (Zd (PF G p.1))):=by
 refine Ws (Y9 rfl ?_);unfold G5;have B:=hG.s2;have hc:=Jo (g:=Zz 0) (t:=dT (Y3 A3 (O (U 1) (O (U 2) (O (U 0) Zb))))) (f:=U 0) (env:=[.un,.fz G.d,.fz (Y1 p)]) (λk:Nat=>Dat.int (k:Int)) (λk:Nat=>Dat.int (k:Int)) (Ca G p.1) (List.range G.steps.length) λk Y=>by
  have s:=DU.mp Y;have e:G.steps[k]?=some G.steps[k]:=AJ s;refine⟨[.fz (.int (k:Int)),.fz G.d,.fz (Y1 p)],rfl,?_,rfl⟩;have:Ca G p.1 k=U5 G.steps[k] p.1:=by unfold Ca;rw[e]
  rw[this];exact Hl (Zh (xs:=[G.d,.tup [.int (p.1:Int),.int (p.2:Int)],.int (k:Int)]) rfl (cf G hG p.1 _ k _ e))
 rw[<- Dw] at hc;refine Yb (Wk (W0 (xs:=rng 0 G.steps.length) (W3 (Z2 (Yn (Z2 (x:=.tup (G.steps.map St3.d)) (Z5 rfl rfl rfl) rfl) (by show some (Dat.int ((G.steps.map St3.d).length:Int))=_;rw[AB])) rfl) (by lia)) rfl hc)) ?_;rw[Wt];rfl
theorem Gb.up(h:Gb 54 G):Gb 64 G:=⟨h.w2,h.s1,h.s2,λs hs=>⟨(h.st s hs).w,λp hp=>by have:=(h.st s hs).t p hp;lia,λp hp=>by have:=(h.st s hs).f p hp;lia,(h.st s hs).tn,(h.st s hs).fn⟩,AO h.mks (DA (by lia) (by lia))⟩
def ZL(G:G3):Rw:=⟨G.marks,G.code,none⟩
theorem cu(N:af.length<=400)(t:MP G I af)(n:Nat)(hn:n<af.length):N2 [.lst (af.map Rw.d),.int (n:Int)]=.ok (.lst (Zd (R8 af n))):=by
 refine Ws (Y9 rfl ?_);unfold UW;refine Z9 (Tf (ds:=Zd []) rfl ?_);refine Z9 (Zg rfl ?_);refine Z9 (kT (λm e=>∃ (o:Nat) (ks:Z Nat),e=[.fz (.lst (af.map Rw.d)),.fz (.int (n:Int)),.ow (Zd ks),.fz (.int (o:Int))]/\m=o/\o<af.length/\R8 af n=R8 af o++ks.reverse/\ks.length+o<=n) (n:=n) ⟨n,[],rfl,rfl,hn,by simp,by simp⟩ ?_);rintro m e ⟨o,ks,rfl,rfl,hl,hw,Y⟩;obtain⟨r,hr⟩:∃ r,af[m]?=some r:=⟨_,AJ hl⟩;have D:Yq (.lst (af.map Rw.d)) (.int (m:Int))=some r.d:=Uo (by rw[AM,hr];rfl);rcases DF m with z | z
 .left
  have hs:=(jM t hr).mpr z;subst z;refine⟨We (Z5 (x:=.non) (Z5 (Z5 rfl rfl D) rfl (by show some (match r.src with | none=>Dat.non | some p=>.int (p.1:Int))=_;rw[hs])) rfl rfl),?_⟩;rw[ZQ,List.nil_append] at hw;refine Yb (Wk (eD (xs:=Zd ks) (Z2 rfl rfl))) ?_;rw[hw];unfold Zd;rw[List.map_reverse,List.map_reverse]
 .right
  obtain⟨f,k,s,c,a1,a2,a3,a4,a5,a6⟩:=t.src m r hr z;have g:Yq r.d (.int 2)=some (.int (f:Int)):=by show some (match r.src with | none=>Dat.non | some p=>.int (p.1:Int))=_;rw[a1]
  have a:Yq r.d (.int 3)=some (.int (k:Int)):=by show some (match r.src with | none=>Dat.non | some p=>.int (p.2:Int))=_;rw[a1]
  refine⟨We (Z5 (x:=.int (f:Int)) (Z5 (Z5 rfl rfl D) rfl g) rfl rfl),?_⟩;refine Z9 (Uk (ds:=Zd ks) (as:=[.int (k:Int)]) (ds':=Zd (ks++[k])) rfl (Z2 (Z5 (Z5 rfl rfl D) rfl a) rfl) (by rw[Uz (by unfold Zd;rw[AB,AB];lia),<- K5];rfl) ?_);refine Zg (Z5 (Z5 rfl rfl D) rfl g) ⟨f,a2,f,ks++[k],rfl,rfl,by lia,?_,by rw[AQ,CM];lia⟩;rw[hw,dW t hr a1 z,List.reverse_append];simp
theorem Fa(t:MP G I af):∀ n,n<af.length->(R8 af n).length<=n/\∀ k∈R8 af n,k<G.steps.length:=by
 intro m;induction m using strongRecOn with
 | _ m ih =>
  intro hm;rcases DF m with z | z
  .subst z;rw[ZQ];exact⟨AT _,by simp⟩
  .obtain⟨r',v⟩:∃ r,af[m]?=some r:=⟨_,AJ hm⟩
   obtain⟨f,k,s,c,a1,a2,a3,_,_,_⟩:=t.src m r' v z;obtain⟨h1,h2⟩:=ih f a2 (by lia);rw[dW t v a1 z,AQ,CM];refine⟨by lia,λx hx=>?_⟩;rcases CB.mp hx with q | q
   .exact h2 x q
   .rw[AI.mp q];exact(AG.mp a3).1
def Py(ks:Z Nat):Z Int:=ks.map λk:Nat=>(k:Int)
theorem X7(h1:ks.length<=500)(h2:∀ k∈ks,k<1000):Rl (Py ks)=true:=by
 unfold Rl Py;rw[AB,AL h1,GY,DH];intro n hn;obtain⟨k,Y,rfl⟩:=CS.mp hn;have:=h2 k Y;rw[AL (by lia),AL (by lia)];rfl
theorem Fk(l:Z Nat):Qj (Zd l)=some (Py l):=Ms (Py l)
def F5(ks:Z Nat):Z (Str×XD):=[("way",.nums (Py ks))]
theorem cm(h1:ks.length<=500)(h2:∀ k∈ks,k<1000):gW "way" [.lst (Zd ks)]=some (F5 ks):=by
 unfold gW;dsimp only;rw[Fk];dsimp only[Option.bind];rw[AE (X7 h1 h2)];rfl
def SJ(c:Str):Prop:=c="Broken" \/ c="Crowded"
theorem ge(G:G3)(hG:Gb 64 G)(p:Nat×Nat)(k:Nat)(s:St3)(h:G.steps[k]?=some s)(hc:U5 s p.1=true)(hf:¬ ME s p):∃ c,SJ c/\Hr [G.d,Y1 p,.int (k:Int)]=.exc c (F5 [k]):=by
 have hs:=hG.st s (AH h);have o:=hG.w2;have r:=hs.w;have Y:=(AG.mp h).1;have B:=hG.s2;have a:gW "way" [.lst (Zd [k])]=some (F5 [k]):=cm (by simp) λq hq=>by rw[AI.mp hq];lia
 have:=Bw (n:=6) (p:=3) (ds:=[G.d,Y1 p,.int (k:Int)]) (g:=D0) (R:=λ_=>False) (E:=λc fl=>SJ c/\fl=F5 [k]) rfl ?_
 .rcases this with⟨d,_,z⟩ | ⟨c,fl,e,h1,h2⟩
  .exact z.elim
  .exact⟨c,h1,by rw[<- h2];exact e⟩
 unfold D0;refine Tx (Zg (Zh (xs:=[G.d,.int (k:Int)]) rfl (O0 G k s h)) ?_);refine U3 (Xc (We (Z5 (Zh (xs:=[.int (p.2:Int),.int (s.w:Int)]) (Z2 (Z5 rfl rfl rfl) rfl) (bG p.2 s.w)) (Zh (xs:=[G.d,.int (k:Int)]) rfl (cT G k s h)) (VZ _ _))) (λ_=>Dx (ds:=[.lst (Zd [k])]) (Z2 (Wk (Qq (Z2 rfl rfl))) rfl) a ⟨.inl rfl,rfl⟩) (λhb=>(W9 ?_:Go _ _ _).toE));have i:p.2.testBit s.w≠s.up:=by simpa using hb
 obtain⟨b,H,J⟩:=Gu p.1 (K' s.takes);refine Tx (Zg (d:=.int (b:Int)) (Z5 (Z5 rfl rfl rfl) (XN (Zh (xs:=[.tup (Zd s.takes)]) (Z2 (Zh (xs:=[G.d,.int (k:Int)]) rfl (Db G k s h)) rfl) (Js s.takes λp hp=>by have:=hs.t p hp;lia)) (z:=.int (-(K' s.takes:Int) - 1)) rfl) (by show some (Dat.int (Builtin.bitAnd _ _))=_;rw[H])) ?_);refine Tx (Zg (d:=.int (K' s.fills:Int)) (Zh (xs:=[.tup (Zd s.fills)]) (Z2 (Zh (xs:=[G.d,.int (k:Int)]) rfl (O8 G k s h)) rfl) (Js s.fills λp hp=>by have:=hs.f p hp;lia)) ?_);refine U3 (Xc (We (Z5 (Z5 rfl rfl (QO b _)) rfl (WO _))) (λ_=>Dx (ds:=[.lst (Zd [k])]) (Z2 (Wk (Qq (Z2 rfl rfl))) rfl) a ⟨.inr rfl,rfl⟩) (λu=>?_));exfalso;refine hf ⟨hc,i,λq h1 h2=>?_⟩;have hz:b &&& K' s.fills=0:=by simpa using u
 have:=EB (Nat.testBit · q) hz;simp only[EE,J,Ww,IK,h2,GY,AL h1,Bool.and_true] at this;simpa using this
theorem YD(hr:af[n]?=some r):(O (U 0) (O (dS Xw (dO Yq (U 1) (U 2)) Qk (Tb (dC (.int 2)))) (O (U 3) Zb))) [.fz G.d,.fz (.lst (af.map Rw.d)),.fz (.int (n:Int)),.fz (.int (k:Int))]=some [G.d,Y1 r.st,.int (k:Int)] :=
 Z2 rfl (Z2 (R0 (Z5 rfl rfl (Uo (x:=r.d) (by rw[AM,hr];rfl))) rfl (Vd rfl) (Ap r)) rfl)
theorem jb(G:G3)(hG:Gb 64 G)(af:Z Rw)(n k:Nat)(r:Rw)(s:St3)(hr:af[n]?=some r)(h:G.steps[k]?=some s)(hf:ME s r.st):Ds [G.d,.lst (af.map Rw.d),.int (n:Int),.int (k:Int)]=.ok (Y1 (U8 s r.st)):=by
 show(match J8 [.fz G.d,.fz (.lst (af.map Rw.d)),.fz (.int (n:Int)),.fz (.int (k:Int))] with | .ret d=>Rs.ok d | .next _=>.ok .non | .exc _ c fs=>.exc c fs | _=>.no)=_;unfold J8 SS OS Sg;rw[YD hr];dsimp only;rw[f9 G hG r.st k s h hf]
theorem iO(hG:Gb 64 G)(t:MP G I af)(N:af.length<=400)(hr:af[n]?=some r)(h:G.steps[k]?=some s)(hc:U5 s r.m=true)(hf:¬ ME s r.st):∃ c,SJ c/\Ds [G.d,.lst (af.map Rw.d),.int (n:Int),.int (k:Int)]=.exc c (F5 (R8 af n++[k])):=by
 obtain⟨c,y,C⟩:=ge G hG r.st k s h hc hf;have Y:=(AG.mp h).1;have hn:=(AG.mp hr).1;have B:=hG.s2;obtain⟨w1,w2⟩:=Fa t n hn;have a:gW "way" [.lst (Zd (R8 af n++[k]))]=some (F5 (R8 af n++[k])):=cm (by rw[AQ,CM];lia) λq hq=>by
  rcases CB.mp hq with z | z
  .have:=w2 q z;lia
  .rw[AI.mp z];lia
 have ha:(O (dL (dO Nd (Y3 N2 (O (U 1) (O (U 2) Zb))) (dL (Ut (O (U 3) Zb))))) Zb) [.fz G.d,.fz (.lst (af.map Rw.d)),.fz (.int (n:Int)),.fz (.int (k:Int))]=some [.lst (Zd (R8 af n++[k]))]:=by
  refine Z2 (Wk (ds:=Zd (R8 af n++[k])) ?_) rfl;unfold dO;rw[Zh (xs:=[.lst (af.map Rw.d),.int (n:Int)]) rfl (cu N t n hn),Wk (Qq (xs:=[.int (k:Int)]) (Z2 rfl rfl))];have hl:(Zd (R8 af n)).length=(R8 af n).length:=by unfold Zd;rw[AB,AB]
  show Nd (.lst (Zd (R8 af n))) (.lst (Zd [k]))=_;rw[<- K5];unfold Nd;exact AE (by rw[hl];have:(Zd [k]).length=1:=rfl;rw[DQ];lia)
 refine⟨c,y,?_⟩;show(match J8 [.fz G.d,.fz (.lst (af.map Rw.d)),.fz (.int (n:Int)),.fz (.int (k:Int))] with | .ret d=>Rs.ok d | .next _=>.ok .non | .exc _ c fs=>.exc c fs | _=>.no)=_;unfold J8 SS OS Sg;rw[YD hr];dsimp only;rw[C];dsimp only;have hr:∀ c,Uh c (gW "way") (O (dL (dO Nd (Y3 N2 (O (U 1) (O (U 2) Zb))) (dL (Ut (O (U 3) Zb))))) Zb) [.fz G.d,.fz (.lst (af.map Rw.d)),.fz (.int (n:Int)),.fz (.int (k:Int))]=.exc [.fz G.d,.fz (.lst (af.map Rw.d)),.fz (.int (n:Int)),.fz (.int (k:Int))] c (F5 (R8 af n++[k])):=λc=>by
  unfold Uh;rw[ha];dsimp only[Option.bind];rw[a]
 rcases y with rfl | rfl
 .rw[AE (by decide),AE rfl,hr]
 .rw[AE (by decide),AK (by decide),AE rfl,hr]
abbrev TT(G:G3)(af:Z Rw):Prop:=MP G (λ_=>True) af
theorem nG(G:G3):TT G [ZL G] where
 zero:=rfl
 inv:=λ_ _=>trivial
 nd:=DB.mpr ⟨by simp,DN⟩
 src:=λi r e h0=>by
  rw[GT,AK (by lia)] at e;cases e
theorem cI(t:TT G af){f:Nat}{c:Rw}(hf:af[f]?=some c)(hs:G.steps[k]?=some s)(hc:U5 s c.m=true)(hn:U8 s c.st∉af.map Rw.st):TT G (af++[⟨(U8 s c.st).1,(U8 s c.st).2,some (f,k)⟩]) where
 zero:=by
  have:=t.zero;have hl:=(AG.mp this).1;rw[BG hl];exact this
 inv:=λ_ _=>trivial
 nd:=by
  rw[BM];refine GJ.mpr ⟨t.nd,DB.mpr ⟨by simp,DN⟩,λa ha b hb=>?_⟩;have C:b=U8 s c.st:=AI.mp hb;rw[C];intro e;exact hn (e▸ha)
 src:=λi r e h0=>by
  rcases EV i af.length with hl | hl
  .rw[BG hl] at e
   obtain⟨Q,k',s',d,a1,a2,a3,a4,a5,a6⟩:=t.src i r e h0;exact⟨Q,k',s',d,a1,a2,a3,by rw[BG (by lia)];exact a4,a5,a6⟩
  .rw[CK hl] at e
   have P:=(AG.mp hf).1;have T:i - af.length=0:=by
    rcases DF (i - af.length) with z | z
    .exact z
    .rw[GT,AK (by lia)] at e;cases e
   rw[T] at e;cases e;exact⟨f,k,s,c,rfl,by lia,hs,by rw[BG P];exact hf,hc,rfl⟩
theorem bK{a b:Z Rw}(h:a <+: b)(hp:p∈a.map Rw.st):p∈b.map Rw.st:=by
 obtain⟨r,h1,h2⟩:=CS.mp hp;exact CS.mpr ⟨r,h.subset h1,h2⟩
def RS(G:G3)(r:Rw):Prop:=∀ (k:Nat) (s:St3),G.steps[k]?=some s->U5 s r.m=true->ME s r.st
variable{p:Nat}{k:Int}
def WZ(G:G3)(af:Z Rw)(r:Rw):Prop:=∀ (k:Nat) (s:St3),G.steps[k]?=some s->U5 s r.m=true->U8 s r.st∈af.map Rw.st
structure MB (G:G3) (ah:Nat) (af:List Rw):Prop where
 t:TT G af
 le:af.length<=ah
 ok:∀ r∈af,RS G r
 cl:∀ r∈af,WZ G af r
def VC(c:Str)(fl:Z (Str×XD)):Prop:=(SJ c/\∃ ks:Z Nat,fl=F5 ks)\/(c="TooMany" /\ fl=[])
def bi(G:G3)(ah:Nat)(c:Str):Prop:=(c="TooMany" /\ ∃ af,TT G af/\ah<af.length)\/(SJ c/\∃ (af:Z Rw) (r:Rw) (k:Nat) (s:St3),TT G af/\r∈af/\G.steps[k]?=some s/\U5 s r.m=true/\¬ ME s r.st)
theorem dX(e:fs env=some ds)(h:F ds=.ok d):R3 i F fs env=.next (env.set i (.fz d)):=by unfold R3;rw[e];dsimp only;rw[h]
theorem dN(e:fs env=some ds)(h:F ds=.exc c fl):R3 i F fs env=.exc env c fl:=by unfold R3;rw[e];dsimp only;rw[h]
theorem kF(h:F ds=.ok d)(hp:RH d=true):Iy F ds=.ok d:=by unfold Iy;rw[h];exact AE hp
theorem j4(h:F ds=.exc c fl):Iy F ds=.exc c fl:=by unfold Iy;rw[h]
theorem Ol(hG:Gb 64 G)(ah:Nat)(X:1<=ah)(M:ah<=400):(∃ d,Mx [G.d,.int (ah:Int)]=.ok d/\∃ af,d=.lst (af.map Rw.d)/\MB G ah af)\/∃ c fl,Mx [G.d,.int (ah:Int)]=.exc c fl/\bi G ah c/\VC c fl:=by
 refine Bw (R:=λd=>∃ af,d=.lst (af.map Rw.d)/\MB G ah af) (E:=λc fl=>bi G ah c/\VC c fl) rfl ?_;unfold Pw;refine Tx (Tf (ds:=[ZL G].map Rw.d) (Qq (Z2 (Y0 (Z2 (Z5 rfl rfl rfl) (Z2 (Z5 rfl rfl rfl) rfl))) rfl)) ?_);refine Tx (nQ (q:=(G.marks,G.code)) (Y0 (Z2 (Z5 rfl rfl rfl) (Z2 (Z5 rfl rfl rfl) rfl))) rfl ?_);refine Tx (Zg (d:=.int ((0:Nat):Int)) rfl ?_);refine U3 (nZ (λm e=>∃ (af:Z Rw) (o:Nat) (w l A:LQ),e=[.fz G.d,.fz (.int (ah:Int)),.ow (af.map Rw.d),.gx (.dict (Ig (af.map Rw.st))),.fz (.int (o:Int)),w,l,A]/\TT G af/\o<=af.length/\m+o=400/\af.length<=ah/\∀ i r,i<o->af[i]?=some r->RS G r/\WZ G af r) (n:=400) ⟨_,0,.un,.un,.un,rfl,nG G,by lia,rfl,X,λi r h=>by lia⟩ ?_);rintro m e ⟨af,o,w,l,A,rfl,t,I,hm,x,hok⟩;have J:dF U0 (O (dP 2) Zb) [.fz G.d,.fz (.int (ah:Int)),.ow (af.map Rw.d),.gx (.dict (Ig (af.map Rw.st))),.fz (.int (o:Int)),w,l,A]=some (.int (af.length:Int)):=Yn (Z2 rfl rfl) (Qm Rw.d af);rcases EV o af.length with hl | hl
 .right
  obtain⟨r,hr⟩:∃ r,af[o]?=some r:=⟨_,AJ hl⟩;have D:Yq (.lst (af.map Rw.d)) (.int (o:Int))=some r.d:=Uo (by rw[AM,hr];rfl);refine⟨We (Z5 rfl J (by show some (Dat.bl (decide ((o:Int)<(af.length:Int))))=_;rw[AL (by lia)])),?_⟩;refine Tx (Zg (Zh (xs:=[G.d,Y1 r.st]) (Z2 rfl (Z2 (R0 (Z5 rfl rfl D) rfl (Vd rfl) (Ap r)) rfl)) (Ly G hG r.st)) ?_);obtain⟨ks,ak⟩:∃ ks:Z Nat,PF G r.st.1=ks:=⟨_,rfl⟩;have P:PF G r.m=ks:=ak;have ao:∀ k∈ks,Ca G r.m k=true:=λk Y=>by rw[<- P] at Y;exact jn Y
  rw[ak];refine U3 (Bb (ds:=Zd ks) (λi e=>∃ (j:Z Rw) (l A:LQ),e=[.fz G.d,.fz (.int (ah:Int)),.ow (j.map Rw.d),.gx (.dict (Ig (j.map Rw.st))),.fz (.int (o:Int)),.fz (.lst (Zd ks)),l,A]/\TT G j/\af <+: j/\j.length<=ah/\∀ k∈ks.take i,∀ s,G.steps[k]?=some s->ME s r.st/\U8 s r.st∈j.map Rw.st) rfl ⟨af,l,A,rfl,t,List.prefix_rfl,x,λk Y=>by simp at Y⟩ ?_ ?_)
  .rintro i d e hi ⟨j,l,A,rfl,tr,p,S,ai⟩
   obtain⟨k,Y,rfl⟩:=Ht hi;have aa:=ao k (AH Y);obtain⟨s,hs,g⟩:=hL aa;have al:ks.take (i+1)=ks.take i++[k]:=by rw[FY,Y];rfl
   have v:=B2 p hr;have N:j.length<=400:=by lia
   refine⟨_,rfl,?_⟩;by_cases hf:ME s r.st
   case neg =>
    obtain⟨c,y,ec⟩:=iO hG tr N v hs g hf;refine U3 ⟨?_⟩;rw[dN (ds:=[G.d,.lst (j.map Rw.d),.int (o:Int),.int (k:Int)]) rfl (j4 ec)];exact⟨.inr ⟨y,j,r,k,s,tr,AH v,hs,g,hf⟩,.inl ⟨y,_,rfl⟩⟩
   have Q:∀ H:Z Rw,j <+: H->U8 s r.st∈H.map Rw.st->∀ k'∈ks.take (i+1),∀ s,G.steps[k']?=some s->ME s r.st/\U8 s r.st∈H.map Rw.st:=λH aO ap k' C s' F=>by
    rw[al] at C;rcases CB.mp C with z | z
    .obtain⟨a1,a2⟩:=ai k' z s' F
     exact⟨a1,bK aO a2⟩
    .rw[AI.mp z,hs] at F;cases F;exact⟨hf,ap⟩
   refine U3 ⟨?_⟩;rw[dX (d:=Y1 (U8 s r.st)) (ds:=[G.d,.lst (j.map Rw.d),.int (o:Int),.int (k:Int)]) rfl (kF (jb G hG j o k r s v hs hf) rfl)];refine U3 (Xc (We (nP (ps:=j.map Rw.st) (q:=U8 s r.st) rfl rfl)) (λhb=>?_) (λhb=>?_))
   .exact⟨⟨j,.fz (.int (k:Int)),.fz (Y1 (U8 s r.st)),rfl,tr,p,S,Q j List.prefix_rfl (BK hb)⟩⟩
   have B:U8 s r.st∉j.map Rw.st:=JN hb;refine(W9 ?_:Go _ _ _).toE;refine U3 (Xc (b:=decide ((ah:Int)<=(j.length:Int))) (We (Z5 (Yn (Z2 rfl rfl) (Qm Rw.d j)) rfl rfl)) (λu=>?_) (λu=>(W9 ?_:Go _ _ _).toE))
   .have:=BK u
    exact Dx (ds:=[]) rfl rfl ⟨.inl ⟨rfl,_,cI tr v hs g B,by rw[AQ,CM];lia⟩,.inr ⟨rfl,rfl⟩⟩
   have ae:=JN u;refine Tx (l6 (ps:=j.map Rw.st) (q:=U8 s r.st) rfl rfl rfl B (by rw[AB];lia) ?_);refine(Uk (ds:=j.map Rw.d) (as:=[(⟨(U8 s r.st).1,(U8 s r.st).2,some (o,k)⟩:Rw).d]) (ds':=(j++[(⟨(U8 s r.st).1,(U8 s r.st).2,some (o,k)⟩:Rw)]).map Rw.d) rfl (Z2 (Y0 (Z2 (Z5 rfl rfl rfl) (Z2 (Z5 rfl rfl rfl) rfl))) rfl) (by rw[Uz (by rw[AB];lia),BM];rfl) ?_).toE;refine⟨j++[⟨(U8 s r.st).1,(U8 s r.st).2,some (o,k)⟩],.fz (.int (k:Int)),.fz (Y1 (U8 s r.st)),?_,cI tr v hs g B,p.trans (List.prefix_append _ _),by rw[AQ,CM];lia,Q _ (List.prefix_append _ _) (by rw[BM];exact BX _ (AI.mpr rfl))⟩;rw[BM (f:=Rw.st)];rfl
  .rintro e ⟨j,l,A,rfl,tr,p,S,ai⟩
   have T:(Zd ks).length=ks.length:=by unfold Zd;rw[AB,AB]
   rw[T,BZ (AT _)] at ai;have ac:=p.length_le;refine(i7 rfl rfl ⟨m - 1,by lia,j,o+1,_,_,_,rfl,tr,by lia,by lia,S,λi r' hi ag=>?_⟩:Go _ _ _).toE;rcases EV i o with ae | W
   .obtain⟨r3,am⟩:∃ r3,af[i]?=some r3:=⟨_,AJ (by lia)⟩
    have:=B2 p am;rw[ag] at this;cases this;obtain⟨b1,b2⟩:=hok i _ ae am;exact⟨b1,λk s a b=>bK p (b2 k s a b)⟩
   .have:i=o:=by lia
    subst this;have:=B2 p hr;rw[ag] at this;cases this;have Y:∀ (k:Nat) (s:St3),G.steps[k]?=some s->U5 s r.m=true->k∈ks:=λk s hs hc=>by
     rw[<- P];unfold PF;refine GQ.mpr ⟨DU.mpr (AG.mp hs).1,?_⟩;unfold Ca;rw[hs];exact hc
    exact⟨λk s hs hc=>(ai k (Y k s hs hc) s hs).1,λk s hs hc=>(ai k (Y k s hs hc) s hs).2⟩
 .left
  refine⟨We (Z5 rfl J (by show some (Dat.bl (decide ((o:Int)<(af.length:Int))))=_;rw[AF (by lia)])),?_⟩;have aj:∀ r∈af,RS G r/\WZ G af r:=λr hr=>by
   obtain⟨i,hi,rfl⟩:=HN hr;exact hok i _ (by lia) (AJ hi)
  exact(Dz rfl ⟨af,rfl,t,x,λr hr=>(aj r hr).1,λr hr=>(aj r hr).2⟩:Go _ _ _).toE
theorem gB(G:G3)(hG:Gb 64 G)(i j:Nat)(m l:St3)(hi:G.steps[i]?=some m)(hj:G.steps[j]?=some l):∃ b:Bool,XH [G.d,.int (i:Int),.int (j:Int)]=.ok (.bl b)/\(b=true->∃ q,q∈m.takes/\q∉m.fills/\q∈l.takes):=by
 have k:=hG.st m (AH hi);have o:=hG.st l (AH hj);have:=Y9 (n:=4) (p:=3) (ds:=[G.d,.int (i:Int),.int (j:Int)]) (g:=Ch) (R:=λd=>∃ b:Bool,d=.bl b/\(b=true->∃ q,q∈m.takes/\q∉m.fills/\q∈l.takes)) rfl ?_
 .obtain⟨d,e,b,rfl,h⟩:=this
  exact⟨b,e,h⟩
 unfold Ch;obtain⟨kp,H,a⟩:=Gu (K' m.takes) (K' m.fills);refine Z9 (Zg (d:=.int (kp:Int)) (Z5 (Zh (xs:=[.tup (Zd m.takes)]) (Z2 (Zh (xs:=[G.d,.int (i:Int)]) rfl (Db G i m hi)) rfl) (Js m.takes λp hp=>by have:=k.t p hp;lia)) (XN (Zh (xs:=[.tup (Zd m.fills)]) (Z2 (Zh (xs:=[G.d,.int (i:Int)]) rfl (O8 G i m hi)) rfl) (Js m.fills λp hp=>by have:=k.f p hp;lia)) (z:=.int (-(K' m.fills:Int) - 1)) rfl) (by show some (Dat.int (Builtin.bitAnd _ _))=_;rw[H])) ?_);exact Yb (Z5 (Z5 rfl (Zh (xs:=[.tup (Zd l.takes)]) (Z2 (Zh (xs:=[G.d,.int (j:Int)]) rfl (Db G j l hj)) rfl) (Js l.takes λp hp=>by have:=o.t p hp;lia)) (QO kp _)) rfl (WO _)) ⟨_,rfl,λhb=>by
  obtain⟨q,hq⟩:=Nat.exists_testBit_of_ne_zero (show kp &&& K' l.takes≠0 by simpa using hb);rw[EE,a,Ww,Ww,Ww] at hq;simp only[AW,BU,JW,decide_eq_false_iff_not] at hq;exact⟨q,hq.1.1,hq.1.2,hq.2⟩⟩
theorem ou{u:Str×Bool}(h:G.wires[w]?=some u):Yq (.tup (G.wires.map Uu)) (.int (w:Int))=some (Uu u):=Ru (by rw[AM,h];rfl)
theorem Gx(G:G3)(w:Nat)(u:Str×Bool)(h:G.wires[w]?=some u):Qz [G.d,.int (w:Int)]=.ok (.bl u.2):=by
 refine Ws (Y9 rfl ?_);unfold L4;exact Yb (Z5 (Z5 (Z5 (Z5 rfl rfl rfl) rfl (ou h)) rfl rfl) rfl (eq_made _)) rfl
theorem ZP{u:Str×Bool}(h:G.wires[s.w]?=some u):Q7 G s=u.2:=by unfold Q7;rw[h]
theorem oV{g:Zzu}{a:Bool}(h1:f env=some (.bl a))(h2:g env=some (.bl b)):TY f g env=some (.bl (a||b)):=by
 unfold TY dB;rw[h1];cases a with
 | true=>rfl
 | false=>exact h2
theorem mQ(G:G3)(hG:Gb 64 G)(i j:Nat)(m l:St3)(hi:G.steps[i]?=some m)(hj:G.steps[j]?=some l):Jq [G.d,.int (i:Int),.int (j:Int)]=.ok (.bl (Q7 G m||Q7 G l)):=by
 have k:=(hG.st m (AH hi)).w;have o:=(hG.st l (AH hj)).w;have b:G.wires[m.w]?=some G.wires[m.w]:=AJ k;have ej:G.wires[l.w]?=some G.wires[l.w]:=AJ o;refine Ws (Y9 rfl ?_);unfold Jk;rw[ZP b,ZP ej];exact Yb (oV (Zh (xs:=[G.d,.int (m.w:Int)]) (Z2 rfl (Z2 (Zh (xs:=[G.d,.int (i:Int)]) rfl (O0 G i m hi)) rfl)) (Gx G m.w _ b)) (Zh (xs:=[G.d,.int (l.w:Int)]) (Z2 rfl (Z2 (Zh (xs:=[G.d,.int (j:Int)]) rfl (O0 G j l hj)) rfl)) (Gx G l.w _ ej))) rfl
theorem jS(G:G3)(hG:Gb 64 G):∃ qs:Z (Nat×Nat),P0 [G.d]=.ok (.lst (qs.map Y1))/\∀ p∈qs,p.1<24/\p.2<24/\¬ Ui G:=by
 have:=Y9 (n:=4) (p:=1) (ds:=[G.d]) (g:=Ix) (R:=λd=>∃ qs:Z (Nat×Nat),d=.lst (qs.map Y1)/\∀ p∈qs,p.1<24/\p.2<24/\¬ Ui G) rfl ?_
 .obtain⟨d,e,qs,rfl,h⟩:=this
  exact⟨qs,e,h⟩
 unfold Ix;have B:=hG.s2;have J:∀ e:Ev,e[0]?=some (.fz G.d)->dF U0 (O (dO Yq (U 0) (dC (.int 1))) Zb) e=some (.int ((G.steps.length:Nat):Int)):=λe he=>Yn (Z2 (x:=.tup (G.steps.map St3.d)) (Z5 (x:=G.d) (by unfold U;rw[he]) rfl rfl) rfl) (by show some (Dat.int ((G.steps.map St3.d).length:Int))=_;rw[AB])
 refine Z9 (Tf (ds:=([]:Z (Nat×Nat)).map Y1) rfl ?_);refine Z9 (Wq (ds:=rng 0 G.steps.length) (λi e=>∃ (qs:Z (Nat×Nat)) (f I:LQ),e=[.fz G.d,.ow (qs.map Y1),f,I]/\qs.length<=24*i/\∀ p∈qs,p.1<24/\p.2<24/\¬ Ui G) (W3 (Z2 (J _ rfl) rfl) (by lia)) ⟨[],.un,.un,rfl,by simp,by simp⟩ ?_ ?_)
 .rintro i d e hi ⟨qs,f,I,rfl,hl,hq⟩
  obtain⟨W,rfl⟩:=Ud hi;rw[DL];refine⟨_,rfl,?_⟩;obtain⟨m,a⟩:∃ s,G.steps[i]?=some s:=⟨_,AJ W⟩;refine Wq (ds:=rng 0 G.steps.length) (λj e=>∃ (qs:Z (Nat×Nat)) (I:LQ),e=[.fz G.d,.ow (qs.map Y1),.fz (.int (i:Int)),I]/\qs.length<=24*i+j/\∀ p∈qs,p.1<24/\p.2<24/\¬ Ui G) (W3 (Z2 (J _ rfl) rfl) (by lia)) ⟨qs,I,rfl,hl,hq⟩ ?_ ?_
  .rintro j d e hj ⟨qs,I,rfl,hl,hq⟩
   obtain⟨T,rfl⟩:=Ud hj;rw[DL];refine⟨_,rfl,?_⟩;obtain⟨l,o⟩:∃ s,G.steps[j]?=some s:=⟨_,AJ T⟩;obtain⟨b,hb,u⟩:=gB G hG i j m l a o;refine U6 (Ri (We (Z5 rfl rfl (db i j))) λ_=>Ri (Hl (Zh (xs:=[G.d,.int (i:Int),.int (j:Int)]) rfl (mQ G hG i j m l a o))) λ_=>Hl (Zh (xs:=[G.d,.int (i:Int),.int (j:Int)]) rfl hb)) (λhz=>?_) (λ_=>W9 ⟨qs,_,rfl,by lia,hq⟩);refine Uk (ds':=(qs++[(i,j)]).map Y1) (as:=[Y1 (i,j)]) rfl (Z2 (Y0 (Z2 rfl (Z2 rfl rfl))) rfl) (by rw[Uz (by rw[AB];lia),BM];rfl) ⟨qs++[(i,j)],_,rfl,by rw[AQ];show _+1<=_;lia,λp hp=>?_⟩;rcases CB.mp hp with z | z
   .exact hq p z
   .rw[AI.mp z]
    obtain⟨h1,h2⟩:=DZ.mp hz;obtain⟨h3,h4⟩:=DZ.mp h2;obtain⟨q,q1,q2,q3⟩:=u h4;refine⟨by show i<24;lia,by show j<24;lia,λhn=>?_⟩;obtain⟨k1,k2⟩:=hn i j m l (by simpa using h1) a o q q1 q2 q3;rw[k1,k2] at h3;cases h3
  .rintro e ⟨qs,I,rfl,hl,hq⟩
   rw[Ta] at hl;exact⟨qs,_,_,rfl,by lia,hq⟩
 .rintro e ⟨qs,f,I,rfl,hl,hq⟩
  exact Dz rfl ⟨qs,rfl,hq⟩
def SA(ks:Z Nat)(a b:Nat):Z (Str×XD):=[("way",.nums (Py ks)),("lost",.int (a:Int)),("by",.int (b:Int))]
theorem mr(ks:Z Nat)(a b:Nat)(h:Rl (Py ks)=true)(ha:a<1000)(hb:b<1000):gC "way" "lost" "by" [.lst (Zd ks),.int (a:Int),.int (b:Int)]=some (SA ks a b):=by
 unfold gC;dsimp only;rw[Fk];dsimp only[Option.bind];have hs:∀ w:Nat,w<1000->L5 (w:Int)=true:=λw hw=>by unfold L5;rw[AL (by lia),AL (by lia)];rfl
 rw[AE (by rw[h,hs a ha,hs b hb];rfl)];rfl
theorem ZO(p:Nat)(ps:Z Nat):NY (.int (p:Int)) (.lst (Zd ps))=some (.bl (decide (p∈ps))):=by unfold NY;rw[oF];rfl
theorem e0(h:(qs.map L2.Y1)[i]?=some d):∃ p,qs[i]?=some p/\d=L2.Y1 p:=by
 rw[AM] at h;obtain⟨p,h1,h2⟩:=map_some h;exact⟨p,h1,h2.symm⟩
theorem Fe(hG:Gb 64 G)(hm:ah<=400)(es:Mx [G.d,.int (ah:Int)]=.ok (.lst (af.map Rw.d)))(W:MB G ah af) :
  (∃ d,Vn [G.d,.int (ah:Int)]=.ok d/\d=.lst (af.map Rw.d))\/∃ c fl,Vn [G.d,.int (ah:Int)]=.exc c fl/\c="CalledOff" /\ (∃ (ks:Z Nat) (a b:Nat),fl=SA ks a b)/\¬ Ui G:=by
 have N:=W.le;have B:=hG.s2;refine Bw (R:=λd=>d=.lst (af.map Rw.d)) (E:=λc fl=>c="CalledOff" /\ (∃ (ks:Z Nat) (a b:Nat),fl=SA ks a b)/\¬ Ui G) rfl ?_;unfold K6;refine U3 ⟨?_⟩;rw[dX (d:=.lst (af.map Rw.d)) (ds:=[G.d,.int (ah:Int)]) rfl es];obtain⟨qs,g,aM⟩:=jS G hG;refine Tx (Zg (Zh (xs:=[G.d]) rfl g) ?_);refine U3 (Bb (ds:=Qx 0 (af.map Rw.d)) (λi e=>∃ f w l A F:LQ,e=[.fz G.d,.fz (.int (ah:Int)),.fz (.lst (af.map Rw.d)),.fz (.lst (qs.map Y1)),f,w,l,A,F]) (Pz rfl) ⟨.un,.un,.un,.un,.un,rfl⟩ ?_ ?_)
 .rintro n d e hn ⟨f,w,l,A,F,rfl⟩
  obtain⟨x,hx,rfl⟩:=J7 hn;rw[AM] at hx;obtain⟨r,hr,rfl⟩:=map_some hx;have v:=(AG.mp hr).1;refine⟨[.fz G.d,.fz (.int (ah:Int)),.fz (.lst (af.map Rw.d)),.fz (.lst (qs.map Y1)),.fz (.int (n:Int)),.fz r.d,l,A,F],rfl,?_⟩;refine Tx (Zg (Zh (xs:=[G.d,Y1 r.st]) (Z2 rfl (Z2 (R0 rfl rfl (Vd rfl) (Ap r)) rfl)) (Ly G hG r.st)) ?_);refine Bb (ds:=qs.map Y1) (λi e=>∃ A F:LQ,e=[.fz G.d,.fz (.int (ah:Int)),.fz (.lst (af.map Rw.d)),.fz (.lst (qs.map Y1)),.fz (.int (n:Int)),.fz r.d,.fz (.lst (Zd (PF G r.st.1))),A,F]) rfl ⟨A,F,rfl⟩ ?_ ?_
  .rintro i d e hi ⟨A,F,rfl⟩
   obtain⟨p,hp,rfl⟩:=e0 hi;refine⟨[.fz G.d,.fz (.int (ah:Int)),.fz (.lst (af.map Rw.d)),.fz (.lst (qs.map Y1)),.fz (.int (n:Int)),.fz r.d,.fz (.lst (Zd (PF G r.st.1))),.fz (.int (p.1:Int)),.fz (.int (p.2:Int))],rfl,?_⟩;refine Xc (Ri (We (Z5 rfl rfl (ZO p.1 _))) λ_=>We (Z5 rfl rfl (ZO p.2 _))) (λhb=>?_) (λhb=>(W9 ⟨_,_,rfl⟩:Go _ _ _).toE);obtain⟨w1,w2⟩:=Fa W.t n v;obtain⟨l1,l2,l3⟩:=aM p (AH hp);exact Dx (ds:=[.lst (Zd (R8 af n)),.int (p.2:Int),.int (p.1:Int)]) (Z2 (Zh (xs:=[.lst (af.map Rw.d),.int (n:Int)]) rfl (cu (by lia) W.t n v)) rfl) (mr _ p.2 p.1 (X7 (by lia) λk Y=>by have:=w2 k Y;lia) (by lia) (by lia)) ⟨rfl,⟨_,_,_,rfl⟩,l3⟩
  .rintro e ⟨A,F,rfl⟩
   exact⟨_,_,_,_,_,rfl⟩
 .rintro e ⟨f,w,l,A,F,rfl⟩
  refine(Yb rfl ?_:Go _ _ _).toE;rfl
theorem XG(a b:Int):Nz (.int a) (.int b)=some (.bl (!(a==b))):=by unfold Nz Si;rfl
def Um(p:α->Bool):Nat->Z α->Z Nat
 | _,[]=>[]
 | k,x::xs=>if p x=true then k::Um p (k+1) xs else Um p (k+1) xs
theorem X9{g:Dat->Ev->C1 Ev}(D:α->Dat)(p:α->Bool):∀ (xs:Z α) (k:Nat),(∀ x∈xs,∀ n:Nat,∃ e1,g (.tup [.int (n:Int),D x]) env=some e1/\t e1=some (p x)/\f e1=some (.int (n:Int)))->Wn g t f env (Qx k (xs.map D))=some (Zd (Um p k xs))
 | [],_,_=>rfl
 | x::xs,k,h=>by
  obtain⟨e1,a1,a2,a3⟩:=h x AX k;have ih:=X9 D p xs (k+1) λz hz=>h z (AR _ hz)
  rw[CF,Qx,Wn,a1];dsimp only[Option.bind];rw[a2];dsimp only;rw[Um];cases hp:p x with
  | true=>rw[AE rfl,a3];dsimp only;rw[ih,AE rfl];rfl
  | false=>rw[AK (by decide),ih,AK (by decide)]
theorem Qt(p:α->Bool):∀ (xs:Z α) (k j:Nat),j∈Um p k xs↔∃ i x,j=k+i/\xs[i]?=some x/\p x=true
 | [],k,j=>by simp[Um]
 | x::xs,k,j=>by
  rw[Um];have ih:=Qt p xs (k+1) j;have aj:(j∈Um p (k+1) xs)↔∃ i y,j=k+(i+1)/\(x::xs)[i+1]?=some y/\p y=true:=by
   rw[ih];constructor
   .rintro⟨i,y,h1,h2,h3⟩;exact⟨i,y,by lia,by simpa using h2,h3⟩
   .rintro⟨i,y,h1,h2,h3⟩;exact⟨i,y,by lia,by simpa using h2,h3⟩
  constructor
  .intro h
   split at h
   .rename_i hp
    rcases BA.mp h with e | e
    .exact⟨0,x,by lia,rfl,hp⟩
    .obtain⟨i,y,h1,h2,h3⟩:=aj.mp e;exact⟨i+1,y,h1,h2,h3⟩
   .obtain⟨i,y,h1,h2,h3⟩:=aj.mp h;exact⟨i+1,y,h1,h2,h3⟩
  .rintro⟨i,y,h1,h2,h3⟩
   cases i with
   | zero =>
    have:x=y:=by simpa using h2
    subst this;rw[AE h3];exact BA.mpr (.inl (by lia))
   | succ i =>
    have:=aj.mpr ⟨i,y,h1,h2,h3⟩;split
    .exact AR _ this
    .exact this
def Be(w:Nat)(up:Bool)(s:St3):Bool:=(s.w==w)&&(s.up==up)
theorem mT(G:G3)(w:Nat)(up:Bool):G0 [G.d,.int (w:Int),.bl up]=.ok (.lst (Zd (Um (Be w up) 0 G.steps))):=by
 refine Ws (Y9 rfl ?_);unfold H9;exact Yb (Wk (W0 (xs:=Qx 0 (G.steps.map St3.d)) (env':=[.un,.un,.fz (.int (w:Int)),.fz (.bl up)]) (dE (Z5 rfl rfl rfl)) rfl (X9 St3.d (Be w up) G.steps 0 λs _ n=>⟨[.fz (.int (n:Int)),.fz s.d,.fz (.int (w:Int)),.fz (.bl up)],rfl,Ri (We (Z5 (Z5 rfl rfl rfl) rfl (NC s.w w))) λ_=>We (Z5 (Z5 rfl rfl rfl) rfl (VZ s.up up)),rfl⟩))) rfl
def Ul(G:G3)(m w:Nat)(up:Bool):Bool:=G.steps.any λs=>Be w up s&&U5 s m
theorem Il(G:G3)(hG:Gb 64 G)(m:Nat)(cd:Dat)(w:Nat)(up:Bool):M4 [G.d,.tup [.int (m:Int),cd],.int (w:Int),.bl up]=.ok (.bl (Ul G m w up)):=by
 refine Ws (Y9 rfl ?_);unfold Do;let q:Nat->Bool:=λk=>match G.steps[k]? with | some s=>U5 s m | none=>false
 have hc:Wn (Zz 0) V7 (Y3 A3 (O (U 1) (O (U 2) (O (U 0) Zb)))) [.un,.fz G.d,.fz (.tup [.int (m:Int),cd])] (Zd (Um (Be w up) 0 G.steps))=some (((Um (Be w up) 0 G.steps).map q).map Dat.bl):=by
  rw[Wt,Vv (λp:Nat=>Dat.int (p:Int)) (λp:Nat=>.bl (q p)) _ λp hp=>?_,FB]
  .rfl
  .obtain⟨i,s,e,hs,_⟩:=(Qt _ _ _ _).mp hp
   rw[KB] at e;subst e;refine⟨[.fz (.int (p:Int)),.fz G.d,.fz (.tup [.int (m:Int),cd])],rfl,rfl,Zh (xs:=[G.d,.tup [.int (m:Int),cd],.int (p:Int)]) rfl ?_⟩;rw[cf G hG m cd p s hs];show _=Rs.ok (.bl (match G.steps[p]? with | some s=>U5 s m | none=>false));rw[hs]
 refine Yb (Yn (Z2 (Wk (W0 (xs:=Zd (Um (Be w up) 0 G.steps)) (env':=[.un,.fz G.d,.fz (.tup [.int (m:Int),cd])]) (by unfold Uw;rw[Zh (xs:=[G.d,.int (w:Int),.bl up]) rfl (mT G w up)]) rfl hc)) rfl) (oB _)) ?_;congr 1
 unfold Ul;rw[DW,any_map,FQ,FQ];constructor
 .rintro⟨j,hj,hq⟩
  obtain⟨i,s,e,hs,hp⟩:=(Qt _ _ _ _).mp hj;rw[KB] at e;subst e;refine⟨s,AH hs,?_⟩;have:U5 s m=true:=by
   have a:q j=true:=hq;have e2:q j=U5 s m:=by show(match G.steps[j]? with | some s=>U5 s m | none=>false)=_;rw[hs]
   rw[<- e2];exact a
  rw[hp,this];rfl
 .rintro⟨s,hs,hq⟩
  obtain⟨i,hi,e⟩:=HN hs;have hg:G.steps[i]?=some s:=by rw[AJ hi,e]
  rw[AW] at hq;refine⟨i,(Qt _ _ _ _).mpr ⟨i,s,by lia,hg,hq.1⟩,?_⟩;show q i=true;have e2:q i=U5 s m:=by show(match G.steps[i]? with | some s=>U5 s m | none=>false)=_;rw[hg]
  rw[e2];exact hq.2
def WF(u d:Bool):Int:=if u then 1 else if d then -1 else 0
theorem jk(G:G3)(hG:Gb 64 G)(m:Nat)(cd:Dat)(w:Nat):Nv [G.d,.tup [.int (m:Int),cd],.int (w:Int)]=.ok (.int (WF (Ul G m w true) (Ul G m w false))):=by
 refine Ws (Y9 rfl ?_);unfold Bt;refine Z9 (U6 (Hl (Zh (xs:=[G.d,.tup [.int (m:Int),cd],.int (w:Int),.bl true]) rfl (Il G hG m cd w true))) (λhb=>Yb rfl ?_) (λhb=>W9 ?_))
 .rw[hb];rfl
 refine Z9 (U6 (Hl (Zh (xs:=[G.d,.tup [.int (m:Int),cd],.int (w:Int),.bl false]) rfl (Il G hG m cd w false))) (λu=>Yb rfl ?_) (λu=>W9 (Yb rfl ?_)))
 .rw[hb,u];rfl
 .rw[hb,u];rfl
def Jc(G:G3):Z Nat:=(List.range G.wires.length).filter λw=>match G.wires[w]? with | some u=>u.2 | none=>false
theorem jN(G:G3)(hG:Gb 64 G):XE [G.d]=.ok (.lst (Zd (Jc G))):=by
 refine Ws (Y9 rfl ?_);unfold WB;have o:=hG.w2;have hc:=Jo (g:=Zz 0) (t:=dT (Y3 Qz (O (U 1) (O (U 0) Zb)))) (f:=U 0) (env:=[.un,.fz G.d]) (λk:Nat=>Dat.int (k:Int)) (λk:Nat=>Dat.int (k:Int)) (λw=>match G.wires[w]? with | some u=>u.2 | none=>false) (List.range G.wires.length) λk Y=>by
  have s:=DU.mp Y;have e:G.wires[k]?=some G.wires[k]:=AJ s;refine⟨[.fz (.int (k:Int)),.fz G.d],rfl,?_,rfl⟩;rw[e];exact Hl (Zh (xs:=[G.d,.int (k:Int)]) rfl (Gx G k _ e))
 rw[<- Dw] at hc;refine Yb (Wk (W0 (xs:=rng 0 G.wires.length) (W3 (Z2 (Yn (Z2 (x:=.tup (G.wires.map Uu)) (Z5 rfl rfl rfl) rfl) (K2 Uu G.wires)) rfl) (by lia)) rfl hc)) ?_;unfold Jc;rw[Wt]
def Wv(G:G3)(m w:Nat):Int:=WF (Ul G m w true) (Ul G m w false)
theorem kN(G:G3)(hG:Gb 64 G)(p:Nat×Nat)(ws:Z Nat):Se [G.d,Y1 p,.lst (Zd ws)]=.ok (.lst ((ws.map (Wv G p.1)).map .int)):=by
 refine Ws (Y9 rfl ?_);unfold Gh;have hc:Wn (Zz 0) V7 (Y3 Nv (O (U 1) (O (U 2) (O (U 0) Zb)))) [.un,.fz G.d,.fz (Y1 p)] (Zd ws)=some ((ws.map (Wv G p.1)).map .int):=by
  rw[Wt,Vv (λw:Nat=>Dat.int (w:Int)) (λw:Nat=>.int (Wv G p.1 w)) ws λw _=>⟨[.fz (.int (w:Int)),.fz G.d,.fz (Y1 p)],rfl,rfl,Zh (xs:=[G.d,.tup [.int (p.1:Int),.int (p.2:Int)],.int (w:Int)]) rfl (jk G hG p.1 _ w)⟩,FB];rfl
 exact Yb (Wk (W0 (xs:=Zd ws) rfl rfl hc)) rfl
theorem Od{g:Dat->Ev->C1 Ev}(D E:α->Dat)(P:α->Bool):∀ (xs:Z α) (k:Nat),(∀ (i:Nat) (x:α),xs[i]?=some x->∃ e1,g (.tup [.int ((k+i:Nat):Int),D x]) env=some e1/\t e1=some (P x)/\f e1=some (E x))->Wn g t f env (Qx k (xs.map D))=some ((xs.filter P).map E)
 | [],k,_=>rfl
 | x::xs,k,h=>by
  have h1:=Od D E P xs (k+1) λi y G=>by
   have:=h (i+1) y (by simpa using G);rw[show k+1+i=k+(i+1) by lia];exact this
  obtain⟨e1,a1,a2,a3⟩:=h 0 x rfl;rw[Nat.add_zero] at a1;rw[CF,Qx,Wn,a1];dsimp only[Option.bind];rw[a2];dsimp only;cases hb:P x with
  | true =>
   rw[AE rfl,a3,KH,hb,AE rfl];dsimp only;rw[h1];rfl
  | false =>
   rw[AK (by decide),h1,KH,hb,AK (by decide)]
def TN(ws:Z Nat)(f g:Nat->Int):Z Nat:=ws.filter λy=>!(f y==g y)
theorem fC(ws:Z Nat)(f g:Nat->Int):Og [.lst (Zd ws),.lst ((ws.map f).map .int),.lst ((ws.map g).map .int)]=.ok (.lst (Zd (TN ws f g))):=by
 refine Ws (Y9 rfl ?_);unfold Pj;have e:=Od (g:=Sa 2 (Y7 (Zz 0) (Y7 (Zz 1) T5))) (t:=dB (dO Nz (dO Yq (U 2) (U 0)) (dO Yq (U 3) (U 0)))) (f:=U 1) (env:=[.un,.un,.fz (.lst ((ws.map f).map .int)),.fz (.lst ((ws.map g).map .int))]) (λw:Nat=>Dat.int (w:Int)) (λw:Nat=>Dat.int (w:Int)) (λy=>!(f y==g y)) ws 0 λi x hx=>by
  rw[KB];exact⟨[.fz (.int (i:Int)),.fz (.int (x:Int)),.fz (.lst ((ws.map f).map .int)),.fz (.lst ((ws.map g).map .int))],rfl,We (Z5 (Z5 rfl rfl (Uo (x:=.int (f x)) (by rw[AM,AM,hx];rfl))) (Z5 rfl rfl (Uo (x:=.int (g x)) (by rw[AM,AM,hx];rfl))) (XG _ _)),rfl⟩
 rw[<- Wt,<- Wt] at e;exact Yb (Wk (W0 (xs:=Qx 0 (Zd ws)) (Pz rfl) rfl e)) rfl
def Vg(t:Nat×Nat×Nat):Dat:=.tup [.int (t.1:Int),.int (t.2.1:Int),.int (t.2.2:Int)]
theorem aY{b:Nat}(h:fs env=some [.int (a:Int),.int (b:Int)])(ha:a<=100000)(hb:b<=100000):Ab fs env=some (rng (a:Int) (b - a)):=by
 unfold Ab;rw[h];dsimp only;have e:((b:Int) - (a:Int)).toNat=b - a:=by lia
 rw[e,AE ⟨⟨by lia,by lia,by lia,by lia⟩,by rw[DQ];lia⟩]
theorem fD{es:Z Dat}(h:ds.length+es.length<=10000000):Nm ds [.lst es]=some (ds++es):=AE (by rw[DQ];lia)
def OP(G:G3)(F:Z Rw)(n m:Nat):Z (Nat×Nat×Nat):=match F[n]?,F[m]? with
 | some r,some q=>if r.c=q.c then(TN (Jc G) (Wv G r.m) (Wv G q.m)).map λy=>(n,m,y) else[]
 | _,_=>[]
def MN(G:G3)(F:Z Rw)(n k:Nat):Z (Nat×Nat×Nat):=(List.range k).flatMap λj=>OP G F n (n+1+j)
def MH(G:G3)(F:Z Rw)(k:Nat):Z (Nat×Nat×Nat):=(List.range k).flatMap λn=>MN G F n (F.length - (n+1))
theorem Ph(G:G3)(F:Z Rw)(n k:Nat):MN G F n (k+1)=MN G F n k++OP G F n (n+1+k):=by unfold MN;rw[HM,List.flatMap_append];simp
theorem P5(G:G3)(F:Z Rw)(k:Nat):MH G F (k+1)=MH G F k++MN G F k (F.length - (k+1)):=by unfold MH;rw[HM,List.flatMap_append];simp
theorem bf(G:G3)(F:Z Rw)(hG:Gb 64 G)(n m:Nat):(OP G F n m).length<=10:=by
 unfold OP;split
 .split
  .rw[AB]
   refine BC (GN _ _) ?_;unfold Jc;refine BC (GN _ _) ?_;rw[CZ];exact hG.w2
  .exact CV _
 .exact CV _
theorem Nq(G:G3)(F:Z Rw)(hG:Gb 64 G)(n:Nat):∀ k,(MN G F n k).length<=10*k
 | 0=>AT _
 | k+1=>by rw[Ph,AQ];have:=Nq G F hG n k;have:=bf G F hG n (n+1+k);lia
theorem Np(G:G3)(F:Z Rw)(hG:Gb 64 G)(t:F.length<=400):∀ k,(MH G F k).length<=4000*k
 | 0=>AT _
 | k+1=>by rw[P5,AQ];have:=Np G F hG t k;have:=Nq G F hG k (F.length - (k+1));lia
theorem lK{F:Z Rw}(hG:Gb 64 G)(t:F.length<=400):Qc [G.d,.lst (F.map Rw.d)]=.ok (.lst ((MH G F F.length).map Vg)):=by
 have o:=hG.w2;refine Ws (Y9 rfl ?_);unfold Qe;refine Z9 (Zg (Zh (xs:=[G.d]) rfl (jN G hG)) ?_);let W:Rw->Dat:=λr=>.lst (((Jc G).map (Wv G r.m)).map .int)
 have hc:Wn (Zz 0) V7 (Y3 Se (O (U 1) (O (dS Xw (U 0) Qk (Tb (dC (.int 2)))) (O (U 2) Zb)))) [.un,.fz G.d,.fz (.lst (Zd (Jc G)))] (F.map Rw.d)=some (F.map W) :=
  Vv Rw.d W F λr _=>⟨[.fz r.d,.fz G.d,.fz (.lst (Zd (Jc G)))],rfl,rfl,Zh (xs:=[G.d,Y1 r.st,.lst (Zd (Jc G))]) (Z2 rfl (Z2 (R0 rfl rfl (Vd rfl) (Ap r)) rfl)) (kN G hG r.st (Jc G))⟩
 refine Z9 (Zg (d:=.lst (F.map W)) (Wk (W0 (xs:=F.map Rw.d) rfl rfl hc)) ?_);refine Z9 (Tf (ds:=([]:Z (Nat×Nat×Nat)).map Vg) rfl ?_);have J:∀ e:Ev,e[1]?=some (.fz (.lst (F.map Rw.d)))->dF U0 (O (U 1) Zb) e=some (.int ((F.length:Nat):Int)):=λe he=>Yn (Z2 (x:=.lst (F.map Rw.d)) (by unfold U;rw[he]) rfl) (Qm Rw.d F)
 refine Z9 (Wq (ds:=rng 0 F.length) (λi e=>∃ w l:LQ,e=[.fz G.d,.fz (.lst (F.map Rw.d)),.fz (.lst (Zd (Jc G))),.fz (.lst (F.map W)),.ow ((MH G F i).map Vg),w,l]) (W3 (Z2 (J _ rfl) rfl) (by lia)) ⟨.un,.un,rfl⟩ ?_ ?_)
 .rintro n d e hn ⟨w,l,rfl⟩
  obtain⟨ar,rfl⟩:=Ud hn;rw[DL];refine⟨_,rfl,?_⟩;obtain⟨r,hr⟩:∃ r,F[n]?=some r:=⟨_,AJ ar⟩;have l1:=Np G F hG t n;refine Wq (ds:=rng ((n+1:Nat):Int) (F.length - (n+1))) (λj e=>∃ l:LQ,e=[.fz G.d,.fz (.lst (F.map Rw.d)),.fz (.lst (Zd (Jc G))),.fz (.lst (F.map W)),.ow ((MH G F n++MN G F n j).map Vg),.fz (.int (n:Int)),l]) (aY (Z2 (Z5 rfl rfl (Va n 1)) (Z2 (J _ rfl) rfl)) (by lia) (by lia)) ⟨l,by simp[MN]⟩ ?_ ?_
  .rintro j d e hj ⟨l,rfl⟩
   obtain⟨T,rfl⟩:=Ud hj;have l2:=Nq G F hG n j;have es:=Ph G F n j;obtain⟨m,hm⟩:∃ m:Nat,n+1+j=m:=⟨_,rfl⟩;rw[hm] at es;rw[show((n+1:Nat):Int)+(j:Int)=(m:Int) by lia];refine⟨_,rfl,?_⟩;obtain⟨q,hq⟩:∃ r,F[m]?=some r:=⟨_,AJ (by lia)⟩;have a:∀ (f:Rw->Dat) (k:Nat) (x:Rw),F[k]?=some x->Yq (.lst (F.map f)) (.int (k:Int))=some (f x):=λf k x hx=>Uo (by rw[AM,hx];rfl)
   have er:OP G F n m=if r.c=q.c then(TN (Jc G) (Wv G r.m) (Wv G q.m)).map λy=>(n,m,y) else[]:=by unfold OP;rw[hr,hq]
   refine U6 (We (Z5 (Z5 (Z5 rfl rfl (a _ _ _ hr)) rfl rfl) (Z5 (Z5 rfl rfl (a _ _ _ hq)) rfl rfl) (NC r.c q.c))) (λhb=>?_) (λhb=>W9 ⟨_,by rw[es,er,AK (by simpa using hb),EG];rfl⟩);rw[AE (by simpa using hb)] at er;have p:=fC (Jc G) (Wv G r.m) (Wv G q.m);generalize TN (Jc G) (Wv G r.m) (Wv G q.m)=ys at p er;have E:ys.length<=10:=by have:=bf G F hG n m;rw[er,AB] at this;exact this
   have ak:Wn (Zz 0) V7 (Yt (O (U 1) (O (U 2) (O (U 0) Zb)))) [.un,.fz (.int (n:Int)),.fz (.int (m:Int))] (Zd ys)=some (ys.map λy=>Vg (n,m,y)):=by
    rw[Wt];exact Vv (λy:Nat=>Dat.int (y:Int)) (λy:Nat=>Vg (n,m,y)) ys λy _=>⟨[.fz (.int (y:Int)),.fz (.int (n:Int)),.fz (.int (m:Int))],rfl,rfl,Y0 rfl⟩
   refine Uk (ds:=(MH G F n++MN G F n j).map Vg) (as:=[.lst (ys.map λy=>Vg (n,m,y))]) (ds':=(MH G F n++MN G F n (j+1)).map Vg) rfl (Z2 (Wk (W0 (xs:=Zd ys) (UR (Zh (xs:=[.lst (Zd (Jc G)),W r,W q]) (Z2 rfl (Z2 (Z5 rfl rfl (a _ _ _ hr)) (Z2 (Z5 rfl rfl (a _ _ _ hq)) rfl))) p)) rfl ak)) rfl) (by rw[fD (by rw[AB,AB,AQ];lia),es,er];simp[Function.comp_def]) ⟨_,rfl⟩
  .rintro e ⟨l,rfl⟩
   have hl:(rng ((n+1:Nat):Int) (F.length - (n+1))).length=F.length - (n+1):=by unfold rng;rw[AB,CZ]
   rw[hl];exact⟨_,_,by rw[P5]⟩
 .rintro e ⟨w,l,rfl⟩
  have hl:(rng 0 F.length).length=F.length:=by unfold rng;rw[AB,CZ]
  rw[hl];exact Dz rfl rfl
theorem oI(e:Mx [G.d,.int (ah:Int)]=.exc c fl):Vn [G.d,.int (ah:Int)]=.exc c fl:=by
 show(match K6 [.fz G.d,.fz (.int (ah:Int)),.un,.un,.un,.un,.un,.un,.un] with | .ret d=>Rs.ok d | .next _=>.ok .non | .exc _ c fs=>.exc c fs | _=>.no)=_;unfold K6 Zc;rw[dN (ds:=[G.d,.int (ah:Int)]) rfl e]
def Of:Z Str:=J'
def TU(c:Str)(fl:Z (Str×XD)):Prop:=VC c fl\/(c="CalledOff" /\ ∃ (ks:Z Nat) (a b:Nat),fl=SA ks a b)
theorem TU.known(h:TU c fl):c∈Of:=by
 rcases h with(⟨rfl | rfl,_⟩ | ⟨rfl,_⟩) | ⟨rfl,_⟩<;>(unfold Of;simp)
theorem i8(hG:Gb 64 G)(ah:Nat)(X:1<=ah)(M:ah<=400):(∃ af,Vn [G.d,.int (ah:Int)]=.ok (.lst (af.map Rw.d))/\MB G ah af)\/∃ c fl,Vn [G.d,.int (ah:Int)]=.exc c fl/\TU c fl:=by
 rcases Ol hG ah X M with⟨d,es,af,rfl,W⟩ | ⟨c,fl,es,hr,hs⟩
 .rcases Fe hG M es W with⟨d,e,rfl⟩ | ⟨c,fl,e,rfl,hf,_⟩
  .exact .inl ⟨af,e,W⟩
  .exact .inr ⟨_,fl,e,.inr ⟨rfl,hf⟩⟩
 .exact .inr ⟨c,fl,oI es,.inl hs⟩
theorem fM(hp:ds.length=p)(h:g (Ue n ds)=.ret d):Yk n p g ds=.ok d:=by unfold Yk;rw[AE hp,h]
theorem nv(hp:ds.length=p)(h:g (Ue n ds)=.exc e c fl):Yk n p g ds=.exc c fl:=by unfold Yk;rw[AE hp,h]
theorem iI(r:Rw):Yq r.d (.int 0)=some (.int (r.m:Int)):=rfl
theorem cL(r:Rw):Yq r.d (.int 1)=some (.int (r.c:Int)):=rfl
theorem lm(G:G3)(hG:Gb 64 G)(r:Rw)(k:Nat)(s:St3)(h:G.steps[k]?=some s):G6 [G.d,r.d,.int (k:Int)]=.ok (.bl (U5 s r.m)):=by
 refine Ws (Y9 rfl ?_);unfold Gv;have hs:=hG.st s (AH h);refine Z9 (Zg (Zh (xs:=[.tup (Zd s.takes)]) (Z2 (Z5 (Z5 (Z5 rfl rfl rfl) rfl (Ru (x:=s.d) (by rw[AM,h];rfl))) rfl rfl) rfl) (Dg s.takes λp hp=>by have:=hs.t p hp;lia)) ?_);exact Yb (Z5 (Z5 (Z5 rfl rfl (iI r)) rfl (QO r.m _)) rfl (NC _ _)) rfl
theorem bW(b:Bool):Pb [.bl b]=some (.int (if b then 1 else 0)):=by cases b<;>rfl
theorem K3(hG:Gb 64 G)(ho:RS G r)(w:Nat):Qn [G.d,r.d,.int (w:Int)]=.ok (.int (Wv G r.m w)):=by
 refine Ws (Y9 rfl ?_);unfold Sf;have lev:∀ s∈G.steps,U5 s r.m=true->r.c.testBit s.w≠s.up:=λs hs hc=>by
  obtain⟨k,Y⟩:=ET hs;exact(ho k s Y hc).lev
 have h:∀ (s:St3),s∈G.steps->s.w=w->U5 s r.m=true->Wv G r.m w=2*(if s.up then 1 else 0) - 1:=λs hs hw l=>by
  have o:∀ t∈G.steps,t.w=w->U5 t r.m=true->t.up=s.up:=λt ht p v=>by
   have a:=lev t ht v;have b:=lev s hs l;rw[p] at a;rw[hw] at b;revert a b;cases r.c.testBit w<;>cases t.up<;>cases s.up<;>simp
  have c1:Ul G r.m w s.up=true:=FQ.mpr ⟨s,hs,by unfold Be;rw[hw,l];simp⟩;have c2:Ul G r.m w (!s.up)=false:=by
   cases hx:Ul G r.m w (!s.up) with
   | false=>rfl
   | true =>
    obtain⟨t,ht,hq⟩:=FQ.mp hx;unfold Be at hq;simp only[AW,DC] at hq;have:=o t ht hq.1.1 hq.2;rw[this] at hq;have:=hq.1.2;cases s.up<;>simp at this
  unfold Wv WF;cases hu:s.up with
  | true=>rw[hu] at c1;rw[c1];rfl
  | false =>
   rw[hu] at c1 c2;have y:Ul G r.m w true=false:=c2;rw[c1,y];rfl
 refine Z9 (Wq (ds:=Qx 0 (G.steps.map St3.d)) (λi e=>∃ I f:LQ,e=[.fz G.d,.fz r.d,.fz (.int (w:Int)),I,f]/\∀ s∈G.steps.take i,¬ (s.w=w/\U5 s r.m=true)) (by unfold E8;rw[Ic (xs:=G.steps.map St3.d) (Z5 rfl rfl rfl)];rfl) ⟨_,_,rfl,by simp⟩ ?_ ?_)
 .rintro i d e hi ⟨I,f,rfl,n⟩
  obtain⟨x,hx,rfl⟩:=J7 hi;rw[AM] at hx;obtain⟨s,hs,rfl⟩:=map_some hx;have g:=AH hs;refine⟨[.fz G.d,.fz r.d,.fz (.int (w:Int)),.fz (.int (i:Int)),.fz s.d],rfl,?_⟩;refine U6 (b:=s.w==w&&U5 s r.m) (Ri (We (Z5 (Z5 rfl rfl rfl) rfl (NC s.w w))) λ_=>Hl (Zh (xs:=[G.d,r.d,.int (i:Int)]) rfl (lm G hG r i s hs))) (λhb=>?_) (λhb=>W9 ⟨_,_,rfl,λt ht=>?_⟩)
  .rw[AW,DC] at hb
   have hu:=h s g hb.1 hb.2;refine Yb (d:=.int (2*(if s.up then 1 else 0) - 1)) (Z5 (Z5 rfl (Yn (Z2 (x:=.bl s.up) (Z5 rfl rfl rfl) rfl) (bW s.up)) (Hw (.inl (by lia)))) rfl rfl) ?_;rw[hu]
  .rw[FY,hs] at ht
   rcases CB.mp ht with q | q
   .exact n t q
   .rw[AI.mp q]
    rintro⟨h1,h2⟩;rw[h1,h2] at hb;simp at hb
 .rintro e ⟨I,f,rfl,n⟩
  rw[U7,AB,BZ (AT _)] at n;refine Yb (d:=.int 0) rfl ?_;have j:∀ u,Ul G r.m w u=false:=λu=>by
   cases hx:Ul G r.m w u with
   | false=>rfl
   | true =>
    obtain⟨t,ht,hq⟩:=FQ.mp hx;unfold Be at hq;simp only[AW,DC] at hq;exact absurd ⟨hq.1.1,hq.2⟩ (n t ht)
  unfold Wv;rw[j,j];rfl
def RP(G:G3)(w:Nat):Bool:=match G.wires[w]? with | some u=>u.2 | none=>false
def Px(G:G3)(n m:Nat)(f g:Nat->Int)(k:Nat):Z (Nat×Nat×Nat):=(((List.range k).filter (RP G)).filter λy=>!(f y==g y)).map λy=>(n,m,y)
theorem Fq(G:G3)(n m:Nat)(f g:Nat->Int)(k:Nat):Px G n m f g (k+1)=Px G n m f g k++if RP G k&&!(f k==g k) then[(n,m,k)] else[]:=by
 unfold Px;rw[HM,List.filter_append,List.filter_append,BM];congr 1
 cases h1:RP G k<;>cases h2:(f k==g k)<;>simp[KH,h1,h2]<;>simpa using h2
theorem km(G:G3)(n m:Nat)(f g:Nat->Int)(k:Nat):(Px G n m f g k).length<=k:=by
 unfold Px;rw[AB];refine BC (GN _ _) (BC (GN _ _) ?_);rw[CZ];exact AT _
theorem eV(h:ds.length<=9000000):Wz ds [d]=some (ds++[d]):=by
 unfold Wz;exact AE (by rw[DQ];lia)
theorem eq_made(b:Bool):Mq (.str (if b then "made" else "given")) (.str "made")=some (.bl b):=by cases b<;>rfl
theorem ik{F:Z Rw}(hG:Gb 64 G)(t:F.length<=400)(ho:∀ r∈F,RS G r):Gz [G.d,.lst (F.map Rw.d)]=.ok (.lst ((MH G F F.length).map Vg)):=by
 have o:=hG.w2;refine Ws (Y9 rfl ?_);unfold Ge;refine Z9 (Tf (ds:=([]:Z (Nat×Nat×Nat)).map Vg) rfl ?_);have J:∀ e:Ev,e[1]?=some (.fz (.lst (F.map Rw.d)))->dF U0 (O (U 1) Zb) e=some (.int ((F.length:Nat):Int)):=λe he=>Yn (Z2 (x:=.lst (F.map Rw.d)) (by unfold U;rw[he]) rfl) (Qm Rw.d F)
 refine Z9 (Wq (ds:=rng 0 F.length) (λi e=>∃ I f w l A:LQ,e=[.fz G.d,.fz (.lst (F.map Rw.d)),.ow ((MH G F i).map Vg),I,f,w,l,A]) (W3 (Z2 (J _ rfl) rfl) (by lia)) ⟨.un,.un,.un,.un,.un,rfl⟩ ?_ ?_)
 .rintro n d e hn ⟨I,f,w,l,A,rfl⟩
  obtain⟨ar,rfl⟩:=Ud hn;rw[DL];refine⟨_,rfl,?_⟩;obtain⟨r,hr⟩:∃ r,F[n]?=some r:=⟨_,AJ ar⟩;have l1:=Np G F hG t n;refine Wq (ds:=rng ((n+1:Nat):Int) (F.length - (n+1))) (λj e=>∃ f w l A:LQ,e=[.fz G.d,.fz (.lst (F.map Rw.d)),.ow ((MH G F n++MN G F n j).map Vg),.fz (.int (n:Int)),f,w,l,A]) (aY (Z2 (Z5 rfl rfl (Va n 1)) (Z2 (J _ rfl) rfl)) (by lia) (by lia)) ⟨f,w,l,A,by simp[MN]⟩ ?_ ?_
  .rintro j d e hj ⟨f,w,l,A,rfl⟩
   obtain⟨T,rfl⟩:=Ud hj;have l2:=Nq G F hG n j;have es:=Ph G F n j;obtain⟨m,hm⟩:∃ m:Nat,n+1+j=m:=⟨_,rfl⟩;rw[hm] at es;rw[show((n+1:Nat):Int)+(j:Int)=(m:Int) by lia];refine⟨_,rfl,?_⟩;obtain⟨q,hq⟩:∃ r,F[m]?=some r:=⟨_,AJ (by lia)⟩;have a:∀ (k:Nat) (x:Rw),F[k]?=some x->Yq (.lst (F.map Rw.d)) (.int (k:Int))=some x.d:=λk x hx=>Uo (by rw[AM,hx];rfl)
   have er:OP G F n m=if r.c=q.c then Px G n m (Wv G r.m) (Wv G q.m) G.wires.length else[]:=by unfold OP;rw[hr,hq];rfl
   refine U6 (We (Z5 (Z5 (Z5 rfl rfl (a _ _ hr)) rfl (cL r)) (Z5 (Z5 rfl rfl (a _ _ hq)) rfl (cL q)) (NC r.c q.c))) (λhb=>?_) (λhb=>W9 ⟨_,_,_,_,by rw[es,er,AK (by simpa using hb),EG];rfl⟩);rw[AE (by simpa using hb)] at er;refine Wq (ds:=Qx 0 (G.wires.map Uu)) (λk e=>∃ w l A:LQ,e=[.fz G.d,.fz (.lst (F.map Rw.d)),.ow ((MH G F n++MN G F n j++Px G n m (Wv G r.m) (Wv G q.m) k).map Vg),.fz (.int (n:Int)),.fz (.int (m:Int)),w,l,A]) (dE (Z5 rfl rfl rfl)) ⟨w,l,A,by simp[Px]⟩ ?_ ?_
   .rintro k d e Y ⟨w,l,A,rfl⟩
    obtain⟨x,hx,rfl⟩:=J7 Y;rw[AM] at hx;obtain⟨u,hu,rfl⟩:=map_some hx;have s:k<G.wires.length:=by rcases AG.mp hu with⟨h,_⟩;exact h
    have em:RP G k=u.2:=by unfold RP;rw[hu]
    have l3:=km G n m (Wv G r.m) (Wv G q.m) k;refine⟨[.fz G.d,.fz (.lst (F.map Rw.d)),.ow ((MH G F n++MN G F n j++Px G n m (Wv G r.m) (Wv G q.m) k).map Vg),.fz (.int (n:Int)),.fz (.int (m:Int)),.fz (.int (k:Int)),.fz (Uu u),A],rfl,?_⟩;refine Z9 (Zg (d:=.int (Wv G r.m k)) (Zh (xs:=[G.d,r.d,.int (k:Int)]) (Z2 rfl (Z2 (Z5 rfl rfl (a _ _ hr)) rfl)) (K3 hG (ho r (AH hr)) k)) ?_);refine U6 (b:=u.2&&!(Wv G r.m k==Wv G q.m k)) (Ri (We (Z5 (Z5 rfl rfl rfl) rfl (eq_made u.2))) λ_=>We (Z5 rfl (Zh (xs:=[G.d,q.d,.int (k:Int)]) (Z2 rfl (Z2 (Z5 rfl rfl (a _ _ hq)) rfl)) (K3 hG (ho q (AH hq)) k)) (XG _ _))) (λhb=>?_) (λhb=>W9 ⟨_,_,_,by rw[Fq,em,hb,AK (by simp),EG];rfl⟩);refine Uk (ds:=(MH G F n++MN G F n j++Px G n m (Wv G r.m) (Wv G q.m) k).map Vg) (as:=[Vg (n,m,k)]) (ds':=(MH G F n++MN G F n j++Px G n m (Wv G r.m) (Wv G q.m) (k+1)).map Vg) rfl (Z2 (Y0 rfl) rfl) (by rw[eV (by simp only[AB,AQ];lia),Fq,em,hb,AE rfl];simp) ⟨_,_,_,rfl⟩
   .rintro e ⟨w,l,A,rfl⟩
    rw[U7,AB];exact⟨_,_,_,_,by rw[es,er,FR]⟩
  .rintro e ⟨f,w,l,A,rfl⟩
   have hl:(rng ((n+1:Nat):Int) (F.length - (n+1))).length=F.length - (n+1):=by unfold rng;rw[AB,CZ]
   rw[hl];exact⟨_,_,_,_,_,by rw[P5]⟩
 .rintro e ⟨I,f,w,l,A,rfl⟩
  have hl:(rng 0 F.length).length=F.length:=by unfold rng;rw[AB,CZ]
  rw[hl];exact Dz rfl rfl
def QZ(d:Dat):Prop:=pd 20 d=true/\Si d d=true
theorem Oi(h:∀ x∈xs,Si x x=true/\pd 19 x=true):QZ (.tup xs):=Hq h
theorem Xi(z:Str):Si (.str z) (.str z)=true:=by unfold Si;exact DX z
theorem pd_nats(ks:Z Nat):pd 19 (.lst (Zd ks))=true:=by
 show(Zd ks).all (pd 18)=true;refine DH.mpr λx hx=>?_
 rw[Wt] at hx;obtain⟨p,_,rfl⟩:=CS.mp hx;rfl
theorem bq(z:Str)(ks:Z Nat):QZ (.tup [.str z,.lst (Zd ks)]):=Oi λx hx=>by
 simp only[BA,IB,KW] at hx;rcases hx with rfl | rfl
 .exact⟨Xi _,rfl⟩
 .exact⟨(Fo ks).2,pd_nats ks⟩
theorem ly(z:Str)(ks:Z Nat)(a b:Nat):QZ (.tup [.str z,.lst (Zd ks),.int (a:Int),.int (b:Int)]):=Oi λx hx=>by
 simp only[BA,IB,KW] at hx;rcases hx with rfl | rfl | rfl | rfl
 .exact⟨Xi _,rfl⟩
 .exact⟨(Fo ks).2,pd_nats ks⟩
 .exact⟨Iq _,rfl⟩
 .exact⟨Iq _,rfl⟩
theorem eS(z:Str):QZ (.tup [.str z]):=Oi λx hx=>by
 rw[AI.mp hx];exact⟨Xi _,rfl⟩
theorem lC(ks:Z Nat):Yd [.exc "Broken" (F5 ks)]=.ok (.tup [.str "broken",.lst (Zd ks)]):=rfl
theorem mv(ks:Z Nat):Yd [.exc "Crowded" (F5 ks)]=.ok (.tup [.str "crowded",.lst (Zd ks)]):=rfl
theorem jZ:Yd [.exc "TooMany" []]=.ok (.tup [.str "many"]):=rfl
theorem oR(ks:Z Nat)(a b:Nat):Yd [.exc "CalledOff" (SA ks a b)]=.ok (.tup [.str "called off",.lst (Zd ks),.int (a:Int),.int (b:Int)]):=rfl
theorem jE(h:TU c fl):∃ D,Yd [.exc c fl]=.ok D/\QZ D/\∃ z al,D=.tup (.str z::al)/\(z==("rows" : Str))=false:=by
 rcases h with(⟨rfl | rfl,ks,rfl⟩ | ⟨rfl,rfl⟩) | ⟨rfl,ks,a,b,rfl⟩
 .exact⟨_,lC ks,bq _ ks,_,_,rfl,by decide⟩
 .exact⟨_,mv ks,bq _ ks,_,_,rfl,by decide⟩
 .exact⟨_,jZ,eS _,_,_,rfl,by decide⟩
 .exact⟨_,oR ks a b,ly _ ks a b,_,_,rfl,by decide⟩
def SN:Dat:=.tup [.str "none"]
theorem YG(e:t env=some true):J9 t g h env=g env:=by unfold J9;rw[e]
theorem bF(e:t env=some false):J9 t g h env=h env:=by unfold J9;rw[e]
theorem de(i:Nat)(F:Z Dat->Rs)(fs:Zzv)(env:Ev)(ds:Z Dat)(e:fs env=some ds):R3 i F fs env=match F ds with | .ok d=>.next (env.set i (.fz d)) | .exc c fl=>.exc env c fl | .no=>.no:=by unfold R3;rw[e]<;>rfl
def mE(k:Int)(G:G3)(ah:Nat):Ev:=[.fz (.int k),.fz G.d,.fz (.int (ah:Int)),.fz SN,.un]
theorem YX(h:g (mE k G ah)=.next e)(hr:Go (rt e) N R):Go (Zc (Zt 3 (Yt (O (dC (.str "none")) Zb))) (Zc (OK (Wx J') 4 g (Zt 3 (Y3 Yd (O (U 4) Zb)))) rt) [.fz (.int k),.fz G.d,.fz (.int (ah:Int)),.un,.un]) N R:=by
 refine Z9 (Zg (d:=SN) (Y0 rfl) ?_);refine Z9 ⟨?_⟩;unfold OK OS;rw[show([.fz (.int k),.fz G.d,.fz (.int (ah:Int)),.un,.un]:Ev).set 3 (.fz SN)=mE k G ah from rfl,h];exact hr
theorem cH(h:g (mE k G ah)=.exc (mE k G ah) c fl)(hc:c∈Of)(y:Yd [.exc c fl]=.ok D)(hr:Go (rt [.fz (.int k),.fz G.d,.fz (.int (ah:Int)),.fz D,.un]) N R):Go (Zc (Zt 3 (Yt (O (dC (.str "none")) Zb))) (Zc (OK (Wx J') 4 g (Zt 3 (Y3 Yd (O (U 4) Zb)))) rt) [.fz (.int k),.fz G.d,.fz (.int (ah:Int)),.un,.un]) N R:=by
 refine Z9 (Zg (d:=SN) (Y0 rfl) ?_);refine Z9 ⟨?_⟩;unfold OK OS;rw[show([.fz (.int k),.fz G.d,.fz (.int (ah:Int)),.un,.un]:Ev).set 3 (.fz SN)=mE k G ah from rfl,h];dsimp only;rw[AE (show Wx J' c=true from AL hc)];have e:Zt 3 (Y3 Yd (O (U 4) Zb)) ((mE k G ah).set 4 (.fz (.exc c fl)))=.next [.fz (.int k),.fz G.d,.fz (.int (ah:Int)),.fz D,.fz (.exc c fl)]:=by
  unfold Zt;rw[Zh (xs:=[.exc c fl]) rfl y];rfl
 rw[e];exact hr
theorem iA(h:Vn [G.d,.int (ah:Int)]=.ok d):Jv [.int 0,G.d,.int (ah:Int)]=.ok (.tup [.str "rows",d]):=by
 refine Ws (Y9 rfl ?_);unfold M7;refine YX (by rw[YG (by rfl),de (ds:=[G.d,.int (ah:Int)]) (e:=rfl)];unfold QC;rw[h]) ?_;exact Yb rfl rfl
theorem ic(h:Tu [G.d,.int (ah:Int)]=.ok (.lst ds)):Qr [.int 1,G.d,.int (ah:Int)]=.ok (.tup [.str "rows",.lst ds]):=by
 refine Ws (Y9 rfl ?_);unfold Ql;refine YX (by rw[bF (by rfl)];unfold SI;rw[show O (U 1) (O (U 2) Zb) (mE 1 G ah)=some [G.d,.int (ah:Int)] from rfl];dsimp only;rw[h]) ?_;exact⟨rfl⟩
theorem oG(h:Vn [G.d,.int (ah:Int)]=.exc c fl)(hc:c∈Of)(y:Yd [.exc c fl]=.ok D):Jv [.int 0,G.d,.int (ah:Int)]=.ok D:=by
 refine Ws (Y9 rfl ?_);unfold M7;refine cH (by rw[YG (by rfl),de (ds:=[G.d,.int (ah:Int)]) (e:=rfl)];unfold QC;rw[h]) hc y ?_;exact Yb rfl rfl
theorem fJ(h:Tu [G.d,.int (ah:Int)]=.exc c fl)(hc:c∈Of)(y:Yd [.exc c fl]=.ok D)(hr:Ll D=false):Qr [.int 1,G.d,.int (ah:Int)]=.ok D:=by
 refine Ws (Y9 rfl ?_);unfold Ql;refine cH (by rw[bF (by rfl)];unfold SI;rw[show O (U 1) (O (U 2) Zb) (mE 1 G ah)=some [G.d,.int (ah:Int)] from rfl];dsimp only;rw[h]) hc y ?_;refine⟨?_⟩;show Gd (if(true&&Ll D)=true then .no else .ret D) _ _;rw[hr];exact rfl
theorem oJ{G:Z Dat->Rs}{r:Dat}(h1:G ds=.ok d)(h2:F [d0,d]=.ok r):PK G F (d0::ds)=.ok r:=by
 unfold PK;dsimp only;rw[h1];dsimp only;rw[h2]
theorem iD{G:Z Dat->Rs}(h1:G ds=.exc c fl):PK G F (d0::ds)=.exc c fl:=by
 unfold PK;dsimp only;rw[h1]
theorem nH(e:fs env=some ds)(h:F ds=.ok d):Sg F fs env=.ret d:=by unfold Sg;rw[e];dsimp only;rw[h]
theorem o6(e:fs env=some ds)(h:F ds=.exc c fl):Sg F fs env=.exc env c fl:=by unfold Sg;rw[e];dsimp only;rw[h]
theorem gG(hG:Gb 64 G)(hm:ah<=400)(es:Vn [G.d,.int (ah:Int)]=.ok (.lst (af.map Rw.d)))(W:MB G ah af):Tu [G.d,.int (ah:Int)]=.ok (.lst ((MH G af af.length).map Vg)):=by
 have N:=W.le;refine fM (g:=J6) rfl ?_;unfold J6;exact nH (ds:=[G.d,G.d,.int (ah:Int)]) rfl (oJ es (lK hG (by lia)))
theorem kh(es:Vn [G.d,.int (ah:Int)]=.exc c fl):Tu [G.d,.int (ah:Int)]=.exc c fl:=by
 refine nv (g:=J6) (e:=Ue 2 [G.d,.int (ah:Int)]) rfl ?_;unfold J6;exact o6 (ds:=[G.d,G.d,.int (ah:Int)]) rfl (iD es)
theorem mJ(a:Z (Nat×Nat×Nat)):pd 20 (.lst (a.map Vg))=true/\Si (.lst (a.map Vg)) (.lst (a.map Vg))=true:=Hq λx hx=>by
 obtain⟨t,_,rfl⟩:=CS.mp hx;refine⟨(Hq (xs:=[.int (t.1:Int),.int (t.2.1:Int),.int (t.2.2:Int)]) λy G=>?_).2,rfl⟩;simp only[BA,IB,KW] at G;rcases G with rfl | rfl | rfl<;>exact⟨Iq _,rfl⟩
theorem ot(h1:t env=some false)(h2:u env=some false):Xt t u env=some false:=by unfold Xt;rw[h1];exact h2
theorem my(h1:env[i]?=some (.fz (.tup [.str "rows",.lst ds])))(h2:fs env=some [x])(h3:ds.length+1<=10000000):Xf i fs env=.next (env.map λ_=>.un):=by
 unfold Xf;rw[h1];dsimp only;rw[h2];exact AE ⟨rfl,h3⟩
theorem eO(h1:t env=some true):Xt t u env=some true:=by unfold Xt;rw[h1];rfl
theorem gO(z:Str)(al:Z Dat):Yq (.tup (.str z::al)) (.int 0)=some (.str z):=Ru (xs:=.str z::al) (j:=0) rfl
theorem kX(h:(z==("rows" : Str))=false):Nz (.str z) (.str "rows")=some (.bl true):=by
 show some (Dat.bl (!(z==("rows" : Str))))=_;rw[h];rfl
theorem fP(a:Z (Nat×Nat×Nat)):Sc [.lst (a.map Vg),.lst (a.map Vg)]=.ok (.bl true):=by
 refine Ws (Y9 rfl ?_);unfold Ra;refine Z9 (U6 (b:=false) (ot rfl (We (Z5 (Yn rfl (Qm Vg a)) (Yn rfl (Qm Vg a)) (by rw[XG];simp)))) (λhb=>nomatch hb) (λ_=>W9 ?_));refine Z9 (Wq (ds:=a.map Vg) (λi e=>∃ f I:LQ,e=[.fz (.lst (a.map Vg)),.fz (.lst (a.map Vg)),f,I]) rfl ⟨_,_,rfl⟩ ?_ ?_)
 .rintro i d e hi ⟨f,I,rfl⟩
  rw[AM] at hi;obtain⟨t,ht,rfl⟩:=map_some hi;refine⟨[.fz (.lst (a.map Vg)),.fz (.lst (a.map Vg)),.fz (Vg t),I],rfl,?_⟩;refine Z9 (U6 (b:=false) rfl (λhb=>nomatch hb) (λ_=>W9 ?_));refine Wq (ds:=[.int (t.1:Int),.int (t.2.1:Int),.int (t.2.2:Int)]) (λi e=>∃ I:LQ,e=[.fz (.lst (a.map Vg)),.fz (.lst (a.map Vg)),.fz (Vg t),I]) rfl ⟨_,rfl⟩ ?_ ?_
  .rintro j d e hj ⟨I,rfl⟩
   have hd:∃ i:Int,d=.int i:=by
    have:=AH hj;simp only[BA,IB,KW] at this;rcases this with rfl | rfl | rfl<;>exact⟨_,rfl⟩
   obtain⟨k,rfl⟩:=hd;refine⟨[.fz (.lst (a.map Vg)),.fz (.lst (a.map Vg)),.fz (Vg t),.fz (.int k)],rfl,?_⟩;exact U6 (b:=false) rfl (λhb=>nomatch hb) (λ_=>W9 ⟨_,rfl⟩)
  .rintro e ⟨I,rfl⟩
   exact⟨_,_,rfl⟩
 .rintro e ⟨f,I,rfl⟩
  exact Yb (Z5 rfl rfl (cE (mJ a))) rfl
theorem gR{al:Z Dat}(h:(z==("rows" : Str))=false):Ll (.tup (.str z::al))=false:=by
 unfold Ll;split
 .rename_i e;cases e
 .rename_i e;cases e;exact h
 .rfl
theorem mB(hG:Gb 64 G)(ah:Nat)(X:1<=ah)(M:ah<=400):Rb [G.d,.int (ah:Int)]=.ok (.bl true):=by
 refine Ws (Y9 rfl ?_);unfold Rt;rcases i8 hG ah X M with⟨af,es,W⟩ | ⟨c,fl,es,hs⟩
 .have N:=W.le
  have t0:=iA es;have S:=ic (gG hG M es W);have lc:=Np G af hG (by lia) af.length;have f:=ik hG (F:=af) (by lia) W.ok;generalize MH G af af.length=a at S lc f;refine Z9 (Zg (Zh (xs:=[.int 0,G.d,.int (ah:Int)]) rfl t0) ?_);refine Z9 (Zg (Zh (xs:=[.int 1,G.d,.int (ah:Int)]) rfl S) ?_);refine Z9 (U6 (b:=false) rfl (λhb=>nomatch hb) (λ_=>W9 ?_));refine Z9 (U6 (b:=false) (by unfold Dd;rw[Hl (b:=true) (Zh (xs:=[.lst (a.map Vg),.lst (a.map Vg)]) (Z2 (Z5 rfl rfl rfl) (Z2 (Zh (xs:=[G.d,.lst (af.map Rw.d)]) rfl f) rfl)) (fP a))];rfl) (λhb=>nomatch hb) (λ_=>W9 ?_));refine Z9 ⟨?_⟩;rw[my (ds:=a.map Vg) (x:=.tup [.int 0,.int 0,.int 0]) rfl rfl (by rw[AB];lia)];exact Yb rfl rfl
 .obtain⟨D,y,e,z,al,rfl,hz⟩:=jE hs
  have t0:=oG es hs.known y;have S:=fJ (kh es) hs.known y (gR hz);refine Z9 (Zg (Zh (xs:=[.int 0,G.d,.int (ah:Int)]) rfl t0) ?_);refine Z9 (Zg (Zh (xs:=[.int 1,G.d,.int (ah:Int)]) rfl S) ?_);exact Z9 (U6 (b:=true) (eO (We (Z5 (Z5 (x:=.tup (.str z::al)) rfl rfl (gO z al)) rfl (kX hz)))) (λ_=>Yb (Z5 rfl rfl (cE e)) rfl) (λhb=>nomatch hb))
theorem addK_nd:∀ (ns ks:Z Int),ks.Nodup->(ns.foldl Qh ks).Nodup
 | [],ks,h=>h
 | n::ns,ks,h=>addK_nd ns (Qh ks n) (by
  unfold Qh;split
  .exact h
  .rename_i hn
   refine GJ.mpr ⟨h,DB.mpr ⟨by simp,DN⟩,λa ha b m z=>?_⟩;rw[AI.mp m] at z;exact hn (z▸ha))
theorem fU(ps:Z Nat)(h:fs env=some [.tup (Zd ps)])(hl:ps.length<64):∃ qs:Z Nat,PM fs env=some (Zd qs)/\qs.Nodup/\∀ q∈qs,q∈ps:=by
 obtain⟨qs,e,_,hm⟩:=mo ps h hl;refine⟨qs,e,?_,hm⟩;have e2:=e;unfold PM at e2;rw[h] at e2;dsimp only at e2;rw[Ms] at e2;have e3:some ((Qa ((ps.map λp:Nat=>(p:Int)).foldl Qh [])).map Dat.int)=some (Zd qs):=by
  rw[<- e2];show _=(if _ then some _ else none);rw[AE (by rw[AB];exact hl)]
 have e4:(Qa ((ps.map λp:Nat=>(p:Int)).foldl Qh [])).map Dat.int=(qs.map λp:Nat=>(p:Int)).map Dat.int:=by
  have:=BI e3;exact this
 have e5:Qa ((ps.map λp:Nat=>(p:Int)).foldl Qh [])=qs.map λp:Nat=>(p:Int):=by
  refine List.map_inj_right (λa b z=>?_) |>.mp e4;cases z;rfl
 have aa:(qs.map λp:Nat=>(p:Int)).Nodup:=by
  rw[<- e5];exact(V6 _).nodup_iff.mpr (addK_nd _ [] DN)
 exact(JX.mp aa).imp λ{a b} f z=>f (by rw[z])
theorem lq(G:G3)(hG:Gb 64 G)(hf:∀ s∈G.steps,s.takes.length<=20)(c:Nat):∃ G':G3,M9 [G.d,.int (c:Int)]=.ok G'.d/\Gb 64 G':=by
 have:=Y9 (n:=9) (p:=2) (ds:=[G.d,.int (c:Int)]) (g:=Tz) (R:=λd=>∃ G':G3,d=G'.d/\Gb 64 G') rfl ?_
 .obtain⟨d,e,z,rfl,h⟩:=this
  exact⟨z,e,h⟩
 have x:=hG.s1;have B:=hG.s2;unfold Tz;refine Z9 (Tf (ds:=G.steps.map St3.d) (Yn (Z2 (Z5 rfl rfl rfl) rfl) rfl) ?_);have hi:c % G.steps.length<G.steps.length:=EM _ (by lia);have hj:c / 32 % G.steps.length<G.steps.length:=EM _ (by lia);refine Z9 (Zg (d:=.int ((c % G.steps.length:Nat):Int)) (Z5 rfl (Yn (Z2 rfl rfl) (Qm St3.d G.steps)) (Uj _ _ (by lia))) ?_);refine Z9 (Zg (d:=.int ((c / 32 % G.steps.length:Nat):Int)) (Z5 (Z5 rfl rfl (V8 c 32)) (Yn (Z2 rfl rfl) (Qm St3.d G.steps)) (Uj _ _ (by lia))) ?_);generalize c % G.steps.length=i at hi;generalize c / 32 % G.steps.length=j at hj;obtain⟨m,a⟩:∃ s,G.steps[i]?=some s:=⟨_,AJ hi⟩;obtain⟨l,o⟩:∃ s,G.steps[j]?=some s:=⟨_,AJ hj⟩;have y:=AH a;have r:=AH o;refine Z9 (C4 (d:=l.d) (env':=[.fz G.d,.fz (.int (c:Int)),.ow (G.steps.map St3.d),.fz (.int (i:Int)),.fz (.int (j:Int)),.fz (.int (l.w:Int)),.fz (.bl l.up),.fz (.tup (Zd l.takes)),.fz (.tup (Zd l.fills))]) (Z5 rfl rfl (Uo (by rw[AM,o];rfl))) rfl ?_);have I:=hf m y;have af:=hf l r;have u:K4 (.tup (Zd l.takes)) (.tup (Zd m.takes))=some (.tup (Zd (l.takes++m.takes))):=by
  rw[Rq (by unfold Zd;rw[AB,AB,AB,AB];lia)];unfold Zd;rw[BM,BM]
 obtain⟨qs,eq,aa,v⟩:=fU (fs:=O (dO K4 (U 7) (dO Yq (dO Yq (dP 2) (U 3)) (dC (.int 2)))) Zb) (env:=[.fz G.d,.fz (.int (c:Int)),.ow (G.steps.map St3.d),.fz (.int (i:Int)),.fz (.int (j:Int)),.fz (.int (l.w:Int)),.fz (.bl l.up),.fz (.tup (Zd l.takes)),.fz (.tup (Zd l.fills))]) (l.takes++m.takes) (Z2 (Z5 rfl (Z5 (Z5 rfl rfl (Uo (by rw[AM,a];rfl))) rfl rfl) u) rfl) (by rw[AQ];lia);refine Z9 (P4 (ds:=G.steps.map St3.d) (k:=j) (d:=(⟨l.w,l.up,qs,l.fills⟩:St3).d) rfl (Y0 (Z2 rfl (Z2 rfl (Z2 (Yn (Z2 (Wk eq) rfl) rfl) rfl)))) rfl (by rw[AB];exact hj) ?_);refine Yb (Y0 (Z2 (Z5 rfl rfl rfl) (Z2 (Yn (Z2 rfl rfl) rfl) (Z2 (Z5 rfl rfl rfl) (Z2 (Z5 rfl rfl rfl) rfl))))) ⟨⟨G.wires,G.steps.set j ⟨l.w,l.up,qs,l.fills⟩,G.marks,G.code⟩,?_,?_⟩
 .show Dat.tup [.tup (G.wires.map Uu),.tup ((G.steps.map St3.d).set j (⟨l.w,l.up,qs,l.fills⟩:St3).d),.int (G.marks:Int),.int (G.code:Int)]=Dat.tup [.tup (G.wires.map Uu),.tup ((G.steps.set j ⟨l.w,l.up,qs,l.fills⟩).map St3.d),.int (G.marks:Int),.int (G.code:Int)]
  rw[map_set]
 .have b:∀ s∈G.steps,SB 64 G.wires.length s:=λs hs=>⟨(hG.st s hs).w,λp hp=>by have:=(hG.st s hs).t p hp;lia,λp hp=>by have:=(hG.st s hs).f p hp;lia,(hG.st s hs).tn,(hG.st s hs).fn⟩
  refine⟨hG.w2,by show 1<=(G.steps.set j _).length;rw[CQ];exact x,by show(G.steps.set j _).length<=24;rw[CQ];exact B,λs hs=>?_,AO hG.mks (DA (by lia) (by lia))⟩;rcases FP (show s∈G.steps.set j ⟨l.w,l.up,qs,l.fills⟩ from hs) with q | q
  .exact b s q
  .rw[q]
   refine⟨(b l r).w,λp hp=>?_,(b l r).f,aa,(b l r).fn⟩;rcases CB.mp (v p hp) with q | q
   .exact(b l r).t p q
   .exact(b m y).t p q
theorem iZ(G:G3)(hG:Gb 64 G)(w:Nat)(hw:w<G.wires.length):∃ G':G3,Mk [G.d,.int (w:Int)]=.ok G'.d/\Gb 64 G':=by
 obtain⟨ws,ss,mk,code⟩:=G;have f:w<ws.length:=hw;obtain⟨u,hu⟩:∃ u,ws[w]?=some u:=⟨_,AJ f⟩;have a:Yq (.lst [.str "given",.str "made"]) (.int (if(!u.2) then 1 else 0))=some (.str (if(!u.2) then "made" else "given")):=by cases u.2<;>rfl
 have b:Mq (.str (if u.2 then "made" else "given")) (.str "given")=some (.bl (!u.2)):=by cases u.2<;>rfl
 refine⟨⟨ws.set w (u.1,!u.2),ss,mk,code⟩,?_,?_⟩
 .refine Ws (Y9 rfl ?_)
  unfold Ma;refine Z9 (Tf (ds:=ws.map Uu) (Yn (Z2 (Z5 rfl rfl rfl) rfl) rfl) ?_);refine Z9 (C4 (d:=Uu u) (env':=[.fz (⟨ws,ss,mk,code⟩:G3).d,.fz (.int (w:Int)),.ow (ws.map Uu),.fz (.str u.1),.fz (.str (if u.2 then "made" else "given"))]) (Z5 rfl rfl (Uo (by rw[AM,hu];rfl))) rfl ?_);refine Z9 (P4 (ds:=ws.map Uu) (k:=w) (d:=Uu (u.1,!u.2)) rfl (Y0 (Z2 rfl (Z2 (Z5 rfl (Yn (Z2 (Z5 rfl rfl b) rfl) (bW (!u.2))) a) rfl))) rfl (by rw[AB];exact f) ?_);refine Yb (Z5 (Y0 (Z2 (Yn (Z2 rfl rfl) rfl) rfl)) (R0 (z:=.tup [.tup (ss.map St3.d),.int (mk:Int),.int (code:Int)]) rfl (Vd rfl) rfl rfl) (Rq (by simp))) ?_;show _=G3.d _;unfold G3.d;rw[map_set];rfl
 .have hl:(ws.set w (u.1,!u.2)).length=ws.length:=CQ ..
  exact⟨by show(ws.set w _).length<=10;rw[hl];exact hG.w2,hG.s1,hG.s2,λs hs=>by show SB 64 (ws.set w _).length s;rw[hl];exact hG.st s hs,hG.mks⟩
theorem eC(hc:LV G I)(t:TT G af):∀ r∈af,I r.st:=by
 have aj:∀ (n:Nat) (r:Rw),af[n]?=some r->I r.st:=by
  intro n;induction n using strongRecOn with
  | _ n ih =>
   intro r hr;rcases DF n with z | z
   .subst z
    rw[t.zero] at hr;cases hr;exact hc.ini
   .obtain⟨f,k,s,c,_,a2,a3,a4,a5,a6⟩:=t.src n r hr z
    rw[a6];exact hc.nxt c.st s (ih f a2 c a4) (AH a3) a5
 intro r hr;obtain⟨n,hn⟩:=ET hr;exact aj n r hn
theorem l7(hG:Gb 64 G)(hc:LV G I)(hr:Ui G):∃ af,Vn [G.d,.int ((400:Nat):Int)]=.ok (.lst (af.map Rw.d))/\MB G 400 af:=by
 rcases Ol hG 400 (by lia) (by lia) with⟨d,es,af,rfl,W⟩ | ⟨c,fl,es,v,_⟩
 .rcases Fe hG (by lia) es W with⟨d,e,rfl⟩ | ⟨c,fl,e,_,_,hp⟩
  .exact⟨af,e,W⟩
  .exact absurd hr hp
 .exfalso
  rcases v with⟨_,af,t,hl⟩ | ⟨_,af,r,k,s,t,a,hs,g,hf⟩
  .have hI:=eC hc t
   have:=hc.few (af.map Rw.st) t.nd λp hp=>by obtain⟨r,hr,rfl⟩:=CS.mp hp;exact hI r hr
   rw[AB] at this;lia
  .have hI:=eC hc t r a
   have hm:=AH hs;exact hf ⟨g,hc.lev _ s hI hm g,hc.room _ s hI hm g⟩
theorem gX(a b:Int):OJ [.int a,.int b]=some (.int (if b > a then b else a)):=rfl
theorem kj(n j:Nat)(hn:1<=n)(hj:j<4):∃ m:Nat,Yq (.lst [.int 400,.int 400,.int (n:Int),.int (if(n:Int) - 1 > 1 then(n:Int) - 1 else 1)]) (.int (j:Int))=some (.int (m:Int))/\(m=400\/(1<=m/\m<=n)):=by
 match j,hj with
 | 0,_=>exact⟨400,rfl,.inl rfl⟩
 | 1,_=>exact⟨400,rfl,.inl rfl⟩
 | 2,_=>exact⟨n,rfl,.inr (by lia)⟩
 | 3,_ =>
  by_cases h:(n:Int) - 1 > 1
  .exact⟨n - 1,by rw[AE h];show some (Dat.int ((n:Int) - 1))=some (.int ((n - 1:Nat):Int));congr 2;lia,.inr (by lia)⟩
  .exact⟨1,by rw[AK h];rfl,.inr (by lia)⟩
theorem iN(ns:Z Int)(hl:ns.length<=63):ZX [.lst (ns.map .int)]=.ok (.bl true):=by
 refine Ws (Y9 rfl ?_);unfold UD;obtain⟨c,ec,lc⟩:=Dq ns 0 (by lia);refine Z9 (Zg (Zh (xs:=[Jh ns,.int ((0:Nat):Int)]) rfl ec) ?_);obtain⟨G,f,hG⟩:=lQ ns 1 4 5 (by lia) (by lia) (by lia) (by lia);refine Z9 (Zg (Zh (xs:=[Jh ns,.int ((1:Nat):Int),.int ((4:Nat):Int),.int ((5:Nat):Int)]) rfl f) ?_);refine Z9 (Go.mono (N:=λe=>∃ (G:G3) (I:Nat×Nat->Prop),e=[.fz (Jh ns),.fz (.int (c:Int)),.fz G.d,.un,.un,.un,.un]/\LV G I/\Gb 64 G/\Ui G/\1<=G.wires.length/\∀ s∈G.steps,s.takes.length<=20) ?_ ?_ (λ_ h=>h))
 .obtain⟨I,hI⟩:=hG.calm
  refine U6 (We (Z5 (Z5 (Z5 rfl rfl (V8 c 4096)) rfl (Uj _ 3)) rfl (NC _ 0))) (λ_=>?_) (λ_=>W9 ⟨G,I,rfl,hI,Gb.up hG.gb,hG.nr,hG.w1,λs hs=>by have:=hG.few s hs;lia⟩);obtain⟨G',z,e,h1,h2⟩:=eN G hG.gb (c / 12288);refine Zg (Zh (xs:=[G.d,.int ((c / 12288:Nat):Int)]) (Z2 rfl (Z2 (Z5 rfl rfl (V8 c 12288)) rfl)) e) ⟨G',_,rfl,ey h1.look hI,h2,mh h1 hG.nr,by rw[h1.ws];exact hG.w1,λs' F=>?_⟩;obtain⟨i,hi⟩:=ET F;obtain⟨s,es,b,_,_,_,_,ht,_⟩:=h1.st i s' hi;have h3:=hG.few s (AH es);have:=Mt s'.takes (z::s.takes) (h2.st s' F).tn λq hq=>by
   rcases(ht q).mp hq with w | ⟨_,w⟩
   .exact AR _ w
   .rw[w];exact AX
  rw[BS] at this;lia
 clear hG f G;rintro e ⟨G,I,rfl,hc,hb,hn,r,hf⟩;have o:=hb.w2;obtain⟨af,es,W⟩:=l7 hb hc hn;have a:1<=af.length:=by
  have:=W.t.zero;rcases AG.mp this with⟨h,_⟩
  lia
 have ag:=W.le;refine Z9 (Zg (d:=.int ((af.length:Nat):Int)) (Yn (Z2 (Zh (xs:=[G.d,.int ((400:Nat):Int)]) rfl es) rfl) (Qm Rw.d af)) ?_);obtain⟨m,em,hm⟩:=kj af.length (c % 4) a (EM _ (by lia));refine Z9 (Zg (d:=.int (m:Int)) (Z5 (Wk (Qq (Z2 rfl (Z2 rfl (Z2 rfl (Z2 (Yn (Z2 rfl (Z2 (Z5 rfl rfl rfl) rfl)) (gX _ _)) rfl)))))) (Z5 rfl rfl (Uj c 4)) em) ?_);have X:1<=m:=by lia
 have M:m<=400:=by lia
 obtain⟨T,D,hT⟩:=iZ G hb (c / 4 % G.wires.length) (EM _ (by lia));refine Z9 (Zg (d:=T.d) (Zh (xs:=[G.d,.int ((c / 4 % G.wires.length:Nat):Int)]) (Z2 rfl (Z2 (Z5 (Z5 rfl rfl (V8 c 4)) (Yn (Z2 (x:=.tup (G.wires.map Uu)) (Z5 rfl rfl rfl) rfl) (K2 Uu G.wires)) (Uj _ G.wires.length (by lia))) rfl)) D) ?_);obtain⟨S,g,hS⟩:=lq G hb hf (c / 64);refine Z9 (Wq (ds:=[G.d,T.d,S.d,G.d]) (λi e=>∃ l:LQ,e=[.fz (Jh ns),.fz (.int (c:Int)),.fz G.d,.fz (.int ((af.length:Nat):Int)),.fz (.int (m:Int)),.fz T.d,l]) (UR (Wk (Qq (Z2 rfl (Z2 rfl (Z2 (Zh (xs:=[G.d,.int ((c / 64:Nat):Int)]) (Z2 rfl (Z2 (Z5 rfl rfl (V8 c 64)) rfl)) g) rfl)))))) ⟨_,rfl⟩ ?_ ?_)
 .rintro i d e hi ⟨l,rfl⟩
  have hd:∃ Q:G3,d=Q.d/\Gb 64 Q:=by
   have:=AH hi;simp only[BA,IB,KW] at this;rcases this with rfl | rfl | rfl | rfl
   .exact⟨G,rfl,hb⟩
   .exact⟨T,rfl,hT⟩
   .exact⟨S,rfl,hS⟩
   .exact⟨G,rfl,hb⟩
  obtain⟨Q,rfl,j⟩:=hd;refine⟨[.fz (Jh ns),.fz (.int (c:Int)),.fz G.d,.fz (.int ((af.length:Nat):Int)),.fz (.int (m:Int)),.fz T.d,.fz Q.d],rfl,?_⟩;exact Cj (iQ (b:=true) (Hl (Zh (xs:=[Q.d,.int (m:Int)]) rfl (mB j m X M)))) (W9 ⟨_,rfl⟩)
 .rintro e ⟨l,rfl⟩
  exact Yb rfl rfl
end K41
set_option maxHeartbeats 4000000
namespace K41
open PySem PySem.Spec PyProof.Rows L2
abbrev BL:Z Str:=["ValueError","any","bool","enumerate","int","isinstance","len","list","max","min","range","reversed","set","sorted","sum","tuple"]
abbrev RC(g i j e:A2):Z (Str×A2):=[("Broken",g),("Crowded",i),("TooMany",j),("CalledOff",e)]
open PySem.W (mg_of mg_none_of) in
theorem Zoe{p:Fn}{w:Gf}{h:G2}{fa:A2}(X:K.In h)(G:h.Ns mainGlobals mg)(E:mg "law" = some (.ref fa))
  {f:A2} {od an:C1 A2} {sl:Array (C1 A1)} {oc kV dc pm cd ct:A1}
  {g i j e D:A2}
  (a0:DD K "is_made" Kd)
  (a1:DD K "made" B7)
  (a2:DD K "steps_of" S5)
  (a3:DD K "wire_of" Ki)
  (a4:DD K "is_rise" Ku)
  (a5:DD K "takes_of" G7)
  (a6:DD K "fills_of" G4)
  (a7:DD K "bits" VN)
  (a8:DD K "has_one" Ke)
  (a9:DD K "can" W')
  (a10:DD K "behind" Oe)
  (a11:DD K "steps_at" Rn)
  (a12:DD K "way" UT)
  (a13:DD K "come_to" Kw)
  (a14:DD K "stands" Pp)
  (a15:DD K "is_called" Jx)
  (a16:DD K "wants" WK)
  (a17:DD K "robs" WY)
  (a18:DD K "touches_made" Jd)
  (a19:DD K "rivals" Oz)
  (a20:DD K "sound" Ci)
  (a21:DD K "wants_of" Rz)
  (a22:DD K "unlike" Hd)
  (a23:DD K "clashes_among" Vs)
  (a24:DD K "clashes" Ko)
  (a25:DD K "_law_mix" Ha)
  (a26:DD K "_law_word" D3)
  (a27:DD K "_law_order" Rg)
  (a28:DD K "_law_arrows" Me)
  (a29:DD K "_law_graph" V0)
  (a30:DD K "_law_choice" Wf)
  (a31:DD K "_law_wider" Qp)
  (a32:DD K "_law_any_graph" Tk)
  (a33:DD K "_law_bits" Dm)
  (a34:DD K "_law_can" Gy)
  (a35:DD K "_law_wants" S6)
  (a36:DD K "_law_spoilt" Mh)
  (a37:DD K "_law_lookers" Td)
  (a38:DD K "_law_due" Gs)
  (a39:DD K "_law_alike" Rv)
  (a40:DD K "_law_turned" Mf)
  (a41:DD K "_law_fields" Q1)
  (a42:DD K "_law_told" Jw)
  (a43:DD K "_law_right" Ry)
  (l0:PySem.W.nsIn K mainGlobals "law" = some (some (.ref f))) (l1:K.lookup f=some ⟨oc,od,.func (PySem.W.fnOf "law" "law" (Vr Ei) (Yj Ei) (Z7 Ei) .none kV dc pm an cd ct),sl⟩) (l2:PySem.W.codeIn K cd "law" = true) (l3:PySem.W.keepIn K (.ref f)=true)
  (z:∀ x∈BL,PySem.W.nsIn K mainGlobals x=some none)
  (yC0:PySem.W.nsIn K mainGlobals "Broken" = some (some (.ref g)))
  (yC1:PySem.W.nsIn K mainGlobals "Crowded" = some (some (.ref i)))
  (yC2:PySem.W.nsIn K mainGlobals "TooMany" = some (some (.ref j)))
  (yC3:PySem.W.nsIn K mainGlobals "CalledOff" = some (some (.ref e)))
  (yD:PySem.W.nsIn K mainGlobals "CalmError" = some (some (.ref D)))
  (b0:PySem.W.specialIn K (.ref D) "__getattribute__" = some (some (.builtin "type.__getattribute__"))) (b1:PySem.W.readsIn K D (.type "type")=true) (b2:PySem.W.findCls K (.ref D) (.type "type") "__init__" = some (.val (.builtin "ValueError.__init__")))
  (o0:CD K D g "Broken.__init__" i_0)
  (e0_0:PySem.W.findIn K (.ref g) "way" = some none)
  (o1:CD K D i "Crowded.__init__" i_1)
  (e1_0:PySem.W.findIn K (.ref i) "way" = some none)
  (o2:CD K D j "TooMany.__init__" i_2)
  (o3:CD K D e "CalledOff.__init__" i_3)
  (e3_0:PySem.W.findIn K (.ref e) "way" = some none)
  (e3_1:PySem.W.findIn K (.ref e) "lost" = some none)
  (e3_2:PySem.W.findIn K (.ref e) "by" = some none)
  (k0:KA K (RC g i j e) (.ref g) λc=>decide (c="Broken"))
  (k1:KA K (RC g i j e) (.ref e) λc=>decide (c="CalledOff"))
  (k2:KA K (RC g i j e) (.ref i) λc=>decide (c="Crowded"))
  (k3:KA K (RC g i j e) (.ref j) λc=>decide (c="TooMany"))
  (kv:KA K (RC g i j e) (.type "ValueError") λ_=>true)
  (s:EA K (RC g i j e) D λ_=>true)
  (s0:EA K (RC g i j e) g λc=>decide (c="Broken"))
  (s1:EA K (RC g i j e) i λc=>decide (c="Crowded"))
  (f0:FA K (RC g i j e) "by")
  (f1:FA K (RC g i j e) "lost")
  (f2:FA K (RC g i j e) "way") :
  ∃ fd:Ff,(∀ (s:A4) (v:A1),BindsTo s fd ⟨[v],[]⟩ [("_law_script",v)])/\∀ base:G2,K.In base->base.Ns mainGlobals mg->LN p w K mg base Eu 10 fa fd NI (RN K):=by
 cases E.symm.trans (mg_of X G l0);have M (x) (hx:x∈BL:=by ext):=mg_none_of X G (z x hx);have x:XA K (RC g i j e):=.c o0.xc (.c o1.xc (.c o2.xc (.c o3.xc (.n))));have y:YA K (RC g i j e):=.c yC0 (.c yC1 (.c yC2 (.c yC3 (.n))));have B:MC K mg D:=⟨mg_of X G yD,b0,b1,b2⟩;have T:Txt K mg:={ b_ValueError:=M "ValueError",b_any:=M "any",b_bool:=M "bool",b_enumerate:=M "enumerate",b_int:=M "int",b_isinstance:=M "isinstance",b_len:=M "len",b_list:=M "list",b_max:=M "max",b_min:=M "min",b_range:=M "range",b_reversed:=M "reversed",b_set:=M "set",b_sorted:=M "sorted",b_sum:=M "sum",b_tuple:=M "tuple",i_0:=TV y x k0 (mg_of X G yC0),i_3:=TV y x k1 (mg_of X G yC3),i_1:=TV y x k2 (mg_of X G yC1),i_2:=TV y x k3 (mg_of X G yC2),j_ValueError:=kq y x kv,k_8:=hy y s (mg_of X G yD),q_0:=cy y s0 (mg_of X G yC0),q_1:=cy y s1 (mg_of X G yC1),f_by:=XF y x f0,f_lost:=XF y x f1,f_way:=XF y x f2 };have d {n st} (a:DD K n st):=gN X G a;refine⟨PySem.W.fnOf "law" "law" (Vr Ei) (Yj Ei) (Z7 Ei) .none kV dc pm an cd ct,λs v=>.of_eq rfl,λb _ _=>?_⟩;have M0:=@iK p w K mg b _ _ B o0 yC0 (mg_of X G yC0) (M "list") e0_0;have M1:=@oO p w K mg b _ _ B o1 yC1 (mg_of X G yC1) (M "list") e1_0;have M2:=@lZ p w K mg b _ _ B o2 yC2 (mg_of X G yC2) (M "list");have M3:=@eb p w K mg b _ _ B o3 yC3 (mg_of X G yC3) (M "list") e3_0 e3_1 e3_2;have c0:=@j5 ⟨p,w,K,mg,b⟩ (d a0) T;have c1:=@lT ⟨p,w,K,mg,b⟩ (d a1) T c0;have c2:=@nR ⟨p,w,K,mg,b⟩ (d a2) T;have m:=@oo ⟨p,w,K,mg,b⟩ (d a3) T;have c4:=@mL ⟨p,w,K,mg,b⟩ (d a4) T;have F:=@kg ⟨p,w,K,mg,b⟩ (d a5) T;have c6:=@eT ⟨p,w,K,mg,b⟩ (d a6) T;have H:=@mO ⟨p,w,K,mg,b⟩ (d a7) T;have c8:=@fc ⟨p,w,K,mg,b⟩ (d a8) T;have c9:=@ka ⟨p,w,K,mg,b⟩ (d a9) T H F;have I:=@f5 ⟨p,w,K,mg,b⟩ (d a10) T M0.x M1.x m H c8 c4 c6 F;have o:=@mR ⟨p,w,K,mg,b⟩ (d a11) T c9;have q:=@mF ⟨p,w,K,mg,b⟩ (d a12) T;have J:=@nS ⟨p,w,K,mg,b⟩ (d a13) T M0 M1 I q;have N:=@jt ⟨p,w,K,mg,b⟩ (d a14) T M2 o J;have P:=@ol ⟨p,w,K,mg,b⟩ (d a15) T c9 c2;have Q:=@kx ⟨p,w,K,mg,b⟩ (d a16) T P;have R:=@lh ⟨p,w,K,mg,b⟩ (d a17) T H F c6;have S:=@Oa ⟨p,w,K,mg,b⟩ (d a18) T c0 m;have Y:=@n8 ⟨p,w,K,mg,b⟩ (d a19) T S R;have l:=@lJ ⟨p,w,K,mg,b⟩ (d a20) T M3 N Y o q.d;have aa:=@mS ⟨p,w,K,mg,b⟩ (d a21) T Q;have ac:=@nL ⟨p,w,K,mg,b⟩ (d a22) T;have ae:=@Nb ⟨p,w,K,mg,b⟩ (d a23) T c1 aa ac;have r:=@lG ⟨p,w,K,mg,b⟩ (d a24) T ae l;have k:=@jl ⟨p,w,K,mg,b⟩ (d a25) T;have t:=@ip ⟨p,w,K,mg,b⟩ (d a26) T;have af:=@C9 ⟨p,w,K,mg,b⟩ (d a27) T k;have ag:=@Xz ⟨p,w,K,mg,b⟩ (d a28) T k;have ah:=@B3 ⟨p,w,K,mg,b⟩ (d a29) T af k ag t;have ai:=@F6 ⟨p,w,K,mg,b⟩ (d a30) T k t;have aj:=@Ce ⟨p,w,K,mg,b⟩ (d a31) T;have ak:=@Lc ⟨p,w,K,mg,b⟩ (d a32) T k ai ah aj;have u:=@mI ⟨p,w,K,mg,b⟩ (d a33) T;have al:=@iL ⟨p,w,K,mg,b⟩ (d a34) T u;have am:=@Cg ⟨p,w,K,mg,b⟩ (d a35) T al;have ao:=@Xr ⟨p,w,K,mg,b⟩ (d a36) T;have ap:=@Pm ⟨p,w,K,mg,b⟩ (d a37) T u;have aq:=@gq ⟨p,w,K,mg,b⟩ (d a38) T am;have ar:=@An ⟨p,w,K,mg,b⟩ (d a39) T;have au:=@Xn ⟨p,w,K,mg,b⟩ (d a40) T;have A:=@Xx ⟨p,w,K,mg,b⟩ (d a41) T;have aw:=@l5 ⟨p,w,K,mg,b⟩ (d a42) T A l r;have C:=@Bf ⟨p,w,K,mg,b⟩ (d a42) T A l r;have ax:=@C7 ⟨p,w,K,mg,b⟩ (d a43) T aw ar aq C;exact jI (b:=⟨p,w,K,mg,b⟩) (VX (st:=Ei) l1 l2 l3) T k ak au ap l ao ax iN
theorem Zpp{l:PySem.W.OpenLaw}{q:Fn}{d:DefRec}{K:Params->KX}(hn:l.most=some 63)(A:d.params.defaults=[])
  (j:∀ (w:Gf) (h:G2),YP w h->(K w.params).In h)
  (F:∀ (w:Gf) (mg:LO) (fa:A2) (h:G2),(K w.params).In h->h.Ns mainGlobals mg->mg d.name=some (.ref fa) ->
   ∃ fd:Ff,(∀ (s:A4) (u:A1),BindsTo s fd ⟨[u],[]⟩ [("_law_script",u)])/\∀ base:G2,(K w.params).In base->base.Ns mainGlobals mg->LN l.prog w (K w.params) mg base Eu 10 fa fd NI (RN (K w.params))) :
  PySem.W.WalkO q loose XP YP l.row.toRowW d [] (λf vs=>PySem.call f vs) :=
 L2.Znj (n:=63) (k:=10) (x:="_law_script") (CX:=λ_=>Eu) (sp:=λw=>RN (K w.params)) hn (by decide) A ⟨rfl,by decide,by decide,rfl⟩ j F (λ_ _ a ns hl _ hS=>⟨a,ns,rfl,hS,hl,λ_=>rfl⟩) λ_ _ _ _ _ z=>z
end K41
open PySem PySem.W PyProof.Rows L2
set_option maxRecDepth 100000 in
set_option maxHeartbeats 0 in
theorem PySem.Challenge.cw_calmwires_k41_clashes_told_holds : PySem.Challenge.rw_calmwires_k41_clashes_told.Holds := by
 refine theTop ?_
 k_fill;refine K41.Zpp (l:=PySem.Challenge.rw_calmwires_k41_clashes_told) rfl rfl (λw h Y=>PySem.W.kIn_of Y) ?F
 case F =>
  intro w mg fa h M G N;apply K41.Zoe M G N
  case a0|a1|a2|a3|a4|a5|a6|a7|a8|a9|a10|a11|a12|a13|a14|a15|a16|a17|a18|a19|a20|a21|a22|a23|a24|a25|a26|a27|a28|a29|a30|a31|a32|a33|a34|a35|a36|a37|a38|a39|a40|a41|a42|a43=>refine' hQ ?A ?B ?C ?D;case A|B|C|D=>k_is
  case l0|l1|l2|l3|yC0|yC1|yC2|yC3|yD|b0|b1|b2|e0_0|e1_0|e3_0|e3_1|e3_2=>k_is
  case f0|f1|f2=>
   repeat' first | exact Ts.n | refine' Ts.c ?_ ?_
   all_goals k_is
  case z =>
   refine' List.forall_mem_cons.mpr ⟨?_,?_⟩
   k_is
   repeat' first | refine' List.forall_mem_cons.mpr ⟨?_,?_⟩ | exactλ_ h=>nomatch h
   all_goals k_is
  case o0|o1|o2|o3=>
   refine' eX ?A ?B ?C ?D ?E ?F ?G ?H ?I ?J ?K ?Lq_
   case A|B|C|D|E|F|G|H|I|J|K=>k_is
   case Lq_=>kernel_rfl!
  case k0|k1|k2|k3|kv=>
   repeat' first | exact Ts.n | refine' Ts.c ?_ ?_
   all_goals first | refine' KU (b:=some false) ?_ (by decide +kernel) | refine' KU (b:=some true) ?_ (by ext)
   all_goals kit_is
  case s|s0|s1=>
   repeat' first | exact Ts.n | refine' Ts.c ?_ ?_
   all_goals first | refine' KU (b:=some false) ?_ (by decide +kernel) | refine' KU (b:=some true) ?_ (by ext)
   all_goals kts_exm
