import PyProof.Rows.All
import Wide.All
import OpenK.AllK
import Wide.FinOn
import Lean
import PyProof.EqAt
import PyProof.EqKinds
import PyProof.TupleCall
import KE.KRevIter
import PyProof.ListRange
import PyProof.ExcClass3
import PyProof.ExcInit
import PyProof.RulesTry
import PyProof.RulesAs
import PyProof.ExcBaseAll.ValueError
import PyProof.InstStoreFacts
import PyProof.ExcArgsOwn
import KE.KIsAll
import PyProof.IsiBase
import PyProof.ReprRoads
import PyProof.NsDelKeeps
import KE.KTryMore
import PyProof.Rows.SortPure
import PyProof.Rows.SortShell
import KE.KIntText
import PyProof.Rows.StrItems
import PyProof.ZipIter
import PyProof.DictKeyH
import KE.RegKIsAll
import KE.RegKTryMore
import PyProof.Rows.KernelRfl
import PySem.Challenge.RW_calmwires_k22_stands_in_order
set_option Elab.async false
set_option linter.all false
set_option maxRecDepth 100000
namespace L2
open PySem PySem.Spec PyProof.Rows
noncomputable abbrev Key := Sum Int Str
noncomputable def keyIs : Key→Value→Bool
 | .inl k,v=>Value.isInt k v
 | .inr x,v=>Value.isStrOf x v
noncomputable def keyH (w : World) : Key→Int
 | .inl k=>hashInt k
 | .inr x=>hashStr w x
theorem keyIs_shape : ∀ {k : Key} {v : Value},keyIs k v = true→(∃ i t,k = Sum.inl i∧v = Value.int i t)∨(∃ x t,k = Sum.inr x∧v = Value.str x t)
 | .inl i,v,h=>by
   obtain ⟨t,e⟩ := Value.isInt_shape (k:=i) (v:=v) h
   exact .inl ⟨i,t,rfl,e⟩
 | .inr x,v,h=>by
   obtain ⟨t,e⟩ := Value.isStrOf_shape (x:=x) (v:=v) h
   exact .inr ⟨x,t,rfl,e⟩
theorem keyIs_int (i : Int) (t : Tok) : keyIs (.inl i) (.int i t) = true := by simp [keyIs,Value.isInt]
theorem keyIs_str (x : Str) (t : Tok) : keyIs (.inr x) (.str x t) = true := by simp [keyIs,Value.isStrOf]
theorem key_ll (a b : Int) : decide ((Sum.inl a : Key) = Sum.inl b) = (a == b) := by
 by_cases e : a = b
 · subst e;simp
 · have h : ¬ (Sum.inl a : Key) = Sum.inl b := fun q=>e (Sum.inl.inj q)
   rw [decide_eq_false h]
   exact (beq_eq_false_iff_ne.mpr e).symm
theorem key_rr (a b : Str) : decide ((Sum.inr a : Key) = Sum.inr b) = decide (a = b) := by
 by_cases e : a = b
 · subst e;simp
 · have h : ¬ (Sum.inr a : Key) = Sum.inr b := fun q=>e (Sum.inr.inj q)
   rw [decide_eq_false h,decide_eq_false e]
theorem key_lr (a : Int) (b : Str) : decide ((Sum.inl a : Key) = Sum.inr b) = false := decide_eq_false (fun q=>nomatch q)
theorem key_rl (a : Str) (b : Int) : decide ((Sum.inr a : Key) = Sum.inl b) = false := decide_eq_false (fun q=>nomatch q)
noncomputable def mixKind (prog : Program) (w : World) : PySem.KeyKind prog w Key where
 is := keyIs
 hash := keyH w
 inj := fun v a b ha hb=>by
   rcases keyIs_shape ha with ⟨i,t,rfl,rfl⟩ | ⟨x,t,rfl,rfl⟩
   · rcases keyIs_shape hb with ⟨j,u,rfl,e⟩ | ⟨y,u,rfl,e⟩
     · injection e with e1 _;rw [e1]
     · exact nomatch e
   · rcases keyIs_shape hb with ⟨j,u,rfl,e⟩ | ⟨y,u,rfl,e⟩
     · exact nomatch e
     · injection e with e1 _;rw [e1]
 byValue := fun k v h=>by
   rcases keyIs_shape h with ⟨i,t,rfl,rfl⟩ | ⟨x,t,rfl,rfl⟩ <;> rfl
 pyHash := fun hv h=>by
   rcases keyIs_shape hv with ⟨i,t,rfl,rfl⟩ | ⟨x,t,rfl,rfl⟩
   · exact wpAny_pyHash_int h
   · exact wpAny_pyHash_str h
 eqBool := fun hu hv h=>by
   rcases keyIs_shape hu with ⟨i,t,rfl,rfl⟩ | ⟨x,t,rfl,rfl⟩
   · rcases keyIs_shape hv with ⟨j,u,rfl,rfl⟩ | ⟨y,u,rfl,rfl⟩
     · rw [key_ll] at h;exact wpAny_eqBool_int h
     · rw [key_lr] at h;exact SeqAt.EqAt.int_str i t y u _ _ _ _ h
   · rcases keyIs_shape hv with ⟨j,u,rfl,rfl⟩ | ⟨y,u,rfl,rfl⟩
     · rw [key_rl] at h;exact SeqAt.EqAt.str_int x t j u _ _ _ _ h
     · rw [key_rr] at h;exact wpAny_eqBool_str h
 «strs» := fun k x t v h=>by
   rcases keyIs_shape h with ⟨i,u,rfl,e⟩ | ⟨y,u,rfl,e⟩
   · exact nomatch e
   · injection e with e1 _
     subst e1
     cases v <;> rfl
theorem mixKind_int (prog : Program) (w : World) (i : Int) (t : Tok) : (mixKind prog w).is (.inl i) (.int i t) = true := keyIs_int i t
theorem mixKind_str (prog : Program) (w : World) (x : Str) (t : Tok) : (mixKind prog w).is (.inr x) (.str x t) = true := keyIs_str x t
inductive V where
 | non | bl (b : Bool) | int (i : Int) | str (x : Str) | byt (b : Array UInt8) | flt (b : UInt64) | ref (a : Addr) | ty (n : String)
 deriving DecidableEq
def RelV : V→Value→Prop
 | .non,u=>u = Value.none
 | .bl b,u=>u = Value.bool b
 | .int i,u=>∃ t,u = Value.int i t
 | .str x,u=>∃ t,u = Value.str x t
 | .byt b,u=>∃ t,u = Value.bytes b t
 | .flt b,u=>∃ t,u = Value.float b t
 | .ref a,u=>u = Value.ref a
 | .ty n,u=>u = Value.type n
abbrev Vals : List V→List Value→Prop := Paired RelV
theorem Vals.length {xs : List V} {us : List Value} (r : Vals xs us) : xs.length = us.length := Paired.length r
theorem Vals.get : ∀ {xs : List V} {us : List Value} {i : Nat} {x : V},Vals xs us→xs[i]? = some x→∃ u,us[i]? = some u∧RelV x u
 | _,_,_,_,.nil,e=>by simp at e
 | _,_,0,_,.cons r _,e=>by simp at e;subst e;exact ⟨_,rfl,r⟩
 | _,_,i + 1,x,.cons _ t,e=>by
   obtain ⟨u,h1,h2⟩ := Vals.get (i:=i) (x:=x) t (by simpa using e)
   exact ⟨u,by simpa using h1,h2⟩
theorem Vals.append : ∀ {xs ys : List V} {us ws : List Value},Vals xs us→Vals ys ws→Vals (xs ++ ys) (us ++ ws)
 | _,_,_,_,.nil,s=>s
 | _,_,_,_,.cons r t,s=>.cons r (Vals.append t s)
theorem Vals.take : ∀ {xs : List V} {us : List Value} (n : Nat),Vals xs us→Vals (xs.take n) (us.take n)
 | _,_,0,_=>.nil
 | _,_,_ + 1,.nil=>.nil
 | _,_,n + 1,.cons r t=>.cons r (Vals.take n t)
theorem Vals.drop : ∀ {xs : List V} {us : List Value} (n : Nat),Vals xs us→Vals (xs.drop n) (us.drop n)
 | _,_,0,r=>r
 | _,_,_ + 1,.nil=>.nil
 | _,_,n + 1,.cons _ t=>Vals.drop n t
def RelO : Option V→Option Value→Prop
 | some v,some u=>RelV v u
 | none,none=>True
 | _,_=>False
def KV {κ : Type} : List (κ×V)→List (κ×Value)→Prop := Paired fun (p : κ×V) (q : κ×Value)=>p.1 = q.1∧RelV p.2 q.2
noncomputable def kV : Key→V
 | .inl i=>.int i
 | .inr x=>.str x
inductive HO where
   | lst (xs : List V)
   | tup (xs : List V)
   | dK (kvs : List (Key×V)) | dT (kvs : List (List Key×V))
   | set (S : Int→Bool) (n : Nat)
   | ins (C dx : Addr) (fs : List (Str×V))
   | own (x : Addr)
   | xd (fs : List (Str×V))
   | met (f x : Addr)
   | rng (lo hi : Int)
   | frz (o : Obj) (u : HO)
   | tbl (ps : Array Value)
   | ext (φ : Heap→Prop)
noncomputable abbrev Hp := Addr→Option HO
noncomputable def upd (H : Hp) (a : Addr) (o : HO) : Hp := fun b=>if b = a then some o else H b
theorem upd_same {H : Hp} {a : Addr} {o : HO} : upd H a o a = some o := by unfold upd;rw [if_pos rfl]
theorem upd_ne {H : Hp} {a b : Addr} {o : HO} (h : b≠a) : upd H a o b = H b := by unfold upd;rw [if_neg h]
theorem ne_of {H : Hp} {a b : Addr} {o u : HO} (h : H a = some o) (h' : H b = some u) (d : o≠u) : a≠b := by
 intro e;subst e;rw [h] at h';exact d (Option.some.inj h')
theorem ne_of_none {H : Hp} {a b : Addr} {o : HO} (h : H a = some o) (h' : H b = none) : a≠b := by
 intro e;subst e;rw [h] at h';cases h'
section
variable (P : Program) (w : World)
def ObjOk (H : Hp) (h : Heap) (a : Addr) : HO→Prop
 | .lst xs=>xs.length≤sizeLine∧∃ (its : List Value) (n : Nat),Vals xs its∧h.get? a = some { cls := .type "list",data := .seq its.toArray n }
 | .tup xs=>xs.length≤sizeLine∧∃ its : List Value,Vals xs its∧IsTup h a its.toArray
 | .dK kvs=>kvs.length≤sizeLine∧(a == sysModules) = false∧∃ vs,KV kvs vs∧h.DictOf (mixKind P w) a vs
 | .dT kvs=>kvs.length≤sizeLine∧(a == sysModules) = false∧∃ xs : List (List Key×Addr×Value),
     Paired (fun (p : List Key×V) (q : List Key×Addr×Value)=>p.1 = q.1∧H q.2.1 = some (.tup (p.1.map kV))∧RelV p.2 q.2.2) kvs xs ∧
     ∃ o es ep,h.get? a = some o∧o.ExactDict∧o.data = .dict es ep∧es.toList = xs.map (entryOfKey (tupleKind (mixKind P w)))∧(xs.map (·.1)).Nodup
 | .set S n=>h.SetOf (intKind P w) a S n
 | .ins C dx fs=>H dx = some (.own a)∧fs.length≤1000∧dx≠a∧h.get? a = some (PySem.W.instObj C dx) ∧
     ∃ mA,h.Ns1 dx mA∧(∀ f,RelO (fs.lookup f) (mA f))∧PySem.Within mA (fs.map (·.1))
 | .own _=>∃ o,h.get? a = some o
 | .xd fs=>∃ mA,h.Ns1 a mA∧∀ f,RelO (fs.lookup f) (mA f)
 | .rng lo hi=>∃ t u v,h.get? a = some { cls := .type "range",data := .fields #[.int lo t,.int hi u,.int 1 v] }
 | .frz o u=>h.get? a = some o∧ObjOk H h a u
 | .tbl ps=>h.get? a = some { cls := .none,data := .fields ps }
 | .met f x=>h.get? a = some (PySem.W.methodObj (.ref f) (.ref x))
 | .ext φ=>φ h∧(∃ o,h.get? a = some o)∧∀ h1 h2 : Heap,φ h1→(∀ o,h1.get? a = some o→h2.get? a = some o)→φ h2
def HOk (H : Hp) (h : Heap) : Prop := ∀ a o,H a = some o→ObjOk P w H h a o
end
section
variable {P : Program} {w : World} {H H' : Hp} {h h' : Heap} {a : Addr} {o : HO}
theorem ObjOk.lt (x : ObjOk P w H h a o) : a < h.objs.size := by
 cases o with
 | lst xs=>obtain ⟨_,_,_,_,e⟩ := x;exact Heap.lt_size e
 | tup xs=>obtain ⟨_,_,_,p⟩ := x;exact p.lt
 | dK kvs=>obtain ⟨_,_,_,_,o,_,_,e,_⟩ := x;exact Heap.lt_size e
 | dT kvs=>obtain ⟨_,_,_,_,o,_,_,e,_⟩ := x;exact Heap.lt_size e
 | set S n=>obtain ⟨o,_,_,_,e,_⟩ := x;exact Heap.lt_size e
 | ins C dx fs=>obtain ⟨_,_,_,e,_⟩ := x;exact Heap.lt_size e
 | own y=>obtain ⟨_,e⟩ := x;exact Heap.lt_size e
 | xd fs=>obtain ⟨_,⟨_,_,_,e,_⟩,_⟩ := x;exact Heap.lt_size e
 | rng lo hi=>obtain ⟨_,_,_,e⟩ := x;exact Heap.lt_size e
 | frz ob u=>obtain ⟨e,_⟩ := x;exact Heap.lt_size e
 | tbl ps=>exact Heap.lt_size (show h.get? a = some _ from x)
 | met f y=>exact Heap.lt_size (show h.get? a = some _ from x)
 | ext φ=>obtain ⟨_,⟨_,e⟩,_⟩ := x;exact Heap.lt_size e
theorem Paired.mapP {α β : Type} {F G : α→β→Prop} : ∀ {l₁ : List α} {l₂ : List β},Paired F l₁ l₂→(∀ a b,F a b→G a b)→Paired G l₁ l₂
 | _,_,.nil,_=>.nil
 | _,_,.cons r t,f=>.cons (f _ _ r) (Paired.mapP t f)
theorem ObjOk.stay (x : ObjOk P w H h a o) (k : ∀ b u,(b = a∨H b = some (.own a))→h.get? b = some u→h'.get? b = some u)
   (ho : ∀ b,H b = some (.own a)→H' b = some (.own a)) (ht : ∀ b xs,H b = some (.tup xs)→H' b = some (.tup xs)) : ObjOk P w H' h' a o := by
 induction o with
 | lst xs=>obtain ⟨z,its,n,r,e⟩ := x;exact ⟨z,its,n,r,k _ _ (.inl rfl) e⟩
 | tup xs=>obtain ⟨z,its,r,ob,e,c⟩ := x;exact ⟨z,its,r,ob,k _ _ (.inl rfl) e,c⟩
 | dK kvs=>obtain ⟨z,y,vs,r,ob,es,ep,e,c⟩ := x;exact ⟨z,y,vs,r,ob,es,ep,k _ _ (.inl rfl) e,c⟩
 | dT kvs =>
   obtain ⟨z,y,xs,r,ob,es,ep,e,c⟩ := x
   exact ⟨z,y,xs,Paired.mapP r fun p q z=>⟨z.1,ht _ _ z.2.1,z.2.2⟩,ob,es,ep,k _ _ (.inl rfl) e,c⟩
 | set S n=>obtain ⟨ob,es,ep,t,e,c⟩ := x;exact ⟨ob,es,ep,t,k _ _ (.inl rfl) e,c⟩
 | ins C dx fs =>
   obtain ⟨d,z,ne,e,mA,⟨od,es,ep,e2,c⟩,r⟩ := x
   exact ⟨ho _ d,z,ne,k _ _ (.inl rfl) e,mA,⟨od,es,ep,k _ _ (.inr d) e2,c⟩,r⟩
 | own y=>obtain ⟨ob,e⟩ := x;exact ⟨ob,k _ _ (.inl rfl) e⟩
 | xd fs=>obtain ⟨mA,⟨od,es,ep,e,c⟩,r⟩ := x;exact ⟨mA,⟨od,es,ep,k _ _ (.inl rfl) e,c⟩,r⟩
 | rng lo hi=>obtain ⟨t,u,v,e⟩ := x;exact ⟨t,u,v,k _ _ (.inl rfl) e⟩
 | frz ob u ih=>obtain ⟨e,q⟩ := x;exact ⟨k _ _ (.inl rfl) e,ih q⟩
 | tbl ps =>
   have e : h.get? a = some { cls := .none,data := .fields ps } := x
   show h'.get? a = some { cls := .none,data := .fields ps }
   exact k a _ (.inl rfl) e
 | met f y =>
   have e : h.get? a = some (PySem.W.methodObj (.ref f) (.ref y)) := x
   show h'.get? a = some (PySem.W.methodObj (.ref f) (.ref y))
   exact k a _ (.inl rfl) e
 | ext φ=>obtain ⟨p,⟨o,e⟩,st⟩ := x;exact ⟨st _ _ p fun o q=>k _ _ (.inl rfl) q,⟨o,k _ _ (.inl rfl) e⟩,st⟩
theorem HOk.lt (x : HOk P w H h) (e : H a = some o) : a < h.objs.size := (x a o e).lt
theorem HOk.fresh (x : HOk P w H h) (e : h.objs.size≤a) : H a = none := by
 cases q : H a with
 | none=>rfl
 | some u=>exact absurd (Nat.lt_of_lt_of_le (x.lt q) e) (Nat.lt_irrefl _)
theorem HOk.kept (x : HOk P w H h) (k : ∀ b u,h.get? b = some u→h'.get? b = some u) : HOk P w H h' := fun a o e =>
 (x a o e).stay (fun b u _ q=>k b u q) (fun _ q=>q) fun _ _ q=>q
theorem HOk.laid (x : HOk P w H h) (k : ∀ b u,h.get? b = some u→h'.get? b = some u) (hp : h.objs.size≤a) (new : ObjOk P w (upd H a o) h' a o) : HOk P w (upd H a o) h' := fun b u e=>by
 have hn := x.fresh hp
 by_cases hb : b = a
 · subst hb;rw [upd_same] at e;cases e;exact new
 · rw [upd_ne hb] at e
   exact (x b u e).stay (fun c v _ q=>k c v q) (fun c q=>by rw [upd_ne (ne_of_none q hn)];exact q) fun c xs q=>by rw [upd_ne (ne_of_none q hn)];exact q
end
def Rd (H : Hp) (a : Addr) (u : HO) : Prop := H a = some u∨∃ o,H a = some (.frz o u)
theorem Rd.of {H : Hp} {a : Addr} {u : HO} (h : H a = some u) : Rd H a u := .inl h
theorem Rd.ok {P : Program} {w : World} {H : Hp} {h : Heap} {a : Addr} {u : HO} (r : Rd H a u) (x : HOk P w H h) : ObjOk P w H h a u := by
 rcases r with r | ⟨o,r⟩
 · exact x a u r
 · obtain ⟨_,q⟩ := x a _ r
   exact q
def Mut : Option HO→Prop
 | some (.lst _)=>True
 | some (.dK _)=>True
 | some (.dT _)=>True
 | some (.set _ _)=>True
 | some (.ins _ _ _)=>True
 | some (.ext _)=>True
 | _=>False
section
variable {P : Program} {w : World} {H : Hp} {h h' : Heap} {x e : Addr} {o' : HO}
theorem HOk.write (ok : HOk P w H h) (mu : Mut (H x)) (he : e = x∨H e = some (.own x)) (k : ∀ b u,b≠e→h.get? b = some u→h'.get? b = some u) (heo : ∃ u,h'.get? e = some u)
   (new : ObjOk P w (upd H x o') h' x o') : HOk P w (upd H x o') h' := fun b u q=>by
 have nown : ∀ c y,H c = some (.own y)→c≠x := fun c y r z=>by subst z;rw [r] at mu;exact mu
 have ntup : ∀ c xs,H c = some (.tup xs)→c≠x := fun c xs r z=>by subst z;rw [r] at mu;exact mu
 by_cases hb : b = x
 · subst hb;rw [upd_same] at q;cases q;exact new
 · rw [upd_ne hb] at q
   by_cases hbe : b = e
   · have q' : H b = some (.own x) := by
       rcases he with z | z
       · exact absurd (hbe.trans z) hb
       · rw [hbe];exact z
     rw [q] at q';cases q'
     obtain ⟨v,hv⟩ := heo
     exact ⟨v,by rw [hbe];exact hv⟩
   · refine (ok b u q).stay (fun c v hc r=>k c v ?_ r) (fun c r=>by rw [upd_ne (nown c b r)];exact r) fun c xs r=>by rw [upd_ne (ntup c xs r)];exact r
     rcases hc with rfl | hc
     · exact hbe
     · rintro rfl
       rcases he with z | z
       · exact nown c b hc z
       · rw [hc] at z;cases z;exact hb rfl
end
structure Un (fs ex : List Addr) (H H' : Hp) (h h' : Heap) : Prop where
 keep : ∀ b o,h.get? b = some o→H b = none→b∉fs→b∉ex→h'.get? b = some o
 slot : ∀ b o,h.get? b = some o→H b = none→b∈fs→b∉ex→∃ sl,h'.get? b = some { o with slots := sl }
 free : ∀ b o,h.get? b = some o→H b = none→b∉ex→H' b = none
 there : ∀ b o,h.get? b = some o→b∉ex→∃ o',h'.get? b = some o'
 tups : ∀ b xs,H b = some (.tup xs)→H' b = some (.tup xs)
 frzs : ∀ b o u,H b = some (.frz o u)→H' b = some (.frz o u)
 tbls : ∀ b ps,H b = some (.tbl ps)→∃ more,H' b = some (.tbl (ps ++ more))
section
variable {fs fs' ex ex' : List Addr} {H H1 H2 : Hp} {h h1 h2 h' : Heap} {a x e : Addr} {o : HO}
theorem Un.any (u : Un fs ex H H1 h h1) {b : Addr} {ob : Obj} (q : h.get? b = some ob) (n : H b = none) (hx : b∉ex) : ∃ sl,h1.get? b = some { ob with slots := sl } := by
 by_cases hb : b∈fs
 · exact u.slot b ob q n hb hx
 · exact ⟨ob.slots,u.keep b ob q n hb hx⟩
theorem Un.kept (k : ∀ b u,h.get? b = some u→h'.get? b = some u) : Un fs ex H H h h' :=
 ⟨fun b ob q _ _ _=>k b ob q,fun b ob q _ _ _=>⟨ob.slots,k b ob q⟩,fun _ _ _ n _=>n,fun b ob q _=>⟨ob,k b ob q⟩,fun _ _ q=>q,fun _ _ _ q=>q,fun _ ps q=>⟨#[],by rw [q];simp⟩⟩
theorem Un.refl : Un fs ex H H h h := Un.kept fun _ _ q=>q
theorem Un.laid (k : ∀ b u,h.get? b = some u→h'.get? b = some u) (hp : h.objs.size≤a) (hn : H a = none) : Un fs ex H (upd H a o) h h' where
 keep := fun b u q _ _ _=>k b u q
 slot := fun b u q _ _ _=>⟨u.slots,k b u q⟩
 free := fun b u q n _=>by rw [upd_ne (Nat.ne_of_lt (Nat.lt_of_lt_of_le (Heap.lt_size q) hp))];exact n
 there := fun b u q _=>⟨u,k b u q⟩
 tups := fun b xs q=>by rw [upd_ne (ne_of_none q hn)];exact q
 frzs := fun b u xs q=>by rw [upd_ne (ne_of_none q hn)];exact q
 tbls := fun b ps q=>⟨#[],by rw [upd_ne (ne_of_none q hn),q];simp⟩
theorem Un.write (mu : Mut (H x)) (he : e = x∨H e = some (.own x)) (k : ∀ b u,b≠e→h.get? b = some u→h'.get? b = some u) (heo : ∃ u,h'.get? e = some u) : Un fs ex H (upd H x o) h h' := by
 have hx : ∀ b,H b = none→b≠x := fun b n z=>by subst z;rw [n] at mu;exact mu
 have hb : ∀ b,H b = none→b≠e := fun b n z=>by
   subst z
   rcases he with r | r
   · exact hx b n r
   · rw [n] at r;cases r
 have hm : ∀ b u,H b = some u→¬ Mut (some u)→b≠x := fun b u q nm z=>by subst z;rw [q] at mu;exact nm mu
 refine ⟨fun b u q n _ _=>k b u (hb b n) q,fun b u q n _ _=>⟨u.slots,k b u (hb b n) q⟩,fun b u q n _=>by rw [upd_ne (hx b n)];exact n,fun b u q _=>?_,
   fun b xs q=>by rw [upd_ne (hm b _ q fun z=>z)];exact q,fun b u xs q=>by rw [upd_ne (hm b _ q fun z=>z)];exact q,fun b ps q=>⟨#[],by rw [upd_ne (hm b _ q fun z=>z),q];simp⟩⟩
 by_cases hbe : b = e
 · subst hbe;exact heo
 · exact ⟨u,k b u hbe q⟩
end
noncomputable def trk (h : Heap) (H : Hp) : List Addr := (List.range h.objs.size).filter fun a=>(H a).isSome
noncomputable def hidT (h : Heap) (H : Hp) : Heap := PySem.W.hideAll h (trk h H)
theorem hidT_size (h : Heap) (H : Hp) : (hidT h H).objs.size = h.objs.size := PySem.W.hideAll_size _ _
theorem hidT_get {h : Heap} {H : Hp} {b : Addr} {o : Obj} (e : h.get? b = some o) (n : H b = none) : (hidT h H).get? b = some o :=
 PySem.W.hideAll_get _ e fun hm=>by
   have q : (H b).isSome = true := (List.mem_filter.mp hm).2
   rw [n] at q;simp at q
theorem of_hidT {h : Heap} {H : Hp} {b : Addr} {o : Obj} (e : (hidT h H).get? b = some o) : h.get? b = some o∧H b = none := by
 have e' : h.get? b = some o := PySem.W.of_hideAll (trk h H) e
 refine ⟨e',?_⟩
 cases q : H b with
 | none=>rfl
 | some x =>
   have hm : b∈trk h H := List.mem_filter.mpr ⟨List.mem_range.mpr (Heap.lt_size e'),by simp [q]⟩
   have z : (hidT h H).get? b = none := PySem.W.hideAll_none (trk h H) hm
   rw [z] at e;cases e
structure Mod (K : PySem.W.Frag) (mg : Str→Option Value) (base : Heap) : Prop where
 kin : K.In base
 glob : base.Ns mainGlobals mg
 blt : ∃ mb,base.Ns builtinsNs mb∧∀ x : Str,x ≠ "__name__" → mb x = bootBuiltins x
 nolimit : base.NoLimit
structure Cx where
 prog : Program
 w : World
 K : PySem.W.Frag
 mg : Str→Option Value
 base : Heap
 A : Around
 N : List Str
 s₀ : Shared
 H₀ : Hp
 env : Env
 outer : List Env
 stack : List Env
 ex : List Addr
 fn : Str→Bool
 calm : Bool
 pn : List (Addr×Obj)
 xe : Value→Shared→Prop
noncomputable def frs (l : List Env) : List Addr := l.filterMap (·.frame)
noncomputable abbrev Cx.fs (X : Cx) : List Addr := frs X.outer
def Vis (sc : Scope) (x : Str) : Prop := sc.names.lookup x = some .local∨sc.names.lookup x = some .cell∨sc.names.lookup x = some .free
def Loc (sc : Scope) (x : Str) : Prop := sc.names.lookup x = some .local∨sc.names.lookup x = some .cell
def Look (env : Env) (h : Heap) (m : Str→Option Value) (x : Str) (u : Value) : Prop :=
 (env.kindOf x = some .local∧m x = some u)∨((env.kindOf x = some .cell∨env.kindOf x = some .free)∧∃ c,env.cells.lookup x = some c∧h.IsCell c (some u))
structure Cx.Ok (X : Cx) : Prop where
 mod : Mod X.K X.mg X.base
 kind : X.env.scope.kind = .function
 glob : X.env.globals = mainGlobals
 blt : X.env.builtins = builtinsNs
 above : X.s₀.heap.objs.size≤X.env.locals
 inj : ∀ x y c,X.env.cells.lookup x = some c→X.env.cells.lookup y = some c→x = y
 has : ∀ x,(X.env.kindOf x = some .cell∨X.env.kindOf x = some .free)→∃ c,X.env.cells.lookup x = some c
 cab : ∀ x c,X.fn x = true→X.env.cells.lookup x = some c→X.s₀.heap.objs.size≤c
 hd : X.calm = true→X.A.handled = none
 frames : X.A.frames = some X.stack
 stk : X.stack = X.outer∨(X.stack = X.env :: X.outer∧X.env.frame = some X.env.locals)
 exf : ∀ b∈X.ex,b≠X.env.locals∧∀ x c,X.env.cells.lookup x = some c→c≠b
 bs : ∀ b o,X.base.get? b = some o→X.s₀.heap.get? b = some o∧X.H₀ b = none
 bsz : X.base.objs.size≤X.s₀.heap.objs.size
 noex : ∀ b o,X.base.get? b = some o→b∉X.ex
 exfs : ∀ b∈X.ex,b∉X.fs
 funs : X.s₀.heap.FunFrames X.base X.outer
 frf : ∀ b∈X.fs,X.H₀ b = none
structure Inv (X : Cx) (pins : List (Addr×Obj)) (σ : List (Option V)) (H : Hp) (s : Shared) : Prop where
 ok : X.Ok
 os : s.os = X.s₀.os
 bare : AllBare s.gens
 base : Un X.fs X.ex X.H₀ H X.s₀.heap s.heap
 loc : ∃ m,s.heap.Ns X.env.locals m∧∀ (i : Nat) (x : Str) (v : V),X.N[i]? = some x→σ[i]? = some (some v)→Vis X.env.scope x→∃ u,RelV v u∧Look X.env s.heap m x u
 cell : ∀ x c,X.env.cells.lookup x = some c→∃ v,s.heap.IsCell c v
 free : H X.env.locals = none
 freeC : ∀ x c,X.env.cells.lookup x = some c→H c = none
 pin : ∀ p∈X.pn ++ pins,s.heap.get? p.1 = some p.2∧H p.1 = none∧p.1≠X.env.locals∧p.1∉X.fs∧∀ v,p.2.data≠.cell v
 hok : HOk X.prog X.w H s.heap
 len : σ.length = X.N.length
section
variable {X : Cx} {pins : List (Addr×Obj)} {σ : List (Option V)} {H H' : Hp} {s : Shared} {h' : Heap}
theorem Cx.Ok.nofr (ok : X.Ok) {b : Addr} {o : Obj} (e : X.base.get? b = some o) : b∉X.fs := fun hb=>by
 have := (ok.funs.mem hb).1
 rw [e] at this;cases this
theorem Inv.bs (I : Inv X pins σ H s) : ∀ b o,X.base.get? b = some o→s.heap.get? b = some o∧H b = none := fun b o e =>
 ⟨I.base.keep b o (I.ok.bs b o e).1 (I.ok.bs b o e).2 (I.ok.nofr e) (I.ok.noex b o e),I.base.free b o (I.ok.bs b o e).1 (I.ok.bs b o e).2 (I.ok.noex b o e)⟩
theorem Inv.bk (I : Inv X pins σ H s) : ∀ b o,X.base.get? b = some o→s.heap.get? b = some o := fun b o e=>(I.bs b o e).1
theorem Inv.mod (I : Inv X pins σ H s) : Mod X.K X.mg X.base := I.ok.mod
theorem Inv.kIn (I : Inv X pins σ H s) : X.K.In s.heap := I.ok.mod.kin.keeps I.bk
theorem Inv.lt (I : Inv X pins σ H s) : X.env.locals < s.heap.objs.size := let ⟨_,hn,_⟩ := I.loc;hn.lt
theorem Inv.sz (I : Inv X pins σ H s) : X.s₀.heap.objs.size≤s.heap.objs.size := Nat.le_trans I.ok.above (Nat.le_of_lt I.lt)
theorem Inv.nofs (I : Inv X pins σ H s) {a : Addr} (h : s.heap.objs.size≤a) : a∉X.fs := fun hb=>by
 obtain ⟨_,o,ho,_⟩ := I.ok.funs.mem hb
 exact absurd (Nat.lt_of_lt_of_le (Heap.lt_size ho) (Nat.le_trans I.sz h)) (Nat.lt_irrefl _)
theorem Inv.cne (I : Inv X pins σ H s) : ∀ x c,X.env.cells.lookup x = some c→c≠X.env.locals := fun x c e z=>by
 obtain ⟨v,o,ho,hd⟩ := I.cell x c e
 obtain ⟨m,⟨o',es,ep,ho',hd',_⟩,_⟩ := I.loc
 rw [z,ho'] at ho;cases ho;rw [hd'] at hd;cases hd
theorem Inv.funs (I : Inv X pins σ H s) : s.heap.FunFrames X.base X.outer := by
 have all : ∀ (l : List Env),(∀ b∈frs l,b∈X.fs)→X.s₀.heap.FunFrames X.base l→s.heap.FunFrames X.base l := by
   intro l
   induction l with
   | nil=>intro _ _;trivial
   | cons env r ih =>
     intro hs hl
     obtain ⟨hk,⟨L,o,hf,hn,ho,hd⟩,hr⟩ := hl
     have hL : L∈X.fs := hs L (by unfold frs;rw [List.filterMap_cons,hf];exact List.mem_cons_self)
     obtain ⟨sl,e⟩ := I.base.slot L o ho (I.ok.frf L hL) hL fun z=>I.ok.exfs L z hL
     exact ⟨hk,⟨L,_,hf,hn,e,hd⟩,ih (fun b hb=>hs b (by unfold frs;rw [List.filterMap_cons,hf];exact List.mem_cons_of_mem _ hb)) hr⟩
 exact all X.outer (fun _ hb=>hb) I.ok.funs
theorem Inv.stack (I : Inv X pins σ H s) : s.heap.FunFrames X.base X.stack := by
 rcases I.ok.stk with e | ⟨e,hf⟩
 · rw [e];exact I.funs
 · rw [e]
   obtain ⟨m,hn,_⟩ := I.loc
   refine .cons (by rw [I.ok.kind];decide) hf hn ?_ I.funs
   exact Heap.get?_none_of_le (Nat.le_trans I.ok.bsz I.ok.above)
theorem Inv.stkSub (I : Inv X pins σ H s) : ∀ b∈frs X.stack,b∈X.env.locals :: X.fs := fun b hb=>by
 rcases I.ok.stk with e | ⟨e,hf⟩
 · rw [e] at hb;exact List.mem_cons_of_mem _ hb
 · rw [e] at hb
   unfold frs at hb
   rw [List.filterMap_cons,hf] at hb
   exact hb
theorem Inv.stkFree (I : Inv X pins σ H s) : ∀ b∈frs X.stack,H b = none := fun b hb=>by
 rcases List.mem_cons.mp (I.stkSub b hb) with e | hb
 · rw [e];exact I.free
 · obtain ⟨_,o,ho,_⟩ := I.ok.funs.mem hb
   exact I.base.free b o ho (I.ok.frf b hb) fun z=>I.ok.exfs b z hb
theorem Inv.step {g' : Array GenState} {t' : Nat} {d' : Drawn} {ch : List Addr} (I : Inv X pins σ H s)
   (hch : ∀ b∈ch,(b∈X.ex∨X.s₀.heap.objs.size≤b)∧b≠X.env.locals∧(∀ x c,X.env.cells.lookup x = some c→c≠b)∧∀ p∈X.pn ++ pins,p.1≠b)
   (keep : ∀ b o,b≠X.env.locals→b∉X.fs→b∉ch→s.heap.get? b = some o→H b = none→h'.get? b = some o)
   (slot : ∀ b o,b≠X.env.locals→b∈X.fs→b∉ch→s.heap.get? b = some o→H b = none→∃ sl,h'.get? b = some { o with slots := sl }) (free : ∀ b o,b∉ch→s.heap.get? b = some o→H b = none→H' b = none)
   (there : ∀ b o,b∉ch→s.heap.get? b = some o→∃ o',h'.get? b = some o')
   (tups : ∀ b xs,H b = some (.tup xs)→H' b = some (.tup xs)) (frzs : ∀ b o u,H b = some (.frz o u)→H' b = some (.frz o u)) (tbls : ∀ b ps,H b = some (.tbl ps)→∃ more,H' b = some (.tbl (ps ++ more)))
   (ns : ∀ m,s.heap.Ns X.env.locals m→h'.Ns X.env.locals m) (hok : HOk X.prog X.w H' h') (hg : AllBare g') :
   Inv X pins σ H' { s with heap := h',gens := g',drawn := d',toks := t' } := by
 have neL : ∀ b o,X.s₀.heap.get? b = some o→b≠X.env.locals := fun b o e=>Nat.ne_of_lt (Nat.lt_of_lt_of_le (Heap.lt_size e) I.ok.above)
 have neC : ∀ b o,X.s₀.heap.get? b = some o→b∉X.ex→b∉ch := fun b o e hx hb=>by
   rcases (hch b hb).1 with z | z
   · exact hx z
   · exact absurd (Nat.lt_of_lt_of_le (Heap.lt_size e) z) (Nat.lt_irrefl _)
 have cellK : ∀ x c,X.env.cells.lookup x = some c→∀ v,s.heap.IsCell c v→h'.IsCell c v := fun x c e v zz=>by
   obtain ⟨o,ho,hd⟩ := zz
   have nch : c∉ch := fun z=>(hch c z).2.2.1 x c e rfl
   by_cases hc : c∈X.fs
   · obtain ⟨sl,q⟩ := slot c o (I.cne x c e) hc nch ho (I.freeC x c e)
     exact ⟨_,q,hd⟩
   · exact ⟨o,keep c o (I.cne x c e) hc nch ho (I.freeC x c e),hd⟩
 refine ⟨I.ok,I.os,hg,⟨fun b o e n hb hx=>?_,fun b o e n hb hx=>?_,fun b o e n hx=>?_,fun b o e hx=>?_,fun b xs e=>tups b xs (I.base.tups b xs e),fun b o xs e=>frzs b o xs (I.base.frzs b o xs e),fun b ps e=>?_⟩,?_,fun x c e=>?_,?_,fun x c e=>?_,fun p hp=>?_,hok,I.len⟩
 · exact keep b o (neL b o e) hb (neC b o e hx) (I.base.keep b o e n hb hx) (I.base.free b o e n hx)
 · obtain ⟨sl,e1⟩ := I.base.slot b o e n hb hx
   obtain ⟨sl',e2⟩ := slot b _ (neL b o e) hb (neC b o e hx) e1 (I.base.free b o e n hx)
   exact ⟨sl',e2⟩
 · obtain ⟨o',e1⟩ := I.base.there b o e hx
   exact free b o' (neC b o e hx) e1 (I.base.free b o e n hx)
 · obtain ⟨o',e1⟩ := I.base.there b o e hx
   exact there b o' (neC b o e hx) e1
 · obtain ⟨m1,e1⟩ := I.base.tbls b ps e
   obtain ⟨m2,e2⟩ := tbls b _ e1
   exact ⟨m1 ++ m2,by rw [e2,Array.append_assoc]⟩
 · obtain ⟨m,hn,hl⟩ := I.loc
   refine ⟨m,ns m hn,fun i x v e1 e2 e3=>?_⟩
   obtain ⟨u,r,l⟩ := hl i x v e1 e2 e3
   refine ⟨u,r,?_⟩
   rcases l with l | ⟨k,c,e,z⟩
   · exact .inl l
   · exact .inr ⟨k,c,e,cellK x c e _ z⟩
 · obtain ⟨v,z⟩ := I.cell x c e
   exact ⟨v,cellK x c e v z⟩
 · obtain ⟨m,⟨o,_,_,ho,_⟩,_⟩ := I.loc
   exact free _ o (fun z=>(hch _ z).2.1 rfl) ho I.free
 · obtain ⟨v,o,ho,hd⟩ := I.cell x c e
   exact free c o (fun z=>(hch c z).2.2.1 x c e rfl) ho (I.freeC x c e)
 · obtain ⟨e,n,ne,nf,d⟩ := I.pin p hp
   have nch : p.1∉ch := fun z=>(hch p.1 z).2.2.2 p hp rfl
   exact ⟨keep p.1 p.2 ne nf nch e n,free p.1 p.2 nch e n,ne,nf,d⟩
theorem Inv.un {t' : Nat} (I : Inv X pins σ H s) (u : Un X.fs [] H H' s.heap h') (hok : HOk X.prog X.w H' h') : Inv X pins σ H' { s with heap := h',toks := t' } := by
 obtain ⟨m,⟨o,es,ep,ho,r⟩,_⟩ := id I.loc
 obtain ⟨sl,hL⟩ := u.any ho I.free (by simp)
 exact I.step (g' := s.gens) (d' := s.drawn) (ch:=[]) (fun _ z=>nomatch z) (fun b o _ hb _ e n=>u.keep b o e n hb (by simp)) (fun b o _ hb _ e n=>u.slot b o e n hb (by simp)) (fun b o _ e n=>u.free b o e n (by simp)) (fun b o _ e=>u.there b o e (by simp)) u.tups u.frzs u.tbls (fun m' hm=>by
   obtain ⟨o',es',ep',ho',r'⟩ := hm
   rw [ho] at ho';cases ho'
   exact ⟨_,es',ep',hL,r'⟩) hok I.bare
theorem Inv.call {g' : Array GenState} {t' : Nat} {d' : Drawn} {ch : List Addr} (I : Inv X pins σ H s) (u : Un (frs X.stack) ch H H' s.heap h') (hok : HOk X.prog X.w H' h') (hg : AllBare g')
   (hch : ∀ b∈ch,(b∈X.ex∨X.s₀.heap.objs.size≤b)∧b≠X.env.locals∧(∀ x c,X.env.cells.lookup x = some c→c≠b)∧∀ p∈X.pn ++ pins,p.1≠b) :
   Inv X pins σ H' { s with heap := h',gens := g',drawn := d',toks := t' } := by
 obtain ⟨m,⟨o,es,ep,ho,r⟩,_⟩ := id I.loc
 obtain ⟨sl,hL⟩ := u.any ho I.free fun z=>(hch _ z).2.1 rfl
 exact I.step (ch:=ch) hch (fun b o hL hb hc e n=>u.keep b o e n (fun z=>(List.mem_cons.mp (I.stkSub b z)).elim hL hb) hc) (fun b o _ _ hc e n=>u.any e n hc) (fun b o hc e n=>u.free b o e n hc) (fun b o hc e=>u.there b o e hc) u.tups u.frzs u.tbls (fun m' hm=>by
   obtain ⟨o',es',ep',ho',r'⟩ := hm
   rw [ho] at ho';cases ho'
   exact ⟨_,es',ep',hL,r'⟩) hok hg
theorem Inv.turned {t' : Nat} {it : Addr} (I : Inv X pins σ H s) (k : ∀ b o,b≠it→s.heap.get? b = some o→h'.get? b = some o) (hn : H it = none) (hL : it≠X.env.locals)
   (h1 : it∈X.ex∨X.s₀.heap.objs.size≤it) (h2 : ∀ x c,X.env.cells.lookup x = some c→c≠it) (h3 : ∀ p∈X.pn ++ pins,p.1≠it) : Inv X pins σ H { s with heap := h',toks := t' } := by
 have nit : ∀ b u,H b = some u→b≠it := fun b u e z=>by rw [z,hn] at e;cases e
 refine I.step (g' := s.gens) (d' := s.drawn) (ch:=[it]) (fun b hb=>?_) (fun b o _ _ hc e _=>k b o (fun z=>hc (by simp [z])) e) (fun b o _ _ hc e _=>⟨o.slots,k b o (fun z=>hc (by simp [z])) e⟩) (fun _ _ _ _ n=>n)
   (fun b o hc e=>⟨o,k b o (fun z=>hc (by simp [z])) e⟩) (fun _ _ e=>e) (fun _ _ _ e=>e) (fun b ps e=>⟨#[],by rw [e];simp⟩) (fun m hm=>?_) (fun b u e=>?_) I.bare
 · have e : b = it := by simpa using hb
   subst e
   exact ⟨h1,hL,h2,h3⟩
 · obtain ⟨o,es,ep,ho,r⟩ := hm
   exact ⟨o,es,ep,k _ o (Ne.symm hL) ho,r⟩
 · refine (I.hok b u e).stay (fun c v hc q=>k c v ?_ q) (fun _ q=>q) fun _ _ q=>q
   rcases hc with z | z
   · rw [z];exact nit b u e
   · exact nit c _ z
theorem Inv.tok (I : Inv X pins σ H s) (t : Nat) : Inv X pins σ H { s with toks := t } := I.un (h' := s.heap) (t' := t) Un.refl I.hok
theorem Inv.kept {t' : Nat} (I : Inv X pins σ H s) (k : ∀ b u,s.heap.get? b = some u→h'.get? b = some u) : Inv X pins σ H { s with heap := h',toks := t' } := I.un (Un.kept k) (I.hok.kept k)
theorem Inv.laid {a : Addr} {o : HO} {t' : Nat} (I : Inv X pins σ H s) (k : ∀ b u,s.heap.get? b = some u→h'.get? b = some u) (hp : s.heap.objs.size≤a) (new : ObjOk X.prog X.w (upd H a o) h' a o) :
   Inv X pins σ (upd H a o) { s with heap := h',toks := t' } := I.un (Un.laid k hp (I.hok.fresh hp)) (I.hok.laid k hp new)
theorem Inv.write {x e : Addr} {o : HO} {t' : Nat} (I : Inv X pins σ H s) (mu : Mut (H x)) (he : e = x∨H e = some (.own x)) (k : ∀ b u,b≠e→s.heap.get? b = some u→h'.get? b = some u) (heo : ∃ u,h'.get? e = some u)
   (new : ObjOk X.prog X.w (upd H x o) h' x o) : Inv X pins σ (upd H x o) { s with heap := h',toks := t' } := I.un (Un.write mu he k heo) (I.hok.write mu he k heo new)
theorem Inv.weak {σ' : List (Option V)} (I : Inv X pins σ H s) (hl : σ'.length = σ.length) (w : ∀ (i : Nat) v,σ'[i]? = some (some v)→σ[i]? = some (some v)) : Inv X pins σ' H s :=
 ⟨I.ok,I.os,I.bare,I.base,let ⟨m,hn,hl'⟩ := I.loc;⟨m,hn,fun i x v e1 e2 e3=>hl' i x v e1 (w i v e2) e3⟩,I.cell,I.free,I.freeC,I.pin,I.hok,hl.trans I.len⟩
theorem Inv.pins_of {pins' : List (Addr×Obj)} (I : Inv X pins σ H s) (h : ∀ p∈pins',s.heap.get? p.1 = some p.2∧H p.1 = none∧p.1≠X.env.locals∧p.1∉X.fs∧∀ v,p.2.data≠.cell v) : Inv X pins' σ H s :=
 ⟨I.ok,I.os,I.bare,I.base,I.loc,I.cell,I.free,I.freeC,fun p hp=>(List.mem_append.mp hp).elim (fun z=>I.pin p (List.mem_append_left _ z)) (h p),I.hok,I.len⟩
theorem nodup_ix {N : List Str} (hN : N.Nodup) {i j : Nat} {x : Str} (a : N[i]? = some x) (b : N[j]? = some x) : i = j := by
 obtain ⟨h1,e1⟩ := List.getElem?_eq_some_iff.mp a
 obtain ⟨h2,e2⟩ := List.getElem?_eq_some_iff.mp b
 exact (List.getElem_inj hN).mp (e1.trans e2.symm)
theorem store_ok2 {M : Model} {A : Around} {E : Value→Shared→Prop} {i : Nat} {x : Str} {v : V} {u : Value} {Q : Unit→Shared→Prop} (I : Inv X pins σ H s) (hN : X.N.Nodup) (hi : X.N[i]? = some x) (hx : Loc X.env.scope x) (r : RelV v u)
   (h : ∀ s',Inv X pins (σ.set i (some v)) H s'→(∃ a,Heap.SameBut a s.heap s'.heap∧(a = X.env.locals∨X.env.cells.lookup x = some a))→Q () s') (hf : X.fn x = true∨X.env.scope.names.lookup x = some .local := by first | exact .inl rfl | exact .inr rfl | assumption) : wpAny M A (storeName X.env x u) Q E s := by
 obtain ⟨m,hn,hl⟩ := id I.loc
 have hcls : (X.env.scope.kind == .class || (X.env.scope.kind == .module && X.env.locals != X.env.globals)) = false := by rw [I.ok.kind];rfl
 have hiσ : i < σ.length := by rw [I.len];exact (List.getElem?_eq_some_iff.mp hi).1
 have cne := I.cne
 have tracked : ∀ {a : Addr} {h' : Heap},(∃ o,s.heap.get? a = some o∧H a = none)→Heap.SameBut a s.heap h'→HOk X.prog X.w H h' := fun {a h'} ha hs b ob e=>by
   obtain ⟨_,_,hfree⟩ := ha
   refine (I.hok b ob e).stay (fun c w' hc q=>(hs.2 c ?_).trans q) (fun _ q=>q) fun _ _ q=>q
   rintro rfl
   rcases hc with rfl | hc
   · rw [hfree] at e;cases e
   · rw [hfree] at hc;cases hc
 rcases hx with hk | hk
 · refine wpAny_storeName_local hk hn (fun h' hn' hs=>?_) hcls
   obtain ⟨oL,_,_,hoL,_⟩ := id hn
   refine h _ ⟨I.ok,I.os,I.bare,⟨fun b o e n hb hx=>?_,fun b o e n hb hx=>?_,I.base.free,fun b o e hx=>?_,I.base.tups,I.base.frzs,I.base.tbls⟩,⟨_,hn',fun j y v' e1 e2 e3=>?_⟩,fun y c e=>?_,I.free,I.freeC,fun p hp=>?_,tracked ⟨oL,hoL,I.free⟩ hs,by simpa using I.len⟩ ⟨_,hs,.inl rfl⟩
   · exact (hs.2 b (Nat.ne_of_lt (Nat.lt_of_lt_of_le (Heap.lt_size e) I.ok.above))).trans (I.base.keep b o e n hb hx)
   · obtain ⟨sl,e1⟩ := I.base.slot b o e n hb hx
     exact ⟨sl,(hs.2 b (Nat.ne_of_lt (Nat.lt_of_lt_of_le (Heap.lt_size e) I.ok.above))).trans e1⟩
   · obtain ⟨o',e1⟩ := I.base.there b o e hx
     exact ⟨o',(hs.2 b (Nat.ne_of_lt (Nat.lt_of_lt_of_le (Heap.lt_size e) I.ok.above))).trans e1⟩
   · by_cases hj : j = i
     · subst hj
       rw [hi] at e1;cases e1
       rw [List.getElem?_set_self hiσ] at e2
       cases e2
       exact ⟨u,r,.inl ⟨hk,by simp⟩⟩
     · rw [List.getElem?_set_ne (Ne.symm hj)] at e2
       obtain ⟨u',r',q⟩ := hl j y v' e1 e2 e3
       refine ⟨u',r',?_⟩
       rcases q with ⟨k,e⟩ | ⟨k,c,e,z⟩
       · refine .inl ⟨k,?_⟩
         have : y≠x := fun e=>hj (nodup_ix hN e1 (e ▸ hi))
         simp [this,e]
       · exact .inr ⟨k,c,e,z.sameBut hs (cne y c e)⟩
   · obtain ⟨w',z⟩ := I.cell y c e
     exact ⟨w',z.sameBut hs (cne y c e)⟩
   · obtain ⟨e,n,ne,nf,d⟩ := I.pin p hp
     exact ⟨(hs.2 p.1 ne).trans e,n,ne,nf,d⟩
 · have hfn : X.fn x = true := by
     rcases hf with z | z
     · exact z
     · rw [z] at hk;cases hk
   obtain ⟨c,hc⟩ := I.ok.has x (.inl hk)
   obtain ⟨w',z⟩ := I.cell x c hc
   refine wpAny_storeName_cell I.ok.kind hk hc z (fun h' hc' hs=>?_)
   obtain ⟨oc,hoc,hocd⟩ := id z
   refine h { s with heap := h' } ⟨I.ok,I.os,I.bare,⟨fun b o e n hb hx=>?_,fun b o e n hb hx=>?_,I.base.free,fun b o e hx=>?_,I.base.tups,I.base.frzs,I.base.tbls⟩,⟨m,hn.sameBut hs (Ne.symm (cne x c hc)),fun j y v' e1 e2 e3=>?_⟩,fun y c' e=>?_,I.free,I.freeC,fun p hp=>?_,tracked ⟨oc,hoc,I.freeC x c hc⟩ hs,by simpa using I.len⟩ ⟨c,hs,.inr hc⟩
   · exact (hs.2 b (Nat.ne_of_lt (Nat.lt_of_lt_of_le (Heap.lt_size e) (I.ok.cab x c hfn hc)))).trans (I.base.keep b o e n hb hx)
   · obtain ⟨sl,e1⟩ := I.base.slot b o e n hb hx
     exact ⟨sl,(hs.2 b (Nat.ne_of_lt (Nat.lt_of_lt_of_le (Heap.lt_size e) (I.ok.cab x c hfn hc)))).trans e1⟩
   · obtain ⟨o',e1⟩ := I.base.there b o e hx
     exact ⟨o',(hs.2 b (Nat.ne_of_lt (Nat.lt_of_lt_of_le (Heap.lt_size e) (I.ok.cab x c hfn hc)))).trans e1⟩
   · by_cases hj : j = i
     · subst hj
       rw [hi] at e1;cases e1
       rw [List.getElem?_set_self hiσ] at e2
       cases e2
       exact ⟨u,r,.inr ⟨.inl hk,c,hc,hc'⟩⟩
     · rw [List.getElem?_set_ne (Ne.symm hj)] at e2
       obtain ⟨u',r',q⟩ := hl j y v' e1 e2 e3
       refine ⟨u',r',?_⟩
       rcases q with q | ⟨k,c',e,z'⟩
       · exact .inl q
       · refine .inr ⟨k,c',e,z'.sameBut hs ?_⟩
         rintro rfl
         exact hj (nodup_ix hN e1 (I.ok.inj _ _ _ e hc ▸ hi))
   · by_cases hcc : c' = c
     · subst hcc;exact ⟨_,hc'⟩
     · obtain ⟨w2,z2⟩ := I.cell y c' e
       exact ⟨w2,z2.sameBut hs hcc⟩
   · obtain ⟨e,n,ne,nf,d⟩ := I.pin p hp
     refine ⟨(hs.2 p.1 ?_).trans e,n,ne,nf,d⟩
     intro q
     rw [q,hoc] at e
     have q' : oc = p.2 := Option.some.inj e
     exact d w' (by rw [← q'];exact hocd)
theorem store_ok {M : Model} {A : Around} {E : Value→Shared→Prop} {i : Nat} {x : Str} {v : V} {u : Value} {Q : Unit→Shared→Prop} (I : Inv X pins σ H s) (hN : X.N.Nodup) (hi : X.N[i]? = some x) (hx : Loc X.env.scope x) (r : RelV v u)
   (h : ∀ s',Inv X pins (σ.set i (some v)) H s'→Q () s') (hf : X.fn x = true∨X.env.scope.names.lookup x = some .local := by first | exact .inl rfl | exact .inr rfl | assumption) : wpAny M A (storeName X.env x u) Q E s :=
 store_ok2 I hN hi hx r (fun s' I' _=>h s' I') hf
theorem Inv.call' {s' : Shared} {ch : List Addr} (I : Inv X pins σ H s) (ho : s'.os = s.os) (u : Un (frs X.stack) ch H H' s.heap s'.heap) (hok : HOk X.prog X.w H' s'.heap) (hg : AllBare s'.gens)
   (hch : ∀ b∈ch,(b∈X.ex∨X.s₀.heap.objs.size≤b)∧b≠X.env.locals∧(∀ x c,X.env.cells.lookup x = some c→c≠b)∧∀ p∈X.pn ++ pins,p.1≠b) : Inv X pins σ H' s' := by
 obtain ⟨h',g',d',t',o'⟩ := s'
 have e : o' = s.os := ho
 subst e
 exact I.call (g' := g') (t' := t') (d' := d') u hok hg hch
end
abbrev XK := Value→Option Addr→Hp→Prop
noncomputable abbrev St := List (Option V)
abbrev VK := V→Hp→Prop
abbrev TE := St→Hp→VK→Prop
abbrev TT := St→Hp→(Bool→Hp→Prop)→Prop
abbrev TA := St→Hp→(List V→Hp→Prop)→Prop
structure Ends where
 nx : St→Hp→Prop
 rt : VK
 bk : St→Hp→Prop := fun _ _=>False
 ct : St→Hp→Prop := fun _ _=>False
abbrev TS := Ends→St→Hp→Prop
def EP (X : Cx) (pins : List (Addr×Obj)) (σ : St) (Q : VK) (u : Value) (s' : Shared) : Prop := ∃ v H',Inv X pins σ H' s'∧RelV v u∧Q v H'
def TP (X : Cx) (pins : List (Addr×Obj)) (σ : St) (Q : Bool→Hp→Prop) (b : Bool) (s' : Shared) : Prop := ∃ H',Inv X pins σ H' s'∧Q b H'
def AP (X : Cx) (pins : List (Addr×Obj)) (σ : St) (Q : List V→Hp→Prop) (us : List Value) (s' : Shared) : Prop := ∃ vs H',Inv X pins σ H' s'∧Vals vs us∧Q vs H'
def SP (X : Cx) (pins : List (Addr×Obj)) (D : Ends) (f : Flow) (s' : Shared) : Prop :=
 match f with
 | .next=>∃ σ' H',Inv X pins σ' H' s'∧D.nx σ' H'
 | .brk=>∃ σ' H',Inv X pins σ' H' s'∧D.bk σ' H'
 | .cont=>∃ σ' H',Inv X pins σ' H' s'∧D.ct σ' H'
 | .ret u=>∃ v σ' H',Inv X pins σ' H' s'∧RelV v u∧D.rt v H'
def PE (X : Cx) (e : Expr) (t : TE) : Prop :=
 ∀ (pins : List (Addr×Obj)) (s : Shared) (σ : St) (H : Hp) (Q : VK),Inv X pins σ H s→t σ H Q→wpAny (model X.prog X.w) X.A (eval e X.env) (EP X pins σ Q) X.xe s
def PT (X : Cx) (e : Expr) (t : TT) : Prop :=
 ∀ (pins : List (Addr×Obj)) (s : Shared) (σ : St) (H : Hp) (Q : Bool→Hp→Prop),Inv X pins σ H s→t σ H Q→wpAny (model X.prog X.w) X.A (isTrue e X.env (eval e X.env)) (TP X pins σ Q) X.xe s
def PW (X : Cx) (e : Expr) (t : TT) : Prop :=
 ∀ (whole : Sem Value) (pins : List (Addr×Obj)) (s : Shared) (σ : St) (H : Hp) (Q : Bool→Hp→Prop),Inv X pins σ H s→t σ H Q→wpAny (model X.prog X.w) X.A (isTrue e X.env whole) (TP X pins σ Q) X.xe s
theorem PW.pt {X : Cx} {e : Expr} {t : TT} (h : PW X e t) : PT X e t := h _
def PA (X : Cx) (es : List Expr) (t : TA) : Prop :=
 ∀ (pos : Pos) (pins : List (Addr×Obj)) (s : Shared) (σ : St) (H : Hp) (Q : List V→Hp→Prop),Inv X pins σ H s→t σ H Q→wpAny (model X.prog X.w) X.A (spliced (backTo pos (starEach es X.env))) (AP X pins σ Q) X.xe s
def PS (X : Cx) (st : Stmt) (t : TS) : Prop :=
 ∀ (pins : List (Addr×Obj)) (s : Shared) (σ : St) (H : Hp) (D : Ends),Inv X pins σ H s→t D σ H→wpAny (model X.prog X.w) X.A (exec st X.env) (SP X pins D) X.xe s
def PSs (X : Cx) (st : List Stmt) (t : TS) : Prop :=
 ∀ (pins : List (Addr×Obj)) (s : Shared) (σ : St) (H : Hp) (D : Ends),Inv X pins σ H s→t D σ H→wpAny (model X.prog X.w) X.A (execs st X.env) (SP X pins D) X.xe s
theorem thn {α : Type} {t : Sem α} {Q Q' : α→Shared→Prop} {M : Model} {A : Around} {E : Value→Shared→Prop} {s : Shared} (h : wpAny M A t Q E s) (hQ : ∀ a s,Q a s→Q' a s) : wpAny M A t Q' E s := wpAny_mono h hQ fun _ _ x=>x
section
variable {X : Cx}
def tVar (i : Nat) : TE := fun σ H Q=>∃ v,σ[i]? = some (some v)∧Q v H
def tC (v : V) : TE := fun _ H Q=>Q v H
theorem pe_var {i : Nat} {x : Str} {pos : Pos} (hN : X.N[i]? = some x) (hv : Vis X.env.scope x) (hd : (x == ("__debug__" : Str)) = false := by decide) (hcd : (x == ("__classdict__" : Str)) = false := by decide) : PE X (.Name x pos) (tVar i) := by
 intro pins s σ H Q I h
 obtain ⟨v,e,h⟩ := h
 obtain ⟨m,hn,hl⟩ := I.loc
 obtain ⟨u,r,l⟩ := hl i x v hN e hv
 have fin : EP X pins σ Q u s := ⟨v,H,I,r,h⟩
 rcases l with ⟨hk,hm⟩ | ⟨hk,c,hc,hcell⟩
 · exact wpAny_Name (wpAny_loadName_local I.ok.kind hk hn hm fin) hd
 · rcases hk with hk | hk
   · exact wpAny_Name (wpAny_loadName_cell I.ok.kind hk hc hcell fin) hd
   · exact wpAny_Name (wpAny_loadName_free I.ok.kind hk hc hcell fin hcd) hd
theorem pe_int {i j pos} : PE X (.Constant (.int i) j pos) (tC (.int i)) := fun _ _ _ H _ I h=>wpAny_Constant_int ⟨.int i,H,I.tok _,⟨_,rfl⟩,h⟩
theorem pe_bl {b j pos} : PE X (.Constant (.bool b) j pos) (tC (.bl b)) := fun _ _ _ H _ I h=>Constant_bool ⟨.bl b,H,I,rfl,h⟩
theorem pe_non {j pos} : PE X (.Constant .none j pos) (tC .non) := fun _ _ _ H _ I h=>Constant_none ⟨.non,H,I,rfl,h⟩
theorem pe_str {x j pos} : PE X (.Constant (.str x) j pos) (tC (.str x)) := fun _ _ _ H _ I h=>Calls.Constant_str ⟨.str x,H,I.tok _,⟨_,rfl⟩,h⟩
def Gl (X : Cx) (x : Str) : Prop := X.env.kindOf x = some .globalImplicit
theorem ld_glob {E : Value→Shared→Prop} {pins : List (Addr×Obj)} {s : Shared} {σ : St} {H : Hp} {x : Str} {u : Value} {pos : Pos} {Q : Value→Shared→Prop} (I : Inv X pins σ H s) (hg : Gl X x) (hm : X.mg x = some u) (h : Q u s)
   (hd : (x == ("__debug__" : Str)) = false := by decide) : wpAny (model X.prog X.w) X.A (eval (.Name x pos) X.env) Q E s :=
 Calls.Name_function_global I.ok.kind hg (Calls.loadGlobal_global (by rw [I.ok.glob];exact I.mod.glob.keeps I.bk) hm h) hd
theorem ld_blt {E : Value→Shared→Prop} {pins : List (Addr×Obj)} {s : Shared} {σ : St} {H : Hp} {x : Str} {u : Value} {pos : Pos} {Q : Value→Shared→Prop} (I : Inv X pins σ H s) (hg : Gl X x) (hm : X.mg x = none) (hv : bootBuiltins x = some u) (h : Q u s)
   (hn : x ≠ "__name__" := by decide) (hd : (x == ("__debug__" : Str)) = false := by decide) : wpAny (model X.prog X.w) X.A (eval (.Name x pos) X.env) Q E s := by
 obtain ⟨mb,h1,h2⟩ := I.mod.blt
 exact Calls.Name_function_global I.ok.kind hg (Calls.loadGlobal_builtin (by rw [I.ok.glob];exact I.mod.glob.keeps I.bk) hm (by rw [I.ok.blt];exact h1.keeps I.bk) ((h2 x hn).trans hv) h) hd
theorem pe_bltn {x : Str} {v : V} {u : Value} {pos : Pos} (hg : Gl X x) (hm : X.mg x = none) (hv : bootBuiltins x = some u) (r : RelV v u) (hn : x ≠ "__name__" := by decide) (hd : (x == ("__debug__" : Str)) = false := by decide) : PE X (.Name x pos) (tC v) :=
 fun _ _ _ H _ I h=>ld_blt I hg hm hv ⟨v,H,I,r,h⟩ hn hd
variable {a b : Expr} {ta tb : TE} {pos : Pos}
def PC (X : Cx) (op : CmpOp) (a b : Expr) (t : TE) : Prop :=
 ∀ (pins : List (Addr×Obj)) (s : Shared) (σ : St) (H : Hp) (Q : VK),Inv X pins σ H s→t σ H Q →
   wpAny (model X.prog X.w) X.A (eval a X.env) (fun v s₁=>wpAny (model X.prog X.w) X.A (eval b X.env) (fun u s₂=>wpAny (model X.prog X.w) X.A (compareOp op v u) (EP X pins σ Q) X.xe s₂) X.xe s₁) X.xe s
def tB (t : TE) : TT := fun σ H Q=>t σ H fun x H1=>∃ c,x = .bl c∧Q c H1
theorem pt_cmp {op : CmpOp} {t : TE} (h : PC X op a b t) (h1 : behindInMarks op b = false := by first | exact nobehind _ (by decide) (by decide) | rfl) : PT X (.Compare a [op] [b] pos) (tB t) := by
 intro pins s σ H Q I hw
 refine wpAny_isTrue_Compare1 (thn (h pins s σ H _ I hw) fun v s1 h1=>thn h1 fun u s2 h2=>thn h2 fun c s3 ⟨x,H1,I1,r1,q1⟩=>?_) h1
 obtain ⟨d,rfl,q⟩ := q1
 cases r1
 exact wpAny_truthy_bool ⟨H1,I1,q⟩
variable {tA tB' : TT} {rest : List Expr}
def tAnd (t u : TT) : TT := fun σ H Q=>t σ H fun c H1=>if c = true then u σ H1 Q else Q false H1
def tOr (t u : TT) : TT := fun σ H Q=>t σ H fun c H1=>if c = true then Q true H1 else u σ H1 Q
def tNot (t : TT) : TT := fun σ H Q=>t σ H fun c H1=>Q (!c) H1
theorem pw_and1 (ha : PT X a tA) : PW X (.BoolOp .And [a] pos) tA := by
 intro wh pins s σ H Q I h
 refine isTrue_and (thn (ha pins s σ H Q I h) fun c s1 e=>?_)
 cases c with
 | true=>exact isTrue_and_nil e
 | false=>exact e
theorem pw_or1 (ha : PT X a tA) : PW X (.BoolOp .Or [a] pos) tA := by
 intro wh pins s σ H Q I h
 refine isTrue_or (thn (ha pins s σ H Q I h) fun c s1 e=>?_)
 cases c with
 | false=>exact isTrue_or_nil e
 | true=>exact e
theorem pw_and (ha : PT X a tA) (hb : PW X (.BoolOp .And (b :: rest) pos) tB') : PW X (.BoolOp .And (a :: b :: rest) pos) (tAnd tA tB') := by
 intro wh pins s σ H Q I h
 refine isTrue_and (thn (ha pins s σ H _ I h) fun c s1 ⟨H1,I1,q1⟩=>?_)
 cases c with
 | true=>exact hb wh pins s1 σ H1 Q I1 q1
 | false=>exact ⟨H1,I1,q1⟩
theorem pw_or (ha : PT X a tA) (hb : PW X (.BoolOp .Or (b :: rest) pos) tB') : PW X (.BoolOp .Or (a :: b :: rest) pos) (tOr tA tB') := by
 intro wh pins s σ H Q I h
 refine isTrue_or (thn (ha pins s σ H _ I h) fun c s1 ⟨H1,I1,q1⟩=>?_)
 cases c with
 | true=>exact ⟨H1,I1,q1⟩
 | false=>exact hb wh pins s1 σ H1 Q I1 q1
theorem pt_not (ha : PT X a tA) : PT X (.UnaryOp .Not a pos) (tNot tA) := by
 intro pins s σ H Q I h
 exact isTrue_not (ha pins s σ H (fun c H1=>Q (!c) H1) I h)
def tAndV (ta tb : TE) : TE := fun σ H Q=>ta σ H fun x H1=>∃ c,x = .bl c∧if c = true then tb σ H1 Q else Q (.bl false) H1
def tNotV (ta : TE) : TE := fun σ H Q=>ta σ H fun x H1=>∃ c,x = .bl c∧Q (.bl (!c)) H1
theorem pe_one {op} {t : TE} (h : PE X a t) : PE X (.BoolOp op [a] pos) t := fun pins s σ H Q I hw=>BoolOp_one (h pins s σ H Q I hw)
theorem pe_and (ha : PE X a ta) (hb : PE X (.BoolOp .And (b :: rest) pos) tb) : PE X (.BoolOp .And (a :: b :: rest) pos) (tAndV ta tb) := by
 intro pins s σ H Q I h
 refine BoolOp_and (thn (ha pins s σ H _ I h) fun v s1 ⟨x,H1,I1,r1,q1⟩=>?_)
 obtain ⟨c,rfl,q1⟩ := q1
 cases r1
 refine wpAny_truthy_bool ?_
 cases c with
 | true=>exact hb pins s1 σ H1 Q I1 q1
 | false=>exact ⟨.bl false,H1,I1,rfl,q1⟩
theorem pe_not (ha : PE X a ta) : PE X (.UnaryOp .Not a pos) (tNotV ta) := by
 intro pins s σ H Q I h
 refine UnaryOp_ (thn (ha pins s σ H _ I h) fun v s1 ⟨x,H1,I1,r1,q1⟩=>?_)
 obtain ⟨c,rfl,q1⟩ := q1
 cases r1
 exact not_of (wpAny_truthy_bool ⟨.bl (!c),H1,I1,rfl,q1⟩)
end
def SqL (K : PySem.W.Frag) (H : Hp) (a : Addr) (xs : List V) : Prop :=
 Rd H a (.lst xs) ∨
   ∃ (o : Obj) (its : Array Value) (n : Nat),K.lookup a = some o∧o.cls = .type "list" ∧ o.dict = none∧o.data = .seq its n∧its.size≤sizeLine∧Vals xs its.toList
def SqT (K : PySem.W.Frag) (H : Hp) (a : Addr) (xs : List V) : Prop :=
 H a = some (.tup xs) ∨
   ∃ (o : Obj) (its : Array Value) (n : Nat),K.lookup a = some o∧o.cls = .type "tuple" ∧ o.data = .seq its n∧its.size≤sizeLine∧Vals xs its.toList∧∀ i : Int,V.int i∉xs
noncomputable def absV : Value→Option V
 | .none=>some .non
 | .bool b=>some (.bl b)
 | .int i _=>some (.int i)
 | .str x _=>some (.str x)
 | .bytes b _=>some (.byt b)
 | .float b _=>some (.flt b)
 | .ref a=>some (.ref a)
 | .type n=>some (.ty n)
 | _=>none
theorem RelV.abs {x : V} {u : Value} (r : RelV x u) : absV u = some x := by
 cases x with
 | non=>cases r;rfl
 | bl _=>cases r;rfl
 | int _=>obtain ⟨t,rfl⟩ := r;rfl
 | str _=>obtain ⟨t,rfl⟩ := r;rfl
 | byt _=>obtain ⟨t,rfl⟩ := r;rfl
 | flt _=>obtain ⟨t,rfl⟩ := r;rfl
 | ref _=>cases r;rfl
 | ty _=>cases r;rfl
theorem RelV.inj {x y : V} {u : Value} (r : RelV x u) (q : RelV y u) : x = y := Option.some.inj (r.abs.symm.trans q.abs)
theorem Vals.inj : ∀ {xs ys : List V} {us : List Value},Vals xs us→Vals ys us→xs = ys
 | _,_,_,.nil,.nil=>rfl
 | _,_,_,.cons r t,.cons r' t'=>by rw [r.inj r',Vals.inj t t']
section
variable {X : Cx} {pins : List (Addr×Obj)} {σ : St} {H : Hp} {s : Shared} {a : Addr} {xs ys : List V}
theorem SqL.of {K : PySem.W.Frag} (h : H a = some (.lst xs)) : SqL K H a xs := .inl (.inl h)
theorem Inv.list (I : Inv X pins σ H s) (h : SqL X.K H a xs) : ∃ its : List Value,Vals xs its∧PlainL s.heap a its.toArray∧xs.length≤sizeLine := by
 rcases h with h | ⟨o,its,n,hk,hc,hd,hs,hz,r⟩
 · obtain ⟨z,its,n,r,e⟩ := h.ok I.hok
   exact ⟨its,r,⟨_,n,e,rfl,rfl,rfl⟩,z⟩
 · refine ⟨its.toList,r,⟨o,n,I.kIn a o hk,hc,hd,by simpa using hs⟩,?_⟩
   have e := r.length
   simp only [Array.length_toList] at e
   lia
theorem Inv.tuple (I : Inv X pins σ H s) (h : SqT X.K H a xs) : ∃ its : List Value,Vals xs its∧IsTup s.heap a its.toArray∧xs.length≤sizeLine := by
 rcases h with h | ⟨o,its,n,hk,hc,hs,hz,r,_⟩
 · obtain ⟨z,its,r,p⟩ := (Rd.of h).ok I.hok
   exact ⟨its,r,p,z⟩
 · refine ⟨its.toList,r,⟨o,I.kIn a o hk,hc,n,by simpa using hs⟩,?_⟩
   have e := r.length
   simp only [Array.length_toList] at e
   lia
theorem Inv.list_inj (I : Inv X pins σ H s) (h : SqL X.K H a xs) (h' : SqL X.K H a ys) : xs = ys := by
 obtain ⟨its,r,⟨o,n,e,_,_,d⟩,_⟩ := I.list h
 obtain ⟨its',r',⟨o',n',e',_,_,d'⟩,_⟩ := I.list h'
 rw [e] at e';cases e'
 rw [d] at d'
 injection d' with d1 _
 have : its = its' := by simpa using congrArg Array.toList d1
 subst this
 exact r.inj r'
theorem Inv.tuple_inj (I : Inv X pins σ H s) (h : SqT X.K H a xs) (h' : SqT X.K H a ys) : xs = ys := by
 obtain ⟨its,r,⟨o,e,_,n,d⟩,_⟩ := I.tuple h
 obtain ⟨its',r',⟨o',e',_,n',d'⟩,_⟩ := I.tuple h'
 rw [e] at e';cases e'
 rw [d] at d'
 injection d' with d1 _
 have : its = its' := by simpa using congrArg Array.toList d1
 subst this
 exact r.inj r'
end
noncomputable abbrev Cx.wish (X : Cx) (E : Value→Shared→Prop) : Cx := { X with xe := E }
noncomputable abbrev Cx.nox (X : Cx) : Cx := X.wish fun _ _=>False
theorem Cx.Ok.wish {X : Cx} (ok : X.Ok) (E : Value→Shared→Prop) : (X.wish E).Ok :=
 ⟨ok.mod,ok.kind,ok.glob,ok.blt,ok.above,ok.inj,ok.has,ok.cab,ok.hd,ok.frames,ok.stk,ok.exf,ok.bs,ok.bsz,ok.noex,ok.exfs,ok.funs,ok.frf⟩
theorem Cx.Ok.unwish {X : Cx} {E : Value→Shared→Prop} (ok : (X.wish E).Ok) : X.Ok :=
 ⟨ok.mod,ok.kind,ok.glob,ok.blt,ok.above,ok.inj,ok.has,ok.cab,ok.hd,ok.frames,ok.stk,ok.exf,ok.bs,ok.bsz,ok.noex,ok.exfs,ok.funs,ok.frf⟩
section
variable {X : Cx} {pins : List (Addr×Obj)} {σ : St} {H : Hp} {s : Shared} {E : Value→Shared→Prop}
theorem Inv.wish (I : Inv X pins σ H s) (E : Value→Shared→Prop) : Inv (X.wish E) pins σ H s := ⟨I.ok.wish E,I.os,I.bare,I.base,I.loc,I.cell,I.free,I.freeC,I.pin,I.hok,I.len⟩
theorem Inv.unwish (I : Inv (X.wish E) pins σ H s) : Inv X pins σ H s := ⟨I.ok.unwish,I.os,I.bare,I.base,I.loc,I.cell,I.free,I.freeC,I.pin,I.hok,I.len⟩
theorem SP.unwish {D : Ends} {f : Flow} {s' : Shared} (h : SP (X.wish E) pins D f s') : SP X pins D f s' := by
 cases f with
 | next=>obtain ⟨σ',H',I,q⟩ := h;exact ⟨σ',H',I.unwish,q⟩
 | brk=>obtain ⟨σ',H',I,q⟩ := h;exact ⟨σ',H',I.unwish,q⟩
 | cont=>obtain ⟨σ',H',I,q⟩ := h;exact ⟨σ',H',I.unwish,q⟩
 | ret u=>obtain ⟨v,σ',H',I,r,q⟩ := h;exact ⟨v,σ',H',I.unwish,r,q⟩
theorem PSs.nox {st : List Stmt} {t : TS} (h : PSs X.nox st t) : PSs X st t := fun pins s σ H D I hw =>
 wpAny_mono (h pins s σ H D (I.wish _) hw) (fun _ _ q=>q.unwish) fun _ _ z=>False.elim z
end
section
variable {X : Cx} {st : Stmt} {rest : List Stmt} {t u : TS} {e : Expr} {te : TE} {pos : Pos}
def tNext : TS := fun D σ H=>D.nx σ H
def tSeq (t u : TS) : TS := fun D σ H=>t { D with nx := u D } σ H
theorem pss_nil : PSs X [] tNext := fun _ _ σ H _ I h=>wpAny_execs_nil ⟨σ,H,I,h⟩
theorem pss_cons (h1 : PS X st t) (h2 : PSs X rest u) : PSs X (st :: rest) (tSeq t u) := by
 intro pins s σ H D I h
 refine wpAny_execs_cons (thn (h1 pins s σ H { D with nx := u D } I h) fun f s1 q=>?_)
 cases f with
 | next =>
   obtain ⟨σ',H',I',q⟩ := q
   exact h2 pins s1 σ' H' D I' q
 | ret v=>exact q
 | brk=>exact q
 | cont=>exact q
theorem pss_one (h1 : PS X st t) : PSs X [st] t := by
 intro pins s σ H D I h
 refine wpAny_execs_cons (thn (h1 pins s σ H D I h) fun f s1 q=>?_)
 cases f with
 | next=>exact wpAny_execs_nil q
 | ret v=>exact q
 | brk=>exact q
 | cont=>exact q
def tCont : TS := fun D σ H=>D.ct σ H
theorem ps_continue : PS X (.Continue pos) tCont := fun _ _ σ H _ I h=>wpAny_Continue ⟨σ,H,I,h⟩
theorem Inv.quiet {pins : List (Addr×Obj)} {σ : St} {H : Hp} {s : Shared} (I : Inv X pins σ H s) : interactive X.env = false := by simp [interactive,I.ok.kind]
def tDrop (te : TE) : TS := fun D σ H=>te σ H fun _ H1=>D.nx σ H1
theorem ps_expr (he : PE X e te) (hs : swapsWith e none pos.line X.env = pure false := by rfl) : PS X (.Expr e pos) (tDrop te) := by
 intro pins s σ H D I h
 exact wpAny_Expr_any (thn (he pins s σ H _ I h) fun v s1 ⟨x,H1,I1,r1,q1⟩=>⟨σ,H1,I1,q1⟩) I.quiet hs
def tRet (te : TE) : TS := fun D σ H=>te σ H D.rt
theorem ps_ret (he : PE X e te) : PS X (.Return (some e) pos) (tRet te) := by
 intro pins s σ H D I h
 exact wpAny_Return_some (thn (he pins s σ H _ I h) fun v s1 ⟨x,H1,I1,r1,q1⟩=>⟨x,σ,H1,I1,r1,q1⟩)
def tIfS (c : TT) (t u : TS) : TS := fun D σ H=>c σ H fun b H1=>if b = true then t D σ H1 else u D σ H1
theorem ps_if {c : Expr} {a b : List Stmt} {tc : TT} (hc : PT X c tc) (ha : PSs X a t) (hb : PSs X b u) : PS X (.If c a b pos) (tIfS tc t u) := by
 intro pins s σ H D I h
 refine wpAny_If (thn (hc pins s σ H _ I h) fun d s1 ⟨H1,I1,q1⟩=>?_)
 cases d with
 | true=>exact ha pins s1 σ H1 D I1 q1
 | false=>exact hb pins s1 σ H1 D I1 q1
end
abbrev TG := V→St→Hp→(St→Hp→Prop)→Prop
abbrev TGs := List V→St→Hp→(St→Hp→Prop)→Prop
def PG (X : Cx) (target : Expr) (t : TG) : Prop :=
 ∀ (pins : List (Addr×Obj)) (s : Shared) (σ : St) (H : Hp) (v : V) (u : Value) (Q : St→Hp→Prop),Inv X pins σ H s→RelV v u→t v σ H Q →
   wpAny (model X.prog X.w) X.A (assign target X.env u) (fun _ s'=>∃ σ' H',Inv X pins σ' H' s'∧Q σ' H') X.xe s
def PGs (X : Cx) (ts : List Expr) (t : TGs) : Prop :=
 ∀ (pins : List (Addr×Obj)) (s : Shared) (σ : St) (H : Hp) (vs : List V) (us : List Value) (Q : St→Hp→Prop),Inv X pins σ H s→Vals vs us→t vs σ H Q →
   wpAny (model X.prog X.w) X.A (assignInOrder ((assignEach ts X.env).map (·.2)) us) (fun _ s'=>∃ σ' H',Inv X pins σ' H' s'∧Q σ' H') X.xe s
abbrev TIp := V→V→Hp→VK→Prop
def PIp (X : Cx) (op : Operator) (t : TIp) : Prop :=
 ∀ (pins : List (Addr×Obj)) (s : Shared) (σ : St) (H : Hp) (x y : V) (v u : Value) (Q : VK),Inv X pins σ H s→RelV x v→RelV y u→t x y H Q →
   wpAny (model X.prog X.w) X.A (inplaceOp op v u) (EP X pins σ Q) X.xe s
section
variable {X : Cx} {pos : Pos}
def gName (i : Nat) : TG := fun v σ H Q=>Q (σ.set i (some v)) H
theorem pg_name {i : Nat} {x : Str} (hN : X.N.Nodup) (hi : X.N[i]? = some x) (hx : Loc X.env.scope x) (hf : X.fn x = true∨X.env.scope.names.lookup x = some .local := by first | exact .inl rfl | exact .inr rfl | assumption) : PG X (.Name x pos) (gName i) := by
 intro pins s σ H v u Q I r h
 exact wpAny_assign_Name (store_ok I hN hi hx r (fun s' I'=>⟨_,H,I',h⟩) hf)
def gNil : TGs := fun vs σ H Q=>vs = []∧Q σ H
def gCons (t : TG) (u : TGs) : TGs := fun vs σ H Q=>∃ v r,vs = v :: r∧t v σ H fun σ' H'=>u r σ' H' Q
theorem pgs_nil : PGs X [] gNil := by
 intro pins s σ H vs us Q I r h
 obtain ⟨e,h⟩ := h
 subst e
 cases r
 exact assignInOrder_nil ⟨σ,H,I,h⟩
theorem pgs_cons {e : Expr} {es : List Expr} {t : TG} {u : TGs} (h1 : PG X e t) (h2 : PGs X es u)
   (hs : (assignEach (e :: es) X.env).map (·.2) = assign e X.env :: (assignEach es X.env).map (·.2) := by rfl) : PGs X (e :: es) (gCons t u) := by
 intro pins s σ H vs us Q I r h
 obtain ⟨v,vr,e1,h⟩ := h
 subst e1
 cases r with
 | cons r rr =>
   rw [hs]
   refine assignInOrder_cons (thn (h1 pins s σ H _ _ _ I r h) fun _ s1 ⟨σ1,H1,I1,q1⟩=>?_)
   exact h2 pins s1 σ1 H1 _ _ Q I1 rr q1
def gTup (K : PySem.W.Frag) (n : Nat) (t : TGs) : TG := fun v σ H Q=>∃ a xs,v = .ref a∧SqT K H a xs∧xs.length = n∧t xs σ H Q
theorem pg_tup {es : List Expr} {k : Nat} {t : TGs} {n : Nat} (hc : X.calm = true) (h : PGs X es t)
   (hn : (assignEach es X.env).length = n := by rfl) (hst : (assignEach es X.env).findIdx? (·.1) = none := by rfl) : PG X (.Tuple es k pos) (gTup X.K n t) := by
 intro pins s σ H v u Q I r hw
 obtain ⟨a,xs,e1,hq,hl,hw⟩ := hw
 subst e1
 cases r
 obtain ⟨its,rv,ht,hz⟩ := I.tuple hq
 refine assign_Tuple_tuple (I.ok.hd hc) ht (by simp [hn,← hl,rv.length]) hst fun h' hx=>?_
 have I1 : Inv X pins σ H { s with heap := h' } := I.kept (t' := s.toks) fun b o e=>hx b o (Nat.ne_of_lt (Heap.lt_size e)) e
 exact h pins _ σ H xs _ Q I1 (by simpa using rv) hw
def tAsg (te : TE) (g : TG) : TS := fun D σ H=>te σ H fun x H1=>g x σ H1 D.nx
theorem ps_asg {tg e : Expr} {te : TE} {g : TG} (he : PE X e te) (hg : PG X tg g) (hs : swapsWithSole [tg] e pos.line X.env = pure false := by rfl) (hw : swappedStores [tg] e X.env = pure none := by rfl)
   (h1 : (assignEach [tg] X.env).map (·.2) = [assign tg X.env] := by rfl) : PS X (.Assign [tg] e pos) (tAsg te g) := by
 intro pins s σ H D I h
 refine wpAny_Assign_stores (thn (he pins s σ H _ I h) fun v s1 ⟨x,H1,I1,r1,q1⟩=>?_) hs hw
 rw [h1]
 exact thn (hg pins s1 σ H1 x v _ I1 r1 q1) fun _ s2 q=>q
theorem ps_set {i : Nat} {x : Str} {e : Expr} {te : TE} {pos' : Pos} (hN : X.N.Nodup) (hi : X.N[i]? = some x) (hx : Loc X.env.scope x) (he : PE X e te) (hs : swapsWith e (some (.Name x pos')) pos.line X.env = pure false := by rfl) (hf : X.fn x = true∨X.env.scope.names.lookup x = some .local := by first | exact .inl rfl | exact .inr rfl | assumption) :
   PS X (.Assign [.Name x pos'] e pos) (tAsg te (gName i)) := by
 intro pins s σ H D I h
 refine wpAny_Assign_Name (thn (he pins s σ H _ I h) fun v s1 ⟨y,H1,I1,r1,q1⟩=>?_) hs
 exact store_ok I1 hN hi hx r1 (fun s2 I2=>⟨_,H1,I2,q1⟩) hf
def tAug (i : Nat) (te : TE) (ti : TIp) : TS := fun D σ H=>∃ x,σ[i]? = some (some x)∧te σ H fun y H1=>ti x y H1 fun z H2=>D.nx (σ.set i (some z)) H2
theorem ps_aug {i : Nat} {x : Str} {e : Expr} {te : TE} {op : Operator} {ti : TIp} {pos' : Pos} (hN : X.N.Nodup) (hi : X.N[i]? = some x) (hx : Loc X.env.scope x) (he : PE X e te) (ho : PIp X op ti) (hf : X.fn x = true∨X.env.scope.names.lookup x = some .local := by first | exact .inl rfl | exact .inr rfl | assumption) :
   PS X (.AugAssign (.Name x pos') op e pos) (tAug i te ti) := by
 intro pins s σ H D I h
 obtain ⟨v,e1,h⟩ := h
 obtain ⟨m,hn,hl⟩ := I.loc
 have vis : Vis X.env.scope x := by rcases hx with k | k;exact .inl k;exact .inr (.inl k)
 obtain ⟨u,r,l⟩ := hl i x v hi e1 vis
 refine wpAny_AugAssign_Name ?_
 have go : wpAny (model X.prog X.w) X.A (eval e X.env) (fun w s₂=>wpAny (model X.prog X.w) X.A (inplaceOp op u w) (fun r s₃=>wpAny (model X.prog X.w) X.A (storeName X.env x r) (fun _=>SP X pins D .next) X.xe s₃) X.xe s₂) X.xe s := by
   refine thn (he pins s σ H _ I h) fun w s1 ⟨y,H1,I1,r1,q1⟩=>?_
   refine thn (ho pins s1 σ H1 v y u w _ I1 r r1 q1) fun z s2 ⟨zv,H2,I2,r2,q2⟩=>?_
   exact store_ok I2 hN hi hx r2 (fun s3 I3=>⟨_,H2,I3,q2⟩) hf
 rcases l with ⟨hk,hm⟩ | ⟨hk,c,hc,hcell⟩
 · exact wpAny_loadName_local I.ok.kind hk hn hm go
 · rcases hk with hk | hk
   · exact wpAny_loadName_cell I.ok.kind hk hc hcell go
   · rcases hx with k | k
     · have : X.env.scope.names.lookup x = some .free := hk
       rw [k] at this;cases this
     · have : X.env.scope.names.lookup x = some .free := hk
       rw [k] at this;cases this
def ipI (f : Int→Int→Int) : TIp := fun x y H Q=>∃ i j,x = .int i∧y = .int j∧Q (.int (f i j)) H
theorem ip_add : PIp X .Add (ipI fun i j=>i + j) := by
 intro pins s σ H x y v u Q I r1 r2 h
 obtain ⟨i,j,e1,e2,q⟩ := h
 subst e1;subst e2
 obtain ⟨t,rfl⟩ := r1
 obtain ⟨t',rfl⟩ := r2
 exact iadd_int ⟨.int _,H,I.tok _,⟨_,rfl⟩,q⟩
end
section
variable {X : Cx} {pos : Pos}
def tWhile (c : TT) (tb : TS) : TS := fun D σ H=>∃ W : Nat→St→Hp→Prop,(∃ m,W m σ H)∧∀ m σ H,W m σ H →
 c σ H fun b H1=>if b = true then ∃ N : St→Hp→Prop,(∀ σ' H',N σ' H'→∃ m',m' < m∧W m' σ' H')∧tb { D with nx := N,ct := N,bk := D.nx } σ H1 else D.nx σ H1
theorem ps_while {c : Expr} {body : List Stmt} {tc : TT} {tb : TS} (hp : PassesOwn (model X.prog X.w) X.A X.env X.xe) (hc : PT X c tc) (hb : PSs X body tb) : PS X (.While c body [] pos) (tWhile tc tb) := by
 intro pins s σ H D I h
 obtain ⟨W,⟨m0,w0⟩,turn⟩ := h
 refine wpAny_While (codeAny_whileLoop (fun n s'=>∃ σ' H',Inv X pins σ' H' s'∧W n σ' H') ?_ m0 ⟨σ,H,I,w0⟩)
 rintro n s1 ⟨σ1,H1,I1,w1⟩
 refine wpAny_passesOwn hp (thn (hc pins s1 σ1 H1 _ I1 (turn n σ1 H1 w1)) fun b s2 ⟨H2,I2,q2⟩=>?_)
 cases b with
 | true =>
   obtain ⟨N,hN,q2⟩ := q2
   rw [if_pos rfl]
   refine wpAny_passesOwn hp (thn (hb pins s2 σ1 H2 _ I2 q2) fun f s3 q3=>?_)
   cases f with
   | next =>
     obtain ⟨σ3,H3,I3,n3⟩ := q3
     obtain ⟨m',hm,w3⟩ := hN σ3 H3 n3
     exact ⟨m',hm,σ3,H3,I3,w3⟩
   | cont =>
     obtain ⟨σ3,H3,I3,n3⟩ := q3
     obtain ⟨m',hm,w3⟩ := hN σ3 H3 n3
     exact ⟨m',hm,σ3,H3,I3,w3⟩
   | brk=>exact q3
   | ret v=>exact q3
 | false =>
   rw [if_neg Bool.false_ne_true]
   exact wpAny_execs_nil ⟨σ1,H2,I2,q2⟩
end
structure It where
 go : Nat→Hp→Prop
 yld : Nat→Hp→V→Hp→Prop
 stop : Nat→Hp→Prop
def FpOk (X : Cx) (pins : List (Addr×Obj)) (H : Hp) (b : Addr) : Prop :=
 H b = none∧b≠X.env.locals∧b∉X.fs∧(b∈X.ex∨X.s₀.heap.objs.size≤b)∧(∀ x c,X.env.cells.lookup x = some c→c≠b)∧∀ p∈X.pn ++ pins,p.1≠b
theorem Inv.fpOk {X : Cx} {pins : List (Addr×Obj)} {σ : St} {H H' : Hp} {s : Shared} {b : Addr} (I : Inv X pins σ H s) (hb : s.heap.objs.size≤b) (hn : H' b = none) : FpOk X pins H' b := by
 refine ⟨hn,Nat.ne_of_gt (Nat.lt_of_lt_of_le I.lt hb),I.nofs hb,.inr (Nat.le_trans I.sz hb),fun x c e z=>?_,fun p hp z=>?_⟩
 · obtain ⟨v,q⟩ := I.cell x c e
   exact absurd (Nat.lt_of_lt_of_le q.lt (by rw [z];exact hb)) (Nat.lt_irrefl _)
 · exact absurd (Nat.lt_of_lt_of_le (Heap.lt_size (I.pin p hp).1) (by rw [z];exact hb)) (Nat.lt_irrefl _)
structure Turn (P : Program) (w : World) (K : PySem.W.Frag) (tg : Expr) (J : It) (fp : List Addr) (it : Addr) (tn : Nat→Heap→Prop) : Prop where
 mem : it∈fp
 obj : ∀ i h,tn i h→∀ b∈fp,∃ o,h.get? b = some o∧∀ v,o.data≠.cell v
 keep : ∀ i h h',tn i h→(∀ b∈fp,∀ o,h.get? b = some o→h'.get? b = some o)→tn i h'
 item : ∀ (X : Cx),X.prog = P→X.w = w→X.K = K→X.calm = true→∀ (i : Nat) (pins : List (Addr×Obj)) (s : Shared) (σ : St) (H : Hp) (E : Value→Shared→Prop),Inv X pins σ H s→(∀ b∈fp,FpOk X pins H b)→tn i s.heap→J.go i H →
   wpAny (model P w) X.A (pyNext (.ref it)) (fun r s1=>∃ u,r = some u ∧
     wpAny (model P w) X.A (letOwnedTupleGo tg (.ref it) u) (fun _ s2=>∃ x H',Inv X pins σ H' s2∧RelV x u∧J.yld i H x H'∧tn (i + 1) s2.heap∧∀ b∈fp,H' b = none) E s1) E s
 done : ∀ (X : Cx),X.prog = P→X.w = w→X.K = K→X.calm = true→∀ (i : Nat) (pins : List (Addr×Obj)) (s : Shared) (σ : St) (H : Hp) (E : Value→Shared→Prop),Inv X pins σ H s→(∀ b∈fp,FpOk X pins H b)→tn i s.heap→J.stop i H →
   wpAny (model P w) X.A (pyNext (.ref it)) (fun r s1=>r = none∧Inv X pins σ H s1) E s
 self : ∀ (A : Around) (i : Nat) (s : Shared) (Q : Value→Shared→Prop) (E : Value→Shared→Prop),tn i s.heap→Q (.ref it) s→wpAny (model P w) A (pyIter (.ref it)) Q E s
abbrev TI := St→Hp→(It→Hp→Prop)→Prop
def PIE (X : Cx) (pins : List (Addr×Obj)) (σ : St) (tg : Expr) (R : It→Hp→Prop) (itv : Value) (s2 : Shared) : Prop :=
 ∃ (it : Addr) (fp : List Addr) (tn : Nat→Heap→Prop) (J : It) (H' : Hp),itv = .ref it∧Inv X pins σ H' s2∧Turn X.prog X.w X.K tg J fp it tn∧tn 0 s2.heap∧(∀ b∈fp,FpOk X pins H' b)∧R J H'
def PI (X : Cx) (tg iter : Expr) (wi : TI) : Prop :=
 ∀ (pins : List (Addr×Obj)) (s : Shared) (σ : St) (H : Hp) (R : It→Hp→Prop),Inv X pins σ H s→wi σ H R →
   wpAny (model X.prog X.w) X.A (eval iter X.env) (fun v s1=>wpAny (model X.prog X.w) X.A (pyIter v) (PIE X pins σ tg R) X.xe s1) X.xe s
theorem go_of {M : Model} {A : Around} {E : Value→Shared→Prop} {s : Shared} {tg : Expr} {it : Addr} {u : Value} {o : Obj} {n : String} {vs : Array Value} {Q : Unit→Shared→Prop} (ho : s.heap.get? it = some o) (hc : o.cls = .type n) (hd : o.data = .fields vs)
   (hn : ["enumerate", "zip", "dict_itemiterator", "dict_reverseitemiterator", "odict_iterator", "itertools.zip_longest", "itertools.pairwise"].contains n = false) (hQ : Q () s) : wpAny M A (letOwnedTupleGo tg (.ref it) u) Q E s := by
 unfold letOwnedTupleGo
 cases tg <;> first
   | exact wpAny_pure hQ
   | (cases u <;> first
       | exact wpAny_pure hQ
       | (refine wpAny_bind (wpAny_load ho ?_)
          rw [hc,hd]
          show wpAny M A (if (["enumerate", "zip", "dict_itemiterator", "dict_reverseitemiterator", "odict_iterator", "itertools.zip_longest", "itertools.pairwise"].contains n && vs[0]? == some (rawInt _)) = true then _ else _) Q E s
          rw [if_neg (by intro h;rw [hn,Bool.false_and] at h;cases h)]
          exact wpAny_pure hQ))
noncomputable def Itl (K : PySem.W.Frag) (a : Addr) : It :=
 ⟨fun i H=>∃ xs x,SqL K H a xs∧xs[i]? = some x,fun i H x H'=>H' = H∧∀ xs,SqL K H a xs→xs[i]? = some x,fun i H=>∃ xs,SqL K H a xs∧xs.length≤i⟩
noncomputable def Itt (K : PySem.W.Frag) (a : Addr) : It :=
 ⟨fun i H=>∃ xs x,SqT K H a xs∧xs[i]? = some x,fun i H x H'=>H' = H∧∀ xs,SqT K H a xs→xs[i]? = some x,fun i H=>∃ xs,SqT K H a xs∧xs.length≤i⟩
noncomputable def Itr (lo : Int) (n : Nat) : It := ⟨fun i _=>i < n,fun i H x H'=>H' = H∧x = .int (lo + i),fun i _=>n≤i⟩
theorem turn_list {P : Program} {w : World} {K : PySem.W.Frag} {tg : Expr} (a it : Addr) : Turn P w K tg (Itl K a) [it] it (fun i h=>h.IsListIter it a i) where
 mem := by simp
 obj := fun i h st b hb=>by
   have e : b = it := by simpa using hb
   subst e
   obtain ⟨o,e,c,d⟩ := st
   exact ⟨o,e,fun v z=>by rw [d] at z;cases z⟩
 keep := fun i h h' st k=>st.at fun o e=>k it (by simp) o e
 item := by
   intro X hP hw hK hc i pins s σ H E I hf st hg
   subst hP hw hK
   obtain ⟨xs,x,hq,hx⟩ := hg
   obtain ⟨its,rv,p,hz⟩ := I.list hq
   obtain ⟨u,hu,ru⟩ := rv.get hx
   obtain ⟨f0,f1,f2,f3,f4,f5⟩ := hf it (by simp)
   refine wpAny_pyNext_list_item st p.isList (x:=u) (by simpa using hu) fun h' st' sb=>?_
   have I1 : Inv X pins σ H { s with heap := h' } := I.turned (t' := s.toks) (fun b o hb e=>(sb.2 b hb).trans e) f0 f1 f3 f4 f5
   obtain ⟨o,e,c,d⟩ := id st'
   exact ⟨u,rfl,go_of (s:={ s with heap := h' }) e c d (by decide) ⟨x,H,I1,ru,⟨rfl,fun ys hy=>by rw [I.list_inj hy hq];exact hx⟩,st',fun b hb=>(hf b hb).1⟩⟩
 done := by
   intro X hP hw hK hc i pins s σ H E I hf st hg
   subst hP hw hK
   obtain ⟨xs,hq,hx⟩ := hg
   obtain ⟨its,rv,p,hz⟩ := I.list hq
   obtain ⟨f0,f1,f2,f3,f4,f5⟩ := hf it (by simp)
   have hl := rv.length
   exact wpAny_pyNext_list_end (I.ok.hd hc) st p.isList (by simp;lia) fun h' eb=>⟨rfl,I.turned (t' := s.toks) (fun b o hb e=>eb b o hb e) f0 f1 f3 f4 f5⟩
 self := fun _ _ _ _ _ st h=>wpAny_pyIter_listiter st h
theorem turn_tuple {P : Program} {w : World} {K : PySem.W.Frag} {tg : Expr} (a it : Addr) : Turn P w K tg (Itt K a) [it] it (fun i h=>h.IsTupleIter it a i) where
 mem := by simp
 obj := fun i h st b hb=>by
   have e : b = it := by simpa using hb
   subst e
   obtain ⟨o,e,c,d⟩ := st
   exact ⟨o,e,fun v z=>by rw [d] at z;cases z⟩
 keep := fun i h h' st k=>st.at fun o e=>k it (by simp) o e
 item := by
   intro X hP hw hK hc i pins s σ H E I hf st hg
   subst hP hw hK
   obtain ⟨xs,x,hq,hx⟩ := hg
   obtain ⟨its,rv,p,hz⟩ := I.tuple hq
   obtain ⟨u,hu,ru⟩ := rv.get hx
   obtain ⟨f0,f1,f2,f3,f4,f5⟩ := hf it (by simp)
   refine wpAny_pyNext_tuple_item st (show s.heap.IsTuple a its.toArray from p) (x:=u) (by simpa using hu) fun h' st' sb=>?_
   have I1 : Inv X pins σ H { s with heap := h' } := I.turned (t' := s.toks) (fun b o hb e=>(sb.2 b hb).trans e) f0 f1 f3 f4 f5
   obtain ⟨o,e,c,d⟩ := id st'
   exact ⟨u,rfl,go_of (s:={ s with heap := h' }) e c d (by decide) ⟨x,H,I1,ru,⟨rfl,fun ys hy=>by rw [I.tuple_inj hy hq];exact hx⟩,st',fun b hb=>(hf b hb).1⟩⟩
 done := by
   intro X hP hw hK hc i pins s σ H E I hf st hg
   subst hP hw hK
   obtain ⟨xs,hq,hx⟩ := hg
   obtain ⟨its,rv,p,hz⟩ := I.tuple hq
   obtain ⟨f0,f1,f2,f3,f4,f5⟩ := hf it (by simp)
   have hl := rv.length
   exact wpAny_pyNext_tuple_end (I.ok.hd hc) st (show s.heap.IsTuple a its.toArray from p) (by simp;lia) fun h' eb=>⟨rfl,I.turned (t' := s.toks) (fun b o hb e=>eb b o hb e) f0 f1 f3 f4 f5⟩
 self := fun _ _ _ _ _ st h=>wpAny_pyIter_tupleiter st h
theorem turn_range {P : Program} {w : World} {K : PySem.W.Frag} {tg : Expr} (it : Addr) (lo : Int) (n : Nat) : Turn P w K tg (Itr lo n) [it] it (fun i h=>IsRangeIter h it (lo + (i : Nat) * 1) ((n : Int) - (i : Nat)) 1) where
 mem := by simp
 obj := fun i h st b hb=>by
   have e : b = it := by simpa using hb
   subst e
   exact ⟨_,st,fun v z=>by
     have z' : Data.fields _ = Data.cell v := z
     cases z'⟩
 keep := fun i h h' st k=>k it (by simp) _ st
 item := by
   intro X hP hw hK hc i pins s σ H E I hf st hg
   subst hP hw hK
   obtain ⟨f0,f1,f2,f3,f4,f5⟩ := hf it (by simp)
   have W := Walks.range (prog:=X.prog) (w:=X.w) (I.ok.hd hc) it lo 1 n
   refine W.item i s _ _ hg st fun v h' tk hv st' kk=>?_
   obtain ⟨t,rfl⟩ := hv
   have I1 : Inv X pins σ H { s with heap := h',toks := tk } := I.turned (fun b o hb e=>kk b o (by simpa using hb) e) f0 f1 f3 f4 f5
   refine ⟨_,rfl,go_of (s:={ s with heap := h',toks := tk }) (n:="range_iterator") st' rfl rfl (by decide) ⟨.int (lo + i),H,I1,⟨t,?_⟩,⟨rfl,rfl⟩,st',fun b hb=>(hf b hb).1⟩⟩
   rw [Int.mul_one]
 done := by
   intro X hP hw hK hc i pins s σ H E I hf st hg
   subst hP hw hK
   obtain ⟨f0,f1,f2,f3,f4,f5⟩ := hf it (by simp)
   exact wpAny_pyNext_range_end (I.ok.hd hc) st (by have : n≤i := hg;lia) fun h' eb=>⟨rfl,I.turned (t' := s.toks) (fun b o hb e=>eb b o hb e) f0 f1 f3 f4 f5⟩
 self := fun _ _ _ _ _ st h=>wpAny_pyIter_rangeiter st h
section
variable {X : Cx} {tg : Expr}
def iList (K : PySem.W.Frag) (tl : TE) : TI := fun σ H R=>tl σ H fun x H1=>∃ a,x = .ref a∧(∃ xs,SqL K H1 a xs)∧R (Itl K a) H1
def iTup (K : PySem.W.Frag) (tl : TE) : TI := fun σ H R=>tl σ H fun x H1=>∃ a,x = .ref a∧(∃ xs,SqT K H1 a xs)∧R (Itt K a) H1
theorem pi_list {l : Expr} {tl : TE} (hl : PE X l tl) : PI X tg l (iList X.K tl) := by
 intro pins s σ H R I h
 refine thn (hl pins s σ H _ I h) fun v s1 ⟨x,H1,I1,r1,q1⟩=>?_
 obtain ⟨a,e,⟨xs,hq⟩,q⟩ := q1
 subst e
 cases r1
 obtain ⟨its,rv,p,hz⟩ := I1.list hq
 refine wpAny_pyIter_list p.isList ?_
 refine ⟨s1.heap.objs.size,[s1.heap.objs.size],_,_,H1,rfl,I1.kept (t' := s1.toks) fun b o e=>Heap.get?_push_of_some _ e,turn_list a _,⟨_,Heap.get?_push_size _ rfl,rfl,rfl⟩,fun b hb=>?_,q⟩
 have e : b = s1.heap.objs.size := by simpa using hb
 subst e
 exact I1.fpOk (Nat.le_refl _) (I1.hok.fresh (Nat.le_refl _))
theorem pi_tup {l : Expr} {tl : TE} (hl : PE X l tl) : PI X tg l (iTup X.K tl) := by
 intro pins s σ H R I h
 refine thn (hl pins s σ H _ I h) fun v s1 ⟨x,H1,I1,r1,q1⟩=>?_
 obtain ⟨a,e,⟨xs,hq⟩,q⟩ := q1
 subst e
 cases r1
 obtain ⟨its,rv,p,hz⟩ := I1.tuple hq
 refine wpAny_pyIter_tuple (show s1.heap.IsTuple a its.toArray from p) ?_
 refine ⟨s1.heap.objs.size,[s1.heap.objs.size],_,_,H1,rfl,I1.kept (t' := s1.toks) fun b o e=>Heap.get?_push_of_some _ e,turn_tuple a _,⟨_,Heap.get?_push_size _ rfl,rfl,rfl⟩,fun b hb=>?_,q⟩
 have e : b = s1.heap.objs.size := by simpa using hb
 subst e
 exact I1.fpOk (Nat.le_refl _) (I1.hok.fresh (Nat.le_refl _))
theorem range_it {pins : List (Addr×Obj)} {σ : St} {H : Hp} {s : Shared} {R : It→Hp→Prop} {E : Value→Shared→Prop} {lo hi : Int} {t u v : Tok} {tk : Nat} (I : Inv X pins σ H s) (h1 : -(2 ^ 62)≤lo) (h2 : lo < 2 ^ 62) (h3 : -(2 ^ 62)≤hi) (h4 : hi < 2 ^ 62)
   (q : R (Itr lo (hi - lo).toNat) H) : wpAny (model X.prog X.w) X.A (pyIter (.ref s.heap.objs.size)) (PIE X pins σ tg R) E { s with heap := s.heap.push { cls := .type "range",data := .fields #[.int lo t,.int hi u,.int 1 v] },toks := tk } := by
 refine wpAny_pyIter_range (IsRange.new ..) (small_one h1 h2 h3 h4) ?_
 have I1 : Inv X pins σ H { s with heap := s.heap.push { cls := .type "range",data := .fields #[.int lo t,.int hi u,.int 1 v] },toks := tk } := I.kept fun b o e=>Heap.get?_push_of_some _ e
 refine ⟨(s.heap.push { cls := .type "range",data := .fields #[.int lo t,.int hi u,.int 1 v] }).objs.size,[(s.heap.push { cls := .type "range",data := .fields #[.int lo t,.int hi u,.int 1 v] }).objs.size],_,_,H,rfl,
   I1.kept (t' := tk) fun b o e=>Heap.get?_push_of_some _ e,turn_range _ lo (hi - lo).toNat,?_,fun b hb=>?_,q⟩
 · have e1 : lo + ((0 : Nat) : Int) * 1 = lo := by simp
   have e2 : (((hi - lo).toNat : Nat) : Int) - ((0 : Nat) : Int) = Builtin.Range.rangeSize lo hi 1 := by rw [rangeSize_one];split <;> lia
   show IsRangeIter _ _ (lo + ((0 : Nat) : Int) * 1) ((((hi - lo).toNat : Nat) : Int) - ((0 : Nat) : Int)) 1
   rw [e1,e2]
   exact Heap.get?_push_size _ rfl
 · have e : b = (s.heap.push { cls := .type "range",data := .fields #[.int lo t,.int hi u,.int 1 v] }).objs.size := by simpa using hb
   subst e
   exact I1.fpOk (Nat.le_refl _) (I1.hok.fresh (Nat.le_refl _))
def iRng1 (ta : TA) : TI := fun σ H R=>ta σ H fun vs H1=>∃ j : Int,vs = [.int j]∧-(2 ^ 62)≤j∧j < 2 ^ 62∧R (Itr 0 j.toNat) H1
theorem pi_range1 {a : Expr} {ta : TA} {p pos : Pos} (hg : Gl X "range") (hm : X.mg "range" = none) (ha : PA X [a] ta) (hs : starEach [a] X.env = [(false,eval a X.env)] := by rfl) : PI X tg (.Call (.Name "range" p) [a] [] pos) (iRng1 ta) := by
 intro pins s σ H R I h
 refine Call_ (ld_blt I hg hm boot_range (PyProof.Rows.callWith_type1 (thn (ha pos pins s σ H _ I h) fun us s1 ⟨vs,H1,I1,r1,q1⟩=>?_) hs rfl))
 obtain ⟨j,e,q1,q2,q⟩ := q1
 subst e
 cases r1 with
 | cons r rr =>
   cases rr
   obtain ⟨t,rfl⟩ := r
   exact call_range_1 (range_it I1 (by lia) (by lia) q1 q2 (by simpa using q))
def tFor (wi : TI) (g : TG) (tb : TS) : TS := fun D σ H=>wi σ H fun J H1=>∃ W : Nat→Nat→St→Hp→Prop,(∃ m,W 0 m σ H1)∧∀ i m σ H,W i m σ H →
 (J.stop i H∧D.nx σ H)∨(J.go i H∧∃ N : St→Hp→Prop,(∀ σ' H',N σ' H'→∃ m',m' < m∧W (i + 1) m' σ' H')∧∀ x H',J.yld i H x H'→g x σ H' fun σ2 H2=>tb { D with nx := N,ct := N,bk := D.nx } σ2 H2)
noncomputable def pinsAt (fp : List Addr) (h : Heap) : List (Addr×Obj) := fp.filterMap fun b=>(h.get? b).map fun o=>(b,o)
theorem mem_pinsAt {fp : List Addr} {h : Heap} {b : Addr} {o : Obj} (hb : b∈fp) (e : h.get? b = some o) : (b,o)∈pinsAt fp h := List.mem_filterMap.mpr ⟨b,hb,by rw [e];rfl⟩
theorem of_pinsAt {fp : List Addr} {h : Heap} {p : Addr×Obj} (hp : p∈pinsAt fp h) : p.1∈fp∧h.get? p.1 = some p.2 := by
 obtain ⟨b,hb,e⟩ := List.mem_filterMap.mp hp
 cases q : h.get? b with
 | none=>rw [q] at e;cases e
 | some o =>
   rw [q] at e
   have e' : (b,o) = p := Option.some.inj e
   subst e'
   exact ⟨hb,q⟩
theorem Inv.pinned {pins : List (Addr×Obj)} {σ : St} {H : Hp} {s : Shared} {fp : List Addr} (I : Inv X pins σ H s) (hf : ∀ b∈fp,FpOk X pins H b) (ho : ∀ b∈fp,∃ o,s.heap.get? b = some o∧∀ v,o.data≠.cell v) : Inv X (pins ++ pinsAt fp s.heap) σ H s :=
 I.pins_of fun p hp=>(List.mem_append.mp hp).elim (fun z=>I.pin p (List.mem_append_right _ z)) fun z=>by
   obtain ⟨hb,e⟩ := of_pinsAt z
   obtain ⟨f0,f1,f2,_⟩ := hf p.1 hb
   obtain ⟨o,e',d⟩ := ho p.1 hb
   rw [e] at e';cases e'
   exact ⟨e,f0,f1,f2,d⟩
theorem Inv.unpinned {pins pl : List (Addr×Obj)} {σ : St} {H : Hp} {s : Shared} (I : Inv X (pins ++ pl) σ H s) : Inv X pins σ H s := I.pins_of fun p hp=>I.pin p (List.mem_append_right _ (List.mem_append_left _ hp))
theorem ps_for {iter : Expr} {body : List Stmt} {wi : TI} {g : TG} {tb : TS} {pos : Pos} (hp : PassesOwn (model X.prog X.w) X.A X.env X.xe) (hc : X.calm = true) (hi : PI X tg iter wi) (hg : PG X tg g) (hb : PSs X body tb)
   (hs : ∀ x,foldedSetIterable iter X.env x = pure x := by intro _;rfl) : PS X (.For tg iter body [] pos) (tFor wi g tb) := by
 intro pins s σ H D I h
 refine wpAny_For (thn (hi pins s σ H _ I h) fun v s1 h1=>thn h1 fun itv s2 h2=>?_) hs
 obtain ⟨it,fp,tn,J,H2,e,I2,T,st2,f2,W,⟨m0,w0⟩,turn⟩ := h2
 subst e
 -- what stays true of the iterator's objects through the loop
 have stat : ∀ {H' : Hp},(∀ b∈fp,H' b = none)→∀ b∈fp,FpOk X pins H' b := fun hn b hb=>⟨hn b hb,(f2 b hb).2⟩
 refine codeAny_forLoop_any (fun n s'=>∃ i σ' H',Inv X pins σ' H' s'∧tn i s'.heap∧(∀ b∈fp,H' b = none)∧W i n σ' H') ?_ m0 ⟨0,σ,H2,I2,st2,fun b hb=>(f2 b hb).1,w0⟩
 rintro n s3 ⟨i,σ3,H3,I3,st3,fr3,w3⟩
 rcases turn i n σ3 H3 w3 with ⟨stop,qn⟩ | ⟨go,N,hN,step⟩
 · refine wpAny_passesOwn hp (thn (T.done X rfl rfl rfl hc i pins s3 σ3 H3 X.xe I3 (stat fr3) st3 stop) fun r s4 ⟨hr,I4⟩=>?_)
   subst hr
   exact wpAny_execs_nil ⟨σ3,H3,I4,qn⟩
 · refine wpAny_passesOwn hp (thn (T.item X rfl rfl rfl hc i pins s3 σ3 H3 X.xe I3 (stat fr3) st3 go) fun r s4 ⟨u,hr,h4⟩=>?_)
   subst hr
   refine wpAny_passesOwn hp (thn h4 fun _ s5 ⟨x,H5,I5,r5,y5,st5,fr5⟩=>?_)
   have I5' := I5.pinned (stat fr5) (T.obj _ _ st5)
   refine wpAny_passesOwn hp (thn (hg _ s5 σ3 H5 x u _ I5' r5 (step x H5 y5)) fun _ s6 ⟨σ6,H6,I6,q6⟩=>?_)
   refine wpAny_passesOwn hp (thn (hb _ s6 σ6 H6 _ I6 q6) fun f s7 q7=>?_)
   have again : ∀ {σ7 : St} {H7 : Hp},Inv X (pins ++ pinsAt fp s5.heap) σ7 H7 s7→N σ7 H7→∃ m,m < n∧∃ i σ' H',Inv X pins σ' H' s7∧tn i s7.heap∧(∀ b∈fp,H' b = none)∧W i m σ' H' := fun {σ7 H7} I7 n7=>by
     obtain ⟨m',hm,w7⟩ := hN σ7 H7 n7
     refine ⟨m',hm,i + 1,σ7,H7,I7.unpinned,T.keep _ _ _ st5 fun b hb o e=>(I7.pin (b,o) (List.mem_append_right _ (List.mem_append_right _ (mem_pinsAt hb e)))).1,fun b hb=>?_,w7⟩
     obtain ⟨o,e,d⟩ := T.obj _ _ st5 b hb
     exact (I7.pin (b,o) (List.mem_append_right _ (List.mem_append_right _ (mem_pinsAt hb e)))).2.1
   cases f with
   | next=>obtain ⟨σ7,H7,I7,n7⟩ := q7;exact again I7 n7
   | cont=>obtain ⟨σ7,H7,I7,n7⟩ := q7;exact again I7 n7
   | brk=>obtain ⟨σ7,H7,I7,q7⟩ := q7;exact ⟨σ7,H7,I7.unpinned,q7⟩
   | ret v=>obtain ⟨x7,σ7,H7,I7,r7,q7⟩ := q7;exact ⟨x7,σ7,H7,I7.unpinned,r7,q7⟩
end
abbrev R2 := V→V→Hp→VK→Prop
def OpR (X : Cx) (f : Value→Value→Sem Value) (r : R2) : Prop :=
 ∀ (pins : List (Addr×Obj)) (s : Shared) (σ : St) (H : Hp) (x y : V) (v u : Value) (Q : VK),Inv X pins σ H s→RelV x v→RelV y u→r x y H Q →
   wpAny (model X.prog X.w) X.A (f v u) (EP X pins σ Q) X.xe s
def UnR (X : Cx) (f : Value→Sem Value) (r : V→Hp→VK→Prop) : Prop :=
 ∀ (pins : List (Addr×Obj)) (s : Shared) (σ : St) (H : Hp) (x : V) (v : Value) (Q : VK),Inv X pins σ H s→RelV x v→r x H Q →
   wpAny (model X.prog X.w) X.A (f v) (EP X pins σ Q) X.xe s
def CallR (X : Cx) (f : Value) (r : List V→Hp→VK→Prop) : Prop :=
 ∀ (pins : List (Addr×Obj)) (s : Shared) (σ : St) (H : Hp) (xs : List V) (us : List Value) (Q : VK),Inv X pins σ H s→Vals xs us→r xs H Q →
   wpAny (model X.prog X.w) X.A (call f us) (EP X pins σ Q) X.xe s
def TruR (X : Cx) (r : V→Hp→(Bool→Hp→Prop)→Prop) : Prop :=
 ∀ (pins : List (Addr×Obj)) (s : Shared) (σ : St) (H : Hp) (x : V) (v : Value) (Q : Bool→Hp→Prop),Inv X pins σ H s→RelV x v→r x H Q →
   wpAny (model X.prog X.w) X.A (truthy v) (TP X pins σ Q) X.xe s
def tOp (r : R2) (ta tb : TE) : TE := fun σ H Q=>ta σ H fun x H1=>tb σ H1 fun y H2=>r x y H2 Q
def tUn (r : V→Hp→VK→Prop) (ta : TE) : TE := fun σ H Q=>ta σ H fun x H1=>r x H1 Q
def rI (C : Int→Int→Prop) (g : Int→Int→V) : R2 := fun x y H Q=>∃ i j,x = .int i∧y = .int j∧C i j∧Q (g i j) H
def rI0 (g : Int→Int→V) : R2 := fun x y H Q=>∃ i j,x = .int i∧y = .int j∧Q (g i j) H
def rU (g : Int→V) : V→Hp→VK→Prop := fun x H Q=>∃ i,x = .int i∧Q (g i) H
section
variable {X : Cx} {a b c : Expr} {ta tb tc : TE} {pos : Pos}
theorem binT (ha : PE X a ta) (hb : PE X b tb) {pins : List (Addr×Obj)} {s : Shared} {σ : St} {H : Hp} {R : V→V→Hp→Prop} (I : Inv X pins σ H s)
   (h : ta σ H fun x H1=>tb σ H1 fun y H2=>R x y H2) {Q : Value→Shared→Prop} {f : Value→Value→Sem Value}
   (hf : ∀ v u s2 x y H2,Inv X pins σ H2 s2→RelV x v→RelV y u→R x y H2→wpAny (model X.prog X.w) X.A (f v u) Q X.xe s2) :
   wpAny (model X.prog X.w) X.A (eval a X.env) (fun v s₁=>wpAny (model X.prog X.w) X.A (eval b X.env) (fun u s₂=>wpAny (model X.prog X.w) X.A (f v u) Q X.xe s₂) X.xe s₁) X.xe s := by
 refine thn (ha pins s σ H _ I h) fun v s1 ⟨x,H1,I1,r1,q1⟩=>?_
 refine thn (hb pins s1 σ H1 _ I1 q1) fun u s2 ⟨y,H2,I2,r2,q2⟩=>?_
 exact hf v u s2 x y H2 I2 r1 r2 q2
theorem pe_op {op : Operator} {r : R2} (ho : OpR X (binaryOp op) r) (ha : PE X a ta) (hb : PE X b tb) : PE X (.BinOp a op b pos) (tOp r ta tb) := by
 intro pins s σ H Q I h
 exact wpAny_BinOp (binT ha hb I h fun v u s2 x y H2 I2 rx ry q=>ho pins s2 σ H2 x y v u Q I2 rx ry q)
theorem pe_un {op : UnaryOp} {r : V→Hp→VK→Prop} (ho : UnR X (unaryOp op) r) (ha : PE X a ta) : PE X (.UnaryOp op a pos) (tUn r ta) := by
 intro pins s σ H Q I h
 exact UnaryOp_ (thn (ha pins s σ H _ I h) fun v s1 ⟨x,H1,I1,r1,q1⟩=>ho pins s1 σ H1 x v Q I1 r1 q1)
theorem opI {f : Value→Value→Sem Value} {C : Int→Int→Prop} {g : Int→Int→Int}
   (rule : ∀ (i j : Int) (t u : Tok) (s : Shared) (Q : Value→Shared→Prop) (E : Value→Shared→Prop),C i j→Q (.int (g i j) s.toks) { s with toks := s.toks + 1 }→wpAny (model X.prog X.w) X.A (f (.int i t) (.int j u)) Q E s) :
   OpR X f (rI C fun i j=>.int (g i j)) := by
 intro pins s σ H x y v u Q I rx ry h
 obtain ⟨i,j,rfl,rfl,hc,q⟩ := h
 obtain ⟨t,rfl⟩ := rx
 obtain ⟨t',rfl⟩ := ry
 exact rule i j t t' s _ _ hc ⟨.int (g i j),H,I.tok _,⟨_,rfl⟩,q⟩
theorem opI0 {f : Value→Value→Sem Value} {g : Int→Int→Int}
   (rule : ∀ (i j : Int) (t u : Tok) (s : Shared) (Q : Value→Shared→Prop) (E : Value→Shared→Prop),Q (.int (g i j) s.toks) { s with toks := s.toks + 1 }→wpAny (model X.prog X.w) X.A (f (.int i t) (.int j u)) Q E s) :
   OpR X f (rI0 fun i j=>.int (g i j)) := by
 intro pins s σ H x y v u Q I rx ry h
 obtain ⟨i,j,rfl,rfl,q⟩ := h
 obtain ⟨t,rfl⟩ := rx
 obtain ⟨t',rfl⟩ := ry
 exact rule i j t t' s _ _ ⟨.int (g i j),H,I.tok _,⟨_,rfl⟩,q⟩
theorem opB0 {f : Value→Value→Sem Value} {g : Int→Int→Bool}
   (rule : ∀ (i j : Int) (t u : Tok) (s : Shared) (Q : Value→Shared→Prop) (E : Value→Shared→Prop),Q (.bool (g i j)) s→wpAny (model X.prog X.w) X.A (f (.int i t) (.int j u)) Q E s) :
   OpR X f (rI0 fun i j=>.bl (g i j)) := by
 intro pins s σ H x y v u Q I rx ry h
 obtain ⟨i,j,rfl,rfl,q⟩ := h
 obtain ⟨t,rfl⟩ := rx
 obtain ⟨t',rfl⟩ := ry
 exact rule i j t t' s _ _ ⟨.bl (g i j),H,I,rfl,q⟩
def CDiv (i j : Int) : Prop := 0 < j∧j < 1073741824
def CPow (i j : Int) : Prop := 0≤j∧j≤1000000∧i.natAbs < 2 ^ 64
def CMul (i j : Int) : Prop := (-(2 ^ 64) < i∧i < 2 ^ 64)∨(-(2 ^ 64) < j∧j < 2 ^ 64)
theorem CMul.ok {i j : Int} (h : CMul i j) : IntMulOk i j := by
 rcases h with ⟨h1,h2⟩ | ⟨h1,h2⟩
 · exact .of_left (intBits_le_64 h1 h2)
 · exact .of_right (intBits_le_64 h1 h2)
theorem two_pow_nn (k : Nat) : (0 : Int)≤2 ^ k := by
 rw [two_pow_cast]
 exact Int.natCast_nonneg _
theorem op_add : OpR X (binaryOp .Add) (rI0 fun i j=>.int (i + j)) := opI0 fun _ _ _ _ _ _ _ q=>add_int q
theorem op_sub : OpR X (binaryOp .Sub) (rI0 fun i j=>.int (i - j)) := opI0 fun _ _ _ _ _ _ _ q=>sub_int q
theorem op_mul : OpR X (binaryOp .Mult) (rI CMul fun i j=>.int (i * j)) := opI fun _ _ _ _ _ _ _ hc q=>mul_int q hc.ok
theorem op_fdiv : OpR X (binaryOp .FloorDiv) (rI CDiv fun i j=>.int (i / j)) := opI fun i j _ _ _ _ _ hc q=>by
 have h1 : (0 : Int) < j := hc.1
 have h2 : j < 1073741824 := hc.2
 exact floordiv_int (by lia) (by rw [Int.fdiv_eq_ediv_of_nonneg i (by lia)];exact q) (.inl (PyProof.noPylong_small (by lia)))
theorem op_mod : OpR X (binaryOp .Mod) (rI (fun _ j=>0 < j) fun i j=>.int (i % j)) := opI fun i j _ _ _ _ _ hc q=>by
 have h1 : (0 : Int) < j := hc
 exact mod_int' (by lia) (by rw [Int.fmod_eq_emod_of_nonneg i (by lia)];exact q)
theorem op_shl : OpR X (binaryOp .LShift) (rI CPow fun i j=>.int (i * 2 ^ j.toNat)) := opI fun _ _ _ _ _ _ _ hc q=>lshift_int_small hc.1 hc.2.1 hc.2.2 q
theorem op_shr : OpR X (binaryOp .RShift) (rI (fun _ j=>0≤j) fun i j=>.int (i / 2 ^ j.toNat)) := opI fun i j _ _ _ _ _ hc q =>
 rshift_int hc (by rw [Int.fdiv_eq_ediv_of_nonneg i (two_pow_nn _)];exact q)
theorem op_and : OpR X (binaryOp .BitAnd) (rI0 fun i j=>.int (Builtin.bitAnd i j)) := opI0 fun _ _ _ _ _ _ _ q=>and_int q
theorem op_or : OpR X (binaryOp .BitOr) (rI0 fun i j=>.int (Builtin.bitOr i j)) := opI0 fun _ _ _ _ _ _ _ q=>or_int q
theorem op_xor : OpR X (binaryOp .BitXor) (rI0 fun i j=>.int (Builtin.bitXor i j)) := opI0 fun _ _ _ _ _ _ _ q=>xor_int q
theorem unI {f : Value→Sem Value} {g : Int→Int}
   (rule : ∀ (i : Int) (t : Tok) (s : Shared) (Q : Value→Shared→Prop) (E : Value→Shared→Prop),Q (.int (g i) s.toks) { s with toks := s.toks + 1 }→wpAny (model X.prog X.w) X.A (f (.int i t)) Q E s) :
   UnR X f (rU fun i=>.int (g i)) := by
 intro pins s σ H x v Q I rx h
 obtain ⟨i,rfl,q⟩ := h
 obtain ⟨t,rfl⟩ := rx
 exact rule i t s _ _ ⟨.int (g i),H,I.tok _,⟨_,rfl⟩,q⟩
theorem un_inv : UnR X (unaryOp .Invert) (rU fun i=>.int (Builtin.bitNot i)) := unI fun _ _ _ _ _ q=>invert_int q
end
section
variable {X : Cx} {a b c : Expr} {ta tb tc : TE} {pos : Pos}
theorem fin_bl {pins : List (Addr×Obj)} {σ : St} {H : Hp} {s : Shared} {Q : VK} {k k' : Bool} (I : Inv X pins σ H s) (q : Q (.bl k) H) (e : k = k') : EP X pins σ Q (.bool k') s := by
 subst e
 exact ⟨.bl k,H,I,rfl,q⟩
theorem op_lt : OpR X (compareOp .Lt) (rI0 fun i j=>.bl (decide (i < j))) := opB0 fun _ _ _ _ _ _ _ q=>lt_int q
theorem op_gt : OpR X (compareOp .Gt) (rI0 fun i j=>.bl (decide (j < i))) := opB0 fun _ _ _ _ _ _ _ q=>gt_int q
theorem op_ge : OpR X (compareOp .GtE) (rI0 fun i j=>.bl (decide (j≤i))) := opB0 fun _ _ _ _ _ _ _ q=>ge_int q
theorem op_in_str : OpR X (compareOp .In) (fun x y H Q=>∃ i j,x = .str i∧y = .str j∧Q (.bl (!(Builtin.Str.occurrences j i 0 j.length 1).isEmpty)) H) := by
 intro pins s σ H x y v u Q I rx ry h
 obtain ⟨i,j,rfl,rfl,q⟩ := h
 obtain ⟨t,rfl⟩ := rx
 obtain ⟨t',rfl⟩ := ry
 exact in_str (fin_bl I q rfl)
theorem op_notN : OpR X (compareOp .IsNot) (fun x y H Q=>y = .non∧Q (.bl (!decide (x = .non))) H) := by
 intro pins s σ H x y v u Q I rx ry h
 obtain ⟨rfl,q⟩ := h
 cases ry
 refine isnot_none_gen (fin_bl I q ?_)
 cases x <;> first
   | (cases rx;rfl)
   | (obtain ⟨t,rfl⟩ := rx;rfl)
theorem nomark (b : Expr) {op : CmpOp} (h : op≠.In := by decide) (h2 : op≠.NotIn := by decide) : behindInMarks op b = false := by
 have e1 : (op == CmpOp.In) = false := by cases op <;> first | rfl | exact absurd rfl h
 have e2 : (op == CmpOp.NotIn) = false := by cases op <;> first | rfl | exact absurd rfl h2
 cases b <;> simp [behindInMarks,e1,e2]
theorem pe_cmpR {op : CmpOp} {r : R2} (ho : OpR X (compareOp op) r) (ha : PE X a ta) (hb : PE X b tb) (hm : behindInMarks op b = false) : PE X (.Compare a [op] [b] pos) (tOp r ta tb) := by
 intro pins s σ H Q I h
 exact wpAny_Compare1 (binT ha hb I h fun v u s2 x y H2 I2 rx ry q=>ho pins s2 σ H2 x y v u Q I2 rx ry q) hm
def tTest (t : TE) : TT := fun σ H Q=>t σ H fun x H'=>∃ k,x = .bl k∧Q k H'
theorem pt_cmpR {op : CmpOp} {r : R2} (ho : OpR X (compareOp op) r) (ha : PE X a ta) (hb : PE X b tb) (hm : behindInMarks op b = false) : PT X (.Compare a [op] [b] pos) (tTest (tOp r ta tb)) := by
 intro pins s σ H Q I h
 refine wpAny_isTrue_Compare1 (thn (ha pins s σ H _ I h) fun v s1 ⟨x,H1,I1,r1,q1⟩=>thn (hb pins s1 σ H1 _ I1 q1) fun u s2 ⟨y,H2,I2,r2,q2⟩ =>
   thn (ho pins s2 σ H2 x y v u _ I2 r1 r2 q2) fun c s3 ⟨z,H3,I3,r3,k,e,q3⟩=>?_) hm
 subst e
 cases r3
 exact wpAny_truthy_bool ⟨H3,I3,q3⟩
def TruV (K : PySem.W.Frag) (x : V) (H : Hp) (k : Bool) : Prop :=
 match x with
 | .non=>k = false
 | .bl b=>k = b
 | .int i=>k = (i != 0)
 | .str y=>y.length≤sizeLine∧k = ((y.length : Int) != 0)
 | .byt y=>y.size≤sizeLine∧k = ((y.size : Int) != 0)
 | .ref p=>(∃ xs,SqL K H p xs∧k = !xs.isEmpty)∨(∃ xs,SqT K H p xs∧k = !xs.isEmpty)∨∃ kvs,H p = some (.dK kvs)∧k = !kvs.isEmpty
 | _=>False
theorem isEmpty_kv {κ : Type} {kvs : List (κ×V)} {vs : List (κ×Value)} (r : KV kvs vs) : (!vs.isEmpty) = !kvs.isEmpty := by
 cases r <;> rfl
theorem isEmpty_of {xs : List V} {its : List Value} (r : Vals xs its) : (!its.toArray.isEmpty) = !xs.isEmpty := by
 cases r <;> simp
theorem line63 : (sizeLine : Nat) < 2 ^ 63 := by rw [sizeLine_eq];decide
theorem tru_ok : TruR X (fun x H Q=>∃ k,TruV X.K x H k∧Q k H) := by
 intro pins s σ H x v Q I rx h
 obtain ⟨k,e,q⟩ := h
 have hl := line63
 have hs : sizeLine = 16777216 := sizeLine_eq
 cases x with
 | non =>
   cases rx
   have e' : k = false := e
   subst e'
   exact truthy_none ⟨H,I,q⟩
 | bl b =>
   cases rx
   have e' : k = b := e
   subst e'
   exact wpAny_truthy_bool ⟨H,I,q⟩
 | int i =>
   obtain ⟨t,rfl⟩ := rx
   have e' : k = (i != 0) := e
   subst e'
   exact PySem.P.truthy_int ⟨H,I,q⟩
 | str y =>
   obtain ⟨t,rfl⟩ := rx
   obtain ⟨hy,e'⟩ : y.length≤sizeLine∧k = ((y.length : Int) != 0) := e
   subst e'
   exact PySem.P.truthy_str (by lia) ⟨H,I.tok _,q⟩
 | byt y =>
   obtain ⟨t,rfl⟩ := rx
   obtain ⟨hy,e'⟩ : y.size≤sizeLine∧k = ((y.size : Int) != 0) := e
   subst e'
   exact PySem.W.truthy_bytes (by lia) ⟨H,I.tok _,q⟩
 | ref p =>
   cases rx
   have e' : (∃ xs,SqL X.K H p xs∧k = !xs.isEmpty)∨(∃ xs,SqT X.K H p xs∧k = !xs.isEmpty)∨∃ kvs,H p = some (.dK kvs)∧k = !kvs.isEmpty := e
   rcases e' with ⟨xs,hx,e'⟩ | ⟨xs,hx,e'⟩ | ⟨kvs,hx,e'⟩
   · subst e'
     obtain ⟨its,r,pl,hz⟩ := I.list hx
     have hlen := r.length
     exact wpAny_truthy_list pl.isList (by simp only [List.size_toArray];lia) ⟨H,I.tok _,by rw [isEmpty_of r];exact q⟩
   · subst e'
     obtain ⟨its,r,pl,hz⟩ := I.tuple hx
     have hlen := r.length
     exact truthy_tuple pl (by simp only [List.size_toArray];lia) ⟨H,I.tok _,by rw [isEmpty_of r];exact q⟩
   · subst e'
     obtain ⟨hz,hS,vs,r,m⟩ : kvs.length≤sizeLine∧(p == sysModules) = false∧∃ vs,KV kvs vs∧s.heap.DictOf (mixKind X.prog X.w) p vs := I.hok p _ hx
     have hlen : kvs.length = vs.length := Paired.length r
     exact wpAny_truthy_dict hS m (by lia) ⟨H,I.tok _,by rw [isEmpty_kv r];exact q⟩
 | _=>exact (show False from e).elim
theorem pt_truth (ha : PE X a ta) (he : ∀ whole,isTrue a X.env whole = (do let v ← whole;standAt a.pos;holding [v] (truthy v))) :
   PT X a (fun σ H Q=>ta σ H fun x H'=>∃ k,TruV X.K x H' k∧Q k H') := by
 intro pins s σ H Q I h
 exact isTrue_plain (thn (ha pins s σ H _ I h) fun v s1 ⟨x,H1,I1,r1,q1⟩=>tru_ok pins s1 σ H1 x v Q I1 r1 q1) (he _)
theorem op_add_str : OpR X (binaryOp .Add) (fun x y H Q=>∃ i j,x = .str i∧y = .str j∧i.length + j.length≤sizeLine∧Q (.str (i ++ j)) H) := by
 intro pins s σ H x y v u Q I rx ry h
 obtain ⟨i,j,rfl,rfl,hz,q⟩ := h
 obtain ⟨t,rfl⟩ := rx
 obtain ⟨t',rfl⟩ := ry
 exact add_str (fun t' tk=>⟨.str (i ++ j),H,I.tok _,⟨_,rfl⟩,q⟩) hz
theorem vals1 {x : V} {us : List Value} (r : Vals [x] us) : ∃ u,us = [u]∧RelV x u := by
 cases r with
 | cons r1 r2=>cases r2;exact ⟨_,rfl,r1⟩
theorem vals2 {x y : V} {us : List Value} (r : Vals [x,y] us) : ∃ u w',us = [u,w']∧RelV x u∧RelV y w' := by
 cases r with
 | cons r1 r2 =>
   cases r2 with
   | cons r3 r4=>cases r4;exact ⟨_,_,rfl,r1,r3⟩
theorem call_max2 (hc : X.calm = true) : CallR X (.builtin "max") (fun xs H Q=>∃ i j,xs = [.int i,.int j]∧Q (.int (if j > i then j else i)) H) := by
 intro pins s σ H xs us Q I r h
 obtain ⟨i,j,rfl,q⟩ := h
 obtain ⟨u,w',rfl,⟨t,rfl⟩,⟨t',rfl⟩⟩ := vals2 r
 refine max_two_ints (I.ok.hd hc) fun h' tk k=>⟨_,H,I.kept k,?_,q⟩
 by_cases hj : j > i
 · rw [if_pos hj,if_pos hj];exact ⟨_,rfl⟩
 · rw [if_neg hj,if_neg hj];exact ⟨_,rfl⟩
theorem call_min2 (hc : X.calm = true) : CallR X (.builtin "min") (fun xs H Q=>∃ i j,xs = [.int i,.int j]∧Q (.int (if j < i then j else i)) H) := by
 intro pins s σ H xs us Q I r h
 obtain ⟨i,j,rfl,q⟩ := h
 obtain ⟨u,w',rfl,⟨t,rfl⟩,⟨t',rfl⟩⟩ := vals2 r
 refine min_two_ints (I.ok.hd hc) fun h' tk k=>⟨_,H,I.kept k,?_,q⟩
 by_cases hj : j < i
 · rw [if_pos hj,if_pos hj];exact ⟨_,rfl⟩
 · rw [if_neg hj,if_neg hj];exact ⟨_,rfl⟩
theorem call_int1 : CallR X (.type "int") (fun xs H Q=>(∃ i,xs = [.int i]∧Q (.int i) H)∨∃ k,xs = [.bl k]∧Q (.int (if k then 1 else 0)) H) := by
 intro pins s σ H xs us Q I r h
 rcases h with ⟨i,rfl,q⟩ | ⟨k,rfl,q⟩
 · obtain ⟨u,rfl,t,rfl⟩ := vals1 r
   exact call_int_int ⟨.int i,H,I,⟨_,rfl⟩,q⟩
 · obtain ⟨u,rfl,r1⟩ := vals1 r
   cases r1
   exact call_int_bool ⟨.int (if k then 1 else 0),H,I.tok _,⟨_,rfl⟩,q⟩
end
structure ObjM (h : Heap) (x dx C : Addr) (mA : Str→Option Value) : Prop where
 obj : h.get? x = some (PySem.W.instObj C dx)
 ns : h.Ns1 dx mA
 ne : dx≠x
theorem lookIn_ns {h : Heap} {dx : Addr} {mA : Str→Option Value} (n : h.Ns1 dx mA) : ∃ od,h.get? dx = some od∧∀ name,PySem.W.lookIn name od = some (mA name) := by
 obtain ⟨o,es,ep,ho,hd,hk,_,hm⟩ := n
 refine ⟨o,ho,fun name=>?_⟩
 have e := hm name
 unfold nsFind findBy at e
 rw [← Array.find?_toList] at e
 unfold PySem.W.lookIn
 rw [hd]
 dsimp only
 split
 · rename_i y q
   rw [q] at e
   exact congrArg some e
 · rename_i q
   rw [q] at e
   have a : es.toList.any (·.refKey) = false := by
     rw [List.any_eq_false]
     intro y hy
     obtain ⟨z,t,hkey⟩ := hk y (Array.mem_toList_iff.mp hy)
     simp [DictEntry.refKey,hkey]
   have a' : ¬ es.toList.any (·.refKey) = true := by rw [a];exact Bool.false_ne_true
   rw [if_neg a']
   exact congrArg some e
theorem ObjM.look {h : Heap} {x dx C : Addr} {mA : Str→Option Value} (I : ObjM h x dx C mA) : ∃ od,PySem.W.InstAt h x (PySem.W.instObj C dx) C (some od)∧∀ name,PySem.W.lookIn name od = some (mA name) :=
 let ⟨od,ho,hl⟩ := lookIn_ns I.ns
 ⟨od,⟨I.obj,rfl,rfl,ho⟩,hl⟩
section
variable {prog : Program} {w : World} {A : Around} {E : Value→Shared→Prop} {s : Shared} {K : PySem.W.Frag} {x dx C f : Addr} {mA : Str→Option Value} {name : Str} {v : Value}
end
section
variable {P : Program} {w : World} {H H' : Hp} {h h' : Heap} {a C dx : Addr} {fs fs' : List (Str×V)}
theorem ins_get (hok : HOk P w H h) (e : H a = some (.ins C dx fs)) : ∃ mA,ObjM h a dx C mA∧(∀ f,RelO (fs.lookup f) (mA f))∧PySem.Within mA (fs.map (·.1))∧fs.length≤1000∧H dx = some (.own a) := by
 obtain ⟨d,z,ne,ob,mA,n,r,q⟩ := (show ObjOk P w H h a (.ins C dx fs) from hok a _ e)
 exact ⟨mA,⟨ob,n,ne⟩,r,q,z,d⟩
end
structure Cls (K : PySem.W.Frag) (C : Addr) : Prop where
 pg : PySem.W.plainGet K C Str.empty = true
 hd : PySem.W.hasDictIn K C = true
 po : PySem.W.plainOver K C = true
 sa : PySem.W.findIn K (.ref C) "__setattr__" = some (some (.builtin "object.__setattr__"))
theorem Cls.get {K : PySem.W.Frag} {C : Addr} (c : Cls K C) (f : Str) : PySem.W.plainGet K C f = true := c.pg
section
variable {X : Cx} {pins : List (Addr×Obj)} {σ : St} {H : Hp} {s : Shared} {a C dx : Addr} {fs : List (Str×V)} {f : Str} {v : V} {A : Around} {E : Value→Shared→Prop}
end
section
variable {X : Cx} {o e value : Expr} {f : Str} {pos pos' tpos : Pos} {ta tv : TE}
end
section
variable {X : Cx} {pins : List (Addr×Obj)} {σ : St} {H : Hp} {s : Shared} {A : Around} {E : Value→Shared→Prop} {Q : Value→Shared→Prop} {c : Value} {b : Bool}
inductive TyOf (K : PySem.W.Frag) (H : Hp) : V→Value→Prop where
 | non : TyOf K H .non (.type "NoneType")
 | bl (x : Bool) : TyOf K H (.bl x) (.type "bool")
 | int (i : Int) : TyOf K H (.int i) (.type "int")
 | str (x : Str) : TyOf K H (.str x) (.type "str")
 | flt (x : UInt64) : TyOf K H (.flt x) (.type "float")
 | lst {a : Addr} {xs : List V} (e : H a = some (.lst xs)) : TyOf K H (.ref a) (.type "list")
 | frz {a : Addr} {o : Obj} {xs : List V} (e : H a = some (.frz o (.lst xs))) : TyOf K H (.ref a) (.type "list")
 | tup {a : Addr} {xs : List V} (e : H a = some (.tup xs)) : TyOf K H (.ref a) (.type "tuple")
 | dK {a : Addr} {kvs : List (Key×V)} (e : H a = some (.dK kvs)) : TyOf K H (.ref a) (.type "dict")
 | dT {a : Addr} {kvs : List (List Key×V)} (e : H a = some (.dT kvs)) : TyOf K H (.ref a) (.type "dict")
 | ins {a C dx : Addr} {fs : List (Str×V)} (e : H a = some (.ins C dx fs)) (cl : Cls K C) (ha : PySem.W.findIn K (.ref C) "__class__" = some (some (.builtin "object.__class__")))
     (hn : PySem.W.specialIn K (.builtin "object.__class__") "__get__" = some (some (.builtin "getset_descriptor.__get__"))) (htk : PySem.W.takesIn K (.builtin "object.__class__") = some true)
     (hm : PySem.W.mroIn K C (.type "object") = some true) : TyOf K H (.ref a) (.ref C)
theorem isinst_ok {x : V} {u t : Value} (I : Inv X pins σ H s) (rx : RelV x u) (ty : TyOf X.K H x t) (e : PySem.W.kitOne X.K t c = some b) (h : ∀ tk,Q (.bool b) { s with toks := tk }) :
   wpAny (model X.prog X.w) A (call (.builtin "isinstance") [u,c]) Q E s := by
 cases ty with
 | non=>cases (show u = Value.none from rx);exact PySem.W.kia_one PySem.W.kitx_none I.kIn True.intro e (fun z=>nomatch z) h
 | bl y=>cases (show u = Value.bool y from rx);exact PySem.W.kia_one PySem.W.kitx_bool I.kIn True.intro e (fun z=>nomatch z) h
 | int i=>obtain ⟨t,q⟩ := (show ∃ t,u = Value.int i t from rx);cases q;exact PySem.W.kia_one PySem.W.kitx_int I.kIn True.intro e (fun z=>nomatch z) h
 | str y=>obtain ⟨t,q⟩ := (show ∃ t,u = Value.str y t from rx);cases q;exact PySem.W.kia_one PySem.W.kitx_str I.kIn True.intro e (fun z=>nomatch z) h
 | flt y=>obtain ⟨t,q⟩ := (show ∃ t,u = Value.float y t from rx);cases q;exact PySem.W.kia_one PySem.W.kitx_float I.kIn True.intro e (fun z=>nomatch z) h
 | @lst a xs ea =>
   cases (show u = Value.ref a from rx)
   obtain ⟨_,_,n,_,h1⟩ := (show ObjOk X.prog X.w H s.heap a (.lst xs) from I.hok a _ ea)
   exact PySem.W.kia_one PySem.W.kitx_list I.kIn ⟨_,h1,rfl⟩ e (fun z=>nomatch z) h
 | @frz a ob xs ea =>
   cases (show u = Value.ref a from rx)
   obtain ⟨_,_,_,n,_,h1⟩ := (show ObjOk X.prog X.w H s.heap a (.frz ob (.lst xs)) from I.hok a _ ea)
   exact PySem.W.kia_one PySem.W.kitx_list I.kIn ⟨_,h1,rfl⟩ e (fun z=>nomatch z) h
 | @tup a xs ea =>
   cases (show u = Value.ref a from rx)
   obtain ⟨_,_,_,p⟩ := (show ObjOk X.prog X.w H s.heap a (.tup xs) from I.hok a _ ea)
   obtain ⟨o,h1,h2,_⟩ := p
   exact PySem.W.kia_one PySem.W.kitx_tuple I.kIn ⟨o,h1,h2⟩ e (fun z=>nomatch z) h
 | @dK a kvs ea =>
   cases (show u = Value.ref a from rx)
   obtain ⟨_,_,vs,_,p⟩ := (show ObjOk X.prog X.w H s.heap a (.dK kvs) from I.hok a _ ea)
   obtain ⟨o,es,ep,h1,h2,_⟩ := p
   exact PySem.W.kia_one PySem.W.kitx_dict I.kIn ⟨o,h1,h2.1⟩ e (fun z=>nomatch z) h
 | @dT a kvs ea =>
   cases (show u = Value.ref a from rx)
   obtain ⟨_,_,xs,_,o,es,ep,h1,h2,_⟩ := (show ObjOk X.prog X.w H s.heap a (.dT kvs) from I.hok a _ ea)
   exact PySem.W.kia_one PySem.W.kitx_dict I.kIn ⟨o,h1,h2.1⟩ e (fun z=>nomatch z) h
 | @ins a C dx fs ea cl ha hn htk hm =>
   cases (show u = Value.ref a from rx)
   obtain ⟨mA,O,_⟩ := ins_get I.hok ea
   obtain ⟨od,J,_⟩ := O.look
   exact PySem.W.kia_one (PySem.W.kitx_own (cl.get _) cl.hd ha hn htk hm) I.kIn J e (fun z=>nomatch z) h
end
structure Room (k : Nat) (A : Around) : Prop where
 hd : A.handled = none
 dp : A.depth + 3 * k + 5 < recursionLimit
 un : A.units + 16 * k + 200 < cLine
 gd : A.guards = some []
theorem Room.mono {j k : Nat} {A : Around} (r : Room k A) (h : j≤k) : Room j A := ⟨r.hd,by have := r.dp;lia,by have := r.un;lia,r.gd⟩
theorem Room.deeper {k : Nat} {A : Around} (r : Room (k + 1) A) (env : Env) : Room k (A.deeper env) :=
 ⟨r.hd,by have := r.dp;show A.depth + 1 + 3 * k + 5 < _;lia,by have := r.un;show A.units + 3 + 16 * k + 200 < _;lia,r.gd⟩
theorem make_depth {A : Around} {C : Addr} {us : List Value} {kw : List (Str×Value)} : (A.under (.builtin "type.__call__" ⟨.ref C :: us,kw⟩)).depth = A.depth + 1 := by
 first | rfl | simp [Around.under,Code.weight,Code.isCreation,Code.isGuard,Code.isCaller,Code.frames,Code.isFrame,guardIds]
theorem make_units {A : Around} {C : Addr} {us : List Value} {kw : List (Str×Value)} : (A.under (.builtin "type.__call__" ⟨.ref C :: us,kw⟩)).units = A.units + 1 := by
 first | rfl | simp [Around.under,Code.cUnits,Code.frames,Code.isFrame]
theorem Room.make {k : Nat} {A : Around} (r : Room (k + 1) A) (C : Addr) (us : List Value) (kw : List (Str×Value)) : Room k (A.under (.builtin "type.__call__" ⟨.ref C :: us,kw⟩)) :=
 ⟨r.hd,by have := r.dp;rw [make_depth];lia,by have := r.un;rw [make_units];lia,r.gd⟩
theorem Room.depth {k : Nat} {A : Around} (r : Room k A) : A.depth < recursionLimit := by have := r.dp;lia
theorem Room.units {k : Nat} {A : Around} (r : Room k A) : A.units + 64 < cLine := by have := r.un;lia
def tNil : TA := fun _ H Q=>Q [] H
def tCons (ta : TE) (tr : TA) : TA := fun σ H Q=>ta σ H fun x H1=>tr σ H1 fun xs H2=>Q (x :: xs) H2
section
variable {X : Cx} {e : Expr} {es : List Expr} {te : TE} {t : TA} {pos : Pos}
theorem pa_nil : PA X [] tNil := fun _ _ _ _ H Q I h=>Calls.spliced_nil ⟨[],H,I,.nil,h⟩
theorem pa_cons (ha : PE X e te) (hr : PA X es t) (hs : starEach (e :: es) X.env = (false,eval e X.env) :: starEach es X.env := by rfl) : PA X (e :: es) (tCons te t) := by
 intro pos pins s σ H Q I h
 rw [hs]
 show wpAny _ _ (spliced ((false,eval e X.env) :: backTo pos (starEach es X.env))) _ _ s
 refine Calls.spliced_cons (thn (ha pins s σ H _ I h) fun u s1 ⟨x,H1,I1,r1,q1⟩=>?_)
 exact thn (hr pos pins s1 σ H1 _ I1 q1) fun us s2 ⟨xs,H2,I2,r2,q2⟩=>⟨x :: xs,H2,I2,.cons r1 r2,q2⟩
def tTup (t : TA) : TE := fun σ H Q=>t σ H fun xs H1=>xs.length≤sizeLine∧∀ p,H1 p = none→Q (.ref p) (upd H1 p (.tup xs))
def tLst (t : TA) : TE := fun σ H Q=>t σ H fun xs H1=>xs.length≤sizeLine∧∀ p,H1 p = none→Q (.ref p) (upd H1 p (.lst xs))
theorem pe_tup {x1} (h : PA X es t) : PE X (.Tuple es x1 pos) (tTup t) := by
 intro pins s σ H Q I hq
 refine wpAny_Tuple_spliced (thn (h pos pins s σ H _ I hq) fun us s1 ⟨xs,H1,I1,r,z,q⟩=>⟨by rw [← r.length];exact z,?_⟩)
 have hf : H1 s1.heap.objs.size = none := I1.hok.fresh (Nat.le_refl _)
 refine ⟨.ref s1.heap.objs.size,upd H1 s1.heap.objs.size (.tup xs),I1.laid (t' := s1.toks) (fun b u e=>Heap.get?_push_of_some _ e) (Nat.le_refl _) ?_,rfl,q _ hf⟩
 exact ⟨z,us,r,⟨_,Heap.get?_push_size _ rfl,rfl,_,rfl⟩⟩
theorem pe_lst (h : PA X es t) : PE X (.List es pos) (tLst t) := by
 intro pins s σ H Q I hq
 refine wpAny_List_spliced (thn (h pos pins s σ H _ I hq) fun us s1 ⟨xs,H1,I1,r,z,q⟩=>⟨by rw [← r.length];exact z,?_⟩)
 have hf : H1 s1.heap.objs.size = none := I1.hok.fresh (Nat.le_refl _)
 refine ⟨.ref s1.heap.objs.size,upd H1 s1.heap.objs.size (.lst xs),I1.laid (t' := s1.toks) (fun b u e=>Heap.get?_push_of_some _ e) (Nat.le_refl _) ?_,rfl,q _ hf⟩
 exact ⟨z,us,0,r,Heap.get?_push_size _ rfl⟩
end
abbrev Sp := List V→Hp→VK→XK→Prop
abbrev CXT := List Env→Hp→Shared→XK→Value→Shared→Prop
structure Env0 (P : Program) (w : World) (K : PySem.W.Frag) (mg : Str→Option Value) (base : Heap) (A : Around) (outer : List Env) (s : Shared) (H : Hp) : Prop where
 frames : A.frames = some outer
 mod : Mod K mg base
 bs : ∀ b o,base.get? b = some o→s.heap.get? b = some o∧H b = none
 bsz : base.objs.size≤s.heap.objs.size
 funs : s.heap.FunFrames base outer
 frf : ∀ b∈frs outer,H b = none
 hok : HOk P w H s.heap
 bare : AllBare s.gens
def CE (outer : List Env) (P : Program) (w : World) (H : Hp) (s : Shared) (Q : VK) (u : Value) (s' : Shared) : Prop :=
 ∃ v H',s'.os = s.os∧AllBare s'.gens∧Un (frs outer) [] H H' s.heap s'.heap∧HOk P w H' s'.heap∧RelV v u∧Q v H'
def CR (CX : CXT) (outer : List Env) (P : Program) (w : World) (H : Hp) (s : Shared) (Q : VK) (E : XK) (r : Result) (s' : Shared) : Prop :=
 match r with
 | .ok (.ret u)=>CE outer P w H s Q u s'
 | .ok _=>False
 | .error e=>CX outer H s E e s'
structure FnOk (P : Program) (w : World) (K : PySem.W.Frag) (mg : Str→Option Value) (base : Heap) (CX : CXT) (k : Nat) (f : Addr) (fd : FuncData) (ps : List Str) (sp : Sp) : Prop where
 len : ∀ vs H Q E,sp vs H Q E→vs.length = ps.length
 run : ∀ (A : Around) (outer : List Env) (s : Shared) (H : Hp) (args : Args) (us : List Value) (vs : List V) (Q : VK) (E : XK),Room k A→Env0 P w K mg base A outer s H→BindsTo s fd args (ps.zip us)→Vals vs us→sp vs H Q E →
   codeAny (model P w) A (.call (.ref f) args) (CR CX outer P w H s Q E) s
theorem Env0.make {P : Program} {w : World} {K : PySem.W.Frag} {mg : Str→Option Value} {base : Heap} {A : Around} {outer : List Env} {s : Shared} {H : Hp} (e : Env0 P w K mg base A outer s H) (C : Addr) (us : List Value) (kw : List (Str×Value)) :
   Env0 P w K mg base (A.under (.builtin "type.__call__" ⟨.ref C :: us,kw⟩)) outer s H := ⟨by first | exact e.frames | (simpa [Around.under,Code.envs,Code.isFrame,pushEnvs] using e.frames),e.mod,e.bs,e.bsz,e.funs,e.frf,e.hok,e.bare⟩
section
variable {X : Cx} {pins : List (Addr×Obj)} {σ : St} {H : Hp} {s s' : Shared}
theorem Inv.env0 (I : Inv X pins σ H s) : Env0 X.prog X.w X.K X.mg X.base X.A X.stack s H :=
 ⟨I.ok.frames,I.ok.mod,I.bs,Nat.le_trans I.ok.bsz I.sz,I.stack,I.stkFree,I.hok,I.bare⟩
theorem Inv.after {Q : VK} {u : Value} (I : Inv X pins σ H s) (h : CE X.stack X.prog X.w H s Q u s') : EP X pins σ Q u s' := by
 obtain ⟨v,H',os,bare,un,hok,r,q⟩ := h
 obtain ⟨hh,g,d,t,os'⟩ := s'
 obtain rfl : os' = s.os := os
 exact ⟨v,H',I.call (h' := hh) (g' := g) (d' := d) (t' := t) (ch:=[]) un hok bare (fun b z=>absurd z (by simp)),r,q⟩
end
def tCall (sp : Sp) (dvs : List V) (E : XK) (t : TA) : TE := fun σ H Q=>t σ H fun vs H1=>sp (vs ++ dvs) H1 Q E
def Binds (K : PySem.W.Frag) (fd : FuncData) (ps : List Str) (ds : List Value) : Prop :=
 ∀ (s : Shared) (us : List Value),K.In s.heap→(us ++ ds).length = ps.length→BindsTo s fd ⟨us,[]⟩ (ps.zip (us ++ ds))
theorem Binds.all {K : PySem.W.Frag} {fd : FuncData} {ps : List Str} (h : ∀ us : List Value,us.length = ps.length→bindArgs fd ⟨us,[]⟩ = pure (ps.zip us)) : Binds K fd ps [] := fun s us _ hl=>by
 rw [List.append_nil] at hl ⊢
 exact .of_eq (h us hl)
def Passes (CX : CXT) (X : Cx) (E : XK) : Prop := ∀ (pins : List (Addr×Obj)) (σ : St) (H : Hp) (s : Shared) (e : Value) (s' : Shared),Inv X pins σ H s→CX X.stack H s E e s'→X.xe e s'
section
variable {X : Cx} {CX : CXT} {k : Nat} {f C : Addr} {fd : FuncData} {ps : List Str} {sp : Sp} {dvs : List V} {ds : List Value} {E : XK} {x m : Str} {p pos apos : Pos} {e o : Expr} {es : List Expr} {ta : TE} {t : TA}
theorem run_fn {pins : List (Addr×Obj)} {σ : St} {H : Hp} {s : Shared} {Q : VK} {us : List Value} {vs : List V} (F : FnOk X.prog X.w X.K X.mg X.base CX k f fd ps sp) (hr : Room k X.A) (hb : Binds X.K fd ps ds) (hd : Vals dvs ds) (hx : Passes CX X E)
   (I : Inv X pins σ H s) (r : Vals vs us) (h : sp (vs ++ dvs) H Q E) : wpAny (model X.prog X.w) X.A (call (.ref f) us) (EP X pins σ Q) X.xe s := by
 have r2 : Vals (vs ++ dvs) (us ++ ds) := r.append hd
 have hl : (us ++ ds).length = ps.length := by rw [← r2.length];exact F.len _ _ _ _ h
 refine wpAny_call (codeAny_mono (F.run X.A X.stack s H ⟨us,[]⟩ (us ++ ds) (vs ++ dvs) Q E hr I.env0 (hb s us I.kIn hl) r2 h) fun r s' hq=>?_)
 cases r with
 | error e=>exact hx pins σ H s e s' I hq
 | ok fl =>
   cases fl with
   | ret u=>exact I.after hq
   | next=>exact False.elim hq
   | brk=>exact False.elim hq
   | cont=>exact False.elim hq
theorem pe_call (F : FnOk X.prog X.w X.K X.mg X.base CX k f fd ps sp) (hr : Room k X.A) (hg : Gl X x) (hm : X.mg x = some (.ref f)) (hk : PySem.W.keepIn X.K (.ref f) = true) (hb : Binds X.K fd ps ds) (hd : Vals dvs ds) (hx : Passes CX X E)
   (ha : PA X (e :: es) t) (hdb : (x == ("__debug__" : Str)) = false := by decide) (he : starEach (e :: es) X.env = (false,eval e X.env) :: starEach es X.env := by rfl) (hpl : (backTo pos (starEach es X.env)).any (·.1) = false := by rfl) :
   PE X (.Call (.Name x p) (e :: es) [] pos) (tCall sp dvs E t) := by
 intro pins s σ H Q I h
 refine wpAny_Call_Name_kw (ld_glob I hg hm ?_ hdb)
 refine PySem.W.callWith_K (h₀:=X.base) I.ok.mod.kin hk (thn (ha pos pins s σ H _ I h) fun us s1 ⟨vs,H1,I1,r,q⟩=>⟨I1.kIn,?_⟩) he hpl
 exact run_fn F hr hb hd hx I1 r q
end
section
variable {X : Cx} {CX : CXT} {k : Nat} {f C : Addr} {fd : FuncData} {ps ks : List Str} {sp : Sp} {E : XK} {x m : Str} {p pos apos kpos : Pos} {e o : Expr} {es : List Expr} {kws : List Keyword} {te ta : TE} {t tk : TA} {nm : Option Str}
variable {g : List Value→List Value→List Value} {gV : List V→List V→List V}
end
structure FnScope (N P : List Str) (sc : Scope) : Prop where
 kind : sc.kind = .function
 co : sc.isCoroutine = false
 gen : sc.isGenerator = false
 nd : N.Nodup
 pre : N.take P.length = P
 par : ∀ x∈P,sc.names.lookup x = some .local∨sc.names.lookup x = some .cell
 nofree : ∀ y∈sc.names,y.2≠.free
theorem bindL_out {kindOf : Str→Option NameKind} {x : Str} : ∀ {binds : List (Str×Value)} {m : Str→Option Value},(∀ v,(x,v)∉binds)→bindL kindOf binds m x = m x
 | [],_,_=>rfl
 | (n,v) :: r,m,h=>by
   unfold bindL
   rw [bindL_out fun w hw=>h w (List.mem_cons_of_mem _ hw)]
   split
   · have : x≠n := by rintro rfl;exact h v List.mem_cons_self
     simp [this]
   · rfl
theorem bindC_out {kindOf : Str→Option NameKind} {x : Str} : ∀ {binds : List (Str×Value)} {m : Str→Option Value},(∀ v,(x,v)∉binds)→bindC kindOf binds m x = m x
 | [],_,_=>rfl
 | (n,v) :: r,m,h=>by
   unfold bindC
   rw [bindC_out fun w hw=>h w (List.mem_cons_of_mem _ hw)]
   split
   · rfl
   · have : x≠n := by rintro rfl;exact h v List.mem_cons_self
     simp [this]
theorem bindL_get {kindOf : Str→Option NameKind} {x : Str} {v : Value} : ∀ {P : List Str} {vs : List Value} {i : Nat} {m : Str→Option Value},P.Nodup→P[i]? = some x→vs[i]? = some v→kindOf x = some .local →
   bindL kindOf (P.zip vs) m x = some v
 | [],_,_,_,_,h,_,_=>by simp at h
 | _ :: _,[],_,_,_,_,h,_=>by simp at h
 | p :: P,w :: vs,0,m,nd,h1,h2,hk=>by
   simp at h1 h2;subst h1;subst h2
   show bindL kindOf ((p,w) :: P.zip vs) m p = _
   unfold bindL
   rw [bindL_out fun v hv=>(List.nodup_cons.mp nd).1 (List.of_mem_zip hv).1,if_pos hk]
   simp
 | p :: P,w :: vs,i + 1,m,nd,h1,h2,hk=>by
   show bindL kindOf ((p,w) :: P.zip vs) m x = _
   unfold bindL
   exact bindL_get (i:=i) (List.nodup_cons.mp nd).2 (by simpa using h1) (by simpa using h2) hk
theorem bindC_get {kindOf : Str→Option NameKind} {x : Str} {v : Value} : ∀ {P : List Str} {vs : List Value} {i : Nat} {m : Str→Option Value},P.Nodup→P[i]? = some x→vs[i]? = some v→kindOf x≠some .local →
   bindC kindOf (P.zip vs) m x = some v
 | [],_,_,_,_,h,_,_=>by simp at h
 | _ :: _,[],_,_,_,_,h,_=>by simp at h
 | p :: P,w :: vs,0,m,nd,h1,h2,hk=>by
   simp at h1 h2;subst h1;subst h2
   show bindC kindOf ((p,w) :: P.zip vs) m p = _
   unfold bindC
   rw [bindC_out fun v hv=>(List.nodup_cons.mp nd).1 (List.of_mem_zip hv).1,if_neg hk]
   simp
 | p :: P,w :: vs,i + 1,m,nd,h1,h2,hk=>by
   show bindC kindOf ((p,w) :: P.zip vs) m x = _
   unfold bindC
   exact bindC_get (i:=i) (List.nodup_cons.mp nd).2 (by simpa using h1) (by simpa using h2) hk
noncomputable def start (N : List Str) (vs : List V) : St := vs.map some ++ List.replicate (N.length - vs.length) none
noncomputable def cxOf (CX : CXT) (P : Program) (w : World) (K : PySem.W.Frag) (mg : Str→Option Value) (base : Heap) (N : List Str) (qual : Str) (scope : Scope) (f : Addr) (cd : Value) (A : Around) (outer : List Env) (s : Shared) (H : Hp) (E : XK) : Cx where
 prog := P
 w := w
 K := K
 mg := mg
 base := base
 A := A.deeper (envOfC qual scope s.heap.objs.size f cd)
 N := N
 s₀ := s
 H₀ := H
 env := envOfC qual scope s.heap.objs.size f cd
 outer := outer
 stack := envOfC qual scope s.heap.objs.size f cd :: outer
 ex := []
 calm := true
 fn := fun _=>true
 pn := []
 xe := fun e s'=>wpAny (model P w) (A.deeper (envOfC qual scope s.heap.objs.size f cd)) (leaving (envOfC qual scope s.heap.objs.size f cd) e) (fun _ s''=>CX outer H s E e s'') (fun e' s''=>CX outer H s E e' s'') s'
theorem cell_has {sc : Scope} {n : Nat} {x : Str} (h : sc.names.lookup x = some .cell) : ∃ c,(cellsFrom n sc.names []).lookup x = some c := by
 have q := PySem.W.cellsFrom_some sc.names n [] (.inl h)
 exact Option.isSome_iff_exists.mp q
theorem inv_start {CX : CXT} {P : Program} {w : World} {K : PySem.W.Frag} {mg : Str→Option Value} {base : Heap} {N ps : List Str} {qual : Str} {scope : Scope} {f : Addr} {cd : Value} {A : Around} {outer : List Env} {s s1 : Shared} {H : Hp} {E : XK} {us : List Value} {vs : List V}
   (S : FnScope N ps scope) (hd : A.handled = none) (e0 : Env0 P w K mg base A outer s H) (hl : vs.length = ps.length) (r : Vals vs us)
   (x : InCallC s s.heap.objs.size (bindL (envOfC qual scope s.heap.objs.size f cd).kindOf (ps.zip us) fun _=>none) (cellsFrom (s.heap.objs.size + 1) scope.names []) (bindC (envOfC qual scope s.heap.objs.size f cd).kindOf (ps.zip us) fun _=>none) s1) :
   Inv (cxOf CX P w K mg base N qual scope f cd A outer s H E) [] (start N vs) H s1 := by
 have hpl : ps.length≤N.length := by have := congrArg List.length S.pre;rw [List.length_take] at this;lia
 obtain ⟨h1,tk,rfl,hk⟩ := x.done
 have noA : ∀ b : Addr,b∉(cxOf CX P w K mg base N qual scope f cd A outer s H E).ex := fun b z=>absurd (show b∈([] : List Addr) from z) (by simp)
 refine ⟨⟨e0.mod,S.kind,rfl,rfl,Nat.le_refl _,fun y z c h1 h2=>?_,fun y hy=>?_,fun y c _ h=>?_,fun _=>hd,Around.frames_deeper e0.frames,.inr ⟨rfl,rfl⟩,fun b z=>absurd z (noA b),e0.bs,e0.bsz,fun b _ _=>noA b,fun b z=>absurd z (noA b),e0.funs,e0.frf⟩,
   rfl,e0.bare,Un.kept hk,⟨_,x.toInCall.ns,fun i y v h1 h2 h3=>?_⟩,fun y c h=>⟨_,x.cell y c h⟩,e0.hok.fresh (Nat.le_refl _),fun y c h=>?_,fun p hp=>absurd (show p∈([] : List (Addr×Obj)) from hp) (by simp),e0.hok.kept hk,?_⟩
 · exact name_of_addr x.apart (PySem.mem_of_lookup h1) (PySem.mem_of_lookup h2)
 · have hy : scope.names.lookup y = some .cell∨scope.names.lookup y = some .free := hy
   rcases hy with hy | hy
   · exact cell_has hy
   · exact absurd rfl (S.nofree _ (PySem.mem_of_lookup hy))
 · exact Nat.le_of_lt (x.above y c (PySem.mem_of_lookup h))
 · have hi : i < vs.length := by
     unfold start at h2
     by_cases hi : i < vs.length
     · exact hi
     · rw [List.getElem?_append_right (by simpa using hi)] at h2
       rw [List.getElem?_replicate] at h2
       split at h2 <;> cases h2
   have ha : vs[i]? = some v := by
     unfold start at h2
     rw [List.getElem?_append_left (by simpa using hi),List.getElem?_map] at h2
     cases e : vs[i]? with
     | none=>rw [e] at h2;cases h2
     | some a=>rw [e] at h2;cases h2;rfl
   obtain ⟨u,hu,rv⟩ := r.get ha
   have hp : ps[i]? = some y := by
     rw [← S.pre,List.getElem?_take_of_lt (by lia)];exact h1
   have ndP : ps.Nodup := by rw [← S.pre];exact S.nd.sublist (List.take_sublist _ _)
   refine ⟨u,rv,?_⟩
   rcases S.par y (List.mem_of_getElem? hp) with k | k
   · exact .inl ⟨k,bindL_get ndP hp hu k⟩
   · obtain ⟨c,e⟩ := cell_has (n:=s.heap.objs.size + 1) k
     refine .inr ⟨.inl k,c,e,?_⟩
     have q := x.cell y c e
     rw [bindC_get ndP hp hu (by show scope.names.lookup y≠_;rw [k];decide)] at q
     exact q
 · exact e0.hok.fresh (Nat.le_of_lt (x.above y c (PySem.mem_of_lookup h)))
 · unfold start
   show _ = N.length
   rw [List.length_append,List.length_map,List.length_replicate]
   lia
theorem fn_of {CX : CXT} {P : Program} {w : World} {K : PySem.W.Frag} {mg : Str→Option Value} {base : Heap} {k : Nat} {f : Addr} {name qual : Str} {params : Arguments} {body : List Stmt} {scope : Scope} {dV kV doc pm cdv ct oc : Value} {an od : Option Addr}
   {osl : Array (Option Value)} {N ps : List Str} {sp : Sp} (lk : K.lookup f = some ⟨oc,od,.func (PySem.W.fnOf name qual params body scope dV kV doc pm an cdv ct),osl⟩) (hcd : PySem.W.codeIn K cdv qual = true) (S : FnScope N ps scope)
   (len : ∀ vs H Q E,sp vs H Q E→vs.length = ps.length)
   (hbody : ∀ (A : Around) (outer : List Env) (s : Shared) (H : Hp) (vs : List V) (Q : VK) (E : XK),Room k (A.deeper (envOfC qual scope s.heap.objs.size f cdv))→sp vs H Q E →
     ∃ t,PSs (cxOf CX P w K mg base N qual scope f cdv A outer s H E) body t∧t { nx := fun _ H'=>Q .non H',rt := Q } (start N vs) H) :
   FnOk P w K mg base CX (k + 1) f (PySem.W.fnOf name qual params body scope dV kV doc pm an cdv ct) ps sp := by
 refine ⟨len,fun A outer s H args us vs Q E hr e0 hb r hsp=>?_⟩
 have hl := len _ _ _ _ hsp
 have KX : K.In s.heap := e0.mod.kin.keeps fun b o e=>(e0.bs b o e).1
 have lim : s.heap.NoLimit := e0.mod.nolimit.keeps fun b o e=>(e0.bs b o e).1
 have hkind : ∀ y∈ps.zip us,scope.names.lookup y.1 = some .local∨(scope.names.lookup y.1 = some .cell∧((cellsFrom (s.heap.objs.size + 1) scope.names []).lookup y.1).isSome = true) := fun ⟨n,v⟩ hy=>by
   rcases S.par n (List.of_mem_zip hy).1 with q | q
   · exact .inl q
   · exact .inr ⟨q,PySem.W.cellsFrom_some _ _ _ (.inl q)⟩
 refine codeAny_call_function hr.depth (KX _ _ lk) rfl S.co S.gen rfl (PySem.W.codeRec_of KX hcd) (hb _ _ _ _ ?_)
 refine wpAny_newFunctionEnv_cells S.kind hkind fun env he s1 x=>?_
 subst he
 refine ⟨lim.keeps x.toInCall.keep,codeAny_func ?_⟩
 obtain ⟨t,ht,hq⟩ := hbody A outer s H vs Q E (hr.deeper _) hsp
 have I : Inv (cxOf CX P w K mg base N qual scope f cdv A outer s H E) [] (start N vs) H s1 := inv_start S hr.hd e0 hl r x
 refine wpAny_mono (ht [] s1 (start N vs) H _ I hq) (fun fl s' hs=>?_) fun e s' hs=>hs
 have fin : ∀ {σ' : St} {H' : Hp} {v : V} {u : Value},Inv (cxOf CX P w K mg base N qual scope f cdv A outer s H E) [] σ' H' s'→RelV v u→Q v H'→CE outer P w H s Q u s' :=
   fun {σ' H' v u} J rv q=>⟨v,H',J.os,J.bare,J.base,J.hok,rv,q⟩
 cases fl with
 | ret u =>
   obtain ⟨v,σ',H',J,rv,q⟩ := hs
   exact fin J rv q
 | next =>
   obtain ⟨σ',H',J,q⟩ := hs
   exact fin (v:=V.non) (u:=Value.none) J rfl q
 | brk =>
   obtain ⟨_,_,_,q⟩ := hs
   exact False.elim q
 | cont =>
   obtain ⟨_,_,_,q⟩ := hs
   exact False.elim q
section
variable {X : Cx} {x : Str} {p pos : Pos} {e : Expr} {es : List Expr} {t : TA} {id T : String} {r : List V→Hp→VK→Prop}
def tCB (r : List V→Hp→VK→Prop) (t : TA) : TE := fun σ H Q=>t σ H fun vs H1=>r vs H1 Q
theorem pe_callB (hc : CallR X (.builtin id) r) (hg : Gl X x) (hm : X.mg x = none) (hv : bootBuiltins x = some (.builtin id)) (ha : PA X (e :: es) t) (hn : x ≠ "__name__" := by decide) (hdb : (x == ("__debug__" : Str)) = false := by decide)
   (he : starEach (e :: es) X.env = (false,eval e X.env) :: starEach es X.env := by rfl) (hpl : (backTo pos (starEach es X.env)).any (·.1) = false := by rfl) : PE X (.Call (.Name x p) (e :: es) [] pos) (tCB r t) := by
 intro pins s σ H Q I h
 refine wpAny_Call_Name_kw (ld_blt I hg hm hv ?_ hn hdb)
 exact PyProof.Rows.callWith_builtin1 (thn (ha pos pins s σ H _ I h) fun us s1 ⟨vs,H1,I1,r1,q1⟩=>hc pins s1 σ H1 vs us Q I1 r1 q1) he hpl
theorem pe_callTy (hc : CallR X (.type T) r) (hg : Gl X x) (hm : X.mg x = none) (hv : bootBuiltins x = some (.type T)) (ha : PA X (e :: es) t) (hn : x ≠ "__name__" := by decide) (hdb : (x == ("__debug__" : Str)) = false := by decide)
   (he : starEach (e :: es) X.env = (false,eval e X.env) :: starEach es X.env := by rfl) (hpl : (backTo pos (starEach es X.env)).any (·.1) = false := by rfl) : PE X (.Call (.Name x p) (e :: es) [] pos) (tCB r t) := by
 intro pins s σ H Q I h
 refine wpAny_Call_Name_kw (ld_blt I hg hm hv ?_ hn hdb)
 exact PyProof.Rows.callWith_type1 (thn (ha pos pins s σ H _ I h) fun us s1 ⟨vs,H1,I1,r1,q1⟩=>hc pins s1 σ H1 vs us Q I1 r1 q1) he hpl
end
end L2
namespace HT
open PySem PyProof.Rows
section
open PySem.SeqAt
open PySem.AutoSeq1 (wpAny_loadPart')
open PySem.MeetsSeq PySem.MeetsSeq2 PySem.MeetsSeq3
end
section
variable {prog : Program} {w : World} {A : Around} {E : Value→Shared→Prop} {s : Shared}
theorem cat_tup {t b : Addr} {vs ws : List Value} {Q : Value→Shared→Prop} (ht : IsTup s.heap t vs.toArray) (hb : IsTup s.heap b ws.toArray) (hv : vs≠[])
   (h1 : ws = []→Q (.ref t) s) (h2 : ws≠[]→Q (.ref s.heap.objs.size) { s with heap := s.heap.push { cls := .type "tuple",data := .seq (vs ++ ws).toArray } })
   (hsz : vs.length + ws.length≤sizeLine) : wpAny (model prog w) A (binaryOp .Add (.ref t) (.ref b)) Q E s := by
 obtain ⟨⟨cls,dd,data,sl⟩,ho,hc,n,hd⟩ := id ht
 obtain ⟨⟨cls2,dd2,data2,sl2⟩,ho2,hc2,n2,hd2⟩ := id hb
 simp only at hc hd hc2 hd2
 subst hc hd hc2 hd2
 have e : vs.toArray ++ ws.toArray = (vs ++ ws).toArray := by simp
 by_cases hw : ws = []
 · exact concat_meets ⟨_,ho,rfl⟩ ⟨_,ho2,rfl⟩ noFill_tuple_add seq_tuple_add PySem.F.slot_tuple_add PySem.F.entry_tuple_add (PySem.F.args_tuple_add_2 _ _)
     (tuple_addW1 t b vs.toArray ws.toArray n n2 dd dd2 sl sl2 (by simpa using hv) (by simp [hw])) ⟨ho,ho2,h1 hw⟩
 · refine concat_meets ⟨_,ho,rfl⟩ ⟨_,ho2,rfl⟩ noFill_tuple_add seq_tuple_add PySem.F.slot_tuple_add PySem.F.entry_tuple_add (PySem.F.args_tuple_add_2 _ _)
     (tuple_addW2 t b vs.toArray ws.toArray n n2 dd dd2 sl sl2 (by simpa using hv) (by simpa using hw) (by rw [List.size_toArray,List.size_toArray];exact hsz)) ⟨ho,ho2,?_⟩
   rw [e]
   exact h2 hw
noncomputable def sIx (n d : Nat) : Option Int→Nat
 | none=>d
 | some v=>if v < 0 then (v + (n : Int)).toNat else min v.toNat n
theorem sIx_none (n d : Nat) : sIx n d none = d := rfl
theorem sIx_nat (n d k : Nat) : sIx n d (some (k : Int)) = min k n := by
 show (if (k : Int) < 0 then ((k : Int) + (n : Int)).toNat else min (k : Int).toNat n) = min k n
 rw [if_neg (by lia),Int.toNat_natCast]
theorem sIx_le (n d : Nat) (hd : d≤n) (o : Option Int) : sIx n d o≤n := by
 cases o with
 | none=>exact hd
 | some v =>
   show (if v < 0 then (v + (n : Int)).toNat else min v.toNat n)≤n
   by_cases hv : v < 0
   · rw [if_pos hv];lia
   · rw [if_neg hv];exact Nat.min_le_right _ _
theorem clip_eq (v : Int) (n d : Nat) : (if v < 0 then max (v + (n : Int)) 0 else min v (n : Int)) = ((sIx n d (some v) : Nat) : Int) := by
 show (if v < 0 then max (v + (n : Int)) 0 else min v (n : Int)) = (((if v < 0 then (v + (n : Int)).toNat else min v.toNat n) : Nat) : Int)
 by_cases hv : v < 0
 · simp only [if_pos hv];lia
 · simp only [if_neg hv];lia
theorem adjust_gen (lo hi : Option Int) (n : Nat) : Builtin.Slice.sliceAdjust lo hi 1 (n : Int) = (((sIx n 0 lo : Nat) : Int),((sIx n n hi : Nat) : Int)) := by
 have h1 : ¬ ((1 : Int) < 0) := by lia
 unfold Builtin.Slice.sliceAdjust
 simp only [h1,if_false]
 refine Prod.ext ?_ ?_
 · cases lo with
   | none=>rfl
   | some v=>exact clip_eq v n 0
 · cases hi with
   | none=>rfl
   | some v=>exact clip_eq v n n
theorem places_gen (i j : Nat) : Builtin.Slice.slicePlaces (i : Int) (j : Int) 1 = j - i := by
 unfold Builtin.Slice.slicePlaces
 have h1 : (1 : Int) > 0 := by lia
 simp only [h1,if_true,Int.ediv_one]
 split <;> lia
theorem slicePart_ {v : Value} {o : Option Int} {Q : Option Int→Shared→Prop} (p : IsPart v o) (h : Q o s) : wpAny (model prog w) A (Builtin.Slice.slicePartIndex v) Q E s := by
 cases p with
 | none=>exact slicePart_none h
 | int i t=>exact slicePart_int h
theorem sliceApplied_gen {sl : Addr} {vl vu : Value} {lo hi : Option Int} {n : Nat} {Q : Int×Int×Nat→Shared→Prop} (hs : s.heap.IsSliceOf sl vl vu .none) (pl : IsPart vl lo) (pu : IsPart vu hi)
   (h : Q (((sIx n 0 lo : Nat) : Int),1,sIx n n hi - sIx n 0 lo) s) : wpAny (model prog w) A (Builtin.Slice.sliceApplied (.ref sl) (pure (n : Int))) Q E s := by
 obtain ⟨os,hos,hcs,hds⟩ := id hs
 unfold Builtin.Slice.sliceApplied Builtin.Slice.sliceFields
 refine wpAny_bind (wpAny_bind (wpAny_field hos hds (x:=vl) rfl (wpAny_bind (wpAny_field hos hds (x:=vu) rfl (wpAny_bind (wpAny_field hos hds (x:=.none) rfl (wpAny_pure ?_)))))))
 refine wpAny_bind (slicePart_none ?_)
 show wpAny _ _ (if ((1 : Int) == 0) = true then _ else _) _ _ s
 rw [if_neg (by decide)]
 refine wpAny_bind (slicePart_ pl (wpAny_bind (slicePart_ pu (wpAny_bind (wpAny_pure ?_)))))
 show wpAny _ _ (match Builtin.Slice.sliceAdjust lo hi 1 (n : Int) with | (lo,hi)=>pure (lo,(1 : Int),Builtin.Slice.slicePlaces lo hi 1)) _ _ s
 rw [adjust_gen lo hi n]
 show wpAny _ _ (pure (((sIx n 0 lo : Nat) : Int),(1 : Int),Builtin.Slice.slicePlaces ((sIx n 0 lo : Nat) : Int) ((sIx n n hi : Nat) : Int) 1)) _ _ s
 rw [places_gen]
 exact wpAny_pure h
theorem pick_gen (xs : Array Value) (i k : Nat) : ((List.range k).filterMap fun (m : Nat)=>xs[((i : Int) + (m : Int) * 1).toNat]?).toArray = ((xs.toList.drop i).take k).toArray := by
 have e : (fun (m : Nat)=>xs[((i : Int) + (m : Int) * 1).toNat]?) = fun m=>xs[i + m]? := by
   funext m
   have : ((i : Int) + (m : Int) * 1).toNat = i + m := by lia
   rw [this]
 rw [e]
 have := pick_run xs i k
 rw [List.filterMap_map] at this
 have e2 : ((fun x=>xs[x]?) ∘ fun x=>i + x) = fun m=>xs[i + m]? := rfl
 rw [e2] at this
 rw [this]
theorem getItem_tuple_cut {t sl : Addr} {items : Array Value} {vl vu : Value} {lo hi : Option Int} {Q : Value→Shared→Prop} (ht : IsTup s.heap t items) (hs : s.heap.IsSliceOf sl vl vu .none) (pl : IsPart vl lo) (pu : IsPart vu hi)
   (hw : ¬ (sIx items.size 0 lo = 0∧sIx items.size items.size hi = items.size))
   (h : Q (.ref s.heap.objs.size) { s with heap := s.heap.push { cls := .type "tuple",data := .seq ((items.toList.drop (sIx items.size 0 lo)).take (sIx items.size items.size hi - sIx items.size 0 lo)).toArray } })
   (hsz : items.size≤sizeLine) : wpAny (model prog w) A (getItem (.ref t) (.ref sl)) Q E s := by
 have htake : sizeOk (.seq ((items.toList.drop (sIx items.size 0 lo)).take (sIx items.size items.size hi - sIx items.size 0 lo)).toArray) := by
   show ((items.toList.drop (sIx items.size 0 lo)).take (sIx items.size items.size hi - sIx items.size 0 lo)).toArray.size≤sizeLine
   rw [List.size_toArray,List.length_take,List.length_drop,Array.length_toList]
   lia
 have hj : sIx items.size items.size hi≤items.size := sIx_le _ _ (Nat.le_refl _) hi
 obtain ⟨os,hos,hcs,hds⟩ := id hs
 have hTs : s.TypeIs (.ref sl) "slice" := ⟨os,hos,hcs⟩
 unfold getItem
 try with_reducible refine wpAny_holding ?_
 first | refine wpAny_bind (wpAny_pure ?_) | skip
 refine wpAny_bind (wpAny_sequenceKey ht.typeIs (by decide) ?_)
 refine wpAny_bind (wpAny_callSpecial?_slot (name:=Str.ofString "__getitem__") ht.typeIs PyProof.Rows.slot_tuple_getitem
   (wpAny_call_entry PyProof.Rows.slot_tuple_getitem ht.typeIs entry_tuple_getitem ?_ (args_tuple_getitem _ _)))
 show wpAny _ _ (Builtin.Tuple.tupleItemsOf (.ref t) >>= _) _ _ s
 refine wpAny_bind (tupleItemsOf_ ht ?_)
 refine wpAny_bind (wpAny_typeOf hTs ?_)
 rw [if_pos (by decide)]
 refine wpAny_bind (sliceApplied_gen hs pl pu ?_)
 have hno : ¬ ((((sIx items.size 0 lo : Nat) : Int) == 0 && (1 : Int) == 1 && (sIx items.size items.size hi - sIx items.size 0 lo) == items.size) = true) := by
   intro q
   rw [Bool.and_eq_true,Bool.and_eq_true] at q
   have q1 : ((sIx items.size 0 lo : Nat) : Int) = 0 := eq_of_beq q.1.1
   have q2 : sIx items.size items.size hi - sIx items.size 0 lo = items.size := eq_of_beq q.2
   exact hw ⟨by lia,by lia⟩
 show wpAny _ _ (if (((sIx items.size 0 lo : Nat) : Int) == 0 && (1 : Int) == 1 && (sIx items.size items.size hi - sIx items.size 0 lo) == items.size) = true then _ else _) _ _ s
 rw [if_neg hno,pick_gen]
 first
   | exact wpAny_bind (m:=Builtin.Tuple.tupleExact _) (wpAny_newObj_type (wpAny_pure ⟨_,rfl,wpAny_pure h⟩) htake)
   | exact wpAny_bind (m:=Builtin.Tuple.tupleExact _) (wpAny_newObj_type (wpAny_bind (wpAny_pure (wpAny_pure ⟨_,rfl,wpAny_pure h⟩))) htake)
   | exact wpAny_bind (wpAny_bind (m:=Builtin.Tuple.tupleExact _) (wpAny_newObj_type (wpAny_pure (wpAny_pure ⟨_,rfl,wpAny_pure h⟩)) htake))
   | exact wpAny_bind (wpAny_bind (m:=Builtin.Tuple.tupleExact _) (wpAny_newObj_type (wpAny_pure ⟨_,rfl,wpAny_pure h⟩) htake))
end
end HT
namespace L2
open PySem PySem.Spec PyProof.Rows
abbrev TO := St→Hp→(Option Int→Hp→Prop)→Prop
def PO (X : Cx) (e : Option Expr) (t : TO) : Prop :=
 ∀ (pins : List (Addr×Obj)) (s : Shared) (σ : St) (H : Hp) (Q : Option Int→Hp→Prop),Inv X pins σ H s→t σ H Q →
   wpAny (model X.prog X.w) X.A (evalPart e X.env) (fun u s'=>∃ o H',Inv X pins σ H' s'∧IsPart u o∧Q o H') X.xe s
def tNoPart : TO := fun _ H Q=>Q none H
def tPart (t : TE) : TO := fun σ H Q=>t σ H fun x H1=>∃ i,x = .int i∧Q (some i) H1
theorem intsAre_of {ns : List Int} : ∀ {us : List Value},Vals (ns.map V.int) us→IntsAre us ns := by
 induction ns with
 | nil=>intro us r;rw [List.map_nil] at r;cases r;exact .nil
 | cons n ns ih =>
   intro us r
   rw [List.map_cons] at r
   cases r with
   | cons r1 r2 =>
     obtain ⟨t,e⟩ := r1
     subst e
     exact .cons n t (ih r2)
section
variable {X : Cx} {e : Expr} {te : TE} {lo hi : Option Expr} {tl th : TO} {pos p2 : Pos}
theorem po_none : PO X none tNoPart := by
 intro pins s σ H Q I h
 rw [evalPart_none]
 exact wpAny_pure ⟨none,H,I,.none,h⟩
theorem po_some (h : PE X e te) : PO X (some e) (tPart te) := by
 intro pins s σ H Q I hw
 rw [evalPart_some]
 refine thn (h pins s σ H _ I hw) fun u s1 ⟨x,H1,I1,r1,q1⟩=>?_
 obtain ⟨i,rfl,q⟩ := q1
 obtain ⟨t,rfl⟩ := r1
 exact ⟨some i,H1,I1,.int i t,q⟩
def SlR (X : Cx) (r : V→Option Int→Option Int→Hp→VK→Prop) : Prop :=
 ∀ (pins : List (Addr×Obj)) (s : Shared) (σ : St) (H : Hp) (x : V) (v vl vu : Value) (lo hi : Option Int) (sl : Addr) (Q : VK),Inv X pins σ H s→RelV x v→s.heap.IsSliceOf sl vl vu .none→IsPart vl lo→IsPart vu hi→r x lo hi H Q →
   ∃ T id,typeLookup (.type T) "__getitem__" = pure (some (.builtin id))∧s.TypeIs v T∧wpAny (model X.prog X.w) X.A (getItem v (.ref sl)) (EP X pins σ Q) X.xe s
theorem SlR.or {r r' : V→Option Int→Option Int→Hp→VK→Prop} (h : SlR X r) (h' : SlR X r') : SlR X (fun x lo hi H Q=>r x lo hi H Q∨r' x lo hi H Q) := by
 intro pins s σ H x v vl vu lo hi sl Q I rx hs pl pu q
 rcases q with q | q
 · exact h pins s σ H x v vl vu lo hi sl Q I rx hs pl pu q
 · exact h' pins s σ H x v vl vu lo hi sl Q I rx hs pl pu q
def tSl (r : V→Option Int→Option Int→Hp→VK→Prop) (te : TE) (tl th : TO) : TE := fun σ H Q=>te σ H fun x H1=>tl σ H1 fun l H2=>th σ H2 fun u H3=>r x l u H3 Q
theorem pe_slice {r : V→Option Int→Option Int→Hp→VK→Prop} (hr : SlR X r) (he : PE X e te) (hl : PO X lo tl) (hu : PO X hi th) : PE X (.Subscript e (.Slice lo hi none p2) pos) (tSl r te tl th) := by
 intro pins s σ H Q I h
 refine Subscript_ (thn (he pins s σ H _ I h) fun v s1 ⟨x,H1,I1,r1,q1⟩=>?_)
 refine wpAny_Slice (thn (hl pins s1 σ H1 _ I1 q1) fun vl s2 ⟨l,H2,I2,pl,q2⟩=>thn (hu pins s2 σ H2 _ I2 q2) fun vu s3 ⟨u,H3,I3,pu,q3⟩=>?_)
 rw [evalPart_none]
 refine wpAny_pure ?_
 have I4 : Inv X pins σ H3 { s3 with heap := s3.heap.push { cls := .type "slice",data := .fields #[vl,vu,.none] } } := I3.kept (t' := s3.toks) fun b ob q=>Heap.get?_push_of_some _ q
 obtain ⟨T,id,hT,ht,hg⟩ := hr pins { s3 with heap := s3.heap.push { cls := .type "slice",data := .fields #[vl,vu,.none] } } σ H3 x v vl vu l u s3.heap.objs.size Q I4 r1 (Heap.IsSliceOf.new ..) pl pu q3
 show wpAny (model X.prog X.w) X.A (subscriptTail e (.Slice lo hi none p2) v (.ref s3.heap.objs.size)) (EP X pins σ Q) X.xe { s3 with heap := s3.heap.push { cls := .type "slice",data := .fields #[vl,vu,.none] } }
 exact tail_any (ops:=[.ref s3.heap.objs.size,v]) ht hT hg (by with_unfolding_all rfl)
noncomputable def cutV (xs : List V) (lo hi : Option Int) : List V := (xs.drop (HT.sIx xs.length 0 lo)).take (HT.sIx xs.length xs.length hi - HT.sIx xs.length 0 lo)
theorem cutV_length (xs : List V) (lo hi : Option Int) : (cutV xs lo hi).length≤xs.length := by
 unfold cutV
 rw [List.length_take,List.length_drop]
 lia
def rSlT (K : PySem.W.Frag) : V→Option Int→Option Int→Hp→VK→Prop := fun x lo hi H Q=>∃ a xs,x = .ref a∧SqT K H a xs ∧
 ¬ (HT.sIx xs.length 0 lo = 0∧HT.sIx xs.length xs.length hi = xs.length)∧∀ p,H p = none→Q (.ref p) (upd H p (.tup (cutV xs lo hi)))
theorem sl_tup : SlR X (rSlT X.K) := by
 intro pins s σ H x v vl vu lo hi sl Q I rx hs pl pu h
 obtain ⟨a,xs,rfl,hx,hw,q⟩ := h
 cases rx
 obtain ⟨its,r,ht,hz⟩ := I.tuple hx
 have hlen : its.toArray.size = xs.length := by rw [List.size_toArray];exact r.length.symm
 refine ⟨"tuple",_,PyProof.Rows.slot_tuple_getitem.lookup,ht.typeIs,?_⟩
 refine HT.getItem_tuple_cut ht hs pl pu (by rw [hlen];exact hw) ?_ (by rw [hlen];exact hz)
 rw [hlen]
 refine ⟨.ref s.heap.objs.size,_,I.laid (t' := s.toks) (o:=.tup (cutV xs lo hi)) (fun b ob q=>Heap.get?_push_of_some _ q) (Nat.le_refl _) ?_,rfl,q _ (I.hok.fresh (Nat.le_refl _))⟩
 exact ⟨Nat.le_trans (cutV_length xs lo hi) hz,_,(r.drop (HT.sIx xs.length 0 lo)).take (HT.sIx xs.length xs.length hi - HT.sIx xs.length 0 lo),IsTup.new _ _⟩
def rCatT (K : PySem.W.Frag) : R2 := fun x y H Q=>∃ a b xs ys,x = .ref a∧y = .ref b∧SqT K H a xs∧SqT K H b ys∧xs≠[]∧xs.length + ys.length≤sizeLine ∧
 (ys = []→Q (.ref a) H)∧(ys≠[]→∀ p,H p = none→Q (.ref p) (upd H p (.tup (xs ++ ys))))
theorem Vals.nil_iff {xs : List V} {us : List Value} (r : Vals xs us) : us = []↔xs = [] := by
 cases r with
 | nil=>simp
 | cons _ _=>simp
theorem op_catT : OpR X (binaryOp .Add) (rCatT X.K) := by
 intro pins s σ H x y v u Q I rx ry h
 obtain ⟨a,b,xs,ys,rfl,rfl,ha,hb,hx,hz,q1,q2⟩ := h
 cases rx
 cases ry
 obtain ⟨its,r1,p1,_⟩ := I.tuple ha
 obtain ⟨its2,r2,p2,_⟩ := I.tuple hb
 refine HT.cat_tup p1 p2 (fun z=>hx (r1.nil_iff.mp z)) (fun z=>⟨.ref a,H,I,rfl,q1 (r2.nil_iff.mp z)⟩) (fun z=>?_) (by rw [← r1.length,← r2.length];exact hz)
 refine ⟨.ref s.heap.objs.size,_,I.laid (t' := s.toks) (o:=.tup (xs ++ ys)) (fun b ob q=>Heap.get?_push_of_some _ q) (Nat.le_refl _) ?_,rfl,q2 (fun w=>z (r2.nil_iff.mpr w)) _ (I.hok.fresh (Nat.le_refl _))⟩
 exact ⟨by rw [List.length_append];exact hz,_,r1.append r2,IsTup.new _ _⟩
end
noncomputable def ixN (n : Nat) (i : Int) : Option Nat := if 0≤i then (if i < n then some i.toNat else none) else if -(n : Int)≤i then some (i + n).toNat else none
noncomputable def atI {α : Type} (xs : List α) (i : Int) : Option α := (ixN xs.length i).bind fun j=>xs[j]?
theorem ixN_seq {n : Nat} {i : Int} {j : Nat} (h : ixN n i = some j) : seqIndex? i n = some j∧j < n∧-(n : Int)≤i∧i < n := by
 unfold ixN at h
 by_cases h0 : 0≤i
 · rw [if_pos h0] at h
   by_cases h1 : i < n
   · rw [if_pos h1] at h
     have e : i.toNat = j := Option.some.inj h
     exact ⟨by rw [seqIndex_of h0 h1,e],by lia,by lia,h1⟩
   · rw [if_neg h1] at h;cases h
 · rw [if_neg h0] at h
   by_cases h1 : -(n : Int)≤i
   · rw [if_pos h1] at h
     have e : (i + n).toNat = j := Option.some.inj h
     exact ⟨by rw [seqIndex_neg (by lia) h1,e],by lia,h1,by lia⟩
   · rw [if_neg h1] at h;cases h
theorem atI_get {α : Type} {xs : List α} {i : Int} {v : α} (h : atI xs i = some v) : ∃ j,seqIndex? i xs.length = some j∧xs[j]? = some v∧j < xs.length∧-(xs.length : Int)≤i∧i < xs.length := by
 unfold atI at h
 cases e : ixN xs.length i with
 | none=>rw [e] at h;cases h
 | some j =>
   rw [e] at h
   obtain ⟨h1,h2,h3,h4⟩ := ixN_seq e
   exact ⟨j,h1,h,h2,h3,h4⟩
theorem atI_nat {α : Type} {xs : List α} {j : Nat} {v : α} (h : xs[j]? = some v) : atI xs (j : Int) = some v := by
 have hj : j < xs.length := (List.getElem?_eq_some_iff.mp h).1
 have e : ixN xs.length (j : Int) = some j := by
   unfold ixN
   rw [if_pos (by lia),if_pos (by lia)];simp
 unfold atI;rw [e];exact h
def PlainIx (b : Expr) : Prop := ∀ o i,subscripted b false o i = operate [o,i] (getItem o i)
def IxR (X : Cx) (r : R2) : Prop :=
 ∀ (value slice : Expr) (pins : List (Addr×Obj)) (s : Shared) (σ : St) (H : Hp) (x y : V) (v u : Value) (Q : VK),Inv X pins σ H s→RelV x v→RelV y u→r x y H Q →
   subscripted slice false v u = operate [v,u] (getItem v u)→wpAny (model X.prog X.w) X.A (subscriptTail value slice v u) (EP X pins σ Q) X.xe s
def MtR (X : Cx) (id : String) (r : V→List V→Hp→VK→Prop) : Prop :=
 ∀ (pins : List (Addr×Obj)) (s : Shared) (σ : St) (H : Hp) (x : V) (xs : List V) (v : Value) (us : List Value) (Q : VK),Inv X pins σ H s→RelV x v→Vals xs us→r x xs H Q →
   wpAny (model X.prog X.w) X.A (call (.builtin id) (v :: us)) (EP X pins σ Q) X.xe s
section
variable {X : Cx} {a b : Expr} {ta tb : TE} {pos : Pos}
theorem IxR.or {r r' : R2} (h : IxR X r) (h' : IxR X r') : IxR X (fun x y H Q=>r x y H Q∨r' x y H Q) := by
 intro value slice pins s σ H x y v u Q I rx ry q hs
 rcases q with q | q
 · exact h value slice pins s σ H x y v u Q I rx ry q hs
 · exact h' value slice pins s σ H x y v u Q I rx ry q hs
theorem pe_ix {r : R2} (hr : IxR X r) (ha : PE X a ta) (hb : PE X b tb) (hs : PlainIx b) : PE X (.Subscript a b pos) (tOp r ta tb) := by
 intro pins s σ H Q I h
 exact Subscript_ (binT ha hb I h fun v u s2 x y H2 I2 rx ry q=>hr a b pins s2 σ H2 x y v u Q I2 rx ry q (hs _ _))
def rIxL (K : PySem.W.Frag) : R2 := fun x y H Q=>∃ p xs i v,x = .ref p∧y = .int i∧SqL K H p xs∧atI xs i = some v∧Q v H
def rIxT (K : PySem.W.Frag) : R2 := fun x y H Q=>∃ p xs i v,x = .ref p∧y = .int i∧SqT K H p xs∧atI xs i = some v∧Q v H
def rIxS : R2 := fun x y H Q=>∃ z i c,x = .str z∧y = .int i∧z.length≤sizeLine∧atI z.cps.toList i = some c∧Q (.str ⟨#[c]⟩) H
theorem ix_list : IxR X (rIxL X.K) := by
 intro value slice pins s σ H x y v u Q I rx ry h hs
 obtain ⟨p,xs,i,z,rfl,rfl,hq,he,q⟩ := h
 cases rx
 obtain ⟨t,rfl⟩ := ry
 obtain ⟨its,r,pl,hz⟩ := I.list hq
 obtain ⟨j,h1,h2,h3,h4,h5⟩ := atI_get he
 obtain ⟨w,ew,rw'⟩ := r.get h2
 have hl := r.length
 have hn := line63
 have fin : EP X pins σ Q w s := ⟨z,H,I,rw',q⟩
 by_cases h0 : 0≤i
 · have hj : i.toNat = j := by
     rw [seqIndex_of h0 h5] at h1
     exact Option.some.inj h1
   exact item_listR pl.isList h0 (by lia) (by rw [hj];simpa using ew) fin hs
 · have hj : (i + (its.toArray.size : Int)).toNat = j := by
     rw [seqIndex_neg (by lia) h4] at h1
     rw [List.size_toArray,← hl]
     exact Option.some.inj h1
   exact subscriptTail_builtinR (x:=w) pl.isList.typeIs slot_list_getitem.lookup
     (wpAny_getItem_list_neg (Q:=fun r s'=>r = w∧EP X pins σ Q r s') pl.isList (by lia) (by rw [List.size_toArray] <;> lia) (by lia) (by rw [hj];simpa using ew) ⟨rfl,fin⟩) hs
theorem ix_tup : IxR X (rIxT X.K) := by
 intro value slice pins s σ H x y v u Q I rx ry h hs
 obtain ⟨p,xs,i,z,rfl,rfl,hq,he,q⟩ := h
 cases rx
 obtain ⟨t,rfl⟩ := ry
 obtain ⟨its,r,pl,hz⟩ := I.tuple hq
 obtain ⟨j,h1,h2,h3,h4,h5⟩ := atI_get he
 obtain ⟨w,ew,rw'⟩ := r.get h2
 have hl := r.length
 have hn := line63
 have fin : EP X pins σ Q w s := ⟨z,H,I,rw',q⟩
 exact subscriptTail_builtinR (x:=w) pl.typeIs slot_tuple_getitem.lookup
   (getItem_tuple (j:=j) (Q:=fun r s'=>r = w∧EP X pins σ Q r s') pl (by lia) (by lia) (by rw [List.size_toArray,← hl];exact h1) (by simpa using ew) ⟨rfl,fin⟩) hs
theorem ix_str : IxR X rIxS := by
 intro value slice pins s σ H x y v u Q I rx ry h hs
 obtain ⟨z,i,c,rfl,rfl,hz,he,q⟩ := h
 obtain ⟨t,rfl⟩ := rx
 obtain ⟨t',rfl⟩ := ry
 obtain ⟨j,h1,h2,h3,h4,h5⟩ := atI_get he
 have hl : z.cps.toList.length = z.length := by simp [Str.length]
 rw [hl] at h1 h4 h5
 have hn := line63
 exact tail_any (typeIs_str s z t) slot_str_getitem.lookup (getItem_str (c:=c) (by
   have e1 : decide (i < -(2 ^ 63 : Int)) = false := decide_eq_false (by lia)
   have e2 : decide (i ≥ 2 ^ 63) = false := decide_eq_false (by lia)
   rw [e1,e2,Bool.or_false]) (by rw [h1];simpa using h2) ⟨.str ⟨#[c]⟩,H,I.tok _,⟨_,rfl⟩,q⟩) hs
def rIx (K : PySem.W.Frag) : R2 := fun x y H Q=>rIxL K x y H Q∨rIxT K x y H Q∨rIxS x y H Q
theorem ix_seq : IxR X (rIx X.K) := ix_list.or (ix_tup.or ix_str)
theorem slice_bounds (lo hi : Option Int) (n : Nat) : (sliceBounds lo hi none n).1 = ((HT.sIx n 0 lo : Nat) : Int)∧(sliceBounds lo hi none n).2.1 = ((HT.sIx n n hi : Nat) : Int)∧(sliceBounds lo hi none n).2.2 = 1 := by
 refine ⟨?_,?_,rfl⟩
 · cases lo with
   | none=>simp [sliceBounds,HT.sIx]
   | some i =>
     simp only [sliceBounds,HT.sIx,Option.getD_none,show (1 : Int) > 0 by decide,if_true]
     by_cases h : i < 0
     · simp only [h,if_true] <;> lia
     · simp only [h,if_false] <;> lia
 · cases hi with
   | none=>simp [sliceBounds,HT.sIx]
   | some i =>
     simp only [sliceBounds,HT.sIx,Option.getD_none,show (1 : Int) > 0 by decide,if_true]
     by_cases h : i < 0
     · simp only [h,if_true] <;> lia
     · simp only [h,if_false] <;> lia
theorem slicePick_cut (its : List Value) (lo hi : Option Int) : slicePick its.toArray lo hi none = ((its.drop (HT.sIx its.length 0 lo)).take (HT.sIx its.length its.length hi - HT.sIx its.length 0 lo)).toArray := by
 obtain ⟨h1,h2,h3⟩ := slice_bounds lo hi its.toArray.size
 unfold slicePick
 rw [h1,h2,h3]
 simp only [sliceRange_one,pick_run,List.size_toArray] <;> rfl
def rSlL (K : PySem.W.Frag) : V→Option Int→Option Int→Hp→VK→Prop := fun x lo hi H Q=>∃ a xs,x = .ref a∧SqL K H a xs∧∀ p,H p = none→Q (.ref p) (upd H p (.lst (cutV xs lo hi)))
theorem sl_list : SlR X (rSlL X.K) := by
 intro pins s σ H x v vl vu lo hi sl Q I rx hs pl pu h
 obtain ⟨a,xs,rfl,hx,q⟩ := h
 cases rx
 obtain ⟨its,r,ht,hz⟩ := I.list hx
 have hlen := r.length
 refine ⟨"list",_,slot_list_getitem.lookup,ht.isList.typeIs,?_⟩
 refine wpAny_getItem_list_slice ht.isList hs pl pu .none (by simp) ?_ (by rw [List.size_toArray] <;> lia)
 rw [slicePick_cut,← hlen]
 refine ⟨.ref s.heap.objs.size,_,I.laid (t' := s.toks) (o:=.lst (cutV xs lo hi)) (fun b ob q=>Heap.get?_push_of_some _ q) (Nat.le_refl _) ?_,rfl,q _ (I.hok.fresh (Nat.le_refl _))⟩
 exact ⟨Nat.le_trans (cutV_length xs lo hi) hz,_,0,(r.drop (HT.sIx xs.length 0 lo)).take (HT.sIx xs.length xs.length hi - HT.sIx xs.length 0 lo),Heap.get?_push_size _ rfl⟩
theorem op_notIn_str : OpR X (compareOp .NotIn) (fun x y H Q=>∃ i j,x = .str i∧y = .str j∧Q (.bl (!(!(Builtin.Str.occurrences j i 0 j.length 1).isEmpty))) H) := by
 intro pins s σ H x y v u Q I rx ry h
 obtain ⟨i,j,rfl,rfl,q⟩ := h
 obtain ⟨t,rfl⟩ := rx
 obtain ⟨t',rfl⟩ := ry
 exact notIn_str ⟨.bl _,H,I,rfl,q⟩
theorem call_len_seq : CallR X (.builtin "len") (fun xs H Q=>∃ p ys,xs = [.ref p]∧(SqL X.K H p ys∨SqT X.K H p ys)∧Q (.int ys.length) H) := by
 intro pins s σ H xs us Q I r h
 obtain ⟨p,ys,rfl,hq,q⟩ := h
 obtain ⟨u,rfl,rx⟩ := vals1 r
 cases rx
 have hn := line63
 rcases hq with hq | hq
 · obtain ⟨its,r',pl,hz⟩ := I.list hq
   have hlen := r'.length
   exact Calls.call_len_list pl.isList (by simp only [List.size_toArray] <;> lia) ⟨.int ys.length,H,I.tok _,⟨s.toks + 1,by rw [List.size_toArray,hlen]⟩,q⟩
 · obtain ⟨its,r',pl,hz⟩ := I.tuple hq
   have hlen := r'.length
   exact len_tuple pl (by simp only [List.size_toArray] <;> lia) ⟨.int ys.length,H,I.tok _,⟨s.toks + 1,by rw [List.size_toArray,hlen]⟩,q⟩
theorem call_len_str : CallR X (.builtin "len") (fun xs H Q=>∃ z,xs = [.str z]∧z.length≤sizeLine∧Q (.int z.length) H) := by
 intro pins s σ H xs us Q I r h
 obtain ⟨z,rfl,hz,q⟩ := h
 obtain ⟨u,rfl,t,rfl⟩ := vals1 r
 have hn := line63
 exact len_str (by lia) ⟨.int z.length,H,I.tok _,⟨_,rfl⟩,q⟩
theorem CallR.or {f : Value} {r r' : List V→Hp→VK→Prop} (h : CallR X f r) (h' : CallR X f r') : CallR X f (fun xs H Q=>r xs H Q∨r' xs H Q) := by
 intro pins s σ H xs us Q I rs q
 rcases q with q | q
 · exact h pins s σ H xs us Q I rs q
 · exact h' pins s σ H xs us Q I rs q
theorem call_list_of : CallR X (.type "list") (fun xs H Q=>∃ p ys,xs = [.ref p]∧(SqL X.K H p ys∨SqT X.K H p ys)∧∀ l,H l = none→Q (.ref l) (upd H l (.lst ys))) := by
 intro pins s σ H xs us Q I r h
 obtain ⟨p,ys,rfl,hq,q⟩ := h
 obtain ⟨u,rfl,rx⟩ := vals1 r
 cases rx
 have fin : ∀ (its : List Value),Vals ys its→ys.length≤sizeLine→∀ (h' : Heap) (c' : Nat),(∀ b o',s.heap.get? b = some o'→h'.get? b = some o') →
     h'.get? s.heap.objs.size = some { cls := .type "list",dict := none,data := .seq its.toArray c',slots := #[] }→EP X pins σ Q (.ref s.heap.objs.size) { s with heap := h' } := fun its r' hz h' c' kp e =>
   ⟨.ref s.heap.objs.size,_,I.laid (t' := s.toks) kp (Nat.le_refl _) (show ObjOk X.prog X.w _ h' _ (.lst ys) from ⟨hz,its,c',r',e⟩),rfl,q _ (I.hok.fresh (Nat.le_refl _))⟩
 rcases hq with hq | hq
 · obtain ⟨its,r',pl,hz⟩ := I.list hq
   have hlen := r'.length
   obtain ⟨o,ho,hc,n,hd⟩ := pl.isList
   exact call_list_seq p (.inl rfl) ho hc hd (fun h' c' kp e=>fin its r' hz h' c' kp e) (by simp only [List.size_toArray] <;> lia)
 · obtain ⟨its,r',pl,hz⟩ := I.tuple hq
   have hlen := r'.length
   obtain ⟨o,ho,hc,n,hd⟩ := pl
   exact call_list_seq p (.inr rfl) ho hc hd (fun h' c' kp e=>fin its r' hz h' c' kp e) (by simp only [List.size_toArray] <;> lia)
theorem call_tuple_of : CallR X (.type "tuple") (fun xs H Q=>∃ p ys,xs = [.ref p]∧((SqL X.K H p ys∧∀ l,H l = none→Q (.ref l) (upd H l (.tup ys)))∨(SqT X.K H p ys∧Q (.ref p) H))) := by
 intro pins s σ H xs us Q I r h
 obtain ⟨p,ys,rfl,h⟩ := h
 obtain ⟨u,rfl,rx⟩ := vals1 r
 cases rx
 rcases h with ⟨hq,q⟩ | ⟨hq,q⟩
 · obtain ⟨its,r',pl,hz⟩ := I.list hq
   have hlen := r'.length
   refine call_tuple_list pl.isList (fun h' kp=>?_) (by simp only [List.size_toArray] <;> lia)
   have I1 : Inv X pins σ H { s with heap := h' } := I.kept (t' := s.toks) kp
   have I2 : Inv X pins σ (upd H h'.objs.size (.tup ys)) { s with heap := h'.push { cls := .type "tuple",data := .seq its.toArray } } :=
     I1.laid (t' := s.toks) (fun b o e=>Heap.get?_push_of_some _ e) (Nat.le_refl _) (show ObjOk X.prog X.w _ _ _ (.tup ys) from ⟨hz,its,r',IsTup.new _ _⟩)
   exact ⟨.ref h'.objs.size,_,I2,rfl,q _ (I1.hok.fresh (Nat.le_refl _))⟩
 · obtain ⟨its,r',pl,hz⟩ := I.tuple hq
   exact call_tuple_same pl ⟨.ref p,H,I,rfl,q⟩
def tyV (K : PySem.W.Frag) (T : String) (x : V) (H : Hp) : Prop := match x with
 | .str _=>T = "str"
 | .int _=>T = "int"
 | .ref p=>(T = "list" ∧ ∃ xs,SqL K H p xs)∨(T = "tuple" ∧ ∃ o,K.lookup p = some o∧o.cls = .type "tuple" ∧ o.dict = none) ∨
     (T = "dict" ∧ ((∃ kvs,H p = some (.dK kvs))∨∃ kvs,H p = some (.dT kvs)))∨(T = "set" ∧ ∃ S n,H p = some (.set S n))
 | _=>False
theorem tyV_is {pins : List (Addr×Obj)} {σ : St} {H : Hp} {s : Shared} {T : String} {x : V} {v : Value} (I : Inv X pins σ H s) (r : RelV x v) (ty : tyV X.K T x H) :
   s.TypeIs v T∧∀ a,v = .ref a→∃ ob,s.heap.get? a = some ob∧ob.dict = none := by
 cases x with
 | str z =>
   obtain ⟨t,rfl⟩ := r
   cases (show T = "str" from ty)
   exact ⟨typeIs_str s z t,fun _ e=>nomatch e⟩
 | int i =>
   obtain ⟨t,rfl⟩ := r
   cases (show T = "int" from ty)
   exact ⟨typeIs_int s i t,fun _ e=>nomatch e⟩
 | ref p =>
   cases r
   rcases ty with ⟨rfl,xs,hq⟩ | ⟨rfl,o,hk,hc,hd⟩ | ⟨rfl,hk⟩ | ⟨rfl,S,n,hk⟩
   · obtain ⟨its,_,pl,_⟩ := I.list hq
     refine ⟨pl.isList.typeIs,fun a e=>?_⟩
     cases e
     obtain ⟨o,n,e,c,hd,_⟩ := pl
     exact ⟨o,e,hd⟩
   · refine ⟨⟨o,I.kIn p o hk,hc⟩,fun a e=>?_⟩
     cases e
     exact ⟨o,I.kIn _ o hk,hd⟩
   · have z : ∃ o,s.heap.get? p = some o∧o.ExactDict := by
       rcases hk with ⟨kvs,hk⟩ | ⟨kvs,hk⟩
       · obtain ⟨_,_,_,_,o,_,_,e,ex,_⟩ := I.hok p _ hk
         exact ⟨o,e,ex⟩
       · obtain ⟨_,_,_,_,o,_,_,e,ex,_⟩ := I.hok p _ hk
         exact ⟨o,e,ex⟩
     obtain ⟨o,e,ex⟩ := z
     refine ⟨⟨o,e,ex.1⟩,fun a e2=>?_⟩
     cases e2
     exact ⟨o,e,ex.2.1⟩
   · obtain ⟨o,_,_,_,e,ex,_⟩ := I.hok p _ hk
     refine ⟨⟨o,e,ex.1⟩,fun a e2=>?_⟩
     cases e2
     exact ⟨o,e,ex.2.1⟩
 | _=>exact False.elim ty
def tBM (K : PySem.W.Frag) (T : String) (r : V→List V→Hp→VK→Prop) (to : TE) (t : TA) : TE := fun σ H Q=>to σ H fun x H1=>tyV K T x H1∧t σ H1 fun xs H2=>r x xs H2 Q
variable {o e : Expr} {es : List Expr} {to : TE} {t : TA} {name : Str} {apos cpos : Pos} {T id : String} {r : V→List V→Hp→VK→Prop}
theorem pe_bm (pa : PlainAttrs T) (slot : Slot T name id) (hty : typeOf (.builtin id) = pure (.type "method_descriptor")) (hm : MtR X id r) (ho : PE X o to) (ha : PA X (e :: es) t)
   (hbase : attributeBase o name X.env (eval o X.env) = eval o X.env := by rfl)
   (hfew : ((backTo cpos (starEach (e :: es) X.env)).all (fun x=>!x.1) && (backToKw cpos (keywordEach [] X.env)).all (fun x=>x.1.isSome)
     && decide ((e :: es).length + ([] : List Keyword).length + (if ([] : List Keyword).isEmpty then 0 else 1) < 30)) = true := by rfl)
   (hline : (apos.endLine == cpos.line) = true := by rfl) (hs : starEach (e :: es) X.env = (false,eval e X.env) :: starEach es X.env := by rfl) (hplain : (backTo cpos (starEach es X.env)).any (·.1) = false := by rfl) :
   PE X (.Call (.Attribute o name apos) (e :: es) [] cpos) (tBM X.K T r to t) := by
 intro pins s σ H Q I h
 refine wpAny_Call_method_late hbase hfew hline rfl (thn (ho pins s σ H _ I h) fun v s1 ⟨x,H1,I1,r1,ty,q1⟩=>?_)
 obtain ⟨h1,h2⟩ := tyV_is I1 r1 ty
 refine ⟨T,id,pa,slot,hty,h1,h2,?_⟩
 have hA := ha cpos pins s1 σ H1 _ I1 q1
 rw [hs] at hA ⊢
 refine Calls.callWith_builtin (by show (false || (backTo cpos (starEach es X.env)).any (·.1)) = false;rw [hplain] <;> rfl) (Calls.evalArgs_plain ?_)
 exact thn hA fun us s2 ⟨vs,H2,I2,r2,q2⟩=>hm pins s2 σ H2 x vs v us Q I2 r1 r2 q2
end
def MtM (X : Cx) (id : String) (r : V→List V→Hp→VK→Prop) : Prop :=
 ∀ (pins : List (Addr×Obj)) (s : Shared) (σ : St) (H : Hp) (x : V) (xs : List V) (v : Value) (us : List Value) (Q : VK),Inv X pins σ H s→RelV x v→Vals xs us→r x xs H Q →
   wpAny (model X.prog X.w) X.A (call (.builtin id) (v :: us)) (EP X pins σ Q) X.xe s
theorem Vals.one : ∀ {x : V} {us : List Value},Vals [x] us→∃ u,us = [u]∧RelV x u
 | _,_,.cons r .nil=>⟨_,rfl,r⟩
section
variable {X : Cx} {pins : List (Addr×Obj)} {σ : St} {H : Hp} {s : Shared} {l b : Addr} {xs ys zs : List V}
theorem Inv.lset {its its' : List Value} {n : Nat} {f : Array Value→Array Value} {t' : Nat} (I : Inv X pins σ H s) (hH : H l = some (.lst xs))
   (e : s.heap.get? l = some { cls := .type "list",data := .seq its.toArray n }) (hf : f its.toArray = its'.toArray) (hv : Vals ys its') (hz : ys.length≤sizeLine) :
   Inv X pins σ (upd H l (.lst ys)) { s with heap := s.heap.update l (Obj.mapSeq f),toks := t' } := by
 have q := PySem.IsL.update e f
 rw [hf] at q
 refine I.write (x:=l) (e:=l) (by rw [hH];exact trivial) (.inl rfl) (fun b' u hb hu=>(Heap.get?_update_other s.heap (Obj.mapSeq f) (Ne.symm hb)).trans hu) ⟨_,q⟩ ?_
 exact ⟨hz,its',_,hv,q⟩
theorem Inv.lnew {its : List Value} {t' : Nat} (I : Inv X pins σ H s) (hv : Vals ys its) (hz : ys.length≤sizeLine) :
   Inv X pins σ (upd H s.heap.objs.size (.lst ys)) { s with heap := s.heap.push { cls := .type "list",data := .seq its.toArray },toks := t' } :=
 I.laid (fun _ _ q=>Heap.get?_push_of_some _ q) (Nat.le_refl _) ⟨hz,its,0,hv,Heap.get?_push_size _ rfl⟩
theorem Inv.fresh (I : Inv X pins σ H s) : H s.heap.objs.size = none := I.hok.fresh (Nat.le_refl _)
theorem Inv.lstM (I : Inv X pins σ H s) (hH : H l = some (.lst xs)) : xs.length≤sizeLine∧∃ (its : List Value) (n : Nat),Vals xs its∧xs.length = its.length∧s.heap.get? l = some { cls := .type "list",data := .seq its.toArray n } := by
 obtain ⟨z,its,n,r,e⟩ := I.hok l _ hH
 exact ⟨z,its,n,r,r.length,e⟩
end
section
variable {X : Cx}
def rAppend : V→List V→Hp→VK→Prop := fun x vs H Q=>∃ l xs y,x = .ref l∧vs = [y]∧H l = some (.lst xs)∧xs.length < sizeLine∧Q .non (upd H l (.lst (xs ++ [y])))
theorem mt_append : MtM X "list.append" rAppend := by
 intro pins s σ H x vs v us Q I rx rv h
 obtain ⟨l,xs,y,rfl,rfl,hH,hz,q⟩ := h
 cases rx
 obtain ⟨u,rfl,ru⟩ := rv.one
 obtain ⟨z,its,n,r,hl,e⟩ := I.lstM hH
 refine call_meets F.slot_list_append ⟨_,e,rfl⟩ F.entry_list_append (F.args_list_append_2 _ _) (PySem.list_append l its.toArray n u (by rw [List.size_toArray];lia)) ⟨e,?_⟩
 refine ⟨.non,_,I.lset (its' := its ++ [u]) hH e (by simp) (r.append (.cons ru .nil)) ?_,rfl,q⟩
 rw [List.length_append,List.length_singleton]
 lia
end
section
variable {prog : Program} {w : World} {A : Around} {E : Value→Shared→Prop} {s : Shared}
end
section
variable {X : Cx}
end
end L2
namespace Att
open PySem PySem.W PySem.Calls PyProof.Rows
theorem ints_of_wellAll {P : Params} {h : Heap} : ∀ (ns : List Int) (vs : List Value),WellAll P h vs (ns.map WData.int)→IntsAre vs ns := by
 intro ns
 induction ns with
 | nil =>
   intro vs w
   rw [List.map_nil] at w
   cases w
   exact .nil
 | cons n ns ih =>
   intro vs w
   rw [List.map_cons] at w
   cases w with
   | cons a b =>
     cases a
     exact .cons _ _ (ih _ b)
theorem script_of {l : OpenLaw} {n : Nat} (hn : l.most = some n) {P : Params} {h : Heap} {args : List WData} {vals : List Value}
   (hpre : l.row.toRowW.claim.pre args = true) (hwl : WellAll P h vals args) :
   ∃ a vs ns,vals = [Value.ref a]∧args = [WData.list (ns.map WData.int)]∧h.get? a = some { cls := .type "list",data := .seq vs.toArray }∧IntsAre vs ns∧ns.length≤n := by
 have hsh : WShape.hasAll [] args [.list .int] = true := (pre_splitW hpre).1
 have hc : l.pre.holds [] { args := args } = true := (pre_splitW hpre).2
 obtain ⟨d,r,rfl,h1,h2⟩ := hasAllW_cons hsh
 obtain rfl := hasAllW_nil h2
 obtain ⟨xs,rfl,h3⟩ := hasW_list h1
 obtain ⟨ns,rfl⟩ := items_int h3
 have hlen : ns.length≤n := by
   unfold OpenLaw.pre at hc
   have h4 : (WTm.not (.lt (.lit (.int (n : Int))) (.len (.arg 0)))).holds [] { args := [.list (ns.map .int)] } = true := by
     have h4 := (holds_andW hc).1
     rw [hn] at h4
     exact h4
   have h5 := condW_of h4 (w_not (w_lt w_lit (w_len_list (w_arg rfl))))
   rw [List.length_map] at h5
   refine Nat.le_of_not_lt fun q=>?_
   have q' : (n : Int) < ((ns.length : Nat) : Int) := by lia
   first
     | (rw [decide_eq_true q'] at h5;exact absurd h5 (by decide))
     | (simp at h5;lia)
 cases hwl with
 | cons w1 w2 =>
   cases w2
   cases w1 with
   | list ho hall=>exact ⟨_,_,ns,rfl,rfl,ho,ints_of_wellAll ns _ hall,hlen⟩
theorem post_true (l : OpenLaw) (args : List WData) : l.row.toRowW.claim.post args (.bool true) args = true :=
 postW_of (r:=l.row.toRowW) (X:=(true == true))
   (show WShape.has [] (.bool true) .bool = true by first | rfl | decide | simp [WShape.has,WShape.arms,WShape.armsAll])
   (show (WTm.eq .res (.lit (.bool true))).value [] { args := args,res := some (.bool true),after := args } = some (.bool (true == true)) from w_eq_bool (w_res rfl) w_lit) rfl
theorem attach_call {l : OpenLaw} {n : Nat} {q : Program} {loose : List Str} {XP : (Str→Option Value)→Heap→Prop} {YP : World→Heap→Prop} {d : DefRec}
   (hn : l.most = some n) (hdf : d.params.defaults = [])
   (call : ∀ (w : World) (s₀ s₁ : Shared) (mg mb : Str→Option Value) (fa : Addr) (o : Obj) (pm cd doc : Value) (a : Addr) (vs : List Value) (ns : List Int),
     Ground q loose [] XP w s₀ mg mb s₁.heap→YP w s₁.heap →
     s₁.heap.get? fa = some o→o.data = .func (docDef d.name d.params d.body d.scope pm cd doc)→s₁.heap.CodeRec cd d.name→mg d.name = some (.ref fa) →
     s₁.heap.get? a = some { cls := .type "list",data := .seq vs.toArray }→IntsAre vs ns→ns.length≤n→s₁.gens = #[] →
     codeAny (model l.prog w) callerA (.call (.ref fa) ⟨[.ref a],[]⟩) (fun r s'=>r = .ok (.ret (.bool true))∧OldK s₁.heap s'.heap∧s'.os = s₁.os∧AllBare s'.gens) s₁) :
   WalkO q loose XP YP l.row.toRowW d [] (fun f vs=>PySem.call f vs) := by
 intro w s₀ s₁ mg mb G Y fa o pm cd doc dV kV ho hd hcd hD hmg hg args vals as hpre hlay hrd hwl hlo
 obtain rfl : dV = .none := Dflts.none hD hdf
 obtain rfl : kV = .none := Dflts.noKw hD
 obtain ⟨a,vs,ns,rfl,rfl,hobj,hints,hlen⟩ := script_of hn hpre hwl
 refine enter_call (codeAny_mono (call w s₀ s₁ mg mb fa o pm cd doc a vs ns G Y ho (fd_plain hd) hcd hmg hobj hints hlen hg) fun r s' hq=>?_)
 obtain ⟨rfl,h2,h3,h4⟩ := hq
 exact ⟨.inl ⟨.bool true,.bool true,[],rfl,fun _=>rfl,.bool true,post_true l _,fun _=>⟨List.Pairwise.nil,fun _ hm=>(nomatch hm)⟩⟩,h2,h3,h4⟩
section
variable {prog : Program} {w : World} {A : Around} {E : Value→Shared→Prop} {s : Shared} {K : Frag}
end
end Att
namespace L2
open PySem PySem.Spec PyProof.Rows
theorem vals_ints : ∀ {vs : List Value} {ns : List Int},IntsAre vs ns→Vals (ns.map V.int) vs
 | _,_,.nil=>.nil
 | _,_,.cons n t h=>.cons ⟨t,rfl⟩ (vals_ints h)
def SL (K : PySem.W.Frag) (H : Hp) (a : Addr) (xs : List V) : Prop :=
 Rd H a (.lst xs)∨∃ (its : List Value) (n : Nat),K.lookup a = some { cls := .type "list",data := .seq its.toArray n }∧xs.length≤sizeLine∧Vals xs its
def Only (H : Hp) : Prop := ∀ b,H b = none∨∃ o xs,H b = some (.frz o (.lst xs))
theorem law_call {P : Program} {w : World} {K : PySem.W.Frag} {mg mb : Str→Option Value} {CX : CXT} {k : Nat} {fa a : Addr} {fd : FuncData} {x : Str} {sp : Sp} {s₁ : Shared} {vs : List Value} {ns : List Int}
   (KX : K.In s₁.heap) (hns : s₁.heap.Ns mainGlobals mg) (hb : s₁.heap.Ns builtinsNs mb) (hbb : ∀ x : Str,x ≠ "__name__" → mb x = bootBuiltins x) (hlim : s₁.heap.NoLimit) (hg : s₁.gens = #[])
   (ha : s₁.heap.get? a = some { cls := .type "list",data := .seq vs.toArray }) (hi : IntsAre vs ns) (hl : ns.length≤sizeLine) (hr : Room k callerA)
   (F : ∀ base : Heap,K.In base→base.Ns mainGlobals mg→FnOk P w K mg base CX k fa fd [x] sp) (hbind : ∀ (s : Shared) (u : Value),BindsTo s fd ⟨[u],[]⟩ [(x,u)])
   (hsp : ∀ H : Hp,Only H→SL K H a (ns.map V.int)→sp [.ref a] H (fun v _=>v = .bl true) fun _ _ _=>False)
   (hCX : ∀ H e s',CX [] H s₁ (fun _ _ _=>False) e s'→False) :
   codeAny (model P w) callerA (.call (.ref fa) ⟨[.ref a],[]⟩) (fun r s'=>r = .ok (.ret (.bool true))∧OldK s₁.heap s'.heap∧s'.os = s₁.os∧AllBare s'.gens) s₁ := by
 have rv := vals_ints hi
 have lenV := hi.length
 -- from an abstract heap in which nothing but the script may be tracked
 have core : ∀ H : Hp,Only H→SL K H a (ns.map V.int)→HOk P w H s₁.heap→(∀ b,H b≠none→b = a)→(H a≠none→K.lookup a = none) →
     codeAny (model P w) callerA (.call (.ref fa) ⟨[.ref a],[]⟩) (fun r s'=>r = .ok (.ret (.bool true))∧OldK s₁.heap s'.heap∧s'.os = s₁.os∧AllBare s'.gens) s₁ := by
   intro H hO hS hok hA hK
   have base_of : ∀ {b : Addr} {o : Obj},s₁.heap.get? b = some o→H b = none→(hidT s₁.heap H).get? b = some o := fun e n=>hidT_get e n
   have noA : ∀ {b : Addr} {o : Obj} {es : Array DictEntry} {ep : Nat},s₁.heap.get? b = some o→o.data = .dict es ep→H b = none := fun {b o es ep} e d=>by
     cases q : H b with
     | none=>rfl
     | some u =>
       have e' : b = a := hA b (by rw [q];simp)
       subst e'
       rw [ha] at e;cases e
       have d' : Data.seq vs.toArray _ = Data.dict es ep := d
       cases d'
   have nsK : ∀ {b : Addr} {m : Str→Option Value},s₁.heap.Ns b m→(hidT s₁.heap H).Ns b m := fun {b m} ⟨o,es,ep,e,d,r⟩=>⟨o,es,ep,base_of e (noA e d),d,r⟩
   have hKb : K.In (hidT s₁.heap H) := fun b o e=>base_of (KX b o e) (by
     cases q : H b with
     | none=>rfl
     | some u =>
       have e' : b = a := hA b (by rw [q];simp)
       subst e'
       rw [hK (by rw [q];simp)] at e;cases e)
   have hM : Mod K mg (hidT s₁.heap H) := ⟨hKb,nsK hns,⟨mb,nsK hb,hbb⟩,let ⟨mc,h1,h2⟩ := hlim;⟨mc,nsK h1,h2⟩⟩
   have e0 : Env0 P w K mg (hidT s₁.heap H) callerA [] s₁ H := ⟨rfl,hM,fun b o e=>of_hidT e,Nat.le_of_eq (hidT_size _ _),trivial,fun b hb=>absurd (show b∈([] : List Addr) from hb) (by simp),hok,.of_eq hg⟩
   refine codeAny_mono ((F _ hKb (nsK hns)).run callerA [] s₁ H ⟨[.ref a],[]⟩ [.ref a] [.ref a] _ _ hr e0 (hbind s₁ (.ref a)) (.cons rfl .nil) (hsp H hO hS)) fun r s' h=>?_
   cases r with
   | error e=>exact (hCX H e s' h).elim
   | ok fl =>
     cases fl with
     | next=>exact False.elim h
     | brk=>exact False.elim h
     | cont=>exact False.elim h
     | ret u =>
       obtain ⟨v,H',os,bare,un,hok',r',q⟩ := h
       have q' : v = .bl true := q
       subst q'
       obtain rfl : u = Value.bool true := r'
       refine ⟨rfl,OldK.of_keep fun b o e=>?_,os,bare⟩
       cases q : H b with
       | none=>exact un.keep b o e q (by intro z;exact absurd (show b∈([] : List Addr) from z) (by simp)) (by simp)
       | some u =>
         rcases hO b with z | ⟨ob,xs,z⟩
         · rw [q] at z;cases z
         · have z2 := un.frzs b ob _ z
           obtain ⟨e1,_⟩ := hok b _ z
           obtain ⟨e2,_⟩ := hok' b _ z2
           rw [e] at e1;cases e1
           exact e2
 cases hk : K.lookup a with
 | some o =>
   -- the script is one of the module's own objects
   have e := KX a o hk
   rw [ha] at e
   cases e
   refine core (fun _=>none) (fun _=>.inl rfl) (.inr ⟨vs,_,hk,by rw [List.length_map];exact hl,rv⟩) (fun b u z=>by have z' : (none : Option HO) = some u := z;cases z') (fun b z=>absurd rfl z) fun z=>absurd rfl z
 | none =>
   refine core (fun b=>if b = a then some (.frz { cls := .type "list",data := .seq vs.toArray } (.lst (ns.map V.int))) else none) (fun b=>?_) (.inl (.inr ⟨{ cls := .type "list",data := .seq vs.toArray },if_pos rfl⟩)) (fun b u z=>?_) (fun b z=>?_) fun _=>hk
   · by_cases hb : b = a
     · exact .inr ⟨_,_,if_pos hb⟩
     · exact .inl (if_neg hb)
   · by_cases hb : b = a
     · have z' := (if_pos hb).symm.trans z
       cases z'
       subst hb
       exact ⟨ha,by rw [List.length_map];exact hl,vs,_,rv,ha⟩
     · have z' := (if_neg hb).symm.trans z
       cases z'
   · by_cases hb : b = a
     · exact hb
     · exact absurd (if_neg hb) z
theorem walk_of {l : PySem.W.OpenLaw} {n k : Nat} {q : Program} {loose : List Str} {XP : (Str→Option Value)→Heap→Prop} {YP : World→Heap→Prop} {d : DefRec} {K : Params→PySem.W.Frag} {CX : World→CXT} {sp : World→Sp} {x : Str}
   (hn : l.most = some n) (hn2 : n≤sizeLine) (hdf : d.params.defaults = []) (hr : Room k callerA)
   (hY : ∀ (w : World) (h : Heap),YP w h→(K w.params).In h)
   (F : ∀ (w : World) (mg : Str→Option Value) (fa : Addr) (h : Heap),(K w.params).In h→h.Ns mainGlobals mg→mg d.name = some (.ref fa) →
     ∃ fd : FuncData,(∀ (s : Shared) (u : Value),BindsTo s fd ⟨[u],[]⟩ [(x,u)]) ∧
       ∀ base : Heap,(K w.params).In base→base.Ns mainGlobals mg→FnOk l.prog w (K w.params) mg base (CX w) k fa fd [x] (sp w))
   (hsp : ∀ (w : World) (H : Hp) (a : Addr) (ns : List Int),ns.length≤n→Only H→SL (K w.params) H a (ns.map V.int)→sp w [.ref a] H (fun v _=>v = .bl true) fun _ _ _=>False)
   (hCX : ∀ (w : World) (H : Hp) (s : Shared) (e : Value) (s' : Shared),CX w [] H s (fun _ _ _=>False) e s'→False) :
   PySem.W.WalkO q loose XP YP l.row.toRowW d [] (fun f vs=>PySem.call f vs) := by
 refine Att.attach_call hn hdf fun w s₀ s₁ mg mb fa o pm cd doc a vs ns G Y ho hd hcd hmg hobj hints hlen hg=>?_
 have KX := hY w _ Y
 obtain ⟨fd,hb,hF⟩ := F w mg fa _ KX G.T.g hmg
 exact law_call KX G.T.g G.T.b G.T.builtins G.T.nolimit hg hobj hints (Nat.le_trans hlen hn2) hr hF hb (fun H hO hS=>hsp w H a ns hlen hO hS) fun H e s'=>hCX w H s₁ e s'
noncomputable def inClass (s : Stmt) (j : Nat) : Stmt := match s with
 | .ClassDef _ _ _ body _ _ _ _ _ _ _=>body.getD j (.Pass ⟨0,0,0,0⟩)
 | _=>.Pass ⟨0,0,0,0⟩
noncomputable def defArgs (s : Stmt) : Arguments := match s with
 | .FunctionDef _ a _ _ _ _ _ _ _ _=>a
 | _=>{ posonlyargs := [],args := [],vararg := none,kwonlyargs := [],kw_defaults := [],kwarg := none,defaults := [] }
noncomputable def defBody (s : Stmt) : List Stmt := match s with
 | .FunctionDef _ _ b _ _ _ _ _ _ _=>b
 | _=>[]
noncomputable def defScope (s : Stmt) : Scope := match s with
 | .FunctionDef _ _ _ _ _ _ sc _ _ _=>sc
 | _=>{ kind := .function,names := [],isGenerator := false,isCoroutine := false }
abbrev CX0 : CXT := fun _ _ _ _ _ _=>False
abbrev E0 : XK := fun _ _ _=>False
theorem pass0 {X : Cx} : Passes CX0 X E0 := fun _ _ _ _ _ _ _ h=>h.elim
structure Fun (K : PySem.W.Frag) (x qual : Str) (st : Stmt) (f : Addr) (fd : FuncData) : Prop where
 ex : ∃ (oc : Value) (od : Option Addr) (kV doc pm : Value) (an : Option Addr) (cdv ct : Value) (osl : Array (Option Value)),
   fd = PySem.W.fnOf x qual (defArgs st) (defBody st) (defScope st) .none kV doc pm an cdv ct∧K.lookup f = some ⟨oc,od,.func fd,osl⟩∧PySem.W.codeIn K cdv qual = true
 kp : PySem.W.keepIn K (.ref f) = true
section
variable {P : Program} {w : World} {K : PySem.W.Frag} {mg : Str→Option Value} {base : Heap}
theorem Fun.ok {x qual : Str} {st : Stmt} {f : Addr} {fd : FuncData} {N ps : List Str} {k : Nat} {sp : Sp} (F : Fun K x qual st f fd) (S : FnScope N ps (defScope st)) (len : ∀ vs H Q E,sp vs H Q E→vs.length = ps.length)
   (hbody : ∀ (cdv : Value) (A : Around) (outer : List Env) (s : Shared) (H : Hp) (vs : List V) (Q : VK) (E : XK),Room k (A.deeper (envOfC qual (defScope st) s.heap.objs.size f cdv))→sp vs H Q E →
     ∃ t,PSs (cxOf CX0 P w K mg base N qual (defScope st) f cdv A outer s H E).nox (defBody st) t∧t { nx := fun _ H'=>Q .non H',rt := Q } (start N vs) H) : FnOk P w K mg base CX0 (k + 1) f fd ps sp := by
 obtain ⟨oc,od,kV,doc,pm,an,cdv,ct,osl,rfl,lk,hcd⟩ := F.ex
 refine fn_of lk hcd S len fun A outer s H vs Q E hr hsp=>?_
 obtain ⟨t,h,q⟩ := hbody cdv A outer s H vs Q E hr hsp
 exact ⟨t,h.nox,q⟩
theorem Fun.binds {x qual : Str} {st : Stmt} {f : Addr} {fd : FuncData} {ps : List Str} (F : Fun K x qual st f fd)
   (h : ∀ (kV doc pm : Value) (an : Option Addr) (cdv ct : Value) (us : List Value),us.length = ps.length→bindArgs (PySem.W.fnOf x qual (defArgs st) (defBody st) (defScope st) .none kV doc pm an cdv ct) ⟨us,[]⟩ = pure (ps.zip us)) : Binds K fd ps [] := by
 obtain ⟨oc,od,kV,doc,pm,an,cdv,ct,osl,rfl,lk,hcd⟩ := F.ex
 exact .all (h kV doc pm an cdv ct)
theorem fun_mk {x qual : Str} {st : Stmt} {f : Addr} {oc : Value} {od an : Option Addr} {osl : Array (Option Value)} {kV doc pm cdv ct : Value} (l : K.lookup f = some ⟨oc,od,.func (PySem.W.fnOf x qual (defArgs st) (defBody st) (defScope st) .none kV doc pm an cdv ct),osl⟩)
   (c : PySem.W.codeIn K cdv qual = true) (k : PySem.W.keepIn K (.ref f) = true) : Fun K x qual st f (PySem.W.fnOf x qual (defArgs st) (defBody st) (defScope st) .none kV doc pm an cdv ct) := ⟨⟨oc,od,kV,doc,pm,an,cdv,ct,osl,rfl,l,c⟩,k⟩
end
theorem hu_of {A : Around} {k : Nat} (hr : Room k A) : A.units + 1 < cLine := Nat.lt_of_le_of_lt (Nat.add_le_add_left (by decide : 1≤64) _) hr.units
theorem small1000 {n : Nat} (h : n≤1000) : n < sizeLine := Nat.lt_of_le_of_lt h (by decide)
section
variable {X : Cx}
theorem pv (i : Nat) {x : Str} {pos : Pos} (hN : X.N[i]? = some x := by rfl) (hv : Vis X.env.scope x := by first | exact Or.inl rfl | exact Or.inr (Or.inl rfl) | exact Or.inr (Or.inr rfl)) (hd : (x == ("__debug__" : Str)) = false := by decide)
   (hcd : (x == ("__classdict__" : Str)) = false := by decide) : PE X (.Name x pos) (tVar i) := pe_var hN hv hd hcd
end
theorem iteF {A B : Prop} (h : B) : if false = true then A else B := by
 rw [if_neg Bool.false_ne_true]
 exact h
theorem iteT {A B : Prop} (h : A) : if true = true then A else B := by
 rw [if_pos rfl]
 exact h
def Same (H H' : Hp) : Prop := ∀ b o,H b = some o→H' b = some o
theorem Same.refl (H : Hp) : Same H H := fun _ _ h=>h
theorem Same.trans {H H1 H2 : Hp} (a : Same H H1) (b : Same H1 H2) : Same H H2 := fun c o h=>b c o (a c o h)
theorem Same.free {H H' : Hp} (e : Same H H') {l : Addr} (h : H' l = Option.none) : H l = Option.none := by
 cases q : H l with
 | none=>rfl
 | some o =>
   rw [e l o q] at h
   cases h
theorem compLoop_go {prog : Program} {w : World} {A : Around} {R : Result→Shared→Prop} {s : Shared} {elt target iter : Expr} {ifs : List Expr} {scope : Scope} {pos : Pos} {it acc : Value} {env : Env} (I : Nat→Shared→Prop)
   (turn : ∀ n s,I n s→wpAny (model prog w) A (pyNext it) (fun r s₁=>match r with
     | none=>R (.ok .next) s₁
     | some v=>wpAny (model prog w) A (letOwnedTupleGo target it v) (fun _ s₁'=>wpAny (model prog w) A (assign target env v) (fun _ s₂ =>
         wpAny (model prog w) A (forIn ifs true fun c r=>if r = true then do let ok ← isTrue c env (eval c env);pure (ForInStep.yield ok) else pure (ForInStep.yield r)) (fun ok s₃ =>
           if ok = true then wpAny (model prog w) A (eval elt env) (fun x s₄ =>
             wpAny (model prog w) A (call (.builtin "list.append") [acc,x]) (fun _ s₅=>∃ m,m < n∧I m s₅) (fun _ _=>False) s₄) (fun _ _=>False) s₃
           else ∃ m,m < n∧I m s₃) (fun _ _=>False) s₂) (fun _ _=>False) s₁') (fun _ _=>False) s₁) (fun _ _=>False) s)
   (n : Nat) (h : I n s) :
   codeAny (model prog w) A (.compLoop (.ListComp elt [⟨target,iter,ifs,0⟩] scope pos) 0 it acc env) R s := by
 refine codeAny_loop rfl I (fun n s hI=>?_) n h
 show wpAny _ A ((compTurn (.ListComp elt [⟨target,iter,ifs,0⟩] scope pos) 0 it acc env).onRaise (fun x=>do noteFrame x env;theTreesLotGoes x)) _ _ s
 refine wpAny_noted ?_
 rw [compTurn_list]
 refine wpAny_bind (wpAny_standAt (wpAny_bind (wpAny_mono (turn n s hI) (fun r s₁ h₁=>?_) fun _ _ h'=>h'.elim)))
 cases r with
 | none=>exact wpAny_pure h₁
 | some v =>
   refine wpAny_bind (wpAny_mono h₁ (fun _ s₁' h₁'=>?_) fun _ _ h'=>h'.elim)
   refine wpAny_bind (wpAny_mono h₁' (fun _ s₂ h₂=>wpAny_bind (wpAny_mono h₂ (fun ok s₃ h₃=>?_) fun _ _ h'=>h'.elim)) fun _ _ h'=>h'.elim)
   cases ok with
   | false=>exact wpAny_pure ⟨rfl,h₃⟩
   | true =>
     exact wpAny_bind (wpAny_bind (wpAny_mono h₃ (fun x s₄ h₄=>wpAny_bind (wpAny_mono h₄ (fun _ s₅ h₅=>wpAny_pure (wpAny_pure ⟨rfl,h₅⟩)) fun _ _ h'=>h'.elim)) fun _ _ h'=>h'.elim))
noncomputable def clOf (cells : List (Str×Addr)) : List (Str×NameKind)→List (Str×Addr)→List (Str×Addr)
 | [],acc=>acc
 | (n,k) :: r,acc=>clOf cells r (if k == .free then (n,(cells.lookup n).getD 0) :: acc else acc)
theorem closure_ok {sc : Scope} {env : Env} (h : ∀ y∈sc.names,y.2 = .free→∃ c,env.cells.lookup y.1 = some c) : closureFor sc env = pure (clOf env.cells sc.names []) := by
 unfold closureFor
 generalize ([] : List (Str×Addr)) = acc
 generalize hl : sc.names = names at h
 clear hl
 induction names generalizing acc with
 | nil=>rfl
 | cons y r ih =>
   obtain ⟨n,k⟩ := y
   have ih' := fun acc=>ih acc fun y hy=>h y (List.mem_cons_of_mem _ hy)
   dsimp only at ih' ⊢
   rw [List.forIn_cons]
   by_cases hk : k = .free
   · subst hk
     obtain ⟨c,hc⟩ := h (n,.free) List.mem_cons_self rfl
     simp only [cellOf,hc,beq_self_eq_true,if_true,pure_bind,clOf,Option.getD_some]
     exact ih' _
   · have hb : (k == NameKind.free) = false := by simpa using hk
     simp only [hb,Bool.false_eq_true,if_false,pure_bind,clOf]
     exact ih' _
theorem lookup_clOf {cells : List (Str×Addr)} : ∀ (names : List (Str×NameKind)) (acc : List (Str×Addr)),(∀ y∈names,y.2 = .free→∃ c,cells.lookup y.1 = some c)→(∀ x c,acc.lookup x = some c→cells.lookup x = some c) →
   ∀ x c,(clOf cells names acc).lookup x = some c→cells.lookup x = some c
 | [],_,_,ha,x,c,e=>ha x c e
 | (n,k) :: r,acc,h,ha,x,c,e=>by
   unfold clOf at e
   refine lookup_clOf r _ (fun y hy=>h y (List.mem_cons_of_mem _ hy)) (fun x' c' e'=>?_) x c e
   split at e'
   · rename_i hk
     have hk' : k = .free := by simpa using hk
     obtain ⟨c0,hc0⟩ := h (n,k) List.mem_cons_self hk'
     simp only at hc0
     rw [List.lookup_cons] at e'
     split at e'
     · rename_i hx
       have hx' : x' = n := by simpa using hx
       subst hx'
       rw [hc0] at e'
       simp at e'
       rw [hc0,e']
     · exact ha x' c' e'
   · exact ha x' c' e'
theorem clOf_has {cells : List (Str×Addr)} : ∀ (names : List (Str×NameKind)) (acc : List (Str×Addr)) (x : Str),((x,NameKind.free)∈names∨(acc.lookup x).isSome = true)→((clOf cells names acc).lookup x).isSome = true
 | [],acc,x,h=>by
   rcases h with h | h
   · simp at h
   · exact h
 | (n,k) :: r,acc,x,h=>by
   unfold clOf
   refine clOf_has r _ x ?_
   rcases h with h | h
   · rcases List.mem_cons.mp h with e | h
     · cases e
       right
       simp
     · exact .inl h
   · right
     split
     · rw [List.lookup_cons]
       split
       · rfl
       · exact h
     · exact h
noncomputable def compCx (X : Cx) (sc : Scope) (N : List Str) (C : Addr) (s : Shared) (H : Hp) (fp : List Addr) : Cx :=
 { X with N := N,s₀ := s,H₀ := H,env := compEnvC sc (clOf X.env.cells sc.names []) C X.env,outer := X.stack,ex := fp,fn := fun _=>false,pn := [],xe := fun _ _=>False }
noncomputable def compB (psc sc : Scope) (NX N : List Str) (fs : List (Option Nat)) : Bool :=
 N.length == fs.length && (N.zip fs).all (fun p=>match p.2 with | none=>true | some j=>NX[j]? == some p.1 && sc.names.lookup p.1 == some .free) &&
 sc.names.all (fun y=>y.2 != .cell && (y.2 != .free || (psc.names.lookup y.1 == some .cell || psc.names.lookup y.1 == some .free)) && (y.2 != .local || sc.names.lookup y.1 == some .local)) && sc.kind == .function
structure CompOk (psc sc : Scope) (NX N : List Str) (fs : List (Option Nat)) : Prop where
 len : N.length = fs.length
 frees : ∀ (i j : Nat),fs[i]? = some (some j)→∃ x,N[i]? = some x∧NX[j]? = some x∧sc.names.lookup x = some .free
 nocell : ∀ y∈sc.names,y.2≠.cell
 par : ∀ y∈sc.names,y.2 = .free→psc.names.lookup y.1 = some .cell∨psc.names.lookup y.1 = some .free
 loc : ∀ y∈sc.names,y.2 = .local→sc.names.lookup y.1 = some .local
 kind : sc.kind = .function
theorem CompOk.of {psc sc : Scope} {NX N : List Str} {fs : List (Option Nat)} (h : compB psc sc NX N fs = true) : CompOk psc sc NX N fs := by
 unfold compB at h
 simp only [Bool.and_eq_true,beq_iff_eq,List.all_eq_true,bne_iff_ne,ne_eq,Bool.or_eq_true] at h
 obtain ⟨⟨⟨h1,h2⟩,h3⟩,h4⟩ := h
 refine ⟨h1,fun i j e=>?_,fun y hy=>(h3 y hy).1.1,fun y hy e=>?_,fun y hy e=>?_,h4⟩
 · have hi : i < fs.length := (List.getElem?_eq_some_iff.mp e).1
   have hN : i < N.length := by lia
   have hz : (N.zip fs)[i]? = some (N[i],some j) := by
     rw [List.getElem?_zip_eq_some]
     exact ⟨by simp [hN],e⟩
   have := h2 _ (List.mem_of_getElem? hz)
   simp only [Bool.and_eq_true,beq_iff_eq] at this
   exact ⟨N[i],by simp [hN],this.1,this.2⟩
 · rcases (h3 y hy).1.2 with z | z
   · exact absurd e z
   · exact z
 · rcases (h3 y hy).2 with z | z
   · exact absurd e z
   · exact z
theorem relabel_kinds {sc : Scope} {env : Env} {x : Str} {k : NameKind} (nc : ∀ y∈sc.names,y.2≠.cell) (h : (relabel sc env).names.lookup x = some k) (hk : k = .cell∨k = .free) : (x,NameKind.free)∈sc.names := by
 have hm := PySem.mem_of_lookup h
 unfold relabel at hm
 simp only [List.mem_map] at hm
 obtain ⟨⟨n,k'⟩,hy,e⟩ := hm
 dsimp only at e
 split at e
 · rename_i hc
   simp only [Bool.and_eq_true,beq_iff_eq] at hc
   cases e
   rw [hc.1.1] at hy
   exact hy
 · cases e
   rcases hk with z | z
   · exact absurd z (nc _ hy)
   · rw [z] at hy;exact hy
theorem relabel_free {sc : Scope} {env : Env} {x : Str} (h : sc.names.lookup x = some .free) : (relabel sc env).names.lookup x = some .cell∨(relabel sc env).names.lookup x = some .free := by
 unfold relabel
 dsimp only
 generalize sc.names = names at h
 induction names with
 | nil=>simp at h
 | cons y r ih =>
   obtain ⟨n,k⟩ := y
   rw [List.lookup_cons] at h
   rw [List.map_cons]
   split at h
   · rename_i hx
     cases h
     have : x = n := by simpa using hx
     subst this
     dsimp only
     split
     · left;rw [List.lookup_cons];simp
     · right;rw [List.lookup_cons];simp
   · rename_i hx
     dsimp only
     split
     · rw [List.lookup_cons,hx];exact ih h
     · rw [List.lookup_cons,hx];exact ih h
section
variable {X : Cx} {pins : List (Addr×Obj)} {σ : St} {H : Hp} {s : Shared} {sc psc : Scope} {N : List Str} {fs : List (Option Nat)} {C : Addr} {fp : List Addr}
theorem comp_cells (I : Inv X pins σ H s) (hp : X.env.scope = psc) (S : CompOk psc sc X.N N fs) : ∀ y∈sc.names,y.2 = .free→∃ c,X.env.cells.lookup y.1 = some c := fun y hy e=>by
 refine I.ok.has y.1 ?_
 have := S.par y hy e
 rw [← hp] at this
 exact this
theorem comp_cl (I : Inv X pins σ H s) (hp : X.env.scope = psc) (S : CompOk psc sc X.N N fs) : ∀ x c,(clOf X.env.cells sc.names []).lookup x = some c→X.env.cells.lookup x = some c :=
 lookup_clOf sc.names [] (comp_cells I hp S) fun x c e=>by simp at e
theorem compCx_ok (I : Inv X pins σ H s) (hp : X.env.scope = psc) (S : CompOk psc sc X.N N fs) (hf : ∀ b∈fp,FpOk X pins H b) (hfl : ∀ b∈fp,b < s.heap.objs.size) (hC : s.heap.objs.size≤C) : (compCx X sc N C s H fp).Ok where
 mod := I.ok.mod
 kind := S.kind
 glob := I.ok.glob
 blt := I.ok.blt
 above := hC
 inj := fun x y c h1 h2=>I.ok.inj x y c (comp_cl I hp S x c h1) (comp_cl I hp S y c h2)
 has := fun x hx=>by
   have hm : (x,NameKind.free)∈sc.names := by
     rcases hx with hx | hx
     · exact relabel_kinds S.nocell hx (.inl rfl)
     · exact relabel_kinds S.nocell hx (.inr rfl)
   exact Option.isSome_iff_exists.mp (clOf_has sc.names [] x (.inl hm))
 cab := fun x c h _=>by cases h
 hd := I.ok.hd
 frames := I.ok.frames
 stk := .inl rfl
 exf := fun b hb=>⟨Nat.ne_of_lt (Nat.lt_of_lt_of_le (hfl b hb) hC),fun x c e=>(hf b hb).2.2.2.2.1 x c (comp_cl I hp S x c e)⟩
 bs := I.bs
 bsz := Nat.le_trans I.ok.bsz I.sz
 noex := fun b o e hb=>by
   rcases (hf b hb).2.2.2.1 with z | z
   · exact I.ok.noex b o e z
   · exact absurd (Nat.lt_of_lt_of_le (Heap.lt_size e) (Nat.le_trans I.ok.bsz z)) (Nat.lt_irrefl _)
 exfs := fun b hb hs=>by
   rcases List.mem_cons.mp (I.stkSub b hs) with z | z
   · exact (hf b hb).2.1 z
   · exact (hf b hb).2.2.1 z
 funs := I.stack
 frf := I.stkFree
noncomputable def inner (fs : List (Option Nat)) (σ : St) : St := fs.map fun o=>match o with | none=>none | some j=>(σ[j]?).getD none
theorem comp_start {h₁ : Heap} {tk : Nat} {D : Addr} {oD : Obj} {m₁ : Str→Option Value} (I : Inv X pins σ H s) (hp : X.env.scope = psc) (S : CompOk psc sc X.N N fs) (hf : ∀ b∈fp,FpOk X pins H b) (hfl : ∀ b∈fp,b < s.heap.objs.size) (hC : s.heap.objs.size≤C)
   (old : ∀ b o,s.heap.get? b = some o→h₁.get? b = some o) (hn : h₁.Ns C m₁) (hD : h₁.get? D = some oD) (hDs : s.heap.objs.size≤D) (hDC : D≠C) (hDd : ∀ v,oD.data≠.cell v) :
   Inv (compCx X sc N C s H fp) [(D,oD)] (inner fs σ) H { s with heap := h₁,toks := tk } := by
 refine ⟨compCx_ok I hp S hf hfl hC,rfl,I.bare,Un.kept old,⟨m₁,hn,fun i x v e1 e2 e3=>?_⟩,fun x c e=>?_,I.hok.fresh hC,fun x c e=>I.freeC x c (comp_cl I hp S x c e),fun p hpn=>?_,I.hok.kept old,?_⟩
 · unfold inner at e2
   rw [List.getElem?_map] at e2
   cases hfi : fs[i]? with
   | none=>rw [hfi] at e2;cases e2
   | some o =>
     rw [hfi] at e2
     cases o with
     | none=>simp at e2
     | some j =>
       simp only [Option.map_some,Option.some.injEq] at e2
       obtain ⟨x',ex,ej,el⟩ := S.frees i j hfi
       have : x' = x := by
         have q : N[i]? = some x := e1
         rw [ex] at q;exact Option.some.inj q
       subst this
       have ev : σ[j]? = some (some v) := by
         cases q : σ[j]? with
         | none=>rw [q] at e2;simp at e2
         | some z=>rw [q] at e2;simp at e2;rw [e2]
       have kk : X.env.scope.names.lookup x' = some .cell∨X.env.scope.names.lookup x' = some .free := by
         rw [hp];exact S.par (x',.free) (PySem.mem_of_lookup el) rfl
       obtain ⟨m,hm,hl⟩ := I.loc
       obtain ⟨u,r,l⟩ := hl j x' v ej ev (by
         rcases kk with k | k
         · exact .inr (.inl k)
         · exact .inr (.inr k))
       refine ⟨u,r,.inr ⟨relabel_free el,?_⟩⟩
       rcases l with ⟨k,_⟩ | ⟨_,c,hc,hcell⟩
       · have k' : X.env.scope.names.lookup x' = some .local := k
         rcases kk with z | z <;> rw [z] at k' <;> cases k'
       · obtain ⟨c',hc'⟩ := Option.isSome_iff_exists.mp (clOf_has (cells:=X.env.cells) sc.names [] x' (.inl (PySem.mem_of_lookup el)))
         have := comp_cl I hp S x' c' hc'
         rw [hc] at this
         cases this
         obtain ⟨oc,ho,hd⟩ := hcell
         exact ⟨c,hc',oc,old _ _ ho,hd⟩
 · obtain ⟨v,oc,ho,hd⟩ := I.cell x c (comp_cl I hp S x c e)
   exact ⟨v,oc,old _ _ ho,hd⟩
 · have hpn' : p = (D,oD) := by
     rcases List.mem_append.mp hpn with z | z
     · exact absurd (show p∈([] : List (Addr×Obj)) from z) (by simp)
     · simpa using z
   subst hpn'
   refine ⟨hD,I.hok.fresh hDs,hDC,fun hs=>?_,hDd⟩
   have hb : D∈X.env.locals :: X.fs := I.stkSub D hs
   rcases List.mem_cons.mp hb with z | z
   · exact absurd (Nat.lt_of_lt_of_le I.lt (by rw [← z];exact hDs)) (Nat.lt_irrefl _)
   · exact I.nofs hDs z
 · show (inner fs σ).length = N.length
   unfold inner
   rw [List.length_map,S.len]
theorem HOk.adopt {P : Program} {w : World} {H : Hp} {h : Heap} {D : Addr} {ys : List V} {its : List Value} {n : Nat} (ok : HOk P w H h) (hD : H D = none) (ho : h.get? D = some { cls := .type "list",data := .seq its.toArray n }) (r : Vals ys its) (hz : ys.length≤sizeLine) :
   HOk P w (upd H D (.lst ys)) h := fun b u e=>by
 by_cases hb : b = D
 · subst hb
   rw [upd_same] at e
   cases e
   exact ⟨hz,its,n,r,ho⟩
 · rw [upd_ne hb] at e
   refine (ok b u e).stay (fun c v _ q=>q) (fun c q=>?_) fun c xs q=>?_
   · rw [upd_ne (ne_of_none q hD)];exact q
   · rw [upd_ne (ne_of_none q hD)];exact q
theorem Un.adopt {fs ex : List Addr} {H H' : Hp} {h h' : Heap} {D : Addr} {o : HO} (u : Un fs ex H H' h h') (hD : h.objs.size≤D) (hn : H' D = none) : Un fs ex H (upd H' D o) h h' where
 keep := u.keep
 slot := u.slot
 free := fun b ob q n hx=>by rw [upd_ne (Nat.ne_of_lt (Nat.lt_of_lt_of_le (Heap.lt_size q) hD))];exact u.free b ob q n hx
 there := u.there
 tups := fun b xs q=>by rw [upd_ne (ne_of_none (u.tups b xs q) hn)];exact u.tups b xs q
 frzs := fun b ob x q=>by rw [upd_ne (ne_of_none (u.frzs b ob x q) hn)];exact u.frzs b ob x q
 tbls := fun b ps q=>by
   obtain ⟨more,e⟩ := u.tbls b ps q
   exact ⟨more,by rw [upd_ne (ne_of_none e hn)];exact e⟩
def PIf (Y : Cx) (ifs : List Expr) (tt : TT) : Prop :=
 ∀ (pins : List (Addr×Obj)) (s : Shared) (σ : St) (H : Hp) (Q : Bool→Hp→Prop),Inv Y pins σ H s→tt σ H Q →
   wpAny (model Y.prog Y.w) Y.A (forIn ifs true fun c r=>if r = true then do let ok ← isTrue c Y.env (eval c Y.env);pure (ForInStep.yield ok) else pure (ForInStep.yield r)) (TP Y pins σ Q) Y.xe s
def tYes : TT := fun _ H Q=>Q true H
theorem pif_nil {Y : Cx} : PIf Y [] tYes := fun _ _ _ H _ I h=>wpAny_tests_nil ⟨H,I,h⟩
theorem pif_one {Y : Cx} {c : Expr} {tc : TT} (h : PT Y c tc) : PIf Y [c] tc := fun pins s σ H Q I q=>wpAny_tests_one (h pins s σ H Q I q)
def Ext (σ σ2 : St) : Prop := σ.length = σ2.length∧∀ (i : Nat) v,σ[i]? = some (some v)→σ2[i]? = some (some v)
def tComp (wi : TI) (fs : List (Option Nat)) (g : TG) (tt : TT) (te : TE) : TE := fun σ H Q=>wi σ H fun J H1=>∃ W : Nat→Nat→List V→Hp→Prop,(∃ m,W 0 m [] H1)∧∀ i m ys H,W i m ys H →
 (J.stop i H∧ys.length≤sizeLine∧∀ p,H p = none→Q (.ref p) (upd H p (.lst ys))) ∨
 (J.go i H∧ys.length≤sizeLine∧∃ N : List V→Hp→Prop,(∀ ys' H',N ys' H'→∃ m',m' < m∧W (i + 1) m' ys' H')∧∀ x H',J.yld i H x H'→g x (inner fs σ) H' fun σ2 H2=>Ext (inner fs σ) σ2 ∧
   tt σ2 H2 fun b H3=>if b = true then te σ2 H3 fun v H4=>N (ys ++ [v]) H4 else N ys H3)
theorem block_go {elt tg iter : Expr} {ifs : List Expr} {pos : Pos} {it : Addr} {tn : Nat→Heap→Prop} {J : It} {g : TG} {tt : TT} {te : TE} {E : Value→Shared→Prop} {RR : Value→Addr→Result→Shared→Prop}
   (hp : X.env.scope = psc) (S : CompOk psc sc X.N N fs) (hc : X.calm = true)
   (hb : ∀ (C : Addr) (s : Shared) (H : Hp) (fp : List Addr),PG (compCx X sc N C s H fp) tg g∧PIf (compCx X sc N C s H fp) ifs tt∧PE (compCx X sc N C s H fp) elt te)
   (I : Inv X pins σ H s) (T : Turn X.prog X.w X.K tg J fp it tn) (st : tn 0 s.heap) (hf : ∀ b∈fp,FpOk X pins H b) {Q : VK}
   (hW : ∃ W : Nat→Nat→List V→Hp→Prop,(∃ m,W 0 m [] H)∧∀ i m ys H,W i m ys H →
     (J.stop i H∧ys.length≤sizeLine∧∀ p,H p = none→Q (.ref p) (upd H p (.lst ys))) ∨
     (J.go i H∧ys.length≤sizeLine∧∃ N : List V→Hp→Prop,(∀ ys' H',N ys' H'→∃ m',m' < m∧W (i + 1) m' ys' H')∧∀ x H',J.yld i H x H'→g x (inner fs σ) H' fun σ2 H2=>Ext (inner fs σ) σ2 ∧
       tt σ2 H2 fun b H3=>if b = true then te σ2 H3 fun v H4=>N (ys ++ [v]) H4 else N ys H3))
   (hRR : ∀ (D C : Addr) (s' : Shared) (H' : Hp),(∃ m,s'.heap.Ns C m)→Inv X pins σ H' s'→FpOk X pins H' C→Q (.ref D) H'→RR (.ref D) C (.ok .next) s') :
   wpAny (model X.prog X.w) X.A (newList []) (fun acc s₃=>wpAny (model X.prog X.w) X.A (newFunctionEnv sc X.env.globals (clOf X.env.cells sc.names []) [] X.env.qual none .none (some X.env)) (fun cenv s₄ =>
     codeAny (model X.prog X.w) X.A (.compStart (.ListComp elt [⟨tg,iter,ifs,0⟩] sc pos) 0 (.ref it) acc { cenv with scope := relabel sc X.env }) (RR acc cenv.locals) s₄) E s₃) E s := by
 refine wpAny_newObj_type (wpAny_newFunctionEnv S.nocell (by intro y hy;simp at hy) (fun h₁ hns₁ hsb₁=>?_) S.kind)
 dsimp only at hns₁ hsb₁ ⊢
 generalize hH2 : s.heap.push { cls := .type "list",dict := none,data := .seq ([] : List Value).toArray } = G2 at hns₁ hsb₁ ⊢
 have hC : G2.objs.size = s.heap.objs.size + 1 := by rw [← hH2,Heap.size_push]
 have hDC : s.heap.objs.size≠G2.objs.size := by rw [hC];exact Nat.ne_of_lt (Nat.lt_succ_self _)
 have hCle : s.heap.objs.size≤G2.objs.size := by rw [hC];exact Nat.le_succ _
 have below : ∀ b,b < s.heap.objs.size→b≠G2.objs.size∧b≠s.heap.objs.size := fun b hb=>⟨by rw [hC];exact Nat.ne_of_lt (Nat.lt_succ_of_lt hb),Nat.ne_of_lt hb⟩
 have hfl : ∀ b∈fp,b < s.heap.objs.size := fun b hb=>by
   obtain ⟨o,e,_⟩ := T.obj _ _ st b hb
   exact Heap.lt_size e
 have old : ∀ b o,s.heap.get? b = some o→h₁.get? b = some o := fun b o e=>hsb₁.extBut b o (below b (Heap.lt_size e)).1 (Heap.get?_push_of_some _ (hH2 ▸ Heap.get?_push_of_some _ e))
 have hacc : h₁.get? s.heap.objs.size = some { cls := .type "list",data := .seq ([] : List Value).toArray 0 } := hsb₁.extBut _ _ hDC (Heap.get?_push_of_some _ (hH2 ▸ Heap.get?_push_size _ rfl))
 have st1 : tn 0 h₁ := T.keep _ _ _ st fun b _ o e=>old b o e
 obtain ⟨W,⟨m0,w0⟩,turn⟩ := hW
 obtain ⟨pg,pif,pe⟩ := hb G2.objs.size s H fp
 generalize hY : compCx X sc N G2.objs.size s H fp = Y at pg pif pe
 have Ye : Y.env = compEnvC sc (clOf X.env.cells sc.names []) G2.objs.size X.env := by rw [← hY];rfl
 have YA : Y.A = X.A := by rw [← hY];rfl
 have Yp : Y.prog = X.prog := by rw [← hY];rfl
 have Yw : Y.w = X.w := by rw [← hY];rfl
 have YK : Y.K = X.K := by rw [← hY];rfl
 have Yx : Y.xe = fun _ _=>False := by rw [← hY];rfl
 have Yc : Y.calm = true := by rw [← hY];exact hc
 have cellN : ∀ x c,X.env.cells.lookup x = some c→c < s.heap.objs.size := fun x c e=>by
   obtain ⟨v,q⟩ := I.cell x c e
   exact q.lt
 have loop : ∀ s₃ : Shared,s₃ = { s with heap := h₁,toks := s.toks + ([] : List (Str×Value)).length } →
     codeAny (model X.prog X.w) X.A (.compLoop (.ListComp elt [⟨tg,iter,ifs,0⟩] sc pos) 0 (.ref it) (.ref s.heap.objs.size) (compEnvC sc (clOf X.env.cells sc.names []) G2.objs.size X.env)) (RR (.ref s.heap.objs.size) G2.objs.size) s₃ := by
   rintro s₃ rfl
   refine compLoop_go (fun n s'=>∃ (i : Nat) (H' : Hp) (ys : List V) (its : List Value) (k : Nat),Vals ys its∧Inv Y [(s.heap.objs.size,{ cls := .type "list",data := .seq its.toArray k })] (inner fs σ) H' s'∧tn i s'.heap∧(∀ b∈fp,H' b = none)∧W i n ys H') ?_ m0
     ⟨0,H,[],[],0,.nil,hY ▸ comp_start (D:=s.heap.objs.size) I hp S hf hfl hCle old hns₁ hacc (Nat.le_refl _) hDC (fun v z=>by cases z),st1,fun b hb=>(hf b hb).1,w0⟩
   rintro n s1 ⟨i,H1,ys,its,k,rv,I1,st',fr1,w1⟩
   have stat : ∀ {H' : Hp} {pl : List (Addr×Obj)},(∀ b∈fp,H' b = none)→(∀ p∈pl,p.1 = s.heap.objs.size)→∀ b∈fp,FpOk Y pl H' b := fun {H' pl} hn hpl b hb=>by
     rw [← hY]
     refine ⟨hn b hb,(below b (hfl b hb)).1,fun z=>?_,.inl hb,fun x c e=>(hf b hb).2.2.2.2.1 x c (comp_cl I hp S x c e),fun p hpp=>?_⟩
     · rcases List.mem_cons.mp (I.stkSub b z) with z | z
       · exact (hf b hb).2.1 z
       · exact (hf b hb).2.2.1 z
     · have hpp' : p∈pl := by
         rcases List.mem_append.mp hpp with z | z
         · exact absurd (show p∈([] : List (Addr×Obj)) from z) (by simp)
         · exact z
       rw [hpl p hpp']
       exact Ne.symm (below b (hfl b hb)).2
   have one : ∀ {o : Obj} (p : Addr×Obj),p∈([(s.heap.objs.size,o)] : List (Addr×Obj))→p.1 = s.heap.objs.size := fun {o} p hpp=>by
     have : p = _ := List.mem_singleton.mp hpp
     rw [this]
   rcases turn i n ys H1 w1 with ⟨stop,hz,qn⟩ | ⟨go,hz,N',hN,step⟩
   · have := T.done Y Yp Yw YK Yc i _ s1 _ H1 (fun _ _=>False) I1 (stat fr1 one) st' stop
     rw [YA] at this
     refine thn this fun r s4 ⟨hr,I4⟩=>?_
     subst hr
     have Ib := I4.base
     have pinD := I4.pin (s.heap.objs.size,_) (List.mem_append_right _ List.mem_cons_self)
     obtain ⟨mC,hmC,_⟩ := I4.loc
     have e1 : Y.fs = frs X.stack := by rw [← hY];rfl
     have e2 : Y.ex = fp := by rw [← hY];rfl
     have e3 : Y.H₀ = H := by rw [← hY];rfl
     have e4 : Y.s₀ = s := by rw [← hY];rfl
     have e5 : Y.env.locals = G2.objs.size := by rw [← hY];rfl
     rw [e1,e2,e3,e4] at Ib
     rw [e5] at hmC
     have hok4 : HOk X.prog X.w H1 s4.heap := by
       have := I4.hok
       rw [Yp,Yw] at this
       exact this
     have freeC : H1 G2.objs.size = none := by have := I4.free;rw [e5] at this;exact this
     have freeC' : upd H1 s.heap.objs.size (.lst ys) G2.objs.size = none := by rw [upd_ne (Ne.symm hDC)];exact freeC
     have os4 : s4.os = s.os := by have := I4.os;rw [e4] at this;exact this
     refine hRR _ _ s4 (upd H1 s.heap.objs.size (.lst ys)) ⟨mC,hmC⟩ ?_ (I.fpOk hCle freeC') (qn _ pinD.2.1)
     exact I.call' (s' := s4) (ch:=fp) os4 (Ib.adopt (Nat.le_refl _) pinD.2.1) (hok4.adopt pinD.2.1 pinD.1 rv hz) I4.bare fun b hb=>⟨(hf b hb).2.2.2.1,(hf b hb).2.1,(hf b hb).2.2.2.2.1,(hf b hb).2.2.2.2.2⟩
   · have := T.item Y Yp Yw YK Yc i _ s1 _ H1 (fun _ _=>False) I1 (stat fr1 one) st' go
     rw [YA] at this
     refine thn this fun r s4 ⟨u,hr,h4⟩=>?_
     subst hr
     refine thn h4 fun _ s5 ⟨x,H5,I5,r5,y5,st5,fr5⟩=>?_
     have I5' := I5.pinned (stat fr5 one) (T.obj _ _ st5)
     have a1 := pg _ s5 _ H5 x u _ I5' r5 (step x H5 y5)
     rw [YA,Yp,Yw,Yx,Ye] at a1
     refine thn a1 fun _ s6 ⟨σ6,H6,I6,ext,q6⟩=>?_
     have a2 := pif _ s6 σ6 H6 _ I6 q6
     rw [YA,Yp,Yw,Yx,Ye] at a2
     refine thn a2 fun b s7 ⟨H7,I7,q7⟩=>?_
     have back : ∀ {H8 : Hp} {s8 : Shared},Inv Y ([(s.heap.objs.size,({ cls := .type "list",data := .seq its.toArray k } : Obj))] ++ pinsAt fp s5.heap) σ6 H8 s8→Inv Y [(s.heap.objs.size,{ cls := .type "list",data := .seq its.toArray k })] (inner fs σ) H8 s8∧tn (i + 1) s8.heap∧∀ b∈fp,H8 b = none := fun {H8 s8} I8 =>
       ⟨I8.unpinned.weak ext.1 ext.2,T.keep _ _ _ st5 fun b hb o e=>(I8.pin (b,o) (List.mem_append_right _ (List.mem_append_right _ (mem_pinsAt hb e)))).1,fun b hb=>by
         obtain ⟨o,e,d⟩ := T.obj _ _ st5 b hb
         exact (I8.pin (b,o) (List.mem_append_right _ (List.mem_append_right _ (mem_pinsAt hb e)))).2.1⟩
     cases b with
     | false =>
       rw [if_neg Bool.false_ne_true] at q7 ⊢
       obtain ⟨m',hm,w7⟩ := hN _ _ q7
       obtain ⟨I7',st7,fr7⟩ := back I7
       exact ⟨m',hm,i + 1,H7,ys,its,k,rv,I7',st7,fr7,w7⟩
     | true =>
       rw [if_pos rfl] at q7 ⊢
       have a3 := pe _ s7 σ6 H7 _ I7 q7
       rw [YA,Yp,Yw,Yx,Ye] at a3
       refine thn a3 fun y s8 ⟨v,H8,I8,r8,q8⟩=>?_
       obtain ⟨m',hm,w8⟩ := hN _ _ q8
       obtain ⟨I8',st8,fr8⟩ := back I8
       have pinD := I8'.pin (s.heap.objs.size,_) (List.mem_append_right _ List.mem_cons_self)
       refine append_at (hsz:=by show its.toArray.size≤sizeLine;rw [List.size_toArray,← rv.length];exact hz) pinD.1 fun h9 hs9 hD9=>?_
       have e5 : Y.env.locals = G2.objs.size := by rw [← hY];rfl
       have I9 : Inv Y [] (inner fs σ) H8 { s8 with heap := h9 } := by
         have J0 : Inv Y [] (inner fs σ) H8 s8 := I8'.pins_of fun p hp=>absurd hp (by simp)
         refine J0.turned (t' := s8.toks) (it:=s.heap.objs.size) (fun b o hb e=>hs9.extBut b o hb e) pinD.2.1 (by rw [e5];exact hDC) (.inr ?_) (fun x c e=>?_) fun p hp=>?_
         · rw [← hY];exact Nat.le_refl _
         · rw [← hY] at e
           exact Nat.ne_of_lt (cellN x c (comp_cl I hp S x c e))
         · rw [← hY] at hp
           exact absurd (show p∈([] : List (Addr×Obj)) from hp) (by simp)
       refine ⟨m',hm,i + 1,H8,ys ++ [v],its ++ [y],k + 1,rv.append (.cons r8 .nil),I9.pins_of fun p hp=>?_,T.keep _ _ _ st8 fun b hb o e=>hs9.extBut b o (below b (hfl b hb)).2 e,fr8,w8⟩
       have : p = _ := List.mem_singleton.mp hp
       subst this
       refine ⟨?_,pinD.2.1,pinD.2.2.1,pinD.2.2.2.1,fun v z=>by cases z⟩
       have e9 : its.toArray.push y = (its ++ [y]).toArray := by simp
       rw [← e9]
       exact hD9
 exact codeAny_compStart_list (loop _ rfl) (T.self _ 0 _ _ _ st1 (loop _ rfl))
theorem Inv.letGo {H' : Hp} {h' : Heap} (I : Inv X pins σ H s) (f : FpOk X pins H C) (hs : Heap.SameBut C s.heap h') : Inv X pins σ H { s with heap := h' } := by
 obtain ⟨f0,f1,f2,f3,f4,f5⟩ := f
 exact I.turned (t' := s.toks) (fun b o hb e=>hs.extBut b o hb e) f0 f1 f3 f4 f5
theorem pe_comp {elt tg iter : Expr} {ifs : List Expr} {pos : Pos} {wi : TI} {g : TG} {tt : TT} {te : TE} (psc : Scope) (fs : List (Option Nat)) (N : List Str) (hp : X.env.scope = psc) (S : CompOk psc sc X.N N fs) (hc : X.calm = true) (hi : PI X tg iter wi)
   (hb : ∀ (C : Addr) (s : Shared) (H : Hp) (fp : List Addr),PG (compCx X sc N C s H fp) tg g∧PIf (compCx X sc N C s H fp) ifs tt∧PE (compCx X sc N C s H fp) elt te)
   (hs : ∀ x,foldedSetIterable iter X.env x = pure x := by intro _;rfl) : PE X (.ListComp elt [⟨tg,iter,ifs,0⟩] sc pos) (tComp wi fs g tt te) := by
 intro pins s σ H Q I h
 rw [eval_ListComp]
 refine wpAny_comprehension_free (use:=none) rfl hs (closure_ok (comp_cells I hp S)) S.kind S.loc (thn (hi pins s σ H _ I h) fun xv s₁ h₁=>thn h₁ fun itv s₂ h₂=>?_)
 obtain ⟨it,fp,tn,J,H2,e,I2,T,st2,f2,hW⟩ := h₂
 subst e
 refine block_go (RR:=fun acc C=>compPost (model X.prog X.w) X.A X.xe none (EP X pins σ Q) acc C) hp S hc hb I2 T st2 f2 hW ?_
 intro D C s' H' ⟨m,hm⟩ I' f q
 exact ⟨m,hm,fun h' hs'=>⟨.ref D,H',I'.letGo (H' := H') f hs',rfl,q⟩⟩
theorem ps_setComp {i : Nat} {x : Str} {elt tg iter : Expr} {ifs : List Expr} {pos pos' spos : Pos} {wi : TI} {g : TG} {tt : TT} {te : TE} (hN : X.N.Nodup) (hi' : X.N[i]? = some x) (hx : Loc X.env.scope x) (psc : Scope) (fs : List (Option Nat)) (N : List Str) (hp : X.env.scope = psc) (S : CompOk psc sc X.N N fs) (hc : X.calm = true) (hi : PI X tg iter wi)
   (hb : ∀ (C : Addr) (s : Shared) (H : Hp) (fp : List Addr),PG (compCx X sc N C s H fp) tg g∧PIf (compCx X sc N C s H fp) ifs tt∧PE (compCx X sc N C s H fp) elt te)
   (hs : ∀ x,foldedSetIterable iter X.env x = pure x := by intro _;rfl) (hsw : swapsWith (.ListComp elt [⟨tg,iter,ifs,0⟩] sc pos) (some (.Name x pos')) spos.line X.env = pure true := by rfl)
   (hf : X.fn x = true∨X.env.scope.names.lookup x = some .local := by first | exact .inl rfl | exact .inr rfl | assumption) :
   PS X (.Assign [.Name x pos'] (.ListComp elt [⟨tg,iter,ifs,0⟩] sc pos) spos) (tAsg (tComp wi fs g tt te) (gName i)) := by
 intro pins s σ H D I h
 rw [exec_Assign_Name_used _ _ _ _ hsw]
 refine wpAny_bind (wpAny_standAt (wpAny_bind ?_))
 show wpAny _ X.A (do let _ ← comprehension (.ListComp elt [⟨tg,iter,ifs,0⟩] sc pos) sc X.env _ (newList []) false (eval iter X.env) (some (assign (.Name x pos') X.env))) _ _ s
 refine wpAny_bind (wpAny_mono (wpAny_comprehension_free (use:=some (assign (.Name x pos') X.env)) (Q:=fun _ s'=>SP X pins D .next s') rfl hs (closure_ok (comp_cells I hp S)) S.kind S.loc
   (thn (hi pins s σ H _ I h) fun xv s₁ h₁=>thn h₁ fun itv s₂ h₂=>?_)) (fun _ s' hq=>wpAny_pure (wpAny_pure hq)) fun _ _ e=>e)
 obtain ⟨it,fp,tn,J,H2,e,I2,T,st2,f2,hW⟩ := h₂
 subst e
 refine block_go (Q:=fun v H'=>gName i v σ H' D.nx) (RR:=fun acc C=>compPost (model X.prog X.w) X.A X.xe (some (assign (.Name x pos') X.env)) (fun _ s'=>SP X pins D .next s') acc C) hp S hc hb I2 T st2 f2 hW ?_
 intro L C s' H' ⟨m,hm⟩ I' f q
 refine wpAny_assign_Name (store_ok2 I' hN hi' hx (show RelV (V.ref L) (Value.ref L) from rfl) (fun s'' I'' ⟨a,hsb,ha⟩=>?_) hf)
 have hCa : C≠a := by
   rintro rfl
   rcases ha with z | z
   · exact f.2.1 z
   · exact f.2.2.2.2.1 x _ z rfl
 refine ⟨m,hm.sameBut hsb hCa,fun h' hs'=>⟨_,H',I''.letGo (H' := H') f hs',q⟩⟩
end
section
variable {t u : TS} {a b c : St→Hp→Prop} {r : VK} {σ : St} {H : Hp} {te ta tb : TE} {tc td : TT} {Q : VK} {i : Nat}
end
section
variable {X : Cx}
def rLenA (K : PySem.W.Frag) : List V→Hp→VK→Prop := fun xs H Q=>(∃ p ys,xs = [.ref p]∧(SqL K H p ys∨SqT K H p ys)∧(ys.length≤sizeLine→Q (.int ys.length) H))∨∃ z,xs = [.str z]∧z.length≤sizeLine∧Q (.int z.length) H
theorem call_lenA : CallR X (.builtin "len") (rLenA X.K) := by
 intro pins s σ H xs us Q I r h
 rcases h with ⟨p,ys,e,hq,q⟩ | h
 · refine call_len_seq pins s σ H xs us Q I r ⟨p,ys,e,hq,q ?_⟩
   rcases hq with hq | hq
   · exact (I.list hq).choose_spec.2.2
   · exact (I.tuple hq).choose_spec.2.2
 · exact call_len_str pins s σ H xs us Q I r h
theorem PI.or {tg iter : Expr} {w1 w2 : TI} (h1 : PI X tg iter w1) (h2 : PI X tg iter w2) : PI X tg iter (fun σ H R=>w1 σ H R∨w2 σ H R) := by
 intro pins s σ H R I h
 rcases h with h | h
 · exact h1 pins s σ H R I h
 · exact h2 pins s σ H R I h
def iSeq (K : PySem.W.Frag) (tl : TE) : TI := fun σ H R=>iList K tl σ H R∨iTup K tl σ H R
theorem pi_seq {tg l : Expr} {tl : TE} (hl : PE X l tl) : PI X tg l (iSeq X.K tl) := (pi_list hl).or (pi_tup hl)
end
section
variable {K : PySem.W.Frag} {tl : TE} {ta : TA} {g : TG} {tb : TS} {D : Ends} {σ : St} {H : Hp} {a b c : St→Hp→Prop} {r : VK}
variable {tt : TT} {te : TE} {fs : List (Option Nat)} {Q : VK}
end
structure Def (K : PySem.W.Frag) (mg : Str→Option Value) (x : Str) (st : Stmt) : Prop where
 ex : ∃ f fd,Fun K x x st f fd∧mg x = some (.ref f)
structure Cal (P : Program) (w : World) (K : PySem.W.Frag) (mg : Str→Option Value) (base : Heap) (k : Nat) (x : Str) (ps : List Str) (sp : Sp) : Prop where
 ex : ∃ f fd,FnOk P w K mg base CX0 k f fd ps sp∧mg x = some (.ref f)∧PySem.W.keepIn K (.ref f) = true∧Binds K fd ps []
def tCal (sp : Sp) (t : TA) : TE := fun σ H Q=>t σ H fun vs H1=>sp vs H1 Q E0
section
variable {P : Program} {w : World} {K : PySem.W.Frag} {mg : Str→Option Value} {base : Heap}
theorem pe_cal {X : Cx} {k : Nat} {x : Str} {ps : List Str} {sp : Sp} {p pos : Pos} {e : Expr} {es : List Expr} {t : TA} (C : Cal X.prog X.w X.K X.mg X.base k x ps sp) (hr : Room k X.A) (ha : PA X (e :: es) t) (hg : Gl X x := by rfl)
   (hdb : (x == ("__debug__" : Str)) = false := by decide) (he : starEach (e :: es) X.env = (false,eval e X.env) :: starEach es X.env := by rfl) (hpl : (backTo pos (starEach es X.env)).any (·.1) = false := by rfl) :
   PE X (.Call (.Name x p) (e :: es) [] pos) (tCal sp t) := by
 obtain ⟨f,fd,F,hm,hk,hb⟩ := C.ex
 have := pe_call (dvs:=[]) (ds:=[]) (E:=E0) F hr hg hm hk hb .nil pass0 ha hdb he hpl (p:=p)
 intro pins s σ H Q I h
 refine this pins s σ H Q I ?_
 unfold tCall
 simp only [List.append_nil]
 exact h
theorem cal_of {x : Str} {st : Stmt} {N ps : List Str} {k : Nat} {sp : Sp} (D : Def K mg x st) (S : FnScope N ps (defScope st))
   (hbi : ∀ (kV doc pm : Value) (an : Option Addr) (cdv ct : Value) (us : List Value),us.length = ps.length→bindArgs (PySem.W.fnOf x x (defArgs st) (defBody st) (defScope st) .none kV doc pm an cdv ct) ⟨us,[]⟩ = pure (ps.zip us))
   (len : ∀ vs H Q E,sp vs H Q E→vs.length = ps.length)
   (hbody : ∀ (f : Addr) (cdv : Value) (A : Around) (outer : List Env) (s : Shared) (H : Hp) (vs : List V) (Q : VK) (E : XK),Room k (A.deeper (envOfC x (defScope st) s.heap.objs.size f cdv))→sp vs H Q E →
     ∃ t,PSs (cxOf CX0 P w K mg base N x (defScope st) f cdv A outer s H E).nox (defBody st) t∧t (Ends.mk (fun _ H'=>Q .non H') Q (fun _ _=>False) (fun _ _=>False)) (start N vs) H) : Cal P w K mg base (k + 1) x ps sp := by
 obtain ⟨f,fd,F,hm⟩ := D.ex
 exact ⟨f,fd,F.ok S len (fun cdv A outer s H vs Q E hr h=>hbody f cdv A outer s H vs Q E hr h),hm,F.kp,F.binds hbi⟩
theorem fn_body {x : Str} {st : Stmt} {f : Addr} {fd : FuncData} {N ps : List Str} {k : Nat} {sp : Sp} (F : Fun K x x st f fd) (S : FnScope N ps (defScope st)) (len : ∀ vs H Q E,sp vs H Q E→vs.length = ps.length)
   (hbody : ∀ (cdv : Value) (A : Around) (outer : List Env) (s : Shared) (H : Hp) (vs : List V) (Q : VK) (E : XK),Room k (A.deeper (envOfC x (defScope st) s.heap.objs.size f cdv))→sp vs H Q E →
     ∃ t,PSs (cxOf CX0 P w K mg base N x (defScope st) f cdv A outer s H E).nox (defBody st) t∧t (Ends.mk (fun _ H'=>Q .non H') Q (fun _ _=>False) (fun _ _=>False)) (start N vs) H) : FnOk P w K mg base CX0 (k + 1) f fd ps sp :=
 F.ok S len hbody
end
theorem Same.new {H : Hp} {l : Addr} {o : HO} (h : H l = none) : Same H (upd H l o) := fun b u e=>by rw [upd_ne (ne_of_none e h)];exact e
theorem Same.seqT {K : PySem.W.Frag} {H H' : Hp} {a : Addr} {xs : List V} (e : Same H H') (h : SqT K H a xs) : SqT K H' a xs := by
 rcases h with h | h
 · exact .inl (e _ _ h)
 · exact .inr h
section
variable {X : Cx}
theorem pe_bty {x : Str} {T : String} {pos : Pos} (hg : Gl X x) (hm : X.mg x = none) (hv : bootBuiltins x = some (.type T)) (hn : x ≠ "__name__" := by decide) (hd : (x == ("__debug__" : Str)) = false := by decide) : PE X (.Name x pos) (tC (.ty T)) :=
 pe_bltn (v:=.ty T) hg hm hv rfl hn hd
noncomputable def kitB (T n : String) : Option Bool := if (Value.type T == Value.type n) = true then some true else if PySem.W.kitMeta n = true then (PySem.fastBuiltinMro T).map (·.contains (.type n)) else none
theorem kit_of {K : PySem.W.Frag} {T n : String} {b : Bool} (h : kitB T n = some b) : PySem.W.kitOne K (.type T) (.type n) = some b := h
end
section
variable {X : Cx}
def rSlS : V→Option Int→Option Int→Hp→VK→Prop := fun x lo hi H Q=>∃ z,x = .str z∧z.length≤sizeLine∧Q (.str (Txt.slice z lo hi)) H
theorem sl_str : SlR X rSlS := by
 intro pins s σ H x v vl vu lo hi sl Q I rx hs pl pu h
 obtain ⟨z,rfl,hz,q⟩ := h
 obtain ⟨t,rfl⟩ := rx
 have fin : ∀ t' k,EP X pins σ Q (.str (Txt.slice z lo hi) t') { s with toks := k } := fun t' k=>⟨.str (Txt.slice z lo hi),H,I.tok _,⟨_,rfl⟩,q⟩
 refine ⟨"str",_,F.slot_str_getitem.lookup,typeIs_str _ _ _,?_⟩
 cases pl with
 | none =>
   cases pu with
   | none=>exact wpAny_getItem_str_slice (l:=none) (u:=none) (st:=none) hs rfl (post_val_or_str ⟨Nat.le_trans (Txt.slice_le z _ _) hz,fin⟩)
   | int j tj=>exact wpAny_getItem_str_slice (l:=none) (u:=some (j,tj)) (st:=none) hs rfl (post_val_or_str ⟨Nat.le_trans (Txt.slice_le z _ _) hz,fin⟩)
 | int i ti =>
   cases pu with
   | none=>exact wpAny_getItem_str_slice (l:=some (i,ti)) (u:=none) (st:=none) hs rfl (post_val_or_str ⟨Nat.le_trans (Txt.slice_le z _ _) hz,fin⟩)
   | int j tj=>exact wpAny_getItem_str_slice (l:=some (i,ti)) (u:=some (j,tj)) (st:=none) hs rfl (post_val_or_str ⟨Nat.le_trans (Txt.slice_le z _ _) hz,fin⟩)
def rSlA (K : PySem.W.Frag) : V→Option Int→Option Int→Hp→VK→Prop := fun x lo hi H Q=>rSlL K x lo hi H Q∨rSlT K x lo hi H Q∨rSlS x lo hi H Q
theorem sl_A : SlR X (rSlA X.K) := sl_list.or (sl_tup.or sl_str)
theorem vals_of_ints {ns : List Int} : ∀ {us : List Value},IntsAre us ns→Vals (ns.map V.int) us := by
 intro us h
 induction h with
 | nil=>exact .nil
 | cons n t h ih=>exact .cons ⟨t,rfl⟩ ih
def rSorted (K : PySem.W.Frag) : List V→Hp→VK→Prop := fun xs H Q=>∃ p ns,xs = [.ref p]∧SqL K H p (ns.map V.int)∧ns.length < 64 ∧
 ∀ (ms : List Int) (l : Addr),ms.Perm ns→ms.Pairwise (·≤·)→H l = none→Q (.ref l) (upd H l (.lst (ms.map V.int)))
theorem call_sortedL : CallR X (.builtin "sorted") (rSorted X.K) := by
 intro pins s σ H xs us Q I r h
 obtain ⟨p,ns,rfl,hq,h64,q⟩ := h
 obtain ⟨u,rfl,rx⟩ := vals1 r
 cases rx
 obtain ⟨its,r',pl,hz⟩ := I.list hq
 have hlen := r'.length
 rw [List.length_map] at hlen
 refine sorted_ints pl.isList (intsAre_of r') (by lia) fun out ms h1 h2 h3=>?_
 obtain ⟨e,he⟩ := sortedAll_at s.heap its out
 have hl : ms.length = ns.length := h2.length_eq
 refine ⟨.ref (s.heap.objs.size + 1),upd H (s.heap.objs.size + 1) (.lst (ms.map V.int)),I.laid (t' := s.toks) (fun b o q=>sortedAll_old q) (Nat.le_succ _) ?_,rfl,q ms _ h2 h3 (I.hok.fresh (Nat.le_succ _))⟩
 refine ⟨by rw [List.length_map] at hz ⊢;lia,out.toList,e,vals_of_ints h1,?_⟩
 rw [he]
theorem truth_bools {A : Around} {its : List Value} {bs : List Bool} (r : Vals (bs.map V.bl) its) : TruthOf X.prog X.w A (fun i v=>its.toArray[i]? = some v) (fun i=>bs.getD i false) := by
 intro i v s Q E hv h
 have hv' : its[i]? = some v := by simpa using hv
 have hi : i < its.length := (List.getElem?_eq_some_iff.mp hv').1
 have hl := r.length
 rw [List.length_map] at hl
 have hb : (bs.map V.bl)[i]? = some (V.bl (bs[i]'(by lia))) := by simp [show i < bs.length by lia]
 obtain ⟨u,hu,ru⟩ := r.get hb
 rw [hv'] at hu
 cases hu
 cases ru
 have : bs.getD i false = bs[i]'(by lia) := by simp [List.getD,show i < bs.length by lia]
 have h' : Q (bs.getD i false) s := h
 rw [this] at h'
 exact wpAny_truthy_bool h'
theorem all_range (bs : List Bool) : (List.range bs.length).all (fun i=>bs.getD i false) = bs.all id := by
 induction bs with
 | nil=>rfl
 | cons b bs ih =>
   rw [List.length_cons,List.range_succ_eq_map,List.all_cons,List.all_map,List.all_cons]
   have : (fun i=>(b :: bs).getD i false) ∘ Nat.succ = fun i=>bs.getD i false := by funext i;rfl
   rw [this,ih]
   rfl
theorem any_range (bs : List Bool) : (List.range bs.length).any (fun i=>bs.getD i false) = bs.any id := by
 induction bs with
 | nil=>rfl
 | cons b bs ih =>
   rw [List.length_cons,List.range_succ_eq_map,List.any_cons,List.any_map,List.any_cons]
   have : (fun i=>(b :: bs).getD i false) ∘ Nat.succ = fun i=>bs.getD i false := by funext i;rfl
   rw [this,ih]
   rfl
def rAll (K : PySem.W.Frag) : List V→Hp→VK→Prop := fun xs H Q=>∃ (p : Addr) (bs : List Bool),xs = [.ref p]∧SqL K H p (bs.map V.bl)∧Q (.bl (bs.all id)) H
def rAny (K : PySem.W.Frag) : List V→Hp→VK→Prop := fun xs H Q=>∃ (p : Addr) (bs : List Bool),xs = [.ref p]∧SqL K H p (bs.map V.bl)∧Q (.bl (bs.any id)) H
theorem call_allA (hc : X.calm = true) : CallR X (.builtin "all") (rAll X.K) := by
 intro pins s σ H xs us Q I r h
 obtain ⟨p,bs,rfl,hq,q⟩ := h
 obtain ⟨u,rfl,rx⟩ := vals1 r
 cases rx
 obtain ⟨its,r',pl,hz⟩ := I.list hq
 have hl := pl.isList
 have hlt : p < s.heap.objs.size := by obtain ⟨o,e,_⟩ := hl;exact Heap.lt_size e
 have hlen := r'.length
 rw [List.length_map] at hlen
 refine call_all_walk (wpAny_pyIter_list hl ⟨s.heap.objs.size,_,_,_,_,_,fun i=>bs.getD i false,rfl,Walks.list (A:=X.A.in1) (I.ok.hd hc) s.heap.objs.size p (Nat.ne_of_lt hlt) its.toArray,⟨⟨_,Heap.get?_push_size _ rfl,rfl,rfl⟩,hl.push _⟩,truth_bools r',fun h' tk hk=>?_⟩)
 have e : (List.range its.toArray.size).all (fun i=>bs.getD i false) = bs.all id := by rw [List.size_toArray,← hlen];exact all_range bs
 rw [e]
 exact ⟨.bl _,H,I.kept (h' := h') (t' := tk) (fun b o e=>hk b o (by simpa using Nat.ne_of_lt (Heap.lt_size e)) (Heap.get?_push_of_some _ e)),rfl,q⟩
theorem call_anyA (hc : X.calm = true) : CallR X (.builtin "any") (rAny X.K) := by
 intro pins s σ H xs us Q I r h
 obtain ⟨p,bs,rfl,hq,q⟩ := h
 obtain ⟨u,rfl,rx⟩ := vals1 r
 cases rx
 obtain ⟨its,r',pl,hz⟩ := I.list hq
 have hl := pl.isList
 have hlt : p < s.heap.objs.size := by obtain ⟨o,e,_⟩ := hl;exact Heap.lt_size e
 have hlen := r'.length
 rw [List.length_map] at hlen
 refine call_any_walk (wpAny_pyIter_list hl ⟨s.heap.objs.size,_,_,_,_,_,fun i=>bs.getD i false,rfl,Walks.list (A:=X.A.in1) (I.ok.hd hc) s.heap.objs.size p (Nat.ne_of_lt hlt) its.toArray,⟨⟨_,Heap.get?_push_size _ rfl,rfl,rfl⟩,hl.push _⟩,truth_bools r',fun h' tk hk=>?_⟩)
 have e : (List.range its.toArray.size).any (fun i=>bs.getD i false) = bs.any id := by rw [List.size_toArray,← hlen];exact any_range bs
 rw [e]
 exact ⟨.bl _,H,I.kept (h' := h') (t' := tk) (fun b o e=>hk b o (by simpa using Nat.ne_of_lt (Heap.lt_size e)) (Heap.get?_push_of_some _ e)),rfl,q⟩
end
noncomputable abbrev cl (z : Str) : List Nat := z.cps.toList
theorem cl_len (z : Str) : (cl z).length = z.length := by simp [cl,Str.length]
theorem cl_app (x y : Str) : cl (x ++ y) = cl x ++ cl y := by
 show (x.cps ++ y.cps).toList = _
 simp [cl]
noncomputable def cutL {α : Type} (xs : List α) (lo hi : Option Int) : List α := (xs.drop (HT.sIx xs.length 0 lo)).take (HT.sIx xs.length xs.length hi - HT.sIx xs.length 0 lo)
theorem pick_nat (xs : List Nat) (i k : Nat) : ((List.range k).map fun (m : Nat)=>((i : Int) + 1 * (m : Int)).toNat).filterMap (xs[·]?) = (xs.drop i).take k := by
 rw [List.filterMap_map]
 induction k generalizing i with
 | zero=>simp
 | succ k ih =>
   rw [List.range_succ_eq_map,List.filterMap_cons,List.filterMap_map]
   have e0 : ((fun x=>xs[x]?) ∘ fun m : Nat=>((i : Int) + 1 * (m : Int)).toNat) 0 = xs[i]? := by simp [Function.comp]
   rw [e0]
   have e1 : (((fun x=>xs[x]?) ∘ fun m : Nat=>((i : Int) + 1 * (m : Int)).toNat) ∘ Nat.succ) = ((fun x=>xs[x]?) ∘ fun m : Nat=>(((i + 1 : Nat) : Int) + 1 * (m : Int)).toNat) := by
     funext m
     simp only [Function.comp,Nat.succ_eq_add_one]
     congr 1
     lia
   rw [e1,ih]
   cases h : xs[i]? with
   | none =>
     have hl : xs.length≤i := List.getElem?_eq_none_iff.mp h
     simp [List.drop_eq_nil_of_le hl,List.drop_eq_nil_of_le (Nat.le_succ_of_le hl)]
   | some c =>
     obtain ⟨hi,hc⟩ := List.getElem?_eq_some_iff.mp h
     rw [List.drop_eq_getElem_cons hi,List.take_succ_cons,hc]
theorem idx_eq (lo hi : Option Int) (n : Nat) : Builtin.Str.strSliceIndices lo hi 1 n = (List.range (HT.sIx n n hi - HT.sIx n 0 lo)).map fun (m : Nat)=>(((HT.sIx n 0 lo : Nat) : Int) + 1 * (m : Int)).toNat := by
 have c : ∀ (v : Option Int) (d : Nat),(match v with | none=>(d : Int) | some i=>(let i := if i < 0 then i + (n : Int) else i;if (1 : Int) > 0 then max 0 (min i (n : Int)) else max (-1) (min i ((n : Int) - 1)))) = ((HT.sIx n d v : Nat) : Int) := by
   intro v d
   cases v with
   | none=>rfl
   | some i =>
     rw [← HT.clip_eq i n d]
     dsimp only
     rw [if_pos (by decide)]
     by_cases hi : i < 0
     · rw [if_pos hi,if_pos hi];lia
     · rw [if_neg hi,if_neg hi];lia
 have key : ∀ (x y : Int) (a b : Nat),x = a→y = b→sliceRange x y 1 = (List.range (b - a)).map fun (m : Nat)=>((a : Int) + 1 * (m : Int)).toNat := by
   rintro x y a b rfl rfl
   unfold sliceRange
   dsimp only
   rw [if_pos (by decide)]
   congr 1
   congr 1
   by_cases h : (a : Int) < (b : Int)
   · rw [if_pos h];lia
   · rw [if_neg h];lia
 unfold Builtin.Str.strSliceIndices
 dsimp only
 have e1 := c lo 0
 have e2 := c hi n
 dsimp only at e1 e2
 simp only [show (1 : Int) > 0 by decide,if_true] at e1 e2 ⊢
 exact key _ _ _ _ e1 e2
theorem cl_slice (z : Str) (lo hi : Option Int) : cl (Txt.slice z lo hi) = cutL (cl z) lo hi := by
 have hn : (cl z).length = z.length := cl_len z
 unfold Txt.slice cutL
 rw [hn]
 have hle := HT.sIx_le z.length z.length (Nat.le_refl _) hi
 split
 · rename_i h
   rw [idx_eq,List.length_map,List.length_range] at h
   have h' : HT.sIx z.length z.length hi - HT.sIx z.length 0 lo = z.length := by simpa using h
   have h0 : HT.sIx z.length 0 lo = 0∨z.length = 0 := by lia
   rcases h0 with h0 | h0
   · rw [h',h0,List.drop_zero,List.take_of_length_le (by lia)]
   · have : cl z = [] := List.length_eq_zero_iff.mp (by lia)
     rw [this];simp
 · show (((Builtin.Str.strSliceIndices lo hi 1 z.length).filterMap (z.cps[·]?)).toArray).toList = _
   rw [idx_eq]
   have e : (fun x : Nat=>z.cps[x]?) = fun x=>(cl z)[x]? := by funext x;simp [cl]
   rw [e]
   exact pick_nat _ _ _
section
variable {X : Cx} (K : PySem.W.Frag)
variable {o e : Expr} {es : List Expr} {to : TE} {t : TA} {name : Str} {apos cpos : Pos} {T id : String} {r : V→List V→Hp→VK→Prop}
end
end L2
namespace PySem
open AutoSeq1 (wpAny_loadPart')
section
variable {prog : Program} {w : World} {A : Around} {E : Value→Shared→Prop} {s : Shared}
theorem wpAny_nextOf_tuple_item {it l : Addr} {i : Nat} {items} {x : Value} {Q : Value→Shared→Prop} (hit : s.heap.IsTupleIter it l i)
   (hl : s.heap.IsTuple l items) (hx : items[i]? = some x)
   (hQ : ∀ h',h'.IsTupleIter it l (i + 1)→Heap.SameBut it s.heap h'→Q x { s with heap := h' }) :
   wpAny (model prog w) A (Builtin.SmallTypes.nextOf (.ref it)) Q E s := by
 obtain ⟨o,ho,hc,hd⟩ := id hit
 obtain ⟨ol,hol,_,nl,hdl⟩ := hl
 unfold Builtin.SmallTypes.nextOf
 refine wpAny_bind (wpAny_callSpecial?_slot (name:=Str.ofString "__next__") hit.typeIs F.slot_tuple_iterator_next
   (wpAny_call_entry F.slot_tuple_iterator_next hit.typeIs F.entry_tuple_iterator_next ?_ (F.args_tuple_iterator_next_1 _)))
 show wpAny _ _ (field (.ref it) 0 >>= _) _ _ s
 refine wpAny_bind (wpAny_field ho hd (x:=.ref l) rfl ?_)
 show wpAny _ _ (if (Value.ref l == Value.none) = true then _ else _) _ _ s
 rw [if_neg (show ¬ ((Value.ref l == Value.none) = true) from Bool.false_ne_true)]
 show wpAny _ _ (field (.ref it) 1 >>= _) _ _ s
 refine wpAny_bind (wpAny_field ho hd (x:=.int i 0) rfl ?_)
 show wpAny _ _ (seqItems? (.ref l) >>= _) _ _ s
 refine wpAny_bind (wpAny_seqItems hol hdl ?_)
 simp only [Int.toNat_natCast,hx]
 refine wpAny_bind (wpAny_setField ho hd (by simp) (wpAny_pure ⟨x,rfl,wpAny_pure (hQ _ ?_ (Heap.SameBut.update ..))⟩))
 exact ⟨_,Heap.get?_update_self _ ho (Obj.isFreed_of_fields (Obj.data_mapFields hd _)),(Obj.cls_mapFields ..).trans hc,by
   rw [Obj.data_mapFields hd];simp [rawInt]⟩
theorem wpAny_nextOf_tuple_end {it l : Addr} {i : Nat} {items} {Q : Value→Shared→Prop} (hh : A.handled = none)
   (hit : s.heap.IsTupleIter it l i) (hl : s.heap.IsTuple l items) (hx : items[i]? = none)
   (hE : ∀ h' e,Heap.ExtBut it s.heap h'→(∃ o,h'.get? e = some o∧o.cls = .type "StopIteration")→E (.ref e) { s with heap := h' }) :
   wpAny (model prog w) A (Builtin.SmallTypes.nextOf (.ref it)) Q E s := by
 obtain ⟨o,ho,hc,hd⟩ := id hit
 obtain ⟨ol,hol,_,nl,hdl⟩ := hl
 unfold Builtin.SmallTypes.nextOf
 refine wpAny_bind (wpAny_callSpecial?_slot (name:=Str.ofString "__next__") hit.typeIs F.slot_tuple_iterator_next
   (wpAny_call_entry F.slot_tuple_iterator_next hit.typeIs F.entry_tuple_iterator_next ?_ (F.args_tuple_iterator_next_1 _)))
 show wpAny _ _ (field (.ref it) 0 >>= _) _ _ s
 refine wpAny_bind (wpAny_field ho hd (x:=.ref l) rfl ?_)
 show wpAny _ _ (if (Value.ref l == Value.none) = true then _ else _) _ _ s
 rw [if_neg (show ¬ ((Value.ref l == Value.none) = true) from Bool.false_ne_true)]
 show wpAny _ _ (field (.ref it) 1 >>= _) _ _ s
 refine wpAny_bind (wpAny_field ho hd (x:=.int i 0) rfl ?_)
 show wpAny _ _ (seqItems? (.ref l) >>= _) _ _ s
 refine wpAny_bind (wpAny_seqItems hol hdl ?_)
 simp only [Int.toNat_natCast,hx]
 refine wpAny_bind (wpAny_rule (wpAny_bind (wpAny_setField ho hd (by simp) ?_)))
 show wpAny _ _ (newExc (.type "StopIteration") [] >>= _) _ _ _
 refine wpAny_bind ?_
 simp only [newExc,newTuple]
 refine wpAny_bind (wpAny_newObj_type ?_ (by size_fits))
 refine wpAny_bind (m:=firstArgMember _ _) (wpAny_of_eq (a:=Value.none) (by first | rfl | (simp only [firstArgMember];rfl)) ?_)
 refine wpAny_newObj_type ?_ (by size_fits)
 simp only [raiseNew]
 refine wpAny_bind (wpAny_handled ?_)
 first | rw [show A.in1.handled = none from hh] | rw [hh]
 refine wpAny_bind (wpAny_pure (wpAny_throw ?_))
 exact hE _ _ (((Heap.SameBut.update ..).extBut.push _).push _) ⟨_,Heap.get?_push_size _ rfl,rfl⟩
end
theorem Draws.tupleD {prog : Program} {w : World} {A : Around} (hh : A.handled = none) (it l : Addr) (hne : l≠it) (items : Array Value) :
   Draws prog w A it [it,l] items.size (fun i v=>items[i]? = some v) (fun i h=>h.IsTupleIter it l i∧h.IsTuple l items) where
 live := fun _ _ st=>let ⟨o,ho,_⟩ := st.1;⟨o,ho⟩
 frame := fun _ _ _ st hk=>⟨st.1.at fun o e=>hk it (by simp) o e,let ⟨o,ho,r⟩ := st.2;⟨o,hk l (by simp) o ho,r⟩⟩
 item := fun i s Q E hi st hQ=>by
   refine wpAny_nextOf_tuple_item st.1 st.2 (x:=items[i]) (by simp [hi]) fun h' hit' hs'=>?_
   exact hQ _ h' s.toks (by simp [hi]) ⟨hit',st.2.extBut hs'.extBut hne⟩ hs'
 done := fun s Q E st hE=>wpAny_nextOf_tuple_end hh st.1 st.2 (by simp) hE
theorem meets_enumerate_newT (l : Addr) (items : Array Value) (n : Nat) (dct : Option Addr) (sl : Array (Option Value)) :
   Meets (Builtin.«enumerate.__new__» ⟨[.type "enumerate",.ref l],[]⟩) (fun _ R s=>s.heap.get? l = some { cls := .type "tuple",dict := dct,data := .seq items n,slots := sl } ∧
     R (.ok (.ret (.ref (s.heap.push { cls := .type "tuple_iterator",data := .fields #[.ref l,.int 0 0] }).objs.size)))
       { s with heap := (s.heap.push { cls := .type "tuple_iterator",data := .fields #[.ref l,.int 0 0] }).push { cls := .type "enumerate",data := .fields #[.none,.bool false,.ref s.heap.objs.size,rawInt 0,.none,.none] } }) :=
 .of_wp fun prog w A R s h=>by
   obtain ⟨hp,g,d,tk,os⟩ := s;obtain ⟨hl,h⟩ := h
   have hsub := sub_enumerate
   have hL : Heap.IsTuple (Shared.heap ⟨hp,g,d,tk,os⟩) l items := ⟨_,hl,rfl,n,rfl⟩
   wp_walk using wpAny_loadPart' hl
   refine wpAny_stack_any fun st=>wpAny_pure ?_
   split
   · rename_i c _ _ _ _ _
     cases (c == Value.type "enumerate")
     · wp_walk using wpAny_loadPart' hl,wpAny_pyIter_tuple hL
       exact ⟨_,rfl,h⟩
     · wp_walk using wpAny_loadPart' hl,wpAny_pyIter_tuple hL
       exact ⟨_,rfl,h⟩
   · wp_walk using wpAny_loadPart' hl,wpAny_pyIter_tuple hL
     exact ⟨_,rfl,h⟩
theorem call_enumerate_tuple {prog : Program} {w : World} {A : Around} {E : Value→Shared→Prop} {s : Shared} {l : Addr} {items : Array Value} {Q : Value→Shared→Prop} (hL : s.heap.IsTuple l items)
   (h : ∀ h',IsEnum h' (s.heap.objs.size + 1) s.heap.objs.size 0 .none→h'.IsTupleIter s.heap.objs.size l 0→h'.objs.size = s.heap.objs.size + 2 →
     (∀ b o,s.heap.get? b = some o→h'.get? b = some o)→Q (.ref (s.heap.objs.size + 1)) { s with heap := h' }) :
   wpAny (model prog w) A (call (.type "enumerate") [.ref l]) Q E s := by
 obtain ⟨⟨c,dct,dt,sl⟩,hl,hc,n,hd⟩ := hL
 replace hc : c = .type "tuple" := hc
 replace hd : dt = .seq items n := hd
 subst hc hd
 refine callType_new F.called_enumerate (by decide) (F.typeCall_enumerate_1 _) (F.newCall_enumerate_1 _) (fun obj=>F.args_object_init_2 obj _) F.entry_enumerate_new
   (meets_enumerate_newT l items n dct sl) ⟨hl,?_⟩
 have hz : (s.heap.push { cls := .type "tuple_iterator",data := .fields #[.ref l,.int 0 0] }).objs.size = s.heap.objs.size + 1 := Heap.size_push ..
 show _∧_
 rw [hz]
 have he : IsEnum ((s.heap.push { cls := .type "tuple_iterator",data := .fields #[.ref l,.int 0 0] }).push
     { cls := .type "enumerate",data := .fields #[.none,.bool false,.ref s.heap.objs.size,rawInt 0,.none,.none] }) (s.heap.objs.size + 1) s.heap.objs.size 0 .none := by
   have := Heap.get?_push_size (s.heap.push { cls := .type "tuple_iterator",data := .fields #[.ref l,.int 0 0] })
     (o:={ cls := .type "enumerate",data := .fields #[.none,.bool false,.ref s.heap.objs.size,rawInt 0,.none,.none] }) rfl
   rw [hz] at this;exact this
 refine ⟨⟨_,he,rfl⟩,h _ he ⟨_,Heap.get?_push_of_some _ (Heap.get?_push_size _ rfl),rfl,rfl⟩ (by rw [Heap.size_push,hz]) fun b o x=>Heap.get?_push_of_some _ (Heap.get?_push_of_some _ x)⟩
end PySem
namespace L2
open PySem PySem.Spec PyProof.Rows
inductive XD where
 | int (i : Int) | nums (is : List Int)
inductive Dat where
 | non | bl (b : Bool) | int (i : Int) | str (x : Str) | tup (xs : List Dat) | lst (xs : List Dat) | dct (kvs : List (Dat×Dat)) | exc (c : Str) (fs : List (Str×XD))
def clsAt (K : PySem.W.Frag) (c : Str) (C : Addr) : Prop := PySem.W.nsIn K mainGlobals c = some (some (.ref C))
def XIs (e C : Addr) (dct : Option Addr) (h : Heap) : Prop := ∃ o,h.get? e = some o∧o.cls = .ref C∧o.dict = dct∧∀ c,o.data≠.cls c
def XDOk (K : PySem.W.Frag) (H : Hp) : XD→V→Prop
 | .int i,v=>v = .int i
 | .nums is,v=>∃ a,v = .ref a∧SL K H a (is.map V.int)∧is.length≤sizeLine
def XFs (K : PySem.W.Frag) (H : Hp) : Option Addr→List (Str×XD)→Prop
 | none,fs=>fs = []
 | some dx,fs=>∃ fvs,H dx = some (.xd fvs)∧∀ f,(fs.lookup f = none∧fvs.lookup f = none)∨∃ d v,fs.lookup f = some d∧fvs.lookup f = some v∧XDOk K H d v
def XRp (K : PySem.W.Frag) (H : Hp) (c : Str) (fs : List (Str×XD)) (v : V) : Prop := ∃ e C dct,v = .ref e∧H e = some (.ext (XIs e C dct))∧clsAt K c C∧XFs K H dct fs
structure SOk (x : Str) : Prop where
 ok : PyData.strOk x = true
 le : x.length≤sizeLine
noncomputable instance (x : Str) : Decidable (SOk x) := decidable_of_iff (PyData.strOk x = true∧x.length≤sizeLine) ⟨fun h=>⟨h.1,h.2⟩,fun h=>⟨h.ok,h.le⟩⟩
theorem SOk.of {x : Str} (h : PyData.strOk x = true) (h' : x.length≤sizeLine) : SOk x := ⟨h,h'⟩
mutual
def Rp (K : PySem.W.Frag) (H : Hp) : Dat→V→Prop
 | .non,v=>v = .non
 | .bl b,v=>v = .bl b
 | .int i,v=>v = .int i
 | .str x,v=>v = .str x∧SOk x
 | .tup ds,v=>ds.length≤sizeLine∧∃ a vs,v = .ref a∧SqT K H a vs∧Rps K H ds vs
 | .lst ds,v=>ds.length≤sizeLine∧∃ a vs,v = .ref a∧SL K H a vs∧Rps K H ds vs
 | .dct _,_=>False
 | .exc c fs,v=>XRp K H c fs v
def Rps (K : PySem.W.Frag) (H : Hp) : List Dat→List V→Prop
 | [],vs=>vs = []
 | d :: ds,vs=>∃ v r,vs = v :: r∧Rp K H d v∧Rps K H ds r
end
noncomputable abbrev AS := Addr→Bool
noncomputable def av (H : Hp) (A : AS) : Hp := fun a=>if A a = true then none else H a
theorem av_at {H : Hp} {A : AS} {a : Addr} {o : HO} (h : H a = some o) (hA : A a = false) : av H A a = some o := by unfold av;rw [hA];exact h
theorem av_of {H : Hp} {A : AS} {a : Addr} {o : HO} (h : av H A a = some o) : A a = false∧H a = some o := by
 unfold av at h
 split at h
 · cases h
 · rename_i q;exact ⟨by simpa using q,h⟩
theorem av_same {H : Hp} {A : AS} : Same (av H A) H := fun b o e=>(av_of e).2
theorem av_mono {H H' : Hp} {A : AS} (h : Same H H') : Same (av H A) (av H' A) := fun b o e=>av_at (h b o (av_of e).2) (av_of e).1
theorem av_less {H : Hp} {A B : AS} (h : ∀ a,B a = true→A a = true) : Same (av H A) (av H B) := fun b o e=>by
 obtain ⟨h1,h2⟩ := av_of e
 refine av_at h2 ?_
 cases q : B b with
 | false=>rfl
 | true=>rw [h b q] at h1;cases h1
noncomputable def no : AS := fun _=>false
theorem av_no {H : Hp} : av H no = H := by funext a;simp [av,no]
theorem Same.sl {K : PySem.W.Frag} {H H' : Hp} {a : Addr} {xs : List V} (e : Same H H') (h : SL K H a xs) : SL K H' a xs := by
 rcases h with (h | ⟨o,h⟩) | h
 · exact .inl (.inl (e _ _ h))
 · exact .inl (.inr ⟨o,e _ _ h⟩)
 · exact .inr h
theorem SL.sq {K : PySem.W.Frag} {H : Hp} {a : Addr} {xs : List V} (h : SL K H a xs) : SqL K H a xs := by
 rcases h with h | ⟨its,n,h1,h2,h3⟩
 · exact .inl h
 · refine .inr ⟨_,its.toArray,n,h1,rfl,rfl,rfl,?_,by simpa using h3⟩
   have := h3.length
   simp only [List.size_toArray];lia
theorem SL.get {X : Cx} {pins : List (Addr×Obj)} {σ : St} {H : Hp} {s : Shared} {a : Addr} {xs : List V} (h : SL X.K H a xs) (I : Inv X pins σ H s) :
   ∃ (its : List Value) (n : Nat),Vals xs its∧s.heap.get? a = some { cls := .type "list",data := .seq its.toArray n }∧xs.length≤sizeLine := by
 rcases h with h | ⟨its,n,h1,h2,h3⟩
 · obtain ⟨z,its,n,r,e⟩ := h.ok I.hok
   exact ⟨its,n,r,e,z⟩
 · exact ⟨its,n,h3,I.kIn _ _ h1,h2⟩
theorem XDOk.mono {K : PySem.W.Frag} {H H' : Hp} (e : Same H H') {d : XD} {v : V} (h : XDOk K H d v) : XDOk K H' d v := by
 cases d with
 | int i=>exact h
 | nums is=>obtain ⟨a,e1,e2,e3⟩ := h;exact ⟨a,e1,e.sl e2,e3⟩
theorem XFs.mono {K : PySem.W.Frag} {H H' : Hp} (e : Same H H') {dct : Option Addr} {fs : List (Str×XD)} (h : XFs K H dct fs) : XFs K H' dct fs := by
 cases dct with
 | none=>exact h
 | some dx =>
   obtain ⟨fvs,e1,e2⟩ := h
   exact ⟨fvs,e _ _ e1,fun f=>(e2 f).imp id fun ⟨d,v,a,b,c⟩=>⟨d,v,a,b,c.mono e⟩⟩
theorem XRp.mono {K : PySem.W.Frag} {H H' : Hp} (e : Same H H') {c : Str} {fs : List (Str×XD)} {v : V} (h : XRp K H c fs v) : XRp K H' c fs v := by
 obtain ⟨x,C,dct,e1,e2,e3,e4⟩ := h
 exact ⟨x,C,dct,e1,e _ _ e2,e3,e4.mono e⟩
mutual
theorem Rp.mono {K : PySem.W.Frag} {H H' : Hp} (e : Same H H') : ∀ {d : Dat} {v : V},Rp K H d v→Rp K H' d v
 | .non,v,h=>by unfold Rp at h ⊢;exact h
 | .bl b,v,h=>by unfold Rp at h ⊢;exact h
 | .int i,v,h=>by unfold Rp at h ⊢;exact h
 | .str x,v,h=>by unfold Rp at h ⊢;exact h
 | .dct _,v,h=>by unfold Rp at h;exact h.elim
 | .exc _ _,v,h=>by unfold Rp at h ⊢;exact XRp.mono e h
 | .tup ds,v,h=>by
   unfold Rp at h ⊢
   obtain ⟨hz,a,vs,e1,e2,e3⟩ := h
   exact ⟨hz,a,vs,e1,e.seqT e2,Rps.mono e e3⟩
 | .lst ds,v,h=>by
   unfold Rp at h ⊢
   obtain ⟨hz,a,vs,e1,e2,e3⟩ := h
   exact ⟨hz,a,vs,e1,e.sl e2,Rps.mono e e3⟩
theorem Rps.mono {K : PySem.W.Frag} {H H' : Hp} (e : Same H H') : ∀ {ds : List Dat} {vs : List V},Rps K H ds vs→Rps K H' ds vs
 | [],vs,h=>by unfold Rps at h ⊢;exact h
 | d :: ds,vs,h=>by
   unfold Rps at h ⊢
   obtain ⟨v,r,e1,e2,e3⟩ := h
   exact ⟨v,r,e1,Rp.mono e e2,Rps.mono e e3⟩
end
section
variable {K : PySem.W.Frag} {H : Hp}
theorem rps_nil : Rps K H [] [] := by unfold Rps;rfl
theorem rps_cons {d : Dat} {ds : List Dat} {v : V} {vs : List V} (h : Rp K H d v) (t : Rps K H ds vs) : Rps K H (d :: ds) (v :: vs) := by unfold Rps;exact ⟨v,vs,rfl,h,t⟩
theorem rps_of_nil {vs : List V} (h : Rps K H [] vs) : vs = [] := by unfold Rps at h;exact h
theorem rps_of_cons {d : Dat} {ds : List Dat} {vs : List V} (h : Rps K H (d :: ds) vs) : ∃ v r,vs = v :: r∧Rp K H d v∧Rps K H ds r := by unfold Rps at h;exact h
theorem rps_len : ∀ {ds : List Dat} {vs : List V},Rps K H ds vs→vs.length = ds.length
 | [],vs,h=>by rw [rps_of_nil h];rfl
 | d :: ds,vs,h=>by
   obtain ⟨v,r,e1,e2,e3⟩ := rps_of_cons h
   rw [e1,List.length_cons,List.length_cons,rps_len e3]
theorem rps_get : ∀ {ds : List Dat} {vs : List V} {i : Nat} {d : Dat},Rps K H ds vs→ds[i]? = some d→∃ v,vs[i]? = some v∧Rp K H d v
 | [],vs,i,d,h,e=>by simp at e
 | d' :: ds,vs,0,d,h,e=>by
   obtain ⟨v,r,e1,e2,e3⟩ := rps_of_cons h
   simp at e;subst e
   exact ⟨v,by rw [e1];rfl,e2⟩
 | d' :: ds,vs,i + 1,d,h,e=>by
   obtain ⟨v,r,e1,e2,e3⟩ := rps_of_cons h
   obtain ⟨v',h1,h2⟩ := rps_get (i:=i) e3 (by simpa using e)
   exact ⟨v',by rw [e1];simpa using h1,h2⟩
theorem rps_append : ∀ {ds es : List Dat} {vs us : List V},Rps K H ds vs→Rps K H es us→Rps K H (ds ++ es) (vs ++ us)
 | [],es,vs,us,h,k=>by rw [rps_of_nil h];exact k
 | d :: ds,es,vs,us,h,k=>by
   obtain ⟨v,r,e1,e2,e3⟩ := rps_of_cons h
   subst e1
   exact rps_cons e2 (rps_append e3 k)
theorem rps_take : ∀ (n : Nat) {ds : List Dat} {vs : List V},Rps K H ds vs→Rps K H (ds.take n) (vs.take n)
 | 0,_,_,_=>by simp only [List.take_zero];exact rps_nil
 | n + 1,[],vs,h=>by rw [rps_of_nil h];simp only [List.take_nil];exact rps_nil
 | n + 1,d :: ds,vs,h=>by
   obtain ⟨v,r,e1,e2,e3⟩ := rps_of_cons h
   subst e1
   exact rps_cons e2 (rps_take n e3)
theorem rps_drop : ∀ (n : Nat) {ds : List Dat} {vs : List V},Rps K H ds vs→Rps K H (ds.drop n) (vs.drop n)
 | 0,_,_,h=>h
 | n + 1,[],vs,h=>by rw [rps_of_nil h];simp only [List.drop_nil];exact rps_nil
 | n + 1,d :: ds,vs,h=>by
   obtain ⟨v,r,e1,e2,e3⟩ := rps_of_cons h
   subst e1
   exact rps_drop n e3
theorem rps_one {d : Dat} {v : V} (h : Rp K H d v) : Rps K H [d] [v] := rps_cons h rps_nil
theorem rps_rev {ds : List Dat} : ∀ {vs : List V},Rps K H ds vs→Rps K H ds.reverse vs.reverse := by
 induction ds with
 | nil=>intro vs h;rw [rps_of_nil h];exact rps_nil
 | cons d ds ih =>
   intro vs h
   obtain ⟨v,r,e1,e2,e3⟩ := rps_of_cons h
   subst e1
   rw [List.reverse_cons,List.reverse_cons]
   exact rps_append (ih e3) (rps_one e2)
theorem rps_ints : ∀ (ns : List Int),Rps K H (ns.map Dat.int) (ns.map V.int)
 | []=>rps_nil
 | n :: ns=>rps_cons (by unfold Rp;rfl) (rps_ints ns)
theorem rp_non : Rp K H .non .non := by unfold Rp;rfl
theorem rp_bl {b : Bool} : Rp K H (.bl b) (.bl b) := by unfold Rp;rfl
theorem rp_int {i : Int} : Rp K H (.int i) (.int i) := by unfold Rp;rfl
theorem rp_str {x : Str} (h : SOk x) : Rp K H (.str x) (.str x) := by unfold Rp;exact ⟨rfl,h⟩
theorem rp_tup {a : Addr} {vs : List V} {ds : List Dat} (hz : ds.length≤sizeLine) (h : SqT K H a vs) (r : Rps K H ds vs) : Rp K H (.tup ds) (.ref a) := by unfold Rp;exact ⟨hz,a,vs,rfl,h,r⟩
theorem rp_lst {a : Addr} {vs : List V} {ds : List Dat} (hz : ds.length≤sizeLine) (h : SL K H a vs) (r : Rps K H ds vs) : Rp K H (.lst ds) (.ref a) := by unfold Rp;exact ⟨hz,a,vs,rfl,h,r⟩
theorem of_non {v : V} (h : Rp K H .non v) : v = .non := by unfold Rp at h;exact h
theorem of_bl {b : Bool} {v : V} (h : Rp K H (.bl b) v) : v = .bl b := by unfold Rp at h;exact h
theorem of_int {i : Int} {v : V} (h : Rp K H (.int i) v) : v = .int i := by unfold Rp at h;exact h
theorem of_str {x : Str} {v : V} (h : Rp K H (.str x) v) : v = .str x∧SOk x := by unfold Rp at h;exact h
theorem of_tup {ds : List Dat} {v : V} (h : Rp K H (.tup ds) v) : ∃ a vs,v = .ref a∧SqT K H a vs∧Rps K H ds vs := by unfold Rp at h;exact h.2
theorem len_tup {ds : List Dat} {v : V} (h : Rp K H (.tup ds) v) : ds.length≤sizeLine := by unfold Rp at h;exact h.1
theorem len_lst {ds : List Dat} {v : V} (h : Rp K H (.lst ds) v) : ds.length≤sizeLine := by unfold Rp at h;exact h.1
theorem of_lst {ds : List Dat} {v : V} (h : Rp K H (.lst ds) v) : ∃ a vs,v = .ref a∧SL K H a vs∧Rps K H ds vs := by unfold Rp at h;exact h.2
theorem of_dct {ds : List (Dat×Dat)} {v : V} (h : Rp K H (.dct ds) v) : False := by unfold Rp at h;exact h
theorem of_exc {c : Str} {ds : List (Str×XD)} {v : V} (h : Rp K H (.exc c ds) v) : XRp K H c ds v := by unfold Rp at h;exact h
end
def Pk (K : PySem.W.Frag) (A : AS) (H : Hp) (d : Dat) (v : V) : Prop :=
 Rp K (av H A) d v∨∃ a vs ds,d = .lst ds∧v = .ref a∧ds.length≤sizeLine∧H a = some (.lst vs)∧Rps K (av H A) ds vs
section
variable {K : PySem.W.Frag} {A : AS} {H H' : Hp} {d : Dat} {v : V}
theorem Pk.mono (e : Same H H') (h : Pk K A H d v) : Pk K A H' d v := by
 rcases h with h | ⟨a,vs,ds,e1,e2,hz,e3,e4⟩
 · exact .inl (h.mono (av_mono e))
 · exact .inr ⟨a,vs,ds,e1,e2,hz,e _ _ e3,e4.mono (av_mono e)⟩
theorem Pk.rp (h : Pk K A H d v) : Rp K H d v := by
 rcases h with h | ⟨a,vs,ds,e1,e2,hz,e3,e4⟩
 · exact h.mono av_same
 · subst e1 e2;exact rp_lst hz (.inl (.inl e3)) (e4.mono av_same)
theorem Pk.lenL {ds : List Dat} (h : Pk K A H (.lst ds) v) : ds.length≤sizeLine := len_lst h.rp
theorem Pk.lenT {ds : List Dat} (h : Pk K A H (.tup ds) v) : ds.length≤sizeLine := len_tup h.rp
theorem Pk.non (h : Pk K A H .non v) : v = .non := of_non h.rp
theorem Pk.bl {b : Bool} (h : Pk K A H (.bl b) v) : v = .bl b := of_bl h.rp
theorem Pk.int {i : Int} (h : Pk K A H (.int i) v) : v = .int i := of_int h.rp
theorem Pk.str {x : Str} (h : Pk K A H (.str x) v) : v = .str x∧SOk x := of_str h.rp
theorem Pk.tup {ds : List Dat} (h : Pk K A H (.tup ds) v) : ∃ a vs,v = .ref a∧SqT K H a vs∧Rps K (av H A) ds vs := by
 rcases h with h | ⟨a,vs,ds,e1,e2,e3,e4⟩
 · obtain ⟨a,vs,e1,e2,e3⟩ := of_tup h
   exact ⟨a,vs,e1,av_same.seqT e2,e3⟩
 · cases e1
theorem Pk.lst {ds : List Dat} (h : Pk K A H (.lst ds) v) : ∃ a vs,v = .ref a∧SL K H a vs∧Rps K (av H A) ds vs := by
 rcases h with h | ⟨a,vs,ds',e1,e2,hz,e3,e4⟩
 · obtain ⟨a,vs,e1,e2,e3⟩ := of_lst h
   exact ⟨a,vs,e1,av_same.sl e2,e3⟩
 · cases e1;exact ⟨a,vs,e2,.inl (.inl e3),e4⟩
end
mutual
noncomputable def eqD : Dat→Dat→Bool
 | .non,.non=>true
 | .bl a,.bl b=>a == b
 | .bl a,.int j=>(if a then 1 else 0) == j
 | .int i,.bl b=>i == (if b then 1 else 0)
 | .int i,.int j=>i == j
 | .str x,.str y=>x == y
 | .lst xs,.lst ys=>eqDs xs ys
 | .tup xs,.tup ys=>eqDs xs ys
 | _,_=>false
noncomputable def eqDs : List Dat→List Dat→Bool
 | [],[]=>true
 | x :: xs,y :: ys=>eqD x y && eqDs xs ys
 | _,_=>false
end
noncomputable def pd : Nat→Dat→Bool
 | 0,.lst _=>false
 | 0,.tup _=>false
 | n + 1,.lst xs=>xs.all (pd n)
 | n + 1,.tup xs=>xs.all (pd n)
 | _,.dct _=>false
 | _,.exc _ _=>false
 | _,.non=>true
 | _,.bl _=>true
 | _,.int _=>true
 | _,.str _=>true
mutual
noncomputable def toP : Dat→PyData
 | .non=>.none
 | .bl b=>.bool b
 | .int i=>.int i
 | .str x=>.str x
 | .tup xs=>.tuple (toPs xs)
 | .lst xs=>.list (toPs xs)
 | .dct _=>.none
 | .exc _ _=>.none
noncomputable def toPs : List Dat→List PyData
 | []=>[]
 | x :: xs=>toP x :: toPs xs
end
theorem pd_lst {n : Nat} {xs : List Dat} (h : pd n (.lst xs) = true) : ∃ m,n = m + 1∧∀ x∈xs,pd m x = true := by
 cases n with
 | zero=>cases h
 | succ n=>exact ⟨n,rfl,by simpa [pd] using h⟩
theorem pd_tup {n : Nat} {xs : List Dat} (h : pd n (.tup xs) = true) : ∃ m,n = m + 1∧∀ x∈xs,pd m x = true := by
 cases n with
 | zero=>cases h
 | succ n=>exact ⟨n,rfl,by simpa [pd] using h⟩
theorem pd_dct {n : Nat} {xs} (h : pd n (.dct xs) = true) : False := by cases n <;> cases h
theorem pd_exc {n : Nat} {c xs} (h : pd n (.exc c xs) = true) : False := by cases n <;> cases h
mutual
theorem eqv_toP : ∀ {n m : Nat} (x y : Dat),pd n x = true→pd m y = true→PyData.eqv (toP x) (toP y) = eqD x y
 | n,m,.dct _,y,h,_=>(pd_dct h).elim
 | n,m,.exc _ _,y,h,_=>(pd_exc h).elim
 | n,m,x,.dct _,_,h=>(pd_dct h).elim
 | n,m,x,.exc _ _,_,h=>(pd_exc h).elim
 | n,m,.non,.non,_,_=>rfl
 | n,m,.non,.bl _,_,_=>rfl
 | n,m,.non,.int _,_,_=>rfl
 | n,m,.non,.str _,_,_=>rfl
 | n,m,.non,.tup _,_,_=>rfl
 | n,m,.non,.lst _,_,_=>rfl
 | n,m,.bl _,.non,_,_=>rfl
 | n,m,.bl _,.bl _,_,_=>rfl
 | n,m,.bl _,.int _,_,_=>rfl
 | n,m,.bl _,.str _,_,_=>rfl
 | n,m,.bl _,.tup _,_,_=>rfl
 | n,m,.bl _,.lst _,_,_=>rfl
 | n,m,.int _,.non,_,_=>rfl
 | n,m,.int _,.bl _,_,_=>rfl
 | n,m,.int _,.int _,_,_=>rfl
 | n,m,.int _,.str _,_,_=>rfl
 | n,m,.int _,.tup _,_,_=>rfl
 | n,m,.int _,.lst _,_,_=>rfl
 | n,m,.str _,.non,_,_=>rfl
 | n,m,.str _,.bl _,_,_=>rfl
 | n,m,.str _,.int _,_,_=>rfl
 | n,m,.str _,.str _,_,_=>rfl
 | n,m,.str _,.tup _,_,_=>rfl
 | n,m,.str _,.lst _,_,_=>rfl
 | n,m,.lst _,.non,_,_=>rfl
 | n,m,.lst _,.bl _,_,_=>rfl
 | n,m,.lst _,.int _,_,_=>rfl
 | n,m,.lst _,.str _,_,_=>rfl
 | n,m,.lst _,.tup _,_,_=>rfl
 | n,m,.lst xs,.lst ys,h,k=>by
   obtain ⟨n',_,hx⟩ := pd_lst h
   obtain ⟨m',_,hy⟩ := pd_lst k
   simp only [toP,PyData.eqv,eqD]
   exact eqvs_toP xs ys hx hy
 | n,m,.tup _,.non,_,_=>rfl
 | n,m,.tup _,.bl _,_,_=>rfl
 | n,m,.tup _,.int _,_,_=>rfl
 | n,m,.tup _,.str _,_,_=>rfl
 | n,m,.tup _,.lst _,_,_=>rfl
 | n,m,.tup xs,.tup ys,h,k=>by
   obtain ⟨n',_,hx⟩ := pd_tup h
   obtain ⟨m',_,hy⟩ := pd_tup k
   simp only [toP,PyData.eqv,eqD]
   exact eqvs_toP xs ys hx hy
theorem eqvs_toP : ∀ {n m : Nat} (xs ys : List Dat),(∀ x∈xs,pd n x = true)→(∀ y∈ys,pd m y = true)→PyData.eqvAll (toPs xs) (toPs ys) = eqDs xs ys
 | n,m,[],[],_,_=>rfl
 | n,m,[],_ :: _,_,_=>rfl
 | n,m,_ :: _,[],_,_=>rfl
 | n,m,x :: xs,y :: ys,hx,hy=>by
   simp only [toPs,PyData.eqvAll,eqDs]
   rw [eqv_toP (n:=n) (m:=m) x y (hx x List.mem_cons_self) (hy y List.mem_cons_self),eqvs_toP (n:=n) (m:=m) xs ys (fun z hz=>hx z (List.mem_cons_of_mem _ hz)) (fun z hz=>hy z (List.mem_cons_of_mem _ hz))]
end
mutual
theorem depth_toP : ∀ (n : Nat) (x : Dat),pd n x = true→(toP x).depth≤n
 | n,.dct _,h=>(pd_dct h).elim
 | n,.exc _ _,h=>(pd_exc h).elim
 | n,.non,_=>Nat.zero_le _
 | n,.bl _,_=>Nat.zero_le _
 | n,.int _,_=>Nat.zero_le _
 | n,.str _,_=>Nat.zero_le _
 | n,.lst xs,h=>by
   obtain ⟨m,e,hx⟩ := pd_lst h
   subst e
   simp only [toP,PyData.depth]
   exact Nat.succ_le_succ (depths_toP m xs hx)
 | n,.tup xs,h=>by
   obtain ⟨m,e,hx⟩ := pd_tup h
   subst e
   simp only [toP,PyData.depth]
   exact Nat.succ_le_succ (depths_toP m xs hx)
theorem depths_toP : ∀ (n : Nat) (xs : List Dat),(∀ x∈xs,pd n x = true)→PyData.depthAll (toPs xs)≤n
 | n,[],_=>Nat.zero_le _
 | n,x :: xs,h=>by
   simp only [toPs,PyData.depthAll]
   exact Nat.max_le.mpr ⟨depth_toP n x (h x List.mem_cons_self),depths_toP n xs fun z hz=>h z (List.mem_cons_of_mem _ hz)⟩
end
section
variable {X : Cx} {pins : List (Addr×Obj)} {σ : St} {H : Hp} {s : Shared}
mutual
theorem Rp.reads (I : Inv X pins σ H s) : ∀ {n : Nat} (d : Dat) (v : V) (u : Value),pd n d = true→Rp X.K H d v→RelV v u→∃ as,Reads s.heap u (toP d) as∧(toP d).canLay0 = true
 | n,.dct _,v,u,h,_,_=>(pd_dct h).elim
 | n,.exc _ _,v,u,h,_,_=>(pd_exc h).elim
 | n,.non,v,u,_,i,r=>by cases of_non i;cases r;exact ⟨_,.none,rfl⟩
 | n,.bl b,v,u,_,i,r=>by cases of_bl i;cases r;exact ⟨_,.bool b,rfl⟩
 | n,.int k,v,u,_,i,r=>by cases of_int i;obtain ⟨t,rfl⟩ := r;exact ⟨_,.int k t,rfl⟩
 | n,.str x,v,u,_,i,r=>by
   obtain ⟨e,hs⟩ := of_str i
   subst e;obtain ⟨t,rfl⟩ := r
   exact ⟨_,.str x t,hs.ok⟩
 | n,.tup ds,v,u,h,i,r=>by
   obtain ⟨m,_,hx⟩ := pd_tup h
   obtain ⟨a,vs,e1,e2,e3⟩ := of_tup i
   subst e1;cases r
   obtain ⟨its,rv,⟨o,ho,hc,k,hd⟩,_⟩ := I.tuple e2
   obtain ⟨as,ra,hl⟩ := Rps.reads I ds vs its hx e3 rv
   exact ⟨_,.tuple ho hc hd (by simpa using ra),hl⟩
 | n,.lst ds,v,u,h,i,r=>by
   obtain ⟨m,_,hx⟩ := pd_lst h
   obtain ⟨a,vs,e1,e2,e3⟩ := of_lst i
   subst e1;cases r
   obtain ⟨its,rv,⟨o,k,ho,hc,_,hd⟩,_⟩ := I.list e2.sq
   obtain ⟨as,ra,hl⟩ := Rps.reads I ds vs its hx e3 rv
   exact ⟨_,.list ho hc hd (by simpa using ra),hl⟩
theorem Rps.reads (I : Inv X pins σ H s) : ∀ {n : Nat} (ds : List Dat) (vs : List V) (us : List Value),(∀ x∈ds,pd n x = true)→Rps X.K H ds vs→Vals vs us→∃ as,ReadsAll s.heap us (toPs ds) as∧PyData.canLayAll0 (toPs ds) = true
 | n,[],vs,us,_,i,r=>by
   rw [rps_of_nil i] at r;cases r;exact ⟨_,.nil,rfl⟩
 | n,d :: ds,vs,us,h,i,r=>by
   obtain ⟨v,rr,e1,e2,e3⟩ := rps_of_cons i
   subst e1
   cases r with
   | cons r1 r2 =>
     obtain ⟨as,h1,l1⟩ := Rp.reads I d v _ (h d List.mem_cons_self) e2 r1
     obtain ⟨bs,h2,l2⟩ := Rps.reads I ds rr _ (fun z hz=>h z (List.mem_cons_of_mem _ hz)) e3 r2
     exact ⟨_,.cons h1 h2,by simp only [toPs,PyData.canLayAll0,l1,l2];rfl⟩
end
theorem Rp.eqAt (I : Inv X pins σ H s) {A : Around} {n m : Nat} {d e : Dat} {v w : V} {u u' : Value} (hd : pd n d = true) (he : pd m e = true) (hn : n≤60) (hu : A.units + 60 < cLine) (r1 : Rp X.K H d v) (r2 : Rp X.K H e w) (q1 : RelV v u) (q2 : RelV w u') :
   SeqAt.EqAt A s u u' (eqD d e) := by
 obtain ⟨as,a1,a2⟩ := Rp.reads I d v u hd r1 q1
 obtain ⟨bs,b1,b2⟩ := Rp.reads I e w u' he r2 q2
 rw [← eqv_toP d e hd he]
 have := depth_toP n d hd
 exact SeqAt.eqAt_reads _ _ A s u u' as bs a1 b1 a2 b2 (by lia)
end
def Mtb : Option HO→Prop
 | some (.lst _)=>True
 | some (.dK _)=>True
 | some (.dT _)=>True
 | _=>False
def MuOk (A : AS) (H : Hp) : Prop := ∀ a,A a = true→Mtb (H a)
theorem MuOk.new {A : AS} {H : Hp} (m : MuOk A H) {p : Addr} (h : H p = none) : A p = false := by
 cases q : A p with
 | false=>rfl
 | true=>have := m p q;rw [h] at this;exact this.elim
theorem MuOk.mono {A : AS} {H H' : Hp} (m : MuOk A H) (e : Same H H') : MuOk A H' := fun a h=>by
 have := m a h
 cases q : H a with
 | none=>rw [q] at this;exact this.elim
 | some o=>rw [q] at this;rw [e a o q];exact this
noncomputable def ins (A : AS) (p : Addr) : AS := fun a=>A a || a == p
theorem ins_self {A : AS} {p : Addr} : ins A p p = true := by simp [ins]
theorem ins_of {A : AS} {p a : Addr} (h : A a = true) : ins A p a = true := by simp [ins,h]
theorem ins_or {A : AS} {p a : Addr} (h : ins A p a = true) : A a = true∨a = p := by simpa [ins] using h
theorem ins_ff {A : AS} {p a : Addr} (h : A a = false) (hn : a≠p) : ins A p a = false := by simp [ins,h,hn]
structure Step (A : AS) (H : Hp) (A' : AS) (H' : Hp) : Prop where
 keep : ∀ a o,H a = some o→A a = false→H' a = some o
 sub : ∀ a,A' a = true→A a = true∨H a = none
theorem Step.refl (A : AS) (H : Hp) : Step A H A H := ⟨fun _ _ h _=>h,fun _ h=>.inl h⟩
theorem Step.same {A : AS} {H H' : Hp} (e : Same H H') : Step A H A H' := ⟨fun a o h _=>e a o h,fun _ h=>.inl h⟩
theorem Step.trans {A A1 A2 : AS} {H H1 H2 : Hp} (a : Step A H A1 H1) (b : Step A1 H1 A2 H2) : Step A H A2 H2 where
 keep := fun c o h hA=>b.keep c o (a.keep c o h hA) (by
   cases q : A1 c with
   | false=>rfl
   | true =>
     rcases a.sub c q with z | z
     · rw [z] at hA;cases hA
     · rw [z] at h;cases h)
 sub := fun c h=>by
   rcases b.sub c h with z | z
   · exact a.sub c z
   · cases qA : A c with
     | true=>exact .inl rfl
     | false =>
       cases q : H c with
       | none=>exact .inr rfl
       | some o=>rw [a.keep c o q qA] at z;cases z
theorem Step.av {A A' : AS} {H H' : Hp} (s : Step A H A' H') : Same (av H A) (av H' A') := fun b o e=>by
 obtain ⟨h1,h2⟩ := av_of e
 refine av_at (s.keep b o h2 h1) ?_
 cases q : A' b with
 | false=>rfl
 | true =>
   rcases s.sub b q with z | z
   · rw [z] at h1;cases h1
   · rw [z] at h2;cases h2
inductive GX where
 | nest (dss : List (List Dat)) | dict (kvs : List (List Key×Dat))
def GOk (K : PySem.W.Frag) (A : AS) (H : Hp) (o : Addr→Prop) : GX→V→Prop
 | .nest dss,v=>∃ (a : Addr) (as : List Addr),v = .ref a∧o a∧dss.length≤sizeLine∧H a = some (.lst (as.map V.ref))∧as.length = dss.length∧as.Nodup∧a∉as∧∀ (n : Nat) b ds,as[n]? = some b→dss[n]? = some ds→o b∧ds.length≤sizeLine∧∃ vs,H b = some (.lst vs)∧Rps K (av H A) ds vs
 | .dict kvs,v=>∃ (a : Addr) (us : List (List Key×V)),v = .ref a∧o a∧kvs.length≤sizeLine∧H a = some (.dT us)∧us.map (·.1) = kvs.map (·.1)∧Rps K (av H A) (kvs.map (·.2)) (us.map (·.2))
theorem GOk.frame {K : PySem.W.Frag} {A A' : AS} {H H' : Hp} {o o' : Addr→Prop} {g : GX} {v : V} (h : GOk K A H o g v) (ho : ∀ b,o b→o' b) (hf : ∀ b x,o b→H b = some x→H' b = some x) (ha : Same (av H A) (av H' A')) : GOk K A' H' o' g v := by
 cases g with
 | nest dss =>
   obtain ⟨a,as,e1,e2,e3,e4,e5,e6,e7,e8⟩ := h
   refine ⟨a,as,e1,ho a e2,e3,hf _ _ e2 e4,e5,e6,e7,fun n b ds q1 q2=>?_⟩
   obtain ⟨f1,f2,vs,f3,f4⟩ := e8 n b ds q1 q2
   exact ⟨ho b f1,f2,vs,hf _ _ f1 f3,f4.mono ha⟩
 | dict kvs =>
   obtain ⟨a,us,e1,e2,e3,e4,e5,e6⟩ := h
   exact ⟨a,us,e1,ho a e2,e3,hf _ _ e2 e4,e5,e6.mono ha⟩
inductive Slt where
 | un | fz (d : Dat) | pk (d : Dat) | ow (ds : List Dat) | gx (g : GX)
noncomputable abbrev Ev := List Slt
def SlotOk (K : PySem.W.Frag) (A : AS) (H : Hp) (o : Addr→Prop) : Slt→Option V→Prop
 | .un,_=>True
 | .fz d,x=>∃ v,x = some v∧Rp K (av H A) d v
 | .pk d,x=>∃ v,x = some v∧Pk K A H d v
 | .ow ds,x=>∃ a vs,x = some (.ref a)∧o a∧ds.length≤sizeLine∧H a = some (.lst vs)∧Rps K (av H A) ds vs
 | .gx g,x=>∃ v,x = some v∧GOk K A H o g v
structure Bs where
 H₀ : Hp
 R : AS
 st : Bool
structure EnvOk (K : PySem.W.Frag) (B : Bs) (A : AS) (H : Hp) (σ : St) (env : Ev) : Prop where
 h0 : Same B.H₀ H
 r0 : ∀ a,B.R a = true→∃ o,B.H₀ a = some o
 ra : ∀ a,B.R a = true→A a = true
 ar : ∀ a,A a = true→B.R a = true∨B.H₀ a = none
 mu : MuOk A H
 len : σ.length = env.length
 np : B.st = true→∀ (i : Nat) d,env[i]?≠some (.pk d)
 sl : ∃ own : Nat→Addr→Prop,(∀ i j a,own i a→own j a→i = j)∧(∀ i a,own i a→A a = true∧B.R a = false) ∧
   ∀ (i : Nat) s,env[i]? = some s→∃ x,σ[i]? = some x∧SlotOk K A H (own i) s x
theorem SlotOk.mono {K : PySem.W.Frag} {A : AS} {H H' : Hp} (e : Same H H') {o : Addr→Prop} {s : Slt} {x : Option V} (h : SlotOk K A H o s x) : SlotOk K A H' o s x := by
 cases s with
 | un=>trivial
 | fz d=>obtain ⟨v,e1,e2⟩ := h;exact ⟨v,e1,e2.mono (av_mono e)⟩
 | pk d=>obtain ⟨v,e1,e2⟩ := h;exact ⟨v,e1,e2.mono e⟩
 | ow ds=>obtain ⟨a,vs,e1,e2,hz,e3,e4⟩ := h;exact ⟨a,vs,e1,e2,hz,e _ _ e3,e4.mono (av_mono e)⟩
 | gx g=>obtain ⟨v,e1,e2⟩ := h;exact ⟨v,e1,e2.frame (fun _ z=>z) (fun b x _ q=>e b x q) (av_mono e)⟩
theorem EnvOk.mono {K : PySem.W.Frag} {B : Bs} {A : AS} {H H' : Hp} {σ : St} {env : Ev} (k : EnvOk K B A H σ env) (e : Same H H') : EnvOk K B A H' σ env := by
 obtain ⟨own,h1,h2,h4⟩ := k.sl
 exact ⟨k.h0.trans e,k.r0,k.ra,k.ar,k.mu.mono e,k.len,k.np,own,h1,h2,fun i s q=>let ⟨x,q2,q3⟩ := h4 i s q;⟨x,q2,q3.mono e⟩⟩
def Rm (m : Bool) (K : PySem.W.Frag) (A : AS) (H : Hp) (d : Dat) (v : V) : Prop := match m with
 | true=>Pk K A H d v
 | false=>Rp K (av H A) d v
theorem Rm.any {m : Bool} {K : PySem.W.Frag} {A : AS} {H : Hp} {d : Dat} {v : V} (h : Rp K (av H A) d v) : Rm m K A H d v := by
 cases m with
 | true=>exact .inl h
 | false=>exact h
theorem Rm.pk {m : Bool} {K : PySem.W.Frag} {A : AS} {H : Hp} {d : Dat} {v : V} (h : Rm m K A H d v) : Pk K A H d v := by
 cases m with
 | true=>exact h
 | false=>exact .inl h
theorem Rm.mono {m : Bool} {K : PySem.W.Frag} {A : AS} {H H' : Hp} (e : Same H H') {d : Dat} {v : V} (h : Rm m K A H d v) : Rm m K A H' d v := by
 cases m with
 | true=>exact Pk.mono e h
 | false=>exact Rp.mono (av_mono e) h
def Rms (m : Bool) (K : PySem.W.Frag) (A : AS) (H : Hp) : List Dat→List V→Prop
 | [],vs=>vs = []
 | d :: ds,vs=>∃ v r,vs = v :: r∧Rm m K A H d v∧Rms m K A H ds r
theorem Rms.rps {K : PySem.W.Frag} {A : AS} {H : Hp} : ∀ {ds : List Dat} {vs : List V},Rms false K A H ds vs→Rps K (av H A) ds vs
 | [],vs,h=>by rw [show vs = [] from h];exact rps_nil
 | _ :: _,_,⟨v,r,e1,e2,e3⟩=>by rw [e1];exact rps_cons e2 (Rms.rps e3)
theorem Rms.full {m : Bool} {K : PySem.W.Frag} {A : AS} {H : Hp} : ∀ {ds : List Dat} {vs : List V},Rms m K A H ds vs→Rps K H ds vs
 | [],vs,h=>by rw [show vs = [] from h];exact rps_nil
 | _ :: _,_,⟨v,r,e1,e2,e3⟩=>by rw [e1];exact rps_cons e2.pk.rp (Rms.full e3)
theorem Rms.one {m : Bool} {K : PySem.W.Frag} {A : AS} {H : Hp} {d : Dat} {vs : List V} (h : Rms m K A H [d] vs) : ∃ v,vs = [v]∧Pk K A H d v := by
 obtain ⟨v,r,e1,e2,e3⟩ := h
 exact ⟨v,by rw [e1,show r = [] from e3],e2.pk⟩
theorem Rms.two {m : Bool} {K : PySem.W.Frag} {A : AS} {H : Hp} {d d' : Dat} {vs : List V} (h : Rms m K A H [d,d'] vs) : ∃ v v',vs = [v,v']∧Pk K A H d v∧Pk K A H d' v' := by
 obtain ⟨v,r,e1,e2,v',r',e3,e4,e5⟩ := h
 exact ⟨v,v',by rw [e1,e3,show r' = [] from e5],e2.pk,e4.pk⟩
def RegC (m : Bool) (K : PySem.W.Frag) (A : AS) (H : Hp) (d : Dat) (Q : VK) : Prop := ∀ v H',Same H H'→Rm m K A H' d v→Q v H'
def NewC (K : PySem.W.Frag) (A : AS) (H : Hp) (ds : List Dat) (Q : VK) : Prop := ∀ p vs H',ds.length≤sizeLine→Same H H'→H p = none→H' p = some (.lst vs)→Rps K (av H' (ins A p)) ds vs→Q (.ref p) H'
section
variable {m : Bool} {K : PySem.W.Frag} {A : AS} {H H' : Hp} {d : Dat} {ds : List Dat} {Q : VK}
theorem RegC.mono (h : RegC m K A H d Q) (e : Same H H') : RegC m K A H' d Q := fun v H2 e2 r=>h v H2 (e.trans e2) r
theorem NewC.mono (h : NewC K A H ds Q) (e : Same H H') : NewC K A H' ds Q := fun p vs H2 hz e2 hn hp r=>h p vs H2 hz (e.trans e2) (e.free hn) hp r
theorem RegC.any (h : RegC m K A H d Q) : RegC false K A H d Q := fun v H' e r=>h v H' e (Rm.any r)
theorem RegC.here {v : V} (h : RegC m K A H d Q) (r : Rp K (av H A) d v) : Q v H := h v H (Same.refl H) (Rm.any r)
theorem RegC.new (h : RegC m K A H (.lst ds) Q) (mu : MuOk A H) : NewC K A H ds Q := fun p vs H' hz e hn hp r=>by
 refine h _ H' e (Rm.any (rp_lst hz (.inl (.inl (av_at hp (mu.new hn)))) (r.mono (av_less fun a q=>ins_of q))))
theorem NewC.at {vs : List V} (h : NewC K A H ds Q) (hz : ds.length≤sizeLine) (r : Rps K (av H A) ds vs) : ∀ p,H p = none→Q (.ref p) (upd H p (.lst vs)) := fun p hp=>by
 refine h p vs _ hz (Same.new hp) hp upd_same (r.mono fun b o e=>?_)
 obtain ⟨h1,h2⟩ := av_of e
 have hb : b≠p := ne_of_none h2 hp
 exact av_at (by rw [upd_ne hb];exact h2) (ins_ff h1 hb)
theorem RegC.tup {vs : List V} (h : RegC m K A H (.tup ds) Q) (mu : MuOk A H) (hz : ds.length≤sizeLine) (r : Rps K (av H A) ds vs) : ∀ p,H p = none→Q (.ref p) (upd H p (.tup vs)) := fun p hp=>by
 refine h _ _ (Same.new hp) (Rm.any (rp_tup hz (.inl ((av_at upd_same (mu.new hp)))) (r.mono (av_mono (Same.new hp)))))
end
def PXd (m : Bool) (X : Cx) (e : Expr) (f : Ev→Option Dat) : Prop := PE X e fun σ H Q=>∃ env R A d,EnvOk X.K R A H σ env∧f env = some d∧RegC m X.K A H d Q
def PNd (X : Cx) (e : Expr) (f : Ev→Option (List Dat)) : Prop := PE X e fun σ H Q=>∃ env R A ds,EnvOk X.K R A H σ env∧f env = some ds∧NewC X.K A H ds Q
def PAd (m : Bool) (X : Cx) (es : List Expr) (f : Ev→Option (List Dat)) : Prop := PA X es fun σ H Q=>∃ env R A ds,EnvOk X.K R A H σ env∧f env = some ds∧∀ vs H',Same H H'→Rms m X.K A H' ds vs→Q vs H'
def PTd (X : Cx) (e : Expr) (f : Ev→Option Bool) : Prop := PT X e fun σ H Q=>∃ env R A b,EnvOk X.K R A H σ env∧f env = some b∧∀ H',Same H H'→Q b H'
def PWd (X : Cx) (e : Expr) (f : Ev→Option Bool) : Prop := PW X e fun σ H Q=>∃ env R A b,EnvOk X.K R A H σ env∧f env = some b∧∀ H',Same H H'→Q b H'
theorem PE.weak {X : Cx} {e : Expr} {t t' : TE} (h : PE X e t) (w : ∀ σ H Q,t' σ H Q→t σ H Q) : PE X e t' := fun pins s σ H Q I q=>h pins s σ H Q I (w σ H Q q)
theorem PT.weak {X : Cx} {e : Expr} {t t' : TT} (h : PT X e t) (w : ∀ σ H Q,t' σ H Q→t σ H Q) : PT X e t' := fun pins s σ H Q I q=>h pins s σ H Q I (w σ H Q q)
theorem PW.weak {X : Cx} {e : Expr} {t t' : TT} (h : PW X e t) (w : ∀ σ H Q,t' σ H Q→t σ H Q) : PW X e t' := fun wh pins s σ H Q I q=>h wh pins s σ H Q I (w σ H Q q)
theorem PA.weak {X : Cx} {e : List Expr} {t t' : TA} (h : PA X e t) (w : ∀ σ H Q,t' σ H Q→t σ H Q) : PA X e t' := fun pos pins s σ H Q I q=>h pos pins s σ H Q I (w σ H Q q)
theorem PS.weak {X : Cx} {e : Stmt} {t t' : TS} (h : PS X e t) (w : ∀ D σ H,t' D σ H→t D σ H) : PS X e t' := fun pins s σ H D I q=>h pins s σ H D I (w D σ H q)
theorem PSs.weak {X : Cx} {e : List Stmt} {t t' : TS} (h : PSs X e t) (w : ∀ D σ H,t' D σ H→t D σ H) : PSs X e t' := fun pins s σ H D I q=>h pins s σ H D I (w D σ H q)
section
variable {m : Bool} {X : Cx} {e : Expr} {f : Ev→Option Dat}
theorem PXd.any (h : PXd false X e f) : PXd m X e f := h.weak fun _ _ _ ⟨env,R,A,d,k,q1,q2⟩=>⟨env,R,A,d,k,q1,q2.any⟩
noncomputable def dL (g : Ev→Option (List Dat)) : Ev→Option Dat := fun env=>(g env).map .lst
theorem PNd.x {g : Ev→Option (List Dat)} (h : PNd X e g) : PXd m X e (dL g) := h.weak fun _ _ _ zz=>by
 obtain ⟨env,R,A,d,k,q1,q2⟩ := zz
 unfold dL at q1
 cases q : g env with
 | none=>rw [q] at q1;cases q1
 | some ds =>
   rw [q] at q1
   cases q1
   exact ⟨env,R,A,ds,k,q,q2.new k.mu⟩
theorem bind_some {α β : Type} {a : Option α} {g : α→Option β} {b : β} (h : a.bind g = some b) : ∃ x,a = some x∧g x = some b := by
 cases a with
 | none=>cases h
 | some x=>exact ⟨x,rfl,h⟩
noncomputable def dV (i : Nat) : Ev→Option Dat := fun env=>match env[i]? with
 | some (.fz d)=>some d
 | _=>none
noncomputable def dP (i : Nat) : Ev→Option Dat := fun env=>match env[i]? with
 | some (.fz d)=>some d
 | some (.pk d)=>some d
 | some (.ow ds)=>some (.lst ds)
 | _=>none
theorem EnvOk.fz {R : Bs} {A : AS} {H : Hp} {σ : St} {env : Ev} {i : Nat} {d : Dat} (k : EnvOk X.K R A H σ env) (h : env[i]? = some (.fz d)) : ∃ v,σ[i]? = some (some v)∧Rp X.K (av H A) d v := by
 obtain ⟨own,h1,h2,h4⟩ := k.sl
 obtain ⟨x,q2,v,e1,e2⟩ := h4 i _ h
 subst e1
 exact ⟨v,q2,e2⟩
theorem EnvOk.look {R : Bs} {A : AS} {H : Hp} {σ : St} {env : Ev} {i : Nat} {d : Dat} (k : EnvOk X.K R A H σ env) (h : dP i env = some d) : ∃ v,σ[i]? = some (some v)∧Pk X.K A H d v := by
 obtain ⟨own,h1,h2,h4⟩ := k.sl
 unfold dP at h
 split at h
 · rename_i z e
   cases h
   obtain ⟨x,q2,v,e1,e2⟩ := h4 i _ e
   subst e1
   exact ⟨v,q2,.inl e2⟩
 · rename_i z e
   cases h
   obtain ⟨x,q2,v,e1,e2⟩ := h4 i _ e
   subst e1
   exact ⟨v,q2,e2⟩
 · rename_i z e
   cases h
   obtain ⟨x,q2,a,vs,e1,e2,hz,e3,e4⟩ := h4 i _ e
   subst e1
   exact ⟨.ref a,q2,.inr ⟨a,vs,z,rfl,rfl,hz,e3,e4⟩⟩
 · cases h
theorem xv (i : Nat) {x : Str} {pos : Pos} (hN : X.N[i]? = some x := by rfl) (hv : Vis X.env.scope x := by first | exact Or.inl rfl | exact Or.inr (Or.inl rfl) | exact Or.inr (Or.inr rfl)) (hd : (x == ("__debug__" : Str)) = false := by decide)
   (hcd : (x == ("__classdict__" : Str)) = false := by decide) : PXd m X (.Name x pos) (dV i) := PXd.any ((pe_var hN hv hd hcd).weak fun σ H Q zz=>by
 obtain ⟨env,R,A,d,k,q1,q2⟩ := zz
 unfold dV at q1
 split at q1
 · rename_i z e
   cases q1
   obtain ⟨v,h1,h2⟩ := k.fz e
   exact ⟨v,h1,q2.here h2⟩
 · cases q1)
theorem xo (i : Nat) {x : Str} {pos : Pos} (hN : X.N[i]? = some x := by rfl) (hv : Vis X.env.scope x := by first | exact Or.inl rfl | exact Or.inr (Or.inl rfl) | exact Or.inr (Or.inr rfl)) (hd : (x == ("__debug__" : Str)) = false := by decide)
   (hcd : (x == ("__classdict__" : Str)) = false := by decide) : PXd true X (.Name x pos) (dP i) := (pe_var hN hv hd hcd).weak fun σ H Q zz=>by
 obtain ⟨env,R,A,d,k,q1,q2⟩ := zz
 obtain ⟨v,h1,h2⟩ := k.look q1
 exact ⟨v,h1,q2 v H (Same.refl H) h2⟩
noncomputable def dC (d : Dat) : Ev→Option Dat := fun _=>some d
theorem xint {i : Int} {j pos} : PXd m X (.Constant (.int i) j pos) (dC (.int i)) := PXd.any (pe_int.weak fun _ _ _ ⟨_,_,_,_,_,q1,q2⟩=>by cases q1;exact q2.here rp_int)
theorem xbl {b : Bool} {j pos} : PXd m X (.Constant (.bool b) j pos) (dC (.bl b)) := PXd.any (pe_bl.weak fun _ _ _ ⟨_,_,_,_,_,q1,q2⟩=>by cases q1;exact q2.here rp_bl)
theorem xnon {j pos} : PXd m X (.Constant .none j pos) (dC .non) := PXd.any (pe_non.weak fun _ _ _ ⟨_,_,_,_,_,q1,q2⟩=>by cases q1;exact q2.here rp_non)
theorem xstr {x : Str} {j pos} (h : SOk x := by decide +kernel) : PXd m X (.Constant (.str x) j pos) (dC (.str x)) := PXd.any (pe_str.weak fun _ _ _ ⟨_,_,_,_,_,q1,q2⟩=>by cases q1;exact q2.here (rp_str h))
end
def rD (K : PySem.W.Frag) (F : Dat→Dat→Option Dat) : R2 := fun v u H Q=>∃ A x y d,MuOk A H∧F x y = some d∧Pk K A H x v∧Pk K A H y u∧RegC false K A H d Q
def rN (K : PySem.W.Frag) (F : Dat→Dat→Option (List Dat)) : R2 := fun v u H Q=>∃ A x y ds,MuOk A H∧F x y = some ds∧Pk K A H x v∧Pk K A H y u∧NewC K A H ds Q
def OpD (X : Cx) (f : Value→Value→Sem Value) (F : Dat→Dat→Option Dat) : Prop := OpR X f (rD X.K F)
def OpN (X : Cx) (f : Value→Value→Sem Value) (F : Dat→Dat→Option (List Dat)) : Prop := OpR X f (rN X.K F)
theorem OpR.weak {X : Cx} {f : Value→Value→Sem Value} {r r' : R2} (h : OpR X f r) (w : ∀ x y H Q,r' x y H Q→r x y H Q) : OpR X f r' := fun pins s σ H x y v u Q I rx ry q=>h pins s σ H x y v u Q I rx ry (w _ _ _ _ q)
theorem OpN.d {X : Cx} {f : Value→Value→Sem Value} {F : Dat→Dat→Option (List Dat)} (h : OpN X f F) : OpD X f (fun x y=>(F x y).map .lst) := OpR.weak h fun v u H Q zz=>by
 obtain ⟨A,x,y,d,mu,e,p1,p2,q⟩ := zz
 dsimp only at e
 cases z : F x y with
 | none=>rw [z] at e;cases e
 | some ds=>rw [z] at e;cases e;exact ⟨A,x,y,ds,mu,z,p1,p2,q.new mu⟩
noncomputable def dO (F : Dat→Dat→Option α) (f g : Ev→Option Dat) : Ev→Option α := fun env=>(f env).bind fun x=>(g env).bind fun y=>F x y
section
variable {m m1 m2 : Bool} {X : Cx} {a b : Expr} {f g : Ev→Option Dat} {F : Dat→Dat→Option Dat} {G : Dat→Dat→Option (List Dat)} {pos : Pos}
theorem two {r : R2} {σ : St} {H : Hp} {Q : VK} {env : Ev} {R : Bs} {A : AS} {x y : Dat} (k : EnvOk X.K R A H σ env) (e1 : f env = some x) (e2 : g env = some y)
   (h : ∀ v u H2,Same H H2→Pk X.K A H2 x v→Pk X.K A H2 y u→MuOk A H2→r v u H2 Q) :
   tOp r (fun σ H Q=>∃ env R A d,EnvOk X.K R A H σ env∧f env = some d∧RegC m1 X.K A H d Q) (fun σ H Q=>∃ env R A d,EnvOk X.K R A H σ env∧g env = some d∧RegC m2 X.K A H d Q) σ H Q :=
 ⟨env,R,A,x,k,e1,fun v H1 s1 p1=>⟨env,R,A,y,k.mono s1,e2,fun u H2 s2 p2=>h v u H2 (s1.trans s2) (p1.pk.mono s2) p2.pk (k.mu.mono (s1.trans s2))⟩⟩
theorem dO_some {α : Type} {F : Dat→Dat→Option α} {env : Ev} {d : α} (h : dO F f g env = some d) : ∃ x y,f env = some x∧g env = some y∧F x y = some d := by
 obtain ⟨x,e1,h⟩ := bind_some h
 obtain ⟨y,e2,h⟩ := bind_some h
 exact ⟨x,y,e1,e2,h⟩
theorem xop {op : Operator} (ho : OpD X (binaryOp op) F) (ha : PXd m1 X a f) (hb : PXd m2 X b g) : PXd m X (.BinOp a op b pos) (dO F f g) := PXd.any ((pe_op ho ha hb).weak fun σ H Q zz=>by
 obtain ⟨env,R,A,d,k,q1,q2⟩ := zz
 obtain ⟨x,y,e1,e2,e3⟩ := dO_some q1
 exact two k e1 e2 fun v u H2 s p1 p2 mu=>⟨A,x,y,d,mu,e3,p1,p2,q2.mono s⟩)
theorem nop {op : Operator} (ho : OpN X (binaryOp op) G) (ha : PXd m1 X a f) (hb : PXd m2 X b g) : PNd X (.BinOp a op b pos) (dO G f g) := (pe_op ho ha hb).weak fun σ H Q zz=>by
 obtain ⟨env,R,A,d,k,q1,q2⟩ := zz
 obtain ⟨x,y,e1,e2,e3⟩ := dO_some q1
 exact two k e1 e2 fun v u H2 s p1 p2 mu=>⟨A,x,y,d,mu,e3,p1,p2,q2.mono s⟩
theorem xcmp {op : CmpOp} (ho : OpD X (compareOp op) F) (ha : PXd m1 X a f) (hb : PXd m2 X b g) (hm : behindInMarks op b = false) : PXd m X (.Compare a [op] [b] pos) (dO F f g) := PXd.any ((pe_cmpR ho ha hb hm).weak fun σ H Q zz=>by
 obtain ⟨env,R,A,d,k,q1,q2⟩ := zz
 obtain ⟨x,y,e1,e2,e3⟩ := dO_some q1
 exact two k e1 e2 fun v u H2 s p1 p2 mu=>⟨A,x,y,d,mu,e3,p1,p2,q2.mono s⟩)
noncomputable def dB (f : Ev→Option Dat) : Ev→Option Bool := fun env=>match f env with
 | some (.bl b)=>some b
 | _=>none
theorem dB_some {env : Ev} {b : Bool} (h : dB f env = some b) : f env = some (.bl b) := by
 unfold dB at h
 split at h
 · rename_i z e;cases h;exact e
 · cases h
theorem tcmp {op : CmpOp} (ho : OpD X (compareOp op) F) (ha : PXd m1 X a f) (hb : PXd m2 X b g) (hm : behindInMarks op b = false) : PTd X (.Compare a [op] [b] pos) (dB (dO F f g)) := (pt_cmpR ho ha hb hm).weak fun σ H Q zz=>by
 obtain ⟨env,R,A,d,k,q1,q2⟩ := zz
 obtain ⟨x,y,e1,e2,e3⟩ := dO_some (dB_some q1)
 show tOp (rD X.K F) _ _ σ H (fun x H'=>∃ k,x = .bl k∧Q k H')
 exact two k e1 e2 fun v u H2 s p1 p2 mu=>⟨A,x,y,.bl d,mu,e3,p1,p2,fun v H' s' r=>⟨d,r.pk.bl,q2 H' (s.trans s')⟩⟩
theorem xix (ho : IxR X (rD X.K F)) (ha : PXd m1 X a f) (hb : PXd m2 X b g) (hs : PlainIx b) : PXd m X (.Subscript a b pos) (dO F f g) := PXd.any ((pe_ix ho ha hb hs).weak fun σ H Q zz=>by
 obtain ⟨env,R,A,d,k,q1,q2⟩ := zz
 obtain ⟨x,y,e1,e2,e3⟩ := dO_some q1
 exact two k e1 e2 fun v u H2 s p1 p2 mu=>⟨A,x,y,d,mu,e3,p1,p2,q2.mono s⟩)
end
section
variable {m m1 m2 : Bool} {X : Cx} {a b c : Expr} {rest : List Expr} {f g h : Ev→Option Dat} {t u : Ev→Option Bool} {pos : Pos}
noncomputable def tAndD (t u : Ev→Option Bool) : Ev→Option Bool := fun env=>(t env).bind fun b=>if b = true then u env else some false
noncomputable def tOrD (t u : Ev→Option Bool) : Ev→Option Bool := fun env=>(t env).bind fun b=>if b = true then some true else u env
noncomputable def tNotD (t : Ev→Option Bool) : Ev→Option Bool := fun env=>(t env).map (!·)
theorem w_and1 (ha : PTd X a t) : PWd X (.BoolOp .And [a] pos) t := pw_and1 ha
theorem w_or1 (ha : PTd X a t) : PWd X (.BoolOp .Or [a] pos) t := pw_or1 ha
theorem w_and (ha : PTd X a t) (hb : PWd X (.BoolOp .And (b :: rest) pos) u) : PWd X (.BoolOp .And (a :: b :: rest) pos) (tAndD t u) := (pw_and ha hb).weak fun σ H Q zz=>by
 obtain ⟨env,R,A,d,k,q1,q2⟩ := zz
 obtain ⟨x,e1,e2⟩ := bind_some q1
 refine ⟨env,R,A,x,k,e1,fun H1 s1=>?_⟩
 cases x with
 | true =>
   rw [if_pos rfl] at e2 ⊢
   exact ⟨env,R,A,d,k.mono s1,e2,fun H2 s2=>q2 H2 (s1.trans s2)⟩
 | false =>
   rw [if_neg Bool.false_ne_true] at e2 ⊢
   cases e2
   exact q2 H1 s1
theorem w_or (ha : PTd X a t) (hb : PWd X (.BoolOp .Or (b :: rest) pos) u) : PWd X (.BoolOp .Or (a :: b :: rest) pos) (tOrD t u) := (pw_or ha hb).weak fun σ H Q zz=>by
 obtain ⟨env,R,A,d,k,q1,q2⟩ := zz
 obtain ⟨x,e1,e2⟩ := bind_some q1
 refine ⟨env,R,A,x,k,e1,fun H1 s1=>?_⟩
 cases x with
 | true =>
   rw [if_pos rfl] at e2 ⊢
   cases e2
   exact q2 H1 s1
 | false =>
   rw [if_neg Bool.false_ne_true] at e2 ⊢
   exact ⟨env,R,A,d,k.mono s1,e2,fun H2 s2=>q2 H2 (s1.trans s2)⟩
theorem PWd.pt {e : Expr} (h : PWd X e t) : PTd X e t := PW.pt h
theorem tnot (ha : PTd X a t) : PTd X (.UnaryOp .Not a pos) (tNotD t) := (pt_not ha).weak fun σ H Q zz=>by
 obtain ⟨env,R,A,d,k,q1,q2⟩ := zz
 unfold tNotD at q1
 cases e : t env with
 | none=>rw [e] at q1;cases q1
 | some x =>
   rw [e] at q1
   cases q1
   exact ⟨env,R,A,x,k,e,fun H1 s1=>q2 H1 s1⟩
noncomputable def dAnd (f g : Ev→Option Dat) : Ev→Option Dat := fun env=>(dB f env).bind fun b=>if b = true then g env else some (.bl false)
noncomputable def dNot (f : Ev→Option Dat) : Ev→Option Dat := fun env=>(dB f env).map fun b=>.bl (!b)
theorem xone {op} (ha : PXd m X a f) : PXd m X (.BoolOp op [a] pos) f := pe_one ha
theorem xand (ha : PXd m1 X a f) (hb : PXd false X (.BoolOp .And (b :: rest) pos) g) : PXd m X (.BoolOp .And (a :: b :: rest) pos) (dAnd f g) := PXd.any ((pe_and ha hb).weak fun σ H Q zz=>by
 obtain ⟨env,R,A,d,k,q1,q2⟩ := zz
 obtain ⟨x,e1,e2⟩ := bind_some q1
 refine ⟨env,R,A,.bl x,k,dB_some e1,fun v H1 s1 p1=>⟨x,p1.pk.bl,?_⟩⟩
 cases x with
 | true =>
   rw [if_pos rfl] at e2 ⊢
   exact ⟨env,R,A,d,k.mono s1,e2,q2.mono s1⟩
 | false =>
   rw [if_neg Bool.false_ne_true] at e2 ⊢
   cases e2
   exact (q2.mono s1).here rp_bl)
theorem xnot (ha : PXd m1 X a f) : PXd m X (.UnaryOp .Not a pos) (dNot f) := PXd.any ((pe_not ha).weak fun σ H Q zz=>by
 obtain ⟨env,R,A,d,k,q1,q2⟩ := zz
 unfold dNot at q1
 cases e : dB f env with
 | none=>rw [e] at q1;cases q1
 | some x =>
   rw [e] at q1
   cases q1
   exact ⟨env,R,A,.bl x,k,dB_some e,fun v H1 s1 p1=>⟨x,p1.pk.bl,(q2.mono s1).here rp_bl⟩⟩)
noncomputable def truD : Dat→Option Bool
 | .non=>some false
 | .bl b=>some b
 | .int i=>some (i != 0)
 | .str y=>some ((y.length : Int) != 0)
 | .lst xs=>some (!xs.isEmpty)
 | .tup xs=>some (!xs.isEmpty)
 | _=>none
noncomputable def dT (f : Ev→Option Dat) : Ev→Option Bool := fun env=>(f env).bind truD
theorem rps_isEmpty {K : PySem.W.Frag} {H : Hp} {ds : List Dat} {vs : List V} (r : Rps K H ds vs) : vs.isEmpty = ds.isEmpty := by
 cases ds with
 | nil=>rw [rps_of_nil r];rfl
 | cons d ds=>obtain ⟨v,r',e,_⟩ := rps_of_cons r;rw [e];rfl
theorem tval (ha : PXd true X a f) (he : ∀ whole,isTrue a X.env whole = (do let v ← whole;standAt a.pos;holding [v] (truthy v)) := by intro _;rfl) : PTd X a (dT f) := (pt_truth ha he).weak fun σ H Q zz=>by
 obtain ⟨env,R,A,b,k,q1,q2⟩ := zz
 obtain ⟨x,e1,e2⟩ := bind_some q1
 refine ⟨env,R,A,x,k,e1,fun v H1 s1 p1=>⟨b,?_,q2 H1 s1⟩⟩
 have p : Pk X.K A H1 x v := p1
 cases x with
 | non=>cases e2;rw [p.non];rfl
 | bl b'=>cases e2;rw [p.bl];rfl
 | int i=>cases e2;rw [p.int];rfl
 | str y=>cases e2;obtain ⟨e,h⟩ := p.str;rw [e];exact ⟨h.le,rfl⟩
 | lst xs=>cases e2;obtain ⟨a',vs,e,h1,h2⟩ := p.lst;rw [e];exact .inl ⟨vs,h1.sq,by rw [rps_isEmpty h2]⟩
 | tup xs=>cases e2;obtain ⟨a',vs,e,h1,h2⟩ := p.tup;rw [e];exact .inr (.inl ⟨vs,h1,by rw [rps_isEmpty h2]⟩)
 | dct _=>cases e2
 | exc _ _=>cases e2
end
section
variable {m : Bool} {X : Cx} {e : Expr} {es : List Expr} {f : Ev→Option Dat} {fs : Ev→Option (List Dat)} {pos : Pos}
noncomputable def aNil : Ev→Option (List Dat) := fun _=>some []
noncomputable def aCons (f : Ev→Option Dat) (fs : Ev→Option (List Dat)) : Ev→Option (List Dat) := fun env=>(f env).bind fun d=>(fs env).map fun ds=>d :: ds
theorem a_nil : PAd m X [] aNil := pa_nil.weak fun σ H Q ⟨env,R,A,ds,k,q1,q2⟩=>by cases q1;exact q2 [] H (Same.refl H) rfl
theorem a_cons (ha : PXd m X e f) (hr : PAd m X es fs) (hs : starEach (e :: es) X.env = (false,eval e X.env) :: starEach es X.env := by rfl) : PAd m X (e :: es) (aCons f fs) := (pa_cons ha hr hs).weak fun σ H Q zz=>by
 obtain ⟨env,R,A,ds,k,q1,q2⟩ := zz
 obtain ⟨d,e1,e2⟩ := bind_some q1
 cases e3 : fs env with
 | none=>rw [e3] at e2;cases e2
 | some r =>
   rw [e3] at e2
   cases e2
   exact ⟨env,R,A,d,k,e1,fun v H1 s1 p1=>⟨env,R,A,r,k.mono s1,e3,fun vs H2 s2 p2=>q2 (v :: vs) H2 (s1.trans s2) ⟨v,vs,rfl,p1.mono s2,p2⟩⟩⟩
noncomputable def aTup (fs : Ev→Option (List Dat)) : Ev→Option Dat := fun env=>(fs env).bind fun ds=>if ds.length≤1000 then some (.tup ds) else none
noncomputable def aLst (fs : Ev→Option (List Dat)) : Ev→Option (List Dat) := fun env=>(fs env).bind fun ds=>if ds.length≤1000 then some ds else none
theorem xtup {x1} (h : PAd false X es fs) : PXd m X (.Tuple es x1 pos) (aTup fs) := PXd.any ((pe_tup h).weak fun σ H Q zz=>by
 obtain ⟨env,R,A,d,k,q1,q2⟩ := zz
 obtain ⟨ds,e1,e2⟩ := bind_some q1
 split at e2
 · rename_i hz
   cases e2
   have hz' : ds.length≤sizeLine := Nat.le_of_lt (small1000 hz)
   refine ⟨env,R,A,ds,k,e1,fun vs H1 s1 p1=>⟨?_,(q2.mono s1).tup (k.mu.mono s1) hz' p1.rps⟩⟩
   rw [rps_len p1.rps];exact hz'
 · cases e2)
theorem nlst (h : PAd false X es fs) : PNd X (.List es pos) (aLst fs) := (pe_lst h).weak fun σ H Q zz=>by
 obtain ⟨env,R,A,d,k,q1,q2⟩ := zz
 obtain ⟨ds,e1,e2⟩ := bind_some q1
 split at e2
 · rename_i hz
   cases e2
   have hz' : d.length≤sizeLine := Nat.le_of_lt (small1000 hz)
   refine ⟨env,R,A,d,k,e1,fun vs H1 s1 p1=>⟨?_,(q2.mono s1).at hz' p1.rps⟩⟩
   rw [rps_len p1.rps];exact hz'
 · cases e2
def CallD (X : Cx) (f : Value) (F : List Dat→Option Dat) : Prop := CallR X f (fun vs H Q=>∃ A ds d,MuOk A H∧F ds = some d∧Rms true X.K A H ds vs∧RegC false X.K A H d Q)
def CallN (X : Cx) (f : Value) (F : List Dat→Option (List Dat)) : Prop := CallR X f (fun vs H Q=>∃ A ds d,MuOk A H∧F ds = some d∧Rms true X.K A H ds vs∧NewC X.K A H d Q)
theorem CallR.weak {f : Value} {r r' : List V→Hp→VK→Prop} (h : CallR X f r) (w : ∀ xs H Q,r' xs H Q→r xs H Q) : CallR X f r' := fun pins s σ H xs us Q I rv q=>h pins s σ H xs us Q I rv (w _ _ _ q)
noncomputable def dF (F : List Dat→Option α) (fs : Ev→Option (List Dat)) : Ev→Option α := fun env=>(fs env).bind F
variable {x : Str} {p : Pos} {id T : String} {F : List Dat→Option Dat} {G : List Dat→Option (List Dat)}
theorem xcallB (hc : CallD X (.builtin id) F) (hg : Gl X x) (hm : X.mg x = none) (hv : bootBuiltins x = some (.builtin id)) (ha : PAd true X (e :: es) fs) (hn : x ≠ "__name__" := by decide) (hdb : (x == ("__debug__" : Str)) = false := by decide)
   (he : starEach (e :: es) X.env = (false,eval e X.env) :: starEach es X.env := by rfl) (hpl : (backTo pos (starEach es X.env)).any (·.1) = false := by rfl) : PXd m X (.Call (.Name x p) (e :: es) [] pos) (dF F fs) :=
 PXd.any ((pe_callB hc hg hm hv ha hn hdb he hpl).weak fun σ H Q zz=>by
   obtain ⟨env,R,A,d,k,q1,q2⟩ := zz
   obtain ⟨ds,e1,e2⟩ := bind_some q1
   exact ⟨env,R,A,ds,k,e1,fun vs H1 s1 p1=>⟨A,ds,d,k.mu.mono s1,e2,p1,q2.mono s1⟩⟩)
theorem xcallT (hc : CallD X (.type T) F) (hg : Gl X x) (hm : X.mg x = none) (hv : bootBuiltins x = some (.type T)) (ha : PAd true X (e :: es) fs) (hn : x ≠ "__name__" := by decide) (hdb : (x == ("__debug__" : Str)) = false := by decide)
   (he : starEach (e :: es) X.env = (false,eval e X.env) :: starEach es X.env := by rfl) (hpl : (backTo pos (starEach es X.env)).any (·.1) = false := by rfl) : PXd m X (.Call (.Name x p) (e :: es) [] pos) (dF F fs) :=
 PXd.any ((pe_callTy hc hg hm hv ha hn hdb he hpl).weak fun σ H Q zz=>by
   obtain ⟨env,R,A,d,k,q1,q2⟩ := zz
   obtain ⟨ds,e1,e2⟩ := bind_some q1
   exact ⟨env,R,A,ds,k,e1,fun vs H1 s1 p1=>⟨A,ds,d,k.mu.mono s1,e2,p1,q2.mono s1⟩⟩)
theorem ncallB (hc : CallN X (.builtin id) G) (hg : Gl X x) (hm : X.mg x = none) (hv : bootBuiltins x = some (.builtin id)) (ha : PAd true X (e :: es) fs) (hn : x ≠ "__name__" := by decide) (hdb : (x == ("__debug__" : Str)) = false := by decide)
   (he : starEach (e :: es) X.env = (false,eval e X.env) :: starEach es X.env := by rfl) (hpl : (backTo pos (starEach es X.env)).any (·.1) = false := by rfl) : PNd X (.Call (.Name x p) (e :: es) [] pos) (dF G fs) :=
 (pe_callB hc hg hm hv ha hn hdb he hpl).weak fun σ H Q zz=>by
   obtain ⟨env,R,A,d,k,q1,q2⟩ := zz
   obtain ⟨ds,e1,e2⟩ := bind_some q1
   exact ⟨env,R,A,ds,k,e1,fun vs H1 s1 p1=>⟨A,ds,d,k.mu.mono s1,e2,p1,q2.mono s1⟩⟩
theorem ncallT (hc : CallN X (.type T) G) (hg : Gl X x) (hm : X.mg x = none) (hv : bootBuiltins x = some (.type T)) (ha : PAd true X (e :: es) fs) (hn : x ≠ "__name__" := by decide) (hdb : (x == ("__debug__" : Str)) = false := by decide)
   (he : starEach (e :: es) X.env = (false,eval e X.env) :: starEach es X.env := by rfl) (hpl : (backTo pos (starEach es X.env)).any (·.1) = false := by rfl) : PNd X (.Call (.Name x p) (e :: es) [] pos) (dF G fs) :=
 (pe_callTy hc hg hm hv ha hn hdb he hpl).weak fun σ H Q zz=>by
   obtain ⟨env,R,A,d,k,q1,q2⟩ := zz
   obtain ⟨ds,e1,e2⟩ := bind_some q1
   exact ⟨env,R,A,ds,k,e1,fun vs H1 s1 p1=>⟨A,ds,d,k.mu.mono s1,e2,p1,q2.mono s1⟩⟩
end
section
variable {m m1 : Bool} {X : Cx} {o e : Expr} {es : List Expr} {f : Ev→Option Dat} {fs : Ev→Option (List Dat)} {pos apos cpos : Pos} {name : Str} {T id : String} {α : Type}
noncomputable def tyOk (T : String) : Dat→Bool
 | .str _=>T == "str"
 | .int _=>T == "int"
 | .lst _=>T == "list"
 | _=>false
theorem tyOk_v {K : PySem.W.Frag} {A : AS} {H : Hp} {d : Dat} {v : V} (h : tyOk T d = true) (p : Pk K A H d v) : tyV K T v H := by
 cases d with
 | str x=>rw [p.str.1];show T = "str";simpa [tyOk] using h
 | int x=>rw [p.int];show T = "int";simpa [tyOk] using h
 | lst x=>obtain ⟨a,vs,e,h1,h2⟩ := p.lst;rw [e];exact .inl ⟨by simpa [tyOk] using h,vs,h1.sq⟩
 | _=>cases h
def MtD (X : Cx) (id : String) (F : Dat→List Dat→Option Dat) : Prop := MtR X id (fun v vs H Q=>∃ A x ds d,MuOk A H∧F x ds = some d∧Pk X.K A H x v∧Rms true X.K A H ds vs∧RegC false X.K A H d Q)
noncomputable def dM (T : String) (F : Dat→List Dat→Option α) (f : Ev→Option Dat) (fs : Ev→Option (List Dat)) : Ev→Option α := fun env=>(f env).bind fun x=>if tyOk T x = true then (fs env).bind fun ds=>F x ds else none
theorem dM_some {F : Dat→List Dat→Option α} {env : Ev} {d : α} (h : dM T F f fs env = some d) : ∃ x ds,f env = some x∧tyOk T x = true∧fs env = some ds∧F x ds = some d := by
 obtain ⟨x,e1,h⟩ := bind_some h
 split at h
 · rename_i ht
   obtain ⟨ds,e2,h⟩ := bind_some h
   exact ⟨x,ds,e1,ht,e2,h⟩
 · cases h
theorem MtR.weak {r r' : V→List V→Hp→VK→Prop} (h : MtR X id r) (w : ∀ x xs H Q,r' x xs H Q→r x xs H Q) : MtR X id r' := fun pins s σ H x xs v us Q I rx rv q=>h pins s σ H x xs v us Q I rx rv (w _ _ _ _ q)
variable {F : Dat→List Dat→Option Dat} {G : Dat→List Dat→Option (List Dat)}
theorem xbm (pa : PlainAttrs T) (slot : Slot T name id) (hty : typeOf (.builtin id) = pure (.type "method_descriptor")) (hm : MtD X id F) (ho : PXd m1 X o f) (ha : PAd true X (e :: es) fs)
   (hbase : attributeBase o name X.env (eval o X.env) = eval o X.env := by rfl)
   (hfew : ((backTo cpos (starEach (e :: es) X.env)).all (fun x=>!x.1) && (backToKw cpos (keywordEach [] X.env)).all (fun x=>x.1.isSome)
     && decide ((e :: es).length + ([] : List Keyword).length + (if ([] : List Keyword).isEmpty then 0 else 1) < 30)) = true := by rfl)
   (hline : (apos.endLine == cpos.line) = true := by rfl) (hs : starEach (e :: es) X.env = (false,eval e X.env) :: starEach es X.env := by rfl) (hplain : (backTo cpos (starEach es X.env)).any (·.1) = false := by rfl) :
   PXd m X (.Call (.Attribute o name apos) (e :: es) [] cpos) (dM T F f fs) := PXd.any ((pe_bm pa slot hty hm ho ha hbase hfew hline hs hplain).weak fun σ H Q zz=>by
 obtain ⟨env,R,A,d,k,q1,q2⟩ := zz
 obtain ⟨x,ds,e1,ht,e2,e3⟩ := dM_some q1
 exact ⟨env,R,A,x,k,e1,fun v H1 s1 p1=>⟨tyOk_v ht p1.pk,env,R,A,ds,k.mono s1,e2,fun vs H2 s2 p2=>⟨A,x,ds,d,k.mu.mono (s1.trans s2),e3,p1.pk.mono s2,p2,q2.mono (s1.trans s2)⟩⟩⟩)
def POd (X : Cx) (e : Option Expr) (f : Ev→Option (Option Int)) : Prop := PO X e fun σ H Q=>∃ env R A i,EnvOk X.K R A H σ env∧f env = some i∧∀ H',Same H H'→Q i H'
noncomputable def oNone : Ev→Option (Option Int) := fun _=>some none
noncomputable def oSome (f : Ev→Option Dat) : Ev→Option (Option Int) := fun env=>match f env with
 | some (.int i)=>some (some i)
 | _=>none
theorem PO.weak {e : Option Expr} {t t' : TO} (h : PO X e t) (w : ∀ σ H Q,t' σ H Q→t σ H Q) : PO X e t' := fun pins s σ H Q I q=>h pins s σ H Q I (w σ H Q q)
theorem o_none : POd X none oNone := po_none.weak fun σ H Q ⟨env,R,A,i,k,q1,q2⟩=>by cases q1;exact q2 H (Same.refl H)
theorem o_some (h : PXd m X e f) : POd X (some e) (oSome f) := (po_some h).weak fun σ H Q zz=>by
 obtain ⟨env,R,A,i,k,q1,q2⟩ := zz
 unfold oSome at q1
 split at q1
 · rename_i n e1
   cases q1
   exact ⟨env,R,A,_,k,e1,fun v H1 s1 p1=>⟨n,p1.pk.int,q2 H1 s1⟩⟩
 · cases q1
def SlD (X : Cx) (F : Dat→Option Int→Option Int→Option Dat) : Prop := SlR X (fun v lo hi H Q=>∃ A x d,MuOk A H∧F x lo hi = some d∧Pk X.K A H x v∧RegC false X.K A H d Q)
noncomputable def dS (F : Dat→Option Int→Option Int→Option α) (f : Ev→Option Dat) (g h : Ev→Option (Option Int)) : Ev→Option α := fun env=>(f env).bind fun x=>(g env).bind fun l=>(h env).bind fun u=>F x l u
variable {lo hi : Option Expr} {gl gh : Ev→Option (Option Int)} {p2 : Pos}
theorem dS_some {F : Dat→Option Int→Option Int→Option α} {env : Ev} {d : α} (h : dS F f gl gh env = some d) : ∃ x l u,f env = some x∧gl env = some l∧gh env = some u∧F x l u = some d := by
 obtain ⟨x,e1,h⟩ := bind_some h
 obtain ⟨l,e2,h⟩ := bind_some h
 obtain ⟨u,e3,h⟩ := bind_some h
 exact ⟨x,l,u,e1,e2,e3,h⟩
theorem xslice {F : Dat→Option Int→Option Int→Option Dat} (hr : SlD X F) (he : PXd m1 X e f) (hl : POd X lo gl) (hu : POd X hi gh) : PXd m X (.Subscript e (.Slice lo hi none p2) pos) (dS F f gl gh) := PXd.any ((pe_slice hr he hl hu).weak fun σ H Q zz=>by
 obtain ⟨env,R,A,d,k,q1,q2⟩ := zz
 obtain ⟨x,l,u,e1,e2,e3,e4⟩ := dS_some q1
 exact ⟨env,R,A,x,k,e1,fun v H1 s1 p1=>⟨env,R,A,l,k.mono s1,e2,fun H2 s2=>⟨env,R,A,u,k.mono (s1.trans s2),e3,fun H3 s3=>⟨A,x,d,k.mu.mono ((s1.trans s2).trans s3),e4,p1.pk.mono (s2.trans s3),q2.mono ((s1.trans s2).trans s3)⟩⟩⟩⟩)
def UnD (X : Cx) (g : Value→Sem Value) (F : Dat→Option Dat) : Prop := UnR X g (fun v H Q=>∃ A x d,MuOk A H∧F x = some d∧Pk X.K A H x v∧RegC false X.K A H d Q)
noncomputable def dU (F : Dat→Option Dat) (f : Ev→Option Dat) : Ev→Option Dat := fun env=>(f env).bind F
theorem xun {op : UnaryOp} {F : Dat→Option Dat} (ho : UnD X (unaryOp op) F) (ha : PXd m1 X e f) : PXd m X (.UnaryOp op e pos) (dU F f) := PXd.any ((pe_un ho ha).weak fun σ H Q zz=>by
 obtain ⟨env,R,A,d,k,q1,q2⟩ := zz
 obtain ⟨x,e1,e2⟩ := bind_some q1
 exact ⟨env,R,A,x,k,e1,fun v H1 s1 p1=>⟨A,x,d,k.mu.mono s1,e2,p1.pk,q2.mono s1⟩⟩)
end
section
variable {X : Cx}
noncomputable def iop (C : Int→Int→Prop) [∀ i j,Decidable (C i j)] (g : Int→Int→Dat) : Dat→Dat→Option Dat
 | .int i,.int j=>if C i j then some (g i j) else none
 | _,_=>none
theorem op_i {f : Value→Value→Sem Value} {C : Int→Int→Prop} [∀ i j,Decidable (C i j)] {g : Int→Int→V} {G : Int→Int→Dat} (h : OpR X f (rI C g)) (hg : ∀ K H i j,Rp K H (G i j) (g i j)) : OpD X f (iop C G) := h.weak fun v u H Q zz=>by
 obtain ⟨A,x,y,d,mu,e,p1,p2,q⟩ := zz
 unfold iop at e
 split at e
 · rename_i i j
   split at e
   · rename_i hc
     cases e
     exact ⟨i,j,p1.int,p2.int,hc,q.here (hg _ _ _ _)⟩
   · cases e
 · cases e
theorem op_i0 {f : Value→Value→Sem Value} {g : Int→Int→V} {G : Int→Int→Dat} (h : OpR X f (rI0 g)) (hg : ∀ K H i j,Rp K H (G i j) (g i j)) : OpD X f (iop (fun _ _=>True) G) := h.weak fun v u H Q zz=>by
 obtain ⟨A,x,y,d,mu,e,p1,p2,q⟩ := zz
 unfold iop at e
 split at e
 · rename_i i j
   rw [if_pos trivial] at e
   cases e
   exact ⟨i,j,p1.int,p2.int,q.here (hg _ _ _ _)⟩
 · cases e
noncomputable instance : ∀ i j,Decidable (CMul i j) := fun i j=>by unfold CMul;infer_instance
noncomputable instance : ∀ i j,Decidable (CDiv i j) := fun i j=>by unfold CDiv;infer_instance
noncomputable instance : ∀ i j,Decidable (CPow i j) := fun i j=>by unfold CPow;infer_instance
noncomputable def subD := iop (fun _ _=>True) fun i j=>.int (i - j)
noncomputable def fdivD := iop CDiv fun i j=>.int (i / j)
noncomputable def modD := iop (fun _ j=>0 < j) fun i j=>.int (i % j)
noncomputable def shlD := iop CPow fun i j=>.int (i * 2 ^ j.toNat)
noncomputable def shrD := iop (fun _ j=>0≤j) fun i j=>.int (i / 2 ^ j.toNat)
noncomputable def andD := iop (fun _ _=>True) fun i j=>.int (Builtin.bitAnd i j)
noncomputable def orD := iop (fun _ _=>True) fun i j=>.int (Builtin.bitOr i j)
noncomputable def xorD := iop (fun _ _=>True) fun i j=>.int (Builtin.bitXor i j)
noncomputable def ltD := iop (fun _ _=>True) fun i j=>.bl (decide (i < j))
noncomputable def gtD := iop (fun _ _=>True) fun i j=>.bl (decide (j < i))
noncomputable def geD := iop (fun _ _=>True) fun i j=>.bl (decide (j≤i))
theorem o_sub : OpD X (binaryOp .Sub) subD := op_i0 op_sub fun _ _ _ _=>rp_int
theorem o_fdiv : OpD X (binaryOp .FloorDiv) fdivD := op_i op_fdiv fun _ _ _ _=>rp_int
theorem o_mod : OpD X (binaryOp .Mod) modD := op_i op_mod fun _ _ _ _=>rp_int
theorem o_shl : OpD X (binaryOp .LShift) shlD := op_i op_shl fun _ _ _ _=>rp_int
theorem o_shr : OpD X (binaryOp .RShift) shrD := op_i op_shr fun _ _ _ _=>rp_int
theorem o_and : OpD X (binaryOp .BitAnd) andD := op_i0 op_and fun _ _ _ _=>rp_int
theorem o_or : OpD X (binaryOp .BitOr) orD := op_i0 op_or fun _ _ _ _=>rp_int
theorem o_xor : OpD X (binaryOp .BitXor) xorD := op_i0 op_xor fun _ _ _ _=>rp_int
theorem o_lt : OpD X (compareOp .Lt) ltD := op_i0 op_lt fun _ _ _ _=>rp_bl
theorem o_gt : OpD X (compareOp .Gt) gtD := op_i0 op_gt fun _ _ _ _=>rp_bl
theorem o_ge : OpD X (compareOp .GtE) geD := op_i0 op_ge fun _ _ _ _=>rp_bl
theorem OpD.or {f : Value→Value→Sem Value} {F G E : Dat→Dat→Option Dat} (h : OpD X f F) (h' : OpD X f G) (he : ∀ x y d,E x y = some d→F x y = some d∨G x y = some d) : OpD X f E := fun pins s σ H x y v u Q I rx ry zz=>by
 obtain ⟨A,a,b,d,mu,e,p1,p2,q⟩ := zz
 rcases he _ _ _ e with e | e
 · exact h pins s σ H x y v u Q I rx ry ⟨A,a,b,d,mu,e,p1,p2,q⟩
 · exact h' pins s σ H x y v u Q I rx ry ⟨A,a,b,d,mu,e,p1,p2,q⟩
noncomputable def invD : Dat→Option Dat
 | .int i=>some (.int (Builtin.bitNot i))
 | _=>none
theorem UnR.weak {f : Value→Sem Value} {r r' : V→Hp→VK→Prop} (h : UnR X f r) (w : ∀ x H Q,r' x H Q→r x H Q) : UnR X f r' := fun pins s σ H x v Q I rx q=>h pins s σ H x v Q I rx (w _ _ _ q)
theorem u_inv : UnD X (unaryOp .Invert) invD := UnR.weak un_inv fun v H Q zz=>by
 obtain ⟨A,x,d,mu,e,p,q⟩ := zz
 unfold invD at e
 split at e
 · cases e;exact ⟨_,p.int,q.here rp_int⟩
 · cases e
theorem strOk_of {x : Str} (h : ∀ c∈cl x,c < 0x110000) : PyData.strOk x = true := by
 unfold PyData.strOk
 rw [Array.all_eq_true']
 intro c hc
 exact decide_eq_true (h c (by simpa [cl] using hc))
theorem strOk_at {x : Str} (h : PyData.strOk x = true) : ∀ c∈cl x,c < 0x110000 := by
 unfold PyData.strOk at h
 rw [Array.all_eq_true'] at h
 intro c hc
 exact of_decide_eq_true (h c (by simpa [cl] using hc))
theorem strOk_app {x y : Str} (h : PyData.strOk x = true) (k : PyData.strOk y = true) : PyData.strOk (x ++ y) = true := strOk_of fun c hc=>by
 rw [cl_app] at hc
 rcases List.mem_append.mp hc with z | z
 · exact strOk_at h c z
 · exact strOk_at k c z
theorem len_app (x y : Str) : (x ++ y).length = x.length + y.length := by rw [← cl_len,cl_app,List.length_append,cl_len,cl_len]
noncomputable def addS : Dat→Dat→Option Dat
 | .str x,.str y=>if x.length + y.length≤sizeLine then some (.str (x ++ y)) else none
 | _,_=>none
theorem o_addS : OpD X (binaryOp .Add) addS := op_add_str.weak fun v u H Q zz=>by
 obtain ⟨A,x,y,d,mu,e,p1,p2,q⟩ := zz
 unfold addS at e
 split at e
 · rename_i i j
   split at e
   · rename_i hz
     cases e
     obtain ⟨e1,k1⟩ := p1.str
     obtain ⟨e2,k2⟩ := p2.str
     exact ⟨i,j,e1,e2,hz,q.here (rp_str (SOk.of (strOk_app k1.ok k2.ok) (by rw [len_app];exact hz)))⟩
   · cases e
 · cases e
noncomputable def catL : Dat→Dat→Option (List Dat)
 | .lst xs,.lst ys=>if xs.length + ys.length≤sizeLine then some (xs ++ ys) else none
 | _,_=>none
theorem n_cat : OpN X (binaryOp .Add) catL := fun pins s σ H x y v u Q I rx ry zz=>by
 obtain ⟨A,a,b,d,mu,e,p1,p2,q⟩ := zz
 unfold catL at e
 split at e
 · rename_i xs ys
   split at e
   · rename_i hz
     cases e
     obtain ⟨l1,vs,e1,h1,r1⟩ := p1.lst
     obtain ⟨l2,us,e2,h2,r2⟩ := p2.lst
     subst e1 e2
     cases rx
     cases ry
     obtain ⟨its,n,w1,g1,_⟩ := h1.get I
     obtain ⟨its2,n2,w2,g2,_⟩ := h2.get I
     have z1 := w1.length
     have z2 := w2.length
     have z3 := rps_len r1
     have z4 := rps_len r2
     refine PySem.P.add_list g1 g2 ?_ (by rw [List.size_toArray,List.size_toArray];lia)
     have ea : its.toArray ++ its2.toArray = (its ++ its2).toArray := by simp
     rw [ea]
     exact ⟨.ref _,_,I.lnew (t' := s.toks) (w1.append w2) (by rw [List.length_append];lia),rfl,q.at (by rw [List.length_append];exact hz) (rps_append r1 r2) _ I.fresh⟩
   · cases e
 · cases e
theorem rps_neNil {K : PySem.W.Frag} {H : Hp} {ds : List Dat} {vs : List V} (r : Rps K H ds vs) (h : ds.length≠0) : vs≠[] := by
 intro e;subst e;have := rps_len r;simp at this;lia
noncomputable def addD : Dat→Dat→Option Dat
 | .int i,.int j=>some (.int (i + j))
 | .str x,.str y=>if x.length + y.length≤sizeLine then some (.str (x ++ y)) else none
 | .lst xs,.lst ys=>if xs.length + ys.length≤sizeLine then some (.lst (xs ++ ys)) else none
 | _,_=>none
theorem o_addI : OpD X (binaryOp .Add) (iop (fun _ _=>True) fun i j=>.int (i + j)) := op_i0 op_add fun _ _ _ _=>rp_int
theorem o_add : OpD X (binaryOp .Add) addD := by
 have h1 := OpD.or (E:=fun x y=>match x,y with | .int i,.int j=>some (.int (i + j)) | .str x,.str y=>if x.length + y.length≤sizeLine then some (.str (x ++ y)) else none | _,_=>none) (o_addI (X:=X)) o_addS (fun x y d e=>by
   split at e
   · left;simp [iop];exact by simpa using e
   · right;simp only [addS];exact e
   · cases e)
 refine OpD.or h1 n_cat.d fun x y d e=>?_
 unfold addD at e
 split at e
 · left;exact e
 · left;exact e
 · right
   rename_i xs ys
   simp only [catL]
   split at e
   · rename_i hz;cases e;rw [if_pos hz];rfl
   · cases e
 · cases e
noncomputable def mulI := iop CMul fun i j=>.int (i * j)
theorem o_mulI : OpD X (binaryOp .Mult) mulI := op_i op_mul fun _ _ _ _=>rp_int
noncomputable def eqF : Dat→Dat→Option Dat := fun x y=>if (pd 20 x && pd 20 y) = true then some (.bl (eqD x y)) else none
noncomputable def neF : Dat→Dat→Option Dat := fun x y=>if (pd 20 x && pd 20 y) = true then some (.bl (!eqD x y)) else none
theorem o_eq (hu : X.A.units + 64 < cLine) : OpD X (compareOp .Eq) eqF := fun pins s σ H x y v u Q I rx ry zz=>by
 obtain ⟨A,a,b,d,mu,e,p1,p2,q⟩ := zz
 unfold eqF at e
 split at e
 · rename_i hp
   rw [Bool.and_eq_true] at hp
   cases e
   obtain ⟨as,a1,a2⟩ := Rp.reads I a x v hp.1 p1.rp rx
   obtain ⟨bs,b1,b2⟩ := Rp.reads I b y u hp.2 p2.rp ry
   have := depth_toP 20 a hp.1
   refine SeqAt.compareEq_reads a1 b1 a2 b2 (by lia) ⟨.bl _,H,I,rfl,?_⟩
   rw [eqv_toP a b hp.1 hp.2]
   exact q.here rp_bl
 · cases e
theorem o_ne (hu : X.A.units + 64 < cLine) : OpD X (compareOp .NotEq) neF := fun pins s σ H x y v u Q I rx ry zz=>by
 obtain ⟨A,a,b,d,mu,e,p1,p2,q⟩ := zz
 unfold neF at e
 split at e
 · rename_i hp
   rw [Bool.and_eq_true] at hp
   cases e
   obtain ⟨as,a1,a2⟩ := Rp.reads I a x v hp.1 p1.rp rx
   obtain ⟨bs,b1,b2⟩ := Rp.reads I b y u hp.2 p2.rp ry
   have := depth_toP 20 a hp.1
   refine SeqAt.compareNe_reads a1 b1 a2 b2 (by lia) ⟨.bl _,H,I,rfl,?_⟩
   rw [eqv_toP a b hp.1 hp.2]
   exact q.here rp_bl
 · cases e
noncomputable def isN : Dat→Bool
 | .non=>true
 | _=>false
theorem isN_v {K : PySem.W.Frag} {H : Hp} {d : Dat} {v : V} (r : Rp K H d v) : decide (v = V.non) = isN d := by
 cases d with
 | non=>rw [of_non r];rfl
 | bl b=>rw [of_bl r];rfl
 | int b=>rw [of_int r];rfl
 | str b=>rw [(of_str r).1];rfl
 | tup b=>obtain ⟨a,_,e,_⟩ := of_tup r;rw [e];rfl
 | lst b=>obtain ⟨a,_,e,_⟩ := of_lst r;rw [e];rfl
 | dct _=>exact (of_dct r).elim
 | exc _ _=>obtain ⟨_,_,_,e,_⟩ := of_exc r;subst e;rfl
noncomputable def isnF : Dat→Dat→Option Dat
 | x,.non=>some (.bl (!isN x))
 | _,_=>none
theorem o_isn : OpD X (compareOp .IsNot) isnF := op_notN.weak fun v u H Q zz=>by
 obtain ⟨A,x,y,d,mu,e,p1,p2,q⟩ := zz
 unfold isnF at e
 split at e
 · cases e
   exact ⟨p2.non,by rw [isN_v p1.rp];exact q.here rp_bl⟩
 · cases e
noncomputable def inS : Str→Str→Bool := fun i j=>!(Builtin.Str.occurrences j i 0 j.length 1).isEmpty
noncomputable def inB : Dat→Dat→Option Bool
 | x,.lst ys=>if (pd 20 x && ys.all (pd 20)) = true then some (ys.any fun y=>eqD y x) else none
 | x,.tup ys=>if (pd 20 x && ys.all (pd 20)) = true then some (ys.any fun y=>eqD y x) else none
 | .str i,.str j=>some (inS i j)
 | _,_=>none
noncomputable def inF : Dat→Dat→Option Dat := fun x y=>(inB x y).map .bl
noncomputable def ninF : Dat→Dat→Option Dat := fun x y=>(inB x y).map fun b=>.bl (!b)
theorem eqAt_items {pins : List (Addr×Obj)} {σ : St} {H : Hp} {s : Shared} (I : Inv X pins σ H s) (hu : X.A.units + 64 < cLine) {a : Dat} {x : V} {v : Value} (ha : pd 20 a = true) (rx : Rp X.K H a x) (qx : RelV x v) :
   ∃ e : Value→Bool,∀ {ys : List Dat} {vs : List V} {us : List Value},Rps X.K H ys vs→Vals vs us→(∀ y∈ys,pd 20 y = true)→(∀ u∈us,SeqAt.EqAt X.A.in1 s u v (e u))∧us.any e = ys.any fun y=>eqD y a := by
 classical
 have hu' : X.A.in1.units + 60 < cLine := by show X.A.units + 1 + 60 < cLine;lia
 have key : ∀ {y : Dat} {w : V} {u : Value},Rp X.K H y w→RelV w u→pd 20 y = true→SeqAt.EqAt X.A.in1 s u v (eqD y a) := fun {y w u} r q h=>Rp.eqAt I h ha (by decide) hu' r rx q qx
 let e : Value→Bool := fun u=>decide (∃ (y : Dat) (w : V),Rp X.K H y w∧RelV w u∧pd 20 y = true∧eqD y a = true)
 have he : ∀ {y : Dat} {w : V} {u : Value},Rp X.K H y w→RelV w u→pd 20 y = true→e u = eqD y a := fun {y w u} r q h=>by
   cases z : eqD y a with
   | true=>exact decide_eq_true ⟨y,w,r,q,h,z⟩
   | false =>
     refine decide_eq_false ?_
     rintro ⟨y',w',r',q',h',z'⟩
     have := q.inj q'
     subst this
     obtain ⟨as,a1,a2⟩ := Rp.reads I y w u h r q
     obtain ⟨bs,b1,b2⟩ := Rp.reads I y' w u h' r' q
     have eqP := SeqAt.Reads.unique _ _ _ _ _ a2 a1 b1
     rw [← eqv_toP y a h ha,eqP,eqv_toP y' a h' ha,z'] at z
     cases z
 refine ⟨e,fun {ys}=>?_⟩
 induction ys with
 | nil=>intro vs us r q _;rw [rps_of_nil r] at q;cases q;exact ⟨fun u hu=>(by cases hu),rfl⟩
 | cons y ys ih =>
   intro vs us r q hp
   obtain ⟨w,vs',e1,r1,r2⟩ := rps_of_cons r
   subst e1
   cases q with
   | cons q1 q2 =>
     rename_i u us
     obtain ⟨h1,h2⟩ := ih r2 q2 fun z hz=>hp z (List.mem_cons_of_mem _ hz)
     have hy := hp y List.mem_cons_self
     refine ⟨fun u' hu'=>?_,?_⟩
     · rcases List.mem_cons.mp hu' with z | z
       · subst z;rw [he r1 q1 hy];exact key r1 q1 hy
       · exact h1 u' z
     · rw [List.any_cons,List.any_cons,h2,he r1 q1 hy]
theorem o_in (hu : X.A.units + 64 < cLine) : OpD X (compareOp .In) inF := fun pins s σ H x y v u Q I rx ry zz=>by
 obtain ⟨A,a,b,d,mu,e,p1,p2,q⟩ := zz
 unfold inF at e
 unfold inB at e
 split at e
 · rename_i ys
   split at e
   · rename_i hp
     rw [Bool.and_eq_true,List.all_eq_true] at hp
     cases e
     obtain ⟨l,vs,e1,h1,r1⟩ := p2.lst
     subst e1
     cases ry
     obtain ⟨its,w1,pl,_⟩ := I.list h1.sq
     obtain ⟨f,hf⟩ := eqAt_items I hu hp.1 p1.rp rx
     obtain ⟨k1,k2⟩ := hf (r1.mono av_same) w1 hp.2
     refine SeqAt.in_listAt f pl.isList (fun w hw=>k1 w (by simpa using hw)) ⟨.bl _,H,I,rfl,?_⟩
     rw [show its.toArray.any f = its.any f by simp,k2]
     exact q.here rp_bl
   · cases e
 · rename_i ys
   split at e
   · rename_i hp
     rw [Bool.and_eq_true,List.all_eq_true] at hp
     cases e
     obtain ⟨l,vs,e1,h1,r1⟩ := p2.tup
     subst e1
     cases ry
     obtain ⟨its,w1,pl,_⟩ := I.tuple h1
     obtain ⟨f,hf⟩ := eqAt_items I hu hp.1 p1.rp rx
     obtain ⟨k1,k2⟩ := hf (r1.mono av_same) w1 hp.2
     refine SeqAt.in_tupleAt f pl (fun w hw=>k1 w (by simpa using hw)) ⟨.bl _,H,I,rfl,?_⟩
     rw [show its.toArray.any f = its.any f by simp,k2]
     exact q.here rp_bl
   · cases e
 · rename_i i j
   cases e
   obtain ⟨e1,k1⟩ := p1.str
   obtain ⟨e2,k2⟩ := p2.str
   exact op_in_str pins s σ H x y v u Q I rx ry ⟨i,j,e1,e2,q.here rp_bl⟩
 · cases e
theorem o_nin (hu : X.A.units + 64 < cLine) : OpD X (compareOp .NotIn) ninF := fun pins s σ H x y v u Q I rx ry zz=>by
 obtain ⟨A,a,b,d,mu,e,p1,p2,q⟩ := zz
 unfold ninF at e
 unfold inB at e
 split at e
 · rename_i ys
   split at e
   · rename_i hp
     rw [Bool.and_eq_true,List.all_eq_true] at hp
     cases e
     obtain ⟨l,vs,e1,h1,r1⟩ := p2.lst
     subst e1
     cases ry
     obtain ⟨its,w1,pl,_⟩ := I.list h1.sq
     obtain ⟨f,hf⟩ := eqAt_items I hu hp.1 p1.rp rx
     obtain ⟨k1,k2⟩ := hf (r1.mono av_same) w1 hp.2
     refine SeqAt.notIn_listAt f pl.isList (fun w hw=>k1 w (by simpa using hw)) ⟨.bl _,H,I,rfl,?_⟩
     rw [show its.toArray.any f = its.any f by simp,k2]
     exact q.here rp_bl
   · cases e
 · rename_i ys
   split at e
   · rename_i hp
     rw [Bool.and_eq_true,List.all_eq_true] at hp
     cases e
     obtain ⟨l,vs,e1,h1,r1⟩ := p2.tup
     subst e1
     cases ry
     obtain ⟨its,w1,pl,_⟩ := I.tuple h1
     obtain ⟨f,hf⟩ := eqAt_items I hu hp.1 p1.rp rx
     obtain ⟨k1,k2⟩ := hf (r1.mono av_same) w1 hp.2
     refine SeqAt.notIn_tupleAt f pl (fun w hw=>k1 w (by simpa using hw)) ⟨.bl _,H,I,rfl,?_⟩
     rw [show its.toArray.any f = its.any f by simp,k2]
     exact q.here rp_bl
   · cases e
 · rename_i i j
   cases e
   obtain ⟨e1,k1⟩ := p1.str
   obtain ⟨e2,k2⟩ := p2.str
   exact op_notIn_str pins s σ H x y v u Q I rx ry ⟨i,j,e1,e2,q.here rp_bl⟩
 · cases e
noncomputable def ixD : Dat→Dat→Option Dat
 | .lst xs,.int i=>atI xs i
 | .tup xs,.int i=>atI xs i
 | .str z,.int i=>(atI (cl z) i).map fun c=>.str ⟨#[c]⟩
 | _,_=>none
theorem atI_rps {K : PySem.W.Frag} {H : Hp} {ds : List Dat} {vs : List V} {i : Int} {d : Dat} (r : Rps K H ds vs) (h : atI ds i = some d) : ∃ v,atI vs i = some v∧Rp K H d v := by
 unfold atI at h ⊢
 rw [rps_len r]
 obtain ⟨j,e1,e2⟩ := bind_some h
 obtain ⟨v,h1,h2⟩ := rps_get r e2
 exact ⟨v,by rw [e1];exact h1,h2⟩
theorem atI_mem {α : Type} {xs : List α} {i : Int} {x : α} (h : atI xs i = some x) : x∈xs := by
 unfold atI at h
 obtain ⟨j,e1,e2⟩ := bind_some h
 exact List.mem_of_getElem? e2
theorem sok_one {z : Str} {c : Nat} (h : SOk z) (hc : c∈cl z) : SOk ⟨#[c]⟩ := SOk.of (strOk_of fun c' hc'=>by
 have : c' = c := by simpa [cl] using hc'
 rw [this];exact strOk_at h.ok c hc) (by rw [← cl_len];simp [cl];decide)
theorem IxR.weak {r r' : R2} (h : IxR X r) (w : ∀ x y H Q,r' x y H Q→r x y H Q) : IxR X r' := fun value slice pins s σ H x y v u Q I rx ry q hs=>h value slice pins s σ H x y v u Q I rx ry (w _ _ _ _ q) hs
theorem o_ix : IxR X (rD X.K ixD) := ix_seq.weak fun v u H Q zz=>by
 obtain ⟨A,x,y,d,mu,e,p1,p2,q⟩ := zz
 unfold ixD at e
 split at e
 · rename_i xs i
   obtain ⟨l,vs,e1,h1,r1⟩ := p1.lst
   obtain ⟨w,h2,r2⟩ := atI_rps r1 e
   exact .inl ⟨l,vs,i,w,e1,p2.int,h1.sq,h2,q.here r2⟩
 · rename_i xs i
   obtain ⟨l,vs,e1,h1,r1⟩ := p1.tup
   obtain ⟨w,h2,r2⟩ := atI_rps r1 e
   exact .inr (.inl ⟨l,vs,i,w,e1,p2.int,h1,h2,q.here r2⟩)
 · rename_i z i
   obtain ⟨e1,k1⟩ := p1.str
   cases hc : atI (cl z) i with
   | none=>rw [hc] at e;cases e
   | some c =>
     rw [hc] at e
     cases e
     exact .inr (.inr ⟨z,i,c,e1,p2.int,k1.le,hc,q.here (rp_str (sok_one k1 (atI_mem hc)))⟩)
 · cases e
theorem cut_rps {K : PySem.W.Frag} {H : Hp} {ds : List Dat} {vs : List V} (lo hi : Option Int) (r : Rps K H ds vs) : Rps K H (cutL ds lo hi) (cutV vs lo hi) := by
 unfold cutL cutV
 rw [rps_len r]
 exact rps_take _ (rps_drop _ r)
theorem cutL_mem {α : Type} {xs : List α} {lo hi : Option Int} {x : α} (h : x∈cutL xs lo hi) : x∈xs := List.mem_of_mem_drop (List.mem_of_mem_take h)
theorem cutL_len {α : Type} {xs : List α} {lo hi : Option Int} {n : Nat} (h : xs.length≤n) : (cutL xs lo hi).length≤n := by unfold cutL;rw [List.length_take,List.length_drop];lia
theorem SlR.weak {r r' : V→Option Int→Option Int→Hp→VK→Prop} (h : SlR X r) (w : ∀ x lo hi H Q,r' x lo hi H Q→r x lo hi H Q) : SlR X r' := fun pins s σ H x v vl vu lo hi sl Q I rx hs pl pu q=>h pins s σ H x v vl vu lo hi sl Q I rx hs pl pu (w _ _ _ _ _ q)
noncomputable def slD : Dat→Option Int→Option Int→Option Dat
 | .lst xs,lo,hi=>some (.lst (cutL xs lo hi))
 | .str z,lo,hi=>some (.str (Txt.slice z lo hi))
 | .tup xs,lo,hi=>if HT.sIx xs.length 0 lo = 0∧HT.sIx xs.length xs.length hi = xs.length then none else some (.tup (cutL xs lo hi))
 | _,_,_=>none
theorem slice_sok {z : Str} {lo hi : Option Int} (h : SOk z) : SOk (Txt.slice z lo hi) := SOk.of (strOk_of fun c hc=>by
 rw [cl_slice] at hc;exact strOk_at h.ok c (cutL_mem hc)) (Nat.le_trans (Txt.slice_le z _ _) h.le)
theorem o_sl : SlD X slD := sl_A.weak fun v lo hi H Q zz=>by
 obtain ⟨A,x,d,mu,e,p1,q⟩ := zz
 unfold slD at e
 split at e
 · rename_i xs
   cases e
   obtain ⟨l,vs,e1,h1,r1⟩ := p1.lst
   exact .inl ⟨l,vs,e1,h1.sq,(q.new mu).at (cutL_len p1.lenL) (cut_rps lo hi r1)⟩
 · rename_i z
   cases e
   obtain ⟨e1,k1⟩ := p1.str
   exact .inr (.inr ⟨z,e1,k1.le,q.here (rp_str (slice_sok k1))⟩)
 · rename_i xs
   split at e
   · cases e
   · rename_i hn
     cases e
     obtain ⟨l,vs,e1,h1,r1⟩ := p1.tup
     exact .inr (.inl ⟨l,vs,e1,h1,by rw [rps_len r1];exact hn,q.tup mu (cutL_len p1.lenT) (cut_rps lo hi r1)⟩)
 · cases e
end
section
variable {X : Cx} {m : Bool}
noncomputable def lenD : List Dat→Option Dat
 | [.lst xs]=>some (.int xs.length)
 | [.tup xs]=>some (.int xs.length)
 | [.str z]=>some (.int z.length)
 | _=>none
theorem c_len : CallD X (.builtin "len") lenD := call_lenA.weak fun vs H Q zz=>by
 obtain ⟨A,ds,d,mu,e,p,q⟩ := zz
 unfold lenD at e
 split at e
 · obtain ⟨v,e1,p1⟩ := p.one
   obtain ⟨l,us,e2,h1,r1⟩ := p1.lst
   cases e
   exact .inl ⟨l,us,by rw [e1,e2],.inl h1.sq,fun _=>by rw [rps_len r1];exact q.here rp_int⟩
 · obtain ⟨v,e1,p1⟩ := p.one
   obtain ⟨l,us,e2,h1,r1⟩ := p1.tup
   cases e
   exact .inl ⟨l,us,by rw [e1,e2],.inr h1,fun _=>by rw [rps_len r1];exact q.here rp_int⟩
 · obtain ⟨v,e1,p1⟩ := p.one
   obtain ⟨e2,h1⟩ := p1.str
   cases e
   exact .inr ⟨_,by rw [e1,e2],h1.le,q.here rp_int⟩
 · cases e
noncomputable def listN : List Dat→Option (List Dat)
 | [.lst xs]=>some xs
 | [.tup xs]=>some xs
 | _=>none
theorem c_list : CallN X (.type "list") listN := call_list_of.weak fun vs H Q zz=>by
 obtain ⟨A,ds,d,mu,e,p,q⟩ := zz
 unfold listN at e
 split at e
 · obtain ⟨v,e1,p1⟩ := p.one
   obtain ⟨l,us,e2,h1,r1⟩ := p1.lst
   cases e
   exact ⟨l,us,by rw [e1,e2],.inl h1.sq,q.at p1.lenL r1⟩
 · obtain ⟨v,e1,p1⟩ := p.one
   obtain ⟨l,us,e2,h1,r1⟩ := p1.tup
   cases e
   exact ⟨l,us,by rw [e1,e2],.inr h1,q.at p1.lenT r1⟩
 · cases e
noncomputable def tupleD : List Dat→Option Dat
 | [.lst xs]=>some (.tup xs)
 | [.tup xs]=>some (.tup xs)
 | _=>none
theorem c_tuple : CallD X (.type "tuple") tupleD := call_tuple_of.weak fun vs H Q zz=>by
 obtain ⟨A,ds,d,mu,e,p,q⟩ := zz
 unfold tupleD at e
 split at e
 · obtain ⟨v,e1,p1⟩ := p.one
   obtain ⟨l,us,e2,h1,r1⟩ := p1.lst
   cases e
   exact ⟨l,us,by rw [e1,e2],.inl ⟨h1.sq,q.tup mu p1.lenL r1⟩⟩
 · obtain ⟨v,e1,p1⟩ := p.one
   rcases p1 with p1 | ⟨_,_,_,z,_⟩
   · obtain ⟨l,us,e2,h1,r1⟩ := of_tup p1
     cases e
     exact ⟨l,us,by rw [e1,e2],.inr ⟨av_same.seqT h1,by rw [← e2];exact q.here p1⟩⟩
   · cases z
 · cases e
noncomputable def intsD : List Dat→Option (List Int)
 | []=>some []
 | .int i :: r=>(intsD r).map (i :: ·)
 | _=>none
noncomputable def blsD : List Dat→Option (List Bool)
 | []=>some []
 | .bl i :: r=>(blsD r).map (i :: ·)
 | _=>none
theorem intsD_map (ns : List Int) : intsD (ns.map .int) = some ns := by
 induction ns with
 | nil=>rfl
 | cons n ns ih=>rw [List.map_cons,intsD,ih];rfl
theorem blsD_map (ns : List Bool) : blsD (ns.map .bl) = some ns := by
 induction ns with
 | nil=>rfl
 | cons n ns ih=>rw [List.map_cons,blsD,ih];rfl
theorem intsD_eq : ∀ {ds : List Dat} {ns : List Int},intsD ds = some ns→ds = ns.map .int
 | [],_,h=>by cases h;rfl
 | d :: ds,ns,h=>by
   cases d <;> try cases h
   rename_i i
   rw [intsD] at h
   cases e : intsD ds with
   | none=>rw [e] at h;cases h
   | some r=>rw [e] at h;cases h;rw [intsD_eq e];rfl
theorem blsD_eq : ∀ {ds : List Dat} {ns : List Bool},blsD ds = some ns→ds = ns.map .bl
 | [],_,h=>by cases h;rfl
 | d :: ds,ns,h=>by
   cases d <;> try cases h
   rename_i i
   rw [blsD] at h
   cases e : blsD ds with
   | none=>rw [e] at h;cases h
   | some r=>rw [e] at h;cases h;rw [blsD_eq e];rfl
theorem rps_of_ints {K : PySem.W.Frag} {H : Hp} : ∀ {ns : List Int} {vs : List V},Rps K H (ns.map .int) vs→vs = ns.map .int
 | [],vs,h=>rps_of_nil h
 | n :: ns,vs,h=>by obtain ⟨v,r,e,h1,h2⟩ := rps_of_cons h;rw [e,of_int h1,rps_of_ints h2];rfl
theorem rps_of_bls {K : PySem.W.Frag} {H : Hp} : ∀ {ns : List Bool} {vs : List V},Rps K H (ns.map .bl) vs→vs = ns.map .bl
 | [],vs,h=>rps_of_nil h
 | n :: ns,vs,h=>by obtain ⟨v,r,e,h1,h2⟩ := rps_of_cons h;rw [e,of_bl h1,rps_of_bls h2];rfl
noncomputable def sortI (ns : List Int) : List Int := ns.mergeSort (fun a b=>decide (a≤b))
theorem sortI_perm (ns : List Int) : (sortI ns).Perm ns := List.mergeSort_perm ns _
theorem sortI_sorted (ns : List Int) : (sortI ns).Pairwise (·≤·) := by
 have := List.pairwise_mergeSort (le:=fun a b : Int=>decide (a≤b)) (by intro a b c h1 h2;simp only [decide_eq_true_eq] at *;lia) (by intro a b;simp only [Bool.or_eq_true,decide_eq_true_eq];lia) ns
 exact this.imp fun h=>of_decide_eq_true h
theorem sorted_unique : ∀ {xs ys : List Int},xs.Perm ys→xs.Pairwise (·≤·)→ys.Pairwise (·≤·)→xs = ys
 | [],ys,p,_,_=>by rw [List.nil_perm.mp p]
 | x :: xs,[],p,_,_=>by have := p.length_eq;simp at this
 | x :: xs,y :: ys,p,h1,h2=>by
   have hx := List.pairwise_cons.mp h1
   have hy := List.pairwise_cons.mp h2
   have e : x = y := by
     have m1 : x∈y :: ys := p.mem_iff.mp List.mem_cons_self
     have m2 : y∈x :: xs := p.mem_iff.mpr List.mem_cons_self
     rcases List.mem_cons.mp m1 with z | z
     · exact z
     · rcases List.mem_cons.mp m2 with w | w
       · exact w.symm
       · have a1 := hx.1 y w
         have a2 := hy.1 x z
         lia
   subst e
   rw [sorted_unique (List.Perm.cons_inv p) hx.2 hy.2]
noncomputable def sortedN : List Dat→Option (List Dat)
 | [.lst xs]=>(intsD xs).bind fun ns=>if ns.length < 64 then some ((sortI ns).map .int) else none
 | _=>none
noncomputable def allD : List Dat→Option Dat
 | [.lst xs]=>(blsD xs).map fun bs=>.bl (bs.all id)
 | _=>none
noncomputable def anyD : List Dat→Option Dat
 | [.lst xs]=>(blsD xs).map fun bs=>.bl (bs.any id)
 | _=>none
theorem map_some {α β : Type} {a : Option α} {g : α→β} {b : β} (h : a.map g = some b) : ∃ x,a = some x∧g x = b := by
 cases a with
 | none=>cases h
 | some x=>cases h;exact ⟨x,rfl,rfl⟩
theorem c_all (hc : X.calm = true) : CallD X (.builtin "all") allD := (call_allA hc).weak fun vs H Q zz=>by
 obtain ⟨A,ds,d,mu,e,p,q⟩ := zz
 unfold allD at e
 split at e
 · obtain ⟨v,e1,p1⟩ := p.one
   obtain ⟨l,us,e2,h1,r1⟩ := p1.lst
   obtain ⟨bs,hb,e⟩ := map_some e
   subst e
   rw [blsD_eq hb] at r1
   have eu := rps_of_bls r1
   subst eu
   exact ⟨l,bs,by rw [e1,e2],h1.sq,q.here rp_bl⟩
 · cases e
theorem c_any (hc : X.calm = true) : CallD X (.builtin "any") anyD := (call_anyA hc).weak fun vs H Q zz=>by
 obtain ⟨A,ds,d,mu,e,p,q⟩ := zz
 unfold anyD at e
 split at e
 · obtain ⟨v,e1,p1⟩ := p.one
   obtain ⟨l,us,e2,h1,r1⟩ := p1.lst
   obtain ⟨bs,hb,e⟩ := map_some e
   subst e
   rw [blsD_eq hb] at r1
   have eu := rps_of_bls r1
   subst eu
   exact ⟨l,bs,by rw [e1,e2],h1.sq,q.here rp_bl⟩
 · cases e
noncomputable def maxD : List Dat→Option Dat
 | [.int i,.int j]=>some (.int (if j > i then j else i))
 | _=>none
noncomputable def minD : List Dat→Option Dat
 | [.int i,.int j]=>some (.int (if j < i then j else i))
 | _=>none
theorem c_max (hc : X.calm = true) : CallD X (.builtin "max") maxD := (call_max2 hc).weak fun vs H Q zz=>by
 obtain ⟨A,ds,d,mu,e,p,q⟩ := zz
 unfold maxD at e
 split at e
 · obtain ⟨v,w,e1,p1,p2⟩ := p.two
   cases e
   exact ⟨_,_,by rw [e1,p1.int,p2.int],q.here rp_int⟩
 · cases e
theorem c_min (hc : X.calm = true) : CallD X (.builtin "min") minD := (call_min2 hc).weak fun vs H Q zz=>by
 obtain ⟨A,ds,d,mu,e,p,q⟩ := zz
 unfold minD at e
 split at e
 · obtain ⟨v,w,e1,p1,p2⟩ := p.two
   cases e
   exact ⟨_,_,by rw [e1,p1.int,p2.int],q.here rp_int⟩
 · cases e
noncomputable def tyN : Dat→Option String
 | .non=>some "NoneType" | .bl _=>some "bool" | .int _=>some "int" | .str _=>some "str" | .tup _=>some "tuple" | .lst _=>some "list" | _=>none
noncomputable def isiB (T : String) (d : Dat) : Option Bool := (tyN d).bind fun t=>kitB t T
noncomputable def dI (T : String) (f : Ev→Option Dat) : Ev→Option Dat := fun env=>(f env).bind fun d=>(isiB T d).map .bl
theorem isi_go {pins : List (Addr×Obj)} {σ : St} {H : Hp} {s : Shared} {A : Around} {E : Value→Shared→Prop} {Q : Value→Shared→Prop} {d : Dat} {v : V} {u : Value} {T t : String} {b : Bool} (I : Inv X pins σ H s) (r : Rp X.K H d v) (ru : RelV v u) (ht : tyN d = some t) (e : PySem.W.kitOne X.K (.type t) (.type T) = some b) (h : ∀ tk,Q (.bool b) { s with toks := tk }) :
   wpAny (model X.prog X.w) A (call (.builtin "isinstance") [u,.type T]) Q E s := by
 cases d with
 | non=>cases ht;rw [of_non r] at ru;exact isinst_ok I ru .non e h
 | bl y=>cases ht;rw [of_bl r] at ru;exact isinst_ok I ru (.bl y) e h
 | int y=>cases ht;rw [of_int r] at ru;exact isinst_ok I ru (.int y) e h
 | str y=>cases ht;rw [(of_str r).1] at ru;exact isinst_ok I ru (.str y) e h
 | tup ds =>
   cases ht
   obtain ⟨a,vs,e1,h1,_⟩ := of_tup r
   subst e1;cases ru
   obtain ⟨its,_,⟨o,ho,hc,_⟩,_⟩ := I.tuple h1
   exact PySem.W.kia_one PySem.W.kitx_tuple I.kIn ⟨o,ho,hc⟩ e (fun z=>nomatch z) h
 | lst ds =>
   cases ht
   obtain ⟨a,vs,e1,h1,_⟩ := of_lst r
   subst e1;cases ru
   obtain ⟨its,n,_,ho,_⟩ := h1.get I
   exact PySem.W.kia_one PySem.W.kitx_list I.kIn ⟨_,ho,rfl⟩ e (fun z=>nomatch z) h
 | dct _=>cases ht
 | exc _ _=>cases ht
theorem xisi {e : Expr} {f : Ev→Option Dat} {T : String} {tx : Str} {p p2 pos : Pos} (he : PXd true X e f) (hg : Gl X "isinstance") (hm : X.mg "isinstance" = none) (hv : bootBuiltins "isinstance" = some (.builtin "isinstance")) (hgT : Gl X tx) (hmT : X.mg tx = none) (hvT : bootBuiltins tx = some (.type T)) (hnT : tx ≠ "__name__" := by decide) (hdT : (tx == ("__debug__" : Str)) = false := by decide)
   (hs : starEach [e,.Name tx p2] X.env = (false,eval e X.env) :: starEach [.Name tx p2] X.env := by rfl) : PXd m X (.Call (.Name "isinstance" p) [e,.Name tx p2] [] pos) (dI T f) := by
 have hc : CallR X (.builtin "isinstance") (fun vs H Q=>∃ v A d b,vs = [v,.ty T]∧MuOk A H∧isiB T d = some b∧Pk X.K A H d v∧RegC false X.K A H (.bl b) Q) := by
   intro pins s σ H xs us Q I r ⟨v,A,d,b,e1,mu,e2,p1,q⟩
   subst e1
   obtain ⟨u,w',rfl,ru,rw'⟩ := vals2 r
   cases rw'
   obtain ⟨t,ht,hk⟩ := bind_some e2
   exact isi_go I p1.rp ru ht (kit_of hk) fun tk=>⟨.bl b,H,I.tok _,rfl,q.here rp_bl⟩
 refine PXd.any ((pe_callB hc hg hm hv (pa_cons he (pa_cons (pe_bty hgT hmT hvT hnT hdT) pa_nil) hs) (he:=hs)).weak fun σ H Q ⟨env,R,A,d,k,q1,q2⟩=>?_)
 obtain ⟨x,e1,h⟩ := bind_some q1
 obtain ⟨b,e2,h⟩ := map_some h
 subst h
 exact ⟨env,R,A,x,k,e1,fun v H1 s1 p1=>⟨v,A,x,b,rfl,k.mu.mono s1,e2,p1,q2.mono s1⟩⟩
end
def Adv (st : Bool) (A : AS) (H : Hp) (A1 : AS) (H1 : Hp) : Prop := match st with
 | true=>Step A H A1 H1
 | false=>A1 = A∧Same H H1
theorem Adv.step {st : Bool} {A A1 : AS} {H H1 : Hp} (h : Adv st A H A1 H1) : Step A H A1 H1 := by
 cases st with
 | true=>exact h
 | false=>obtain ⟨rfl,h⟩ := h;exact Step.same h
def ItOk (st : Bool) (K : PySem.W.Frag) (A : AS) (H : Hp) (ds : List Dat) (J : It) : Prop := ∀ A1 H1,Adv st A H A1 H1→MuOk A1 H1 →
 (∀ (i : Nat) x,ds[i]? = some x→J.go i H1∧∀ v H2,J.yld i H1 v H2→Same H1 H2∧Rp K (av H2 A1) x v)∧J.stop ds.length H1
def PId (st : Bool) (X : Cx) (tg iter : Expr) (src : Ev→Option (List Dat)) : Prop := PI X tg iter fun σ H R'=>∃ env R A ds,EnvOk X.K R A H σ env∧src env = some ds ∧
 ∀ J H',ds.length≤sizeLine→Same H H'→ItOk st X.K A H' ds J→R' J H'
theorem PI.weak {X : Cx} {tg iter : Expr} {t t' : TI} (h : PI X tg iter t) (w : ∀ σ H Q,t' σ H Q→t σ H Q) : PI X tg iter t' := fun pins s σ H Q I q=>h pins s σ H Q I (w σ H Q q)
section
variable {st m : Bool} {X : Cx} {tg l : Expr} {f : Ev→Option Dat} {fs : Ev→Option (List Dat)}
noncomputable def srcL (f : Ev→Option Dat) : Ev→Option (List Dat) := fun env=>match f env with
 | some (.lst xs)=>some xs
 | some (.tup xs)=>some xs
 | _=>none
theorem it_list {K : PySem.W.Frag} {A : AS} {H : Hp} {a : Addr} {vs : List V} {ds : List Dat} (h : ∀ A1 H1,Adv st A H A1 H1→SqL K H1 a vs) (r : Rps K (av H A) ds vs) : ItOk st K A H ds (Itl K a) := fun A1 H1 adv _=>by
 have h1 := h A1 H1 adv
 have r1 := r.mono adv.step.av
 refine ⟨fun i x e=>?_,⟨vs,h1,Nat.le_of_eq (rps_len r)⟩⟩
 obtain ⟨v,e1,e2⟩ := rps_get r1 e
 refine ⟨⟨vs,v,h1,e1⟩,fun v' H2 ⟨e3,e4⟩=>?_⟩
 subst e3
 have := e4 vs h1
 rw [e1] at this
 cases this
 exact ⟨Same.refl _,e2⟩
theorem it_tup {K : PySem.W.Frag} {A : AS} {H : Hp} {a : Addr} {vs : List V} {ds : List Dat} (h : ∀ A1 H1,Adv st A H A1 H1→SqT K H1 a vs) (r : Rps K (av H A) ds vs) : ItOk st K A H ds (Itt K a) := fun A1 H1 adv _=>by
 have h1 := h A1 H1 adv
 have r1 := r.mono adv.step.av
 refine ⟨fun i x e=>?_,⟨vs,h1,Nat.le_of_eq (rps_len r)⟩⟩
 obtain ⟨v,e1,e2⟩ := rps_get r1 e
 refine ⟨⟨vs,v,h1,e1⟩,fun v' H2 ⟨e3,e4⟩=>?_⟩
 subst e3
 have := e4 vs h1
 rw [e1] at this
 cases this
 exact ⟨Same.refl _,e2⟩
theorem i_seq (h : PXd false X l f) : PId st X tg l (srcL f) := (pi_seq h).weak fun σ H R' zz=>by
 obtain ⟨env,R,A,ds,k,e,q⟩ := zz
 unfold srcL at e
 split at e
 · rename_i xs e1
   cases e
   refine .inl ⟨env,R,A,.lst ds,k,e1,fun v H1 s1 p1=>?_⟩
   obtain ⟨a,vs,e2,h1,r1⟩ := of_lst (show Rp X.K (av H1 A) (.lst ds) v from p1)
   subst e2
   exact ⟨a,rfl,⟨vs,(av_same.sl h1).sq⟩,q _ H1 p1.pk.lenL s1 (it_list (vs:=vs) (fun A1 H2 adv=>(av_same.sl (adv.step.av.sl h1)).sq) r1)⟩
 · rename_i xs e1
   cases e
   refine .inr ⟨env,R,A,.tup ds,k,e1,fun v H1 s1 p1=>?_⟩
   obtain ⟨a,vs,e2,h1,r1⟩ := of_tup (show Rp X.K (av H1 A) (.tup ds) v from p1)
   subst e2
   exact ⟨a,rfl,⟨vs,av_same.seqT h1⟩,q _ H1 p1.pk.lenT s1 (it_tup (vs:=vs) (fun A1 H2 adv=>av_same.seqT (adv.step.av.seqT h1)) r1)⟩
 · cases e
theorem i_seqP (h : PXd true X l f) : PId false X tg l (srcL f) := (pi_seq h).weak fun σ H R' zz=>by
 obtain ⟨env,R,A,ds,k,e,q⟩ := zz
 unfold srcL at e
 split at e
 · rename_i xs e1
   cases e
   refine .inl ⟨env,R,A,.lst ds,k,e1,fun v H1 s1 p1=>?_⟩
   obtain ⟨a,vs,e2,h1,r1⟩ := p1.pk.lst
   subst e2
   exact ⟨a,rfl,⟨vs,h1.sq⟩,q _ H1 p1.pk.lenL s1 (it_list (vs:=vs) (fun A1 H2 adv=>(adv.2.sl h1).sq) r1)⟩
 · rename_i xs e1
   cases e
   refine .inr ⟨env,R,A,.tup ds,k,e1,fun v H1 s1 p1=>?_⟩
   obtain ⟨a,vs,e2,h1,r1⟩ := p1.pk.tup
   subst e2
   exact ⟨a,rfl,⟨vs,h1⟩,q _ H1 p1.pk.lenT s1 (it_tup (vs:=vs) (fun A1 H2 adv=>adv.2.seqT h1) r1)⟩
 · cases e
noncomputable def rng (lo : Int) (n : Nat) : List Dat := (List.range n).map fun (k : Nat)=>.int (lo + k)
theorem rng_len {lo : Int} {n : Nat} : (rng lo n).length = n := by simp [rng]
theorem it_rng {K : PySem.W.Frag} {A : AS} {H : Hp} {lo : Int} {n : Nat} : ItOk st K A H (rng lo n) (Itr lo n) := fun A1 H1 adv _=>by
 refine ⟨fun i x e=>?_,by show n≤(rng lo n).length;simp [rng]⟩
 unfold rng at e
 rw [List.getElem?_map] at e
 by_cases hi : i < n
 · rw [List.getElem?_range hi] at e
   cases e
   exact ⟨hi,fun v H2 ⟨e1,e2⟩=>by subst e1 e2;exact ⟨Same.refl _,rp_int⟩⟩
 · rw [List.getElem?_eq_none (by simpa using hi)] at e
   cases e
noncomputable def srcR1 (fs : Ev→Option (List Dat)) : Ev→Option (List Dat) := fun env=>match fs env with
 | some [.int j]=>if -(2 ^ 62)≤j∧j < 2 ^ 62∧j.toNat≤sizeLine then some (rng 0 j.toNat) else none
 | _=>none
theorem i_range1 {a : Expr} {p pos : Pos} (hg : Gl X "range") (hm : X.mg "range" = none) (ha : PAd true X [a] fs) (hs : starEach [a] X.env = [(false,eval a X.env)] := by rfl) : PId st X tg (.Call (.Name "range" p) [a] [] pos) (srcR1 fs) := (pi_range1 hg hm ha hs).weak fun σ H R' zz=>by
 obtain ⟨env,R,A,ds,k,e,q⟩ := zz
 unfold srcR1 at e
 split at e
 · rename_i j e1
   split at e
   · rename_i hj
     cases e
     refine ⟨env,R,A,_,k,e1,fun vs H1 s1 p1=>?_⟩
     obtain ⟨v,e2,p2⟩ := p1.one
     exact ⟨j,by rw [e2,p2.int],hj.1,hj.2.1,q _ H1 (by rw [rng_len];exact hj.2.2) s1 it_rng⟩
   · cases e
 · cases e
end
def Agree (is : List Nat) (σ σ' : St) : Prop := σ'.length = σ.length∧∀ j,j∉is→σ'[j]? = σ[j]?
def PGd (is : List Nat) (X : Cx) (tg : Expr) (g : Dat→Ev→Option Ev) : Prop := PG X tg fun v σ H Q=>∃ env R A d env',EnvOk X.K R A H σ env∧Rp X.K (av H A) d v∧g d env = some env'∧∀ σ',EnvOk X.K R A H σ' env'→Agree is σ σ'→Q σ' H
def PGsd (is : List Nat) (X : Cx) (tgs : List Expr) (g : List Dat→Ev→Option Ev) : Prop := PGs X tgs fun vs σ H Q=>∃ env R A ds env',EnvOk X.K R A H σ env∧Rps X.K (av H A) ds vs∧g ds env = some env'∧∀ σ',EnvOk X.K R A H σ' env'→Agree is σ σ'→Q σ' H
theorem EnvOk.put {K : PySem.W.Frag} {B : Bs} {A : AS} {H : Hp} {σ : St} {env : Ev} (k : EnvOk K B A H σ env) (i : Nat) {d : Dat} {v : V} (r : Rp K (av H A) d v) : EnvOk K B A H (σ.set i (some v)) (env.set i (.fz d)) := by
 obtain ⟨own,h1,h2,h4⟩ := k.sl
 refine ⟨k.h0,k.r0,k.ra,k.ar,k.mu,by rw [List.length_set,List.length_set];exact k.len,fun hs j d'=>?_,fun j a=>j≠i∧own j a,fun j j' a q q'=>h1 j j' a q.2 q'.2,fun j a q=>h2 j a q.2,fun j s e=>?_⟩
 · rw [List.getElem?_set]
   split
   · split
     · intro z;cases z
     · intro z;cases z
   · exact k.np hs j d'
 by_cases hj : i = j
 · subst hj
   rw [List.getElem?_set] at e
   rw [if_pos rfl] at e
   split at e
   · rename_i hl
     cases e
     refine ⟨some v,?_,v,rfl,r⟩
     rw [List.getElem?_set,if_pos rfl,if_pos (by rw [k.len];exact hl)]
   · cases e
 · rw [List.getElem?_set,if_neg hj] at e
   obtain ⟨x,q1,q2⟩ := h4 j s e
   refine ⟨x,by rw [List.getElem?_set,if_neg hj];exact q1,?_⟩
   cases s with
   | un=>trivial
   | fz d=>exact q2
   | pk d=>exact q2
   | ow ds=>obtain ⟨a,vs,e1,e2,e3⟩ := q2;exact ⟨a,vs,e1,⟨Ne.symm hj,e2⟩,e3⟩
   | gx g=>obtain ⟨v,e1,e2⟩ := q2;exact ⟨v,e1,e2.frame (fun _ z=>⟨Ne.symm hj,z⟩) (fun _ _ _ z=>z) (Same.refl _)⟩
theorem PG.weak {X : Cx} {e : Expr} {t t' : TG} (h : PG X e t) (w : ∀ v σ H Q,t' v σ H Q→t v σ H Q) : PG X e t' := fun pins s σ H v u Q I r q=>h pins s σ H v u Q I r (w _ _ _ _ q)
theorem PGs.weak {X : Cx} {e : List Expr} {t t' : TGs} (h : PGs X e t) (w : ∀ v σ H Q,t' v σ H Q→t v σ H Q) : PGs X e t' := fun pins s σ H v u Q I r q=>h pins s σ H v u Q I r (w _ _ _ _ q)
section
variable {X : Cx} {pos : Pos}
noncomputable def gset (i : Nat) : Dat→Ev→Option Ev := fun d env=>some (env.set i (.fz d))
theorem agree_set {σ : St} {i : Nat} {v : Option V} : Agree [i] σ (σ.set i v) := ⟨by rw [List.length_set],fun j hj=>by rw [List.getElem?_set,if_neg (by intro e;exact hj (by simp [e]))]⟩
theorem g_name (i : Nat) {x : Str} (hN : X.N.Nodup) (hi : X.N[i]? = some x) (hx : Loc X.env.scope x) (hf : X.fn x = true∨X.env.scope.names.lookup x = some .local := by first | exact .inl rfl | exact .inr rfl | assumption) : PGd [i] X (.Name x pos) (gset i) := (pg_name hN hi hx hf).weak fun v σ H Q zz=>by
 obtain ⟨env,R,A,d,env',k,r,e,q⟩ := zz
 cases e
 exact q _ (k.put i r) agree_set
noncomputable def gsNil : List Dat→Ev→Option Ev := fun ds env=>match ds with
 | []=>some env
 | _=>none
noncomputable def gsCons (g : Dat→Ev→Option Ev) (gs : List Dat→Ev→Option Ev) : List Dat→Ev→Option Ev := fun ds env=>match ds with
 | d :: ds=>(g d env).bind fun env'=>gs ds env'
 | _=>none
theorem gs_nil : PGsd [] X [] gsNil := pgs_nil.weak fun vs σ H Q zz=>by
 obtain ⟨env,R,A,ds,env',k,r,e,q⟩ := zz
 unfold gsNil at e
 split at e
 · cases e
   exact ⟨rps_of_nil r,q σ k ⟨rfl,fun _ _=>rfl⟩⟩
 · cases e
theorem gs_cons {e : Expr} {es : List Expr} {is js : List Nat} {g : Dat→Ev→Option Ev} {gs : List Dat→Ev→Option Ev} (h1 : PGd is X e g) (h2 : PGsd js X es gs)
   (hs : (assignEach (e :: es) X.env).map (·.2) = assign e X.env :: (assignEach es X.env).map (·.2) := by rfl) : PGsd (is ++ js) X (e :: es) (gsCons g gs) := (pgs_cons h1 h2 hs).weak fun vs σ H Q zz=>by
 obtain ⟨env,R,A,ds,env',k,r,e,q⟩ := zz
 unfold gsCons at e
 split at e
 · rename_i d ds'
   obtain ⟨env1,e1,e2⟩ := bind_some e
   obtain ⟨v,us,ev,r1,r2⟩ := rps_of_cons r
   refine ⟨v,us,ev,env,R,A,d,env1,k,r1,e1,fun σ1 k1 a1=>⟨env1,R,A,ds',env',k1,r2,e2,fun σ2 k2 a2=>q σ2 k2 ⟨by rw [a2.1,a1.1],fun j hj=>?_⟩⟩⟩
   rw [List.mem_append,not_or] at hj
   rw [a2.2 j hj.2,a1.2 j hj.1]
 · cases e
end
noncomputable def innerD (fs : List (Option Nat)) (env : Ev) : Ev := fs.map fun o=>match o with
 | none=>.un
 | some j=>match env[j]? with
   | some (.fz d)=>.fz d
   | some (.pk d)=>.pk d
   | some (.ow ds)=>.pk (.lst ds)
   | _=>.un
theorem EnvOk.inn {K : PySem.W.Frag} {B : Bs} {A : AS} {H : Hp} {σ : St} {env : Ev} (k : EnvOk K B A H σ env) (fs : List (Option Nat)) : EnvOk K ⟨H,A,false⟩ A H (inner fs σ) (innerD fs env) := by
 obtain ⟨own,h1,h2,h4⟩ := k.sl
 refine ⟨Same.refl H,fun a h=>?_,fun _ h=>h,fun _ h=>.inl h,k.mu,by simp [inner,innerD],fun z=>(by cases z),fun _ _=>False,fun _ _ _ h=>h.elim,fun _ _ h=>h.elim,fun i s e=>?_⟩
 · have := k.mu a h
   cases q : H a with
   | none=>rw [q] at this;exact this.elim
   | some o=>exact ⟨o,q⟩
 · unfold innerD at e
   rw [List.getElem?_map] at e
   unfold inner
   rw [List.getElem?_map]
   cases hf : fs[i]? with
   | none=>rw [hf] at e;cases e
   | some o =>
     rw [hf] at e
     cases o with
     | none=>cases e;exact ⟨_,rfl,trivial⟩
     | some j =>
       simp only [Option.map_some,Option.some.injEq] at e ⊢
       refine ⟨_,rfl,?_⟩
       split at e
       · rename_i d hd
         obtain ⟨x,q1,q2⟩ := h4 j _ hd
         subst e
         rw [q1];exact q2
       · rename_i d hd
         obtain ⟨x,q1,q2⟩ := h4 j _ hd
         subst e
         rw [q1];exact q2
       · rename_i ds hd
         obtain ⟨x,q1,a,vs,e1,_,hz,e3,e4⟩ := h4 j _ hd
         subst e
         rw [q1]
         exact ⟨.ref a,e1,.inr ⟨a,vs,ds,rfl,rfl,hz,e3,e4⟩⟩
       · subst e;trivial
noncomputable def compL (g : Dat→Ev→Option Ev) (t : Ev→Option Bool) (f : Ev→Option Dat) (env : Ev) : List Dat→Option (List Dat)
 | []=>some []
 | x :: xs=>(g x env).bind fun env1=>(t env1).bind fun b=>if b = true then (f env1).bind fun y=>(compL g t f env xs).map (y :: ·) else compL g t f env xs
noncomputable def dComp (src : Ev→Option (List Dat)) (fs : List (Option Nat)) (g : Dat→Ev→Option Ev) (t : Ev→Option Bool) (f : Ev→Option Dat) : Ev→Option (List Dat) := fun env=>(src env).bind fun ds=>compL g t f (innerD fs env) ds
theorem compL_len {g : Dat→Ev→Option Ev} {t : Ev→Option Bool} {f : Ev→Option Dat} {env : Ev} : ∀ {xs ys : List Dat},compL g t f env xs = some ys→ys.length≤xs.length
 | [],ys,h=>by cases h;exact Nat.le_refl _
 | x :: xs,ys,h=>by
   rw [compL] at h
   obtain ⟨env1,e1,h⟩ := bind_some h
   obtain ⟨b,e2,h⟩ := bind_some h
   split at h
   · obtain ⟨y,e3,h⟩ := bind_some h
     obtain ⟨zs,e4,h⟩ := map_some h
     subst h
     exact Nat.succ_le_succ (compL_len e4)
   · exact Nat.le_succ_of_le (compL_len h)
def PFd (X : Cx) (ifs : List Expr) (t : Ev→Option Bool) : Prop := PIf X ifs fun σ H Q=>∃ env R A b,EnvOk X.K R A H σ env∧t env = some b∧∀ H',Same H H'→Q b H'
noncomputable def tTrue : Ev→Option Bool := fun _=>some true
theorem PIf.weak {X : Cx} {e : List Expr} {t t' : TT} (h : PIf X e t) (w : ∀ σ H Q,t' σ H Q→t σ H Q) : PIf X e t' := fun pins s σ H Q I q=>h pins s σ H Q I (w σ H Q q)
theorem f_nil {X : Cx} : PFd X [] tTrue := (pif_nil (Y:=X)).weak fun σ H Q ⟨env,R,A,b,k,e,q⟩=>by cases e;exact q H (Same.refl H)
theorem f_one {X : Cx} {c : Expr} {t : Ev→Option Bool} (h : PTd X c t) : PFd X [c] t := pif_one h
section
variable {X : Cx} {sc : Scope}
theorem comp_go {J : It} {fs : List (Option Nat)} {is : List Nat} {g : Dat→Ev→Option Ev} {t : Ev→Option Bool} {f : Ev→Option Dat} {σ : St} {H1 : Hp} {Q : VK} {K : PySem.W.Frag} {A : AS} {B : Bs} {env : Ev} {ds ys : List Dat}
   (hfs : ∀ i∈is,fs[i]? = some none) (k : EnvOk K B A H1 σ env) (hJ : ItOk false K A H1 ds J) (hz : ds.length≤sizeLine) (hc : compL g t f (innerD fs env) ds = some ys) (q : NewC K A H1 ys Q) :
   ∃ W : Nat→Nat→List V→Hp→Prop,(∃ m,W 0 m [] H1)∧∀ i m zs H,W i m zs H →
     (J.stop i H∧zs.length≤sizeLine∧∀ p,H p = none→Q (.ref p) (upd H p (.lst zs))) ∨
     (J.go i H∧zs.length≤sizeLine∧∃ N : List V→Hp→Prop,(∀ ys' H',N ys' H'→∃ m',m' < m∧W (i + 1) m' ys' H')∧∀ x H',J.yld i H x H'→(∃ env R A d env',EnvOk K R A H' (inner fs σ) env∧Rp K (av H' A) d x∧g d env = some env'∧∀ σ',EnvOk K R A H' σ' env'→Agree is (inner fs σ) σ' →
       (Ext (inner fs σ) σ'∧∃ env R A b,EnvOk K R A H' σ' env∧t env = some b∧∀ H3,Same H' H3→if b = true then ∃ env R A d,EnvOk K R A H3 σ' env∧f env = some d∧RegC false K A H3 d (fun v H4=>N (zs ++ [v]) H4) else N zs H3))) := by
 have hl := compL_len hc
 refine ⟨fun i m zs H=>m = ds.length - i∧i≤ds.length∧Same H1 H∧∃ us rest,compL g t f (innerD fs env) (ds.drop i) = some rest∧us ++ rest = ys∧Rps K (av H A) us zs,
   ⟨ds.length,by simp,Nat.zero_le _,Same.refl _,[],ys,by simpa using hc,rfl,rps_nil⟩,?_⟩
 rintro i m zs H ⟨rfl,hi,s1,us,rest,e1,e2,r⟩
 have hzs : zs.length≤sizeLine := by
   rw [rps_len r]
   have : us.length≤ys.length := by rw [← e2,List.length_append];lia
   lia
 obtain ⟨hgo,hstop⟩ := hJ A H ⟨rfl,s1⟩ (k.mono s1).mu
 by_cases hlt : i < ds.length
 · have hx : ds[i]? = some ds[i] := by simp [hlt]
   obtain ⟨go,yl⟩ := hgo i _ hx
   rw [List.drop_eq_getElem_cons hlt,compL] at e1
   obtain ⟨env1,b1,e1⟩ := bind_some e1
   obtain ⟨b,b2,e1⟩ := bind_some e1
   refine .inr ⟨go,hzs,fun zs' H'=>i + 1≤ds.length∧Same H1 H'∧∃ us rest,compL g t f (innerD fs env) (ds.drop (i + 1)) = some rest∧us ++ rest = ys∧Rps K (av H' A) us zs',
     fun zs' H' h=>⟨ds.length - (i + 1),by lia,rfl,h⟩,fun x H' hy=>?_⟩
   obtain ⟨s2,rx⟩ := yl x H' hy
   refine ⟨innerD fs env,⟨H1,A,false⟩,A,ds[i],env1,(k.inn fs).mono (s1.trans s2),rx,b1,fun σ' k' ag=>⟨⟨ag.1.symm,fun j v ej=>?_⟩,env1,⟨H1,A,false⟩,A,b,k',b2,fun H3 s3=>?_⟩⟩
   · have hj : j∉is := fun hj=>by
       have := hfs j hj
       unfold inner at ej
       rw [List.getElem?_map,this] at ej
       cases ej
     rw [ag.2 j hj];exact ej
   · cases b with
     | true =>
       rw [if_pos rfl] at e1 ⊢
       obtain ⟨y,b3,e1⟩ := bind_some e1
       obtain ⟨rest',b4,e1⟩ := map_some e1
       subst e1
       refine ⟨env1,⟨H1,A,false⟩,A,y,k'.mono s3,b3,fun v H4 s4 rv=>⟨hlt,((s1.trans s2).trans s3).trans s4,us ++ [y],rest',b4,by rw [List.append_assoc];exact e2,rps_append (r.mono (av_mono ((s2.trans s3).trans s4))) (rps_one rv)⟩⟩
     | false =>
       rw [if_neg Bool.false_ne_true] at e1 ⊢
       exact ⟨hlt,(s1.trans s2).trans s3,us,rest,e1,e2,r.mono (av_mono (s2.trans s3))⟩
 · have e : i = ds.length := by lia
   subst e
   rw [List.drop_length,compL] at e1
   cases e1
   rw [List.append_nil] at e2
   subst e2
   exact .inl ⟨hstop,hzs,(q.mono s1).at (by lia) r⟩
variable {elt tg iter : Expr} {ifs : List Expr} {pos : Pos} {src : Ev→Option (List Dat)} {is : List Nat} {g : Dat→Ev→Option Ev} {t : Ev→Option Bool} {f : Ev→Option Dat}
theorem n_comp (psc : Scope) (fs : List (Option Nat)) (N : List Str) (hp : X.env.scope = psc) (S : CompOk psc sc X.N N fs) (hc : X.calm = true) (hi : PId false X tg iter src)
   (hb : ∀ (C : Addr) (s : Shared) (H : Hp) (fp : List Addr),PGd is (compCx X sc N C s H fp) tg g∧PFd (compCx X sc N C s H fp) ifs t∧PXd false (compCx X sc N C s H fp) elt f)
   (hfs : ∀ i∈is,fs[i]? = some none) (hs : ∀ x,foldedSetIterable iter X.env x = pure x := by intro _;rfl) : PNd X (.ListComp elt [⟨tg,iter,ifs,0⟩] sc pos) (dComp src fs g t f) := by
 refine PE.weak (pe_comp (g:=fun v σ H Q=>∃ env R A d env',EnvOk X.K R A H σ env∧Rp X.K (av H A) d v∧g d env = some env'∧∀ σ',EnvOk X.K R A H σ' env'→Agree is σ σ'→Q σ' H) (tt:=fun σ H Q=>∃ env R A b,EnvOk X.K R A H σ env∧t env = some b∧∀ H',Same H H'→Q b H') (te:=fun σ H Q=>∃ env R A d,EnvOk X.K R A H σ env∧f env = some d∧RegC false X.K A H d Q) psc fs N hp S hc hi hb hs) fun σ H Q ⟨env,R,A,ys,k,e,q⟩=>?_
 obtain ⟨ds,e1,e2⟩ := bind_some e
 exact ⟨env,R,A,ds,k,e1,fun J H1 hz s1 hJ=>comp_go hfs (k.mono s1) hJ hz e2 (q.mono s1)⟩
end
def TrX (h base : Heap) (e T : Addr) (cls : Value) (dct : Option Addr) (fl : Value) : Prop :=
 ∃ oe vs oT ts,h.get? e = some oe∧oe.cls = cls∧oe.dict = dct∧oe.data = .fields vs∧vs[1]? = some (.ref T)∧base.get? T = none∧T≠e∧h.get? T = some oT∧oT.data = .fields ts∧ts[3]? = some fl
def KpX (l : List Env) (ch : List Addr) (h h' : Heap) : Prop := ∀ b o,h.get? b = some o→b∉ch→(b∉frs l→h'.get? b = some o)∧∃ sl,h'.get? b = some { o with slots := sl }
theorem KpX.of {l : List Env} {ch : List Addr} {h h1 : Heap} (a : ∀ b o,h.get? b = some o→b∉ch→h1.get? b = some o) : KpX l ch h h1 := fun c o q hc=>⟨fun _=>a c o q hc,o.slots,a c o q hc⟩
theorem dict_mapFields (f : Array Value→Array Value) (o : Obj) : (Obj.mapFields f o).dict = o.dict := by
 unfold Obj.mapFields;split <;> rfl
section
variable {M : Model} {A : Around} {E : Value→Shared→Prop} {s : Shared}
theorem entryX {base : Heap} {env : Env} {outer : List Env} {L e : Addr} {oe : Obj} {vs : Array Value} {head : Value} {hadNext : Bool} {Q : Unit→Shared→Prop}
   (hfr : A.frames = some (env :: outer)) (hl : s.heap.FunFrames base (env :: outer)) (hf : env.frame = some L)
   (he : s.heap.get? e = some oe) (hkb : base.StaysIn s.heap) (hen : base.get? e = none) (hd : oe.data = .fields vs) (hsz : 1 < vs.size)
   (h : ∀ h' T,s.heap.objs.size≤T→base.StaysIn h'→h'.FunFrames base (env :: outer)→TrX h' base e T oe.cls oe.dict (rawInt L)→KpX (env :: outer) [e] s.heap h'→s.heap.objs.size≤h'.objs.size→Q () { s with heap := h' }) :
   wpAny M A (do let a ← frameOf env;let pl ← entryPlaceOf L hadNext;let b ← EntryCells.newEntry head a .none (rawInt L) .none pl;setField (.ref e) 1 b) Q E s := by
 have hene : e∉(env :: outer).filterMap (·.frame) := fun hm=>by
   obtain ⟨_,o,ho,hnf⟩ := hl.mem hm
   rw [he] at ho;injection ho with ho;subst ho;exact hnf vs hd
 refine wpAny_bind (wpAny_frameOf_fun hfr hl hf fun h₁ hs₁=>?_)
 refine wpAny_bind (wpAny_entryPlaceOf fun pl hpl=>?_)
 unfold EntryCells.newEntry newFields
 refine wpAny_bind (wpAny_newObj_type ?_ (hpl.sizeOk5 _ _ _ _ _))
 have he₁ : h₁.get? e = some oe := (hs₁.2.1 e hene).trans he
 have kb₁ : base.StaysIn h₁ := fun b o hbo=>(hs₁.2.1 b fun hm=>by rw [(hl.mem hm).1] at hbo;cases hbo).trans (hkb b o hbo)
 have he₂ := Heap.get?_push_of_some (h:=h₁) { cls := .type "traceback",dict := none,data := .fields ([head,.ref L,.none,rawInt L,.none] ++ (if pl.isEmpty then List.replicate 6 Value.none else pl)).toArray } he₁
 have hlow : s.heap.objs.size≤h₁.objs.size := Nat.le_of_eq hs₁.1.symm
 have hTe : h₁.objs.size≠e := Nat.ne_of_gt (Heap.lt_size he₁)
 have hd₃ := Obj.data_mapFields hd (·.setIfInBounds 1 (Value.ref h₁.objs.size))
 have he₃ := Heap.get?_update_self (Obj.mapFields (·.setIfInBounds 1 (Value.ref h₁.objs.size))) he₂ (Obj.isFreed_of_fields hd₃)
 have hT₃ := (Heap.get?_update_other (h₁.push { cls := .type "traceback",dict := none,data := .fields ([head,.ref L,.none,rawInt L,.none] ++ (if pl.isEmpty then List.replicate 6 Value.none else pl)).toArray })
   (Obj.mapFields (·.setIfInBounds 1 (Value.ref h₁.objs.size))) (Ne.symm hTe)).trans (Heap.get?_push_size h₁ rfl)
 have keep : ∀ b o,b≠e→h₁.get? b = some o →
     ((h₁.push { cls := .type "traceback",dict := none,data := .fields ([head,.ref L,.none,rawInt L,.none] ++ (if pl.isEmpty then List.replicate 6 Value.none else pl)).toArray }).update e (Obj.mapFields (·.setIfInBounds 1 (Value.ref h₁.objs.size)))).get? b = some o :=
   fun b o hbe hb=>by
     rw [Heap.get?_update_other _ _ (Ne.symm hbe)]
     exact Heap.get?_push_of_some _ hb
 refine wpAny_setField he₂ hd hsz (h _ h₁.objs.size hlow ?_ ?_ ?_ ?_ ?_)
 · exact fun b o hbo=>keep b o (fun q=>by rw [q,hen] at hbo;cases hbo) (kb₁ b o hbo)
 · refine hl.of_keeps fun b o hb hnf=>?_
   obtain ⟨sl,hs⟩ := hs₁.2.2 b o hb
   have hbe : b≠e := fun q=>by rw [q,he] at hb;injection hb with hb;subst hb;exact hnf vs hd
   exact ⟨_,keep b _ hbe hs,rfl⟩
 · exact ⟨_,_,_,_,he₃,Obj.cls_mapFields _ _,dict_mapFields _ _,hd₃,by simp [hsz],kb₁.fresh,hTe,hT₃,rfl,by first | (simp;done) | (rcases hpl with rfl | ⟨_,_,_,_,_,_,_,rfl⟩ <;> simp)⟩
 · intro b o hb hbe
   have hbe' : b≠e := fun z=>hbe (by simp [z])
   obtain ⟨sl,hs⟩ := hs₁.2.2 b o hb
   exact ⟨fun hfr'=>keep b o hbe' ((hs₁.2.1 b hfr').trans hb),sl,keep b _ hbe' hs⟩
 · rw [Heap.size_update,Heap.size_push];exact Nat.le_succ_of_le hlow
theorem landX {base : Heap} {l : List Env} {e T : Addr} {cls : Value} {dct : Option Addr} {fl : Value} {Q : Unit→Shared→Prop}
   (hkb : base.StaysIn s.heap) (hl : s.heap.FunFrames base l) (ht : TrX s.heap base e T cls dct fl)
   (h : ∀ h',base.StaysIn h'→h'.FunFrames base l→TrX h' base e T cls dct .none→(∀ b o,s.heap.get? b = some o→b∉[T]→h'.get? b = some o)→h'.objs.size = s.heap.objs.size→Q () { s with heap := h' }) :
   wpAny M A (setFlight (.ref e) none) Q E s := by
 obtain ⟨oe,vs,oT,ts,he,hcls,hdct,hd,h1,hnT,hTe,hT,hdT,h3⟩ := ht
 have hsz3 : 3 < ts.size := (Array.getElem?_eq_some_iff.mp h3).1
 have other : ∀ b,b≠T→(s.heap.update T (Obj.mapFields (·.setIfInBounds 3 ((none : Option Addr).elim Value.none fun f=>rawInt f)))).get? b = s.heap.get? b :=
   fun b hb=>Heap.get?_update_other _ _ (Ne.symm hb)
 have noRecord : ∀ b o,s.heap.get? b = some o→(∀ vs,o.data≠.fields vs)→b≠T := fun b o hb hnf q=>by
   rw [q,hT] at hb;injection hb with hb;subst hb;exact hnf ts hdT
 unfold setFlight
 refine wpAny_bind (wpAny_field he hd h1 ?_)
 rw [if_pos (show (Value.ref T != Value.none) = true from by simp)]
 refine wpAny_setField hT hdT hsz3 (h _ (fun b o hbo=>(other b fun q=>by rw [q,hnT] at hbo;cases hbo).trans (hkb b o hbo))
   (hl.of_keeps fun b o hb hnf=>⟨o,(other b (noRecord b o hb hnf)).trans hb,rfl⟩) ?_ (fun b o hb hnf=>(other b (fun z=>hnf (by simp [z]))).trans hb) (Heap.size_update ..))
 exact ⟨oe,vs,_,_,(other e (Ne.symm hTe)).trans he,hcls,hdct,hd,h1,hnT,hTe,Heap.get?_update_self _ hT (Obj.isFreed_of_fields (Obj.data_mapFields hdT _)),Obj.data_mapFields hdT _,by simp [hsz3]⟩
theorem noteX {base : Heap} {env : Env} {outer : List Env} {L e T : Addr} {cls : Value} {dct : Option Addr} {Q : Unit→Shared→Prop}
   (hfr : A.frames = some (env :: outer)) (hl : s.heap.FunFrames base (env :: outer)) (hf : env.frame = some L) (ht : TrX s.heap base e T cls dct .none) (hkb : base.StaysIn s.heap) (hen : base.get? e = none)
   (h : ∀ h' T',s.heap.objs.size≤T'→base.StaysIn h'→h'.FunFrames base (env :: outer)→TrX h' base e T' cls dct (rawInt L)→KpX (env :: outer) [e,T] s.heap h'→s.heap.objs.size≤h'.objs.size→Q () { s with heap := h' }) : wpAny M A (noteFrame (.ref e) env) Q E s := by
 obtain ⟨oe,vs,oT,ts,he,hcls,hdct,hd,h1,hnT,hTe,hT,hdT,h3⟩ := ht
 subst hcls hdct
 unfold noteFrame
 simp only [hf]
 refine wpAny_bind (wpAny_field he hd h1 ?_)
 rw [if_pos (show (Value.ref T != Value.none) = true from by simp)]
 refine wpAny_bind (wpAny_field hT hdT h3 ?_)
 rw [if_neg (show ¬ ((Value.none == rawInt L) = true) from by simp [rawInt])]
 refine wpAny_bind (wpAny_setField hT hdT (Array.getElem?_eq_some_iff.mp h3).1 ?_)
 have other : ∀ b,b≠T→(s.heap.update T (Obj.mapFields (·.setIfInBounds 3 Value.none))).get? b = s.heap.get? b := fun b hb=>Heap.get?_update_other _ _ (Ne.symm hb)
 have noRecord : ∀ b o,s.heap.get? b = some o→(∀ vs,o.data≠.fields vs)→b≠T := fun b o hb hnf q=>by
   rw [q,hT] at hb;injection hb with hb;subst hb;exact hnf ts hdT
 have hsz : (s.heap.update T (Obj.mapFields (·.setIfInBounds 3 Value.none))).objs.size = s.heap.objs.size := Heap.size_update ..
 refine entryX (s:={ s with heap := s.heap.update T (Obj.mapFields (·.setIfInBounds 3 Value.none)) }) hfr (hl.of_keeps fun b o hb hnf=>⟨o,(other b (noRecord b o hb hnf)).trans hb,rfl⟩) hf ((other e (Ne.symm hTe)).trans he)
   (fun b o hbo=>(other b fun q=>by rw [q,hnT] at hbo;cases hbo).trans (hkb b o hbo)) hen hd (Array.getElem?_eq_some_iff.mp h1).1
   fun h' T' x0 x1 x2 x3 x4 x5=>h h' T' (by rw [← hsz];exact x0) x1 x2 x3 (fun b o hb hc=>?_) (by rw [← hsz];exact x5)
 have hbT : b≠T := fun z=>hc (by simp [z])
 exact x4 b o ((other b hbT).trans hb) (fun z=>hc (by simp at z;simp [z]))
theorem noteX_first {base : Heap} {env : Env} {outer : List Env} {L e : Addr} {oe : Obj} {vs : Array Value} {Q : Unit→Shared→Prop}
   (hfr : A.frames = some (env :: outer)) (hl : s.heap.FunFrames base (env :: outer)) (hf : env.frame = some L)
   (he : s.heap.get? e = some oe) (hkb : base.StaysIn s.heap) (hen : base.get? e = none) (hd : oe.data = .fields vs) (h1 : vs[1]? = some .none)
   (h : ∀ h' T',s.heap.objs.size≤T'→base.StaysIn h'→h'.FunFrames base (env :: outer)→TrX h' base e T' oe.cls oe.dict (rawInt L)→KpX (env :: outer) [e] s.heap h'→s.heap.objs.size≤h'.objs.size→Q () { s with heap := h' }) : wpAny M A (noteFrame (.ref e) env) Q E s := by
 unfold noteFrame
 simp only [hf]
 refine wpAny_bind (wpAny_field he hd h1 ?_)
 rw [if_neg (by decide)]
 exact entryX hfr hl hf he hkb hen hd (Array.getElem?_eq_some_iff.mp h1).1 h
theorem leaveX_first {base : Heap} {env : Env} {outer : List Env} {L e : Addr} {oe : Obj} {vs : Array Value} {Q : Unit→Shared→Prop}
   (hfr : A.frames = some (env :: outer)) (hl : s.heap.FunFrames base (env :: outer)) (hf : env.frame = some L)
   (he : s.heap.get? e = some oe) (hkb : base.StaysIn s.heap) (hen : base.get? e = none) (hd : oe.data = .fields vs) (h1 : vs[1]? = some .none)
   (h : ∀ h' T',s.heap.objs.size≤T'→base.StaysIn h'→h'.FunFrames base (env :: outer)→TrX h' base e T' oe.cls oe.dict .none→KpX (env :: outer) [e] s.heap h'→Q () { s with heap := h' }) : wpAny M A (leaving env (.ref e)) Q E s := by
 unfold leaving
 refine wpAny_bind (noteX_first hfr hl hf he hkb hen hd h1 fun h' T' x0 x1 x2 x3 x4 x5=>?_)
 refine landX (s:={ s with heap := h' }) x1 x2 x3 fun h2 y1 y2 y3 y4 y5=>h h2 T' x0 y1 y2 y3 (fun b o hb hc=>?_)
 obtain ⟨k1,sl,k2⟩ := x4 b o hb hc
 have hbT : b∉[T'] := fun z=>by
   have e1 : b = T' := by simpa using z
   have e2 := Heap.lt_size hb
   rw [e1] at e2
   exact absurd (Nat.lt_of_lt_of_le e2 x0) (Nat.lt_irrefl _)
 exact ⟨fun hfr'=>y4 b o (k1 hfr') hbT,sl,y4 b _ k2 hbT⟩
theorem leaveX {base : Heap} {env : Env} {outer : List Env} {L e T : Addr} {cls : Value} {dct : Option Addr} {Q : Unit→Shared→Prop}
   (hfr : A.frames = some (env :: outer)) (hl : s.heap.FunFrames base (env :: outer)) (hf : env.frame = some L) (ht : TrX s.heap base e T cls dct .none) (hkb : base.StaysIn s.heap) (hen : base.get? e = none)
   (h : ∀ h' T',s.heap.objs.size≤T'→base.StaysIn h'→h'.FunFrames base (env :: outer)→TrX h' base e T' cls dct .none→KpX (env :: outer) [e,T] s.heap h'→Q () { s with heap := h' }) : wpAny M A (leaving env (.ref e)) Q E s := by
 unfold leaving
 refine wpAny_bind (noteX hfr hl hf ht hkb hen fun h' T' x0 x1 x2 x3 x4 x5=>?_)
 refine landX (s:={ s with heap := h' }) x1 x2 x3 fun h2 y1 y2 y3 y4 y5=>h h2 T' x0 y1 y2 y3 (fun b o hb hc=>?_)
 obtain ⟨k1,sl,k2⟩ := x4 b o hb hc
 have hbT : b∉[T'] := fun z=>by
   have e1 : b = T' := by simpa using z
   have e2 := Heap.lt_size hb
   rw [e1] at e2
   exact absurd (Nat.lt_of_lt_of_le e2 x0) (Nat.lt_irrefl _)
 exact ⟨fun hfr'=>y4 b o (k1 hfr') hbT,sl,y4 b _ k2 hbT⟩
end
inductive Fl where
 | next (env : Ev) | ret (d : Dat) | brk (env : Ev) | cont (env : Ev) | exc (env : Ev) (c : Str) (fs : List (Str×XD)) | no
def NwT (K : PySem.W.Frag) (B : Bs) (H' : Hp) (d : Dat) (v : V) : Prop := ∀ ds,d = .lst ds→∃ p vs,v = .ref p∧B.H₀ p = none∧H' p = some (.lst vs)∧ds.length≤sizeLine∧Rps K (av H' (ins B.R p)) ds vs
structure XSt (X : Cx) (pins : List (Addr×Obj)) (H : Hp) (h : Heap) (e C : Addr) (dct : Option Addr) : Prop where
 lo : X.s₀.heap.objs.size≤e
 un : H e = none
 ob : (∃ o vs,h.get? e = some o∧o.cls = .ref C∧o.dict = dct∧o.data = .fields vs∧vs[1]? = some .none)∨∃ T,X.s₀.heap.objs.size≤T∧H T = none∧(∀ p∈X.pn ++ pins,p.1≠T)∧TrX h X.base e T (.ref C) dct .none
 pe : ∀ p∈X.pn ++ pins,p.1≠e
def XW (X : Cx) (A : AS) (H : Hp) (σ : St) (c : Str) (fs : List (Str×XD)) : Prop :=
 ∀ (pins : List (Addr×Obj)) (s : Shared) (e C : Addr) (dct : Option Addr),Inv X pins σ H s→clsAt X.K c C→XSt X pins H s.heap e C dct→XFs X.K (av H A) dct fs→X.xe (.ref e) s
def FlOk (fr : Bool) (X : Cx) (B : Bs) (A : AS) (H : Hp) (D : Ends) : Fl→Prop
 | .next env'=>∀ A' H' σ',Step A H A' H'→EnvOk X.K B A' H' σ' env'→D.nx σ' H'
 | .brk env'=>∀ A' H' σ',Step A H A' H'→EnvOk X.K B A' H' σ' env'→D.bk σ' H'
 | .cont env'=>∀ A' H' σ',Step A H A' H'→EnvOk X.K B A' H' σ' env'→D.ct σ' H'
 | .ret d=>∀ v H',Same B.H₀ H'→Rp X.K (av H' B.R) d v→(fr = true→NwT X.K B H' d v)→D.rt v H'
 | .exc env' c fs=>∀ A' H' σ',Step A H A' H'→EnvOk X.K B A' H' σ' env'→XW X A' H' σ' c fs
 | .no=>False
def tS (fr : Bool) (X : Cx) (g : Ev→Fl) : TS := fun D σ H=>∃ env B A,EnvOk X.K B A H σ env∧B.st = true∧FlOk fr X B A H D (g env)
def PSd (fr : Bool) (X : Cx) (st : Stmt) (g : Ev→Fl) : Prop := PS X st (tS fr X g)
def PBd (fr : Bool) (X : Cx) (st : List Stmt) (g : Ev→Fl) : Prop := PSs X st (tS fr X g)
theorem FlOk.step {fr : Bool} {X : Cx} {B : Bs} {A A' : AS} {H H' : Hp} {D : Ends} {r : Fl} (h : FlOk fr X B A H D r) (s : Step A H A' H') : FlOk fr X B A' H' D r := by
 cases r with
 | next e=>exact fun A2 H2 σ2 s2 k=>h A2 H2 σ2 (s.trans s2) k
 | brk e=>exact fun A2 H2 σ2 s2 k=>h A2 H2 σ2 (s.trans s2) k
 | cont e=>exact fun A2 H2 σ2 s2 k=>h A2 H2 σ2 (s.trans s2) k
 | ret d=>exact h
 | exc e c fs=>exact fun A2 H2 σ2 s2 k=>h A2 H2 σ2 (s.trans s2) k
 | no=>exact h
section
variable {fr m : Bool} {X : Cx} {st : Stmt} {rest a b : List Stmt} {e c : Expr} {g h : Ev→Fl} {f : Ev→Option Dat} {fs : Ev→Option (List Dat)} {t : Ev→Option Bool} {pos : Pos}
noncomputable def bNil : Ev→Fl := fun env=>.next env
noncomputable def bCons (g h : Ev→Fl) : Ev→Fl := fun env=>match g env with
 | .next env'=>h env'
 | r=>r
theorem b_nil : PBd fr X [] bNil := pss_nil.weak fun D σ H ⟨env,B,A,k,hst,q⟩=>q A H σ (Step.refl A H) k
theorem b_cons (h1 : PSd fr X st g) (h2 : PBd fr X rest h) : PBd fr X (st :: rest) (bCons g h) := (pss_cons h1 h2).weak fun D σ H zz=>by
 obtain ⟨env,B,A,k,hst,q⟩ := zz
 refine ⟨env,B,A,k,hst,?_⟩
 unfold bCons at q
 split at q
 · rename_i env' e
   rw [e]
   exact fun A' H' σ' s k'=>⟨env',B,A',k',hst,q.step s⟩
 · rename_i r hn
   cases e : g env with
   | next env'=>exact absurd e (hn env')
   | brk e'=>rw [e] at q;exact q
   | cont e'=>rw [e] at q;exact q
   | ret d=>rw [e] at q;exact q
   | exc e' c fs=>rw [e] at q;exact q
   | no=>rw [e] at q;exact q
theorem b_one (h1 : PSd fr X st g) : PBd fr X [st] g := pss_one h1
theorem s_cont : PSd fr X (.Continue pos) (fun env=>.cont env) := ps_continue.weak fun D σ H ⟨env,B,A,k,hst,q⟩=>q A H σ (Step.refl A H) k
noncomputable def sIf (t : Ev→Option Bool) (g h : Ev→Fl) : Ev→Fl := fun env=>match t env with
 | some true=>g env
 | some false=>h env
 | none=>.no
theorem s_if (hc : PTd X c t) (ha : PBd fr X a g) (hb : PBd fr X b h) : PSd fr X (.If c a b pos) (sIf t g h) := (ps_if hc ha hb).weak fun D σ H zz=>by
 obtain ⟨env,B,A,k,hst,q⟩ := zz
 unfold sIf at q
 split at q
 · rename_i e
   refine ⟨env,B,A,true,k,e,fun H' s=>?_⟩
   exact iteT ⟨env,B,A,k.mono s,hst,q.step (Step.same s)⟩
 · rename_i e
   refine ⟨env,B,A,false,k,e,fun H' s=>?_⟩
   exact iteF ⟨env,B,A,k.mono s,hst,q.step (Step.same s)⟩
 · exact q.elim
noncomputable def sRet (f : Ev→Option Dat) : Ev→Fl := fun env=>match f env with
 | some d=>.ret d
 | none=>.no
theorem ret_ok {B : Bs} {A : AS} {H H' : Hp} {σ : St} {env : Ev} {d : Dat} {v : V} (k : EnvOk X.K B A H σ env) (s : Same H H') (r : Rp X.K (av H' A) d v) : Same B.H₀ H'∧Rp X.K (av H' B.R) d v := ⟨k.h0.trans s,r.mono (av_less k.ra)⟩
theorem s_ret (he : PXd false X e f) : PSd false X (.Return (some e) pos) (sRet f) := (ps_ret he).weak fun D σ H zz=>by
 obtain ⟨env,B,A,k,hst,q⟩ := zz
 unfold sRet at q
 split at q
 · rename_i d e
   exact ⟨env,B,A,d,k,e,fun v H' s r=>q v H' (ret_ok k s r).1 (ret_ok k s r).2 (fun z=>by cases z)⟩
 · exact q.elim
theorem new_ok {B : Bs} {A : AS} {H H' : Hp} {σ : St} {env : Ev} {ds : List Dat} {p : Addr} {vs : List V} (k : EnvOk X.K B A H σ env) (hz : ds.length≤sizeLine) (s : Same H H') (hn : H p = none) (hp : H' p = some (.lst vs)) (r : Rps X.K (av H' (ins A p)) ds vs) : B.H₀ p = none∧B.R p = false∧Rps X.K (av H' (ins B.R p)) ds vs := by
 have h0 : B.H₀ p = none := k.h0.free hn
 refine ⟨h0,?_,r.mono (av_less fun a ha=>?_)⟩
 · cases q : B.R p with
   | false=>rfl
   | true=>obtain ⟨o,ho⟩ := k.r0 p q;rw [h0] at ho;cases ho
 · rcases ins_or ha with z | z
   · exact ins_of (k.ra a z)
   · subst z;exact ins_self
theorem s_retN (he : PNd X e fs) : PSd fr X (.Return (some e) pos) (sRet (dL fs)) := (ps_ret he).weak fun D σ H zz=>by
 obtain ⟨env,B,A,k,hst,q⟩ := zz
 unfold sRet at q
 split at q
 · rename_i d e
   obtain ⟨ds,e1,e2⟩ := map_some e
   subst e2
   refine ⟨env,B,A,ds,k,e1,fun p vs H' hz s hn hp r=>?_⟩
   obtain ⟨h1,h2,h3⟩ := new_ok k hz s hn hp r
   refine q (.ref p) H' (k.h0.trans s) (rp_lst hz (.inl (.inl (av_at hp h2))) (h3.mono (av_less fun a ha=>ins_of ha))) fun _ ds' ed=>?_
   cases ed
   exact ⟨p,vs,rfl,h1,hp,hz,h3⟩
 · exact q.elim
theorem np_set {env : Ev} {i : Nat} {s : Slt} (h : ∀ (j : Nat) d,env[j]?≠some (.pk d)) (hs : ∀ d,s≠.pk d) : ∀ (j : Nat) d,(env.set i s)[j]?≠some (.pk d) := fun j d=>by
 rw [List.getElem?_set]
 split
 · split
   · intro z;exact hs d (Option.some.inj z)
   · intro z;cases z
 · exact h j d
theorem EnvOk.own {K : PySem.W.Frag} {B : Bs} {A : AS} {H : Hp} {σ : St} {env : Ev} {i : Nat} {ds : List Dat} (k : EnvOk K B A H σ env) (hst : B.st = true) (h : env[i]? = some (.ow ds)) :
   ∃ a vs,σ[i]? = some (some (.ref a))∧H a = some (.lst vs)∧Rps K (av H A) ds vs∧ds.length≤sizeLine∧A a = true∧B.R a = false∧B.H₀ a = none ∧
     (∀ ds' vs',ds'.length≤sizeLine→Rps K (av H A) ds' vs'→Step A H A (upd H a (.lst vs'))∧EnvOk K B A (upd H a (.lst vs')) σ (env.set i (.ow ds'))) ∧
     Step A H (fun b=>A b && b != a) H∧EnvOk K B (fun b=>A b && b != a) H σ (env.set i (.fz (.lst ds))) := by
 obtain ⟨own,h1,h2,h4⟩ := k.sl
 obtain ⟨x,q1,a,vs,e1,e2,hz,e3,e4⟩ := h4 i _ h
 subst e1
 obtain ⟨hA,hR⟩ := h2 i a e2
 have h0 : B.H₀ a = none := by
   rcases k.ar a hA with z | z
   · rw [z] at hR;cases hR
   · exact z
 have avs : ∀ vs',Same (av H A) (av (upd H a (.lst vs')) A) := fun vs' b o e=>by
   obtain ⟨z1,z2⟩ := av_of e
   have hb : b≠a := by intro z;rw [z,hA] at z1;cases z1
   exact av_at (by rw [upd_ne hb];exact z2) z1
 refine ⟨a,vs,q1,e3,e4,hz,hA,hR,h0,fun ds' vs' hz' r'=>⟨⟨fun b o hb hAb=>?_,fun b hb=>.inl hb⟩,?_⟩,⟨fun b o hb _=>hb,fun b hb=>.inl ?_⟩,?_⟩
 · have hn : b≠a := by intro z;rw [z,hA] at hAb;cases hAb
   rw [upd_ne hn];exact hb
 · refine ⟨fun b o hb=>?_,k.r0,k.ra,k.ar,fun b hb=>?_,by rw [List.length_set];exact k.len,fun hs j d'=>np_set (k.np hs) (fun _ z=>by cases z) j d',own,h1,h2,fun j s e=>?_⟩
   · have hn : b≠a := ne_of_none hb h0
     rw [upd_ne hn];exact k.h0 b o hb
   · by_cases hn : b = a
     · subst hn;rw [upd_same];trivial
     · rw [upd_ne hn];exact k.mu b hb
   · by_cases hj : i = j
     · subst hj
       rw [List.getElem?_set,if_pos rfl] at e
       split at e
       · cases e
         exact ⟨_,q1,a,vs',rfl,e2,hz',upd_same,r'.mono (avs vs')⟩
       · cases e
     · rw [List.getElem?_set,if_neg hj] at e
       obtain ⟨x,p1,p2⟩ := h4 j s e
       refine ⟨x,p1,?_⟩
       cases s with
       | un=>trivial
       | fz d=>obtain ⟨v,z1,z2⟩ := p2;exact ⟨v,z1,z2.mono (avs vs')⟩
       | pk d =>
         exact absurd e (k.np hst j d)
       | ow es =>
         obtain ⟨b,us,z1,z2,z3,z4,z5⟩ := p2
         have hn : b≠a := fun z=>hj (h1 i j a e2 (z ▸ z2))
         exact ⟨b,us,z1,z2,z3,by rw [upd_ne hn];exact z4,z5.mono (avs vs')⟩
       | gx g =>
         obtain ⟨v,z1,z2⟩ := p2
         exact ⟨v,z1,z2.frame (fun _ z=>z) (fun b x ob z=>by
           have hn : b≠a := fun w=>hj (h1 i j a e2 (w ▸ ob))
           rw [upd_ne hn];exact z) (avs vs')⟩
 · rw [Bool.and_eq_true] at hb;exact hb.1
 · have less : Same (av H A) (av H fun b=>A b && b != a) := av_less fun b hb=>by rw [Bool.and_eq_true] at hb;exact hb.1
   refine ⟨k.h0,k.r0,fun b hb=>?_,fun b hb=>?_,fun b hb=>?_,by rw [List.length_set];exact k.len,fun hs j d'=>np_set (k.np hs) (fun _ z=>by cases z) j d',fun j b=>j≠i∧own j b,fun j j' b z z'=>h1 j j' b z.2 z'.2,fun j b z=>?_,fun j s e=>?_⟩
   · have hn : b≠a := by intro z;rw [z,hR] at hb;cases hb
     simp [k.ra b hb,hn]
   · rw [Bool.and_eq_true] at hb;exact k.ar b hb.1
   · rw [Bool.and_eq_true] at hb;exact k.mu b hb.1
   · have hn : b≠a := fun w=>z.1 (h1 j i a (w ▸ z.2) e2)
     simp [(h2 j b z.2).1,(h2 j b z.2).2,hn]
   · by_cases hj : i = j
     · subst hj
       rw [List.getElem?_set,if_pos rfl] at e
       split at e
       · cases e
         exact ⟨_,q1,.ref a,rfl,rp_lst hz (.inl (.inl (av_at e3 (by simp)))) (e4.mono less)⟩
       · cases e
     · rw [List.getElem?_set,if_neg hj] at e
       obtain ⟨x,p1,p2⟩ := h4 j s e
       refine ⟨x,p1,?_⟩
       cases s with
       | un=>trivial
       | fz d=>obtain ⟨v,z1,z2⟩ := p2;exact ⟨v,z1,z2.mono less⟩
       | pk d =>
         obtain ⟨v,z1,z2⟩ := p2
         refine ⟨v,z1,?_⟩
         rcases z2 with z2 | ⟨b,us,es,y1,y2,y3,y4,y5⟩
         · exact .inl (z2.mono less)
         · exact .inr ⟨b,us,es,y1,y2,y3,y4,y5.mono less⟩
       | ow es =>
         obtain ⟨b,us,z1,z2,z3,z4,z5⟩ := p2
         exact ⟨b,us,z1,⟨Ne.symm hj,z2⟩,z3,z4,z5.mono less⟩
       | gx g =>
         obtain ⟨v,z1,z2⟩ := p2
         exact ⟨v,z1,z2.frame (fun _ z=>⟨Ne.symm hj,z⟩) (fun _ _ _ z=>z) less⟩
noncomputable def sRetO (i : Nat) : Ev→Fl := fun env=>match env[i]? with
 | some (.ow ds)=>.ret (.lst ds)
 | _=>.no
theorem s_retO (i : Nat) {x : Str} {p : Pos} (hN : X.N[i]? = some x := by rfl) (hv : Vis X.env.scope x := by first | exact Or.inl rfl | exact Or.inr (Or.inl rfl) | exact Or.inr (Or.inr rfl)) (hd : (x == ("__debug__" : Str)) = false := by decide)
   (hcd : (x == ("__classdict__" : Str)) = false := by decide) : PSd fr X (.Return (some (.Name x p)) pos) (sRetO i) := (ps_ret (pe_var hN hv hd hcd)).weak fun D σ H zz=>by
 obtain ⟨env,B,A,k,hst,q⟩ := zz
 unfold sRetO at q
 split at q
 · rename_i ds e
   obtain ⟨a,vs,h1,h2,h3,hz,hA,hR,h0,_⟩ := k.own hst e
   have less : ∀ b,ins B.R a b = true→A b = true := fun b hb=>by
     rcases ins_or hb with z | z
     · exact k.ra b z
     · rw [z];exact hA
   have r := h3.mono (av_less (H:=H) less)
   refine ⟨.ref a,h1,q (.ref a) H k.h0 (rp_lst hz (.inl (.inl (av_at h2 hR))) (r.mono (av_less fun b hb=>ins_of hb))) fun _ ds' ed=>?_⟩
   cases ed
   exact ⟨a,vs,rfl,h0,h2,hz,r⟩
 · exact q.elim
noncomputable def sSet (i : Nat) (f : Ev→Option Dat) : Ev→Fl := fun env=>match f env with
 | some d=>.next (env.set i (.fz d))
 | none=>.no
noncomputable def sOwn (i : Nat) (f : Ev→Option (List Dat)) : Ev→Fl := fun env=>match f env with
 | some ds=>.next (env.set i (.ow ds))
 | none=>.no
theorem EnvOk.putO {K : PySem.W.Frag} {B : Bs} {A : AS} {H H' : Hp} {σ : St} {env : Ev} (k : EnvOk K B A H σ env) (hst : B.st = true) (i : Nat) {ds : List Dat} {p : Addr} {vs : List V} (hz : ds.length≤sizeLine) (s : Same H H') (hn : H p = none) (hp : H' p = some (.lst vs)) (r : Rps K (av H' (ins A p)) ds vs) :
   Step A H (ins A p) H'∧EnvOk K B (ins A p) H' (σ.set i (some (.ref p))) (env.set i (.ow ds)) := by
 have st : Step A H (ins A p) H' := ⟨fun a o h _=>s a o h,fun a h=>by
   rcases ins_or h with z | z
   · exact .inl z
   · rw [z];exact .inr hn⟩
 have hAp : A p = false := k.mu.new hn
 have h0 : B.H₀ p = none := k.h0.free hn
 obtain ⟨own,h1,h2,h4⟩ := k.sl
 refine ⟨st,k.h0.trans s,k.r0,fun a h=>ins_of (k.ra a h),fun a h=>?_,fun a h=>?_,by rw [List.length_set,List.length_set];exact k.len,fun hs j d'=>np_set (k.np hs) (fun _ z=>by cases z) j d',
   fun j a=>(j≠i∧own j a)∨(j = i∧a = p),fun j j' a z z'=>?_,fun j a z=>?_,fun j sl e=>?_⟩
 · rcases ins_or h with z | z
   · exact k.ar a z
   · rw [z];exact .inr h0
 · rcases ins_or h with z | z
   · exact k.mu.mono s a z
   · rw [z,hp];trivial
 · rcases z with z | z <;> rcases z' with z' | z'
   · exact h1 j j' a z.2 z'.2
   · have := (h2 j a z.2).1;rw [z'.2,hAp] at this;cases this
   · have := (h2 j' a z'.2).1;rw [z.2,hAp] at this;cases this
   · rw [z.1,z'.1]
 · rcases z with z | z
   · exact ⟨ins_of (h2 j a z.2).1,(h2 j a z.2).2⟩
   · refine ⟨by rw [z.2];exact ins_self,?_⟩
     cases q : B.R a with
     | false=>rfl
     | true=>obtain ⟨o,ho⟩ := k.r0 a q;rw [z.2,h0] at ho;cases ho
 · by_cases hj : i = j
   · subst hj
     rw [List.getElem?_set,if_pos rfl] at e
     split at e
     · rename_i hl
       cases e
       exact ⟨some (.ref p),by rw [List.getElem?_set,if_pos rfl,if_pos (by rw [k.len];exact hl)],p,vs,rfl,.inr ⟨rfl,rfl⟩,hz,hp,r⟩
     · cases e
   · rw [List.getElem?_set,if_neg hj] at e
     obtain ⟨x,p1,p2⟩ := h4 j sl e
     refine ⟨x,by rw [List.getElem?_set,if_neg hj];exact p1,?_⟩
     cases sl with
     | un=>trivial
     | fz d=>obtain ⟨v,z1,z2⟩ := p2;exact ⟨v,z1,z2.mono st.av⟩
     | pk d=>exact absurd e (k.np hst j d)
     | ow es =>
       obtain ⟨b,us,z1,z2,z3,z4,z5⟩ := p2
       exact ⟨b,us,z1,.inl ⟨Ne.symm hj,z2⟩,z3,s _ _ z4,z5.mono st.av⟩
     | gx g =>
       obtain ⟨v,z1,z2⟩ := p2
       exact ⟨v,z1,z2.frame (fun _ z=>.inl ⟨Ne.symm hj,z⟩) (fun b x _ z=>s b x z) st.av⟩
theorem s_set (i : Nat) {x : Str} {pos' : Pos} (hN : X.N.Nodup) (hi : X.N[i]? = some x) (hx : Loc X.env.scope x) (he : PXd false X e f) (hs : swapsWith e (some (.Name x pos')) pos.line X.env = pure false := by rfl)
   (hf : X.fn x = true∨X.env.scope.names.lookup x = some .local := by first | exact .inl rfl | exact .inr rfl | assumption) : PSd fr X (.Assign [.Name x pos'] e pos) (sSet i f) := (ps_set hN hi hx he hs hf).weak fun D σ H zz=>by
 obtain ⟨env,B,A,k,hst,q⟩ := zz
 unfold sSet at q
 split at q
 · rename_i d e
   exact ⟨env,B,A,d,k,e,fun v H' s r=>q A H' _ (Step.same s) ((k.mono s).put i r)⟩
 · exact q.elim
theorem s_own (i : Nat) {x : Str} {pos' : Pos} (hN : X.N.Nodup) (hi : X.N[i]? = some x) (hx : Loc X.env.scope x) (he : PNd X e fs) (hs : swapsWith e (some (.Name x pos')) pos.line X.env = pure false := by rfl)
   (hf : X.fn x = true∨X.env.scope.names.lookup x = some .local := by first | exact .inl rfl | exact .inr rfl | assumption) : PSd fr X (.Assign [.Name x pos'] e pos) (sOwn i fs) := (ps_set hN hi hx he hs hf).weak fun D σ H zz=>by
 obtain ⟨env,B,A,k,hst,q⟩ := zz
 unfold sOwn at q
 split at q
 · rename_i ds e
   refine ⟨env,B,A,ds,k,e,fun p vs H' hz s hn hp r=>?_⟩
   obtain ⟨h1,h2⟩ := k.putO hst i hz s hn hp r
   exact q _ H' _ h1 h2
 · exact q.elim
variable {sc : Scope} {elt tg iter : Expr} {ifs : List Expr} {src : Ev→Option (List Dat)} {is : List Nat} {gg : Dat→Ev→Option Ev} {tt : Ev→Option Bool}
theorem s_setC (i : Nat) {x : Str} {pos' spos : Pos} (hN : X.N.Nodup) (hi' : X.N[i]? = some x) (hx : Loc X.env.scope x) (psc : Scope) (fs : List (Option Nat)) (N : List Str) (hp : X.env.scope = psc) (S : CompOk psc sc X.N N fs) (hc : X.calm = true) (hi : PId false X tg iter src)
   (hb : ∀ (C : Addr) (s : Shared) (H : Hp) (fp : List Addr),PGd is (compCx X sc N C s H fp) tg gg∧PFd (compCx X sc N C s H fp) ifs tt∧PXd false (compCx X sc N C s H fp) elt f)
   (hfs : ∀ i∈is,fs[i]? = some none) (hs : ∀ x,foldedSetIterable iter X.env x = pure x := by intro _;rfl) (hsw : swapsWith (.ListComp elt [⟨tg,iter,ifs,0⟩] sc pos) (some (.Name x pos')) spos.line X.env = pure true := by rfl)
   (hf : X.fn x = true∨X.env.scope.names.lookup x = some .local := by first | exact .inl rfl | exact .inr rfl | assumption) :
   PSd fr X (.Assign [.Name x pos'] (.ListComp elt [⟨tg,iter,ifs,0⟩] sc pos) spos) (sSet i (dL (dComp src fs gg tt f))) := (ps_setComp (g:=fun v σ H Q=>∃ env R A d env',EnvOk X.K R A H σ env∧Rp X.K (av H A) d v∧gg d env = some env'∧∀ σ',EnvOk X.K R A H σ' env'→Agree is σ σ'→Q σ' H) (tt:=fun σ H Q=>∃ env R A b,EnvOk X.K R A H σ env∧tt env = some b∧∀ H',Same H H'→Q b H') (te:=fun σ H Q=>∃ env R A d,EnvOk X.K R A H σ env∧f env = some d∧RegC false X.K A H d Q) hN hi' hx psc fs N hp S hc hi hb hs hsw hf).weak fun D σ H zz=>by
 obtain ⟨env,B,A,k,hst,q⟩ := zz
 unfold sSet at q
 split at q
 · rename_i d e
   obtain ⟨ys,e',ed⟩ := map_some e
   subst ed
   obtain ⟨ds,e1,e2⟩ := bind_some e'
   have q' : RegC false X.K A H (.lst ys) (fun v H'=>D.nx (σ.set i (some v)) H') := fun v H' s r=>q A H' _ (Step.same s) ((k.mono s).put i r)
   exact ⟨env,B,A,ds,k,e1,fun J H1 hz s1 hJ=>comp_go (Q:=fun v H'=>D.nx (σ.set i (some v)) H') hfs (k.mono s1) hJ hz e2 ((q'.new k.mu).mono s1)⟩
 · exact q.elim
noncomputable def sAsg (f : Ev→Option Dat) (g : Dat→Ev→Option Ev) : Ev→Fl := fun env=>match (f env).bind fun d=>g d env with
 | some env'=>.next env'
 | none=>.no
theorem s_asg {tg e : Expr} {is : List Nat} {g : Dat→Ev→Option Ev} (he : PXd false X e f) (hg : PGd is X tg g) (hs : swapsWithSole [tg] e pos.line X.env = pure false := by rfl) (hw : swappedStores [tg] e X.env = pure none := by rfl) (h1 : (assignEach [tg] X.env).map (·.2) = [assign tg X.env] := by rfl) : PSd fr X (.Assign [tg] e pos) (sAsg f g) := (ps_asg he hg hs hw h1).weak fun D σ H zz=>by
 obtain ⟨env,B,A,k,hst,q⟩ := zz
 unfold sAsg at q
 split at q
 · rename_i env' e
   obtain ⟨d,e1,e2⟩ := bind_some e
   exact ⟨env,B,A,d,k,e1,fun v H' s r=>⟨env,B,A,d,env',k.mono s,r,e2,fun σ' k' _=>q A H' σ' (Step.same s) k'⟩⟩
 · exact q.elim
noncomputable def forL (g : Dat→Ev→Option Ev) (body : Ev→Fl) : List Dat→Ev→Fl
 | [],env=>.next env
 | x :: xs,env=>match g x env with
   | none=>.no
   | some env1=>match body env1 with
     | .next e=>forL g body xs e
     | .cont e=>forL g body xs e
     | .brk e=>.next e
     | .ret d=>.ret d
     | .exc e c fs=>.exc e c fs
     | .no=>.no
noncomputable def sFor (src : Ev→Option (List Dat)) (g : Dat→Ev→Option Ev) (body : Ev→Fl) : Ev→Fl := fun env=>match src env with
 | none=>.no
 | some ds=>forL g body ds env
theorem s_for {body : List Stmt} (hp : PassesOwn (model X.prog X.w) X.A X.env X.xe) (hc : X.calm = true) (hi : PId true X tg iter src) (hg : PGd is X tg gg) (hb : PBd fr X body g)
   (hs : ∀ x,foldedSetIterable iter X.env x = pure x := by intro _;rfl) : PSd fr X (.For tg iter body [] pos) (sFor src gg g) := (ps_for hp hc hi hg hb hs).weak fun D σ H zz=>by
 obtain ⟨env,B,A,k,hst,q⟩ := zz
 unfold sFor at q
 split at q
 · exact q.elim
 rename_i ds e
 refine ⟨env,B,A,ds,k,e,fun J H1 hz s1 hJ=>?_⟩
 refine ⟨fun i m σ' H'=>m = ds.length - i∧i≤ds.length∧∃ A' env',Step A H1 A' H'∧EnvOk X.K B A' H' σ' env'∧FlOk fr X B A' H' D (forL gg g (ds.drop i) env'),
   ⟨ds.length,by simp,Nat.zero_le _,A,env,Step.refl A H1,k.mono s1,by simpa using q.step (Step.same s1)⟩,?_⟩
 rintro i m σ' H' ⟨rfl,hi',A',env',s',k',q'⟩
 obtain ⟨hgo,hstop⟩ := hJ A' H' s' k'.mu
 by_cases hlt : i < ds.length
 · obtain ⟨go,yl⟩ := hgo i _ (show ds[i]? = some ds[i] by simp [hlt])
   refine .inr ⟨go,fun σ2 H2=>i + 1≤ds.length∧∃ A2 env2,Step A H1 A2 H2∧EnvOk X.K B A2 H2 σ2 env2∧FlOk fr X B A2 H2 D (forL gg g (ds.drop (i + 1)) env2),fun σ2 H2 z=>⟨ds.length - (i + 1),by lia,rfl,z⟩,fun x H2 hy=>?_⟩
   obtain ⟨s2,rx⟩ := yl x H2 hy
   rw [List.drop_eq_getElem_cons hlt,forL] at q'
   split at q'
   · exact q'.elim
   rename_i env1 e1
   refine ⟨env',B,A',ds[i],env1,k'.mono s2,rx,e1,fun σ3 k3 _=>⟨env1,B,A',k3,hst,?_⟩⟩
   have st2 : Step A' H' A' H2 := Step.same s2
   split at q'
   · rename_i e2 eb
     rw [eb]
     exact fun A4 H4 σ4 s4 k4=>⟨hlt,A4,e2,s'.trans (st2.trans s4),k4,q'.step (st2.trans s4)⟩
   · rename_i e2 eb
     rw [eb]
     exact fun A4 H4 σ4 s4 k4=>⟨hlt,A4,e2,s'.trans (st2.trans s4),k4,q'.step (st2.trans s4)⟩
   · rename_i e2 eb
     rw [eb]
     exact fun A4 H4 σ4 s4 k4=>q' A4 H4 σ4 (st2.trans s4) k4
   · rename_i d eb
     rw [eb]
     exact q'
   · rename_i e2 c2 f2 eb
     rw [eb]
     exact fun A4 H4 σ4 s4 k4=>q' A4 H4 σ4 (st2.trans s4) k4
   · exact q'.elim
 · have e : i = ds.length := by lia
   subst e
   rw [List.drop_length,forL] at q'
   exact .inl ⟨hstop,q' A' H' σ' (Step.refl _ _) k'⟩
noncomputable def whileN (t : Ev→Option Bool) (body : Ev→Fl) : Nat→Ev→Fl
 | 0,_=>.no
 | n + 1,env=>match t env with
   | none=>.no
   | some false=>.next env
   | some true=>match body env with
     | .next e=>whileN t body n e
     | .cont e=>whileN t body n e
     | .brk e=>.next e
     | .ret d=>.ret d
     | .exc e c fs=>.exc e c fs
     | .no=>.no
theorem whileN_mono {t : Ev→Option Bool} {body : Ev→Fl} : ∀ {n : Nat} {env : Ev} (k : Nat),whileN t body n env≠.no→whileN t body (n + k) env = whileN t body n env
 | 0,env,k,h=>absurd rfl h
 | n + 1,env,k,h=>by
   rw [show n + 1 + k = (n + k) + 1 by lia]
   simp only [whileN] at h ⊢
   split
   · rfl
   · rfl
   · rename_i e1
     simp only [e1] at h
     split
     · rename_i e2 eb;simp only [eb] at h;exact whileN_mono k h
     · rename_i e2 eb;simp only [eb] at h;exact whileN_mono k h
     · rfl
     · rfl
     · rfl
     · rfl
open Classical in
noncomputable def sWhile (t : Ev→Option Bool) (body : Ev→Fl) : Ev→Fl := fun env=>if h : ∃ n,whileN t body n env≠.no then whileN t body (Classical.choose h) env else .no
theorem sWhile_eq {t : Ev→Option Bool} {body : Ev→Fl} {n : Nat} {env : Ev} (h : whileN t body n env≠.no) : sWhile t body env = whileN t body n env := by
 unfold sWhile
 have hx : ∃ n,whileN t body n env≠.no := ⟨n,h⟩
 rw [dif_pos hx]
 have hc := Classical.choose_spec hx
 have e1 := whileN_mono n hc
 have e2 := whileN_mono (Classical.choose hx) h
 rw [← e1,← e2,Nat.add_comm]
theorem s_while {body : List Stmt} (hp : PassesOwn (model X.prog X.w) X.A X.env X.xe) (hc : PTd X c t) (hb : PBd fr X body g) : PSd fr X (.While c body [] pos) (sWhile t g) := (ps_while hp hc hb).weak fun D σ H zz=>by
 obtain ⟨env,B,A,k,hst,q⟩ := zz
 unfold sWhile at q
 split at q
 · rename_i hx
   refine ⟨fun n σ' H'=>∃ A' env',EnvOk X.K B A' H' σ' env'∧FlOk fr X B A' H' D (whileN t g n env'),⟨_,A,env,k,q⟩,?_⟩
   rintro n σ' H' ⟨A',env',k',q'⟩
   cases n with
   | zero=>exact q'.elim
   | succ n =>
     rw [whileN] at q'
     split at q'
     · exact q'.elim
     · rename_i e1
       refine ⟨env',B,A',false,k',e1,fun H1 s1=>?_⟩
       refine iteF ?_
       exact q' A' H1 σ' (Step.same s1) (k'.mono s1)
     · rename_i e1
       refine ⟨env',B,A',true,k',e1,fun H1 s1=>?_⟩
       refine iteT ?_
       refine ⟨fun σ2 H2=>∃ A2 env2,EnvOk X.K B A2 H2 σ2 env2∧FlOk fr X B A2 H2 D (whileN t g n env2),fun σ2 H2 z=>⟨n,Nat.lt_succ_self n,z⟩,env',B,A',k'.mono s1,hst,?_⟩
       have st2 : Step A' H' A' H1 := Step.same s1
       split at q'
       · rename_i e2 eb
         rw [eb]
         exact fun A4 H4 σ4 s4 k4=>⟨A4,e2,k4,q'.step (st2.trans s4)⟩
       · rename_i e2 eb
         rw [eb]
         exact fun A4 H4 σ4 s4 k4=>⟨A4,e2,k4,q'.step (st2.trans s4)⟩
       · rename_i e2 eb
         rw [eb]
         exact fun A4 H4 σ4 s4 k4=>q' A4 H4 σ4 (st2.trans s4) k4
       · rename_i d eb
         rw [eb]
         exact q'
       · rename_i e2 c2 f2 eb
         rw [eb]
         exact fun A4 H4 σ4 s4 k4=>q' A4 H4 σ4 (st2.trans s4) k4
       · exact q'.elim
 · exact q.elim
def MtU (X : Cx) (id : String) (F : List Dat→List Dat→Option (List Dat)) : Prop := MtR X id (fun v us H Q=>∃ A a vs ds as ds',MuOk A H∧v = .ref a∧H a = some (.lst vs)∧Rps X.K (av H A) ds vs∧Rms false X.K A H as us∧F ds as = some ds'∧∀ w vs',ds'.length≤sizeLine→Rps X.K (av H A) ds' vs'→Q w (upd H a (.lst vs')))
noncomputable def sMeth (i : Nat) (F : List Dat→List Dat→Option (List Dat)) (fs : Ev→Option (List Dat)) : Ev→Fl := fun env=>match env[i]? with
 | some (.ow ds)=>match (fs env).bind fun as=>F ds as with
   | some ds'=>.next (env.set i (.ow ds'))
   | none=>.no
 | _=>.no
theorem s_meth (i : Nat) {x : Str} {es : List Expr} {name : Str} {id : String} {F : List Dat→List Dat→Option (List Dat)} {p apos cpos : Pos} (slot : Slot "list" name id) (hty : typeOf (.builtin id) = pure (.type "method_descriptor")) (hm : MtU X id F) (ha : PAd false X (e :: es) fs)
   (hN : X.N[i]? = some x := by rfl) (hv : Vis X.env.scope x := by first | exact Or.inl rfl | exact Or.inr (Or.inl rfl) | exact Or.inr (Or.inr rfl)) (hd : (x == ("__debug__" : Str)) = false := by decide) (hcd : (x == ("__classdict__" : Str)) = false := by decide)
   (hsw : swapsWith (.Call (.Attribute (.Name x p) name apos) (e :: es) [] cpos) none pos.line X.env = pure false := by rfl)
   (hbase : attributeBase (.Name x p) name X.env (eval (.Name x p) X.env) = eval (.Name x p) X.env := by rfl)
   (hfew : ((backTo cpos (starEach (e :: es) X.env)).all (fun x=>!x.1) && (backToKw cpos (keywordEach [] X.env)).all (fun x=>x.1.isSome)
     && decide ((e :: es).length + ([] : List Keyword).length + (if ([] : List Keyword).isEmpty then 0 else 1) < 30)) = true := by rfl)
   (hline : (apos.endLine == cpos.line) = true := by rfl) (hs : starEach (e :: es) X.env = (false,eval e X.env) :: starEach es X.env := by rfl) (hplain : (backTo cpos (starEach es X.env)).any (·.1) = false := by rfl) :
   PSd fr X (.Expr (.Call (.Attribute (.Name x p) name apos) (e :: es) [] cpos) pos) (sMeth i F fs) := (ps_expr (pe_bm PySem.F.plainAttrs_list slot hty hm (pe_var hN hv hd hcd) ha hbase hfew hline hs hplain) hsw).weak fun D σ H zz=>by
 obtain ⟨env,B,A,k,hst,q⟩ := zz
 unfold sMeth at q
 split at q
 · rename_i ds e
   split at q
   · rename_i ds' e2
     obtain ⟨as,e3,e4⟩ := bind_some e2
     obtain ⟨a,vs,h1,h2,h3,_⟩ := k.own hst e
     refine ⟨.ref a,h1,.inl ⟨rfl,vs,SqL.of h2⟩,env,B,A,as,k,e3,fun us H2 s2 rs=>?_⟩
     have k2 := k.mono s2
     obtain ⟨a',vs',g1,g2,g3,_,_,_,_,g4,_⟩ := k2.own hst e
     rw [h1] at g1
     cases g1
     refine ⟨A,a,vs',ds,as,ds',k2.mu,rfl,g2,g3,rs,e4,fun w vs2 hz r2=>?_⟩
     obtain ⟨z1,z2⟩ := g4 ds' vs2 hz r2
     exact q A _ σ ((Step.same s2).trans z1) z2
   · exact q.elim
 · exact q.elim
noncomputable def appendF : List Dat→List Dat→Option (List Dat)
 | ds,[d]=>if ds.length < sizeLine then some (ds ++ [d]) else none
 | _,_=>none
theorem m_append : MtU X "list.append" appendF := MtR.weak (id:="list.append") mt_append fun v us H Q zz=>by
 obtain ⟨A,a,vs,ds,as,ds',mu,e1,h1,r1,r2,e2,q⟩ := zz
 unfold appendF at e2
 split at e2
 · rename_i d
   split at e2
   · rename_i hl
     cases e2
     obtain ⟨w,us',e3,r3,e4⟩ := r2
     refine ⟨a,vs,w,e1,by rw [e3,show us' = [] from e4],h1,by rw [rps_len r1];exact hl,q _ _ (by simp;lia) (rps_append r1 (rps_one r3))⟩
   · cases e2
 · cases e2
end
inductive Rs where
 | ok (d : Dat) | exc (c : Str) (fs : List (Str×XD)) | no
noncomputable def startD (n : Nat) (ds : List Dat) : Ev := ds.map .fz ++ List.replicate (n - ds.length) .un
noncomputable def runD (n p : Nat) (g : Ev→Fl) : List Dat→Rs := fun ds=>if ds.length = p then (match g (startD n ds) with
 | .ret d=>.ok d
 | .next _=>.ok .non
 | .exc _ c fs=>.exc c fs
 | _=>.no) else .no
def spD (K : PySem.W.Frag) (fr : Bool) (p : Nat) (F : List Dat→Rs) : Sp := fun vs H Q _=>vs.length = p∧∃ ds R d,MuOk R H∧Rps K (av H R) ds vs∧F ds = .ok d∧∀ v H',Same H H'→Rp K (av H' R) d v→(fr = true→NwT K ⟨H,R,true⟩ H' d v)→Q v H'
structure CalD (P : Program) (w : World) (K : PySem.W.Frag) (mg : Str→Option Value) (base : Heap) (k : Nat) (x : Str) (ps : List Str) (fr : Bool) (F : List Dat→Rs) : Prop where
 cal : Cal P w K mg base k x ps (spD K fr ps.length F)
 len : ∀ ds d,F ds = .ok d→ds.length = ps.length
theorem Mtb.some {o : Option HO} (h : Mtb o) : ∃ u,o = Option.some u := by
 cases o with
 | none=>exact h.elim
 | some u=>exact ⟨u,rfl⟩
theorem start_ok {K : PySem.W.Frag} {H : Hp} {R : AS} {N : List Str} {ds : List Dat} {vs : List V} (mu : MuOk R H) (r : Rps K (av H R) ds vs) (hl : ds.length≤N.length) : EnvOk K ⟨H,R,true⟩ R H (start N vs) (startD N.length ds) := by
 have hn := rps_len r
 refine ⟨Same.refl H,fun a h=>(mu a h).some,fun _ h=>h,fun _ h=>.inl h,mu,by simp [start,startD];lia,fun _ i d=>?_,fun _ _=>False,fun _ _ _ h=>h.elim,fun _ _ h=>h.elim,fun i s e=>?_⟩
 · unfold startD
   rw [List.getElem?_append]
   split
   · rw [List.getElem?_map]
     cases ds[i]? <;> simp
   · rw [List.getElem?_replicate]
     split <;> simp
 · unfold startD at e
   unfold start
   rw [List.getElem?_append] at e ⊢
   simp only [List.length_map] at e ⊢
   rw [hn]
   split at e
   · rename_i hi
     rw [if_pos hi]
     rw [List.getElem?_map] at e ⊢
     cases hd : ds[i]? with
     | none=>rw [hd] at e;cases e
     | some d =>
       rw [hd] at e
       cases e
       obtain ⟨v,h1,h2⟩ := rps_get r hd
       rw [h1]
       exact ⟨some v,rfl,v,rfl,h2⟩
   · rename_i hi
     rw [if_neg hi]
     rw [List.getElem?_replicate] at e ⊢
     split at e
     · rename_i h2
       cases e
       rw [if_pos h2]
       exact ⟨none,rfl,trivial⟩
     · cases e
theorem run_body {fr : Bool} {X : Cx} {N : List Str} {p : Nat} {g : Ev→Fl} {ds : List Dat} {d : Dat} {R : AS} {H : Hp} {vs : List V} {Q : VK} (hp : p≤N.length) (mu : MuOk R H) (r : Rps X.K (av H R) ds vs) (hF : runD N.length p g ds = .ok d)
   (q : ∀ v H',Same H H'→Rp X.K (av H' R) d v→(fr = true→NwT X.K ⟨H,R,true⟩ H' d v)→Q v H') :
   tS fr X g (Ends.mk (fun _ H'=>Q .non H') Q (fun _ _=>False) (fun _ _=>False)) (start N vs) H := by
 unfold runD at hF
 split at hF
 · rename_i hl
   refine ⟨startD N.length ds,⟨H,R,true⟩,R,start_ok mu r (by lia),rfl,?_⟩
   split at hF
   · rename_i d' e
     cases hF
     rw [e]
     exact fun v H' s r n=>q v H' s r n
   · rename_i env e
     cases hF
     rw [e]
     exact fun A' H' σ' s k=>q .non H' k.h0 rp_non (fun _ ds e=>by cases e)
   · cases hF
   · cases hF
 · cases hF
section
variable {P : Program} {w : World} {K : PySem.W.Frag} {mg : Str→Option Value} {base : Heap}
theorem runD_len {n p : Nat} {g : Ev→Fl} {ds : List Dat} {d : Dat} (h : runD n p g ds = .ok d) : ds.length = p := by
 unfold runD at h
 split at h
 · assumption
 · cases h
theorem ar0 {α : Type} {P : List α→Prop} (us : List α) (hl : us.length = 0) (h : P []) : P us := by cases us with | nil=>exact h | cons _ _=>cases hl
@[elab_as_elim] theorem ar1 {α : Type} {P : List α→Prop} (us : List α) (hl : us.length = 1) (h : ∀ a,P [a]) : P us := by
 cases us with
 | nil=>cases hl
 | cons a us=>exact ar0 (P:=fun us=>P (a :: us)) us (Nat.succ.inj hl) (h a)
@[elab_as_elim] theorem ar2 {α : Type} {P : List α→Prop} (us : List α) (hl : us.length = 2) (h : ∀ a b,P [a,b]) : P us := by
 cases us with
 | nil=>cases hl
 | cons a us=>exact ar1 (P:=fun us=>P (a :: us)) us (Nat.succ.inj hl) (h a)
@[elab_as_elim] theorem ar3 {α : Type} {P : List α→Prop} (us : List α) (hl : us.length = 3) (h : ∀ a b c,P [a,b,c]) : P us := by
 cases us with
 | nil=>cases hl
 | cons a us=>exact ar2 (P:=fun us=>P (a :: us)) us (Nat.succ.inj hl) (h a)
@[elab_as_elim] theorem ar4 {α : Type} {P : List α→Prop} (us : List α) (hl : us.length = 4) (h : ∀ a b c d,P [a,b,c,d]) : P us := by
 cases us with
 | nil=>cases hl
 | cons a us=>exact ar3 (P:=fun us=>P (a :: us)) us (Nat.succ.inj hl) (h a)
@[elab_as_elim] theorem ar5 {α : Type} {P : List α→Prop} (us : List α) (hl : us.length = 5) (h : ∀ a b c d e,P [a,b,c,d,e]) : P us := by
 cases us with
 | nil=>cases hl
 | cons a us=>exact ar4 (P:=fun us=>P (a :: us)) us (Nat.succ.inj hl) (h a)
@[elab_as_elim] theorem ar6 {α : Type} {P : List α→Prop} (us : List α) (hl : us.length = 6) (h : ∀ a b c d e f,P [a,b,c,d,e,f]) : P us := by
 cases us with
 | nil=>cases hl
 | cons a us=>exact ar5 (P:=fun us=>P (a :: us)) us (Nat.succ.inj hl) (h a)
theorem cal_d {x : Str} {st : Stmt} {N ps : List Str} {k : Nat} {fr : Bool} {g : Ev→Fl} (D : Def K mg x st) (S : FnScope N ps (defScope st))
   (hbi : ∀ (kV doc pm : Value) (an : Option Addr) (cdv ct : Value) (us : List Value),us.length = ps.length→bindArgs (PySem.W.fnOf x x (defArgs st) (defBody st) (defScope st) .none kV doc pm an cdv ct) ⟨us,[]⟩ = pure (ps.zip us))
   (hb : ∀ (f : Addr) (cdv : Value) (A : Around) (outer : List Env) (s : Shared) (H : Hp) (E : XK),Room k (A.deeper (envOfC x (defScope st) s.heap.objs.size f cdv))→PBd fr (cxOf CX0 P w K mg base N x (defScope st) f cdv A outer s H E).nox (defBody st) g) :
   CalD P w K mg base (k + 1) x ps fr (runD N.length ps.length g) := by
 have hpl : ps.length≤N.length := by have := congrArg List.length S.pre;rw [List.length_take] at this;lia
 refine ⟨cal_of D S hbi (fun vs H Q E h=>h.1) fun f cdv A outer s H vs Q E hr ⟨hl,ds,R,d,mu,r,hF,q⟩=>⟨_,hb f cdv A outer s H E hr,?_⟩,fun ds d h=>runD_len h⟩
 exact run_body hpl mu r hF q
def spLaw (K : PySem.W.Frag) : Sp := fun vs H Q _=>∃ (a : Addr) (ns : List Int),vs = [.ref a]∧SL K H a (ns.map V.int)∧ns.length≤63∧∀ H',Q (.bl true) H'
theorem law_d {x : Str} {st : Stmt} {f : Addr} {fd : FuncData} {N ps : List Str} {k : Nat} {g : Ev→Fl} (F : Fun K x x st f fd) (S : FnScope N ps (defScope st)) (hps : ps.length = 1)
   (hb : ∀ (cdv : Value) (A : Around) (outer : List Env) (s : Shared) (H : Hp) (E : XK),Room k (A.deeper (envOfC x (defScope st) s.heap.objs.size f cdv))→PBd false (cxOf CX0 P w K mg base N x (defScope st) f cdv A outer s H E).nox (defBody st) g)
   (law : ∀ ns : List Int,ns.length≤63→runD N.length 1 g [.lst (ns.map .int)] = .ok (.bl true)) : FnOk P w K mg base CX0 (k + 1) f fd ps (spLaw K) := by
 have hpl : ps.length≤N.length := by have := congrArg List.length S.pre;rw [List.length_take] at this;lia
 refine fn_body F S (fun vs H Q E ⟨a,ns,e,_⟩=>by rw [e,hps];rfl) fun cdv A outer s H vs Q E hr ⟨a,ns,e,hS,hl,q⟩=>⟨_,hb cdv A outer s H E hr,?_⟩
 subst e
 refine run_body (R:=no) (d:=.bl true) (by lia) (fun a h=>by cases h) (ds:=[.lst (ns.map .int)]) ?_ (law ns hl) fun v H' _ r _=>by rw [of_bl r];exact q H'
 rw [av_no]
 refine rps_one (rp_lst ?_ hS (rps_ints ns))
 rw [List.length_map]
 exact Nat.le_of_lt (small1000 (by lia))
variable {X : Cx} {m : Bool} {fr : Bool} {F : List Dat→Rs} {k : Nat} {x : Str} {ps : List Str} {e : Expr} {es : List Expr} {fs : Ev→Option (List Dat)} {p pos : Pos}
noncomputable def okR : Rs→Option Dat
 | .ok d=>some d
 | _=>none
theorem okR_some {r : Rs} {d : Dat} (h : okR r = some d) : r = .ok d := by cases r <;> cases h;rfl
noncomputable def dCal (F : List Dat→Rs) (fs : Ev→Option (List Dat)) : Ev→Option Dat := fun env=>(fs env).bind fun ds=>okR (F ds)
theorem xcal (C : CalD X.prog X.w X.K X.mg X.base k x ps fr F) (hr : Room k X.A) (ha : PAd false X (e :: es) fs) (hg : Gl X x := by rfl)
   (hdb : (x == ("__debug__" : Str)) = false := by decide) (he : starEach (e :: es) X.env = (false,eval e X.env) :: starEach es X.env := by rfl) (hpl : (backTo pos (starEach es X.env)).any (·.1) = false := by rfl) :
   PXd m X (.Call (.Name x p) (e :: es) [] pos) (dCal F fs) := PXd.any ((pe_cal C.cal hr ha hg hdb he hpl).weak fun σ H Q zz=>by
 obtain ⟨env,R,A,d,k,q1,q2⟩ := zz
 obtain ⟨ds,e1,e2⟩ := bind_some q1
 have e3 := okR_some e2
 refine ⟨env,R,A,ds,k,e1,fun vs H1 s1 rs=>⟨by rw [rps_len rs.rps];exact C.len ds d e3,ds,A,d,k.mu.mono s1,rs.rps,e3,fun v H' s r _=>q2 v H' (s1.trans s) r⟩⟩)
noncomputable def lstR : Rs→Option (List Dat)
 | .ok (.lst ds)=>some ds
 | _=>none
theorem lstR_some {r : Rs} {d : List Dat} (h : lstR r = some d) : r = .ok (.lst d) := by
 unfold lstR at h
 split at h
 · cases h;rfl
 · cases h
noncomputable def dCalN (F : List Dat→Rs) (fs : Ev→Option (List Dat)) : Ev→Option (List Dat) := fun env=>(fs env).bind fun ds=>lstR (F ds)
mutual
noncomputable def pureD : Dat→Bool
 | .lst _=>false
 | .dct _=>false
 | .exc _ _=>false
 | .tup xs=>pureDs xs
 | .non=>true
 | .bl _=>true
 | .int _=>true
 | .str _=>true
noncomputable def pureDs : List Dat→Bool
 | []=>true
 | x :: xs=>pureD x && pureDs xs
end
theorem sqT_av {K : PySem.W.Frag} {H : Hp} {A : AS} {a : Addr} {vs : List V} (mu : MuOk A H) (h : SqT K H a vs) : SqT K (av H A) a vs := by
 rcases h with h | h
 · left
   have hA : A a = false := by
     cases q : A a with
     | false=>rfl
     | true =>
       have := mu a q
       rw [h] at this;exact this.elim
   exact av_at h hA
 · exact .inr h
mutual
theorem Rp.pure {K : PySem.W.Frag} {H : Hp} {A : AS} (mu : MuOk A H) : ∀ {d : Dat} {v : V},pureD d = true→Rp K H d v→Rp K (av H A) d v
 | .non,v,_,r=>by rw [of_non r];exact rp_non
 | .bl b,v,_,r=>by rw [of_bl r];exact rp_bl
 | .int b,v,_,r=>by rw [of_int r];exact rp_int
 | .str b,v,_,r=>by obtain ⟨e,h⟩ := of_str r;rw [e];exact rp_str h
 | .lst _,v,h,_=>by cases h
 | .dct _,v,h,_=>by cases h
 | .exc _ _,v,h,_=>by cases h
 | .tup xs,v,h,r=>by
   obtain ⟨a,vs,e,h1,h2⟩ := of_tup r
   subst e
   exact rp_tup (len_tup r) (sqT_av mu h1) (Rps.pure mu (by simpa [pureD] using h) h2)
theorem Rps.pure {K : PySem.W.Frag} {H : Hp} {A : AS} (mu : MuOk A H) : ∀ {ds : List Dat} {vs : List V},pureDs ds = true→Rps K H ds vs→Rps K (av H A) ds vs
 | [],vs,_,r=>by rw [rps_of_nil r];exact rps_nil
 | d :: ds,vs,h,r=>by
   obtain ⟨v,us,e,r1,r2⟩ := rps_of_cons r
   subst e
   rw [pureDs,Bool.and_eq_true] at h
   exact rps_cons (Rp.pure mu h.1 r1) (Rps.pure mu h.2 r2)
end
noncomputable def dCalP (F : List Dat→Rs) (fs : Ev→Option (List Dat)) : Ev→Option Dat := fun env=>(fs env).bind fun ds=>(okR (F ds)).bind fun d=>if pureD d = true then some d else none
theorem xcalP (C : CalD X.prog X.w X.K X.mg X.base k x ps fr F) (hr : Room k X.A) (ha : PAd true X (e :: es) fs) (hg : Gl X x := by rfl)
   (hdb : (x == ("__debug__" : Str)) = false := by decide) (he : starEach (e :: es) X.env = (false,eval e X.env) :: starEach es X.env := by rfl) (hpl : (backTo pos (starEach es X.env)).any (·.1) = false := by rfl) :
   PXd m X (.Call (.Name x p) (e :: es) [] pos) (dCalP F fs) := PXd.any ((pe_cal C.cal hr ha hg hdb he hpl).weak fun σ H Q zz=>by
 obtain ⟨env,R,A,d,k,q1,q2⟩ := zz
 obtain ⟨ds,e1,e2⟩ := bind_some q1
 obtain ⟨d',e3,e4⟩ := bind_some e2
 have e5 := okR_some e3
 split at e4
 · rename_i hpu
   cases e4
   refine ⟨env,R,A,ds,k,e1,fun vs H1 s1 rs=>⟨by rw [rps_len rs.full];exact C.len ds _ e5,ds,no,d,(fun a h=>by cases h),by rw [av_no];exact rs.full,e5,fun v H' s r _=>q2 v H' (s1.trans s) ?_⟩⟩
   rw [av_no] at r
   exact Rp.pure (k.mu.mono (s1.trans s)) hpu r
 · cases e4)
end
section
variable {X : Cx} {m : Bool}
end
noncomputable def Ite (sq : Hp→List V→Prop) : It :=
 ⟨fun i H=>∃ xs x,sq H xs∧xs[i]? = some x,
  fun i H v H'=>∃ p x,v = .ref p∧H p = none∧(∀ xs,sq H xs→xs[i]? = some x)∧H' = upd H p (.tup [.int i,x]),
  fun i H=>∃ xs,sq H xs∧xs.length = i⟩
theorem Inv.turnedT {X : Cx} {pins : List (Addr×Obj)} {σ : St} {H : Hp} {s : Shared} {h' : Heap} {tk : Nat} {ch : List Addr} {T : Addr} {xs : List V} {its : List Value} (I : Inv X pins σ H s) (hf : ∀ b∈ch,FpOk X pins H b)
   (kk : ∀ b o,b∉ch→s.heap.get? b = some o→h'.get? b = some o) (hT : s.heap.objs.size≤T) (rv : Vals xs its) (hz : xs.length≤sizeLine) (ht : IsTup h' T its.toArray) :
   Inv X pins σ (upd H T (.tup xs)) { s with heap := h',toks := tk } := by
 have hn : H T = none := I.hok.fresh hT
 have nch : ∀ b u,H b = some u→b∉ch := fun b u e z=>by rw [(hf b z).1] at e;cases e
 refine I.call' (ch:=ch) rfl ⟨fun b o q n _ hx=>kk b o hx q,fun b o q n _ hx=>⟨o.slots,kk b o hx q⟩,fun b o q n hx=>?_,fun b o q hx=>⟨o,kk b o hx q⟩,fun b ys q=>?_,fun b o u q=>?_,fun b ps q=>⟨#[],?_⟩⟩ (fun b u e=>?_) I.bare fun b hb=>⟨(hf b hb).2.2.2.1,(hf b hb).2.1,(hf b hb).2.2.2.2.1,(hf b hb).2.2.2.2.2⟩
 · rw [upd_ne (Nat.ne_of_lt (Nat.lt_of_lt_of_le (Heap.lt_size q) hT))];exact n
 · rw [upd_ne (ne_of_none q hn)];exact q
 · rw [upd_ne (ne_of_none q hn)];exact q
 · rw [upd_ne (ne_of_none q hn),q];simp
 · by_cases hb : b = T
   · subst hb
     rw [upd_same] at e
     cases e
     exact ⟨hz,its,rv,ht⟩
   · rw [upd_ne hb] at e
     refine (I.hok b u e).stay (fun c v hc q=>?_) (fun c q=>?_) fun c ys q=>?_
     · rcases hc with hc | hc
       · subst hc;exact kk c v (nch c u e) q
       · exact kk c v (nch c _ hc) q
     · rw [upd_ne (ne_of_none q hn)];exact q
     · rw [upd_ne (ne_of_none q hn)];exact q
theorem Inv.turnedN {X : Cx} {pins : List (Addr×Obj)} {σ : St} {H : Hp} {s : Shared} {h' : Heap} {tk : Nat} {ch : List Addr} (I : Inv X pins σ H s) (hf : ∀ b∈ch,FpOk X pins H b)
   (kk : ∀ b o,b∉ch→s.heap.get? b = some o→h'.get? b = some o) : Inv X pins σ H { s with heap := h',toks := tk } := by
 have nch : ∀ b u,H b = some u→b∉ch := fun b u e z=>by rw [(hf b z).1] at e;cases e
 refine I.call' (ch:=ch) rfl ⟨fun b o q n _ hx=>kk b o hx q,fun b o q n _ hx=>⟨o.slots,kk b o hx q⟩,fun b o q n hx=>n,fun b o q hx=>⟨o,kk b o hx q⟩,fun b ys q=>q,fun b o u q=>q,fun b ps q=>⟨#[],by rw [q];simp⟩⟩ (fun b u e=>?_) I.bare fun b hb=>⟨(hf b hb).2.2.2.1,(hf b hb).2.1,(hf b hb).2.2.2.2.1,(hf b hb).2.2.2.2.2⟩
 refine (I.hok b u e).stay (fun c v hc q=>?_) (fun c q=>q) fun c ys q=>q
 rcases hc with hc | hc
 · subst hc;exact kk c v (nch c u e) q
 · exact kk c v (nch c _ hc) q
theorem turn_enum {P : Program} {w : World} {K : PySem.W.Frag} {es : List Expr} {k : Nat} {pos : Pos} (a e it : Addr) (itS : Nat→Heap→Prop) (IsS : Heap→Array Value→Prop) (sq : Hp→List V→Prop)
   (hS : ∀ h h' i,itS i h→(∀ o,h.get? it = some o→h'.get? it = some o)→itS i h')
   (hO : ∀ h i,itS i h→∃ o,h.get? it = some o∧o.cls≠.type "enumerate" ∧ ∀ v,o.data≠.cell v)
   (hA : ∀ h items,IsS h items→∃ o,h.get? a = some o∧o.cls≠.type "enumerate" ∧ ∀ h' i,itS i h'→∀ o',h'.get? it = some o'→o'.cls≠o.cls)
   (hD : ∀ A : Around,A.handled = none→a≠it→∀ items : Array Value,Draws P w A it [it,a] items.size (fun i v=>items[i]? = some v) (fun i h=>itS i h∧IsS h items))
   (hg : ∀ (X : Cx) (pins : List (Addr×Obj)) (σ : St) (H : Hp) (s : Shared) (xs : List V),X.K = K→Inv X pins σ H s→sq H xs→∃ its,Vals xs its∧IsS s.heap its.toArray)
   (hj : ∀ (X : Cx) (pins : List (Addr×Obj)) (σ : St) (H : Hp) (s : Shared) (xs ys : List V),X.K = K→Inv X pins σ H s→sq H xs→sq H ys→xs = ys) :
   Turn P w K (.Tuple es k pos) (Ite sq) [e,it] e (fun i h=>(∃ old,IsEnum h e it i old)∧itS i h) where
 mem := by simp
 obj := fun i h st b hb=>by
   rcases List.mem_cons.mp hb with rfl | hb
   · obtain ⟨⟨old,z⟩,_⟩ := st;exact ⟨_,z,fun v q=>by cases q⟩
   · rw [List.mem_singleton.mp hb];obtain ⟨o,h1,_,h2⟩ := hO h i st.2;exact ⟨o,h1,h2⟩
 keep := fun i h h' st kk=>by
   obtain ⟨⟨old,z⟩,q⟩ := st
   exact ⟨⟨old,kk e (by simp) _ z⟩,hS h h' i q fun o r=>kk it (by simp) o r⟩
 item := by
   intro X hP hw hK hc i pins s σ H E I hf st hgo
   subst hP hw
   obtain ⟨xs,x,hsq,hx⟩ := hgo
   obtain ⟨its,rv,hI⟩ := hg X pins σ H s xs hK I hsq
   obtain ⟨u,hu,ru⟩ := rv.get hx
   obtain ⟨⟨old,hE⟩,hIt⟩ := st
   obtain ⟨oi,hoi,hci,_⟩ := hO _ _ hIt
   obtain ⟨oa,hoa,hca,hcc⟩ := hA _ _ hI
   have hne : a≠it := by intro z;rw [z,hoi] at hoa;cases hoa;exact hcc _ _ hIt _ hoi rfl
   have hei : e≠it := by intro z;rw [← z,hE] at hoi;cases hoi;exact hci rfl
   have hea : e≠a := by intro z;rw [← z,hE] at hoa;cases hoa;exact hca rfl
   have W := WalksT.enumerateD (hD X.A.in1 (I.ok.hd hc) hne its.toArray) e hei (by simp [hei,hea]) (by simp)
   have hi : i < its.toArray.size := by rw [List.size_toArray];exact (List.getElem?_eq_some_iff.mp hu).1
   refine W.item i s _ _ hi ⟨⟨old,hE⟩,hIt,hI⟩ fun T vals h' tk hPt hT hTup hM hk=>⟨.ref T,rfl,W.go es k pos i T _ _ _ hM fun h2 hst hk2=>?_⟩
   obtain ⟨t,x',hx',rfl⟩ := hPt
   have hxu : x' = u := by
     have : its[i]? = some x' := by simpa using hx'
     rw [hu] at this;exact (Option.some.inj this).symm
   subst hxu
   have hTup2 : IsTup h2 T #[.int i t,x'] := by
     obtain ⟨o,ho,r⟩ := hTup
     exact ⟨o,hk2 T o (W.apart i T h' hM) ho,r⟩
   have I2 := Inv.turnedT (s:=s) (h' := h2) (tk:=tk) (ch:=[e,it]) (its:=[.int i t,x']) (xs:=[.int i,x]) I hf (fun b o hb q=>hk2 b o hb (hk b o hb q)) hT (.cons ⟨t,rfl⟩ (.cons ru .nil)) (by show 2≤sizeLine;decide) hTup2
   refine ⟨.ref T,upd H T (.tup [.int i,x]),I2,rfl,⟨T,x,rfl,I.hok.fresh hT,fun ys hy=>?_,rfl⟩,⟨hst.1,hst.2.1⟩,fun b hb=>?_⟩
   · rw [hj X pins σ H s ys xs hK I hy hsq];exact hx
   · rw [upd_ne ?_];exact (hf b hb).1
     intro z
     have hlt : b < s.heap.objs.size := by
       rcases List.mem_cons.mp hb with rfl | hb
       · exact Heap.lt_size hE
       · rw [List.mem_singleton.mp hb];exact Heap.lt_size hoi
     exact absurd (Nat.lt_of_lt_of_le hlt (by rw [z];exact hT)) (Nat.lt_irrefl _)
 done := by
   intro X hP hw hK hc i pins s σ H E I hf st hs
   subst hP hw
   obtain ⟨xs,hsq,hl⟩ := hs
   obtain ⟨its,rv,hI⟩ := hg X pins σ H s xs hK I hsq
   obtain ⟨⟨old,hE⟩,hIt⟩ := st
   obtain ⟨oi,hoi,hci,_⟩ := hO _ _ hIt
   obtain ⟨oa,hoa,hca,hcc⟩ := hA _ _ hI
   have hne : a≠it := by intro z;rw [z,hoi] at hoa;cases hoa;exact hcc _ _ hIt _ hoi rfl
   have hei : e≠it := by intro z;rw [← z,hE] at hoi;cases hoi;exact hci rfl
   have hea : e≠a := by intro z;rw [← z,hE] at hoa;cases hoa;exact hca rfl
   have W := WalksT.enumerateD (hD X.A.in1 (I.ok.hd hc) hne its.toArray) e hei (by simp [hei,hea]) (by simp)
   have hn : its.toArray.size = i := by rw [List.size_toArray,← rv.length];exact hl
   refine W.done s _ _ (by rw [hn];exact ⟨⟨old,hE⟩,hIt,hI⟩) fun h' tk hk=>⟨rfl,I.turnedN (ch:=[e,it]) hf fun b o hb q=>hk b o hb q⟩
 self := fun A i s Q E st h=>by
   obtain ⟨⟨old,z⟩,_⟩ := st
   exact wpAny_pyIter_enum z h
section
variable {st m : Bool} {X : Cx} {l : Expr} {es : List Expr} {f : Ev→Option Dat} {tk : Nat} {tpos : Pos}
theorem turn_enumT (a e it : Addr) : Turn X.prog X.w X.K (.Tuple es tk tpos) (Ite fun H xs=>SqT X.K H a xs) [e,it] e (fun i h=>(∃ old,IsEnum h e it i old)∧h.IsTupleIter it a i) :=
 turn_enum a e it (fun i h=>h.IsTupleIter it a i) (fun h items=>h.IsTuple a items) _ (fun h h' i q kk=>let ⟨o,h1,r⟩ := q;⟨o,kk o h1,r⟩)
   (fun h i q=>let ⟨o,h1,h2,h3⟩ := q;⟨o,h1,by rw [h2];decide,fun v z=>by rw [h3] at z;cases z⟩)
   (fun h items q=>let ⟨o,h1,h2,_⟩ := q;⟨o,h1,by rw [h2];decide,fun h' i r o' e'=>by obtain ⟨o2,g1,g2,_⟩ := r;rw [g1] at e';cases e';rw [g2,h2];decide⟩)
   (fun A hh hne items=>Draws.tupleD hh it a hne items)
   (fun Y pins σ H s xs hK I h=>by rw [← hK] at h;obtain ⟨its,r,p,_⟩ := I.tuple h;exact ⟨its,r,p⟩)
   (fun Y pins σ H s xs ys hK I h h'=>by rw [← hK] at h h';exact I.tuple_inj h h')
theorem turn_enumL (a e it : Addr) : Turn X.prog X.w X.K (.Tuple es tk tpos) (Ite fun H xs=>SqL X.K H a xs) [e,it] e (fun i h=>(∃ old,IsEnum h e it i old)∧h.IsListIter it a i) :=
 turn_enum a e it (fun i h=>h.IsListIter it a i) (fun h items=>h.IsList a items) _ (fun h h' i q kk=>let ⟨o,h1,r⟩ := q;⟨o,kk o h1,r⟩)
   (fun h i q=>let ⟨o,h1,h2,h3⟩ := q;⟨o,h1,by rw [h2];decide,fun v z=>by rw [h3] at z;cases z⟩)
   (fun h items q=>let ⟨o,h1,h2,_⟩ := q;⟨o,h1,by rw [h2];decide,fun h' i r o' e'=>by obtain ⟨o2,g1,g2,_⟩ := r;rw [g1] at e';cases e';rw [g2,h2];decide⟩)
   (fun A hh hne items=>Draws.list hh it a hne items)
   (fun Y pins σ H s xs hK I h=>by rw [← hK] at h;obtain ⟨its,r,p,_⟩ := I.list h;exact ⟨its,r,p.isList⟩)
   (fun Y pins σ H s xs ys hK I h h'=>by rw [← hK] at h h';exact I.list_inj h h')
noncomputable def numb : Nat→List Dat→List Dat
 | _,[]=>[]
 | k,x :: xs=>.tup [.int k,x] :: numb (k + 1) xs
theorem numb_get : ∀ (xs : List Dat) (k i : Nat),(numb k xs)[i]? = (xs[i]?).map fun x=>.tup [.int ((k + i : Nat) : Int),x]
 | [],k,i=>by simp [numb]
 | x :: xs,k,0=>by simp [numb]
 | x :: xs,k,i + 1=>by
   rw [numb,List.getElem?_cons_succ,List.getElem?_cons_succ,numb_get xs (k + 1) i,show k + 1 + i = k + (i + 1) by lia]
theorem numb_len : ∀ (xs : List Dat) (k : Nat),(numb k xs).length = xs.length
 | [],_=>rfl
 | x :: xs,k=>by rw [numb,List.length_cons,List.length_cons,numb_len xs]
noncomputable def srcE (f : Ev→Option Dat) : Ev→Option (List Dat) := fun env=>(srcL f env).map (numb 0)
theorem it_enum {K : PySem.W.Frag} {A : AS} {H : Hp} {vs : List V} {ds : List Dat} {sq : Hp→List V→Prop} (h : ∀ A1 H1,Adv st A H A1 H1→sq H1 vs) (r : Rps K (av H A) ds vs) : ItOk st K A H (numb 0 ds) (Ite sq) := fun A1 H1 adv mu=>by
 have h1 := h A1 H1 adv
 have r1 := r.mono adv.step.av
 refine ⟨fun i x e=>?_,⟨vs,h1,by rw [numb_len];exact rps_len r⟩⟩
 rw [numb_get] at e
 obtain ⟨d,e1,e2⟩ := map_some e
 subst e2
 obtain ⟨v,e3,e4⟩ := rps_get r1 e1
 refine ⟨⟨vs,v,h1,e3⟩,fun v' H2 ⟨p,x,z1,z2,z3,z4⟩=>?_⟩
 subst z1 z4
 have := z3 vs h1
 rw [e3] at this
 cases this
 refine ⟨Same.new z2,rp_tup (by show 2≤sizeLine;decide) (.inl (av_at upd_same (mu.new z2))) (rps_cons ?_ (rps_one (e4.mono (av_mono (Same.new z2)))))⟩
 rw [Nat.zero_add];exact rp_int
def iEnumL (K : PySem.W.Frag) (ta : TA) : TI := fun σ H R=>ta σ H fun vs H1=>∃ a,vs = [.ref a]∧(∃ xs,SqL K H1 a xs)∧R (Ite fun H xs=>SqL K H a xs) H1
def iEnumT (K : PySem.W.Frag) (ta : TA) : TI := fun σ H R=>ta σ H fun vs H1=>∃ a,vs = [.ref a]∧(∃ xs,SqT K H1 a xs)∧R (Ite fun H xs=>SqT K H a xs) H1
theorem fp2 {pins : List (Addr×Obj)} {σ : St} {H : Hp} {s : Shared} (I : Inv X pins σ H s) : ∀ b∈[s.heap.objs.size + 1,s.heap.objs.size],FpOk X pins H b := fun b hb=>by
 rcases List.mem_cons.mp hb with rfl | hb
 · exact I.fpOk (Nat.le_succ _) (I.hok.fresh (Nat.le_succ _))
 · rw [List.mem_singleton.mp hb];exact I.fpOk (Nat.le_refl _) (I.hok.fresh (Nat.le_refl _))
theorem pi_enumL {ta : TA} {p pos : Pos} (hg : Gl X "enumerate") (hm : X.mg "enumerate" = none) (hv : bootBuiltins "enumerate" = some (.type "enumerate")) (ha : PA X [l] ta) (hs : starEach [l] X.env = [(false,eval l X.env)] := by rfl) : PI X (.Tuple es tk tpos) (.Call (.Name "enumerate" p) [l] [] pos) (iEnumL X.K ta) := by
 intro pins s σ H R I h
 refine Call_ (ld_blt I hg hm hv (PyProof.Rows.callWith_type1 (thn (ha pos pins s σ H _ I h) fun us s1 ⟨vs,H1,I1,r1,q1⟩=>?_) hs rfl))
 obtain ⟨a,e,⟨xs,hq⟩,q⟩ := q1
 subst e
 obtain ⟨u,rfl,ru⟩ := vals1 r1
 cases ru
 obtain ⟨its,rv,pl,hz⟩ := I1.list hq
 refine call_enumerate_list pl.isList fun h' h1 h2 h3 h4=>?_
 have I2 : Inv X pins σ H1 { s1 with heap := h' } := I1.kept (t' := s1.toks) h4
 refine wpAny_pyIter_enum (s:={ s1 with heap := h' }) h1 ?_
 exact ⟨s1.heap.objs.size + 1,[s1.heap.objs.size + 1,s1.heap.objs.size],_,_,H1,rfl,I2,turn_enumL a _ _,⟨⟨_,h1⟩,h2⟩,fp2 I1,q⟩
theorem pi_enumT {ta : TA} {p pos : Pos} (hg : Gl X "enumerate") (hm : X.mg "enumerate" = none) (hv : bootBuiltins "enumerate" = some (.type "enumerate")) (ha : PA X [l] ta) (hs : starEach [l] X.env = [(false,eval l X.env)] := by rfl) : PI X (.Tuple es tk tpos) (.Call (.Name "enumerate" p) [l] [] pos) (iEnumT X.K ta) := by
 intro pins s σ H R I h
 refine Call_ (ld_blt I hg hm hv (PyProof.Rows.callWith_type1 (thn (ha pos pins s σ H _ I h) fun us s1 ⟨vs,H1,I1,r1,q1⟩=>?_) hs rfl))
 obtain ⟨a,e,⟨xs,hq⟩,q⟩ := q1
 subst e
 obtain ⟨u,rfl,ru⟩ := vals1 r1
 cases ru
 obtain ⟨its,rv,pl,hz⟩ := I1.tuple hq
 refine call_enumerate_tuple (show s1.heap.IsTuple a its.toArray from pl) fun h' h1 h2 h3 h4=>?_
 have I2 : Inv X pins σ H1 { s1 with heap := h' } := I1.kept (t' := s1.toks) h4
 refine wpAny_pyIter_enum (s:={ s1 with heap := h' }) h1 ?_
 exact ⟨s1.heap.objs.size + 1,[s1.heap.objs.size + 1,s1.heap.objs.size],_,_,H1,rfl,I2,turn_enumT a _ _,⟨⟨_,h1⟩,h2⟩,fp2 I1,q⟩
theorem i_enum {p pos : Pos} (hg : Gl X "enumerate") (hm : X.mg "enumerate" = none) (h : PXd false X l f) (hv : bootBuiltins "enumerate" = some (.type "enumerate") := by decide +kernel) (hs : starEach [l] X.env = [(false,eval l X.env)] := by rfl) : PId st X (.Tuple es tk tpos) (.Call (.Name "enumerate" p) [l] [] pos) (srcE f) :=
 ((pi_enumL hg hm hv (pa_cons h pa_nil hs) hs).or (pi_enumT hg hm hv (pa_cons h pa_nil hs) hs)).weak fun σ H R' zz=>by
 obtain ⟨env,R,A,ds,k,e,q⟩ := zz
 obtain ⟨xs,e0,e1⟩ := map_some e
 subst e1
 unfold srcL at e0
 split at e0
 · rename_i ys e1
   cases e0
   refine .inl ⟨env,R,A,.lst xs,k,e1,fun v H1 s1 p1=>?_⟩
   obtain ⟨a,vs,e2,h1,r1⟩ := of_lst (show Rp X.K (av H1 A) (.lst xs) v from p1)
   subst e2
   exact ⟨a,rfl,⟨vs,(av_same.sl h1).sq⟩,q _ H1 (by rw [numb_len];exact p1.pk.lenL) s1 (it_enum (vs:=vs) (fun A1 H2 adv=>(av_same.sl (adv.step.av.sl h1)).sq) r1)⟩
 · rename_i ys e1
   cases e0
   refine .inr ⟨env,R,A,.tup xs,k,e1,fun v H1 s1 p1=>?_⟩
   obtain ⟨a,vs,e2,h1,r1⟩ := of_tup (show Rp X.K (av H1 A) (.tup xs) v from p1)
   subst e2
   exact ⟨a,rfl,⟨vs,av_same.seqT h1⟩,q _ H1 (by rw [numb_len];exact p1.pk.lenT) s1 (it_enum (vs:=vs) (fun A1 H2 adv=>av_same.seqT (adv.step.av.seqT h1)) r1)⟩
 · cases e0
end
end L2
namespace PySem
open Sem (wp)
open AutoSeq1 (wpAny_loadPart')
namespace F
theorem nolen_lr : typeLookup (.type "list_reverseiterator") "__len__" = pure none := by rw [typeLookup_type,builtinLookup_eq_fast];kernel_rfl
theorem hint_lr : typeLookup (.type "list_reverseiterator") "__length_hint__" = pure (some (.builtin "list_reverseiterator.__length_hint__")) := by rw [typeLookup_type,builtinLookup_eq_fast];kernel_rfl
end F
section
variable {prog : Program} {w : World} {A : Around} {E : Value→Shared→Prop} {s : Shared}
end
section
variable {prog : Program} {w : World} {A : Around} {s : Shared} {R : Result→Shared→Prop}
variable {I : Addr} {fp wr : List Addr} {G : Array GenState→Array GenState→Prop} {n : Nat} {P : Nat→Value→Prop} {St : Nat→Shared→Prop}
def HintOk (prog : Program) (w : World) (A : Around) (I : Addr) (St : Nat→Shared→Prop) : Prop := ∀ (s : Shared) (Q : Bool→Shared→Prop) (E : Value→Shared→Prop),St 0 s→(∀ tk,s.toks≤tk→Q false { s with toks := tk })→wpAny (model prog w) A (Builtin.List.listLengthHint (.ref I)) Q E s
theorem wpAny_extend_it {T : String} (W : WalksS prog w A.in1 I fp wr G n P St) (hT : ∀ i s,St i s→s.TypeIs (.ref I) T) (hTm : T = "range_iterator" ∨ T = "list_reverseiterator") (hh : HintOk prog w A.in1 I St) (S : Addr) (res : Value) (c₀ : Nat) (hst : St 0 s) (hSf : S∉fp) (hI : I∈fp)
   (hS : s.heap.get? S = some { cls := .type "list",data := .seq #[] c₀ })
   (hR : ∀ s' acc' c',Moved (S :: wr) G s s'→s'.heap.get? S = some { cls := .type "list",dict := none,data := .seq acc' c',slots := #[] }→ItemsOf P acc' n→R (.ok (.ret res)) s') (hn : n≤sizeLine) :
   wpAny (model prog w) A.in1 (Builtin.List.listExtendWith (.ref S) (.ref I) res)
     (fun fin s'=>match fin with | .done f=>R (.ok f) s' | .again c'=>c'.quiet = true∧codeAny (model prog w) A c' R s') (fun e s'=>R (.error e) s') s := by
 have hSI : S≠I := fun e=>hSf (e ▸ hI)
 unfold Builtin.List.listExtendWith
 refine wpAny_bind (wpAny_typeOf (hT 0 _ hst) ?_)
 have h1 : Builtin.List.listSameRef (.ref S) (.ref I) = false := by simp [Builtin.List.listSameRef,hSI]
 have h2 : (Value.type T == Value.type "list") = false := by rcases hTm with rfl | rfl <;> decide
 have h3 : (Value.type T == Value.type "tuple") = false := by rcases hTm with rfl | rfl <;> decide
 simp only [h1,h2,h3,Bool.or_false,Bool.false_eq_true,if_false]
 refine wpAny_bind (W.self 0 _ _ _ hst ?_)
 refine wpAny_bind (wpAny_holding (hh s _ _ hst fun tk htk=>?_))
 rw [if_neg (by rcases hTm with rfl | rfl <;> decide)]
 have hst₂ := W.frame 0 _ _ tk hst htk fun b _ o e=>e
 refine wpAny_pure ⟨plainId_quiet F.plain_extend_loop _,codeAny_extend_loopS W hn _ hSf _ n 0 _ _ _ rfl (Nat.zero_le _) hst₂ hS (ItemsOf.nil P) fun s' acc' c' hm hS' hacc=>?_⟩
 exact hR s' acc' c' (Moved.trans W.gtrans ((Moved.refl W.grefl).then_heap htk fun b o hb e=>e) hm) hS' hacc
theorem wpAny_list_init_it {T : String} (W : WalksS prog w A.in1 I fp wr G n P St) (hT : ∀ i s,St i s→s.TypeIs (.ref I) T) (hTm : T = "range_iterator" ∨ T = "list_reverseiterator") (hh : HintOk prog w A.in1 I St) (S : Addr) (hst : St 0 s) (hSf : S∉fp) (hI : I∈fp)
   (hS : s.heap.get? S = some { cls := .type "list",data := .seq #[] })
   (hR : ∀ s' acc' c',Moved (S :: wr) G s s'→s'.heap.get? S = some { cls := .type "list",dict := none,data := .seq acc' c',slots := #[] }→ItemsOf P acc' n→R (.ok (.ret .none)) s') (hn : n≤sizeLine) :
   wpAny (model prog w) A.in1 (Builtin.«list.__init__» ⟨[.ref S,.ref I],[]⟩)
     (fun fin s'=>match fin with | .done f=>R (.ok f) s' | .again c'=>c'.quiet = true∧codeAny (model prog w) A c' R s') (fun e s'=>R (.error e) s') s := by
 show wpAny _ A.in1 (do let old ← Builtin.List.listItems (.ref S);Builtin.List.listUpdate (.ref S) (fun _=>#[]);letGo old.toList.reverse;Builtin.List.listExtendWith (.ref S) (.ref I) .none) _ _ s
 refine wpAny_bind ?_
 unfold Builtin.List.listItems
 refine wpAny_bind (wpAny_seqItems hS rfl (wpAny_pure ?_))
 show wpAny _ A.in1 (updateSeq S (fun _=>#[]) >>= fun _=>letGo (#[] : Array Value).toList.reverse >>= fun _=>Builtin.List.listExtendWith (.ref S) (.ref I) .none) _ _ s
 refine wpAny_bind (wpAny_updateSeq hS rfl ?_)
 have hS₂ := Heap.get?_update_self (Obj.mapSeq (fun _=>(#[] : Array Value))) hS rfl
 have oth : ∀ b o,b≠S→s.heap.get? b = some o→(s.heap.update S (Obj.mapSeq (fun _=>(#[] : Array Value)))).get? b = some o :=
   fun b o hb e=>(Heap.get?_update_other _ _ (Ne.symm hb)).trans e
 refine wpAny_bind (wpAny_letGo ?_)
 refine wpAny_extend_it (hn:=hn) W hT hTm hh S .none _ (W.frame 0 s _ s.toks hst (Nat.le_refl _) fun b hb o e=>oth b o (fun h=>hSf (h ▸ hb)) e) hSf hI hS₂ fun s' acc' c' hm hS' hacc=>?_
 exact hR s' acc' c' (Moved.trans W.gtrans ((Moved.refl W.grefl).then_heap (Nat.le_refl _) fun b o hb e=>oth b o (fun h=>hb (h ▸ List.mem_cons_self)) e) hm) hS' hacc
end
section
variable {prog : Program} {w : World} {A : Around} {E : Value→Shared→Prop} {s : Shared}
variable {I : Addr} {fp wr : List Addr} {n : Nat} {P : Nat→Value→Prop} {St : Nat→Shared→Prop}
theorem call_list_it {T : String} {Q : Value→Shared→Prop} (W : WalksS prog w A.in1.in1 I fp wr (fun a b=>b = a) n P St) (hT : ∀ i s,St i s→s.TypeIs (.ref I) T) (hTm : T = "range_iterator" ∨ T = "list_reverseiterator") (hh : HintOk prog w A.in1.in1 I St) (hst : St 0 s) (hfp : ∀ b∈fp,b < s.heap.objs.size) (hI : I∈fp)
   (hQ : ∀ h' tk acc' c',(∀ b o,b∉wr→s.heap.get? b = some o→h'.get? b = some o)→h'.get? s.heap.objs.size = some { cls := .type "list",dict := none,data := .seq acc' c',slots := #[] }→ItemsOf P acc' n→Q (.ref s.heap.objs.size) { s with heap := h',toks := tk }) (hn : n≤sizeLine) :
   wpAny (model prog w) A (call (.type "list") [.ref I]) Q E s := by
 have hSf : s.heap.objs.size∉fp := fun hm=>Nat.lt_irrefl _ (hfp _ hm)
 refine callType_codes (Q₁:=fun obj s₁=>obj = .ref s.heap.objs.size∧s₁ = { s with heap := s.heap.push { cls := .type "list",data := .seq #[] } }) F.called_list (F.typeCall_list_1 _) F.entry_list_init
   (code_list_new _ ⟨rfl,rfl⟩) fun obj s₁ h₁=>?_
 obtain ⟨rfl,rfl⟩ := h₁
 have hS : (s.heap.push { cls := .type "list",data := .seq #[] }).get? s.heap.objs.size = some { cls := .type "list",data := .seq #[] } := Heap.get?_push_size _ rfl
 refine ⟨⟨_,hS,rfl⟩,F.args_list_init_2 _ _,wpAny_list_init_it (hn:=hn) W hT hTm hh _ (W.frame 0 s _ s.toks hst (Nat.le_refl _) fun b _ o e=>Heap.get?_push_of_some _ e) hSf hI hS fun s' acc' c' hm hS' hacc=>?_⟩
 refine ⟨rfl,?_⟩
 rw [Moved.eq_with hm]
 refine hQ s'.heap s'.toks acc' c' (fun b o hb e=>hm.heap b o (fun hmem=>?_) (Heap.get?_push_of_some _ e)) hS' hacc
 rcases List.mem_cons.mp hmem with e' | hmem
 · exact absurd (Heap.lt_size e) (by rw [e'];exact Nat.lt_irrefl _)
 · exact hb hmem
end
section
variable {prog : Program} {w : World} {A : Around}
theorem hint_lri (it : Addr) (St : Nat→Shared→Prop) (hT : ∀ s,St 0 s→s.TypeIs (.ref it) "list_reverseiterator") : HintOk prog w A it St := fun s Q E hst hQ=>by
 unfold Builtin.List.listLengthHint
 refine wpAny_bind (wpAny_specialOf (hT s hst) F.nolen_lr ?_)
 show wpAny _ _ (specialOf (Value.ref it) (Str.ofString "__length_hint__") >>= _) _ _ _
 refine wpAny_bind (wpAny_specialOf (hT s hst) F.hint_lr ?_)
 (generalize hid : ("list_reverseiterator.__length_hint__" : String) = id0;(fail_if_success (clear hid id0));wp_delta;rw [show splitId id0 = some ("list_reverseiterator", "__length_hint__") from by subst hid;decide +kernel];subst hid)
 refine wpAny_bind (wpAny_isInstance (b:=true) (hT s hst) (by rw [isSubtype_type];kernel_rfl) ?_)
 exact wpAny_pure (hQ s.toks (Nat.le_refl _))
end
end PySem
namespace L2
open PySem PySem.Spec PyProof.Rows
section
variable {X : Cx} {m : Bool} {e : Expr} {f : Ev→Option Dat} {fs : Ev→Option (List Dat)}
theorem push_size (h : Heap) (o : Obj) : (h.push o).objs.size = h.objs.size + 1 := by cases h;exact Array.size_push ..
noncomputable def dLR (fs : Ev→Option (List Dat)) : Ev→Option (List Dat) := fun env=>match fs env with
 | some [.lst xs]=>some xs.reverse
 | _=>none
theorem Vals.rev : ∀ {xs : List V} {us : List Value},Vals xs us→Vals xs.reverse us.reverse
 | [],[],_=>.nil
 | x :: xs,u :: us,.cons h r=>by rw [List.reverse_cons,List.reverse_cons];exact (Vals.rev r).append (.cons h .nil)
theorem n_listrev {p1 p2 q1 q2 : Pos} (hgL : Gl X "list") (hmL : X.mg "list" = none) (hgR : Gl X "reversed") (hmR : X.mg "reversed" = none) (ha : PAd true X [e] fs) (hc : X.calm = true := by rfl)
   (hvL : bootBuiltins "list" = some (.type "list") := by decide +kernel) (hvR : bootBuiltins "reversed" = some (.type "reversed") := by decide +kernel)
   (hs1 : starEach [.Call (.Name "reversed" p2) [e] [] q2] X.env = [(false,eval (.Call (.Name "reversed" p2) [e] [] q2) X.env)] := by rfl)
   (hs3 : starEach [e] X.env = [(false,eval e X.env)] := by rfl) :
   PNd X (.Call (.Name "list" p1) [.Call (.Name "reversed" p2) [e] [] q2] [] q1) (dLR fs) := by
 intro pins s σ H Q I ⟨env,R,A,ds,k,e1,q⟩
 unfold dLR at e1
 split at e1
 case h_2=>cases e1
 rename_i xs en
 cases e1
 refine Call_ (ld_blt I hgL hmL hvL (callWith_type1 ?_ hs1 rfl))
 rw [hs1]
 refine Calls.spliced_cons ?_
 refine Call_ (ld_blt I hgR hmR hvR (callWith_type1 (thn (ha q2 pins s σ H (fun vs H1=>∃ v,Same H H1∧vs = [v]∧Pk X.K A H1 (.lst xs) v) I ⟨env,R,A,[.lst xs],k,en,fun vs H1 s1 r1=>?_⟩) fun us s1 ⟨vs,H1,I1,r1,v,sm,ev,pv⟩=>?_) hs3 rfl))
 · obtain ⟨v,e3,p1⟩ := r1.one
   exact ⟨v,s1,e3,p1⟩
 subst ev
 obtain ⟨a,ys,ea,h1,r2⟩ := pv.lst
 subst ea
 obtain ⟨u,rfl,ru⟩ := vals1 r1
 cases ru
 obtain ⟨its,rv0,pl,hz⟩ := I1.list h1.sq
 refine call_reversed_list pl.isList ?_
 refine Calls.spliced_nil ?_
 have hlt := I1.hok
 obtain ⟨oa,hoa,_⟩ := id pl.isList
 have hne : a≠s1.heap.objs.size := Nat.ne_of_lt (Heap.lt_size hoa)
 have W := (Walks.listRev (prog:=X.prog) (w:=X.w) (A:=X.A.in1.in1) (I1.ok.hd hc) s1.heap.objs.size a hne its.toArray).toS
 have hlen := rv0.length
 refine call_list_it W (T:="list_reverseiterator") (fun i s st=>st.2.1.typeIs) (.inr rfl) (hint_lri _ _ fun s st=>st.2.1.typeIs) ⟨Nat.zero_le _,?_,pl.isList.at fun o eo=>Heap.get?_push_of_some _ eo⟩ ?_ (by simp) ?_ ?_
 · refine ⟨_,Heap.get?_push_size _ rfl,rfl,?_⟩
   simp [revObj]
 · intro b hb
   rcases List.mem_cons.mp hb with rfl | hb
   · rw [push_size];exact Nat.lt_succ_self _
   · rw [List.mem_singleton.mp hb]
     exact Nat.lt_of_lt_of_le (Heap.lt_size hoa) (by rw [push_size];lia)
 · intro h' tk acc' c' hk hl hi
   have kp : ∀ b o,s1.heap.get? b = some o→h'.get? b = some o := fun b o eb=>hk b o (fun hm=>by
     have hlt := Heap.lt_size eb
     rw [List.mem_singleton.mp hm] at hlt
     exact Nat.lt_irrefl _ hlt) (Heap.get?_push_of_some _ eb)
   have eacc : acc'.toList = its.reverse := by
     apply List.ext_getElem?
     intro i
     by_cases hi' : i < its.length
     · have hia : i < acc'.size := by rw [hi.1];simpa using hi'
       have := hi.2 i acc'[i] (by simp [hia])
       rw [Array.getElem?_toList,Array.getElem?_eq_getElem hia,List.getElem?_reverse hi']
       simpa using this.symm
     · rw [List.getElem?_eq_none (l:=acc'.toList) (by rw [Array.length_toList,hi.1];simpa using hi'),List.getElem?_eq_none (l:=its.reverse) (by rw [List.length_reverse];exact Nat.le_of_not_lt hi')]
   generalize hS : ({ heap := s1.heap.push (revObj a ((its.toArray.size : Int) - 1)),gens := s1.gens,drawn := s1.drawn,toks := s1.toks,os := s1.os } : Shared).heap.objs.size = S at hl ⊢
   have hSz : s1.heap.objs.size≤S := by
     rw [← hS]
     show _≤(Heap.push _ _).objs.size
     rw [push_size]
     exact Nat.le_succ _
   have I2 : Inv X pins σ (upd H1 S (.lst ys.reverse)) { s1 with heap := h',toks := tk } := I1.laid kp hSz (show ObjOk X.prog X.w _ h' _ (.lst ys.reverse) from ⟨by rw [List.length_reverse];exact hz,acc'.toList,c',by rw [eacc];exact rv0.rev,by rw [Array.toArray_toList];exact hl⟩)
   exact ⟨.ref S,_,I2,rfl,(q.mono sm).at (vs:=ys.reverse) (by rw [List.length_reverse,← rps_len r2];exact hz) (rps_rev r2) _ (I1.hok.fresh hSz)⟩
 · rw [List.size_toArray,← hlen];exact hz
noncomputable def intD : List Dat→Option Dat
 | [.int i]=>some (.int i)
 | [.bl b]=>some (.int (if b then 1 else 0))
 | _=>none
theorem c_int : CallD X (.type "int") intD := call_int1.weak fun vs H Q zz=>by
 obtain ⟨A,ds,d,mu,e,p,q⟩ := zz
 unfold intD at e
 split at e
 · obtain ⟨v,e1,p1⟩ := p.one
   cases e
   exact .inl ⟨_,by rw [e1,p1.int],q.here rp_int⟩
 · obtain ⟨v,e1,p1⟩ := p.one
   cases e
   exact .inr ⟨_,by rw [e1,p1.bl],q.here rp_int⟩
 · cases e
noncomputable def mulS : Dat→Dat→Option Dat
 | .str x,.int k=>if 1≤k∧k≤1000∧x.length≤1000 then some (.str (Txt.mul x k)) else none
 | _,_=>none
theorem mem_reps {α : Type} (x : Array α) (c : α) : ∀ (n : Nat) (acc : Array α),c∈(List.replicate n x).foldl (· ++ ·) acc→c∈acc∨c∈x
 | 0,acc,h=>.inl h
 | n + 1,acc,h=>by
   rw [List.replicate_succ,List.foldl_cons] at h
   rcases mem_reps x c n _ h with h | h
   · rcases Array.mem_append.mp h with h | h
     · exact .inl h
     · exact .inr h
   · exact .inr h
theorem strOk_mul {x : Str} {k : Int} (h : PyData.strOk x = true) : PyData.strOk (Txt.mul x k) = true := by
 unfold Txt.mul
 split
 · unfold PyData.strOk Str.empty;simp
 · split
   · exact h
   · unfold PyData.strOk at h ⊢
     rw [Array.all_eq_true'] at h ⊢
     intro c hc
     rcases mem_reps x.cps c _ _ hc with z | z
     · simp at z
     · exact h c z
theorem o_mulS : OpD X (binaryOp .Mult) mulS := fun pins s σ H x y v u Q I rx ry zz=>by
 obtain ⟨A,a,b,d,mu,e,p1,p2,q⟩ := zz
 unfold mulS at e
 split at e
 · rename_i z k
   split at e
   · rename_i hz
     cases e
     obtain ⟨e1,k1⟩ := p1.str
     have e2 := p2.int
     subst e1 e2
     obtain ⟨t,rfl⟩ := rx
     obtain ⟨t',rfl⟩ := ry
     have hl : (Txt.mul z k).length≤1000 * 1000 := len_mul_leN hz.2.2 hz.2.1
     refine SB.mul (mulOk_of 1000 1000 hz.2.2 hz.2.1 (by lia) (by decide) (by decide)) fun t' k'=>⟨.str (Txt.mul z k),H,I.tok _,⟨_,rfl⟩,q.here (rp_str (SOk.of (strOk_mul k1.ok) (Nat.le_trans hl (by decide))))⟩
   · cases e
 · cases e
noncomputable def mulE : Dat→Dat→Option Dat
 | .int i,.int j=>mulI (.int i) (.int j)
 | .str x,.int k=>mulS (.str x) (.int k)
 | _,_=>none
theorem o_mulE : OpD X (binaryOp .Mult) mulE := OpD.or o_mulI o_mulS fun x y d e=>by
 unfold mulE at e
 split at e
 · exact .inl e
 · exact .inr e
 · cases e
end
end L2
namespace L2
open PySem
section
variable {prog : Program} {w : World} {A : Around} {E : Value→Shared→Prop} {h : Heap} {g : Array GenState} {d : Drawn} {t : Nat} {os : OsState}
variable {nm q : Str} {C N : Addr} {bs bm bmB : List Value} {hdct : Bool} {sn : List Str} {sub : List Value} {ab : Bool} {col : Option Bool} {dd : Option Addr} {k0 k1 k2 k3 k5 : Option Value} {B Bn newId nid initId inN : String} {bmN : List Value}
theorem type_call_initU (Fn : ExcBaseFacts Bn newId inN bmN) (hBn : bmB.contains (.type Bn) = true) (F : ExcBaseFacts B nid initId bmB) (T : OwnTail h bmB bm) {mN : Str→Option Value} {rest : List Value} {fI : Addr} {oI : Obj} {Q : Fin→Shared→Prop}
   (hC : h.get? C = some (excClassObj nm q C N bs bm hdct sn sub ab col dd k0 k1 k2 k3 k5 newId)) (hn : h.Ns N mN) (hi : mN "__init__" = some (.ref fI))
   (hfI : h.get? fI = some oI) (hfc : oI.cls = .type "function")
   (hq : ∀ h' e,h.objs.size≤e→Heap.MadeExcOf h h' e (.ref C) rest →
     wpAny (model prog w) A (call (.ref fI) (.ref e :: rest)) (fun r s'=>r = .none∧Q (.done (.ret (.ref e))) s') E ⟨h',g,d,t,os⟩) (hrest : rest.length≤sizeLine := by size_fits) :
   wpAny (model prog w) A (Builtin.«type.__call__» ⟨.ref C :: rest,[]⟩) Q E ⟨h,g,d,t,os⟩ := by
 repeat (first | with_reducible refine wpAny_loadPart_at hC ?_ | with_reducible refine wpAny_madeBy_exc hC ?_ | wp_step)
 refine codeAny_call_builtin_code (Code.quiet_builtin _ Fn.quiet) (wpAny_check_new_subU Fn hBn T hC ?_)
 refine codeAny_exc_new_subU Fn hBn F T hC ?_ hrest
 show wpAny _ _ _ _ _ _
 have hC₁ := Heap.get?_push_of_some { cls := .ref C,data := .fields #[.ref h.objs.size,.none,.none,.none,.bool false,.none] }
   (Heap.get?_push_of_some { cls := .type "tuple",data := .seq rest.toArray } hC)
 have hfI₁ := Heap.get?_push_of_some { cls := .ref C,data := .fields #[.ref h.objs.size,.none,.none,.none,.bool false,.none] }
   (Heap.get?_push_of_some { cls := .type "tuple",data := .seq rest.toArray } hfI)
 have hn₁ : ((h.push { cls := .type "tuple",data := .seq rest.toArray }).push { cls := .ref C,data := .fields #[.ref h.objs.size,.none,.none,.none,.bool false,.none] }).Ns N mN :=
   let ⟨o,es,ep,e,r⟩ := hn;⟨o,es,ep,Heap.get?_push_of_some _ (Heap.get?_push_of_some _ e),r⟩
 have hget : ((h.push { cls := .type "tuple",data := .seq rest.toArray }).push
     { cls := .ref C,data := .fields #[.ref h.objs.size,.none,.none,.none,.bool false,.none] }).get? (h.objs.size + 1) = some
     { cls := .ref C,data := .fields #[.ref h.objs.size,.none,.none,.none,.bool false,.none] } := by heap_get
 have hcC : (Value.ref C :: bm).contains (.ref C) = true := by simp
 have T₁ := T.keeps (h' := (h.push { cls := .type "tuple",data := .seq rest.toArray }).push { cls := .ref C,data := .fields #[.ref h.objs.size,.none,.none,.none,.bool false,.none] })
   fun b o e=>Heap.get?_push_of_some _ (Heap.get?_push_of_some _ e)
 unfold isInstance
 repeat (first | with_reducible refine wpAny_loadPart_at hget ?_ | (with_reducible refine wpAny_isSubtype_exc hC₁ ?_;rw [hcC]) | wp_step)
 show wpAny _ _ (typeLookup (.ref C) _) _ _ _
 refine wpAny_typeLookup_tail hC₁ hn₁ T₁ F.mroIs F.init.lookup ?_
 rw [hi]
 refine wpAny_holding (wpAny_bind ?_)
 unfold bindSpecial
 refine wpAny_bind (wpAny_typeOf (T:="function") ⟨_,hfI₁,hfc⟩ ?_)
 rw [if_pos (by decide)]
 refine wpAny_pure (wpAny_bind (wpAny_mono (hq _ (h.objs.size + 1) (Nat.le_succ _) ⟨fun b o hb=>Heap.get?_push_of_some _ (Heap.get?_push_of_some _ hb),Heap.get?_none_of_le (Nat.le_succ _),h.objs.size,hget,Heap.get?_none_of_le (Nat.le_refl _),?_⟩) (fun r s' hr=>?_) fun _ _ x=>x))
 · exact Heap.get?_push_of_some _ (Heap.get?_push_at rfl rfl)
 · obtain ⟨rfl,hQ⟩ := hr
   wp_walk
   exact hQ
theorem call_initU (Fn : ExcBaseFacts Bn newId inN bmN) (hBn : bmB.contains (.type Bn) = true) (F : ExcBaseFacts B nid initId bmB) (T : OwnTail h bmB bm) {mN : Str→Option Value} {rest : List Value} {fI : Addr} {oI : Obj} {Q : Value→Shared→Prop}
   (hC : h.get? C = some (excClassObj nm q C N bs bm hdct sn sub ab col dd k0 k1 k2 k3 k5 newId)) (hn : h.Ns N mN) (hi : mN "__init__" = some (.ref fI))
   (hfI : h.get? fI = some oI) (hfc : oI.cls = .type "function")
   (hq : ∀ h' e,h.objs.size≤e→Heap.MadeExcOf h h' e (.ref C) rest →
     wpAny (model prog w) (A.under (.builtin "type.__call__" ⟨.ref C :: rest,[]⟩)) (call (.ref fI) (.ref e :: rest)) (fun r s'=>r = .none∧Q (.ref e) s') E ⟨h',g,d,t,os⟩) (hrest : rest.length≤sizeLine := by size_fits) :
   wpAny (model prog w) A (call (.ref C) rest) Q E ⟨h,g,d,t,os⟩ := by
 have f1 := tc_lookup
 have f2 := tc_bind (.ref C)
 have hT : (⟨h,g,d,t,os⟩ : Shared).TypeIs (.ref C) "type" := ⟨_,hC,rfl⟩
 refine wpAny_call (codeAny_of_tree ?_)
 show wpAny _ _ (callAny (.ref C) _) _ _ _
 repeat (any_goals (first | assumption | with_reducible refine wpAny_loadPart_at hC ?_ | wp_step))
 refine ⟨rfl,?_⟩
 refine codeAny_call_builtin_at (Code.quiet_builtin _ (by decide +kernel)) entry_typeCall (wpAny_check_type_call_sub hC (type_call_initU (hrest:=hrest) Fn hBn F T hC hn hi hfI hfc fun h' e hlo hm=>?_))
 exact hq h' e hlo hm
end
section
variable {M : Model} {A : Around} {E : Value→Shared→Prop} {env : Env}
variable {nm q : Str} {C N : Addr} {bs bm : List Value} {hdct : Bool} {sn : List Str} {sub : List Value} {ab : Bool} {col : Option Bool} {dd : Option Addr} {k0 k1 k2 k3 k5 : Option Value} {newId : String}
theorem raise_madeD {s : Shared} {x : Sem Value} {Q : Flow→Shared→Prop} (hbase : bm.contains (.type "BaseException") = true) (hh : A.handled = none)
   (h : wpAny M A x (fun v s₁=>∃ e a dct,v = .ref e∧s₁.heap.get? C = some (excClassObj nm q C N bs bm hdct sn sub ab col dd k0 k1 k2 k3 k5 newId) ∧
     s₁.heap.get? e = some { cls := .ref C,dict := dct,data := .fields #[a,.none,.none,.none,.bool false,.none] }∧E (.ref e) s₁) E s) :
   wpAny M A (raiseStmt env (some x) none) Q E s := by
 have hcB : (Value.ref C :: bm).contains (.type "BaseException") = true := by rw [List.contains_cons,hbase,Bool.or_true]
 unfold raiseStmt
 refine wpAny_bind (wpAny_mono h (fun v s₁ h₁=>?_) fun _ _ x=>x)
 obtain ⟨e,a,dct,rfl,hC,he,hE⟩ := h₁
 obtain ⟨hp,g,d,tk,os⟩ := s₁
 repeat (first | with_reducible refine wpAny_loadPart_at he ?_ | with_reducible refine wpAny_loadPart_at hC ?_ | (with_reducible refine wpAny_isSubtype_exc hC ?_;rw [hcB]) | wp_step)
 exact wpAny_raiseNew_none hh hE
end
section
variable {prog : Program} {w : World} {A : Around} {E : Value→Shared→Prop} {h : Heap} {g : Array GenState} {d : Drawn} {t : Nat} {os : OsState}
variable {nm q : Str} {C N : Addr} {bs bm bmB : List Value} {hdct : Bool} {sn : List Str} {sub : List Value} {ab : Bool} {col : Option Bool} {dd : Option Addr} {k0 k1 k2 k3 k5 : Option Value} {newId nid : String}
theorem call_baseInit (T : OwnTail h [.type "ValueError",.type "Exception",.type "BaseException",.type "object"] bm) {e t0 : Addr} {x : Value} {dct : Option Addr} {Q : Value→Shared→Prop}
   (hC : h.get? C = some (excClassObj nm q C N bs bm hdct sn sub ab col dd k0 k1 k2 k3 k5 newId)) (he : h.get? e = some { cls := .ref C,dict := dct,data := .fields #[.ref t0,.none,.none,.none,.bool false,.none] })
   (hq : ∀ h',h'.get? e = some { cls := .ref C,dict := dct,data := .fields #[.ref h.objs.size,.none,.none,.none,.bool false,.none] }→(∀ b o,b≠e→h.get? b = some o→h'.get? b = some o)→h.objs.size≤h'.objs.size→Q .none ⟨h',g,d,t,os⟩) :
   wpAny (model prog w) A (call (.builtin "ValueError.__init__") [.ref e,x]) Q E ⟨h,g,d,t,os⟩ := by
 have F := PySem.F.excBase_ValueError
 refine wpAny_call (codeAny_call_builtin F.init.plain F.initEntry (wpAny_check_init_subU F T hC he rfl ?_))
 have he2 := Heap.get?_push_of_some { cls := .type "tuple",data := .seq #[x] } he
 wp_walk
 refine hq _ ?_ ?_ ?_
 · rw [Heap.get?_update_self _ he2 rfl]
   rfl
 · intro b o hb hbo
   rw [Heap.get?_update_other _ _ (Ne.symm hb)]
   exact Heap.get?_push_of_some _ hbo
 · rw [Heap.size_after_update,Heap.size_push];exact Nat.le_succ _
end
end L2
namespace L2
open PySem PySem.Spec PyProof.Rows PySem.W
open PySem.Builtin PySem.Builtin.ObjectAttr
noncomputable def veMro : List Value := [.type "ValueError",.type "Exception",.type "BaseException",.type "object"]
section
variable {prog : Program} {w : World} {A : Around} {E : Value→Shared→Prop} {s : Shared} {K : Frag} {x C a b : Addr} {cd : ClassData} {R : Result→Shared→Prop} {v : Value} {name : Str}
end
section
variable {prog : Program} {w : World} {A : Around} {E : Value→Shared→Prop} {h : Heap} {g : Array GenState} {d : Drawn} {t : Nat} {os : OsState} {x C : Addr} {v : Value} {name : Str} {oC : Obj} {cd : ClassData}
end
open PySem.Builtin PySem.Builtin.ObjectAttr
section
variable {prog : Program} {w : World} {A : Around} {E : Value→Shared→Prop} {h : Heap} {g : Array GenState} {d : Drawn} {t : Nat} {os : OsState} {x C dx : Addr} {v : Value} {name : Str} {oC o : Obj} {cd : ClassData} {K : Frag} {mA : Str→Option Value}
end
open PySem.Builtin PySem.Builtin.ObjectAttr
section
variable {prog : Program} {w : World} {A : Around} {E : Value→Shared→Prop} {h : Heap} {g : Array GenState} {d : Drawn} {t : Nat} {os : OsState} {x C : Addr} {o : Obj} {K : Frag}
theorem xcls_get {R : Result→Shared→Prop} (hx : h.get? x = some o) (hc : o.cls = .ref C) (hs : Looks (model prog w) h (isSubtype (.ref C) (.type "object")) true) (hq : R (.ok (.ret (.ref C))) ⟨h,g,d,t,os⟩) :
   codeAny (model prog w) A (.call (.builtin "getset_descriptor.__get__") ⟨[.builtin "object.__class__",.ref x,.ref C],[]⟩) R ⟨h,g,d,t,os⟩ := by
 have hT5 : (⟨h,g,d,t,os⟩ : Shared).TypeIs (.builtin "object.__class__") "getset_descriptor" := PySem.F.typeOf_object_class
 have f8 : Looks (model prog w) h (isSubtype (.ref C) (.type (".".intercalate ("object.__class__".cutAt '.').dropLast))) true := by rw [PySem.F.owner_object_class];exact hs
 refine codeAny_call_builtin PySem.F.slot_gs_get.plain PySem.F.entry_gs_get (PySem.F.slot_gs_get.check _ _ _ _ _ _ _ _ hT5 (PySem.F.args_gs_get _ _ _) ?_)
 repeat (any_goals (first | assumption | (with_reducible refine wpAny_loadPart_at hx ?_;rw [hc]) | with_reducible refine f8.at ?_ | wp_step))
 refine ⟨Code.quiet_builtin _ (by decide +kernel),codeAny_builtin PySem.F.entry_object_class ?_⟩
 repeat (any_goals (first | assumption | (with_reducible refine wpAny_loadPart_at hx ?_;rw [hc]) | wp_step))
theorem xcls_entry {tk : Tok} {Q : Fin→Shared→Prop} (X : K.In h) (hx : h.get? x = some o) (hc : o.cls = .ref C) (ha : findIn K (.ref C) "__class__" = some (some (.builtin "object.__class__"))) (hs : Looks (model prog w) h (isSubtype (.ref C) (.type "object")) true) (hq : Q (.done (.ret (.ref C))) ⟨h,g,d,t,os⟩) :
   wpAny (model prog w) A (Builtin.«object.__getattribute__» ⟨[.ref x,.str "__class__" tk],[]⟩) Q E ⟨h,g,d,t,os⟩ := by
 have hT5 : (⟨h,g,d,t,os⟩ : Shared).TypeIs (.builtin "object.__class__") "getset_descriptor" := PySem.F.typeOf_object_class
 have L1 := looks_findIn (M:=model prog w) X ha
 have f5 := PySem.F.typeOf_object_class
 have f6 := PySem.F.slot_gs_get.lookup
 have f7 := PySem.F.slot_gs_set.lookup
 repeat (any_goals (first | assumption | (with_reducible refine wpAny_loadPart_at hx ?_;rw [hc]) | with_reducible refine L1.at ?_ | wp_step))
 refine xcls_get hx hc hs ?_
 repeat (any_goals (first | assumption | wp_step))
theorem xcls_attr {Q : Option Value→Shared→Prop} (X : K.In h) (hx : h.get? x = some o) (hc : o.cls = .ref C) (ha : findIn K (.ref C) "__class__" = some (some (.builtin "object.__class__"))) (hs : Looks (model prog w) h (isSubtype (.ref C) (.type "object")) true)
   (hsub : Looks (model prog w) h (isInstance (.ref x) (.type "BaseException")) true) (hga : findIn K (.ref C) "__getattribute__" = some (some (.builtin "BaseException.__getattribute__"))) (hgh : findIn K (.ref C) "__getattr__" = some none) (hq : Q (some (.ref C)) ⟨h,g,d,t + 1,os⟩) :
   wpAny (model prog w) A (getAttr? (.ref x) "__class__") Q E ⟨h,g,d,t,os⟩ := by
 have L1 := looks_findIn (M:=model prog w) X hga
 have L2 := looks_findIn (M:=model prog w) X hgh
 have f3 := PySem.F.excAttr_ValueError.ga.bind (.ref x)
 have hx2 : (Value.builtin "BaseException.__getattribute__" == Value.builtin "object.__getattribute__") = false := by decide +kernel
 have hx1 : (onTheHeap (Value.ref C) && Value.builtin "BaseException.__getattribute__" == Value.builtin "object.__getattribute__") = false := by rw [hx2];rfl
 have hk : builtinKind "BaseException.__getattribute__" = some .slot := by decide +kernel
 have hsplit : splitId "BaseException.__getattribute__" = some ("BaseException", "__getattribute__") := by decide +kernel
 unfold getAttr? getAttrBy?
 repeat (any_goals (first | assumption | (with_reducible refine wpAny_loadPart_at hx ?_;rw [hc]) | with_reducible refine L1.at ?_ | with_reducible refine L2.at ?_ | wp_step))
 refine codeAny_call_builtin PySem.F.excAttr_ValueError.ga.plain PySem.F.entry_bexc_ga (@check_slot (model prog w) _ _ ⟨h,g,d,t + 1,os⟩ "BaseException.__getattribute__" "BaseException" "__getattribute__" (.ref x) [.str "__class__" t] [] _ hk hsplit hsub (PySem.F.args_bexc_ga (.ref x) (.str "__class__" t)) ?_)
 refine xcls_entry X hx hc ha hs ?_
 repeat (any_goals (first | assumption | wp_step))
structure XCls (K : Frag) (C : Addr) : Prop where
 cd : ∃ cd,clsIn K C = some cd∧cd.hasDict = true∧∃ a b,cd.mro = .ref a :: .ref b :: veMro
 cl : findIn K (.ref C) "__class__" = some (some (.builtin "object.__class__"))
 ga : findIn K (.ref C) "__getattribute__" = some (some (.builtin "BaseException.__getattribute__"))
 gh : findIn K (.ref C) "__getattr__" = some none
 sa : findIn K (.ref C) "__setattr__" = some (some (.builtin "object.__setattr__"))
theorem XCls.sub (c : XCls K C) (X : K.In h) (T : String) (hT : veMro.contains (.type T) = true) {M : Model} : Looks M h (isSubtype (.ref C) (.type T)) true := by
 obtain ⟨cd,hc,_,a,b,hm⟩ := c.cd
 have hT2 : Value.type T∈veMro := by simpa using hT
 exact looks_mroIn X (by unfold mroIn;rw [hc,Option.bind_some,hm];simp [hT2])
theorem XCls.ld (c : XCls K C) (X : K.In h) : ∃ oC cd,h.get? C = some oC∧oC.data = .cls cd∧cd.hasDict = true := by
 obtain ⟨cd,hc,hd,_⟩ := c.cd
 unfold clsIn at hc
 split at hc
 · rename_i c' d' cd' sl' ho
   cases hc
   exact ⟨_,_,X _ _ ho,rfl,hd⟩
 · cases hc
def XObj (x C : Addr) (h : Heap) : Prop := ∃ o,h.get? x = some o∧o.cls = .ref C
theorem kitx_exc (c : XCls K C) : KitX K (.ref x) (.ref C) (XObj x C) where
 ty := fun M h _ ⟨o,h1,h2⟩=>h2 ▸ (Looks.ld h1).andThen .now
 it := fun M h X _=>by
   obtain ⟨oC,cd,h1,h2,_⟩ := c.ld X
   intro A' Q' E' s' k q
   unfold isType loadHead
   refine wpAny_bind (wpAny_loadPart (k _ _ h1) ?_)
   rw [h2];exact wpAny_pure q
 ne := fun h tp dd its n sl X htp=>by
   obtain ⟨oC,cd,h1,h2,_⟩ := c.ld X
   refine Bool.eq_false_iff.mpr fun q=>?_
   have e : C = tp := Value.ref.inj (beq_iff_eq.mp q)
   subst e
   rw [h1] at htp
   cases htp
   cases h2
 ca := fun {prog w A E Q s} X p k=>by
   obtain ⟨o,h1,h2⟩ := p
   obtain ⟨h,g,d,t,os⟩ := s
   exact xcls_attr X h1 h2 c.cl (c.sub X "object" (by decide)) ((h2 ▸ (Looks.ld h1).andThen .now : Looks _ _ (typeOf (.ref x)) (.ref C)).andThen (c.sub X "BaseException" (by decide))) c.ga c.gh k
end
end L2
namespace L2
open PySem PySem.Spec PyProof.Rows
theorem hok_kpx {P : Program} {w : World} {l : List Env} {ch : List Addr} {H : Hp} {h h' : Heap} (ok : HOk P w H h) (k : KpX l ch h h') (hc : ∀ b∈ch,H b = none) (hf : ∀ b∈frs l,H b = none) : HOk P w H h' := fun a o e=>by
 have key : ∀ b u,H b≠none→h.get? b = some u→h'.get? b = some u := fun b u n q=>(k b u q fun z=>n (hc b z)).1 fun z=>n (hf b z)
 exact (ok a o e).stay (fun b u z q=>key b u (by rcases z with z | z <;> simp_all) q) (fun _ q=>q) fun _ _ q=>q
theorem un_kpx {l : List Env} {ch : List Addr} {H : Hp} {h h' : Heap} (k : KpX l ch h h') (hc : ∀ b∈ch,H b = none) : Un (frs l) ch H H h h' where
 keep := fun b o q n hf hx=>(k b o q hx).1 hf
 slot := fun b o q n hf hx=>(k b o q hx).2
 free := fun b o q n hx=>n
 there := fun b o q hx=>by obtain ⟨sl,z⟩ := (k b o q hx).2;exact ⟨_,z⟩
 tups := fun b xs q=>q
 frzs := fun b o u q=>q
 tbls := fun b ps q=>⟨#[],by simpa using q⟩
def CXv (P : Program) (w : World) (base : Heap) : CXT := fun outer H s E ev s'=>∃ e C dct T H',ev = .ref e∧s'.os = s.os∧AllBare s'.gens∧Un (frs outer) [] H H' s.heap s'.heap∧HOk P w H' s'.heap ∧
 s.heap.objs.size≤e∧s.heap.objs.size≤T∧H' e = none∧H' T = none∧TrX s'.heap base e T (.ref C) dct .none∧E (.ref C) dct H'
theorem Inv.noBase {X : Cx} {pins : List (Addr×Obj)} {σ : St} {H : Hp} {s : Shared} (I : Inv X pins σ H s) {e : Addr} (h : X.s₀.heap.objs.size≤e) : X.base.get? e = none := by
 cases q : X.base.get? e with
 | none=>rfl
 | some o=>exact absurd (Heap.lt_size (I.ok.bs e o q).1) (Nat.not_lt.mpr h)
theorem leave_fn {P : Program} {w : World} {K : PySem.W.Frag} {mg : Str→Option Value} {base : Heap} {N : List Str} {qual : Str} {scope : Scope} {f : Addr} {cd : Value} {A : Around} {outer : List Env} {s : Shared} {H : Hp} {E : XK} {pins : List (Addr×Obj)} {σ : St} {H' : Hp} {s' : Shared} {e C : Addr} {dct : Option Addr}
   (I : Inv (cxOf (CXv P w base) P w K mg base N qual scope f cd A outer s H E) pins σ H' s') (x : XSt (cxOf (CXv P w base) P w K mg base N qual scope f cd A outer s H E) pins H' s'.heap e C dct) (q : E (.ref C) dct H') :
   (cxOf (CXv P w base) P w K mg base N qual scope f cd A outer s H E).xe (.ref e) s' := by
 have hfr : (A.deeper (envOfC qual scope s.heap.objs.size f cd)).frames = some (envOfC qual scope s.heap.objs.size f cd :: outer) := I.ok.frames
 have hl : s'.heap.FunFrames base (envOfC qual scope s.heap.objs.size f cd :: outer) := I.stack
 have hkb : base.StaysIn s'.heap := I.bk
 have lo : s.heap.objs.size≤e := x.lo
 have hen : base.get? e = none := I.noBase x.lo
 have bs : Un (frs outer) [] H H' s.heap s'.heap := I.base
 have hfree : ∀ b∈frs (envOfC qual scope s.heap.objs.size f cd :: outer),H' b = none := I.stkFree
 have fin : ∀ (h' : Heap) (T' : Addr) (ch : List Addr),(∀ b∈ch,H' b = none∧s.heap.objs.size≤b)→s.heap.objs.size≤T'→H' T' = none→TrX h' base e T' (.ref C) dct .none→KpX (envOfC qual scope s.heap.objs.size f cd :: outer) ch s'.heap h' →
     CXv P w base outer H s E (.ref e) { s' with heap := h' } := fun h' T' ch hch hT hTn ht kp=>by
   have ncb : ∀ {b : Addr} {o : Obj},s.heap.get? b = some o→b∉ch := fun {b o} q z=>absurd (Heap.lt_size q) (Nat.not_lt.mpr (hch b z).2)
   have nfr : ∀ {b : Addr} {o : Obj},s.heap.get? b = some o→b∉frs outer→b∉frs (envOfC qual scope s.heap.objs.size f cd :: outer) := fun {b o} q n z=>by
     rcases List.mem_cons.mp (I.stkSub b z) with e1 | e1
     · have : b = s.heap.objs.size := e1
       exact absurd (Heap.lt_size q) (by rw [this];exact Nat.lt_irrefl _)
     · exact n e1
   refine ⟨e,C,dct,T',H',rfl,I.os,I.bare,⟨?_,?_,?_,?_,bs.tups,bs.frzs,bs.tbls⟩,hok_kpx I.hok kp (fun b z=>(hch b z).1) hfree,lo,hT,x.un,hTn,ht,q⟩
   · exact fun b o q n hf hx=>(kp b o (bs.keep b o q n hf hx) (ncb q)).1 (nfr q hf)
   · intro b o q n hf hx
     obtain ⟨sl,z⟩ := bs.slot b o q n hf hx
     obtain ⟨sl',z'⟩ := (kp b _ z (ncb q)).2
     exact ⟨sl',z'⟩
   · exact fun b o q n hx=>bs.free b o q n hx
   · intro b o q hx
     obtain ⟨o',z⟩ := bs.there b o q hx
     obtain ⟨sl,z'⟩ := (kp b o' z (ncb q)).2
     exact ⟨_,z'⟩
 have sz : s.heap.objs.size≤s'.heap.objs.size := I.sz
 rcases x.ob with ⟨o,vs,he,hc,hd,hda,h1⟩ | ⟨T,hT,hTn,_,ht⟩
 · refine leaveX_first hfr hl rfl he hkb hen hda h1 fun h' T' z0 z1 z2 z3 z4=>?_
   rw [hc,hd] at z3
   exact fin h' T' [e] (fun b hb=>by rw [List.mem_singleton.mp hb];exact ⟨x.un,lo⟩) (Nat.le_trans sz z0) (I.hok.fresh z0) z3 z4
 · refine leaveX hfr hl rfl ht hkb hen fun h' T' z0 z1 z2 z3 z4=>?_
   refine fin h' T' [e,T] (fun b hb=>?_) (Nat.le_trans sz z0) (I.hok.fresh z0) z3 z4
   rcases List.mem_cons.mp hb with e1 | e1
   · rw [e1];exact ⟨x.un,lo⟩
   · rw [List.mem_singleton.mp e1];exact ⟨hTn,hT⟩
def OutOk (K : PySem.W.Frag) (fr : Bool) (R : AS) (H : Hp) (Q : VK) (E : XK) : Rs→Prop
 | .ok d=>∀ v H',Same H H'→Rp K (av H' R) d v→(fr = true→NwT K ⟨H,R,true⟩ H' d v)→Q v H'
 | .exc c fs=>∀ C dct H',Same H H'→clsAt K c C→XFs K (av H' R) dct fs→E (.ref C) dct H'
 | .no=>False
def spX (K : PySem.W.Frag) (fr : Bool) (p : Nat) (F : List Dat→Rs) : Sp := fun vs H Q E=>vs.length = p∧∃ ds R,MuOk R H∧Rps K (av H R) ds vs∧OutOk K fr R H Q E (F ds)
structure CalX (P : Program) (w : World) (K : PySem.W.Frag) (mg : Str→Option Value) (base : Heap) (k : Nat) (x : Str) (ps : List Str) (fr : Bool) (F : List Dat→Rs) : Prop where
 ex : ∃ f fd,FnOk P w K mg base (CXv P w base) k f fd ps (spX K fr ps.length F)∧mg x = some (.ref f)∧PySem.W.keepIn K (.ref f) = true∧Binds K fd ps []
 len : ∀ ds,F ds≠.no→ds.length = ps.length
section
variable {P : Program} {w : World} {K : PySem.W.Frag} {mg : Str→Option Value} {base : Heap}
theorem Fun.okX {x qual : Str} {st : Stmt} {f : Addr} {fd : FuncData} {N ps : List Str} {k : Nat} {sp : Sp} {CX : CXT} (F : Fun K x qual st f fd) (S : FnScope N ps (defScope st)) (len : ∀ vs H Q E,sp vs H Q E→vs.length = ps.length)
   (hbody : ∀ (cdv : Value) (A : Around) (outer : List Env) (s : Shared) (H : Hp) (vs : List V) (Q : VK) (E : XK),Room k (A.deeper (envOfC qual (defScope st) s.heap.objs.size f cdv))→sp vs H Q E →
     ∃ t,PSs (cxOf CX P w K mg base N qual (defScope st) f cdv A outer s H E) (defBody st) t∧t { nx := fun _ H'=>Q .non H',rt := Q } (start N vs) H) : FnOk P w K mg base CX (k + 1) f fd ps sp := by
 obtain ⟨oc,od,kV,doc,pm,an,cdv,ct,osl,rfl,lk,hcd⟩ := F.ex
 exact fn_of lk hcd S len fun A outer s H vs Q E hr hsp=>hbody cdv A outer s H vs Q E hr hsp
theorem runD_lenX {n p : Nat} {g : Ev→Fl} {ds : List Dat} (h : runD n p g ds≠.no) : ds.length = p := by
 unfold runD at h
 split at h
 · assumption
 · exact absurd rfl h
end
section
variable {X : Cx} {m fr fr' : Bool} {F : List Dat→Rs} {k : Nat} {x : Str} {ps : List Str} {e : Expr} {es : List Expr} {fs : Ev→Option (List Dat)} {p pos : Pos}
def tXx (X : Cx) (fr : Bool) (F : List Dat→Rs) (fs : Ev→Option (List Dat)) : TE := fun σ H Q=>∃ env B A ds,EnvOk X.K B A H σ env∧fs env = some ds∧match F ds with
 | .ok d=>∀ v H',Same H H'→Rp X.K (av H' A) d v→Q v H'
 | .exc c fl=>∀ A' H' σ',Step A H A' H'→EnvOk X.K B A' H' σ' env→σ' = σ→XW X A' H' σ' c fl
 | .no=>False
theorem xcalX (C : CalX X.prog X.w X.K X.mg X.base k x ps fr F) (hr : Room k X.A) (ha : PAd false X (e :: es) fs) (hg : Gl X x := by rfl)
   (hdb : (x == ("__debug__" : Str)) = false := by decide) (he : starEach (e :: es) X.env = (false,eval e X.env) :: starEach es X.env := by rfl) (hpl : (backTo pos (starEach es X.env)).any (·.1) = false := by rfl) :
   PE X (.Call (.Name x p) (e :: es) [] pos) (tXx X fr F fs) := by
 obtain ⟨f,fd,Ff,hm,hk,hb⟩ := C.ex
 intro pins s σ H Q I ⟨env,B,A,ds,kk,e1,q⟩
 refine wpAny_Call_Name_kw (ld_glob I hg hm ?_ hdb)
 refine PySem.W.callWith_K (h₀:=X.base) I.ok.mod.kin hk (thn (ha pos pins s σ H (fun vs H1=>Same H H1∧Rps X.K (av H1 A) ds vs) I ⟨env,B,A,ds,kk,e1,fun vs H1 s1 rs=>⟨s1,rs.rps⟩⟩) fun us s1 ⟨vs,H1,I1,r,sm,rs⟩=>⟨I1.kIn,?_⟩) he hpl
 have hne : F ds≠.no := fun z=>by rw [z] at q;exact q
 have hl : us.length = ps.length := by rw [← r.length,rps_len rs];exact C.len ds hne
 let E : XK := fun cls dct H'=>∃ c fl C,F ds = .exc c fl∧cls = .ref C∧clsAt X.K c C∧Same H1 H'∧XFs X.K (av H' A) dct fl
 refine wpAny_call (codeAny_mono (Ff.run X.A X.stack s1 H1 ⟨us,[]⟩ us vs Q E hr I1.env0 (by simpa using hb s1 us I1.kIn (by simpa using hl)) r ⟨by rw [rps_len rs];exact C.len ds hne,ds,A,kk.mu.mono sm,rs,?_⟩) fun rr s' hq=>?_)
 · unfold OutOk
   split
   · rename_i d hd
     rw [hd] at q
     exact fun v H' s2 r2 _=>q v H' (sm.trans s2) r2
   · rename_i c fl hd
     exact fun C dct H' s2 hc hf=>⟨c,fl,C,hd,rfl,hc,s2,hf⟩
   · rename_i hd
     exact hne hd
 · cases rr with
   | error ev =>
     obtain ⟨ex,C,dct,T,H',rfl,ho,hbr,un,hok,h1,h2,h3,h4,ht,c,fl,C',hF,eC,hc,sm2,hf⟩ := hq
     cases eC
     rw [hF] at q
     have I2 : Inv X pins σ H' s' := I1.call' (ch:=[]) ho un hok hbr (fun b z=>absurd z (by simp))
     have sz : X.s₀.heap.objs.size≤s1.heap.objs.size := I1.sz
     have np : ∀ {a : Addr},s1.heap.objs.size≤a→∀ p∈X.pn ++ pins,p.1≠a := fun {a} ha p hp z=>by
       have := (I1.pin p hp).1
       rw [z] at this
       exact absurd (Heap.lt_size this) (Nat.not_lt.mpr ha)
     exact q A H' σ (Step.same (sm.trans sm2)) (kk.mono (sm.trans sm2)) rfl pins s' ex C dct I2 hc ⟨Nat.le_trans sz h1,h3,.inr ⟨T,Nat.le_trans sz h2,h4,np h2,ht⟩,np h1⟩ hf
   | ok fl =>
     cases fl with
     | ret u=>exact I1.after hq
     | next=>exact False.elim hq
     | brk=>exact False.elim hq
     | cont=>exact False.elim hq
end
section
variable {X : Cx}
end
end L2
namespace L2
open PySem PySem.Spec PyProof.Rows PySem.W
theorem ns_some_of {K : Frag} {h : Heap} {N : Addr} {mg : Str→Option Value} {n : Str} {v : Value} (X : K.In h) (G : h.Ns N mg) (e : nsIn K N n = some (some v)) : mg n = some v := by
 obtain ⟨o,es,ep,ho,hd,_,hf⟩ := G
 unfold nsIn at e
 split at e
 · rename_i c d es' n' sl q
   have := X _ _ q
   rw [ho] at this
   cases this
   cases hd
   split at e
   · rename_i en he
     cases e
     rw [← hf]
     unfold nsFind findBy
     rw [← Array.find?_toList,he]
     rfl
   · split at e <;> cases e
 · cases e
noncomputable def xcIn (K : Frag) (C fI D : Addr) : Bool := match K.lookup C with
 | some ⟨.type "type",_,.cls cd,sl⟩=>(match cd.mro,sl.toList with
   | .ref C' :: bm,[_,_,_,_,some (.builtin n),_]=>C' == C && n == "ValueError.__new__" && !cd.hasDel && cd.hasDict && bm == .ref D :: veMro && tailIn K veMro bm && nsOkIn K cd.ns && nsIn K cd.ns "__init__" == some (some (.ref fI))
   | _,_=>false)
 | _=>false
theorem xc_of {K : Frag} {h : Heap} {C fI D : Addr} (X : K.In h) (q : xcIn K C fI D = true) : ∃ nm qn N bs sn sub ab col dd k0 k1 k2 k3 k5 mN,
   h.get? C = some (excClassObj nm qn C N bs (.ref D :: veMro) true sn sub ab col dd k0 k1 k2 k3 k5 "ValueError.__new__")∧h.Ns N mN∧mN "__init__" = some (.ref fI)∧OwnTail h veMro (.ref D :: veMro) := by
 unfold xcIn at q
 split at q
 · rename_i dd cd sl ho
   split at q
   · rename_i C' bm k0 k1 k2 k3 n k5 hm hs
     simp only [Bool.and_eq_true,beq_iff_eq,Bool.not_eq_true'] at q
     obtain ⟨⟨⟨⟨⟨⟨⟨rfl,rfl⟩,hdel⟩,hdi⟩,rfl⟩,ht⟩,hok⟩,hni⟩ := q
     obtain ⟨nm,bs,mro,ns,qn,hd,sn,sub,ab,col,del⟩ := cd
     dsimp only at hm hdel hok hni hdi
     subst hm hdel hdi
     have hsl : sl = #[k0,k1,k2,k3,some (.builtin "ValueError.__new__"),k5] := by
       obtain ⟨l⟩ := sl
       simp only at hs
       rw [hs]
     subst hsl
     have G : h.Ns ns (h.nsMap ns) := .of_isNs (isNs_of_in X hok)
     exact ⟨nm,qn,ns,bs,sn,sub,ab,col,dd,k0,k1,k2,k3,k5,_,X _ _ ho,G,ns_some_of X G hni,tail_of_in X ht⟩
   · cases q
 · cases q
def XNw (e C : Addr) (dct : Option Addr) (h : Heap) : Prop := ∃ t : Addr,h.get? e = some { cls := .ref C,dict := dct,data := .fields #[.ref t,.none,.none,.none,.bool false,.none] }
theorem upd_id {H : Hp} {a : Addr} {o : HO} (h : H a = some o) : upd H a o = H := by
 funext b;unfold upd;split
 · rename_i e;rw [e,h]
 · rfl
theorem xnw_ok {P : Program} {w : World} {H : Hp} {h : Heap} {e C : Addr} {dct : Option Addr} (x : XNw e C dct h) : ObjOk P w H h e (.ext (XNw e C dct)) := by
 obtain ⟨t,ht⟩ := x
 exact ⟨⟨t,ht⟩,⟨_,ht⟩,fun h1 h2 ⟨t,q⟩ k=>⟨t,k _ q⟩⟩
structure BaseC (K : Frag) (mg : Str→Option Value) (D : Addr) : Prop where
 mg : mg "CalmError" = some (.ref D)
 ga : specialIn K (.ref D) "__getattribute__" = some (some (.builtin "type.__getattribute__"))
 rd : readsIn K D (.type "type") = true
 fi : findCls K (.ref D) (.type "type") "__init__" = some (.val (.builtin "ValueError.__init__"))
section
variable {X : Cx} {e : Expr} {es : List Expr} {t : TA} {p apos pos pos' : Pos} {D : Addr}
def tBase (K : Frag) (t : TA) : TE := fun σ H Q=>t σ H fun vs H1=>∃ e C dct v fI D,vs = [.ref e,v]∧H1 e = some (.ext (XNw e C dct))∧xcIn K C fI D = true∧Q .non H1
theorem pe_base {pl : Sem Bool} (B : BaseC X.K X.mg D) (ha : PA X (e :: es) t) (hg : Gl X "CalmError" := by rfl) (he : starEach (e :: es) X.env = (false,eval e X.env) :: starEach es X.env := by rfl) (hpl : (backTo pos (starEach es X.env)).any (·.1) = false := by rfl)
   (ht : eval (.Call (.Attribute (.Name "CalmError" p) "__init__" apos) (e :: es) [] pos) X.env = (do
     let ov ← eval (.Name "CalmError" p) X.env
     standAt apos.atName
     let (f,first) ← holding [ov] (getMethod ov "__init__" pl)
     callWith pos f first (backTo pos (starEach (e :: es) X.env)) (backToKw pos (keywordEach [] X.env))) := by rfl) :
   PE X (.Call (.Attribute (.Name "CalmError" p) "__init__" apos) (e :: es) [] pos) (tBase X.K t) := by
 intro pins s σ H Q I h
 refine methodCall_KW (pl:=pl) (ld_glob I hg B.mg ?_ (by decide)) ht
 refine method_cls I.kIn B.ga (cls_value I.kIn B.rd B.fi rfl ?_)
 refine PyProof.Rows.callWith_builtin1 (thn (ha pos pins _ σ H _ (I.tok _) h) fun us s1 ⟨vs,H1,I1,r,ex,C,dct,v,fI,D',ev,hx,hc,q⟩=>?_) he hpl
 subst ev
 obtain ⟨u,w',rfl,r1,r2⟩ := vals2 r
 cases r1
 obtain ⟨nm,qn,N,bs,sn,sub,ab,col,dd,k0,k1,k2,k3,k5,mN,hC,hN,hi,T⟩ := xc_of I1.kIn hc
 obtain ⟨⟨t0,ht0⟩,_,_⟩ := (show ObjOk X.prog X.w H1 s1.heap ex (.ext (XNw ex C dct)) from I1.hok ex _ hx)
 obtain ⟨hh,g,d,tk,os⟩ := s1
 refine call_baseInit T hC ht0 fun h' he' hk hsz=>⟨.non,H1,?_,rfl,q⟩
 have := I1.write (h' := h') (x:=ex) (e:=ex) (o:=.ext (XNw ex C dct)) (t' := tk) (by rw [hx];trivial) (.inl rfl) (fun b u hb q=>hk b u hb q) ⟨_,he'⟩ (xnw_ok ⟨_,he'⟩)
 rw [upd_id hx] at this
 exact this
end
def spG (K : Frag) (C : Addr) (p : Nat) (G : List Dat→Option (List (Str×XD))) : Sp := fun vs H Q _=>∃ e ws ds R fl,vs = .ref e :: ws∧ws.length = p∧H e = some (.ext (XNw e C none))∧MuOk R H∧R e = false∧Rps K (av H R) ds ws∧G ds = some fl ∧
 ∀ H' dct,(∀ c o,c≠e→H c = some o→H' c = some o)→H' e = some (.ext (XNw e C dct))→XFs K (av H' R) dct fl→Q .non H'
structure XMake (P : Program) (w : World) (K : Frag) (mg : Str→Option Value) (base : Heap) (k : Nat) (c : Str) (p : Nat) (G : List Dat→Option (List (Str×XD))) : Prop where
 ex : ∃ C fI D fd ps,clsAt K c C∧mg c = some (.ref C)∧keepIn K (.ref C) = true∧xcIn K C fI D = true∧XCls K C∧isFn K (.ref fI) = true∧FnOk P w K mg base CX0 k fI fd ps (spG K C p G)∧Binds K fd ps []
 len : ∀ ds fl,G ds = some fl→ds.length = p
 few : p≤10
theorem XFs.of_ne {K : Frag} {H H' : Hp} {e : Addr} {dct : Option Addr} {fs : List (Str×XD)} {g : Heap→Prop} (he : H e = some (.ext g)) (k : ∀ c o,c≠e→H c = some o→H' c = some o) (h : XFs K H dct fs) : XFs K H' dct fs := by
 have ne : ∀ {c : Addr} {o : HO},H c = some o→(∀ g,o≠.ext g)→H' c = some o := fun {c o} q n=>k c o (fun z=>by rw [z,he] at q;exact n _ (Option.some.inj q).symm) q
 cases dct with
 | none=>exact h
 | some dx =>
   obtain ⟨fvs,e1,e2⟩ := h
   refine ⟨fvs,ne e1 (fun _ z=>by cases z),fun f=>(e2 f).imp id fun ⟨d,v,a,b,c⟩=>⟨d,v,a,b,?_⟩⟩
   cases d with
   | int i=>exact c
   | nums is =>
     obtain ⟨a,z1,z2,z3⟩ := c
     refine ⟨a,z1,?_,z3⟩
     rcases z2 with (z | ⟨o,z⟩) | z
     · exact .inl (.inl (ne z (fun _ w=>by cases w)))
     · exact .inl (.inr ⟨o,ne z (fun _ w=>by cases w)⟩)
     · exact .inr z
noncomputable def drp (H : Hp) (a : Addr) : Hp := fun b=>if b = a then none else H b
theorem drp_ne {H : Hp} {a b : Addr} (h : b≠a) : drp H a b = H b := by unfold drp;rw [if_neg h]
theorem drp_self {H : Hp} {a : Addr} : drp H a a = none := by unfold drp;rw [if_pos rfl]
theorem drp_none {H : Hp} {a b : Addr} (h : H b = none) : drp H a b = none := by unfold drp;split <;> first | rfl | exact h
theorem Inv.drop {X : Cx} {pins : List (Addr×Obj)} {σ : St} {H : Hp} {s : Shared} {a : Addr} {g : Heap→Prop} (I : Inv X pins σ H s) (ha : H a = some (.ext g)) : Inv X pins σ (drp H a) s := by
 have ne : ∀ {b : Addr} {o : HO},H b = some o→(∀ g,o≠.ext g)→drp H a b = some o := fun {b o} q n=>by rw [drp_ne (fun z=>by rw [z,ha] at q;exact n _ (Option.some.inj q).symm)];exact q
 refine ⟨I.ok,I.os,I.bare,⟨I.base.keep,I.base.slot,fun b o q n hx=>drp_none (I.base.free b o q n hx),I.base.there,fun b xs q=>ne (I.base.tups b xs q) (fun _ z=>by cases z),fun b o u q=>ne (I.base.frzs b o u q) (fun _ z=>by cases z),fun b ps q=>?_⟩,I.loc,I.cell,drp_none I.free,fun x c e=>drp_none (I.freeC x c e),fun p hp=>?_,fun b o q=>?_,I.len⟩
 · obtain ⟨more,z⟩ := I.base.tbls b ps q
   exact ⟨more,ne z (fun _ z=>by cases z)⟩
 · obtain ⟨h1,h2,h3⟩ := I.pin p hp
   exact ⟨h1,drp_none h2,h3⟩
 · have hb : b≠a := fun z=>by rw [z,drp_self] at q;cases q
   rw [drp_ne hb] at q
   exact (I.hok b o q).stay (fun _ _ _ w=>w) (fun c w=>ne w (fun _ z=>by cases z)) fun c xs w=>ne w (fun _ z=>by cases z)
theorem same_upd {H : Hp} {a : Addr} {o : HO} (h : H a = none) : Same H (upd H a o) := fun b u e=>by rw [upd_ne (fun z=>by rw [z,h] at e;cases e)];exact e
section
variable {X : Cx} {fr : Bool} {e : Expr} {es : List Expr} {fs : Ev→Option (List Dat)} {p pos cpos : Pos} {k n : Nat} {c : Str} {G : List Dat→Option (List (Str×XD))}
noncomputable def sRaise (c : Str) (G : List Dat→Option (List (Str×XD))) (fs : Ev→Option (List Dat)) : Ev→Fl := fun env=>match (fs env).bind G with
 | none=>.no
 | some fl=>.exc env c fl
theorem run_raise {pins : List (Addr×Obj)} {σ : St} {H : Hp} {s : Shared} {us : List Value} {vs : List V} {ds : List Dat} {fl : List (Str×XD)} {env : Ev} {B : Bs} {A : AS} (M : XMake X.prog X.w X.K X.mg X.base k c n G) (hr : Room (k + 1) X.A)
   (I : Inv X pins σ H s) (kk : EnvOk X.K B A H σ env) (r : Vals vs us) (rs : Rps X.K (av H A) ds vs) (hG : G ds = some fl) {C fI D : Addr} (hcl : clsAt X.K c C) (hx : xcIn X.K C fI D = true) {fd : FuncData} {ps : List Str} (hfn : isFn X.K (.ref fI) = true) (F : FnOk X.prog X.w X.K X.mg X.base CX0 k fI fd ps (spG X.K C n G)) (hb : Binds X.K fd ps [])
   (q : ∀ H' σ',σ' = σ→Same H H'→EnvOk X.K B A H' σ env→XW X A H' σ c fl) :
   wpAny (model X.prog X.w) X.A (call (.ref C) us) (fun v s'=>∃ ex t dct,v = .ref ex∧(∃ o,s'.heap.get? C = some o)∧s'.heap.get? ex = some { cls := .ref C,dict := dct,data := .fields #[.ref t,.none,.none,.none,.bool false,.none] }∧X.K.In s'.heap∧X.xe (.ref ex) s') X.xe s := by
 obtain ⟨nm,qn,N,bs,sn,sub,ab,col,dd,k0,k1,k2,k3,k5,mN,hC,hN,hi,T⟩ := xc_of I.kIn hx
 have hfI : ∃ oI,s.heap.get? fI = some oI∧oI.cls = .type "function" := by
   have := beq_iff_eq.mp hfn
   obtain ⟨oI,h1,h2⟩ := Option.map_eq_some_iff.mp this
   exact ⟨oI,I.kIn _ _ h1,h2⟩
 obtain ⟨oI,hfI,hfc⟩ := hfI
 have hlen : us.length≤sizeLine := by
   have h1 := r.length
   have h2 := rps_len rs
   have h3 := M.len ds fl hG
   have h4 := M.few
   exact Nat.le_of_lt (small1000 (by lia))
 obtain ⟨hh,g,d,tk,os⟩ := s
 refine call_initU (hrest:=hlen) PySem.F.excBase_ValueError (by decide) PySem.F.excBase_ValueError T hC hN hi hfI hfc fun h' ex hlo hm=>?_
 obtain ⟨t0,ht0,_,_⟩ := hm.there
 have hfr : H ex = none := I.hok.fresh hlo
 have I2 : Inv X pins σ (upd H ex (.ext (XNw ex C none))) ⟨h',g,d,tk,os⟩ := I.laid (h' := h') (t' := tk) (a:=ex) (o:=.ext (XNw ex C none)) hm.keeps hlo (xnw_ok ⟨t0,ht0⟩)
 have aex : A ex = false := by
   cases z : A ex with
   | false=>rfl
   | true=>obtain ⟨o,ho⟩ := (kk.mu ex z).some;rw [hfr] at ho;cases ho
 have sm1 : Same H (upd H ex (.ext (XNw ex C none))) := same_upd hfr
 let Q' : VK := fun v H'=>v = .non∧∃ dct,(∀ c o,c≠ex→upd H ex (.ext (XNw ex C none)) c = some o→H' c = some o)∧H' ex = some (.ext (XNw ex C dct))∧XFs X.K (av H' A) dct fl
 have hsp : spG X.K C n G (.ref ex :: vs) (upd H ex (.ext (XNw ex C none))) Q' E0 := ⟨ex,vs,ds,A,fl,rfl,by rw [rps_len rs];exact M.len ds fl hG,upd_same,kk.mu.mono sm1,aex,rs.mono (av_mono sm1),hG,fun H' dct h1 h2 h3=>⟨rfl,dct,h1,h2,h3⟩⟩
 have hl2 : (Value.ref ex :: us).length = ps.length := by
   have e1 := F.len _ _ _ _ hsp
   have e2 := r.length
   rw [List.length_cons] at e1 ⊢
   lia
 refine wpAny_call (codeAny_mono (F.run _ X.stack ⟨h',g,d,tk,os⟩ _ ⟨Value.ref ex :: us,[]⟩ (Value.ref ex :: us) (V.ref ex :: vs) Q' E0 (hr.make C us []) (I2.env0.make C us []) (by simpa using hb _ (Value.ref ex :: us) I2.kIn (by simpa using hl2)) (.cons rfl r) hsp) fun rr s' hq=>?_)
 cases rr with
 | error e=>exact False.elim hq
 | ok fl' =>
   cases fl' with
   | ret u =>
     obtain ⟨v,H',I3,rv,ev,dct,h1,h2,h3⟩ := I2.after hq
     subst ev
     have eu : u = .none := rv
     subst eu
     refine ⟨rfl,?_⟩
     obtain ⟨⟨t1,ht1⟩,_,_⟩ := (show ObjOk X.prog X.w H' s'.heap ex (.ext (XNw ex C dct)) from I3.hok ex _ h2)
     have I4 := I3.drop h2
     have sm : Same H (drp H' ex) := fun b o q=>by
       have hb : b≠ex := fun z=>by rw [z,hfr] at q;cases q
       rw [drp_ne hb]
       exact h1 b o hb (by rw [upd_ne hb];exact q)
     have lo2 : X.s₀.heap.objs.size≤ex := Nat.le_trans I.sz hlo
     obtain ⟨nm',qn',N',bs',sn',sub',ab',col',dd',k0',k1',k2',k3',k5',mN',hC',_,_,_⟩ := xc_of I3.kIn hx
     refine ⟨ex,t1,dct,rfl,⟨_,hC'⟩,ht1,I3.kIn,?_⟩
     refine q (drp H' ex) σ rfl sm (kk.mono sm) pins s' ex C dct I4 hcl ⟨lo2,drp_self,.inl ⟨_,_,ht1,rfl,rfl,rfl,rfl⟩,fun p hp z=>?_⟩ ?_
     · have := (I.pin p hp).1
       rw [z] at this
       exact absurd (Heap.lt_size this) (Nat.not_lt.mpr hlo)
     · exact h3.of_ne (e:=ex) (av_at h2 aex) fun c o hc q=>av_at (by rw [drp_ne hc];exact (av_of q).2) (av_of q).1
   | next=>exact False.elim hq
   | brk=>exact False.elim hq
   | cont=>exact False.elim hq
end
section
variable {P : Program} {w : World} {K : Frag} {mg : Str→Option Value} {base : Heap}
end
section
variable {X : Cx} {pins : List (Addr×Obj)} {σ : St} {H : Hp} {s : Shared}
theorem goes_ok {M : Model} {A : Around} {E : Value→Shared→Prop} {i : Nat} {x : Str} {pos : Pos} {Q : Unit→Shared→Prop} (I : Inv X pins σ H s) (hN : X.N.Nodup) (hi : X.N[i]? = some x) (hk : X.env.kindOf x = some .local)
   (h : ∀ s',Inv X pins (σ.set i none) H s'→Q () s') : wpAny M A (do bindName X.env x .none;unbindBehindTheSuite X.env x pos) Q E s := by
 obtain ⟨m,hn,hl⟩ := id I.loc
 have hcls : (X.env.scope.kind == .class || (X.env.scope.kind == .module && X.env.locals != X.env.globals)) = false := by rw [I.ok.kind];rfl
 have cne := I.cne
 refine wpAny_nameGoes_keeps hk hn hcls fun h' v hn' hs=>?_
 obtain ⟨oL,_,_,hoL,_⟩ := id hn
 refine h _ ⟨I.ok,I.os,I.bare,⟨fun b o e n hb hx=>?_,fun b o e n hb hx=>?_,I.base.free,fun b o e hx=>?_,I.base.tups,I.base.frzs,I.base.tbls⟩,⟨_,hn',fun j y v' e1 e2 e3=>?_⟩,fun y c e=>?_,I.free,I.freeC,fun p hp=>?_,fun b ob e=>?_,by simpa using I.len⟩
 · exact (hs.2 b (Nat.ne_of_lt (Nat.lt_of_lt_of_le (Heap.lt_size e) I.ok.above))).trans (I.base.keep b o e n hb hx)
 · obtain ⟨sl,e1⟩ := I.base.slot b o e n hb hx
   exact ⟨sl,(hs.2 b (Nat.ne_of_lt (Nat.lt_of_lt_of_le (Heap.lt_size e) I.ok.above))).trans e1⟩
 · obtain ⟨o',e1⟩ := I.base.there b o e hx
   exact ⟨o',(hs.2 b (Nat.ne_of_lt (Nat.lt_of_lt_of_le (Heap.lt_size e) I.ok.above))).trans e1⟩
 · by_cases hj : j = i
   · subst hj
     rw [List.getElem?_set] at e2
     simp at e2
   · rw [List.getElem?_set_ne (Ne.symm hj)] at e2
     obtain ⟨u',r',q⟩ := hl j y v' e1 e2 e3
     refine ⟨u',r',?_⟩
     rcases q with ⟨k,e⟩ | ⟨k,c,e,z⟩
     · refine .inl ⟨k,?_⟩
       have : y≠x := fun e=>hj (nodup_ix hN e1 (e ▸ hi))
       simp [this,e]
     · exact .inr ⟨k,c,e,z.sameBut hs (cne y c e)⟩
 · obtain ⟨w',z⟩ := I.cell y c e
   exact ⟨w',z.sameBut hs (cne y c e)⟩
 · obtain ⟨e,n,ne,nf,d⟩ := I.pin p hp
   exact ⟨(hs.2 p.1 ne).trans e,n,ne,nf,d⟩
 · refine (I.hok b ob e).stay (fun c w' hc q=>(hs.2 c ?_).trans q) (fun _ q=>q) fun _ _ q=>q
   rintro rfl
   rcases hc with rfl | hc
   · rw [I.free] at e;cases e
   · rw [I.free] at hc;cases hc
theorem Inv.track {a : Addr} {o : HO} (I : Inv X pins σ H s) (ha : H a = none) (lo : X.s₀.heap.objs.size≤a) (hl : a≠X.env.locals) (hc : ∀ x c,X.env.cells.lookup x = some c→c≠a) (hp : ∀ p∈X.pn ++ pins,p.1≠a) (ok : ObjOk X.prog X.w (upd H a o) s.heap a o) : Inv X pins σ (upd H a o) s := by
 have sm : Same H (upd H a o) := same_upd ha
 refine ⟨I.ok,I.os,I.bare,⟨I.base.keep,I.base.slot,fun b ob q n hx=>?_,I.base.there,fun b xs q=>sm _ _ (I.base.tups b xs q),fun b o u q=>sm _ _ (I.base.frzs b o u q),fun b ps q=>?_⟩,I.loc,I.cell,?_,fun x c e=>?_,fun p h=>?_,fun b u q=>?_,I.len⟩
 · rw [upd_ne (fun z=>by rw [z] at q;exact absurd (Heap.lt_size q) (Nat.not_lt.mpr lo))]
   exact I.base.free b ob q n hx
 · obtain ⟨more,z⟩ := I.base.tbls b ps q
   exact ⟨more,sm _ _ z⟩
 · rw [upd_ne (Ne.symm hl)];exact I.free
 · rw [upd_ne (hc x c e)];exact I.freeC x c e
 · obtain ⟨h1,h2,h3⟩ := I.pin p h
   exact ⟨h1,by rw [upd_ne (hp p h)];exact h2,h3⟩
 · by_cases z : b = a
   · subst z;rw [upd_same] at q;cases q;exact ok
   · rw [upd_ne z] at q
     exact (I.hok b u q).stay (fun _ _ _ w=>w) (fun c w=>sm _ _ w) fun c xs w=>sm _ _ w
noncomputable abbrev Cx.inTry (X : Cx) (pn : List (Addr×Obj)) (E : Value→Shared→Prop) : Cx := { X with pn := pn,xe := E }
noncomputable abbrev Cx.inH (X : Cx) (pn : List (Addr×Obj)) (e : Addr) : Cx := { X with A := X.A.mark (some (.ref e)),calm := false,pn := pn,xe := fun _ _=>False }
theorem Inv.toTry {E : Value→Shared→Prop} (I : Inv X pins σ H s) : Inv (X.inTry (X.pn ++ pins) E) [] σ H s :=
 ⟨⟨I.ok.mod,I.ok.kind,I.ok.glob,I.ok.blt,I.ok.above,I.ok.inj,I.ok.has,I.ok.cab,I.ok.hd,I.ok.frames,I.ok.stk,I.ok.exf,I.ok.bs,I.ok.bsz,I.ok.noex,I.ok.exfs,I.ok.funs,I.ok.frf⟩,I.os,I.bare,I.base,I.loc,I.cell,I.free,I.freeC,fun p hp=>I.pin p (by simpa using hp),I.hok,I.len⟩
theorem Inv.ofTry {E : Value→Shared→Prop} {pins' : List (Addr×Obj)} (ok : X.Ok) (I : Inv (X.inTry (X.pn ++ pins) E) pins' σ H s) : Inv X pins σ H s :=
 ⟨ok,I.os,I.bare,I.base,I.loc,I.cell,I.free,I.freeC,fun p hp=>I.pin p (List.mem_append_left _ hp),I.hok,I.len⟩
theorem Inv.toH {e : Addr} (I : Inv X pins σ H s) : Inv (X.inH (X.pn ++ pins) e) [] σ H s :=
 ⟨⟨I.ok.mod,I.ok.kind,I.ok.glob,I.ok.blt,I.ok.above,I.ok.inj,I.ok.has,I.ok.cab,(fun z=>nomatch z),I.ok.frames,I.ok.stk,I.ok.exf,I.ok.bs,I.ok.bsz,I.ok.noex,I.ok.exfs,I.ok.funs,I.ok.frf⟩,I.os,I.bare,I.base,I.loc,I.cell,I.free,I.freeC,fun p hp=>I.pin p (by simpa using hp),I.hok,I.len⟩
theorem Inv.ofH {e : Addr} {pins' : List (Addr×Obj)} (ok : X.Ok) (I : Inv (X.inH (X.pn ++ pins) e) pins' σ H s) : Inv X pins σ H s :=
 ⟨ok,I.os,I.bare,I.base,I.loc,I.cell,I.free,I.freeC,fun p hp=>I.pin p (List.mem_append_left _ hp),I.hok,I.len⟩
end
theorem EnvOk.clr {K : Frag} {B : Bs} {A : AS} {H : Hp} {σ : St} {env : Ev} (k : EnvOk K B A H σ env) (i : Nat) : EnvOk K B A H (σ.set i none) (env.set i .un) := by
 obtain ⟨own,h1,h2,h4⟩ := k.sl
 refine ⟨k.h0,k.r0,k.ra,k.ar,k.mu,by rw [List.length_set,List.length_set];exact k.len,fun hst j d=>?_,own,h1,h2,fun j s e=>?_⟩
 · rw [List.getElem?_set]
   split
   · split <;> simp
   · exact k.np hst j d
 · rw [List.getElem?_set] at e
   split at e
   · rename_i hij
     split at e
     · rename_i hl
       cases e
       exact ⟨none,by rw [List.getElem?_set,if_pos hij,if_pos (by rw [k.len];exact hl)],trivial⟩
     · cases e
   · rename_i hij
     obtain ⟨x,e1,e2⟩ := h4 j s e
     exact ⟨x,by rw [List.getElem?_set,if_neg hij];exact e1,e2⟩
noncomputable def unFl (i : Nat) : Fl→Fl
 | .next e=>.next (e.set i .un)
 | .brk e=>.brk (e.set i .un)
 | .cont e=>.cont (e.set i .un)
 | .ret d=>.ret d
 | .exc _ _ _=>.no
 | .no=>.no
noncomputable def sTry (sub : Str→Bool) (i : Nat) (g h : Ev→Fl) : Ev→Fl := fun env=>match g env with
 | .exc env' c fl=>if sub c = true then unFl i (h (env'.set i (.fz (.exc c fl)))) else .no
 | r=>r
theorem kpx_land {l : List Env} {ch : List Addr} {T' : Addr} {h h' h2 : Heap} (k : KpX l ch h h') (hT : h.objs.size≤T') (y : ∀ b o,h'.get? b = some o→b∉[T']→h2.get? b = some o) : KpX l ch h h2 := fun b o hb hc=>by
 obtain ⟨k1,sl,k2⟩ := k b o hb hc
 have hbT : b∉[T'] := fun z=>by
   have e1 : b = T' := by simpa using z
   rw [e1] at hb
   exact absurd (Heap.lt_size hb) (Nat.not_lt.mpr hT)
 exact ⟨fun hl=>y b o (k1 hl) hbT,sl,y b _ k2 hbT⟩
section
variable {X : Cx} {fr : Bool} {g h : Ev→Fl} {body : List Stmt} {b₀ : Stmt} {suite : List Stmt} {T n : Str} {np hpos pos : Pos} {i : Nat} {sub : Str→Bool} {DT : Addr}
theorem s_tryAs (hb : ∀ pn E,PBd fr (X.inTry pn E) body g) (hh : ∀ pn e,PBd fr (X.inH pn e) (b₀ :: suite) h) (hN : X.N.Nodup) (hi : X.N[i]? = some n) (hx : Loc X.env.scope n) (hT : X.mg T = some (.ref DT))
   (hsub : ∀ c C,clsAt X.K c C→sub c = true→exmOne X.K (.ref C) (.ref DT) = some true) (hk : X.env.kindOf n = some .local := by rfl) (hg : Gl X T := by rfl) (hdb : (T == ("__debug__" : Str)) = false := by decide)
   (hstk : X.stack = X.env :: X.outer∧X.env.frame = some X.env.locals := by exact ⟨rfl,rfl⟩)
   (hf : X.fn n = true∨X.env.scope.names.lookup n = some .local := by first | exact .inl rfl | exact .inr rfl | assumption) :
   PSd fr X (.Try body [.ExceptHandler (some (.Name T np)) (some n) (b₀ :: suite) hpos] [] [] pos) (sTry sub i g h) := by
 intro pins s σ H D I ⟨env,B,A,kk,hst,q⟩
 let EX : Value→Shared→Prop := fun ev s₁=>wpAny (model X.prog X.w) X.A (noteFrame ev X.env) (fun _ s₂=>wpAny (model X.prog X.w) X.A (setFlight ev none) (fun _ s₃=>wpAny (model X.prog X.w) X.A (handleBy ev X.env [.ExceptHandler (some (.Name T np)) (some n) (b₀ :: suite) hpos]) (SP X pins D) X.xe s₃) X.xe s₂) X.xe s₁
 have flok : FlOk fr (X.inTry (X.pn ++ pins) EX) B A H D (g env) := by
   unfold sTry at q
   cases eg : g env with
   | next e'=>rw [eg] at q;exact q
   | brk e'=>rw [eg] at q;exact q
   | cont e'=>rw [eg] at q;exact q
   | ret d=>rw [eg] at q;exact q
   | no=>rw [eg] at q;exact q
   | exc env' c fl =>
     rw [eg] at q
     dsimp only at q
     split at q
     · rename_i hsc
       intro A1 H1 σ1 st1 k1 pins' s1 e C dct I1 hcl x hf1
       have J1 : Inv X pins σ1 H1 s1 := I1.ofTry I.ok
       have hfr : X.A.frames = some (X.env :: X.outer) := by rw [← hstk.1];exact J1.ok.frames
       have hl : s1.heap.FunFrames X.base (X.env :: X.outer) := by rw [← hstk.1];exact J1.stack
       have hkb : X.base.StaysIn s1.heap := J1.bk
       have hen : X.base.get? e = none := J1.noBase x.lo
       have hfree : ∀ b∈frs (X.env :: X.outer),H1 b = none := by rw [← hstk.1];exact J1.stkFree
       have hpn : ∀ {a : Addr},(∀ p∈(X.inTry (X.pn ++ pins) EX).pn ++ pins',p.1≠a)→∀ p∈X.pn ++ pins,p.1≠a := fun {a} z p hp=>z p (List.mem_append_left _ hp)
       have nloc : ∀ {s1 : Shared} (J1 : Inv X pins σ1 H1 s1) {a : Addr} {o : Obj} {vs : Array Value},s1.heap.get? a = some o→o.data = .fields vs→a≠X.env.locals∧∀ y c,X.env.cells.lookup y = some c→c≠a := fun {s1} J1 {a o vs} ho hd=>by
         refine ⟨fun z=>?_,fun y c hc z=>?_⟩
         · obtain ⟨m,⟨o',es,ep,ho',hd',_⟩,_⟩ := J1.loc
           rw [z,ho'] at ho;cases ho;rw [hd] at hd';cases hd'
         · obtain ⟨v,o',ho',hd'⟩ := J1.cell y c hc
           rw [z,ho] at ho';cases ho';rw [hd] at hd';cases hd'
       have ae : ∀ {a : Addr},H1 a = none→A1 a = false := fun {a} z=>by
         cases y : A1 a with
         | false=>rfl
         | true=>obtain ⟨o,ho⟩ := (k1.mu a y).some;rw [z] at ho;cases ho
       -- behind the landing
       have after : ∀ (h2 : Heap) (T' : Addr) (ch : List Addr),s1.heap.objs.size≤T'→X.base.StaysIn h2→h2.FunFrames X.base (X.env :: X.outer)→TrX h2 X.base e T' (.ref C) dct .none→KpX (X.env :: X.outer) ch s1.heap h2→(∀ b∈ch,H1 b = none∧X.s₀.heap.objs.size≤b∧b≠X.env.locals∧(∀ y c,X.env.cells.lookup y = some c→c≠b)∧∀ p∈X.pn ++ pins,p.1≠b) →
           wpAny (model X.prog X.w) X.A (handleBy (.ref e) X.env [.ExceptHandler (some (.Name T np)) (some n) (b₀ :: suite) hpos]) (SP X pins D) X.xe { s1 with heap := h2 } := by
         intro h2 T' ch hT' sb2 ff2 tr2 kp hch
         have J2 : Inv X pins σ1 H1 { s1 with heap := h2 } := J1.call' (s' := { s1 with heap := h2 }) (ch:=ch) rfl (by rw [hstk.1];exact un_kpx kp fun b hb=>(hch b hb).1) (hok_kpx J1.hok kp (fun b hb=>(hch b hb).1) hfree) J1.bare fun b hb=>⟨.inr (hch b hb).2.1,(hch b hb).2.2.1,(hch b hb).2.2.2.1,(hch b hb).2.2.2.2⟩
         obtain ⟨oe,ve,oT,ts,g1,g2,g3,g4,g5,g6,g7,g8,g9,g10⟩ := id tr2
         have LT : Looks (model X.prog X.w) h2 (typeOf (.ref e)) (.ref C) := g2 ▸ (Looks.ld g1).andThen .now
         refine wpAny_handleBy_cons (codeAny_handlers_test (ld_glob (J2.toH (e:=e)) hg hT ?_ hdb)) (by intro z;cases z)
         refine (exm_one (M:=model X.prog X.w) J2.kIn LT (hsub c C hcl hsc)).here ?_
         show codeAny _ _ _ _ _
         refine codeAny_handlers_suite_as ?_
         refine landX (s:={ s1 with heap := h2 }) sb2 ff2 tr2 fun h3 y1 y2 tr3 y4 y5=>?_
         have kp3 : KpX (X.env :: X.outer) [T'] h2 h3 := .of fun b o hb hc=>y4 b o hb hc
         have hTn : H1 T' = none := J1.hok.fresh hT'
         have hTl := nloc J2 g8 g9
         have hTp : ∀ p∈X.pn ++ pins,p.1≠T' := fun p hp z=>by
           have := (J1.pin p hp).1
           rw [z] at this
           exact absurd (Heap.lt_size this) (Nat.not_lt.mpr hT')
         have hTs : ∀ b∈[T'],b = T' := fun b hb=>List.mem_singleton.mp hb
         have J3 : Inv X pins σ1 H1 { s1 with heap := h3 } := J2.call' (s' := { s1 with heap := h3 }) (ch:=[T']) rfl (by rw [hstk.1];exact un_kpx kp3 fun b hb=>by rw [hTs b hb];exact hTn) (hok_kpx J2.hok kp3 (fun b hb=>by rw [hTs b hb];exact hTn) hfree) J2.bare fun b hb=>by rw [hTs b hb];exact ⟨.inr (Nat.le_trans J1.sz hT'),hTl.1,hTl.2,hTp⟩
         obtain ⟨oe',ve',_,_,e1,e2,e3,e4,_⟩ := id tr3
         have el := nloc J3 e1 e4
         have hxi : XIs e C dct h3 := ⟨oe',e1,e2,e3,fun cc z=>by rw [e4] at z;cases z⟩
         have J4 : Inv X pins σ1 (upd H1 e (.ext (XIs e C dct))) { s1 with heap := h3 } := J3.track x.un x.lo el.1 el.2 (hpn x.pe) ⟨hxi,⟨_,e1⟩,fun ha hb ⟨o,z1,z2⟩ k=>⟨o,k _ z1,z2⟩⟩
         have sm : Same H1 (upd H1 e (.ext (XIs e C dct))) := same_upd x.un
         refine store_ok J4 hN hi hx (v:=.ref e) rfl (fun s5 J5=>?_) hf
         have rp : Rp X.K (av (upd H1 e (.ext (XIs e C dct))) A1) (.exc c fl) (.ref e) := by
           unfold Rp
           exact ⟨e,C,dct,rfl,av_at upd_same (ae x.un),hcl,hf1.mono (av_mono sm)⟩
         have k5 := (k1.mono sm).put i rp
         have hfl : FlOk fr (X.inH (X.pn ++ pins) e) B A1 (upd H1 e (.ext (XIs e C dct))) (Ends.mk (fun σ' H'=>D.nx (σ'.set i none) H') D.rt (fun σ' H'=>D.bk (σ'.set i none) H') (fun σ' H'=>D.ct (σ'.set i none) H')) (h (env'.set i (.fz (.exc c fl)))) := by
           have q2 := q.step (st1.trans (Step.same sm))
           unfold unFl at q2
           cases eh : h (env'.set i (.fz (.exc c fl))) with
           | next e'=>rw [eh] at q2;exact fun A' H' σ' s' k'=>q2 A' H' _ s' (k'.clr i)
           | brk e'=>rw [eh] at q2;exact fun A' H' σ' s' k'=>q2 A' H' _ s' (k'.clr i)
           | cont e'=>rw [eh] at q2;exact fun A' H' σ' s' k'=>q2 A' H' _ s' (k'.clr i)
           | ret d=>rw [eh] at q2;exact q2
           | exc e' c' f'=>rw [eh] at q2;exact q2.elim
           | no=>rw [eh] at q2;exact q2
         refine wpAny_mono (hh (X.pn ++ pins) e [] s5 _ _ _ J5.toH ⟨_,B,A1,k5,hst,hfl⟩) (fun f s6 hs=>?_) (fun _ _ z=>z.elim)
         show wpAny _ _ _ _ _ _
         cases f with
         | next=>obtain ⟨σ',H',I',q'⟩ := hs;exact goes_ok (I'.ofH I.ok) hN hi hk fun s7 I7=>⟨_,H',I7,q'⟩
         | brk=>obtain ⟨σ',H',I',q'⟩ := hs;exact goes_ok (I'.ofH I.ok) hN hi hk fun s7 I7=>⟨_,H',I7,q'⟩
         | cont=>obtain ⟨σ',H',I',q'⟩ := hs;exact goes_ok (I'.ofH I.ok) hN hi hk fun s7 I7=>⟨_,H',I7,q'⟩
         | ret u=>obtain ⟨v,σ',H',I',r',q'⟩ := hs;exact goes_ok (I'.ofH I.ok) hN hi hk fun s7 I7=>⟨v,_,H',I7,r',q'⟩
       show wpAny _ _ _ _ _ _
       rcases x.ob with ⟨o,vs,he,hc,hd,hda,h1⟩ | ⟨T0,hT,hTn,hTp,ht⟩
       · refine noteX_first hfr hl hstk.2 he hkb hen hda h1 fun h' T' x0 x1 x2 x3 x4 x5=>?_
         refine landX (s:={ s1 with heap := h' }) x1 x2 x3 fun h2 y1 y2 y3 y4 y5=>?_
         rw [hc,hd] at y3
         refine after h2 T' [e] x0 y1 y2 y3 (kpx_land x4 x0 y4) fun b hb=>?_
         rw [List.mem_singleton.mp hb]
         have z := nloc J1 he hda
         exact ⟨x.un,x.lo,z.1,z.2,hpn x.pe⟩
       · refine noteX hfr hl hstk.2 ht hkb hen fun h' T' x0 x1 x2 x3 x4 x5=>?_
         refine landX (s:={ s1 with heap := h' }) x1 x2 x3 fun h2 y1 y2 y3 y4 y5=>?_
         refine after h2 T' [e,T0] x0 y1 y2 y3 (kpx_land x4 x0 y4) fun b hb=>?_
         obtain ⟨oe,ve,oT,ts,g1,g2,g3,g4,g5,g6,g7,g8,g9,g10⟩ := id ht
         rcases List.mem_cons.mp hb with z | z
         · rw [z];have w := nloc J1 g1 g4;exact ⟨x.un,x.lo,w.1,w.2,hpn x.pe⟩
         · rw [List.mem_singleton.mp z];have w := nloc J1 g8 g9;exact ⟨hTn,hT,w.1,w.2,hpn hTp⟩
     · exact q.elim
 refine wpAny_Try_except (wpAny_mono (hb (X.pn ++ pins) EX [] s σ H D I.toTry ⟨env,B,A,kk,hst,flok⟩) (fun f s₁ hs=>?_) (fun e s₁ hx=>hx))
 cases f with
 | next=>obtain ⟨σ',H',I',q'⟩ := hs;exact wpAny_pure ⟨σ',H',I'.ofTry I.ok,q'⟩
 | brk=>obtain ⟨σ',H',I',q'⟩ := hs;exact ⟨σ',H',I'.ofTry I.ok,q'⟩
 | cont=>obtain ⟨σ',H',I',q'⟩ := hs;exact ⟨σ',H',I'.ofTry I.ok,q'⟩
 | ret u=>obtain ⟨v,σ',H',I',r',q'⟩ := hs;exact ⟨v,σ',H',I'.ofTry I.ok,r',q'⟩
end
section
variable {X : Cx} {m : Bool} {e : Expr} {f : Ev→Option Dat} {p p2 pos : Pos}
noncomputable def dIX (sb : Str→Option Bool) (f : Ev→Option Dat) : Ev→Option Dat := fun env=>(f env).bind fun d=>match d with
 | .exc c _=>(sb c).map .bl
 | _=>none
theorem isx_go {pins : List (Addr×Obj)} {σ : St} {H : Hp} {s : Shared} {c : Str} {fl : List (Str×XD)} {v : V} {u cv : Value} {b : Bool} {Q : Value→Shared→Prop} {A : Around} {E : Value→Shared→Prop} (I : Inv X pins σ H s) (r : Rp X.K H (.exc c fl) v) (ru : RelV v u) (hk : ∀ C,clsAt X.K c C→kitOne X.K (.ref C) cv = some b∧XCls X.K C) (h : ∀ tk,Q (.bool b) { s with toks := tk }) :
   wpAny (model X.prog X.w) A (call (.builtin "isinstance") [u,cv]) Q E s := by
 obtain ⟨ex,C,dct,e1,e2,e3,e4⟩ := of_exc r
 subst e1
 cases ru
 obtain ⟨⟨o,h1,h2,_⟩,_,_⟩ := (show ObjOk X.prog X.w H s.heap ex (.ext (XIs ex C dct)) from I.hok ex _ e2)
 obtain ⟨hk1,xc⟩ := hk C e3
 exact kia_one (kitx_exc xc) I.kIn ⟨o,h1,h2⟩ hk1 (fun z=>nomatch z) h
theorem pe_cls {x : Str} {D : Addr} (hg : Gl X x) (hm : X.mg x = some (.ref D)) (hd : (x == ("__debug__" : Str)) = false := by decide) : PE X (.Name x p) (fun σ H Q=>Q (.ref D) H) := fun pins s σ H Q I h=>ld_glob I hg hm ⟨.ref D,H,I,rfl,h⟩ hd
theorem xisX {sb : Str→Option Bool} {tx : Str} {D : Addr} (he : PXd true X e f) (hmT : X.mg tx = some (.ref D)) (hk : ∀ c C b,clsAt X.K c C→sb c = some b→kitOne X.K (.ref C) (.ref D) = some b∧XCls X.K C) (hm : X.mg "isinstance" = none) (hg : Gl X "isinstance" := by rfl) (hgT : Gl X tx := by rfl) (hv : bootBuiltins "isinstance" = some (.builtin "isinstance") := by decide +kernel) (hdT : (tx == ("__debug__" : Str)) = false := by decide)
   (hs : starEach [e,.Name tx p2] X.env = (false,eval e X.env) :: starEach [.Name tx p2] X.env := by rfl) : PXd m X (.Call (.Name "isinstance" p) [e,.Name tx p2] [] pos) (dIX sb f) := by
 have hc : CallR X (.builtin "isinstance") (fun vs H Q=>∃ v A d b c fl,vs = [v,.ref D]∧MuOk A H∧d = .exc c fl∧sb c = some b∧Pk X.K A H d v∧RegC false X.K A H (.bl b) Q) := by
   intro pins s σ H xs us Q I r ⟨v,A,d,b,c,fl,e1,mu,e2,e3,p1,q⟩
   subst e1 e2
   obtain ⟨u,w',rfl,ru,rw'⟩ := vals2 r
   cases rw'
   exact isx_go I p1.rp ru (fun C hC=>hk c C b hC e3) fun tk=>⟨.bl b,H,I.tok _,rfl,q.here rp_bl⟩
 refine PXd.any ((pe_callB hc hg hm hv (pa_cons he (pa_cons (pe_cls hgT hmT hdT) pa_nil) hs) (he:=hs)).weak fun σ H Q ⟨env,R,A,d,k,q1,q2⟩=>?_)
 obtain ⟨x,e1,h⟩ := bind_some q1
 cases x with
 | exc c fl =>
   obtain ⟨b,e2,h⟩ := map_some h
   subst h
   exact ⟨env,R,A,_,k,e1,fun v H1 s1 p1=>⟨v,A,_,b,c,fl,rfl,k.mu.mono s1,rfl,e2,p1,q2.mono s1⟩⟩
 | _=>cases h
theorem xisV {sb : Str→Option Bool} {tx : Str} {T : String} (he : PXd true X e f) (hmT : X.mg tx = none) (hvT : bootBuiltins tx = some (.type T)) (hnT : tx ≠ "__name__") (hk : ∀ c C b,clsAt X.K c C→sb c = some b→kitOne X.K (.ref C) (.type T) = some b∧XCls X.K C) (hm : X.mg "isinstance" = none) (hg : Gl X "isinstance" := by rfl) (hgT : Gl X tx := by rfl) (hv : bootBuiltins "isinstance" = some (.builtin "isinstance") := by decide +kernel) (hdT : (tx == ("__debug__" : Str)) = false := by decide)
   (hs : starEach [e,.Name tx p2] X.env = (false,eval e X.env) :: starEach [.Name tx p2] X.env := by rfl) : PXd m X (.Call (.Name "isinstance" p) [e,.Name tx p2] [] pos) (dIX sb f) := by
 have hc : CallR X (.builtin "isinstance") (fun vs H Q=>∃ v A d b c fl,vs = [v,.ty T]∧MuOk A H∧d = .exc c fl∧sb c = some b∧Pk X.K A H d v∧RegC false X.K A H (.bl b) Q) := by
   intro pins s σ H xs us Q I r ⟨v,A,d,b,c,fl,e1,mu,e2,e3,p1,q⟩
   subst e1 e2
   obtain ⟨u,w',rfl,ru,rw'⟩ := vals2 r
   cases rw'
   exact isx_go I p1.rp ru (fun C hC=>hk c C b hC e3) fun tk=>⟨.bl b,H,I.tok _,rfl,q.here rp_bl⟩
 refine PXd.any ((pe_callB hc hg hm hv (pa_cons he (pa_cons (pe_bty hgT hmT hvT hnT hdT) pa_nil) hs) (he:=hs)).weak fun σ H Q ⟨env,R,A,d,k,q1,q2⟩=>?_)
 obtain ⟨x,e1,h⟩ := bind_some q1
 cases x with
 | exc c fl =>
   obtain ⟨b,e2,h⟩ := map_some h
   subst h
   exact ⟨env,R,A,_,k,e1,fun v H1 s1 p1=>⟨v,A,_,b,c,fl,rfl,k.mu.mono s1,rfl,e2,p1,q2.mono s1⟩⟩
 | _=>cases h
noncomputable def isBl (c : Bool) : Value→Bool
 | .bool b=>b == c
 | _=>false
theorem bl_vals : ∀ {bs : List Bool} {its : List Value},Vals (bs.map V.bl) its→its = bs.map Value.bool
 | [],[],_=>rfl
 | [],_ :: _,r=>by have := r.length;simp at this
 | _ :: _,[],r=>by have := r.length;simp at this
 | b :: bs,v :: its,r=>by
   cases r with
   | cons h r'=>cases h;rw [bl_vals r'];rfl
theorem eqAt_bl {pins : List (Addr×Obj)} {σ : St} {H : Hp} {s : Shared} (I : Inv X pins σ H s) (hu : X.A.units + 64 < cLine) (b c : Bool) : SeqAt.EqAt X.A.in1 s (.bool b) (.bool c) (b == c) := by
 have := Rp.eqAt (n:=20) (m:=20) (A:=X.A.in1) I (d:=.bl b) (e:=.bl c) (v:=.bl b) (w:=.bl c) (u:=.bool b) (u' := .bool c) rfl rfl (by decide) (by show X.A.units + 1 + 60 < cLine;lia) rp_bl rp_bl rfl rfl
 have e : eqD (.bl b) (.bl c) = (b == c) := by unfold eqD;rfl
 rw [e] at this
 exact this
def rCountB (K : Frag) : V→List V→Hp→VK→Prop := fun x vs H Q=>∃ (p : Addr) (bs : List Bool) (c : Bool),x = .ref p∧vs = [.bl c]∧SqL K H p (bs.map V.bl)∧Q (.int ((bs.countP (· == c) : Nat) : Int)) H
theorem mt_countB (hu : X.A.units + 64 < cLine) : MtR X "list.count" (rCountB X.K) := by
 intro pins s σ H x vs v us Q I rx rs h
 obtain ⟨p,bs,c,rfl,rfl,hq,q⟩ := h
 cases rx
 obtain ⟨u,rfl,ru⟩ := vals1 rs
 cases ru
 obtain ⟨its,r',pl,hz⟩ := I.list hq
 obtain ⟨⟨cls,dd,data,sl⟩,ho,hc,n,hd⟩ := pl.isList
 simp only at hc hd
 subst hc hd
 have e1 := bl_vals r'
 subst e1
 refine call_meets PySem.F.slot_list_count ⟨_,ho,rfl⟩ PySem.F.entry_list_count (PySem.F.args_list_count_2 _ _) (SeqAt.list_countAt p _ n dd sl (.bool c) (isBl c)) ⟨ho,fun y hy=>?_,?_⟩
 · have hy' : y∈bs.map Value.bool := by simpa using hy
   obtain ⟨b,_,rfl⟩ := List.mem_map.mp hy'
   exact eqAt_bl I hu b c
 · have e2 : ((bs.map Value.bool).toArray.toList.countP (isBl c)) = bs.countP (· == c) := by
     show (bs.map Value.bool).countP (isBl c) = _
     rw [List.countP_map];rfl
   rw [e2]
   exact ⟨.int _,H,I.tok _,⟨_,rfl⟩,q⟩
def rIndexB (K : Frag) : V→List V→Hp→VK→Prop := fun x vs H Q=>∃ (p : Addr) (bs : List Bool) (c : Bool),x = .ref p∧vs = [.bl c]∧SqL K H p (bs.map V.bl)∧c∈bs∧Q (.int ((bs.idxOf c : Nat) : Int)) H
theorem mt_indexB (hu : X.A.units + 64 < cLine) : MtR X "list.index" (rIndexB X.K) := by
 intro pins s σ H x vs v us Q I rx rs h
 obtain ⟨p,bs,c,rfl,rfl,hq,hm,q⟩ := h
 cases rx
 obtain ⟨u,rfl,ru⟩ := vals1 rs
 cases ru
 obtain ⟨its,r',pl,hz⟩ := I.list hq
 obtain ⟨⟨cls,dd,data,sl⟩,ho,hc,n,hd⟩ := pl.isList
 simp only at hc hd
 subst hc hd
 have e1 := bl_vals r'
 subst e1
 have hj : bs.idxOf c < bs.length := List.idxOf_lt_length_iff.mpr hm
 have hlen : bs.length≤sizeLine := by simpa using hz
 have hsl : sizeLine < 2 ^ 63 - 1 := by decide
 refine call_meets PySem.F.slot_list_index ⟨_,ho,rfl⟩ PySem.F.entry_list_index (PySem.F.args_list_index_2 _ _) (SeqAt.list_indexAt p _ n dd sl (.bool c) (isBl c) (bs.idxOf c) (by simpa using hj) (by lia) ?_ ?_) ⟨ho,fun y hy=>?_,⟨.int _,H,I.tok _,⟨_,rfl⟩,q⟩⟩
 · show isBl c ((bs.map Value.bool)[bs.idxOf c]'(by simpa using hj)) = true
   rw [List.getElem_map]
   show (bs[bs.idxOf c] == c) = true
   simpa using List.getElem_idxOf hj
 · intro j hjs hlt
   have hjb : j < bs.length := by lia
   show isBl c ((bs.map Value.bool)[j]'(by simpa using hjb)) = false
   rw [List.getElem_map]
   show (bs[j] == c) = false
   have := List.not_of_lt_findIdx (xs:=bs) (p:=(· == c)) (i:=j) (by simpa [List.idxOf] using hlt)
   simpa using this
 · have hy' : y∈bs.map Value.bool := by simpa using hy
   obtain ⟨b,_,rfl⟩ := List.mem_map.mp hy'
   exact eqAt_bl I hu b c
noncomputable def countD : Dat→List Dat→Option Dat
 | .lst xs,[.bl c]=>(blsD xs).map fun bs=>.int ((bs.countP (· == c) : Nat) : Int)
 | _,_=>none
noncomputable def indexD : Dat→List Dat→Option Dat
 | .lst xs,[.bl c]=>(blsD xs).bind fun bs=>if c∈bs then some (.int ((bs.idxOf c : Nat) : Int)) else none
 | _,_=>none
theorem m_count (hu : X.A.units + 64 < cLine) : MtD X "list.count" countD := (mt_countB hu).weak fun v vs H Q zz=>by
 obtain ⟨A,x,ds,d,mu,e,p,ps,q⟩ := zz
 unfold countD at e
 split at e
 · obtain ⟨l,us,e2,h1,r1⟩ := p.lst
   obtain ⟨v1,e3,p1⟩ := ps.one
   obtain ⟨bs,hb,e⟩ := map_some e
   subst e
   rw [blsD_eq hb] at r1
   have eu := rps_of_bls r1
   subst eu
   exact ⟨l,bs,_,e2,by rw [e3,p1.bl],h1.sq,q.here rp_int⟩
 · cases e
theorem m_index (hu : X.A.units + 64 < cLine) : MtD X "list.index" indexD := (mt_indexB hu).weak fun v vs H Q zz=>by
 obtain ⟨A,x,ds,d,mu,e,p,ps,q⟩ := zz
 unfold indexD at e
 split at e
 · obtain ⟨l,us,e2,h1,r1⟩ := p.lst
   obtain ⟨v1,e3,p1⟩ := ps.one
   obtain ⟨bs,hb,e⟩ := bind_some e
   split at e
   · rename_i hm
     cases e
     rw [blsD_eq hb] at r1
     have eu := rps_of_bls r1
     subst eu
     exact ⟨l,bs,_,e2,by rw [e3,p1.bl],h1.sq,hm,q.here rp_int⟩
   · cases e
 · cases e
end
end L2
namespace L2
open PySem
end L2
namespace L2
open PySem PySem.Spec PyProof.Rows
section
variable {P : Program} {w : World} {A : Around} {E : Value→Shared→Prop} {s : Shared}
end
section
variable {P : Program} {w : World} {A : Around} {R : Result→Shared→Prop} {I : Addr} {fp wr : List Addr} {G : Array GenState→Array GenState→Prop} {n : Nat} {Pv : Nat→Value→Prop} {St : Nat→Shared→Prop}
end
section
variable {P : Program} {w : World} {A : Around} {E : Value→Shared→Prop} {s : Shared}
end
end L2
namespace PySem
namespace F
end F
end PySem
namespace L2
open PySem PySem.Spec PyProof.Rows
section
variable {P : Program} {w : World} {A : Around} {E : Value→Shared→Prop} {s : Shared}
end
section
variable {P : Program} {w : World} {A : Around} {E : Value→Shared→Prop} {s : Shared}
end
end L2
namespace PySem.F
end PySem.F
namespace L2
open PySem PySem.Spec PyProof.Rows
section
variable {P : Program} {w : World} {A : Around} {E : Value→Shared→Prop} {s : Shared}
end
section
variable {P : Program} {w : World} {A : Around} {E : Value→Shared→Prop} {s : Shared}
end
end L2
namespace Sq
open PySem PyProof PyProof.Rows
section
variable {prog : Program} {w : World} {A : Around} {E : Value→Shared→Prop} {s : Shared} {a₀ : Array Keyed} {p : Array (Nat×Nat×Nat)}
end
section
variable {prog : Program} {w : World} {A : Around} {E : Value→Shared→Prop} {s : Shared} {a₀ : Array Keyed} {p : Array (Nat×Nat×Nat)}
end
section
variable {prog : Program} {w : World} {A : Around} {E : Value→Shared→Prop} {s : Shared}
end
section
variable {r : Int→Int→Prop} {a b out : List Keyed} {ia ib : Nat}
end
section
variable {prog : Program} {w : World} {A : Around} {E : Value→Shared→Prop} {s : Shared} {a b : Array Keyed} {n0 : Nat}
end
section
variable {prog : Program} {w : World} {A : Around} {E : Value→Shared→Prop} {s : Shared} {a b : Array Keyed} {n0 : Nat}
end
section
variable {prog : Program} {w : World} {A : Around} {E : Value→Shared→Prop} {s : Shared} {a b : Array Keyed} {n0 : Nat}
end
section
variable {prog : Program} {w : World} {A : Around} {E : Value→Shared→Prop} {s : Shared} {a₀ : Array Keyed}
end
section
variable {prog : Program} {w : World} {A : Around} {E : Value→Shared→Prop} {s : Shared} {a₀ : Array Keyed}
end
section
variable {prog : Program} {w : World} {A : Around} {E : Value→Shared→Prop} {s : Shared}
end
end Sq
namespace L2
open PySem PySem.Spec PyProof.Rows
section
variable {P : Program} {w : World} {A : Around} {E : Value→Shared→Prop} {s : Shared}
end
section
variable {X : Cx} {e : Expr} {fs : Ev→Option (List Dat)}
end
end L2
set_option maxHeartbeats 4000000
namespace L2
open PySem PySem.Spec PyProof.Rows
section
variable {X : Cx}
theorem op_catT0 {P : Program} {w : World} {A : Around} {E : Value→Shared→Prop} {s : Shared} {t b : Addr} {vs ws : List Value} {Q : Value→Shared→Prop} (ht : IsTup s.heap t vs.toArray) (hb : IsTup s.heap b ws.toArray) (hv : vs = []) (h0 : Q (.ref b) s) : wpAny (model P w) A (binaryOp .Add (.ref t) (.ref b)) Q E s := by
 obtain ⟨⟨cls,dd,data,sl⟩,ho,hc,n,hd⟩ := id ht
 obtain ⟨⟨cls2,dd2,data2,sl2⟩,ho2,hc2,n2,hd2⟩ := id hb
 simp only at hc hd hc2 hd2
 subst hc hd hc2 hd2
 exact concat_meets ⟨_,ho,rfl⟩ ⟨_,ho2,rfl⟩ noFill_tuple_add seq_tuple_add PySem.F.slot_tuple_add PySem.F.entry_tuple_add (PySem.F.args_tuple_add_2 _ _)
     (tuple_addW0 t b vs.toArray ws.toArray n n2 dd dd2 sl sl2 (by simp [hv])) ⟨ho,ho2,h0⟩
theorem Pk.tupR {K : PySem.W.Frag} {A : AS} {H : Hp} {ds : List Dat} {v : V} (h : Pk K A H (.tup ds) v) : Rp K (av H A) (.tup ds) v := by
 rcases h with h | ⟨a,vs,ds,e1,e2,e3,e4⟩
 · exact h
 · cases e1
noncomputable def addT : Dat→Dat→Option Dat
 | .tup xs,.tup ys=>if xs.length + ys.length≤sizeLine then some (.tup (xs ++ ys)) else none
 | _,_=>none
theorem o_addT : OpD X (binaryOp .Add) addT := fun pins s σ H x y v u Q I rx ry zz=>by
 obtain ⟨A,a,b,d,mu,e,p1,p2,q⟩ := zz
 unfold addT at e
 split at e
 · rename_i xs ys
   split at e
   · rename_i hz
     cases e
     obtain ⟨l1,vs,e1,h1,r1⟩ := p1.tup
     obtain ⟨l2,us,e2,h2,r2⟩ := p2.tup
     have z1 := rps_len r1
     have z2 := rps_len r2
     have w1 := p1.tupR
     have w2 := p2.tupR
     by_cases hx : xs = []
     · subst hx e1 e2
       cases rx
       cases ry
       obtain ⟨its,y1,g1,_⟩ := I.tuple h1
       obtain ⟨its2,y2,g2,_⟩ := I.tuple h2
       have hn : its = [] := by
         have := y1.length
         rw [z1] at this
         exact List.length_eq_zero_iff.mp this.symm
       refine op_catT0 g1 g2 hn ⟨.ref l2,H,I,rfl,?_⟩
       exact q.here w2
     · refine op_catT pins s σ H x y v u Q I rx ry ⟨l1,l2,vs,us,e1,e2,h1,h2,rps_neNil r1 (by simpa using hx),by lia,fun hy=>?_,fun hy=>?_⟩
       · have : ys = [] := by subst hy;exact List.length_eq_zero_iff.mp z2.symm
         subst this
         rw [List.append_nil] at q
         rw [e1] at w1
         exact q.here w1
       · exact q.tup mu (by rw [List.length_append];exact hz) (rps_append r1 r2)
   · cases e
 · cases e
end
end L2
namespace L2
open PySem PySem.Spec PyProof.Rows PySem.W
noncomputable def sbOf (raised : List Str) (t : Str) : Str→Option Bool := fun c=>if c∈raised then some (decide (c = t)) else none
noncomputable def sbAll (raised : List Str) : Str→Option Bool := fun c=>if c∈raised then some true else none
noncomputable def subAll (raised : List Str) : Str→Bool := fun c=>decide (c∈raised)
def IsC (K : Frag) (mg : Str→Option Value) (tx : Str) (sb : Str→Option Bool) : Prop := ∃ D,mg tx = some (.ref D)∧∀ c C b,clsAt K c C→sb c = some b→kitOne K (.ref C) (.ref D) = some b∧XCls K C
def IsT (K : Frag) (mg : Str→Option Value) (tx : Str) (T : String) (sb : Str→Option Bool) : Prop := ∀ c C b,clsAt K c C→sb c = some b→kitOne K (.ref C) (.type T) = some b∧XCls K C
def CatC (K : Frag) (mg : Str→Option Value) (T : Str) (sub : Str→Bool) : Prop := ∃ D,mg T = some (.ref D)∧∀ c C,clsAt K c C→sub c = true→exmOne K (.ref C) (.ref D) = some true
section
variable {X : Cx} {m fr : Bool} {e : Expr} {f : Ev→Option Dat} {g h : Ev→Fl} {p p2 pos : Pos} {body : List Stmt} {b₀ : Stmt} {suite : List Stmt} {T n tx : Str} {np hpos : Pos} {i : Nat} {sub : Str→Bool} {sb : Str→Option Bool}
theorem xisC (he : PXd true X e f) (hC : IsC X.K X.mg tx sb) (hm : X.mg "isinstance" = none) (hg : Gl X "isinstance" := by rfl) (hgT : Gl X tx := by rfl) (hv : bootBuiltins "isinstance" = some (.builtin "isinstance") := by decide +kernel) (hdT : (tx == ("__debug__" : Str)) = false := by decide)
   (hs : starEach [e,.Name tx p2] X.env = (false,eval e X.env) :: starEach [.Name tx p2] X.env := by rfl) : PXd m X (.Call (.Name "isinstance" p) [e,.Name tx p2] [] pos) (dIX sb f) := by
 obtain ⟨D,h1,h2⟩ := hC
 exact xisX he h1 h2 hm hg hgT hv hdT hs
theorem s_tryC (hb : ∀ pn E,PBd fr (X.inTry pn E) body g) (hh : ∀ pn e,PBd fr (X.inH pn e) (b₀ :: suite) h) (hC : CatC X.K X.mg T sub) (hN : X.N.Nodup) (hi : X.N[i]? = some n) (hx : Loc X.env.scope n) (hk : X.env.kindOf n = some .local := by rfl) (hg : Gl X T := by rfl) (hdb : (T == ("__debug__" : Str)) = false := by decide)
   (hstk : X.stack = X.env :: X.outer∧X.env.frame = some X.env.locals := by exact ⟨rfl,rfl⟩)
   (hf : X.fn n = true∨X.env.scope.names.lookup n = some .local := by first | exact .inl rfl | exact .inr rfl | assumption) :
   PSd fr X (.Try body [.ExceptHandler (some (.Name T np)) (some n) (b₀ :: suite) hpos] [] [] pos) (sTry sub i g h) := by
 obtain ⟨D,h1,h2⟩ := hC
 exact s_tryAs hb hh hN hi hx h1 h2 hk hg hdb hstk hf
end
section
variable {K : Frag} {mg : Str→Option Value}
theorem isC_of {raised : List Str} {tx : Str} {D : Addr} (hm : mg tx = some (.ref D)) (h : ∀ c∈raised,∃ C,clsAt K c C∧kitOne K (.ref C) (.ref D) = some (decide (c = tx))∧XCls K C) : IsC K mg tx (sbOf raised tx) := by
 refine ⟨D,hm,fun c C b hc hb=>?_⟩
 unfold sbOf at hb
 split at hb
 · rename_i hr
   cases hb
   obtain ⟨C',h1,h2,h3⟩ := h c hr
   unfold clsAt at hc h1
   rw [hc] at h1
   cases h1
   exact ⟨h2,h3⟩
 · cases hb
theorem isT_of {raised : List Str} {tx : Str} {T : String} (h : ∀ c∈raised,∃ C,clsAt K c C∧kitOne K (.ref C) (.type T) = some true∧XCls K C) : IsT K mg tx T (sbAll raised) := by
 refine fun c C b hc hb=>?_
 unfold sbAll at hb
 split at hb
 · rename_i hr
   cases hb
   obtain ⟨C',h1,h2,h3⟩ := h c hr
   unfold clsAt at hc h1
   rw [hc] at h1
   cases h1
   exact ⟨h2,h3⟩
 · cases hb
theorem catC_of {raised : List Str} {T : Str} {D : Addr} (hm : mg T = some (.ref D)) (h : ∀ c∈raised,∃ C,clsAt K c C∧exmOne K (.ref C) (.ref D) = some true) : CatC K mg T (subAll raised) := by
 refine ⟨D,hm,fun c C hc hb=>?_⟩
 obtain ⟨C',h1,h2⟩ := h c (of_decide_eq_true hb)
 unfold clsAt at hc h1
 rw [hc] at h1
 cases h1
 exact h2
end
section
variable {X : Cx}
end
section
variable {X : Cx} {m : Bool} {e : Expr} {f : Ev→Option Dat} {pos : Pos} {vs : List Expr} {r : Ev→Str→Option Str}
end
end L2
namespace L2
open PySem PySem.Spec PyProof.Rows PySem.W PySem.Builtin PySem.Builtin.Str
section
variable {X : Cx}
end
end L2
namespace L2
open PySem PySem.Spec PyProof.Rows PySem.W
noncomputable def sNo : Ev→Fl := fun _=>.no
theorem s_no {X : Cx} {fr : Bool} {st : Stmt} : PSd fr X st sNo := fun pins s σ H D I ⟨env,B,A,k,hst,q⟩=>q.elim
section
variable {X : Cx} {fr : Bool} {p pos cpos : Pos} {k n : Nat} {c : Str} {G : List Dat→Option (List (Str×XD))}
theorem s_raise0 (M : XMake X.prog X.w X.K X.mg X.base k c n G) (hr : Room (k + 1) X.A) (hc : X.calm = true) (hg : Gl X c := by rfl) (hdb : (c == ("__debug__" : Str)) = false := by decide)
   : PSd fr X (.Raise (some (.Call (.Name c p) [] [] cpos)) none pos) (sRaise c G aNil) := by
 intro pins s σ H D I ⟨env,B,A,kk,hst,q⟩
 obtain ⟨C,fI,D',fd,ps,hcl,hm,hkp,hx,xc,hfn,F,hb⟩ := M.ex
 unfold sRaise at q
 split at q
 · exact q.elim
 rename_i fl hfl
 obtain ⟨ds,e1,hG⟩ := bind_some hfl
 obtain ⟨nm,qn,N,bs,sn,sub,ab,col,dd,k0,k1,k2,k3,k5,mN,hC,hN,hi,T⟩ := xc_of I.kIn hx
 have key : wpAny (model X.prog X.w) X.A (eval (.Call (.Name c p) [] [] cpos) X.env) (fun v s'=>∃ ex t dct,v = .ref ex∧(∃ o,s'.heap.get? C = some o)∧s'.heap.get? ex = some { cls := .ref C,dict := dct,data := .fields #[.ref t,.none,.none,.none,.bool false,.none] }∧X.K.In s'.heap∧X.xe (.ref ex) s') X.xe s := by
   refine wpAny_Call_Name_kw (ld_glob I hg hm ?_ hdb)
   refine callWith_K0 I.kIn hkp ?_
   cases e1
   exact run_raise M hr I kk .nil rps_nil hG hcl hx hfn F hb fun H' σ' _ sm2 k2=>q A H' σ (Step.same sm2) k2
 rw [arm_exec_Raise]
 refine wpAny_bind (wpAny_standAt (raise_madeD (C:=C) (nm:=nm) (q:=qn) (N:=N) (bs:=bs) (bm:=.ref D' :: veMro) (hdct:=true) (sn:=sn) (sub:=sub) (ab:=ab) (col:=col) (dd:=dd) (k0:=k0) (k1:=k1) (k2:=k2) (k3:=k3) (k5:=k5) (newId:="ValueError.__new__") (by simp [veMro]) (I.ok.hd hc) (wpAny_bind (wpAny_mono key (fun v s₃ h₃=>wpAny_bind (wpAny_standAt (wpAny_pure ?_))) fun _ _ x=>x))))
 obtain ⟨ex,t,dct,rfl,_,hex,hK,hxe⟩ := h₃
 obtain ⟨o,lk⟩ : ∃ o,X.K.lookup C = some o := by
   unfold xcIn at hx
   split at hx
   · rename_i ho;exact ⟨_,ho⟩
   · cases hx
 have e2 := (I.kIn _ _ lk).symm.trans hC
 cases e2
 exact ⟨ex,.ref t,dct,rfl,hK _ _ lk,hex,hxe⟩
end
noncomputable def gZ : List Dat→Option (List (Str×XD))
 | []=>some []
 | _=>none
theorem gZ_len : ∀ ds fl,gZ ds = some fl→ds.length = 0 := fun ds fl h=>by
 unfold gZ at h
 split at h
 · rfl
 · cases h
section
variable {P : Program} {w : World} {K : Frag} {mg : Str→Option Value} {base : Heap}
theorem init_Z {qual : Str} {st : Stmt} {fI C D fI' : Addr} {fd : FuncData} {k : Nat} {z : Str} (F : Fun K "__init__" qual st fI fd) (S : FnScope ["self"] ["self"] (defScope st)) (hx : xcIn K C fI' D = true)
   (hb : ∀ (cdv : Value) (A : Around) (outer : List Env) (s : Shared) (H : Hp) (E : XK),Room k (A.deeper (envOfC qual (defScope st) s.heap.objs.size fI cdv)) →
     PSs (cxOf CX0 P w K mg base ["self"] qual (defScope st) fI cdv A outer s H E).nox (defBody st) (tDrop (tBase K (tCons (tVar 0) (tCons (tC (.str z)) tNil))))) :
   FnOk P w K mg base CX0 (k + 1) fI fd ["self"] (spG K C 0 gZ) := by
 refine F.ok S (fun vs H Q E ⟨e,ws,ds,R,fl,ev,hl,_⟩=>by rw [ev,List.length_cons,hl];rfl) fun cdv A outer s H vs Q E hr ⟨e,ws,ds,R,fl,ev,hl,he,mu,re,rs,hG,q⟩=>⟨_,hb cdv A outer s H E hr,?_⟩
 subst ev
 have ew : ws = [] := List.length_eq_zero_iff.mp hl
 subst ew
 have ed : ds = [] := List.length_eq_zero_iff.mp (gZ_len ds fl hG)
 subst ed
 cases hG
 exact ⟨.ref e,rfl,e,C,none,.str z,fI',D,rfl,he,hx,q H none (fun _ _ _ h=>h) he rfl⟩
end
section
variable {X : Cx} {pos pos' : Pos}
end
section
variable {P : Program} {w : World} {K : Frag} {mg : Str→Option Value} {base : Heap}
end
theorem xcls_mk {K : PySem.W.Frag} {C fI D : Addr} (q : xcIn K C fI D = true) (cl : PySem.W.findIn K (.ref C) "__class__" = some (some (.builtin "object.__class__"))) (ga : PySem.W.findIn K (.ref C) "__getattribute__" = some (some (.builtin "BaseException.__getattribute__"))) (gh : PySem.W.findIn K (.ref C) "__getattr__" = some none) (sa : PySem.W.findIn K (.ref C) "__setattr__" = some (some (.builtin "object.__setattr__"))) : XCls K C := by
 refine ⟨?_,cl,ga,gh,sa⟩
 unfold xcIn at q
 split at q
 · rename_i dd cd sl ho
   split at q
   · rename_i C' bm k0 k1 k2 k3 n k5 hm hs
     simp only [Bool.and_eq_true,beq_iff_eq,Bool.not_eq_true'] at q
     obtain ⟨⟨⟨⟨⟨⟨⟨e1,_⟩,_⟩,hdi⟩,e2⟩,_⟩,_⟩,_⟩ := q
     exact ⟨cd,by unfold PySem.W.clsIn;rw [ho],hdi,C',D,by rw [hm,e2]⟩
   · cases q
 · cases q
section
variable {M : Model} {A : Around} {E : Value→Shared→Prop} {s : Shared}
theorem noteX_own {base : Heap} {env : Env} {L e T : Addr} {cls : Value} {dct : Option Addr} {Q : Unit→Shared→Prop} (hf : env.frame = some L) (ht : TrX s.heap base e T cls dct (rawInt L)) (h : Q () s) : wpAny M A (noteFrame (.ref e) env) Q E s := by
 obtain ⟨oe,vs,oT,ts,he,hcls,hdct,hd,h1,hnT,hTe,hT,hdT,h3⟩ := ht
 unfold noteFrame
 simp only [hf]
 refine wpAny_bind (wpAny_field he hd h1 ?_)
 rw [if_pos (show (Value.ref T != Value.none) = true from by simp)]
 refine wpAny_bind (wpAny_field hT hdT h3 ?_)
 rw [if_pos (show ((rawInt L == rawInt L) = true) from by simp)]
 exact wpAny_pure h
theorem flyX {base : Heap} {l : List Env} {e T : Addr} {cls : Value} {dct : Option Addr} {fl : Value} {fr : Option Addr} {Q : Unit→Shared→Prop}
   (hkb : base.StaysIn s.heap) (hl : s.heap.FunFrames base l) (ht : TrX s.heap base e T cls dct fl)
   (h : ∀ h',base.StaysIn h'→h'.FunFrames base l→TrX h' base e T cls dct (fr.elim Value.none fun f=>rawInt f)→(∀ b o,s.heap.get? b = some o→b∉[T]→h'.get? b = some o)→h'.objs.size = s.heap.objs.size→Q () { s with heap := h' }) :
   wpAny M A (setFlight (.ref e) fr) Q E s := by
 obtain ⟨oe,vs,oT,ts,he,hcls,hdct,hd,h1,hnT,hTe,hT,hdT,h3⟩ := ht
 have hsz3 : 3 < ts.size := (Array.getElem?_eq_some_iff.mp h3).1
 have other : ∀ b,b≠T→(s.heap.update T (Obj.mapFields (·.setIfInBounds 3 (fr.elim Value.none fun f=>rawInt f)))).get? b = s.heap.get? b :=
   fun b hb=>Heap.get?_update_other _ _ (Ne.symm hb)
 have noRecord : ∀ b o,s.heap.get? b = some o→(∀ vs,o.data≠.fields vs)→b≠T := fun b o hb hnf q=>by
   rw [q,hT] at hb;injection hb with hb;subst hb;exact hnf ts hdT
 unfold setFlight
 refine wpAny_bind (wpAny_field he hd h1 ?_)
 rw [if_pos (show (Value.ref T != Value.none) = true from by simp)]
 refine wpAny_setField hT hdT hsz3 (h _ (fun b o hbo=>(other b fun q=>by rw [q,hnT] at hbo;cases hbo).trans (hkb b o hbo))
   (hl.of_keeps fun b o hb hnf=>⟨o,(other b (noRecord b o hb hnf)).trans hb,rfl⟩) ?_ (fun b o hb hnf=>(other b (fun z=>hnf (by simp [z]))).trans hb) (Heap.size_update ..))
 exact ⟨oe,vs,_,_,(other e (Ne.symm hTe)).trans he,hcls,hdct,hd,h1,hnT,hTe,Heap.get?_update_self _ hT (Obj.isFreed_of_fields (Obj.data_mapFields hdT _)),Obj.data_mapFields hdT _,by simp [hsz3]⟩
theorem leaveX_own {base : Heap} {env : Env} {l : List Env} {L e T : Addr} {cls : Value} {dct : Option Addr} {Q : Unit→Shared→Prop} (hf : env.frame = some L)
   (hkb : base.StaysIn s.heap) (hl : s.heap.FunFrames base l) (ht : TrX s.heap base e T cls dct (rawInt L))
   (h : ∀ h',base.StaysIn h'→h'.FunFrames base l→TrX h' base e T cls dct .none→KpX l [T] s.heap h'→Q () { s with heap := h' }) : wpAny M A (leaving env (.ref e)) Q E s := by
 unfold leaving
 refine wpAny_bind (noteX_own hf ht ?_)
 exact flyX (fr:=none) hkb hl ht fun h' y1 y2 y3 y4 y5=>h h' y1 y2 y3 (KpX.of fun b o hb hc=>y4 b o hb hc)
theorem passX {base : Heap} {env : Env} {l : List Env} {L e T : Addr} {cls : Value} {dct : Option Addr} {E' : Value→Shared→Prop} (hf : env.frame = some L)
   (hkb : base.StaysIn s.heap) (hl : s.heap.FunFrames base l) (ht : TrX s.heap base e T cls dct (rawInt L))
   (h : ∀ h',base.StaysIn h'→h'.FunFrames base l→TrX h' base e T cls dct (rawInt L)→KpX l [T] s.heap h'→E' (.ref e) { s with heap := h' }) : notedBy M A env (cameBackBy M A env E') (.ref e) s := by
 refine noteX_own (E:=cameBackBy M A env E') hf ht ?_
 obtain ⟨oe,vs,oT,ts,he,hcls,hdct,hd,h1,hnT,hTe,hT,hdT,h3⟩ := id ht
 refine wpAny_bind (wpAny_field he hd h1 ?_)
 rw [if_neg (show ¬ (Value.ref T == Value.none) = true from by simp)]
 rw [hf]
 exact flyX (fr:=some L) hkb hl ht fun h' y1 y2 y3 y4 y5=>h h' y1 y2 y3 (KpX.of fun b o hb hc=>y4 b o hb hc)
end
section
variable {M : Model} {A : Around} {E : Value→Shared→Prop} {s : Shared}
theorem cameX {base : Heap} {env : Env} {l : List Env} {L e T : Addr} {cls : Value} {dct : Option Addr} {E' : Value→Shared→Prop} (hf : env.frame = some L)
   (hkb : base.StaysIn s.heap) (hl : s.heap.FunFrames base l) (ht : TrX s.heap base e T cls dct (rawInt L))
   (h : ∀ h',base.StaysIn h'→h'.FunFrames base l→TrX h' base e T cls dct (rawInt L)→(∀ b o,s.heap.get? b = some o→b∉[T]→h'.get? b = some o)→E' (.ref e) { s with heap := h' }) : cameBackBy M A env E' (.ref e) s := by
 obtain ⟨oe,vs,oT,ts,he,hcls,hdct,hd,h1,hnT,hTe,hT,hdT,h3⟩ := id ht
 refine wpAny_bind (wpAny_field he hd h1 ?_)
 rw [if_neg (show ¬ (Value.ref T == Value.none) = true from by simp)]
 rw [hf]
 exact flyX (fr:=some L) hkb hl ht fun h' y1 y2 y3 y4 y5=>h h' y1 y2 y3 y4
end
def XLie (X : Cx) (E : XK) : Value→Shared→Prop := fun v s=>∃ (e C : Addr) (dct : Option Addr) (pins : List (Addr×Obj)) (σ : St) (H : Hp),v = .ref e∧Inv X pins σ H s∧X.s₀.heap.objs.size≤e∧H e = none∧(∀ p∈X.pn ++ pins,p.1≠e) ∧
 ((∃ o vs,s.heap.get? e = some o∧o.cls = .ref C∧o.dict = dct∧o.data = .fields vs∧vs[1]? = some .none)∨∃ T fl,X.s₀.heap.objs.size≤T∧H T = none∧(∀ p∈X.pn ++ pins,p.1≠T)∧TrX s.heap X.base e T (.ref C) dct fl∧(fl = .none∨fl = rawInt X.env.locals))∧E (.ref C) dct H
theorem XSt.lie {X : Cx} {E : XK} {pins : List (Addr×Obj)} {σ : St} {H : Hp} {s : Shared} {e C : Addr} {dct : Option Addr} (I : Inv X pins σ H s) (x : XSt X pins H s.heap e C dct) (q : E (.ref C) dct H) : XLie X E (.ref e) s :=
 ⟨e,C,dct,pins,σ,H,rfl,I,x.lo,x.un,x.pe,x.ob.imp id fun ⟨T,h1,h2,h3,h4⟩=>⟨T,.none,h1,h2,h3,h4,.inl rfl⟩,q⟩
theorem passL {X : Cx} {E : XK} (hstk : X.stack = X.env :: X.outer∧X.env.frame = some X.env.locals) : PassesOwn (model X.prog X.w) X.A X.env (XLie X E) := by
 rintro ev s1 ⟨e,C,dct,pins,σ,H,rfl,J1,lo,un,pe,ob,q⟩
 have hfr : X.A.frames = some (X.env :: X.outer) := by rw [← hstk.1];exact J1.ok.frames
 have hl : s1.heap.FunFrames X.base (X.env :: X.outer) := by rw [← hstk.1];exact J1.stack
 have hkb : X.base.StaysIn s1.heap := J1.bk
 have hen : X.base.get? e = none := J1.noBase lo
 have hfree : ∀ b∈frs (X.env :: X.outer),H b = none := by rw [← hstk.1];exact J1.stkFree
 have nloc : ∀ {a : Addr} {o : Obj} {vs : Array Value},s1.heap.get? a = some o→o.data = .fields vs→a≠X.env.locals∧∀ y c,X.env.cells.lookup y = some c→c≠a := fun {a o vs} ho hd=>by
   refine ⟨fun z=>?_,fun y c hc z=>?_⟩
   · obtain ⟨m,⟨o',es,ep,ho',hd',_⟩,_⟩ := J1.loc
     rw [z,ho'] at ho;cases ho;rw [hd] at hd';cases hd'
   · obtain ⟨v,o',ho',hd'⟩ := J1.cell y c hc
     rw [z,ho] at ho';cases ho';rw [hd] at hd';cases hd'
 have after : ∀ (h2 : Heap) (T' : Addr) (ch : List Addr),(X.s₀.heap.objs.size≤T'∧H T' = none∧∀ p∈X.pn ++ pins,p.1≠T')→TrX h2 X.base e T' (.ref C) dct (rawInt X.env.locals)→KpX (X.env :: X.outer) ch s1.heap h2→(∀ b∈ch,H b = none∧X.s₀.heap.objs.size≤b∧b≠X.env.locals∧(∀ y c,X.env.cells.lookup y = some c→c≠b)∧∀ p∈X.pn ++ pins,p.1≠b)→XLie X E (.ref e) { s1 with heap := h2 } := fun h2 T' ch hT tr kp hch=>by
   have J2 : Inv X pins σ H { s1 with heap := h2 } := J1.call' (s' := { s1 with heap := h2 }) (ch:=ch) rfl (by rw [hstk.1];exact un_kpx kp fun b hb=>(hch b hb).1) (hok_kpx J1.hok kp (fun b hb=>(hch b hb).1) hfree) J1.bare fun b hb=>⟨.inr (hch b hb).2.1,(hch b hb).2.2.1,(hch b hb).2.2.2.1,(hch b hb).2.2.2.2⟩
   exact ⟨e,C,dct,pins,σ,H,rfl,J2,lo,un,pe,.inr ⟨T',_,hT.1,hT.2.1,hT.2.2,tr,.inr rfl⟩,q⟩
 have fresh : ∀ {T' : Addr},s1.heap.objs.size≤T'→X.s₀.heap.objs.size≤T'∧H T' = none∧∀ p∈X.pn ++ pins,p.1≠T' := fun {T'} h=>⟨Nat.le_trans J1.sz h,J1.hok.fresh h,fun p hp z=>by
   have := (J1.pin p hp).1
   rw [z] at this
   exact absurd (Heap.lt_size this) (Nat.not_lt.mpr h)⟩
 rcases ob with ⟨o,vs,he,hc,hd,hda,h1⟩ | ⟨T,fl,hT1,hT2,hT3,ht,hfl⟩
 · have el := nloc he hda
   refine noteX_first (E:=cameBackBy (model X.prog X.w) X.A X.env (XLie X E)) hfr hl hstk.2 he hkb hen hda h1 fun h' T' z0 z1 z2 z3 z4 z5=>?_
   rw [hc,hd] at z3
   exact cameX (s:={ s1 with heap := h' }) hstk.2 z1 z2 z3 fun h2 y1 y2 y3 y4=>after h2 T' [e] (fresh z0) y3 (kpx_land z4 z0 y4) fun b hb=>by rw [List.mem_singleton.mp hb];exact ⟨un,lo,el.1,el.2,pe⟩
 · obtain ⟨oe,ve,oT,ts,g1,g2,g3,g4,g5,g6,g7,g8,g9,g10⟩ := id ht
   have el := nloc g1 g4
   have eT := nloc g8 g9
   rcases hfl with hfl | hfl
   · subst hfl
     refine noteX (E:=cameBackBy (model X.prog X.w) X.A X.env (XLie X E)) hfr hl hstk.2 ht hkb hen fun h' T' z0 z1 z2 z3 z4 z5=>?_
     refine cameX (s:={ s1 with heap := h' }) hstk.2 z1 z2 z3 fun h2 y1 y2 y3 y4=>after h2 T' [e,T] (fresh z0) y3 (kpx_land z4 z0 y4) fun b hb=>?_
     rcases List.mem_cons.mp hb with e1 | e1
     · rw [e1];exact ⟨un,lo,el.1,el.2,pe⟩
     · rw [List.mem_singleton.mp e1];exact ⟨hT2,hT1,eT.1,eT.2,hT3⟩
   · subst hfl
     exact passX hstk.2 hkb hl ht fun h2 y1 y2 y3 kp=>after h2 T [T] ⟨hT1,hT2,hT3⟩ y3 kp fun b hb=>by rw [List.mem_singleton.mp hb];exact ⟨hT2,hT1,eT.1,eT.2,hT3⟩
end L2
namespace L2
open PySem PySem.Spec PyProof.Rows
theorem leave_own {P : Program} {w : World} {K : PySem.W.Frag} {mg : Str→Option Value} {base : Heap} {N : List Str} {qual : Str} {scope : Scope} {f : Addr} {cd : Value} {A : Around} {outer : List Env} {s : Shared} {H : Hp} {E : XK} {pins : List (Addr×Obj)} {σ : St} {H' : Hp} {s' : Shared} {e C T : Addr} {dct : Option Addr}
   (I : Inv (cxOf (CXv P w base) P w K mg base N qual scope f cd A outer s H E) pins σ H' s') (lo : s.heap.objs.size≤e) (un : H' e = none) (hT : s.heap.objs.size≤T) (hTn : H' T = none) (ht : TrX s'.heap base e T (.ref C) dct (rawInt s.heap.objs.size)) (q : E (.ref C) dct H') :
   (cxOf (CXv P w base) P w K mg base N qual scope f cd A outer s H E).xe (.ref e) s' := by
 have hl : s'.heap.FunFrames base (envOfC qual scope s.heap.objs.size f cd :: outer) := I.stack
 have hkb : base.StaysIn s'.heap := I.bk
 have bs : Un (frs outer) [] H H' s.heap s'.heap := I.base
 have hfree : ∀ b∈frs (envOfC qual scope s.heap.objs.size f cd :: outer),H' b = none := I.stkFree
 refine leaveX_own (env:=envOfC qual scope s.heap.objs.size f cd) rfl hkb hl ht fun h' z1 z2 z3 kp=>?_
 have hch : ∀ b∈[T],H' b = none∧s.heap.objs.size≤b := fun b hb=>by rw [List.mem_singleton.mp hb];exact ⟨hTn,hT⟩
 have ncb : ∀ {b : Addr} {o : Obj},s.heap.get? b = some o→b∉[T] := fun {b o} q z=>absurd (Heap.lt_size q) (Nat.not_lt.mpr (hch b z).2)
 have nfr : ∀ {b : Addr} {o : Obj},s.heap.get? b = some o→b∉frs outer→b∉frs (envOfC qual scope s.heap.objs.size f cd :: outer) := fun {b o} q n z=>by
   rcases List.mem_cons.mp (I.stkSub b z) with e1 | e1
   · have : b = s.heap.objs.size := e1
     exact absurd (Heap.lt_size q) (by rw [this];exact Nat.lt_irrefl _)
   · exact n e1
 refine ⟨e,C,dct,T,H',rfl,I.os,I.bare,⟨?_,?_,?_,?_,bs.tups,bs.frzs,bs.tbls⟩,hok_kpx I.hok kp (fun b z=>(hch b z).1) hfree,lo,hT,un,hTn,z3,q⟩
 · exact fun b o q n hf hx=>(kp b o (bs.keep b o q n hf hx) (ncb q)).1 (nfr q hf)
 · intro b o q n hf hx
   obtain ⟨sl,z⟩ := bs.slot b o q n hf hx
   obtain ⟨sl',z'⟩ := (kp b _ z (ncb q)).2
   exact ⟨sl',z'⟩
 · exact fun b o q n hx=>bs.free b o q n hx
 · intro b o q hx
   obtain ⟨o',z⟩ := bs.there b o q hx
   obtain ⟨sl,z'⟩ := (kp b o' z (ncb q)).2
   exact ⟨_,z'⟩
theorem leave_lie {P : Program} {w : World} {K : PySem.W.Frag} {mg : Str→Option Value} {base : Heap} {N : List Str} {qual : Str} {scope : Scope} {f : Addr} {cd : Value} {A : Around} {outer : List Env} {s : Shared} {H : Hp} {E : XK} {v : Value} {s' : Shared}
   (h : XLie (cxOf (CXv P w base) P w K mg base N qual scope f cd A outer s H E) E v s') : (cxOf (CXv P w base) P w K mg base N qual scope f cd A outer s H E).xe v s' := by
 obtain ⟨e,C,dct,pins,σ,H',rfl,J,lo,un,pe,ob,q⟩ := h
 rcases ob with ob | ⟨T,fl,h1,h2,h3,h4,h5 | h5⟩
 · exact leave_fn J ⟨lo,un,.inl ob,pe⟩ q
 · subst h5
   exact leave_fn J ⟨lo,un,.inr ⟨T,h1,h2,h3,h4⟩,pe⟩ q
 · subst h5
   exact leave_own J lo un h1 h2 h4 q
theorem PSs.wishE {X : Cx} {E : Value→Shared→Prop} {st : List Stmt} {t : TS} (h : PSs (X.wish E) st t) (he : ∀ v s,E v s→X.xe v s) : PSs X st t := fun pins s σ H D I hw =>
 wpAny_mono (h pins s σ H D (I.wish _) hw) (fun _ _ q=>q.unwish) he
section
variable {P : Program} {w : World} {K : PySem.W.Frag} {mg : Str→Option Value} {base : Heap}
noncomputable abbrev cxL (P : Program) (w : World) (K : PySem.W.Frag) (mg : Str→Option Value) (base : Heap) (N : List Str) (qual : Str) (scope : Scope) (f : Addr) (cd : Value) (A : Around) (outer : List Env) (s : Shared) (H : Hp) (E : XK) : Cx :=
 (cxOf (CXv P w base) P w K mg base N qual scope f cd A outer s H E).wish (XLie (cxOf (CXv P w base) P w K mg base N qual scope f cd A outer s H E) E)
theorem run_bodyL {fr : Bool} {N : List Str} {qual : Str} {scope : Scope} {f : Addr} {cd : Value} {A : Around} {outer : List Env} {s : Shared} {H : Hp} {E : XK} {p : Nat} {g : Ev→Fl} {ds : List Dat} {R : AS} {vs : List V} {Q : VK} (hp : p≤N.length) (mu : MuOk R H) (r : Rps K (av H R) ds vs)
   (q : OutOk K fr R H Q E (runD N.length p g ds)) :
   tS fr (cxL P w K mg base N qual scope f cd A outer s H E) g (Ends.mk (fun _ H'=>Q .non H') Q (fun _ _=>False) (fun _ _=>False)) (start N vs) H := by
 unfold runD at q
 split at q
 · rename_i hl
   refine ⟨startD N.length ds,⟨H,R,true⟩,R,start_ok mu r (by lia),rfl,?_⟩
   split at q
   · rename_i d' e
     rw [e]
     exact fun v H' s r n=>q v H' s r n
   · rename_i env e
     rw [e]
     exact fun A' H' σ' s k=>q .non H' k.h0 rp_non (fun _ ds e=>by cases e)
   · rename_i env c fs e
     rw [e]
     exact fun A' H' σ' st k pins s' e C dct I hc x hf=>XSt.lie (I.unwish) ⟨x.lo,x.un,x.ob,x.pe⟩ (q C dct H' k.h0 hc (hf.mono (av_less k.ra)))
   · exact q.elim
 · exact q.elim
theorem cal_dL {x : Str} {st : Stmt} {N ps : List Str} {k : Nat} {fr : Bool} {g : Ev→Fl} (D : Def K mg x st) (S : FnScope N ps (defScope st))
   (hbi : ∀ (kV doc pm : Value) (an : Option Addr) (cdv ct : Value) (us : List Value),us.length = ps.length→bindArgs (PySem.W.fnOf x x (defArgs st) (defBody st) (defScope st) .none kV doc pm an cdv ct) ⟨us,[]⟩ = pure (ps.zip us))
   (hb : ∀ (f : Addr) (cdv : Value) (A : Around) (outer : List Env) (s : Shared) (H : Hp) (E : XK),Room k (A.deeper (envOfC x (defScope st) s.heap.objs.size f cdv))→PBd fr (cxL P w K mg base N x (defScope st) f cdv A outer s H E) (defBody st) g) :
   CalX P w K mg base (k + 1) x ps fr (runD N.length ps.length g) := by
 have hpl : ps.length≤N.length := by have := congrArg List.length S.pre;rw [List.length_take] at this;lia
 obtain ⟨f,fd,F,hm⟩ := D.ex
 refine ⟨⟨f,fd,F.okX S (fun vs H Q E h=>h.1) fun cdv A outer s H vs Q E hr ⟨hl,ds,R,mu,r,q⟩=>⟨_,PSs.wishE (hb f cdv A outer s H E hr) fun v s' z=>leave_lie z,?_⟩,hm,F.kp,F.binds hbi⟩,fun ds h=>runD_lenX h⟩
 exact run_bodyL hpl mu r q
theorem pass_l {N : List Str} {qual : Str} {scope : Scope} {f : Addr} {cd : Value} {A : Around} {outer : List Env} {s : Shared} {H : Hp} {E : XK} :
   PassesOwn (model P w) (cxL P w K mg base N qual scope f cd A outer s H E).A (cxL P w K mg base N qual scope f cd A outer s H E).env (cxL P w K mg base N qual scope f cd A outer s H E).xe :=
 passL (X:=cxOf (CXv P w base) P w K mg base N qual scope f cd A outer s H E) ⟨rfl,rfl⟩
end
section
variable {X : Cx}
def rInsert : V→List V→Hp→VK→Prop := fun x vs H Q=>∃ l xs i y,x = .ref l∧vs = [.int i,y]∧H l = some (.lst xs)∧0≤i∧i≤xs.length∧xs.length < sizeLine∧Q .non (upd H l (.lst (xs.take i.toNat ++ y :: xs.drop i.toNat)))
theorem vals_take : ∀ {vs : List V} {us : List Value} (n : Nat),Vals vs us→Vals (vs.take n) (us.take n)
 | _,_,0,_=>by simp;exact .nil
 | [],us,n + 1,h=>by cases h;exact .nil
 | v :: vs,us,n + 1,h=>by cases h with | cons a b=>exact .cons a (vals_take n b)
theorem vals_drop : ∀ {vs : List V} {us : List Value} (n : Nat),Vals vs us→Vals (vs.drop n) (us.drop n)
 | _,_,0,h=>h
 | [],us,n + 1,h=>by cases h;exact .nil
 | v :: vs,us,n + 1,h=>by cases h with | cons a b=>exact vals_drop n b
theorem mt_insert : MtM X "list.insert" rInsert := by
 intro pins s σ H x vs v us Q I rx rv h
 obtain ⟨l,xs,i,y,rfl,rfl,hH,h0,h1,hz,q⟩ := h
 cases rx
 cases rv with
 | cons r1 r2 =>
   cases r2 with
   | cons ru r3 =>
     cases r3
     obtain ⟨t,rfl⟩ := r1
     rename_i u
     obtain ⟨z,its,n,r,hl,e⟩ := I.lstM hH
     have hfit : ¬ (!Builtin.List.listFitsIndex i) = true := by
       have : (sizeLine : Nat) < 2 ^ 62 := by decide
       rw [fitsIndex_both (by lia) (by lia)]
       decide
     refine call_meets F.slot_list_insert ⟨_,e,rfl⟩ F.entry_list_insert (F.args_list_insert_3 _ _ _) (AutoSeq1.list_insert_list_int_val_1 l its.toArray n i t u hfit (by rw [List.size_toArray];lia)) ⟨e,?_⟩
     refine ⟨.non,_,I.lset (its' := its.take i.toNat ++ u :: its.drop i.toNat) hH e ?_ ((vals_take _ r).append (.cons ru (vals_drop _ r))) ?_,rfl,q⟩
     · apply Array.toList_inj.mp
       have hm : (if i < 0 then (i + (its.toArray.size : Int)).toNat else min i.toNat its.toArray.size) = i.toNat := by
         rw [if_neg (by lia),List.size_toArray,Nat.min_eq_left (by lia)]
       show ((its.toArray.extract 0 (if i < 0 then (i + (its.toArray.size : Int)).toNat else min i.toNat its.toArray.size)).push u ++ its.toArray.extract (if i < 0 then (i + (its.toArray.size : Int)).toNat else min i.toNat its.toArray.size)).toList = _
       rw [hm]
       simp [List.extract]
       exact List.take_of_length_le (by rw [List.length_drop];lia)
     · rw [List.length_append,List.length_cons,List.length_take,List.length_drop]
       lia
noncomputable def insertF : List Dat→List Dat→Option (List Dat)
 | ds,[.int i,d]=>if 0≤i∧i≤ds.length∧ds.length < sizeLine then some (ds.take i.toNat ++ d :: ds.drop i.toNat) else none
 | _,_=>none
theorem m_insert : MtU X "list.insert" insertF := MtR.weak (id:="list.insert") mt_insert fun v us H Q zz=>by
 obtain ⟨A,a,vs,ds,as,ds',mu,e1,h1,r1,r2,e2,q⟩ := zz
 unfold insertF at e2
 split at e2
 · rename_i i d
   split at e2
   · rename_i hl
     cases e2
     obtain ⟨w,us',e3,r3,e4⟩ := r2
     obtain ⟨w2,us2,e5,r5,e6⟩ := e4
     have hw : w = .int i := (Rm.pk r3).int
     have hlen := rps_len r1
     refine ⟨a,vs,i,w2,e1,by rw [e3,e5,show us2 = [] from e6,hw],h1,hl.1,by rw [hlen];exact hl.2.1,by rw [hlen];exact hl.2.2,q _ _ (by rw [List.length_append,List.length_cons,List.length_take,List.length_drop];lia) (rps_append (rps_take _ r1) (rps_cons r5 (rps_drop _ r1)))⟩
   · cases e2
 · cases e2
noncomputable def isIn (c : Int) : Value→Bool
 | .int z _=>z == c
 | _=>false
theorem in_get : ∀ {ns : List Int} {us : List Value},Vals (ns.map V.int) us→∀ (j : Nat) (h : j < us.length) (h' : j < ns.length),∃ t,us[j] = .int ns[j] t
 | [],us,r,j,h,h'=>by simp at h'
 | n :: ns,us,r,j,h,h'=>by
   rw [List.map_cons] at r
   cases r with
   | cons r1 r2 =>
     obtain ⟨t,e⟩ := r1
     subst e
     cases j with
     | zero=>exact ⟨t,rfl⟩
     | succ j=>exact in_get r2 j (by simpa using h) (by simpa using h')
theorem in_mem {ns : List Int} {us : List Value} (r : Vals (ns.map V.int) us) {y : Value} (h : y∈us) : ∃ z t,y = .int z t := by
 obtain ⟨j,hj,rfl⟩ := List.getElem_of_mem h
 have hl := r.length
 rw [List.length_map] at hl
 obtain ⟨t,e⟩ := in_get r j hj (by lia)
 exact ⟨_,t,e⟩
theorem mt_indexI : MtR X "list.index" (fun x vs H Q=>∃ (p : Addr) (zs : List Int) (c : Int),x = .ref p∧vs = [.int c]∧SqL X.K H p (zs.map V.int)∧c∈zs∧Q (.int ((zs.idxOf c : Nat) : Int)) H) := by
 intro pins s σ H x vs v us Q I rx rs h
 obtain ⟨p,zs,c,rfl,rfl,hq,hm,q⟩ := h
 cases rx
 obtain ⟨u',rfl,ru⟩ := vals1 rs
 obtain ⟨u,rfl⟩ := ru
 obtain ⟨its,r',pl,hz⟩ := I.list hq
 obtain ⟨⟨cls,dd,data,sl⟩,ho,hc,n,hd⟩ := pl.isList
 simp only at hc hd
 subst hc hd
 have hlen' := r'.length
 rw [List.length_map] at hlen' hz
 have hj : zs.idxOf c < zs.length := List.idxOf_lt_length_iff.mpr hm
 have hsl : sizeLine < 2 ^ 63 - 1 := by decide
 refine call_meets PySem.F.slot_list_index ⟨_,ho,rfl⟩ PySem.F.entry_list_index (PySem.F.args_list_index_2 _ _) (SeqAt.list_indexAt p _ n dd sl (.int c u) (isIn c) (zs.idxOf c) (by simpa [← hlen'] using hj) (by lia) ?_ ?_) ⟨ho,fun y hy=>?_,⟨.int _,H,I.tok _,⟨_,rfl⟩,q⟩⟩
 · obtain ⟨t,e⟩ := in_get r' (zs.idxOf c) (by lia) hj
   show isIn c (its[zs.idxOf c]'(by lia)) = true
   rw [e]
   show (zs[zs.idxOf c] == c) = true
   simpa using List.getElem_idxOf hj
 · intro j hjs hlt
   have hjb : j < zs.length := by lia
   obtain ⟨t,e⟩ := in_get r' j (by lia) hjb
   show isIn c (its[j]'(by lia)) = false
   rw [e]
   show (zs[j] == c) = false
   have := List.not_of_lt_findIdx (xs:=zs) (p:=(· == c)) (i:=j) (by simpa [List.idxOf] using hlt)
   simpa using this
 · obtain ⟨z,t,rfl⟩ := in_mem r' (by simpa using hy)
   exact SeqAt.EqAt.int_int z t c u
noncomputable def indexI : Dat→List Dat→Option Dat
 | .lst xs,[.int c]=>(intsD xs).bind fun zs=>if c∈zs then some (.int ((zs.idxOf c : Nat) : Int)) else none
 | _,_=>none
theorem m_indexI : MtD X "list.index" indexI := mt_indexI.weak fun v vs H Q zz=>by
 obtain ⟨A,x,ds,d,mu,e,p,ps,q⟩ := zz
 unfold indexI at e
 split at e
 · rename_i xs c
   obtain ⟨l,us,e2,h1,r1⟩ := p.lst
   obtain ⟨v1,e3,p1⟩ := ps.one
   obtain ⟨zs,hy,e⟩ := bind_some e
   split at e
   · rename_i hc
     cases e
     rw [intsD_eq hy] at r1
     have eu := rps_of_ints r1
     subst eu
     exact ⟨l,zs,c,e2,by rw [e3,p1.int],h1.sq,hc,q.here rp_int⟩
   · cases e
 · cases e
end
section
variable {fr m : Bool} {X : Cx} {e : Expr} {f fa fb : Ev→Option Dat} {pos : Pos}
end
theorem EnvOk.gx {K : PySem.W.Frag} {B : Bs} {A : AS} {H : Hp} {σ : St} {env : Ev} {i : Nat} {g : GX} (k : EnvOk K B A H σ env) (hst : B.st = true) (h : env[i]? = some (.gx g)) :
   ∃ (v : V) (o : Addr→Prop),σ[i]? = some (some v)∧GOk K A H o g v∧(∀ b,o b→A b = true∧B.H₀ b = none) ∧
     ∀ (b : Addr) (O : HO) (g' : GX),o b→Mtb (some O)→GOk K A (upd H b O) o g' v→Step A H A (upd H b O)∧EnvOk K B A (upd H b O) σ (env.set i (.gx g')) := by
 obtain ⟨own,h1,h2,h4⟩ := k.sl
 obtain ⟨x,q1,v,e1,e2⟩ := h4 i _ h
 subst e1
 have hb0 : ∀ b,own i b→A b = true∧B.H₀ b = none := fun b ob=>by
   obtain ⟨hA,hR⟩ := h2 i b ob
   refine ⟨hA,?_⟩
   rcases k.ar b hA with z | z
   · rw [z] at hR;cases hR
   · exact z
 refine ⟨v,own i,q1,e2,hb0,fun a O g' oa hO hg=>?_⟩
 obtain ⟨hA,h0⟩ := hb0 a oa
 have avs : Same (av H A) (av (upd H a O) A) := fun b o e=>by
   obtain ⟨z1,z2⟩ := av_of e
   have hb : b≠a := by intro z;rw [z,hA] at z1;cases z1
   exact av_at (by rw [upd_ne hb];exact z2) z1
 refine ⟨⟨fun b o hb hAb=>?_,fun b hb=>.inl hb⟩,?_⟩
 · have hn : b≠a := by intro z;rw [z,hA] at hAb;cases hAb
   rw [upd_ne hn];exact hb
 · refine ⟨fun b o hb=>?_,k.r0,k.ra,k.ar,fun b hb=>?_,by rw [List.length_set];exact k.len,fun hs j d'=>np_set (k.np hs) (fun _ z=>by cases z) j d',own,h1,h2,fun j s e=>?_⟩
   · have hn : b≠a := ne_of_none hb h0
     rw [upd_ne hn];exact k.h0 b o hb
   · by_cases hn : b = a
     · subst hn;rw [upd_same];exact hO
     · rw [upd_ne hn];exact k.mu b hb
   · by_cases hj : i = j
     · subst hj
       rw [List.getElem?_set,if_pos rfl] at e
       split at e
       · cases e
         exact ⟨_,q1,v,rfl,hg⟩
       · cases e
     · rw [List.getElem?_set,if_neg hj] at e
       obtain ⟨x,p1,p2⟩ := h4 j s e
       refine ⟨x,p1,?_⟩
       cases s with
       | un=>trivial
       | fz d=>obtain ⟨v,z1,z2⟩ := p2;exact ⟨v,z1,z2.mono avs⟩
       | pk d=>exact absurd e (k.np hst j d)
       | ow es =>
         obtain ⟨b,us,z1,z2,z3,z4,z5⟩ := p2
         have hn : b≠a := fun z=>hj (h1 i j a oa (z ▸ z2))
         exact ⟨b,us,z1,z2,z3,by rw [upd_ne hn];exact z4,z5.mono avs⟩
       | gx g2 =>
         obtain ⟨w,z1,z2⟩ := p2
         exact ⟨w,z1,z2.frame (fun _ z=>z) (fun b x ob z=>by
           have hn : b≠a := fun y=>hj (h1 i j a oa (y ▸ ob))
           rw [upd_ne hn];exact z) avs⟩
noncomputable def insP (A : AS) (S : Addr→Bool) : AS := fun b=>A b || S b
theorem EnvOk.putG {K : PySem.W.Frag} {B : Bs} {A : AS} {H H' : Hp} {σ : St} {env : Ev} (k : EnvOk K B A H σ env) (hst : B.st = true) (i : Nat) {g : GX} {v : V} {S : Addr→Bool} (s : Same H H') (hn : ∀ p,S p = true→H p = none) (hm : ∀ p,S p = true→Mtb (H' p)) (r : GOk K (insP A S) H' (fun b=>S b = true) g v) :
   Step A H (insP A S) H'∧EnvOk K B (insP A S) H' (σ.set i (some v)) (env.set i (.gx g)) := by
 have or_of : ∀ {b},insP A S b = true→A b = true∨S b = true := fun {b} h=>by unfold insP at h;rw [Bool.or_eq_true] at h;exact h
 have inl_of : ∀ {b},A b = true→insP A S b = true := fun {b} h=>by unfold insP;rw [h];rfl
 have inr_of : ∀ {b},S b = true→insP A S b = true := fun {b} h=>by unfold insP;rw [h,Bool.or_true]
 have st : Step A H (insP A S) H' := ⟨fun a o h _=>s a o h,fun a h=>(or_of h).imp id fun z=>hn a z⟩
 have hAp : ∀ p,S p = true→A p = false := fun p hp=>k.mu.new (hn p hp)
 have h0 : ∀ p,S p = true→B.H₀ p = none := fun p hp=>k.h0.free (hn p hp)
 obtain ⟨own,h1,h2,h4⟩ := k.sl
 refine ⟨st,k.h0.trans s,k.r0,fun a h=>inl_of (k.ra a h),fun a h=>?_,fun a h=>?_,by rw [List.length_set,List.length_set];exact k.len,fun hs j d'=>np_set (k.np hs) (fun _ z=>by cases z) j d',
   fun j a=>(j≠i∧own j a)∨(j = i∧S a = true),fun j j' a z z'=>?_,fun j a z=>?_,fun j sl e=>?_⟩
 · rcases or_of h with z | z
   · exact k.ar a z
   · exact .inr (h0 a z)
 · rcases or_of h with z | z
   · exact k.mu.mono s a z
   · exact hm a z
 · rcases z with z | z <;> rcases z' with z' | z'
   · exact h1 j j' a z.2 z'.2
   · have := (h2 j a z.2).1;rw [hAp a z'.2] at this;cases this
   · have := (h2 j' a z'.2).1;rw [hAp a z.2] at this;cases this
   · rw [z.1,z'.1]
 · rcases z with z | z
   · exact ⟨inl_of (h2 j a z.2).1,(h2 j a z.2).2⟩
   · refine ⟨inr_of z.2,?_⟩
     cases q : B.R a with
     | false=>rfl
     | true=>obtain ⟨o,ho⟩ := k.r0 a q;rw [h0 a z.2] at ho;cases ho
 · by_cases hj : i = j
   · subst hj
     rw [List.getElem?_set,if_pos rfl] at e
     split at e
     · rename_i hl
       cases e
       exact ⟨some v,by rw [List.getElem?_set,if_pos rfl,if_pos (by rw [k.len];exact hl)],v,rfl,r.frame (fun _ z=>.inr ⟨rfl,z⟩) (fun _ _ _ z=>z) (Same.refl _)⟩
     · cases e
   · rw [List.getElem?_set,if_neg hj] at e
     obtain ⟨x,p1,p2⟩ := h4 j sl e
     refine ⟨x,by rw [List.getElem?_set,if_neg hj];exact p1,?_⟩
     cases sl with
     | un=>trivial
     | fz d=>obtain ⟨v,z1,z2⟩ := p2;exact ⟨v,z1,z2.mono st.av⟩
     | pk d=>exact absurd e (k.np hst j d)
     | ow es =>
       obtain ⟨b,us,z1,z2,z3,z4,z5⟩ := p2
       exact ⟨b,us,z1,.inl ⟨Ne.symm hj,z2⟩,z3,s _ _ z4,z5.mono st.av⟩
     | gx g2 =>
       obtain ⟨w,z1,z2⟩ := p2
       exact ⟨w,z1,z2.frame (fun _ z=>.inl ⟨Ne.symm hj,z⟩) (fun b x _ z=>s b x z) st.av⟩
section
variable {fr m : Bool} {X : Cx} {e ix : Expr} {f fa : Ev→Option Dat} {fs : Ev→Option (List Dat)} {pos : Pos}
noncomputable def nestAt (dss : List (List Dat)) (k : Int) : Option (List Dat) := if 0≤k then dss[k.toNat]? else none
noncomputable def dNix (i : Nat) (fa : Ev→Option Dat) : Ev→Option Dat := fun env=>match env[i]?,fa env with
 | some (.gx (.nest dss)),some (.int k)=>(nestAt dss k).map .lst
 | _,_=>none
theorem EnvOk.nest {K : PySem.W.Frag} {B : Bs} {A : AS} {H : Hp} {σ : St} {env : Ev} {i : Nat} {dss : List (List Dat)} (k : EnvOk K B A H σ env) (h : env[i]? = some (.gx (.nest dss))) :
   ∃ (a : Addr) (as : List Addr),σ[i]? = some (some (.ref a))∧H a = some (.lst (as.map V.ref))∧as.length = dss.length∧∀ (n : Nat) b ds,as[n]? = some b→dss[n]? = some ds→ds.length≤sizeLine∧∃ vs,H b = some (.lst vs)∧Rps K (av H A) ds vs := by
 obtain ⟨own,h1,h2,h4⟩ := k.sl
 obtain ⟨x,q1,v,e1,a,as,e2,e3,e4,e5,e6,e7,e8,e9⟩ := h4 i _ h
 subst e1 e2
 exact ⟨a,as,q1,e5,e6,fun n b ds z1 z2=>⟨(e9 n b ds z1 z2).2.1,(e9 n b ds z1 z2).2.2⟩⟩
theorem nestAt_some {dss : List (List Dat)} {k : Int} {ds : List Dat} (h : nestAt dss k = some ds) : 0≤k∧dss[k.toNat]? = some ds∧k = ((k.toNat : Nat) : Int) := by
 unfold nestAt at h
 split at h
 · rename_i h0;exact ⟨h0,h,(Int.toNat_of_nonneg h0).symm⟩
 · cases h
theorem xnix (i : Nat) {x : Str} {p : Pos} (ha : PXd true X ix fa) (hpl : PlainIx ix)
   (hN : X.N[i]? = some x := by rfl) (hv : Vis X.env.scope x := by first | exact Or.inl rfl | exact Or.inr (Or.inl rfl) | exact Or.inr (Or.inr rfl)) (hd : (x == ("__debug__" : Str)) = false := by decide) (hcd : (x == ("__classdict__" : Str)) = false := by decide) :
   PXd true X (.Subscript (.Name x p) ix pos) (dNix i fa) := PE.weak (pe_ix ix_list (pe_var hN hv hd hcd) ha hpl) fun σ H Q zz=>by
 obtain ⟨env,B,A,d,k,e,q⟩ := zz
 unfold dNix at e
 split at e
 · rename_i dss n e1 e2
   obtain ⟨ds,e3,e4⟩ := map_some e
   subst e4
   obtain ⟨h0,e5,e6⟩ := nestAt_some e3
   obtain ⟨a,as,h1,h2,h3,h4⟩ := k.nest e1
   refine ⟨.ref a,h1,env,B,A,.int n,k,e2,fun w H2 s2 r2=>?_⟩
   have hw : w = .int n := (Rm.pk r2).int
   have hlt : n.toNat < as.length := by rw [h3];exact (List.getElem?_eq_some_iff.mp e5).1
   obtain ⟨hz,vs,g1,g2⟩ := h4 n.toNat _ ds (List.getElem?_eq_getElem hlt) e5
   refine ⟨a,as.map V.ref,n,.ref as[n.toNat],rfl,hw,SqL.of (s2 _ _ h2),?_,q _ _ s2 (.inr ⟨_,vs,ds,rfl,rfl,hz,s2 _ _ g1,g2.mono (av_mono s2)⟩)⟩
   have hat : atI (as.map V.ref) ((n.toNat : Nat) : Int) = some (.ref as[n.toNat]) := atI_nat (by rw [List.getElem?_map,List.getElem?_eq_getElem hlt];rfl)
   rwa [← e6] at hat
 · cases e
noncomputable def sNApp (i : Nat) (fa : Ev→Option Dat) (fs : Ev→Option (List Dat)) : Ev→Fl := fun env=>match env[i]?,fa env with
 | some (.gx (.nest dss)),some (.int k)=>match nestAt dss k with
   | some ds=>match (fs env).bind fun as=>appendF ds as with
     | some ds'=>.next (env.set i (.gx (.nest (dss.set k.toNat ds'))))
     | none=>.no
   | none=>.no
 | _,_=>.no
theorem s_napp (i : Nat) {x : Str} {es : List Expr} {p p2 apos cpos : Pos} (ha : PXd true X ix fa) (hpl : PlainIx ix) (hb : PAd false X (e :: es) fs)
   (hN : X.N[i]? = some x := by rfl) (hv : Vis X.env.scope x := by first | exact Or.inl rfl | exact Or.inr (Or.inl rfl) | exact Or.inr (Or.inr rfl)) (hd : (x == ("__debug__" : Str)) = false := by decide) (hcd : (x == ("__classdict__" : Str)) = false := by decide)
   (hsw : swapsWith (.Call (.Attribute (.Subscript (.Name x p) ix p2) "append" apos) (e :: es) [] cpos) none pos.line X.env = pure false := by rfl)
   (hbase : attributeBase (.Subscript (.Name x p) ix p2) "append" X.env (eval (.Subscript (.Name x p) ix p2) X.env) = eval (.Subscript (.Name x p) ix p2) X.env := by rfl)
   (hfew : ((backTo cpos (starEach (e :: es) X.env)).all (fun x=>!x.1) && (backToKw cpos (keywordEach [] X.env)).all (fun x=>x.1.isSome)
     && decide ((e :: es).length + ([] : List Keyword).length + (if ([] : List Keyword).isEmpty then 0 else 1) < 30)) = true := by rfl)
   (hline : (apos.endLine == cpos.line) = true := by rfl) (hs : starEach (e :: es) X.env = (false,eval e X.env) :: starEach es X.env := by rfl) (hplain : (backTo cpos (starEach es X.env)).any (·.1) = false := by rfl) :
   PSd fr X (.Expr (.Call (.Attribute (.Subscript (.Name x p) ix p2) "append" apos) (e :: es) [] cpos) pos) (sNApp i fa fs) := (ps_expr (pe_bm PySem.F.plainAttrs_list PySem.F.slot_list_append PySem.F.type_list_append (id:="list.append") mt_append (pe_ix ix_list (pe_var hN hv hd hcd) ha hpl) hb hbase hfew hline hs hplain) hsw).weak fun D σ H zz=>by
 obtain ⟨env,B,A,k,hst,q⟩ := zz
 unfold sNApp at q
 split at q
 · rename_i dss n e1 e2
   split at q
   · rename_i ds e3
     split at q
     · rename_i ds' e4
       obtain ⟨as0,e5,e6⟩ := bind_some e4
       obtain ⟨h0,e7,e8⟩ := nestAt_some e3
       obtain ⟨a,as,h1,h2,h3,h4⟩ := k.nest e1
       refine ⟨.ref a,h1,env,B,A,.int n,k,e2,fun w H2 s2 r2=>?_⟩
       have hw : w = .int n := (Rm.pk r2).int
       have hlt : n.toNat < as.length := by rw [h3];exact (List.getElem?_eq_some_iff.mp e7).1
       obtain ⟨hz,vs,g1,g2⟩ := h4 n.toNat _ ds (List.getElem?_eq_getElem hlt) e7
       refine ⟨a,as.map V.ref,n,.ref as[n.toNat],rfl,hw,SqL.of (s2 _ _ h2),?_,.inl ⟨rfl,vs,SqL.of (s2 _ _ g1)⟩,env,B,A,as0,k.mono s2,e5,fun us H3 s3 rs=>?_⟩
       · have hat : atI (as.map V.ref) ((n.toNat : Nat) : Int) = some (.ref as[n.toNat]) := atI_nat (by rw [List.getElem?_map,List.getElem?_eq_getElem hlt];rfl)
         rwa [← e8] at hat
       have k3 := k.mono (s2.trans s3)
       obtain ⟨v,o,m1,m2,m3,m4⟩ := k3.gx hst e1
       rw [h1] at m1
       cases m1
       obtain ⟨a',as',z1,z2,z3,z4,z5,z6,z7,z8⟩ := m2
       cases z1
       have eas : as'.map V.ref = as.map V.ref := by
         have := (s2.trans s3) _ _ h2
         rw [z4] at this
         exact HO.lst.inj (Option.some.inj this)
       have eas2 : as' = as := by
         have hinj : ∀ (l1 l2 : List Addr),l1.map V.ref = l2.map V.ref→l1 = l2 := fun l1=>by
           induction l1 with
           | nil=>intro l2 hl;cases l2 with | nil=>rfl | cons=>cases hl
           | cons y l1 ih =>
             intro l2 hl
             cases l2 with
             | nil=>cases hl
             | cons y2 l2=>simp at hl;rw [hl.1,ih l2 (by simpa using hl.2)]
         exact hinj _ _ eas
       subst eas2
       obtain ⟨ob,hz2,vs2,g3,g4⟩ := z8 n.toNat _ ds (List.getElem?_eq_getElem hlt) e7
       generalize hbq : as'[n.toNat] = b at *
       have hbm : b∈as' := by rw [← hbq];exact List.getElem_mem hlt
       unfold appendF at e6
       split at e6
       · rename_i d
         split at e6
         · rename_i hl
           cases e6
           obtain ⟨y,us',e9,r3,e10⟩ := rs
           have hus : us = [y] := by rw [e9,show us' = [] from e10]
           refine ⟨b,vs2,y,rfl,hus,g3,by rw [rps_len g4];exact hl,?_⟩
           have hA : A b = true := (m3 b ob).1
           have avs : Same (av H3 A) (av (upd H3 b (.lst (vs2 ++ [y]))) A) := fun c o2 ec=>by
             obtain ⟨y1,y2⟩ := av_of ec
             have hc : c≠b := by intro z;rw [z,hA] at y1;cases y1
             exact av_at (by rw [upd_ne hc];exact y2) y1
           have hab : a≠b := fun z=>z7 (z ▸ hbm)
           have hg : GOk X.K A (upd H3 b (.lst (vs2 ++ [y]))) o (.nest (dss.set n.toNat (ds ++ [d]))) (.ref a) := by
             refine ⟨a,as',rfl,z2,by rw [List.length_set];exact z3,by rw [upd_ne hab];exact z4,by rw [List.length_set];exact z5,z6,z7,fun j c es q1 q2=>?_⟩
             by_cases hj : n.toNat = j
             · subst hj
               rw [List.getElem?_eq_getElem hlt,hbq] at q1
               cases q1
               rw [List.getElem?_set,if_pos rfl,if_pos (by rw [← h3];exact hlt)] at q2
               cases q2
               exact ⟨ob,by rw [List.length_append,List.length_singleton];lia,vs2 ++ [y],upd_same,rps_append (g4.mono avs) (rps_one (Rp.mono avs r3))⟩
             · rw [List.getElem?_set,if_neg hj] at q2
               obtain ⟨y1,y2,us2,y3,y4⟩ := z8 j c es q1 q2
               have hcb : c≠b := fun z=>by
                 obtain ⟨hjl1,hjl2⟩ := List.getElem?_eq_some_iff.mp q1
                 have := List.nodup_iff_pairwise_ne.mp z6
                 rw [List.pairwise_iff_getElem] at this
                 rcases Nat.lt_or_ge n.toNat j with hlt2 | hge2
                 · exact this n.toNat j hlt hjl1 hlt2 (by rw [hbq,hjl2,z])
                 · exact this j n.toNat hjl1 hlt (by lia) (by rw [hbq,hjl2,z])
               exact ⟨y1,y2,us2,by rw [upd_ne hcb];exact y3,y4.mono avs⟩
           obtain ⟨w1,w2⟩ := m4 b (.lst (vs2 ++ [y])) _ ob trivial hg
           exact q A _ σ (((Step.same s2).trans (Step.same s3)).trans w1) w2
         · cases e6
       · cases e6
     · exact q.elim
   · exact q.elim
 · exact q.elim
end
section
variable {fr : Bool} {X : Cx} {sc : Scope} {tg iter : Expr} {pos : Pos} {src : Ev→Option (List Dat)} {is : List Nat} {gg : Dat→Ev→Option Ev}
noncomputable def sOwnN (i : Nat) (src : Ev→Option (List Dat)) (fs : List (Option Nat)) (gg : Dat→Ev→Option Ev) : Ev→Fl := fun env=>match src env with
 | some ds=>if ds.all (fun d=>(gg d (innerD fs env)).isSome) = true then .next (env.set i (.gx (.nest (List.replicate ds.length [])))) else .no
 | none=>.no
theorem comp_goN {J : It} {fs : List (Option Nat)} {is : List Nat} {g : Dat→Ev→Option Ev} {σ : St} {H1 : Hp} {Q : VK} {K : PySem.W.Frag} {A : AS} {B : Bs} {env : Ev} {ds : List Dat}
   (hfs : ∀ i∈is,fs[i]? = some none) (k : EnvOk K B A H1 σ env) (hJ : ItOk false K A H1 ds J) (hz : ds.length≤sizeLine) (hc : ∀ d∈ds,∃ e',g d (innerD fs env) = some e')
   (q : ∀ (p : Addr) (as : List Addr) (H' : Hp),Same H1 H'→H1 p = none→H' p = some (.lst (as.map V.ref))→as.length = ds.length→as.Nodup→p∉as→(∀ b∈as,H1 b = none∧H' b = some (.lst []))→Q (.ref p) H') :
   ∃ W : Nat→Nat→List V→Hp→Prop,(∃ m,W 0 m [] H1)∧∀ i m zs H,W i m zs H →
     (J.stop i H∧zs.length≤sizeLine∧∀ p,H p = none→Q (.ref p) (upd H p (.lst zs))) ∨
     (J.go i H∧zs.length≤sizeLine∧∃ N : List V→Hp→Prop,(∀ ys' H',N ys' H'→∃ m',m' < m∧W (i + 1) m' ys' H')∧∀ x H',J.yld i H x H'→(∃ env R A d env',EnvOk K R A H' (inner fs σ) env∧Rp K (av H' A) d x∧g d env = some env'∧∀ σ',EnvOk K R A H' σ' env'→Agree is (inner fs σ) σ' →
       (Ext (inner fs σ) σ'∧∃ env R A b,EnvOk K R A H' σ' env∧tTrue env = some b∧∀ H3,Same H' H3→if b = true then (∀ p,H3 p = none→N (zs ++ [.ref p]) (upd H3 p (.lst []))) else N zs H3))) := by
 refine ⟨fun i m zs H=>m = ds.length - i∧i≤ds.length∧Same H1 H∧∃ as : List Addr,zs = as.map V.ref∧as.length = i∧as.Nodup∧∀ b∈as,H1 b = none∧H b = some (.lst []),
   ⟨ds.length,by simp,Nat.zero_le _,Same.refl _,[],rfl,rfl,List.nodup_nil,fun b hb=>nomatch hb⟩,?_⟩
 rintro i m zs H ⟨rfl,hi,s1,as,rfl,hal,hnd,has⟩
 have hzs : (as.map V.ref).length≤sizeLine := by rw [List.length_map];lia
 obtain ⟨hgo,hstop⟩ := hJ A H ⟨rfl,s1⟩ (k.mono s1).mu
 by_cases hlt : i < ds.length
 · have hx : ds[i]? = some ds[i] := by simp [hlt]
   obtain ⟨go,yl⟩ := hgo i _ hx
   obtain ⟨env1,b1⟩ := hc _ (List.getElem_mem hlt)
   refine .inr ⟨go,hzs,fun zs' H'=>i + 1≤ds.length∧Same H1 H'∧∃ as : List Addr,zs' = as.map V.ref∧as.length = i + 1∧as.Nodup∧∀ b∈as,H1 b = none∧H' b = some (.lst []),
     fun zs' H' h=>⟨ds.length - (i + 1),by lia,rfl,h⟩,fun x H' hy=>?_⟩
   obtain ⟨s2,rx⟩ := yl x H' hy
   refine ⟨innerD fs env,⟨H1,A,false⟩,A,ds[i],env1,(k.inn fs).mono (s1.trans s2),rx,b1,fun σ' k' ag=>⟨⟨ag.1.symm,fun j v ej=>?_⟩,env1,⟨H1,A,false⟩,A,true,k',rfl,fun H3 s3=>?_⟩⟩
   · have hj : j∉is := fun hj=>by
       have := hfs j hj
       unfold inner at ej
       rw [List.getElem?_map,this] at ej
       cases ej
     rw [ag.2 j hj];exact ej
   · rw [if_pos rfl]
     intro p hp
     have s4 : Same H1 H3 := (s1.trans s2).trans s3
     have hpa : p∉as := fun z=>by
       have := (s2.trans s3) _ _ (has p z).2
       rw [hp] at this
       cases this
     refine ⟨hlt,fun b o hb=>?_,as ++ [p],by rw [List.map_append];rfl,by rw [List.length_append,List.length_singleton,hal],List.nodup_append.mpr ⟨hnd,List.nodup_cons.mpr ⟨by simp,List.nodup_nil⟩,fun a ha b hb=>by rw [List.mem_singleton.mp hb];intro z;exact hpa (z ▸ ha)⟩,fun b hb=>?_⟩
     · have hn : b≠p := fun z=>by have := s4 b o hb;rw [z,hp] at this;cases this
       rw [upd_ne hn];exact s4 b o hb
     · rcases List.mem_append.mp hb with hb | hb
       · have hn : b≠p := fun z=>hpa (z ▸ hb)
         exact ⟨(has b hb).1,by rw [upd_ne hn];exact (s2.trans s3) _ _ (has b hb).2⟩
       · rw [List.mem_singleton.mp hb]
         exact ⟨s4.free hp,upd_same⟩
 · have e : i = ds.length := by lia
   subst e
   refine .inl ⟨hstop,hzs,fun p hp=>q p as _ (fun b o hb=>?_) (s1.free hp) upd_same hal hnd (fun z=>by have := (has p z).2;rw [hp] at this;cases this) fun b hb=>⟨(has b hb).1,?_⟩⟩
   · have hn : b≠p := fun z=>by have := s1 b o hb;rw [z,hp] at this;cases this
     rw [upd_ne hn];exact s1 b o hb
   · have hn : b≠p := fun z=>by have := (has b hb).2;rw [z,hp] at this;cases this
     rw [upd_ne hn];exact (has b hb).2
theorem s_ownN (i : Nat) {x : Str} {pos' spos lpos : Pos} (hN : X.N.Nodup) (hi' : X.N[i]? = some x) (hx : Loc X.env.scope x) (psc : Scope) (fs : List (Option Nat)) (N : List Str) (hp : X.env.scope = psc) (S : CompOk psc sc X.N N fs) (hc : X.calm = true) (hi : PId false X tg iter src)
   (hb : ∀ (C : Addr) (s : Shared) (H : Hp) (fp : List Addr),PGd is (compCx X sc N C s H fp) tg gg∧PFd (compCx X sc N C s H fp) [] tTrue)
   (hfs : ∀ i∈is,fs[i]? = some none) (hs : ∀ x,foldedSetIterable iter X.env x = pure x := by intro _;rfl) (hsw : swapsWith (.ListComp (.List [] lpos) [⟨tg,iter,[],0⟩] sc pos) (some (.Name x pos')) spos.line X.env = pure true := by rfl)
   (hf : X.fn x = true∨X.env.scope.names.lookup x = some .local := by first | exact .inl rfl | exact .inr rfl | assumption) :
   PSd fr X (.Assign [.Name x pos'] (.ListComp (.List [] lpos) [⟨tg,iter,[],0⟩] sc pos) spos) (sOwnN i src fs gg) := (ps_setComp (g:=fun v σ H Q=>∃ env R A d env',EnvOk X.K R A H σ env∧Rp X.K (av H A) d v∧gg d env = some env'∧∀ σ',EnvOk X.K R A H σ' env'→Agree is σ σ'→Q σ' H) (tt:=fun σ H Q=>∃ env R A b,EnvOk X.K R A H σ env∧tTrue env = some b∧∀ H',Same H H'→Q b H') (te:=fun σ H Q=>∀ p,H p = none→Q (.ref p) (upd H p (.lst []))) hN hi' hx psc fs N hp S hc hi (fun C s H fp=>⟨(hb C s H fp).1,(hb C s H fp).2,(pe_lst pa_nil).weak fun σ H Q h=>⟨Nat.zero_le _,h⟩⟩) hs hsw hf).weak fun D σ H zz=>by
 obtain ⟨env,B,A,k,hst,q⟩ := zz
 unfold sOwnN at q
 split at q
 · rename_i ds e
   split at q
   · rename_i hall
     refine ⟨env,B,A,ds,k,e,fun J H1 hz s1 hJ=>comp_goN (Q:=fun v H'=>D.nx (σ.set i (some v)) H') hfs (k.mono s1) hJ hz (fun d hd=>Option.isSome_iff_exists.mp (List.all_eq_true.mp hall d hd)) fun p as H' s2 hn hp1 hal hnd hpa has=>?_⟩
     have h1 := k.putG hst i (g:=.nest (List.replicate ds.length [])) (v:=.ref p) (S:=fun b=>decide (b = p) || decide (b∈as)) (s1.trans s2) (fun b hb=>?_) (fun b hb=>?_) ⟨p,as,rfl,by simp,by rw [List.length_replicate];exact hz,hp1,by rw [List.length_replicate];exact hal,hnd,hpa,fun n b es q1 q2=>?_⟩
     · exact q _ H' _ h1.1 h1.2
     · rw [Bool.or_eq_true,decide_eq_true_eq,decide_eq_true_eq] at hb
       rcases hb with z | z
       · rw [z];exact s1.free hn
       · exact s1.free (has b z).1
     · rw [Bool.or_eq_true,decide_eq_true_eq,decide_eq_true_eq] at hb
       rcases hb with z | z
       · rw [z,hp1];trivial
       · rw [(has b z).2];trivial
     · have hbm : b∈as := List.mem_of_getElem? q1
       have hes : es = [] := by
         have := List.mem_of_getElem? q2
         exact (List.mem_replicate.mp this).2
       subst hes
       exact ⟨by simp [hbm],Nat.zero_le _,[],(has b hbm).2,rps_nil⟩
   · exact q.elim
 · exact q.elim
end
section
variable {X : Cx} {m : Bool}
end
section
variable {prog : Program} {w : World} {A : Around} {E : Value→Shared→Prop} {s : Shared} {z TI TO i1 i2 : Addr} {f1 f2 : List Addr} {n i : Nat} {P1 P2 : Nat→Value→Prop} {S1 S2 : Nat→Heap→Prop} {a b : Value}
end
section
variable {st m : Bool} {X : Cx} {l1 l2 : Expr} {es : List Expr} {fs : Ev→Option (List Dat)} {tk : Nat} {tpos : Pos}
end
section
variable {prog : Program} {w : World} {A : Around} {E : Value→Shared→Prop} {s : Shared}
theorem collect_tup {l : Addr} {vs : List Value} {Q : List Value→Shared→Prop} (hl : s.heap.IsTuple l vs.toArray)
   (h : Q vs { s with heap := (s.heap.push (seqObj "list" #[] 0)).update s.heap.objs.size (Obj.mapSeq (· ++ vs.toArray)) }) (hsz : vs.length≤sizeLine) :
   wpAny (model prog w) A (collect (.ref l)) Q E s := by
 obtain ⟨o,ho,hc,n,hd⟩ := id hl
 unfold collect
 refine wpAny_bind (wpAny_runValue (codeAny_builtin entry_proto_collect' ?_))
 show wpAny _ _ (do again (.builtin "list.__iadd__" ⟨[← newList [],.ref l],[]⟩)) _ _ s
 refine wpAny_bind (wpAny_newList (wpAny_pure ⟨Code.quiet_builtin _ (by decide +kernel),codeAny_builtin entry_list_iadd' ?_⟩))
 show wpAny _ _ (Builtin.List.listExtendWith (.ref s.heap.objs.size) (.ref l) (.ref s.heap.objs.size)) _ _ { s with heap := s.heap.push (seqObj "list" #[] 0) }
 unfold Builtin.List.listExtendWith
 have ho' : (s.heap.push (seqObj "list" #[] 0)).get? l = some o := Heap.get?_push_of_some _ ho
 refine wpAny_bind (wpAny_typeOf (T:="tuple") ⟨o,ho',hc⟩ ?_)
 have ht : (Value.type "tuple" == Value.type "tuple") = true := by rfl
 rw [if_pos (by rw [ht];simp)]
 refine wpAny_bind (listItems_at ho' hd ?_)
 refine wpAny_bind (listItems_at (xs:=#[]) (n:=0) (Heap.get?_push_size _ rfl) rfl ?_)
 rw [if_neg (by simp)]
 refine wpAny_bind (listUpdate_at (xs:=#[]) (n:=0) (Heap.get?_push_size _ rfl) rfl ?_ (Nat.zero_le _) (by show (#[] ++ vs.toArray).size≤sizeLine + 1;simp only [Array.size_append,List.size_toArray,List.length_nil];lia))
 refine wpAny_pure ?_
 show wpAny (model prog w) A (do
     let o ← load s.heap.objs.size
     match o.data with
     | .seq xs _=>pure xs.toList
     | _=>unsupported "internal:collect") Q E { s with heap := (s.heap.push (seqObj "list" #[] 0)).update s.heap.objs.size (Obj.mapSeq (· ++ vs.toArray)) }
 refine wpAny_bind (wpAny_load (get?_update_seq (Heap.get?_push_size _ rfl) _) ?_)
 show wpAny _ _ (pure ((#[] : Array Value) ++ vs.toArray).toList) Q E _
 rw [show ((#[] : Array Value) ++ vs.toArray).toList = vs by simp]
 exact wpAny_pure h
theorem sorted_tup {l : Addr} {vs : List Value} {ns : List Int} {Q : Value→Shared→Prop} (hl : s.heap.IsTuple l vs.toArray) (hI : IntsAre vs ns) (h64 : vs.length < 64)
   (h : ∀ (out : Array Value) (ns' : List Int),IntsAre out.toList ns'→ns'.Perm ns→ns'.Pairwise (·≤·)→Q (.ref (s.heap.objs.size + 1)) { s with heap := sortedAll s.heap vs out }) :
   wpAny (model prog w) A (call (.builtin "sorted") [.ref l]) Q E s := by
 refine Calls.call_function_entry kind_sorted plain_sorted entry_sorted (args_sorted1 _) ?_
 unfold Builtin.«sorted»
 refine wpAny_bind (m:=checkCount "sorted" 1 1 _) (wpAny_pure ?_)
 refine wpAny_bind (collect_tup hl ?_ (by rw [sizeLine_eq];lia))
 refine wpAny_bind (wpAny_newList ?_)
 have hsz : ((s.heap.push (seqObj "list" #[] 0)).update s.heap.objs.size (Obj.mapSeq (· ++ vs.toArray))).objs.size = s.heap.objs.size + 1 := by
   rw [Heap.size_update,size_push']
 have hoL : (((s.heap.push (seqObj "list" #[] 0)).update s.heap.objs.size (Obj.mapSeq (· ++ vs.toArray))).push (seqObj "list" vs.toArray 0)).get? (s.heap.objs.size + 1) = some (seqObj "list" vs.toArray 0) := by
   rw [← hsz];exact Heap.get?_push_size _ rfl
 show wpAny _ _ _ _ _ { s with heap := ((s.heap.push (seqObj "list" #[] 0)).update s.heap.objs.size (Obj.mapSeq (· ++ vs.toArray))).push (seqObj "list" vs.toArray 0) }
 rw [hsz]
 refine wpAny_bind (wpAny_holding (wpAny_call_entry slot_list_sort ⟨_,hoL,rfl⟩ entry_list_sort (list_sort_tree hoL hI h64 fun out ns' a1 a2 a3=>⟨_,rfl,?_⟩) (args_list_sort _)))
 exact wpAny_pure ⟨_,rfl,h out ns' a1 a2 a3⟩
end
section
variable {X : Cx}
def rSortedT (K : PySem.W.Frag) : List V→Hp→VK→Prop := fun xs H Q=>∃ p ns,xs = [.ref p]∧SqT K H p (ns.map V.int)∧ns.length < 64 ∧
 ∀ (ms : List Int) (l : Addr),ms.Perm ns→ms.Pairwise (·≤·)→H l = none→Q (.ref l) (upd H l (.lst (ms.map V.int)))
theorem call_sortedT : CallR X (.builtin "sorted") (rSortedT X.K) := by
 intro pins s σ H xs us Q I r h
 obtain ⟨p,ns,rfl,hq,h64,q⟩ := h
 obtain ⟨u,rfl,rx⟩ := vals1 r
 cases rx
 obtain ⟨its,r',pl,hz⟩ := I.tuple hq
 have hlen := r'.length
 rw [List.length_map] at hlen
 refine sorted_tup (show s.heap.IsTuple p its.toArray from pl) (intsAre_of r') (by lia) fun out ms h1 h2 h3=>?_
 obtain ⟨e,he⟩ := sortedAll_at s.heap its out
 have hl : ms.length = ns.length := h2.length_eq
 refine ⟨.ref (s.heap.objs.size + 1),upd H (s.heap.objs.size + 1) (.lst (ms.map V.int)),I.laid (t' := s.toks) (fun b o q=>sortedAll_old q) (Nat.le_succ _) ?_,rfl,q ms _ h2 h3 (I.hok.fresh (Nat.le_succ _))⟩
 refine ⟨by rw [List.length_map] at hz ⊢;lia,out.toList,e,vals_of_ints h1,?_⟩
 rw [he]
noncomputable def sortedX : List Dat→Option (List Dat)
 | [.lst xs]=>(intsD xs).bind fun ns=>if ns.length < 64 then some ((sortI ns).map .int) else none
 | [.tup xs]=>(intsD xs).bind fun ns=>if ns.length < 64 then some ((sortI ns).map .int) else none
 | _=>none
theorem c_sortedX : CallN X (.builtin "sorted") sortedX := (call_sortedL.or call_sortedT).weak fun vs H Q zz=>by
 obtain ⟨A,ds,d,mu,e,p,q⟩ := zz
 unfold sortedX at e
 split at e
 · rename_i xs
   obtain ⟨v,e1,p1⟩ := p.one
   obtain ⟨l,us,e2,h1,r1⟩ := p1.lst
   obtain ⟨ns,hn,e⟩ := bind_some e
   split at e
   · rename_i h64
     cases e
     rw [intsD_eq hn] at r1
     have eu := rps_of_ints r1
     subst eu
     refine .inl ⟨l,ns,by rw [e1,e2],h1.sq,h64,fun ms l' hp hs hl=>?_⟩
     rw [sorted_unique (hp.trans (sortI_perm ns).symm) hs (sortI_sorted ns)]
     have h0 : (64 : Nat)≤sizeLine := by decide
     exact q.at (by rw [List.length_map,(sortI_perm ns).length_eq];lia) (rps_ints _) l' hl
   · cases e
 · rename_i xs
   obtain ⟨v,e1,p1⟩ := p.one
   obtain ⟨l,us,e2,h1,r1⟩ := p1.tup
   obtain ⟨ns,hn,e⟩ := bind_some e
   split at e
   · rename_i h64
     cases e
     rw [intsD_eq hn] at r1
     have eu := rps_of_ints r1
     subst eu
     refine .inr ⟨l,ns,by rw [e1,e2],h1,h64,fun ms l' hp hs hl=>?_⟩
     rw [sorted_unique (hp.trans (sortI_perm ns).symm) hs (sortI_sorted ns)]
     have h0 : (64 : Nat)≤sizeLine := by decide
     exact q.at (by rw [List.length_map,(sortI_perm ns).length_eq];lia) (rps_ints _) l' hl
   · cases e
 · cases e
end
section
variable {prog : Program} {w : World} {A : Around} {E : Value→Shared→Prop} {s : Shared}
open HT in
theorem getItem_tuple_whole {t sl : Addr} {items : Array Value} {vl vu : Value} {lo hi : Option Int} {Q : Value→Shared→Prop} (ht : IsTup s.heap t items) (hs : s.heap.IsSliceOf sl vl vu .none) (pl : IsPart vl lo) (pu : IsPart vu hi)
   (hw : (sIx items.size 0 lo = 0∧sIx items.size items.size hi = items.size))
   (h : Q (.ref t) s)
   (hsz : items.size≤sizeLine) : wpAny (model prog w) A (getItem (.ref t) (.ref sl)) Q E s := by
 obtain ⟨os,hos,hcs,hds⟩ := id hs
 have hTs : s.TypeIs (.ref sl) "slice" := ⟨os,hos,hcs⟩
 unfold getItem
 try with_reducible refine wpAny_holding ?_
 first | refine wpAny_bind (wpAny_pure ?_) | skip
 refine wpAny_bind (wpAny_sequenceKey ht.typeIs (by decide) ?_)
 refine wpAny_bind (wpAny_callSpecial?_slot (name:=Str.ofString "__getitem__") ht.typeIs PyProof.Rows.slot_tuple_getitem
   (wpAny_call_entry PyProof.Rows.slot_tuple_getitem ht.typeIs entry_tuple_getitem ?_ (args_tuple_getitem _ _)))
 show wpAny _ _ (Builtin.Tuple.tupleItemsOf (.ref t) >>= _) _ _ s
 refine wpAny_bind (tupleItemsOf_ ht ?_)
 refine wpAny_bind (wpAny_typeOf hTs ?_)
 rw [if_pos (by decide)]
 refine wpAny_bind (sliceApplied_gen hs pl pu ?_)
 have hyes : (((sIx items.size 0 lo : Nat) : Int) == 0 && (1 : Int) == 1 && (sIx items.size items.size hi - sIx items.size 0 lo) == items.size) = true := by
   rw [hw.1,hw.2];simp
 show wpAny _ _ (if (((sIx items.size 0 lo : Nat) : Int) == 0 && (1 : Int) == 1 && (sIx items.size items.size hi - sIx items.size 0 lo) == items.size) = true then _ else _) _ _ s
 rw [if_pos hyes]
 unfold Builtin.Tuple.tupleIsExact
 refine wpAny_bind (wpAny_bind (wpAny_typeOf ht.typeIs (wpAny_pure ?_)))
 rw [if_pos (by decide)]
 exact wpAny_bind (wpAny_rule (wpAny_pure ⟨_,rfl,wpAny_pure h⟩))
end
section
variable {X : Cx}
def rSlW (K : PySem.W.Frag) : V→Option Int→Option Int→Hp→VK→Prop := fun x lo hi H Q=>∃ a xs,x = .ref a∧SqT K H a xs ∧
 (HT.sIx xs.length 0 lo = 0∧HT.sIx xs.length xs.length hi = xs.length)∧Q (.ref a) H
theorem sl_whole : SlR X (rSlW X.K) := by
 intro pins s σ H x v vl vu lo hi sl Q I rx hs pl pu h
 obtain ⟨a,xs,rfl,hx,hw,q⟩ := h
 cases rx
 obtain ⟨its,r,ht,hz⟩ := I.tuple hx
 have hlen : its.toArray.size = xs.length := by rw [List.size_toArray];exact r.length.symm
 refine ⟨"tuple",_,PyProof.Rows.slot_tuple_getitem.lookup,ht.typeIs,?_⟩
 exact getItem_tuple_whole ht hs pl pu (by rw [hlen];exact hw) ⟨.ref a,H,I,rfl,q⟩ (by rw [hlen];exact hz)
noncomputable def slX : Dat→Option Int→Option Int→Option Dat
 | .lst xs,lo,hi=>some (.lst (cutL xs lo hi))
 | .str z,lo,hi=>some (.str (Txt.slice z lo hi))
 | .tup xs,lo,hi=>some (.tup (cutL xs lo hi))
 | _,_,_=>none
theorem o_slX : SlD X slX := (o_sl.or sl_whole).weak fun v lo hi H Q zz=>by
 obtain ⟨A,x,d,mu,e,p1,q⟩ := zz
 unfold slX at e
 split at e
 · exact .inl ⟨A,.lst _,d,mu,e,p1,q⟩
 · exact .inl ⟨A,.str _,d,mu,e,p1,q⟩
 · rename_i xs
   by_cases hw : HT.sIx xs.length 0 lo = 0∧HT.sIx xs.length xs.length hi = xs.length
   · obtain ⟨l,vs,e1,h1,r1⟩ := p1.tup
     cases e
     have ec : cutL xs lo hi = xs := by unfold cutL;rw [hw.1,hw.2];simp
     rw [ec] at q
     exact .inr ⟨l,vs,e1,h1,by rw [rps_len r1];exact hw,by rw [← e1];exact q.here (by rcases p1 with h | ⟨_,_,_,e9,_⟩;exact h;cases e9)⟩
   · exact .inl ⟨A,.tup xs,d,mu,by show (if _ then none else _) = _;rw [if_neg hw];exact e,p1,q⟩
 · cases e
end
section
variable {P : Program} {w : World} {A : Around} {E : Value→Shared→Prop} {s : Shared}
end
section
variable {X : Cx} {e : Expr} {fs : Ev→Option (List Dat)}
end
section
variable {prog : Program} {w : World} {A : Around} {E : Value→Shared→Prop} {s : Shared}
theorem IsList_ext {h h' : Heap} {t : Addr} {xs : Array Value} (q : h.IsList t xs) (e : ∀ o,h.get? t = some o→h'.get? t = some o) : h'.IsList t xs := by
 obtain ⟨o,ho,r⟩ := q
 exact ⟨o,e o ho,r⟩
theorem draw_list {it t : Addr} {items : Array Value} (hne : t≠it) : ∀ (n i : Nat) (s : Shared) (Q : List Value→Shared→Prop),s.heap.IsListIter it t i→s.heap.IsList t items→i + n≤items.size →
   (∀ h',h'.IsListIter it t (i + n)→Heap.SameBut it s.heap h'→Q ((items.toList.drop i).take n) { s with heap := h' })→wpAny (model prog w) A (draw (.ref it) n) Q E s
 | 0,i,s,Q,hit,_,_,hQ=>by
   show wpAny _ _ (pure []) Q E s
   exact wpAny_pure (by simpa using hQ s.heap hit (Heap.SameBut.refl ..))
 | n + 1,i,s,Q,hit,ht,hle,hQ=>by
   have hlt : i < items.size := by lia
   show wpAny _ _ (pyNext (.ref it) >>= _) Q E s
   refine wpAny_bind (wpAny_pyNext_list_item hit ht (x:=items[i]) (by simp [hlt]) fun h₁ hit₁ hs₁=>?_)
   refine wpAny_bind (wpAny_holding (draw_list hne n (i + 1) _ _ hit₁ (IsList_ext ht fun o e=>hs₁.extBut _ _ hne e) (by lia) fun h₂ hit₂ hs₂=>wpAny_pure ?_))
   have hd : items.toList.drop i = items[i] :: items.toList.drop (i + 1) := by simp [List.drop_eq_getElem_cons,hlt]
   have := hQ h₂ (by rw [show i + (n + 1) = i + 1 + n by lia];exact hit₂) (hs₁.trans hs₂)
   rw [hd,List.take_succ_cons] at this
   exact this
theorem unpackItems_list {t : Addr} {items : Array Value} {Q : List Value→Shared→Prop} (hh : A.handled = none) (ht : s.heap.IsList t items)
   (hQ : ∀ h',Heap.ExtBut s.heap.objs.size s.heap h'→Q items.toList { s with heap := h' }) : wpAny (model prog w) A (unpackItems (.ref t) items.size none) Q E s := by
 have hlt : t≠s.heap.objs.size := by obtain ⟨o,ho,_⟩ := ht;exact Nat.ne_of_lt (Heap.lt_size ho)
 unfold unpackItems
 refine wpAny_bind ?_
 · unfold notIterableAtAll
   refine wpAny_bind (wpAny_specialOf ht.typeIs slot_list_iter.lookup ?_)
   refine wpAny_pure ?_
   simp only [Bool.false_eq_true,if_false]
   refine wpAny_bind (wpAny_holding (wpAny_pyIter_list ht ?_))
   refine wpAny_bind (wpAny_holding (draw_list hlt items.size 0 _ _ ⟨_,Heap.get?_push_size _ rfl,rfl,rfl⟩ (IsList_ext ht fun o e=>Heap.get?_push_of_some _ e) (by lia) fun h₁ hit₁ hs₁=>?_))
   have hall : List.take items.size (List.drop 0 items.toList) = items.toList := by
     rw [List.drop_zero];exact List.take_of_length_le (by simp)
   rw [hall]
   rw [if_neg (by simp)]
   have ht₁ : Heap.IsList h₁ t items := IsList_ext (IsList_ext ht fun o e=>Heap.get?_push_of_some _ e) fun o e=>hs₁.extBut _ _ hlt e
   refine wpAny_bind (wpAny_holding (wpAny_pyNext_list_end hh hit₁ ht₁ (by simp) fun h₂ he₂=>?_))
   simp only [Option.isSome_none,Bool.false_eq_true,if_false]
   refine wpAny_pure (hQ h₂ fun b o hb e=>he₂ b o hb (hs₁.extBut b o hb (Heap.get?_push_of_some _ e)))
theorem assign_Tuple_list {env : Env} {elts : List Expr} {x1} {pos : Pos} {t : Addr} {items : Array Value} {Q : Unit→Shared→Prop} (hh : A.handled = none) (ht : s.heap.IsList t items)
   (hn : (assignEach elts env).length = items.size) (hstar : (assignEach elts env).findIdx? (·.1) = none)
   (h : ∀ h',Heap.ExtBut s.heap.objs.size s.heap h'→wpAny (model prog w) A (assignInOrder ((assignEach elts env).map (·.2)) items.toList) Q E { s with heap := h' }) :
   wpAny (model prog w) A (assign (.Tuple elts x1 pos) env (.ref t)) Q E s := by
 rw [assign_Tuple]
 refine wpAny_bind (wpAny_standAt ?_)
 unfold unpack
 rw [hn,hstar]
 exact wpAny_bind (wpAny_holding (unpackItems_list hh ht h))
end
section
variable {X : Cx} {pos : Pos}
def gLst (K : PySem.W.Frag) (n : Nat) (t : TGs) : TG := fun v σ H Q=>∃ a xs,v = .ref a∧SqL K H a xs∧xs.length = n∧t xs σ H Q
theorem pg_lst {es : List Expr} {k : Nat} {t : TGs} {n : Nat} (hc : X.calm = true) (h : PGs X es t)
   (hn : (assignEach es X.env).length = n := by rfl) (hst : (assignEach es X.env).findIdx? (·.1) = none := by rfl) : PG X (.Tuple es k pos) (fun v σ H Q=>gTup X.K n t v σ H Q∨gLst X.K n t v σ H Q) := by
 intro pins s σ H v u Q I r hw
 rcases hw with hw | hw
 · exact pg_tup hc h hn hst pins s σ H v u Q I r hw
 obtain ⟨a,xs,e1,hq,hl,hw⟩ := hw
 subst e1
 cases r
 obtain ⟨its,rv,pl,hz⟩ := I.list hq
 refine assign_Tuple_list (I.ok.hd hc) pl.isList (by simp [hn,← hl,rv.length]) hst fun h' hx=>?_
 have I1 : Inv X pins σ H { s with heap := h' } := I.kept (t' := s.toks) fun b o e=>hx b o (Nat.ne_of_lt (Heap.lt_size e)) e
 exact h pins _ σ H xs _ Q I1 (by simpa using rv) hw
noncomputable def gunp (n : Nat) (gs : List Dat→Ev→Option Ev) : Dat→Ev→Option Ev := fun d env=>match d with
 | .tup ds=>if ds.length = n then gs ds env else none
 | .lst ds=>if ds.length = n then gs ds env else none
 | _=>none
theorem g_unp {es : List Expr} {k : Nat} {is : List Nat} {gs : List Dat→Ev→Option Ev} {n : Nat} (hc : X.calm = true) (h : PGsd is X es gs)
   (hn : (assignEach es X.env).length = n := by rfl) (hst : (assignEach es X.env).findIdx? (·.1) = none := by rfl) : PGd is X (.Tuple es k pos) (gunp n gs) := (pg_lst hc h hn hst).weak fun v σ H Q zz=>by
 obtain ⟨env,R,A,d,env',k,r,e,q⟩ := zz
 unfold gunp at e
 split at e
 · rename_i ds
   split at e
   · rename_i hl
     obtain ⟨a,vs,ev,h1,r1⟩ := of_tup r
     exact .inl ⟨a,vs,ev,av_same.seqT h1,by rw [rps_len r1];exact hl,env,R,A,ds,env',k,r1,e,q⟩
   · cases e
 · rename_i ds
   split at e
   · rename_i hl
     obtain ⟨a,vs,ev,h1,r1⟩ := of_lst r
     exact .inr ⟨a,vs,ev,(av_same.sl h1).sq,by rw [rps_len r1];exact hl,env,R,A,ds,env',k,r1,e,q⟩
   · cases e
 · cases e
end
section
variable {P : Program} {w : World} {A : Around} {E : Value→Shared→Prop} {s : Shared}
end
section
variable {X : Cx} {e : Expr} {fs : Ev→Option (List Dat)}
end
section
variable (P : Program) (w : World)
end
section
variable {P : Program} {w : World} {H H' : Hp} {h h' : Heap} {a : Addr} {o : HO}
end
section
variable {P : Program} {w : World} {H : Hp} {h h' : Heap} {x e : Addr} {o' : HO}
end
section
variable {fs fs' ex ex' : List Addr} {H H1 H2 : Hp} {h h1 h2 h' : Heap} {a x e : Addr} {o : HO}
end
section
variable {X : Cx} {pins : List (Addr×Obj)} {σ : List (Option V)} {H H' : Hp} {s : Shared} {h' : Heap}
end
section
variable {X : Cx}
variable {a b : Expr} {ta tb : TE} {pos : Pos}
variable {tA tB' : TT} {rest : List Expr}
end
section
variable {X : Cx} {pins : List (Addr×Obj)} {σ : St} {H : Hp} {s : Shared} {a : Addr} {xs ys : List V}
end
section
variable {X : Cx} {pins : List (Addr×Obj)} {σ : St} {H : Hp} {s : Shared} {E : Value→Shared→Prop}
end
section
variable {X : Cx} {st : Stmt} {rest : List Stmt} {t u : TS} {e : Expr} {te : TE} {pos : Pos}
end
section
variable {X : Cx} {pos : Pos}
end
section
variable {X : Cx} {pos : Pos}
end
section
variable {X : Cx} {tg : Expr}
end
section
variable {X : Cx} {a b c : Expr} {ta tb tc : TE} {pos : Pos}
end
section
variable {X : Cx} {a b c : Expr} {ta tb tc : TE} {pos : Pos}
end
section
variable {prog : Program} {w : World} {A : Around} {E : Value→Shared→Prop} {s : Shared} {K : PySem.W.Frag} {x dx C f : Addr} {mA : Str→Option Value} {name : Str} {v : Value}
end
section
variable {P : Program} {w : World} {H H' : Hp} {h h' : Heap} {a C dx : Addr} {fs fs' : List (Str×V)}
end
section
variable {X : Cx} {pins : List (Addr×Obj)} {σ : St} {H : Hp} {s : Shared} {a C dx : Addr} {fs : List (Str×V)} {f : Str} {v : V} {A : Around} {E : Value→Shared→Prop}
end
section
variable {X : Cx} {o e value : Expr} {f : Str} {pos pos' tpos : Pos} {ta tv : TE}
end
section
variable {X : Cx} {pins : List (Addr×Obj)} {σ : St} {H : Hp} {s : Shared} {A : Around} {E : Value→Shared→Prop} {Q : Value→Shared→Prop} {c : Value} {b : Bool}
end
section
variable {X : Cx} {e : Expr} {es : List Expr} {te : TE} {t : TA} {pos : Pos}
end
section
variable {X : Cx} {pins : List (Addr×Obj)} {σ : St} {H : Hp} {s s' : Shared}
end
section
variable {X : Cx} {CX : CXT} {k : Nat} {f C : Addr} {fd : FuncData} {ps : List Str} {sp : Sp} {dvs : List V} {ds : List Value} {E : XK} {x m : Str} {p pos apos : Pos} {e o : Expr} {es : List Expr} {ta : TE} {t : TA}
end
section
variable {X : Cx} {CX : CXT} {k : Nat} {f C : Addr} {fd : FuncData} {ps ks : List Str} {sp : Sp} {E : XK} {x m : Str} {p pos apos kpos : Pos} {e o : Expr} {es : List Expr} {kws : List Keyword} {te ta : TE} {t tk : TA} {nm : Option Str}
variable {g : List Value→List Value→List Value} {gV : List V→List V→List V}
end
section
variable {X : Cx} {x : Str} {p pos : Pos} {e : Expr} {es : List Expr} {t : TA} {id T : String} {r : List V→Hp→VK→Prop}
end
section
variable {κ : Type} [DecidableEq κ]
noncomputable def valV (kvs : List (κ×V)) (k : κ) : Option V := (kvs.find? fun kv=>decide (kv.1 = k)).map (·.2)
noncomputable def putK (kvs : List (κ×V)) (k : κ) (v : V) : List (κ×V) :=
 if (kvs.any fun kv=>decide (kv.1 = k)) = true then kvs.map (fun kv=>if kv.1 = k then (kv.1,v) else kv) else kvs ++ [(k,v)]
theorem valV_pos {p : κ×V} {r : List (κ×V)} {k : κ} (e : p.1 = k) : valV (p :: r) k = some p.2 := by simp [valV,List.find?_cons,e]
theorem valV_neg {p : κ×V} {r : List (κ×V)} {k : κ} (e : ¬ p.1 = k) : valV (p :: r) k = valV r k := by simp [valV,List.find?_cons,e]
theorem valV_any (k : κ) : ∀ kvs : List (κ×V),(kvs.any fun kv=>decide (kv.1 = k)) = (valV kvs k).isSome
 | []=>rfl
 | p :: r=>by
   rw [List.any_cons]
   by_cases e : p.1 = k
   · simp only [valV_pos e,decide_eq_true e,Bool.true_or,Option.isSome_some]
   · rw [valV_neg e,decide_eq_false e,Bool.false_or];exact valV_any k r
theorem length_putK (kvs : List (κ×V)) (k : κ) (v : V) : (putK kvs k v).length≤kvs.length + 1 := by
 unfold putK
 split
 · rw [List.length_map];lia
 · rw [List.length_append,List.length_cons,List.length_nil];lia
theorem putK_new {kvs : List (κ×V)} {k : κ} (v : V) (h : valV kvs k = none) : putK kvs k v = kvs ++ [(k,v)] := by
 unfold putK
 rw [valV_any,h]
 exact if_neg (by decide)
theorem RelO.isSome_eq {o : Option V} {u : Option Value} (r : RelO o u) : o.isSome = u.isSome := by
 cases o with
 | none=>cases u with
   | none=>rfl
   | some _=>exact (show False from r).elim
 | some _=>cases u with
   | none=>exact (show False from r).elim
   | some _=>rfl
theorem KV.val {kvs : List (κ×V)} {vs : List (κ×Value)} (r : KV kvs vs) (k : κ) : RelO (valV kvs k) (valueAt vs k) := by
 unfold KV at r
 induction r with
 | nil=>exact True.intro
 | @cons p q ps qs h t ih =>
   obtain ⟨h1,h2⟩ := h
   by_cases e : p.1 = k
   · have e' : q.1 = k := h1.symm.trans e
     have b : valueAt (q :: qs) k = some q.2 := by simp [valueAt,List.find?_cons,e']
     rw [valV_pos e,b];exact h2
   · have e' : ¬ q.1 = k := fun z=>e (h1.trans z)
     have b : valueAt (q :: qs) k = valueAt qs k := by simp [valueAt,List.find?_cons,e']
     rw [valV_neg e,b];exact ih
theorem KV.any {kvs : List (κ×V)} {vs : List (κ×Value)} (r : KV kvs vs) (k : κ) : (kvs.any fun kv=>decide (kv.1 = k)) = vs.any fun kv=>decide (kv.1 = k) := by
 unfold KV at r
 induction r with
 | nil=>rfl
 | cons h t ih=>rw [List.any_cons,List.any_cons,ih,h.1]
theorem KV.repl {kvs : List (κ×V)} {vs : List (κ×Value)} (r : KV kvs vs) (k : κ) {y : V} {u : Value} (ry : RelV y u) :
   KV (kvs.map fun kv=>if kv.1 = k then (kv.1,y) else kv) (vs.map fun kv=>if kv.1 = k then (kv.1,u) else kv) := by
 unfold KV at r ⊢
 induction r with
 | nil=>exact .nil
 | @cons p q ps qs h t ih =>
   rw [List.map_cons,List.map_cons]
   refine .cons ?_ ih
   obtain ⟨h1,h2⟩ := h
   by_cases e : p.1 = k
   · rw [if_pos e,if_pos (h1.symm.trans e)];exact ⟨h1,ry⟩
   · rw [if_neg e,if_neg (fun z=>e (h1.trans z))];exact ⟨h1,h2⟩
theorem KV.put {kvs : List (κ×V)} {vs : List (κ×Value)} (r : KV kvs vs) (k : κ) {y : V} {u : Value} (ry : RelV y u) : KV (putK kvs k y) (stored vs k u) := by
 unfold putK stored
 rw [r.any k]
 by_cases e : (vs.any fun kv=>decide (kv.1 = k)) = true
 · rw [if_pos e,if_pos e];exact r.repl k ry
 · rw [if_neg e,if_neg e];exact Paired.snoc r ⟨rfl,ry⟩
theorem KV.length {kvs : List (κ×V)} {vs : List (κ×Value)} (r : KV kvs vs) : kvs.length = vs.length := Paired.length r
end
theorem kV_is {P : Program} {w : World} {k : Key} {u : Value} (r : RelV (kV k) u) : (mixKind P w).is k u = true := by
 cases k with
 | inl i=>obtain ⟨t,e⟩ := (show ∃ t,u = Value.int i t from r);subst e;exact mixKind_int P w i t
 | inr x=>obtain ⟨t,e⟩ := (show ∃ t,u = Value.str x t from r);subst e;exact mixKind_str P w x t
theorem items_are {P : Program} {w : World} : ∀ {ks : List Key} {us : List Value},Vals (ks.map kV) us→ItemsAre (mixKind P w) ks us
 | [],_,r=>by rw [List.map_nil] at r;cases r;exact .nil
 | k :: ks,_,r=>by
   rw [List.map_cons] at r
   cases r with
   | cons h t=>exact .cons (kV_is h) (items_are t)
abbrev KT (H : Hp) : List (List Key×V)→List (List Key×Addr×Value)→Prop := Paired fun p q=>p.1 = q.1∧H q.2.1 = some (.tup (p.1.map kV))∧RelV p.2 q.2.2
theorem KT.val {H : Hp} {kvs : List (List Key×V)} {xs : List (List Key×Addr×Value)} (r : KT H kvs xs) (k : List Key) : RelO (valV kvs k) ((atKey xs k).map (·.2)) := by
 induction r with
 | nil=>exact True.intro
 | @cons p q ps qs h t ih =>
   obtain ⟨h1,_,h2⟩ := h
   by_cases e : p.1 = k
   · have e' : q.1 = k := h1.symm.trans e
     have b : atKey (q :: qs) k = some q.2 := by simp [atKey,List.find?_cons,e']
     rw [valV_pos e,b];exact h2
   · have e' : ¬ q.1 = k := fun z=>e (h1.trans z)
     have b : atKey (q :: qs) k = atKey qs k := by simp [atKey,List.find?_cons,e']
     rw [valV_neg e,b];exact ih
theorem KT.repl {H : Hp} {kvs : List (List Key×V)} {xs : List (List Key×Addr×Value)} (r : KT H kvs xs) (k : List Key) {y : V} {u : Value} (ry : RelV y u) :
   KT H (kvs.map fun kv=>if kv.1 = k then (kv.1,y) else kv) (xs.map (putAt k u)) := by
 induction r with
 | nil=>exact .nil
 | @cons p q ps qs h t ih =>
   rw [List.map_cons,List.map_cons]
   refine .cons ?_ ih
   obtain ⟨h1,h2,h3⟩ := h
   unfold putAt
   by_cases e : p.1 = k
   · rw [if_pos e,if_pos (h1.symm.trans e)];exact ⟨h1,h2,ry⟩
   · rw [if_neg e,if_neg (fun z=>e (h1.trans z))];exact ⟨h1,h2,h3⟩
theorem KT.put {H : Hp} {kvs : List (List Key×V)} {xs : List (List Key×Addr×Value)} (r : KT H kvs xs) (k : List Key) {b : Addr} {y : V} {u : Value} (hb : H b = some (.tup (k.map kV))) (ry : RelV y u) :
   KT H (putK kvs k y) (storedH xs k b u) := by
 have e : (kvs.any fun kv=>decide (kv.1 = k)) = (atKey xs k).isSome := by
   rw [valV_any,(r.val k).isSome_eq,Option.isSome_map]
 unfold putK storedH
 rw [e]
 by_cases q : (atKey xs k).isSome = true
 · rw [if_pos q,if_pos q];exact r.repl k ry
 · rw [if_neg q,if_neg q];exact Paired.snoc r ⟨rfl,hb,ry⟩
theorem KT.keeps {H H' : Hp} {kvs : List (List Key×V)} {xs : List (List Key×Addr×Value)} (r : KT H kvs xs) (ht : ∀ b ys,H b = some (.tup ys)→H' b = some (.tup ys)) : KT H' kvs xs :=
 Paired.mapP r fun _ _ z=>⟨z.1,ht _ _ z.2.1,z.2.2⟩
section
variable {P : Program} {w : World} {H : Hp} {h : Heap} {a : Addr}
theorem rd_of {u : HO} (ok : HOk P w H h) (e : Rd H a u) : ObjOk P w H h a u := e.ok ok
theorem dk_rd {kvs : List (Key×V)} (ok : HOk P w H h) (e : Rd H a (.dK kvs)) : kvs.length≤sizeLine∧(a == sysModules) = false∧∃ vs,KV kvs vs∧h.DictOf (mixKind P w) a vs :=
 show ObjOk P w H h a (.dK kvs) from rd_of ok e
theorem dk_of {kvs : List (Key×V)} (ok : HOk P w H h) (e : H a = some (.dK kvs)) : kvs.length≤sizeLine∧(a == sysModules) = false∧∃ vs,KV kvs vs∧h.DictOf (mixKind P w) a vs := dk_rd ok (.inl e)
theorem key_of {ks : List Key} (ok : HOk P w H h) (e : H a = some (.tup (ks.map kV))) : (tupleKind (mixKind P w)).is h ks a := by
 obtain ⟨_,its,r,o,h1,h2,n,h3⟩ := (show ObjOk P w H h a (.tup (ks.map kV)) from ok a _ e)
 exact ⟨o,its.toArray,n,h1,h2,h3,by simpa using items_are r⟩
theorem dt_rd {kvs : List (List Key×V)} (ok : HOk P w H h) (e : Rd H a (.dT kvs)) : kvs.length≤sizeLine∧(a == sysModules) = false ∧
   ∃ xs,KT H kvs xs∧h.DictOfH (tupleKind (mixKind P w)) a xs := by
 obtain ⟨z,y,xs,r,o,es,ep,h1,h2,h3,h4,h5⟩ := (show ObjOk P w H h a (.dT kvs) from rd_of ok e)
 refine ⟨z,y,xs,r,o,es,ep,h1,h2,h3,h4,fun x hx=>?_,h5⟩
 have all : ∀ {l : List (List Key×V)} {m : List (List Key×Addr×Value)},KT H l m→∀ x∈m,(tupleKind (mixKind P w)).is h x.1 x.2.1 := by
   intro l m q
   induction q with
   | nil=>intro x hx;exact nomatch hx
   | @cons p q ps qs hq t ih =>
     intro x hx
     rcases List.mem_cons.mp hx with e | hx
     · subst e
       exact key_of ok (by rw [← hq.1];exact hq.2.1)
     · exact ih x hx
 exact all r x hx
theorem dt_of {kvs : List (List Key×V)} (ok : HOk P w H h) (e : H a = some (.dT kvs)) : kvs.length≤sizeLine∧(a == sysModules) = false ∧
   ∃ xs,KT H kvs xs∧h.DictOfH (tupleKind (mixKind P w)) a xs := dt_rd ok (.inl e)
end
def DGet (H : Hp) (a : Addr) (y : V) (r : Option V) : Prop :=
 (∃ kvs k,Rd H a (.dK kvs)∧y = kV k∧r = valV kvs k)∨∃ kvs k b,Rd H a (.dT kvs)∧y = .ref b∧H b = some (.tup (k.map kV))∧r = valV kvs k
def DPut (H : Hp) (a : Addr) (y v : V) (H' : Hp) : Prop :=
 (∃ kvs k,H a = some (.dK kvs)∧y = kV k∧kvs.length < sizeLine∧H' = upd H a (.dK (putK kvs k v))) ∨
 ∃ kvs k b,H a = some (.dT kvs)∧y = .ref b∧H b = some (.tup (k.map kV))∧kvs.length < sizeLine∧H' = upd H a (.dT (putK kvs k v))
theorem DGet.t {H : Hp} {a b : Addr} {kvs : List (List Key×V)} {k : List Key} (e : H a = some (.dT kvs)) (eb : H b = some (.tup (k.map kV))) : DGet H a (.ref b) (valV kvs k) := .inr ⟨kvs,k,b,.inl e,rfl,eb,rfl⟩
theorem DPut.t {H : Hp} {a b : Addr} {kvs : List (List Key×V)} {k : List Key} {v : V} (e : H a = some (.dT kvs)) (eb : H b = some (.tup (k.map kV))) (hl : kvs.length < sizeLine) :
   DPut H a (.ref b) v (upd H a (.dT (putK kvs k v))) := .inr ⟨kvs,k,b,e,rfl,eb,hl,rfl⟩
section
variable {X : Cx} {pins : List (Addr×Obj)} {σ : St} {H : Hp} {s : Shared} {a : Addr} {y v : V} {u r : Value} {o : Option V} {A : Around} {E : Value→Shared→Prop}
theorem Inv.big (I : Inv X pins σ H s) : sysModules < s.heap.objs.size := by
 have h : mainGlobals < s.heap.objs.size := (I.mod.glob.keeps I.bk).lt
 exact Nat.lt_trans (by decide) h
theorem d_in {Q : Value→Shared→Prop} (hu : A.units + 1 < cLine) (I : Inv X pins σ H s) (g : DGet H a y o) (ry : RelV y u) (h : ∀ s',Inv X pins σ H s'→Q (.bool o.isSome) s') :
   wpAny (model X.prog X.w) A (compareOp .In u (.ref a)) Q E s := by
 rcases g with ⟨kvs,k,e,ey,l⟩ | ⟨kvs,k,b,e,ey,eb,l⟩
 · subst ey
   obtain ⟨z,hd,vs,rel,dd⟩ := dk_rd I.hok e
   refine wpAny_in_of (kV_is ry) hd dd.mapOf ?_
   rw [← (rel.val k).isSome_eq,← l]
   exact h _ (I.tok _)
 · subst ey
   cases (show u = Value.ref b from ry)
   obtain ⟨z,hd,xs,rel,dd⟩ := dt_rd I.hok e
   refine wpAny_in_heap (tupleKind_room_in1 hu) (key_of I.hok eb) hd dd ?_
   have q := (rel.val k).isSome_eq
   rw [Option.isSome_map] at q
   rw [← q,← l]
   exact h _ (I.tok _)
theorem d_notIn {Q : Value→Shared→Prop} (hu : A.units + 1 < cLine) (I : Inv X pins σ H s) (g : DGet H a y o) (ry : RelV y u) (h : ∀ s',Inv X pins σ H s'→Q (.bool (!o.isSome)) s') :
   wpAny (model X.prog X.w) A (compareOp .NotIn u (.ref a)) Q E s := by
 rcases g with ⟨kvs,k,e,ey,l⟩ | ⟨kvs,k,b,e,ey,eb,l⟩
 · subst ey
   obtain ⟨z,hd,vs,rel,dd⟩ := dk_rd I.hok e
   refine wpAny_notIn_of (kV_is ry) hd dd.mapOf ?_
   rw [← (rel.val k).isSome_eq,← l]
   exact h _ (I.tok _)
 · subst ey
   cases (show u = Value.ref b from ry)
   obtain ⟨z,hd,xs,rel,dd⟩ := dt_rd I.hok e
   refine wpAny_notIn_heap (tupleKind_room_in1 hu) (key_of I.hok eb) hd dd ?_
   have q := (rel.val k).isSome_eq
   rw [Option.isSome_map] at q
   rw [← q,← l]
   exact h _ (I.tok _)
theorem d_write {h' : Heap} {t' : Nat} {ob : HO} (I : Inv X pins σ H s) (mu : Mut (H a)) (hs : Heap.SameBut a s.heap h') (he : ∃ q,h'.get? a = some q) (new : ObjOk X.prog X.w (upd H a ob) h' a ob) :
   Inv X pins σ (upd H a ob) { s with heap := h',toks := t' } :=
 I.write (x:=a) (e:=a) mu (.inl rfl) (fun b q hb z=>(hs.2 b hb).trans z) he new
theorem dk_new {P : Program} {w : World} {H' : Hp} {h' : Heap} {kvs : List (Key×V)} {vs : List (Key×Value)} (z : kvs.length≤sizeLine) (hd : (a == sysModules) = false) (rel : KV kvs vs) (dd : h'.DictOf (mixKind P w) a vs) :
   ObjOk P w H' h' a (.dK kvs) := ⟨z,hd,vs,rel,dd⟩
theorem d_setItem {H' : Hp} {Q : Unit→Shared→Prop} (hu : A.units + 1 < cLine) (I : Inv X pins σ H s) (g : DPut H a y v H') (ry : RelV y u) (rv : RelV v r) (h : ∀ s',Inv X pins σ H' s'→Q () s') :
   wpAny (model X.prog X.w) A (setItem (.ref a) u r) Q E s := by
 rcases g with ⟨kvs,k,e,ey,l,eH⟩ | ⟨kvs,k,b,e,ey,eb,l,eH⟩
 · subst ey eH
   obtain ⟨z,hd,vs,rel,dd⟩ := dk_of I.hok e
   have hz : vs.length≤sizeLine := by rw [← rel.length];exact z
   have hl : (putK kvs k v).length≤sizeLine := by have := length_putK kvs k v;lia
   refine wpAny_setItem_pairs (hsz:=hz) (kV_is ry) dd fun h' dd' hs=>h _ ?_
   have he : ∃ q,h'.get? a = some q := let ⟨q,_,_,hq,_⟩ := dd';⟨q,hq⟩
   exact d_write I (by rw [e];exact True.intro) hs he (dk_new hl hd (rel.put k rv) dd')
 · subst ey eH
   cases (show u = Value.ref b from ry)
   obtain ⟨z,hd,xs,rel,dd⟩ := dt_of I.hok e
   have hz : xs.length≤sizeLine := by rw [← Paired.length rel];exact z
   have hl : (putK kvs k v).length≤sizeLine := by have := length_putK kvs k v;lia
   refine wpAny_setItem_heap (hsz:=hz) (tupleKind_room_in1 hu) (key_of I.hok eb) dd fun h' dd' hs=>h _ ?_
   obtain ⟨q,es,ep,hq,h2,h3,h4,_,h5⟩ := dd'
   refine d_write I (by rw [e];exact True.intro) hs ⟨q,hq⟩ ⟨hl,hd,_,(rel.put k eb rv).keeps fun c ys ec=>?_,q,es,ep,hq,h2,h3,h4,h5⟩
   rw [upd_ne (ne_of ec e (fun z=>nomatch z))]
   exact ec
end
section
variable {X : Cx} {pins : List (Addr×Obj)} {σ : St} {H : Hp} {s : Shared} {a : Addr} {kvs : List (Key×V)} {k : Key} {u : Value} {A : Around} {E : Value→Shared→Prop}
end
def tDIn (ty td : TE) : TE := fun σ H Q=>ty σ H fun y H1=>td σ H1 fun x H2=>∃ a o,x = .ref a∧DGet H2 a y o∧Q (.bl o.isSome) H2
def tDNotIn (ty td : TE) : TE := fun σ H Q=>ty σ H fun y H1=>td σ H1 fun x H2=>∃ a o,x = .ref a∧DGet H2 a y o∧Q (.bl (!o.isSome)) H2
def sDPut (td ty tv : TE) : TS := fun D σ H=>tv σ H fun v H1=>td σ H1 fun x H2=>ty σ H2 fun y H3=>∃ a H4,x = .ref a∧DPut H3 a y v H4∧D.nx σ H4
section
variable {X : Cx} {o i e value : Expr} {pos pos' tpos : Pos} {td ty tv : TE}
theorem pc_din (hu : X.A.units + 1 < cLine) (hi : PE X i ty) (ho : PE X o td) : PC X .In i o (tDIn ty td) := by
 intro pins s σ H Q I h
 refine thn (hi pins s σ H _ I h) fun iv s1 ⟨y,H1,I1,ry,q1⟩=>thn (ho pins s1 σ H1 _ I1 q1) fun u s2 ⟨x,H2,I2,rx,a,ov,ex,g,q2⟩=>?_
 subst ex
 obtain rfl : u = Value.ref a := rx
 exact d_in hu I2 g ry fun s3 I3=>⟨.bl ov.isSome,H2,I3,rfl,q2⟩
theorem pc_dnotin (hu : X.A.units + 1 < cLine) (hi : PE X i ty) (ho : PE X o td) : PC X .NotIn i o (tDNotIn ty td) := by
 intro pins s σ H Q I h
 refine thn (hi pins s σ H _ I h) fun iv s1 ⟨y,H1,I1,ry,q1⟩=>thn (ho pins s1 σ H1 _ I1 q1) fun u s2 ⟨x,H2,I2,rx,a,ov,ex,g,q2⟩=>?_
 subst ex
 obtain rfl : u = Value.ref a := rx
 exact d_notIn hu I2 g ry fun s3 I3=>⟨.bl (!ov.isSome),H2,I3,rfl,q2⟩
theorem ps_dput (hu : X.A.units + 1 < cLine) (ho : PE X o td) (hi : PE X i ty) (hv : PE X value tv) (hs : swapsWith value (some (.Subscript o i pos')) pos.line X.env = pure false) :
   PS X (.Assign [.Subscript o i pos'] value pos) (sDPut td ty tv) := by
 intro pins s σ H D I h
 refine wpAny_Assign_Subscript (thn (hv pins s σ H _ I h) fun r s1 ⟨v,H1,I1,rv,q1⟩=>thn (ho pins s1 σ H1 _ I1 q1) fun u s2 ⟨x,H2,I2,rx,q2⟩=>thn (hi pins s2 σ H2 _ I2 q2) fun iv s3 ⟨y,H3,I3,ry,a,H4,ex,g,q3⟩=>?_) hs
 subst ex
 obtain rfl : u = Value.ref a := rx
 exact d_setItem hu I3 g ry rv fun s4 I4=>⟨σ,H4,I4,q3⟩
end
theorem dt_empty {P : Program} {w : World} {H : Hp} (h : Heap) (hb : sysModules < h.objs.size) : ObjOk P w H (h.push { cls := .type "dict",data := .dict #[] }) h.objs.size (.dT []) :=
 ⟨Nat.zero_le _,beq_eq_false_iff_ne.mpr (Ne.symm (Nat.ne_of_lt hb)),[],.nil,_,#[],0,Heap.get?_push_size _ rfl,⟨rfl,rfl,rfl⟩,rfl,rfl,List.nodup_nil⟩
section
variable {X : Cx} {pos : Pos}
end
section
variable {X : Cx} {pins : List (Addr×Obj)} {σ : St} {H : Hp} {s : Shared} {a : Addr} {y d : V} {u r : Value} {o : Option V} {A : Around} {E : Value→Shared→Prop}
end
section
variable {X : Cx} {o e f : Expr} {apos cpos : Pos} {td ty tx : TE}
end
section
variable {X : Cx} {pins : List (Addr×Obj)} {σ : St} {H : Hp} {s : Shared} {a : Addr} {kvs : List (Key×V)} {A : Around} {E : Value→Shared→Prop}
end
section
variable {X : Cx} {pins : List (Addr×Obj)} {σ : St} {H : Hp} {s : Shared} {a : Addr} {y : V} {u : Value} {A : Around} {E : Value→Shared→Prop}
end
end L2
namespace Att
open PySem PySem.W PySem.Calls PyProof.Rows
section
variable {prog : Program} {w : World} {A : Around} {E : Value→Shared→Prop} {s : Shared} {K : Frag}
end
end Att
namespace L2
open PySem PySem.Spec PyProof.Rows
section
variable {P : Program} {w : World} {K : PySem.W.Frag} {mg : Str→Option Value} {base : Heap}
end
section
variable {X : Cx}
end
section
variable {κ : Type} [DecidableEq κ]
end
noncomputable def keyD : Dat→Option (List Key)
 | .tup [.int a,.int b]=>some [.inl a,.inl b]
 | _=>none
theorem key_dat {K : PySem.W.Frag} {A : AS} {H : Hp} {d : Dat} {v : V} {ks : List Key} (e : keyD d = some ks) (r : Pk K A H d v) : ∃ p,v = .ref p∧H p = some (.tup (ks.map kV)) := by
 unfold keyD at e
 split at e
 · rename_i a b
   cases e
   obtain ⟨p,vs,e1,h1,r1⟩ := r.tup
   have ev : vs = [.int a,.int b] := rps_of_ints (ns:=[a,b]) r1
   subst ev
   rcases h1 with h1 | ⟨_,_,_,_,_,_,_,_,h2⟩
   · exact ⟨p,e1,h1⟩
   · exact absurd List.mem_cons_self (h2 a)
 · cases e
noncomputable def dKeys (kvs : List (List Key×Dat)) (ks : List Key) : Bool := (kvs.map (·.1)).any fun x=>decide (x = ks)
theorem val_some {us : List (List Key×V)} {k : List Key} : (valV us k).isSome = (us.map (·.1)).any fun x=>decide (x = k) := by
 rw [List.any_map,← valV_any]
 congr 1
section
variable {X : Cx} {pos : Pos} {e : Expr} {f g : Ev→Option Dat} {m fr : Bool}
noncomputable def dDin (neg : Bool) (i : Nat) (f : Ev→Option Dat) : Ev→Option Dat := fun env=>match env[i]?,f env with
 | some (.gx (.dict kvs)),some d=>(keyD d).map fun ks=>.bl (if neg then !dKeys kvs ks else dKeys kvs ks)
 | _,_=>none
theorem EnvOk.dictA {K : PySem.W.Frag} {B : Bs} {A : AS} {H : Hp} {σ : St} {env : Ev} {i : Nat} {kvs : List (List Key×Dat)} (k : EnvOk K B A H σ env) (h : env[i]? = some (.gx (.dict kvs))) :
   ∃ (a : Addr) (us : List (List Key×V)),σ[i]? = some (some (.ref a))∧H a = some (.dT us)∧us.map (·.1) = kvs.map (·.1) := by
 obtain ⟨own,h1,h2,h4⟩ := k.sl
 obtain ⟨x,q1,v,e1,a,us,e2,e3,e4,e5,e6,e7⟩ := h4 i _ h
 subst e1 e2
 exact ⟨a,us,q1,e5,e6⟩
noncomputable def sDPutN (i : Nat) (fk fv : Ev→Option Dat) : Ev→Fl := fun env=>match env[i]?,fv env,fk env with
 | some (.gx (.dict kvs)),some d,some y=>match keyD y with
   | some ks=>if dKeys kvs ks = false∧kvs.length < sizeLine then .next (env.set i (.gx (.dict (kvs ++ [(ks,d)])))) else .no
   | none=>.no
 | _,_,_=>.no
theorem s_dput (i : Nat) {x : Str} {ix : Expr} {p pos' : Pos} (hu : X.A.units + 1 < cLine) (ha : PXd true X ix f) (hb : PXd false X e g)
   (hN : X.N[i]? = some x := by rfl) (hv : Vis X.env.scope x := by first | exact Or.inl rfl | exact Or.inr (Or.inl rfl) | exact Or.inr (Or.inr rfl)) (hd : (x == ("__debug__" : Str)) = false := by decide) (hcd : (x == ("__classdict__" : Str)) = false := by decide)
   (hs : swapsWith e (some (.Subscript (.Name x p) ix pos')) pos.line X.env = pure false := by rfl) :
   PSd fr X (.Assign [.Subscript (.Name x p) ix pos'] e pos) (sDPutN i f g) := (ps_dput hu (pe_var hN hv hd hcd) ha hb hs).weak fun D σ H zz=>by
 obtain ⟨env,B,A,k,hst,q⟩ := zz
 unfold sDPutN at q
 split at q
 · rename_i kvs d y h1 h2 h3
   split at q
   · rename_i ks hk
     split at q
     · rename_i hc
       obtain ⟨a,us,s1,s2,s3⟩ := k.dictA h1
       refine ⟨env,B,A,d,k,h2,fun v H1 sm1 r1=>⟨.ref a,s1,env,B,A,y,k.mono sm1,h3,fun u H2 sm2 r2=>?_⟩⟩
       obtain ⟨b,e4,e5⟩ := key_dat hk r2.pk
       subst e4
       have sm := sm1.trans sm2
       have k3 := k.mono sm
       obtain ⟨v0,o,m1,m2,m3,m4⟩ := k3.gx hst h1
       rw [s1] at m1
       cases m1
       obtain ⟨a',us',z1,z2,z3,z4,z5,z6⟩ := m2
       cases z1
       have eus : us' = us := by
         have := sm _ _ s2
         rw [z4] at this
         exact HO.dT.inj (Option.some.inj this)
       subst eus
       have hno : valV us' ks = none := by
         have := val_some (us:=us') (k:=ks)
         rw [s3] at this
         have h9 : dKeys kvs ks = false := hc.1
         unfold dKeys at h9
         rw [h9] at this
         cases h8 : valV us' ks with
         | none=>rfl
         | some _=>rw [h8] at this;cases this
       have hul : us'.length = kvs.length := by have := congrArg List.length s3;rwa [List.length_map,List.length_map] at this
       have ep : putK us' ks v = us' ++ [(ks,v)] := putK_new v hno
       refine ⟨a,upd H2 a (.dT (us' ++ [(ks,v)])),rfl,by rw [← ep];exact DPut.t (sm _ _ s2) e5 (by rw [hul];exact hc.2),?_⟩
       have hA : A a = true := (m3 a z2).1
       have avs : Same (av H2 A) (av (upd H2 a (.dT (us' ++ [(ks,v)]))) A) := fun c o2 ec=>by
         obtain ⟨y1,y2⟩ := av_of ec
         have hc : c≠a := by intro z;rw [z,hA] at y1;cases y1
         exact av_at (by rw [upd_ne hc];exact y2) y1
       have hg : GOk X.K A (upd H2 a (.dT (us' ++ [(ks,v)]))) o (.dict (kvs ++ [(ks,d)])) (.ref a) := by
         refine ⟨a,us' ++ [(ks,v)],rfl,z2,by rw [List.length_append];exact hc.2,upd_same,by rw [List.map_append,List.map_append,s3];rfl,?_⟩
         rw [List.map_append,List.map_append]
         exact rps_append (z6.mono avs) (rps_one ((Rp.mono (av_mono sm2) (show Rp X.K (av H1 A) d v from r1)).mono avs))
       obtain ⟨w1,w2⟩ := m4 a (.dT (us' ++ [(ks,v)])) _ z2 trivial hg
       exact q A _ σ ((Step.same sm).trans w1) w2
     · exact q.elim
   · exact q.elim
 · exact q.elim
def tDisp1 (tk tv : TE) : TE := fun σ H Q=>∀ p,H p = none→tk σ (upd H p (.dT [])) fun y H1=>tv σ H1 fun x H2=>H2 p = some (.dT [])∧∃ ks b,y = .ref b∧H2 b = some (.tup (ks.map kV))∧Q (.ref p) (upd H2 p (.dT [(ks,x)]))
theorem eval_disp1 {prog : Program} {w : World} {A : Around} {E : Value→Shared→Prop} {s : Shared} {env : Env} {K : Type} [DecidableEq K] {knd : HeapKind prog w K} {k v : Expr} {pos : Pos} {Q : Value→Shared→Prop}
   (h : wpAny (model prog w) A (evalPairs (pairTrees [some k] [v] env pos)) (fun vs s₁=>∃ b x ks,vs = [(.ref b,x)]∧knd.room A∧knd.is s₁.heap ks b∧s₁.heap.DictOfH knd s.heap.objs.size [] ∧
     ∀ h',h'.DictOfH knd s.heap.objs.size (storedH [] ks b x)→Heap.SameBut s.heap.objs.size s₁.heap h'→Q (.ref s.heap.objs.size) { s₁ with heap := h',toks := s₁.toks + knd.draws ks }) E
     { s with heap := s.heap.push { cls := .type "dict",data := .dict #[] } }) :
   wpAny (model prog w) A (eval (.Dict [some k] [v] pos) env) Q E s := by
 rw [arm_eval_Dict,zip_pairTrees [some k] [v] env pos rfl rfl,dictDisplay_pairs (pairTrees [some k] [v] env pos) (by simp [pairTrees]) (by simp [pairTrees])]
 refine wpAny_bind (wpAny_standAt (wpAny_bind ?_))
 unfold subDict
 refine wpAny_bind (wpAny_alloc ?_)
 refine wpAny_bind (wpAny_holding ?_)
 rw [if_pos (by simp [pairTrees])]
 refine wpAny_bind (wpAny_mono h (fun vs s₁ h₁=>?_) fun _ _ e=>e)
 obtain ⟨b,x,ks,rfl,hr,hk,hm,hq⟩ := h₁
 refine wpAny_holding ?_
 rw [List.forIn_cons]
 refine wpAny_bind (wpAny_bind (wpAny_bind (wpAny_dictSet_heap hr hk hm (fun h' a c=>wpAny_pure ?_) (Nat.zero_le _))))
 show wpAny _ _ (forIn ([] : List (Value×Value)) PUnit.unit _) _ _ _
 rw [List.forIn_nil]
 exact wpAny_pure (wpAny_pure (wpAny_pure (wpAny_pure (hq h' a c))))
theorem pe_disp1 {k v : Expr} {tk tv : TE} (hu : X.A.units + 1 < cLine) (hk : PE X k tk) (hv : PE X v tv) : PE X (.Dict [some k] [v] pos) (tDisp1 tk tv) := by
 intro pins s σ H Q I q
 have hn := I.hok.fresh (Nat.le_refl s.heap.objs.size)
 have I1 := I.laid (a:=s.heap.objs.size) (o:=.dT []) (h' := s.heap.push { cls := .type "dict",data := .dict #[] }) (t' := s.toks) (fun _ _ q=>Heap.get?_push_of_some _ q) (Nat.le_refl _) (dt_empty s.heap I.big)
 refine eval_disp1 (knd:=tupleKind (mixKind X.prog X.w)) (pairTrees_cons_walk (thn (hk pins _ σ _ _ I1 (q _ hn)) fun u s1 ⟨y,H1,I2,ry,q1⟩=>thn (hv pins s1 σ H1 _ I2 q1) fun u2 s2 ⟨x,H2,I3,rx,q2⟩=>pairTrees_nil_walk ?_))
 obtain ⟨hp,ks,b,ey,eb,q3⟩ := q2
 subst ey
 cases (show u = Value.ref b from ry)
 obtain ⟨z,hd,xs,rel,dd⟩ := dt_of I3.hok hp
 cases rel
 refine ⟨b,u2,ks,rfl,(show X.A.units < cLine by lia),key_of I3.hok eb,dd,fun h' dd' hs=>⟨.ref s.heap.objs.size,_,?_,rfl,q3⟩⟩
 obtain ⟨q,es,ep,hq,h2,h3,h4,_,h5⟩ := dd'
 have r1 := (KT.put (H:=H2) (kvs:=[]) (xs:=[]) .nil ks eb rx)
 refine d_write I3 (by rw [hp];exact True.intro) hs ⟨q,hq⟩ ⟨by show 1≤sizeLine;decide,hd,_,r1.keeps fun c ys ec=>?_,q,es,ep,hq,h2,h3,h4,h5⟩
 rw [upd_ne (ne_of ec hp (fun z=>nomatch z))]
 exact ec
noncomputable def sOwnD (i : Nat) (fk fv : Ev→Option Dat) : Ev→Fl := fun env=>match fk env,fv env with
 | some y,some (.bl d)=>match keyD y with
   | some ks=>.next (env.set i (.gx (.dict [(ks,.bl d)])))
   | none=>.no
 | _,_=>.no
theorem s_ownD (i : Nat) {x : Str} {kx : Expr} {pos' dpos : Pos} (hN : X.N.Nodup) (hi : X.N[i]? = some x) (hx : Loc X.env.scope x) (hu : X.A.units + 1 < cLine) (ha : PXd true X kx f) (hb : PXd false X e g)
   (hs : swapsWith (.Dict [some kx] [e] dpos) (some (.Name x pos')) pos.line X.env = pure false := by rfl)
   (hf : X.fn x = true∨X.env.scope.names.lookup x = some .local := by first | exact .inl rfl | exact .inr rfl | assumption) :
   PSd fr X (.Assign [.Name x pos'] (.Dict [some kx] [e] dpos) pos) (sOwnD i f g) := (ps_set hN hi hx (pe_disp1 hu ha hb) hs hf).weak fun D σ H zz=>by
 obtain ⟨env,B,A,k,hst,q⟩ := zz
 unfold sOwnD at q
 split at q
 · rename_i y d h1 h2
   split at q
   · rename_i ks hk
     intro p hp
     have sm0 : Same H (upd H p (.dT [])) := Same.new hp
     refine ⟨env,B,A,y,k.mono sm0,h1,fun u H1 sm1 r1=>⟨env,B,A,.bl d,(k.mono sm0).mono sm1,h2,fun v H2 sm2 r2=>⟨sm2 _ _ (sm1 _ _ upd_same),?_⟩⟩⟩
     obtain ⟨b,e4,e5⟩ := key_dat hk r1.pk
     refine ⟨ks,b,e4,sm2 _ _ e5,?_⟩
     have smH : Same H (upd H2 p (.dT [(ks,v)])) := fun c o ec=>by
       rw [upd_ne (fun z=>by rw [z,hp] at ec;cases ec)]
       exact sm2 _ _ (sm1 _ _ (sm0 _ _ ec))
     have h9 := k.putG hst i (g:=.dict [(ks,.bl d)]) (v:=.ref p) (S:=fun b=>decide (b = p)) smH (fun b hb=>by rw [of_decide_eq_true hb];exact hp) (fun b hb=>by rw [of_decide_eq_true hb,upd_same];trivial) ⟨p,[(ks,v)],rfl,by simp,by show 1≤sizeLine;decide,upd_same,rfl,rps_one ?_⟩
     · exact q _ _ _ h9.1 h9.2
     · rw [(show Rp X.K (av H2 A) (.bl d) v from r2) |> of_bl];exact rp_bl
   · exact q.elim
 · exact q.elim
end
end L2
namespace L2
open PySem PySem.Spec PyProof.Rows PySem.W
noncomputable def sTryN (g : Ev→Fl) : Ev→Fl := fun env=>match g env with
 | .exc _ _ _=>.no
 | r=>r
section
variable {X : Cx} {fr : Bool} {g : Ev→Fl} {body : List Stmt} {h₀ : ExceptHandler} {hs : List ExceptHandler} {pos : Pos}
theorem s_tryNo (hb : ∀ pn,PBd fr (X.inTry pn (fun _ _=>False)) body g) : PSd fr X (.Try body (h₀ :: hs) [] [] pos) (sTryN g) := by
 intro pins s σ H D I zz
 obtain ⟨env,B,A,kk,hst,q⟩ := zz
 have flok : FlOk fr (X.inTry (X.pn ++ pins) (fun _ _=>False)) B A H D (g env) := by
   unfold sTryN at q
   cases eg : g env with
   | next e'=>rw [eg] at q;exact q
   | brk e'=>rw [eg] at q;exact q
   | cont e'=>rw [eg] at q;exact q
   | ret d=>rw [eg] at q;exact q
   | no=>rw [eg] at q;exact q
   | exc env' c fl=>rw [eg] at q;exact q.elim
 refine wpAny_Try_except (wpAny_mono (hb (X.pn ++ pins) [] s σ H D I.toTry ⟨env,B,A,kk,hst,flok⟩) (fun f s₁ hs=>?_) (fun e s₁ hx=>hx.elim))
 cases f with
 | next=>obtain ⟨σ',H',I',q'⟩ := hs;exact wpAny_pure ⟨σ',H',I'.ofTry I.ok,q'⟩
 | brk=>obtain ⟨σ',H',I',q'⟩ := hs;exact ⟨σ',H',I'.ofTry I.ok,q'⟩
 | cont=>obtain ⟨σ',H',I',q'⟩ := hs;exact ⟨σ',H',I'.ofTry I.ok,q'⟩
 | ret u=>obtain ⟨v,σ',H',I',r',q'⟩ := hs;exact ⟨v,σ',H',I'.ofTry I.ok,r',q'⟩
variable {e a b c : Expr} {f1 f2 f3 : Ev→Option Dat} {F1 F2 : Dat→Dat→Option Dat} {m1 m2 m3 : Bool}
noncomputable def sAug (i : Nat) (f : Ev→Option Dat) : Ev→Fl := fun env=>match env[i]?,f env with
 | some (.fz (.int x)),some (.int y)=>.next (env.set i (.fz (.int (x + y))))
 | _,_=>.no
theorem s_aug (i : Nat) {x : Str} {pos' : Pos} (hN : X.N.Nodup) (hi : X.N[i]? = some x) (hx : Loc X.env.scope x) (he : PXd m1 X e f1)
   (hf : X.fn x = true∨X.env.scope.names.lookup x = some .local := by first | exact .inl rfl | exact .inr rfl | assumption) : PSd fr X (.AugAssign (.Name x pos') .Add e pos) (sAug i f1) := (ps_aug hN hi hx he ip_add hf).weak fun D σ H zz=>by
 obtain ⟨env,B,A,k,hst,q⟩ := zz
 unfold sAug at q
 split at q
 · rename_i n m h1 h2
   obtain ⟨own,z1,z2,z4⟩ := k.sl
   obtain ⟨w,q1,v,e1,e2⟩ := z4 i _ h1
   subst e1
   have ev : v = .int n := of_int e2
   subst ev
   refine ⟨.int n,q1,env,B,A,.int m,k,h2,fun y H1 s1 r1=>?_⟩
   refine ⟨n,m,rfl,r1.pk.int,?_⟩
   exact q A H1 _ (Step.same s1) ((k.mono s1).put i rp_int)
 · exact q.elim
theorem tDin (i : Nat) {x : Str} {p : Pos} (hu : X.A.units + 1 < cLine) (he : PXd true X e f1) (hN : X.N[i]? = some x := by rfl) (hv : Vis X.env.scope x := by first | exact Or.inl rfl | exact Or.inr (Or.inl rfl) | exact Or.inr (Or.inr rfl)) (hd : (x == ("__debug__" : Str)) = false := by decide) (hcd : (x == ("__classdict__" : Str)) = false := by decide)
   (hm : behindInMarks .In (.Name x p) = false := by rfl) : PTd X (.Compare e [.In] [.Name x p] pos) (dB (dDin false i f1)) := (pt_cmp (pc_din hu he (pe_var hN hv hd hcd)) hm).weak fun σ H Q zz=>by
 obtain ⟨env,R,A,d,k,e1,q⟩ := zz
 have e1 := dB_some e1
 unfold dDin at e1
 split at e1
 · rename_i kvs d0 h1 h2
   obtain ⟨ks,hk,e3⟩ := map_some e1
   have e4 := Dat.bl.inj e3
   subst e4
   obtain ⟨a,us,s1,s2,s3⟩ := k.dictA h1
   refine ⟨env,R,A,d0,k,h2,fun y H1 sm r1=>⟨.ref a,s1,a,valV us ks,rfl,?_,_,rfl,?_⟩⟩
   · obtain ⟨b,e4,e5⟩ := key_dat hk r1.pk
     subst e4
     exact DGet.t (sm _ _ s2) e5
   · rw [val_some,s3]
     exact q H1 sm
 · cases e1
theorem tDnin (i : Nat) {x : Str} {p : Pos} (hu : X.A.units + 1 < cLine) (he : PXd true X e f1) (hN : X.N[i]? = some x := by rfl) (hv : Vis X.env.scope x := by first | exact Or.inl rfl | exact Or.inr (Or.inl rfl) | exact Or.inr (Or.inr rfl)) (hd : (x == ("__debug__" : Str)) = false := by decide) (hcd : (x == ("__classdict__" : Str)) = false := by decide)
   (hm : behindInMarks .NotIn (.Name x p) = false := by rfl) : PTd X (.Compare e [.NotIn] [.Name x p] pos) (dB (dDin true i f1)) := (pt_cmp (pc_dnotin hu he (pe_var hN hv hd hcd)) hm).weak fun σ H Q zz=>by
 obtain ⟨env,R,A,d,k,e1,q⟩ := zz
 have e1 := dB_some e1
 unfold dDin at e1
 split at e1
 · rename_i kvs d0 h1 h2
   obtain ⟨ks,hk,e3⟩ := map_some e1
   have e4 := Dat.bl.inj e3
   subst e4
   obtain ⟨a,us,s1,s2,s3⟩ := k.dictA h1
   refine ⟨env,R,A,d0,k,h2,fun y H1 sm r1=>⟨.ref a,s1,a,valV us ks,rfl,?_,_,rfl,?_⟩⟩
   · obtain ⟨b,e4,e5⟩ := key_dat hk r1.pk
     subst e4
     exact DGet.t (sm _ _ s2) e5
   · rw [val_some,s3]
     exact q H1 sm
 · cases e1
end
end L2
namespace L2
open PySem PySem.Spec PyProof.Rows
section
variable {prog : Program} {w : World} {κ : Type} [DecidableEq κ] {kd : HeapKind prog w κ} {A : Around} {E : Value→Shared→Prop} {s : Shared}
theorem szH {a : Addr} (hs : (a == sysModules) = false) : MeetsIn prog w (Builtin.«dict.__len__» ⟨[.ref a],[]⟩) (fun _ R s=>∃ xs,s.heap.DictOfH kd a xs∧R (.ok (.ret (.int xs.length s.toks))) { s with toks := s.toks + 1 }) :=
 MeetsIn.of_wp fun A R s z=>by
   obtain ⟨xs,⟨o,es,ep,g1,g2,g3,g4,g5,g6⟩,g7⟩ := z
   show wpAny _ _ (dictSize a >>= _) _ _ s
   unfold dictSize
   refine wpAny_bind (wpAny_bind (wpAny_dictEntries g1 g3 (wpAny_pure ?_)))
   show wpAny _ _ (Builtin.Dict.pendingCount a >>= _) _ _ s
   refine wpAny_bind (wpAny_pendingCount_other hs ?_)
   refine wpAny_ret_mkInt ?_
   rw [Nat.add_zero,size_of_entries g4]
   exact g7
theorem lenH {a : Addr} {xs : List (κ×Addr×Value)} {Q : Value→Shared→Prop} (hs : (a == sysModules) = false) (hm : s.heap.DictOfH kd a xs) (hb : (xs.length : Int) < 2 ^ 63)
   (hq : Q (.int xs.length (s.toks + 1)) { s with toks := s.toks + 1 + 1 }) : wpAny (model prog w) A (call (.builtin "len") [.ref a]) Q E s := by
 refine Calls.call_function_entry kind_len plain_len entry_len (args_len1 _) ?_
 unfold Builtin.«len»
 refine wpAny_bind (m:=oneArg "len" _) (wpAny_pure (?_))
 refine wpAny_bind (m:=callSpecial? (.ref a) (Str.ofString "__len__")) (wpAny_callSpecial?_slot (name:=Str.ofString "__len__") hm.typeIs PySem.F.slot_dict_len (call_meetsIn PySem.F.slot_dict_len hm.typeIs PySem.F.entry_dict_len (PySem.F.args_dict_len_1 _) (szH (kd:=kd) hs) ⟨xs,hm,?_⟩))
 show wpAny _ _ _ _ _ { s with toks := s.toks + 1 }
 refine wpAny_bind (wpAny_holding (wpAny_pure (?_)))
 refine wpAny_bind (wpAny_letGo (?_))
 show wpAny _ _ (if ((xs.length : Nat) : Int) < 0 then _ else _) _ _ _
 rw [if_neg (by lia)]
 show wpAny _ _ (if ((xs.length : Nat) : Int) ≥ 2 ^ 63 then _ else _) _ _ _
 rw [if_neg (by lia)]
 exact wpAny_bind (wpAny_mkInt (wpAny_pure ⟨_,rfl,hq⟩))
end
theorem KT.len {H : Hp} {kvs : List (List Key×V)} {xs : List (List Key×Addr×Value)} (h : KT H kvs xs) : kvs.length = xs.length := by
 induction h with
 | nil=>rfl
 | cons _ _ ih=>simp [ih]
section
variable {X : Cx} {pos : Pos} {m fr fr' : Bool} {F : List Dat→Rs} {k : Nat} {ps : List Str} {e : Expr} {es : List Expr} {fs : Ev→Option (List Dat)} {p : Pos}
theorem call_lenT : CallR X (.builtin "len") (fun xs H Q=>∃ a kvs,xs = [V.ref a]∧H a = some (.dT kvs)∧Q (.int kvs.length) H) := by
 intro pins s σ H xs us Q I r h
 obtain ⟨a,kvs,rfl,ha,q⟩ := h
 obtain ⟨u,rfl,ru⟩ := vals1 r
 cases ru
 obtain ⟨z,hd,ys,rel,dd⟩ := dt_of I.hok ha
 refine lenH hd dd (by rw [← KT.len rel];rw [sizeLine_eq] at z;lia) ?_
 rw [← KT.len rel]
 exact ⟨.int kvs.length,H,I.tok _,⟨_,rfl⟩,q⟩
noncomputable def dDlen (i : Nat) : Ev→Option Dat := fun env=>match env[i]? with
 | some (.gx (.dict kvs))=>some (.int kvs.length)
 | _=>none
theorem xDlen (i : Nat) {x y : Str} {q : Pos} (hg : Gl X y) (hm : X.mg y = none) (hb : bootBuiltins y = some (.builtin "len")) (hN : X.N[i]? = some x := by rfl) (hv : Vis X.env.scope x := by first | exact Or.inl rfl | exact Or.inr (Or.inl rfl) | exact Or.inr (Or.inr rfl)) (hd : (x == ("__debug__" : Str)) = false := by decide) (hcd : (x == ("__classdict__" : Str)) = false := by decide)
   (hn : y ≠ "__name__" := by decide) (hdb : (y == ("__debug__" : Str)) = false := by decide) : PXd m X (.Call (.Name y p) [.Name x q] [] pos) (dDlen i) :=
 PXd.any ((pe_callB call_lenT hg hm hb (pa_cons (pe_var hN hv hd hcd) pa_nil) hn hdb rfl rfl).weak fun σ H Q zz=>by
   obtain ⟨env,R,A,d,k,e1,q⟩ := zz
   unfold dDlen at e1
   split at e1
   · rename_i kvs h1
     cases e1
     obtain ⟨a,us,s1,s2,s3⟩ := k.dictA h1
     refine ⟨.ref a,s1,?_⟩
     refine ⟨a,us,rfl,s2,?_⟩
     have : us.length = kvs.length := by have := congrArg List.length s3;rwa [List.length_map,List.length_map] at this
     rw [this]
     exact q.here rp_int
   · cases e1)
theorem xcalO {x : Str} (C : CalX X.prog X.w X.K X.mg X.base k x ps fr F) (hr : Room k X.A) (ha : PAd false X (e :: es) fs) (hg : Gl X x := by rfl)
   (hdb : (x == ("__debug__" : Str)) = false := by decide) (he : starEach (e :: es) X.env = (false,eval e X.env) :: starEach es X.env := by rfl) (hpl : (backTo pos (starEach es X.env)).any (·.1) = false := by rfl) :
   PXd m X (.Call (.Name x p) (e :: es) [] pos) (dCal F fs) := PXd.any ((xcalX C hr ha hg hdb he hpl).weak fun σ H Q zz=>by
 obtain ⟨env,B,A,d,kk,q1,q2⟩ := zz
 obtain ⟨ds,e1,e2⟩ := bind_some q1
 have e3 := okR_some e2
 refine ⟨env,B,A,ds,kk,e1,?_⟩
 rw [e3]
 exact fun v H' s r=>q2 v H' s r)
def tXn (X : Cx) (F : List Dat→Rs) (fs : Ev→Option (List Dat)) : TE := fun σ H Q=>∃ env B A ds d,EnvOk X.K B A H σ env∧fs env = some ds∧F ds = .ok d∧∀ v H1 H',Same H H1→Same H1 H'→Rp X.K (av H' A) d v→NwT X.K ⟨H1,A,true⟩ H' d v→Q v H'
theorem xcalXN {x : Str} (C : CalX X.prog X.w X.K X.mg X.base k x ps true F) (hr : Room k X.A) (ha : PAd false X (e :: es) fs) (hg : Gl X x := by rfl)
   (hdb : (x == ("__debug__" : Str)) = false := by decide) (he : starEach (e :: es) X.env = (false,eval e X.env) :: starEach es X.env := by rfl) (hpl : (backTo pos (starEach es X.env)).any (·.1) = false := by rfl) :
   PE X (.Call (.Name x p) (e :: es) [] pos) (tXn X F fs) := by
 obtain ⟨f,fd,Ff,hm,hk,hb⟩ := C.ex
 intro pins s σ H Q I ⟨env,B,A,ds,d,kk,e1,hF,q⟩
 refine wpAny_Call_Name_kw (ld_glob I hg hm ?_ hdb)
 refine PySem.W.callWith_K (h₀:=X.base) I.ok.mod.kin hk (thn (ha pos pins s σ H (fun vs H1=>Same H H1∧Rps X.K (av H1 A) ds vs) I ⟨env,B,A,ds,kk,e1,fun vs H1 s1 rs=>⟨s1,rs.rps⟩⟩) fun us s1 ⟨vs,H1,I1,r,sm,rs⟩=>⟨I1.kIn,?_⟩) he hpl
 have hne : F ds≠.no := fun z=>by rw [z] at hF;cases hF
 have hl : us.length = ps.length := by rw [← r.length,rps_len rs];exact C.len ds hne
 let E : XK := fun cls dct H'=>False
 refine wpAny_call (codeAny_mono (Ff.run X.A X.stack s1 H1 ⟨us,[]⟩ us vs Q E hr I1.env0 (by simpa using hb s1 us I1.kIn (by simpa using hl)) r ⟨by rw [rps_len rs];exact C.len ds hne,ds,A,kk.mu.mono sm,rs,?_⟩) fun rr s' hq=>?_)
 · rw [hF]
   exact fun v H' s2 r2 n=>q v H1 H' sm s2 r2 (n rfl)
 · cases rr with
   | error ev =>
     obtain ⟨ex,C,dct,T,H',rfl,ho,hbr,un,hok,h1,h2,h3,h4,ht,z⟩ := hq
     exact z.elim
   | ok fl =>
     cases fl with
     | ret u=>exact I1.after hq
     | next=>exact False.elim hq
     | brk=>exact False.elim hq
     | cont=>exact False.elim hq
theorem ncalO {x : Str} (C : CalX X.prog X.w X.K X.mg X.base k x ps true F) (hr : Room k X.A) (ha : PAd false X (e :: es) fs) (hg : Gl X x := by rfl)
   (hdb : (x == ("__debug__" : Str)) = false := by decide) (he : starEach (e :: es) X.env = (false,eval e X.env) :: starEach es X.env := by rfl) (hpl : (backTo pos (starEach es X.env)).any (·.1) = false := by rfl) :
   PNd X (.Call (.Name x p) (e :: es) [] pos) (dCalN F fs) := (xcalXN C hr ha hg hdb he hpl).weak fun σ H Q zz=>by
 obtain ⟨env,R,A,d,kk,q1,q2⟩ := zz
 obtain ⟨ds,e1,e2⟩ := bind_some q1
 have e3 := lstR_some e2
 refine ⟨env,R,A,ds,_,kk,e1,e3,fun v H1 H' s1 s r n=>?_⟩
 obtain ⟨p',vs',z1,z2,z3,z4,z5⟩ := n d rfl
 subst z1
 exact q2 p' vs' H' z4 (s1.trans s) (s1.free z2) z3 z5
noncomputable def sExprX (F : List Dat→Rs) (fs : Ev→Option (List Dat)) : Ev→Fl := fun env=>match fs env with
 | none=>.no
 | some ds=>match F ds with
   | .ok _=>.next env
   | .exc c fl=>.exc env c fl
   | .no=>.no
theorem s_exprX (he : PE X e (tXx X fr' F fs)) (hs : swapsWith e none pos.line X.env = pure false := by rfl) : PSd fr X (.Expr e pos) (sExprX F fs) := (ps_expr he hs).weak fun D σ H zz=>by
 obtain ⟨env,B,A,k,hst,q⟩ := zz
 unfold sExprX at q
 split at q
 · exact q.elim
 rename_i ds e1
 refine ⟨env,B,A,ds,k,e1,?_⟩
 split at q
 · rename_i d hd
   try rw [hd]
   exact fun v H' s r=>q A H' σ (Step.same s) (k.mono s)
 · rename_i c fl hd
   try rw [hd]
   exact fun A' H' σ' s k' _=>q A' H' σ' s k'
 · exact q.elim
end
end L2
namespace K22
open PySem PySem.Spec PyProof.Rows L2
noncomputable def g_wire_of : Ev→Fl := (sRet (dO ixD (dO ixD (dO ixD (dV 0) (dC (.int 1))) (dV 1)) (dC (.int 0))))
noncomputable def F_wire_of : List Dat→Rs := runD 2 2 g_wire_of
noncomputable def g_is_rise : Ev→Fl := (sRet (dO ixD (dO ixD (dO ixD (dV 0) (dC (.int 1))) (dV 1)) (dC (.int 1))))
noncomputable def F_is_rise : List Dat→Rs := runD 2 2 g_is_rise
noncomputable def g_takes_of : Ev→Fl := (sRet (dO ixD (dO ixD (dO ixD (dV 0) (dC (.int 1))) (dV 1)) (dC (.int 2))))
noncomputable def F_takes_of : List Dat→Rs := runD 2 2 g_takes_of
noncomputable def g_fills_of : Ev→Fl := (sRet (dO ixD (dO ixD (dO ixD (dV 0) (dC (.int 1))) (dV 1)) (dC (.int 3))))
noncomputable def F_fills_of : List Dat→Rs := runD 2 2 g_fills_of
noncomputable def g_bits : Ev→Fl := (bCons (sSet 1 (dC (.int 0)))
     (bCons (sFor (srcL (dV 0)) (gset 2) (sSet 1 (dO orD (dV 1) (dO shlD (dC (.int 1)) (dV 2)))))
     (sRet (dV 1))))
noncomputable def F_bits : List Dat→Rs := runD 3 1 g_bits
noncomputable def g_has_one : Ev→Fl := (sRet (dO eqF (dO andD (dO shrD (dV 0) (dV 1)) (dC (.int 1))) (dC (.int 1))))
noncomputable def F_has_one : List Dat→Rs := runD 2 2 g_has_one
noncomputable def g_can : Ev→Fl := (bCons (sSet 3 (dCal F_bits (aCons (dCal F_takes_of (aCons (dV 0) (aCons (dV 2) aNil))) aNil)))
     (sRet (dO eqF (dO andD (dO ixD (dV 1) (dC (.int 0))) (dV 3)) (dV 3))))
noncomputable def F_can : List Dat→Rs := runD 4 3 g_can
noncomputable def g_behind : Ev→Fl := (bCons (sSet 3 (dCal F_wire_of (aCons (dV 0) (aCons (dV 2) aNil))))
     (bCons (sIf (dB (dO eqF (dCal F_has_one (aCons (dO ixD (dV 1) (dC (.int 1))) (aCons (dV 3) aNil))) (dCal F_is_rise (aCons (dV 0) (aCons (dV 2) aNil))))) sNo bNil)
     (bCons (sSet 4 (dO andD (dO ixD (dV 1) (dC (.int 0))) (dU invD (dCal F_bits (aCons (dCal F_takes_of (aCons (dV 0) (aCons (dV 2) aNil))) aNil)))))
     (bCons (sSet 5 (dCal F_bits (aCons (dCal F_fills_of (aCons (dV 0) (aCons (dV 2) aNil))) aNil)))
     (bCons (sIf (dB (dO neF (dO andD (dV 4) (dV 5)) (dC (.int 0)))) sNo bNil)
     (sRet (aTup (aCons (dO orD (dV 4) (dV 5)) (aCons (dO xorD (dO ixD (dV 1) (dC (.int 1))) (dO shlD (dC (.int 1)) (dV 3))) aNil)))))))))
noncomputable def F_behind : List Dat→Rs := runD 6 3 g_behind
noncomputable def g_steps_at : Ev→Fl := (sRet (dL (dComp (srcR1 (aCons (dF lenD (aCons (dO ixD (dV 0) (dC (.int 1))) aNil)) aNil)) [none,some 0,some 1] (gset 0) (dT (dCal F_can (aCons (dV 1) (aCons (dV 2) (aCons (dV 0) aNil))))) (dV 0))))
noncomputable def F_steps_at : List Dat→Rs := runD 2 2 g_steps_at
noncomputable def g_way : Ev→Fl := (bCons (sOwn 2 (aLst aNil))
     (bCons (sSet 3 (dV 1))
     (bCons (sWhile (dB (dO isnF (dO ixD (dO ixD (dV 0) (dV 3)) (dC (.int 2))) (dC .non))) (bCons (sMeth 2 appendF (aCons (dO ixD (dO ixD (dV 0) (dV 3)) (dC (.int 3))) aNil))
     (sSet 3 (dO ixD (dO ixD (dV 0) (dV 3)) (dC (.int 2))))))
     (sRet (dL (dLR (aCons (dP 2) aNil)))))))
noncomputable def F_way : List Dat→Rs := runD 4 2 g_way
noncomputable def g_come_to : Ev→Fl := (sTryN (sRet (dCal F_behind (aCons (dV 0) (aCons (dS slX (dO ixD (dV 1) (dV 2)) oNone (oSome (dC (.int 2)))) (aCons (dV 3) aNil))))))
noncomputable def F_come_to : List Dat→Rs := runD 4 4 g_come_to
noncomputable def g_stands : Ev→Fl := (bCons (sOwn 2 (aLst (aCons (aTup (aCons (dO ixD (dV 0) (dC (.int 2))) (aCons (dO ixD (dV 0) (dC (.int 3))) (aCons (dC .non) (aCons (dC .non) aNil))))) aNil)))
     (bCons (sOwnD 3 (aTup (aCons (dO ixD (dV 0) (dC (.int 2))) (aCons (dO ixD (dV 0) (dC (.int 3))) aNil))) (dC (.bl true)))
     (bCons (sSet 4 (dC (.int 0)))
     (bCons (sWhile (dB (dO ltD (dV 4) (dF lenD (aCons (dP 2) aNil)))) (bCons (sSet 5 (dCal F_steps_at (aCons (dV 0) (aCons (dS slX (dO ixD (dP 2) (dV 4)) oNone (oSome (dC (.int 2)))) aNil))))
     (bCons (sFor (srcL (dV 5)) (gset 6) (bCons (sSet 7 (dCalP F_come_to (aCons (dV 0) (aCons (dP 2) (aCons (dV 4) (aCons (dV 6) aNil))))))
     (bCons (sIf (dB (dDin false 3 (dV 7))) (fun env=>.cont env) bNil)
     (bCons (sIf (dB (dO geD (dF lenD (aCons (dP 2) aNil)) (dV 1))) (sRaise "TooMany" gZ aNil) bNil)
     (bCons (sDPutN 3 (dV 7) (dC (.bl true)))
     (sMeth 2 appendF (aCons (aTup (aCons (dO ixD (dV 7) (dC (.int 0))) (aCons (dO ixD (dV 7) (dC (.int 1))) (aCons (dV 4) (aCons (dV 6) aNil))))) aNil)))))))
     (sAug 4 (dC (.int 1))))))
     (sRetO 2)))))
noncomputable def F_stands : List Dat→Rs := runD 8 2 g_stands
noncomputable def g__law_mix : Ev→Fl := (bCons (sSet 2 (dO addD (dO mulE (dC (.int 7919)) (dV 1)) (dC (.int 12345))))
     (bCons (sIf (dB (dO ltD (dV 1) (dF lenD (aCons (dV 0) aNil)))) (sSet 2 (dO addD (dV 2) (dO mulE (dO ixD (dV 0) (dV 1)) (dC (.int 6364136223846793005))))) bNil)
     (sRet (dO modD (dO mulE (dV 2) (dC (.int 48271))) (dC (.int 1000000000039))))))
noncomputable def F__law_mix : List Dat→Rs := runD 3 2 g__law_mix
noncomputable def g__law_word : Ev→Fl := (bCons (sSet 2 (dC (.str "abcdefghijklmnopqrstuvwxyz")))
     (bCons (sSet 3 (dO addD (dC (.int 2)) (dO modD (dV 0) (dC (.int 7)))))
     (bCons (sSet 4 (dO modD (dO fdivD (dV 0) (dC (.int 7))) (dV 3)))
     (bCons (sSet 5 (dC (.str "")))
     (bCons (sFor (srcR1 (aCons (dV 3) aNil)) (gset 6) (bCons (sSet 7 (dC (.int 0)))
     (bCons (sIf (dB (dO eqF (dV 6) (dV 4))) (sSet 7 (dV 1)) bNil)
     (sSet 5 (dO addD (dV 5) (dO ixD (dV 2) (dO modD (dO addD (dO addD (dO fdivD (dV 0) (dC (.int 49))) (dO mulE (dC (.int 5)) (dV 6))) (dO mulE (dC (.int 7)) (dV 7))) (dC (.int 26)))))))))
     (bCons (sIf (dB (dO inF (dV 5) (dL (aLst (aCons (dC (.str "given")) (aCons (dC (.str "made")) (aCons (dC (.str "up")) (aCons (dC (.str "down")) (aCons (dC (.str "start")) aNil))))))))) (sSet 5 (dO addD (dS slX (dV 5) (oSome (dC (.int 1))) oNone) (dC (.str "q")))) bNil)
     (sRet (dV 5))))))))
noncomputable def F__law_word : List Dat→Rs := runD 8 2 g__law_word
noncomputable def g__law_order : Ev→Fl := (bCons (sOwn 3 (aLst aNil))
     (bCons (sFor (srcR1 (aCons (dV 2) aNil)) (gset 4) (bCons (sSet 5 (dCal F__law_mix (aCons (dV 0) (aCons (dO addD (dV 1) (dV 4)) aNil))))
     (bCons (sSet 6 (dO modD (dV 5) (dO addD (dF lenD (aCons (dP 3) aNil)) (dC (.int 1)))))
     (bCons (sMeth 3 insertF (aCons (dV 6) (aCons (dV 4) aNil)))
     (bCons (sSet 7 (dO modD (dO fdivD (dV 5) (dC (.int 64))) (dO subD (dF lenD (aCons (dP 3) aNil)) (dV 6))))
     (sMeth 3 insertF (aCons (dO addD (dO addD (dV 6) (dC (.int 1))) (dV 7)) (aCons (dV 4) aNil))))))))
     (sRetO 3)))
noncomputable def F__law_order : List Dat→Rs := runD 8 3 g__law_order
noncomputable def g__law_arrows : Ev→Fl := (bCons (sOwn 4 (aLst aNil))
     (bCons (sFor (srcR1 (aCons (dV 2) aNil)) (gset 5) (bCons (sSet 6 (dCal F__law_mix (aCons (dV 0) (aCons (dO addD (dV 1) (dV 5)) aNil))))
     (bCons (sSet 7 (dO modD (dV 6) (dV 3)))
     (bCons (sSet 8 (dO modD (dO fdivD (dV 6) (dC (.int 64))) (dV 3)))
     (sIf (tAndD (dB (dO neF (dV 7) (dV 8))) (dB (dO ninF (aTup (aCons (dF minD (aCons (dV 7) (aCons (dV 8) aNil))) (aCons (dF maxD (aCons (dV 7) (aCons (dV 8) aNil))) aNil))) (dP 4)))) (sMeth 4 appendF (aCons (aTup (aCons (dF minD (aCons (dV 7) (aCons (dV 8) aNil))) (aCons (dF maxD (aCons (dV 7) (aCons (dV 8) aNil))) aNil))) aNil)) bNil)))))
     (sRetO 4)))
noncomputable def F__law_arrows : List Dat→Rs := runD 9 4 g__law_arrows
noncomputable def g__law_graph : Ev→Fl := (bCons (sSet 4 (dCal F__law_order (aCons (dV 0) (aCons (dV 1) (aCons (dV 2) aNil)))))
     (bCons (sSet 5 (dO mulE (dC (.int 2)) (dV 2)))
     (bCons (sSet 6 (dCal F__law_mix (aCons (dV 0) (aCons (dO addD (dV 1) (dV 2)) aNil))))
     (bCons (sSet 7 (dCal F__law_arrows (aCons (dV 0) (aCons (dO addD (dO addD (dV 1) (dV 2)) (dC (.int 1))) (aCons (dV 3) (aCons (dV 5) aNil))))))
     (bCons (sIf (dB (dO eqF (dO modD (dV 6) (dC (.int 3))) (dC (.int 0)))) (sSet 7 (dO addD (dV 7) (dL (dComp (srcR1 (aCons (dO subD (dV 5) (dC (.int 1))) aNil)) [none,some 7] (gset 0) (dB (dO ninF (aTup (aCons (dV 0) (aCons (dO addD (dV 0) (dC (.int 1))) aNil))) (dV 1))) (aTup (aCons (dV 0) (aCons (dO addD (dV 0) (dC (.int 1))) aNil))))))) bNil)
     (bCons (sFor (srcR1 (aCons (dV 2) aNil)) (gset 8) (bCons (sSet 9 (dM "list" indexI (dV 4) (aCons (dV 8) aNil)))
     (bCons (sSet 10 (dO addD (dO addD (dV 9) (dC (.int 1))) (dM "list" indexI (dS slX (dV 4) (oSome (dO addD (dV 9) (dC (.int 1)))) oNone) (aCons (dV 8) aNil))))
     (sSet 7 (dO addD (dL (dComp (srcL (dV 7)) [none,some 9,some 10] (gset 0) (dB (dO neF (dV 0) (aTup (aCons (dV 1) (aCons (dV 2) aNil))))) (dV 0))) (dL (aLst (aCons (aTup (aCons (dV 9) (aCons (dV 10) aNil))) aNil))))))))
     (bCons (sOwnN 11 (srcL (dV 4)) [none] (gset 0))
     (bCons (sOwnN 12 (srcL (dV 4)) [none] (gset 0))
     (bCons (sSet 13 (dC (.int 0)))
     (bCons (sSet 14 (dO modD (dO fdivD (dV 6) (dC (.int 3))) (dC (.int 20))))
     (bCons (sFor (srcL (dV 7)) (gunp 2 (gsCons (gset 15) (gsCons (gset 16) gsNil))) (bCons (sNApp 12 (dV 15) (aCons (dV 14) aNil))
     (bCons (sNApp 11 (dV 16) (aCons (dV 14) aNil))
     (bCons (sNApp 12 (dV 16) (aCons (dO addD (dV 14) (dC (.int 1))) aNil))
     (bCons (sNApp 11 (dV 15) (aCons (dO addD (dV 14) (dC (.int 1))) aNil))
     (bCons (sSet 13 (dO orD (dV 13) (dO shlD (dC (.int 1)) (dO addD (dV 14) (dC (.int 1))))))
     (sSet 14 (dO addD (dV 14) (dC (.int 2))))))))))
     (bCons (sSet 17 (dO modD (dO fdivD (dV 6) (dC (.int 60))) (dO shlD (dC (.int 1)) (dV 2))))
     (bCons (sSet 18 (dV 17))
     (bCons (sOwn 19 (aLst aNil))
     (bCons (sFor (srcE (dV 4)) (gunp 2 (gsCons (gset 20) (gsCons (gset 8) gsNil))) (bCons (sMeth 19 appendF (aCons (aTup (aCons (dV 8) (aCons (dO eqF (dO andD (dO shrD (dV 18) (dV 8)) (dC (.int 1))) (dC (.int 0))) (aCons (dF tupleD (aCons (dL (dF sortedX (aCons (dNix 11 (dV 20)) aNil))) aNil)) (aCons (dF tupleD (aCons (dL (dF sortedX (aCons (dNix 12 (dV 20)) aNil))) aNil)) aNil))))) aNil))
     (sSet 18 (dO xorD (dV 18) (dO shlD (dC (.int 1)) (dV 8))))))
     (bCons (sSet 21 (dO modD (dO fdivD (dV 6) (dC (.int 2000))) (dV 5)))
     (bCons (sOwn 19 (dO catL (dS slX (dP 19) (oSome (dV 21)) oNone) (dS slX (dP 19) oNone (oSome (dV 21)))))
     (bCons (sSet 22 (dO fdivD (dV 6) (dC (.int 40000))))
     (bCons (sSet 23 (dL (dComp (srcR1 (aCons (dV 2) aNil)) [none,some 22,some 0,some 1] (gset 0) tTrue (aTup (aCons (dCal F__law_word (aCons (dV 1) (aCons (dV 0) aNil))) (aCons (dO ixD (dL (aLst (aCons (dC (.str "given")) (aCons (dC (.str "made")) aNil)))) (dO modD (dO fdivD (dCal F__law_mix (aCons (dV 2) (aCons (dO addD (dV 3) (dV 0)) aNil))) (dC (.int 4096))) (dC (.int 2)))) aNil))))))
     (sRet (aTup (aCons (dF tupleD (aCons (dV 23) aNil)) (aCons (dF tupleD (aCons (dP 19) aNil)) (aCons (dV 13) (aCons (dV 17) aNil)))))))))))))))))))))))))
noncomputable def F__law_graph : List Dat→Rs := runD 24 4 g__law_graph
noncomputable def g__law_choice : Ev→Fl := (bCons (sSet 2 (dCal F__law_mix (aCons (dV 0) (aCons (dV 1) aNil))))
     (bCons (sSet 3 (dO modD (dO fdivD (dV 2) (dC (.int 4))) (dC (.int 20))))
     (bCons (sSet 4 (dO modD (dO fdivD (dV 2) (dC (.int 80))) (dC (.int 32))))
     (bCons (sSet 5 (dL (aLst aNil)))
     (bCons (sOwn 6 (aLst (aCons (aTup (aCons (dCal F__law_word (aCons (dO fdivD (dV 2) (dC (.int 2560))) (aCons (dC (.int 0)) aNil))) (aCons (dC (.str "made")) aNil))) aNil)))
     (bCons (sFor (srcR1 (aCons (dO addD (dC (.int 1)) (dO modD (dV 2) (dC (.int 4)))) aNil)) (gset 7) (bCons (sSet 8 (dCal F__law_mix (aCons (dV 0) (aCons (dO addD (dO addD (dV 1) (dC (.int 1))) (dV 7)) aNil))))
     (bCons (sSet 9 (dO addD (dC (.int 1)) (dO mulE (dV 7) (dO modD (dO fdivD (dV 2) (dC (.int 40))) (dC (.int 2))))))
     (bCons (sSet 10 (dO eqF (dO andD (dO shrD (dV 4) (dV 9)) (dC (.int 1))) (dC (.int 0))))
     (bCons (sSet 11 (dO addD (dO addD (dV 3) (dC (.int 1))) (dO mulE (dC (.int 3)) (dV 7))))
     (bCons (sMeth 6 appendF (aCons (aTup (aCons (dCal F__law_word (aCons (dO fdivD (dV 2) (dC (.int 2560))) (aCons (dO addD (dV 7) (dC (.int 1))) aNil))) (aCons (dO ixD (dL (aLst (aCons (dC (.str "given")) (aCons (dC (.str "given")) (aCons (dC (.str "made")) aNil))))) (dO mulE (dO modD (dV 8) (dC (.int 3))) (dO modD (dO fdivD (dV 2) (dC (.int 20))) (dC (.int 2))))) aNil))) aNil))
     (sIf (dB (dO eqF (dO modD (dO fdivD (dV 8) (dC (.int 3))) (dC (.int 3))) (dC (.int 0)))) (sSet 5 (dO addD (dV 5) (dL (aLst (aCons (aTup (aCons (dV 9) (aCons (dV 10) (aCons (aTup (aCons (dV 3) aNil)) (aCons (aTup (aCons (dV 11) aNil)) aNil))))) (aCons (aTup (aCons (dV 9) (aCons (dNot (dV 10)) (aCons (aTup (aCons (dV 11) aNil)) (aCons (aTup (aCons (dV 3) aNil)) aNil))))) aNil)))))) (bCons (sSet 5 (dO addD (dV 5) (dL (aLst (aCons (aTup (aCons (dV 9) (aCons (dV 10) (aCons (aTup (aCons (dV 3) aNil)) (aCons (aTup (aCons (dV 11) aNil)) aNil))))) (aCons (aTup (aCons (dC (.int 0)) (aCons (dO eqF (dO andD (dV 4) (dC (.int 1))) (dC (.int 0))) (aCons (aTup (aCons (dV 11) aNil)) (aCons (aTup (aCons (dO addD (dV 11) (dC (.int 1))) aNil)) aNil))))) aNil))))))
     (sSet 5 (dO addD (dV 5) (dL (aLst (aCons (aTup (aCons (dV 9) (aCons (dNot (dV 10)) (aCons (aTup (aCons (dO addD (dV 11) (dC (.int 1))) aNil)) (aCons (aTup (aCons (dO addD (dV 11) (dC (.int 2))) aNil)) aNil))))) (aCons (aTup (aCons (dC (.int 0)) (aCons (dO eqF (dO andD (dV 4) (dC (.int 1))) (dC (.int 1))) (aCons (aTup (aCons (dO addD (dV 11) (dC (.int 2))) aNil)) (aCons (aTup (aCons (dV 3) aNil)) aNil))))) aNil))))))))))))))
     (bCons (sSet 12 (dO modD (dO fdivD (dV 2) (dC (.int 7))) (dF lenD (aCons (dV 5) aNil))))
     (sRet (aTup (aCons (dF tupleD (aCons (dP 6) aNil)) (aCons (dF tupleD (aCons (dO addD (dS slX (dV 5) (oSome (dV 12)) oNone) (dS slX (dV 5) oNone (oSome (dV 12)))) aNil)) (aCons (dO shlD (dC (.int 1)) (dV 3)) (aCons (dO modD (dV 4) (dO shlD (dC (.int 1)) (dF lenD (aCons (dP 6) aNil)))) aNil)))))))))))))
noncomputable def F__law_choice : List Dat→Rs := runD 13 2 g__law_choice
noncomputable def g__law_lookers : Ev→Fl := (bCons (sAsg (dV 0) (gunp 4 (gsCons (gset 2) (gsCons (gset 3) (gsCons (gset 4) (gsCons (gset 5) gsNil))))))
     (bCons (sSet 6 (dV 4))
     (bCons (sFor (srcL (dV 3)) (gset 7) (sFor (srcL (dO addT (dO ixD (dV 7) (dC (.int 2))) (dO ixD (dV 7) (dC (.int 3))))) (gset 8) (sSet 6 (dO orD (dV 6) (dO shlD (dC (.int 1)) (dV 8))))))
     (bCons (sSet 8 (dO ixD (dL (dComp (srcR1 (aCons (dC (.int 64)) aNil)) [none,some 6] (gset 0) (dB (dO eqF (dO andD (dO shrD (dV 1) (dV 0)) (dC (.int 1))) (dC (.int 0)))) (dV 0))) (dO modD (dV 1) (dC (.int 3)))))
     (bCons (sOwn 9 (aLst aNil))
     (bCons (sFor (srcE (dV 3)) (gunp 2 (gsCons (gset 10) (gsCons (gunp 4 (gsCons (gset 11) (gsCons (gset 12) (gsCons (gset 13) (gsCons (gset 14) gsNil))))) gsNil))) (bCons (sIf (dB (dO eqF (dO andD (dO shrD (dO fdivD (dV 1) (dC (.int 3))) (dV 10)) (dC (.int 1))) (dC (.int 1)))) (bCons (sSet 13 (dF tupleD (aCons (dL (dF sortedX (aCons (dO addT (dV 13) (aTup (aCons (dV 8) aNil))) aNil))) aNil)))
     (sSet 14 (dF tupleD (aCons (dL (dF sortedX (aCons (dO addT (dV 14) (aTup (aCons (dV 8) aNil))) aNil))) aNil)))) bNil)
     (sMeth 9 appendF (aCons (aTup (aCons (dV 11) (aCons (dV 12) (aCons (dV 13) (aCons (dV 14) aNil))))) aNil))))
     (sRet (aTup (aCons (dV 2) (aCons (dF tupleD (aCons (dP 9) aNil)) (aCons (dO orD (dV 4) (dO shlD (dC (.int 1)) (dV 8))) (aCons (dV 5) aNil))))))))))))
noncomputable def F__law_lookers : List Dat→Rs := runD 15 2 g__law_lookers
noncomputable def g__law_sort : Ev→Fl := (bCons (sSet 1 (dL (aLst (aCons (dIX (sbOf ["TooMany"] "Broken") (dV 0)) (aCons (dIX (sbOf ["TooMany"] "Crowded") (dV 0)) (aCons (dIX (sbOf ["TooMany"] "TooMany") (dV 0)) (aCons (dIX (sbOf ["TooMany"] "CalledOff") (dV 0)) aNil)))))))
     (bCons (sSet 1 (dO addD (dV 1) (dL (aLst (aCons (dIX (sbOf ["TooMany"] "Clash") (dV 0)) (aCons (dIX (sbOf ["TooMany"] "NoMove") (dV 0)) (aCons (dIX (sbOf ["TooMany"] "NoPlace") (dV 0)) (aCons (dIX (sbOf ["TooMany"] "NoText") (dV 0)) aNil))))))))
     (bCons (sIf (tOrD (dB (dO neF (dM "list" countD (dV 1) (aCons (dC (.bl true)) aNil)) (dC (.int 1)))) (tNotD (dT (dIX (sbAll ["TooMany"]) (dV 0))))) (sRet (dC (.str "other"))) bNil)
     (sRet (dO ixD (dL (aLst (aCons (dC (.str "broken")) (aCons (dC (.str "crowded")) (aCons (dC (.str "many")) (aCons (dC (.str "off")) (aCons (dC (.str "clash")) (aCons (dC (.str "move")) (aCons (dC (.str "place")) (aCons (dC (.str "text")) aNil)))))))))) (dM "list" indexD (dV 1) (aCons (dC (.bl true)) aNil)))))))
noncomputable def F__law_sort : List Dat→Rs := runD 2 1 g__law_sort
noncomputable def g__law_can : Ev→Fl := (sRet (dF allD (aCons (dL (dComp (srcL (dO ixD (dV 0) (dC (.int 2)))) [none,some 1] (gset 0) tTrue (dO eqF (dO andD (dO shrD (dV 1) (dV 0)) (dC (.int 1))) (dC (.int 1))))) aNil)))
noncomputable def F__law_can : List Dat→Rs := runD 2 2 g__law_can
noncomputable def g__law_done : Ev→Fl := (bCons (sAsg (dV 1) (gunp 2 (gsCons (gset 2) (gsCons (gset 3) gsNil))))
     (bCons (sIf (dB (dO eqF (dO eqF (dO andD (dO shrD (dV 3) (dO ixD (dV 0) (dC (.int 0)))) (dC (.int 1))) (dC (.int 1))) (dO ixD (dV 0) (dC (.int 1))))) (sRet (dC (.str "broken"))) bNil)
     (bCons (sFor (srcL (dO ixD (dV 0) (dC (.int 2)))) (gset 4) (sSet 2 (dO subD (dV 2) (dO shlD (dC (.int 1)) (dV 4)))))
     (bCons (sIf (dT (dF anyD (aCons (dL (dComp (srcL (dO ixD (dV 0) (dC (.int 3)))) [none,some 2] (gset 0) tTrue (dO eqF (dO andD (dO shrD (dV 1) (dV 0)) (dC (.int 1))) (dC (.int 1))))) aNil))) (sRet (dC (.str "crowded"))) bNil)
     (bCons (sFor (srcL (dO ixD (dV 0) (dC (.int 3)))) (gset 4) (sSet 2 (dO addD (dV 2) (dO shlD (dC (.int 1)) (dV 4)))))
     (bCons (sIf (dT (dO ixD (dV 0) (dC (.int 1)))) (sRet (aTup (aCons (dV 2) (aCons (dO addD (dV 3) (dO shlD (dC (.int 1)) (dO ixD (dV 0) (dC (.int 0))))) aNil)))) bNil)
     (sRet (aTup (aCons (dV 2) (aCons (dO subD (dV 3) (dO shlD (dC (.int 1)) (dO ixD (dV 0) (dC (.int 0))))) aNil))))))))))
noncomputable def F__law_done : List Dat→Rs := runD 5 2 g__law_done
noncomputable def g__law_in_order : Ev→Fl := (bCons (sSet 2 (aTup (aCons (dO ixD (dV 0) (dC (.int 2))) (aCons (dO ixD (dV 0) (dC (.int 3))) aNil))))
     (bCons (sIf (tOrD (tNotD (dT (dI "list" (dV 1)))) (tOrD (dB (dO eqF (dV 1) (dL (aLst aNil)))) (dB (dO neF (dO ixD (dV 1) (dC (.int 0))) (dO addT (dV 2) (aTup (aCons (dC .non) (aCons (dC .non) aNil)))))))) (sRet (dC (.bl false))) bNil)
     (bCons (sOwnD 3 (dV 2) (dC (.bl true)))
     (bCons (sFor (srcR1 (aCons (dF lenD (aCons (dV 1) aNil)) aNil)) (gset 4) (sFor (srcE (dO ixD (dV 0) (dC (.int 1)))) (gunp 2 (gsCons (gset 5) (gsCons (gset 6) gsNil))) (sIf (tAndD (dB (dO ltD (dV 4) (dF lenD (aCons (dV 1) aNil)))) (dT (dCal F__law_can (aCons (dV 6) (aCons (dO ixD (dO ixD (dV 1) (dV 4)) (dC (.int 0))) aNil))))) (bCons (sSet 7 (dCal F__law_done (aCons (dV 6) (aCons (dS slX (dO ixD (dV 1) (dV 4)) oNone (oSome (dC (.int 2)))) aNil))))
     (sIf (dB (dDin true 3 (dV 7))) (bCons (sIf (tOrD (dB (dO geD (dDlen 3) (dF lenD (aCons (dV 1) aNil)))) (dB (dO neF (dO ixD (dV 1) (dDlen 3)) (dO addT (dV 7) (aTup (aCons (dV 4) (aCons (dV 5) aNil))))))) (sRet (dC (.bl false))) bNil)
     (sDPutN 3 (dV 7) (dC (.bl true)))) bNil)) bNil)))
     (sRet (dO eqF (dDlen 3) (dF lenD (aCons (dV 1) aNil))))))))
noncomputable def F__law_in_order : List Dat→Rs := runD 8 2 g__law_in_order
noncomputable def g__law_whole : Ev→Fl := (bCons (sFor (srcE (dV 0)) (gunp 2 (gsCons (gset 1) (gsCons (gset 2) gsNil))) (sFor (srcL (dS slX (dV 2) oNone (oSome (dO addD (dC (.int 2)) (dO mulE (dC (.int 2)) (dF intD (aCons (dO gtD (dV 1) (dC (.int 0))) aNil))))))) (gset 3) (sIf (tOrD (tNotD (dT (dI "int" (dV 3)))) (dT (dI "bool" (dV 3)))) (sRet (dC (.bl false))) bNil)))
     (sRet (dC (.bl true))))
noncomputable def F__law_whole : List Dat→Rs := runD 4 1 g__law_whole
noncomputable def g__law_many : Ev→Fl := (bCons (sSet 2 (dC .non))
     (bCons (sTry (subAll ["TooMany"]) 3 (sExprX F_stands (aCons (dV 0) (aCons (dV 1) aNil))) (sSet 2 (dV 3)))
     (sRet (dAnd (dO isnF (dV 2) (dC .non)) (dO eqF (dCal F__law_sort (aCons (dV 2) aNil)) (dC (.str "many")))))))
noncomputable def F__law_many : List Dat→Rs := runD 4 2 g__law_many
noncomputable def g_law : Ev→Fl := (bCons (sSet 1 (dCal F__law_mix (aCons (dV 0) (aCons (dC (.int 0)) aNil))))
     (bCons (sIf (dB (dO eqF (dO modD (dV 1) (dC (.int 3))) (dC (.int 0)))) (sSet 2 (dCal F__law_choice (aCons (dV 0) (aCons (dC (.int 1)) aNil)))) (sSet 2 (dCal F__law_graph (aCons (dV 0) (aCons (dC (.int 1)) (aCons (dO addD (dC (.int 1)) (dO modD (dO fdivD (dV 1) (dC (.int 3))) (dC (.int 4)))) (aCons (dO modD (dO fdivD (dV 1) (dC (.int 12))) (dC (.int 5))) aNil)))))))
     (bCons (sIf (dB (dO eqF (dO modD (dO fdivD (dV 1) (dC (.int 4096))) (dC (.int 3))) (dC (.int 0)))) (sSet 2 (dCal F__law_lookers (aCons (dV 2) (aCons (dO fdivD (dV 1) (dC (.int 12288))) aNil)))) bNil)
     (bCons (sOwn 3 (dCalN F_stands (aCons (dV 2) (aCons (dC (.int 400)) aNil))))
     (bCons (sIf (tOrD (tNotD (dT (dCalP F__law_in_order (aCons (dV 2) (aCons (dP 3) aNil))))) (tNotD (dT (dCalP F__law_whole (aCons (dP 3) aNil))))) (sRet (dC (.bl false))) bNil)
     (bCons (sSet 4 (dL (dF listN (aCons (dP 3) aNil))))
     (bCons (sMeth 3 appendF (aCons (dC (.int 1)) aNil))
     (bCons (sIf (tAndD (dB (dO gtD (dF lenD (aCons (dV 4) aNil)) (dC (.int 1)))) (tNotD (dT (dCal F__law_many (aCons (dV 2) (aCons (dO addD (dC (.int 1)) (dO modD (dO fdivD (dV 1) (dC (.int 60))) (dO subD (dF lenD (aCons (dV 4) aNil)) (dC (.int 1))))) aNil)))))) (sRet (dC (.bl false))) bNil)
     (sRet (dO eqF (dCal F_stands (aCons (dV 2) (aCons (dF lenD (aCons (dV 4) aNil)) aNil))) (dV 4)))))))))))
noncomputable def F_law : List Dat→Rs := runD 5 1 g_law
noncomputable def top (i : Nat) : Stmt := PySem.Challenge.pw_calmwires_k22_stands_in_order.main.body.getD i (.Pass ⟨0,0,0,0⟩)
noncomputable abbrev s_wire_of : Stmt := top 11
theorem sc_wire_of : FnScope ["graph", "step"] ["graph", "step"] (defScope s_wire_of) := ⟨rfl,rfl,rfl,by decide +kernel,rfl,by decide +kernel,by decide +kernel⟩
noncomputable abbrev s_is_rise : Stmt := top 12
theorem sc_is_rise : FnScope ["graph", "step"] ["graph", "step"] (defScope s_is_rise) := ⟨rfl,rfl,rfl,by decide +kernel,rfl,by decide +kernel,by decide +kernel⟩
noncomputable abbrev s_takes_of : Stmt := top 13
theorem sc_takes_of : FnScope ["graph", "step"] ["graph", "step"] (defScope s_takes_of) := ⟨rfl,rfl,rfl,by decide +kernel,rfl,by decide +kernel,by decide +kernel⟩
noncomputable abbrev s_fills_of : Stmt := top 14
theorem sc_fills_of : FnScope ["graph", "step"] ["graph", "step"] (defScope s_fills_of) := ⟨rfl,rfl,rfl,by decide +kernel,rfl,by decide +kernel,by decide +kernel⟩
noncomputable abbrev s_bits : Stmt := top 15
theorem sc_bits : FnScope ["some", "number", "place"] ["some"] (defScope s_bits) := ⟨rfl,rfl,rfl,by decide +kernel,rfl,by decide +kernel,by decide +kernel⟩
noncomputable abbrev s_has_one : Stmt := top 16
theorem sc_has_one : FnScope ["number", "place"] ["number", "place"] (defScope s_has_one) := ⟨rfl,rfl,rfl,by decide +kernel,rfl,by decide +kernel,by decide +kernel⟩
noncomputable abbrev s_can : Stmt := top 18
theorem sc_can : FnScope ["graph", "stand", "step", "takes"] ["graph", "stand", "step"] (defScope s_can) := ⟨rfl,rfl,rfl,by decide +kernel,rfl,by decide +kernel,by decide +kernel⟩
noncomputable abbrev s_behind : Stmt := top 19
theorem sc_behind : FnScope ["graph", "stand", "step", "wire", "left", "fills"] ["graph", "stand", "step"] (defScope s_behind) := ⟨rfl,rfl,rfl,by decide +kernel,rfl,by decide +kernel,by decide +kernel⟩
noncomputable abbrev s_steps_at : Stmt := top 21
theorem sc_steps_at : FnScope ["graph", "stand"] ["graph", "stand"] (defScope s_steps_at) := ⟨rfl,rfl,rfl,by decide +kernel,rfl,by decide +kernel,by decide +kernel⟩
noncomputable abbrev s_way : Stmt := top 23
theorem sc_way : FnScope ["found", "n", "steps", "at"] ["found", "n"] (defScope s_way) := ⟨rfl,rfl,rfl,by decide +kernel,rfl,by decide +kernel,by decide +kernel⟩
noncomputable abbrev s_come_to : Stmt := top 22
theorem sc_come_to : FnScope ["graph", "found", "at", "step"] ["graph", "found", "at", "step"] (defScope s_come_to) := ⟨rfl,rfl,rfl,by decide +kernel,rfl,by decide +kernel,by decide +kernel⟩
noncomputable abbrev s_stands : Stmt := top 20
theorem sc_stands : FnScope ["graph", "most", "found", "seen", "at", "here", "step", "stand"] ["graph", "most"] (defScope s_stands) := ⟨rfl,rfl,rfl,by decide +kernel,rfl,by decide +kernel,by decide +kernel⟩
noncomputable abbrev s__law_mix : Stmt := top 25
theorem sc__law_mix : FnScope ["_law_script", "_law_k", "_law_number"] ["_law_script", "_law_k"] (defScope s__law_mix) := ⟨rfl,rfl,rfl,by decide +kernel,rfl,by decide +kernel,by decide +kernel⟩
noncomputable abbrev s__law_word : Stmt := top 26
theorem sc__law_word : FnScope ["_law_cell", "_law_k", "_law_letters", "_law_size", "_law_at", "_law_word_here", "_law_j", "_law_shift"] ["_law_cell", "_law_k"] (defScope s__law_word) := ⟨rfl,rfl,rfl,by decide +kernel,rfl,by decide +kernel,by decide +kernel⟩
noncomputable abbrev s__law_order : Stmt := top 27
theorem sc__law_order : FnScope ["_law_script", "_law_first", "_law_n", "_law_order_here", "_law_w", "_law_cell", "_law_at", "_law_far"] ["_law_script", "_law_first", "_law_n"] (defScope s__law_order) := ⟨rfl,rfl,rfl,by decide +kernel,rfl,by decide +kernel,by decide +kernel⟩
noncomputable abbrev s__law_arrows : Stmt := top 28
theorem sc__law_arrows : FnScope ["_law_script", "_law_first", "_law_many_here", "_law_size", "_law_pairs", "_law_k", "_law_cell", "_law_i", "_law_j"] ["_law_script", "_law_first", "_law_many_here", "_law_size"] (defScope s__law_arrows) := ⟨rfl,rfl,rfl,by decide +kernel,rfl,by decide +kernel,by decide +kernel⟩
noncomputable abbrev s__law_graph : Stmt := top 29
theorem sc__law_graph : FnScope ["_law_script", "_law_first", "_law_n", "_law_many_here", "_law_order_here", "_law_size", "_law_cell", "_law_pairs", "_law_w", "_law_one", "_law_two", "_law_takes", "_law_fills", "_law_marks", "_law_spots", "_law_i", "_law_j", "_law_code", "_law_seen", "_law_steps", "_law_d", "_law_turn", "_law_word_here", "_law_wires"] ["_law_script", "_law_first", "_law_n", "_law_many_here"] (defScope s__law_graph) := ⟨rfl,rfl,rfl,by decide +kernel,rfl,by decide +kernel,by decide +kernel⟩
noncomputable abbrev s__law_choice : Stmt := top 30
theorem sc__law_choice : FnScope ["_law_script", "_law_first", "_law_cell", "_law_base", "_law_code", "_law_steps", "_law_wires", "_law_k", "_law_more", "_law_x", "_law_up", "_law_spot", "_law_turn"] ["_law_script", "_law_first"] (defScope s__law_choice) := ⟨rfl,rfl,rfl,by decide +kernel,rfl,by decide +kernel,by decide +kernel⟩
noncomputable abbrev s__law_lookers : Stmt := top 31
theorem sc__law_lookers : FnScope ["_law_graph_here", "_law_cell", "_law_wires", "_law_steps", "_law_marks", "_law_code", "_law_there", "_law_step", "_law_spot", "_law_some", "_law_k", "_law_wire", "_law_up", "_law_takes", "_law_fills"] ["_law_graph_here", "_law_cell"] (defScope s__law_lookers) := ⟨rfl,rfl,rfl,by decide +kernel,rfl,by decide +kernel,by decide +kernel⟩
noncomputable abbrev s__law_sort : Stmt := top 32
theorem sc__law_sort : FnScope ["_law_e", "_law_sorts"] ["_law_e"] (defScope s__law_sort) := ⟨rfl,rfl,rfl,by decide +kernel,rfl,by decide +kernel,by decide +kernel⟩
noncomputable abbrev s__law_can : Stmt := top 33
theorem sc__law_can : FnScope ["_law_step", "_law_marks"] ["_law_step", "_law_marks"] (defScope s__law_can) := ⟨rfl,rfl,rfl,by decide +kernel,rfl,by decide +kernel,by decide +kernel⟩
noncomputable abbrev s__law_done : Stmt := top 34
theorem sc__law_done : FnScope ["_law_step", "_law_stand", "_law_marks", "_law_code", "_law_spot"] ["_law_step", "_law_stand"] (defScope s__law_done) := ⟨rfl,rfl,rfl,by decide +kernel,rfl,by decide +kernel,by decide +kernel⟩
noncomputable abbrev s__law_in_order : Stmt := top 35
theorem sc__law_in_order : FnScope ["_law_graph_here", "_law_rows", "_law_begin", "_law_there", "_law_n", "_law_k", "_law_step", "_law_new"] ["_law_graph_here", "_law_rows"] (defScope s__law_in_order) := ⟨rfl,rfl,rfl,by decide +kernel,rfl,by decide +kernel,by decide +kernel⟩
noncomputable abbrev s__law_whole : Stmt := top 36
theorem sc__law_whole : FnScope ["_law_rows", "_law_n", "_law_row", "_law_number"] ["_law_rows"] (defScope s__law_whole) := ⟨rfl,rfl,rfl,by decide +kernel,rfl,by decide +kernel,by decide +kernel⟩
noncomputable abbrev s__law_many : Stmt := top 37
theorem sc__law_many : FnScope ["_law_graph_here", "_law_most", "_law_caught", "_law_e"] ["_law_graph_here", "_law_most"] (defScope s__law_many) := ⟨rfl,rfl,rfl,by decide +kernel,rfl,by decide +kernel,by decide +kernel⟩
noncomputable abbrev s_law : Stmt := top 38
theorem sc_law : FnScope ["_law_script", "_law_cell", "_law_graph_here", "_law_rows", "_law_kept"] ["_law_script"] (defScope s_law) := ⟨rfl,rfl,rfl,by decide +kernel,rfl,by decide +kernel,by decide +kernel⟩
structure Txt (K : PySem.W.Frag) (mg : Str→Option Value) : Prop where
 b_ValueError : mg "ValueError" = none
 b_all : mg "all" = none
 b_any : mg "any" = none
 b_bool : mg "bool" = none
 b_enumerate : mg "enumerate" = none
 b_int : mg "int" = none
 b_isinstance : mg "isinstance" = none
 b_len : mg "len" = none
 b_list : mg "list" = none
 b_max : mg "max" = none
 b_min : mg "min" = none
 b_range : mg "range" = none
 b_reversed : mg "reversed" = none
 b_sorted : mg "sorted" = none
 b_tuple : mg "tuple" = none
 i_Broken : IsC K mg "Broken" (sbOf ["TooMany"] "Broken")
 i_CalledOff : IsC K mg "CalledOff" (sbOf ["TooMany"] "CalledOff")
 i_Clash : IsC K mg "Clash" (sbOf ["TooMany"] "Clash")
 i_Crowded : IsC K mg "Crowded" (sbOf ["TooMany"] "Crowded")
 i_NoMove : IsC K mg "NoMove" (sbOf ["TooMany"] "NoMove")
 i_NoPlace : IsC K mg "NoPlace" (sbOf ["TooMany"] "NoPlace")
 i_NoText : IsC K mg "NoText" (sbOf ["TooMany"] "NoText")
 i_TooMany : IsC K mg "TooMany" (sbOf ["TooMany"] "TooMany")
 j_ValueError : IsT K mg "ValueError" "ValueError" (sbAll ["TooMany"])
 k_CalmError : CatC K mg "CalmError" (subAll ["TooMany"])
section
variable {P : Program} {w : World} {K : PySem.W.Frag} {mg : Str→Option Value} {base : Heap}
end
noncomputable abbrev i_TooMany : Stmt := inClass (top 5) 0
theorem si_TooMany : FnScope ["self"] ["self"] (defScope i_TooMany) := ⟨rfl,rfl,rfl,by decide +kernel,rfl,by decide +kernel,by decide +kernel⟩
section
variable {P : Program} {w : World} {K : PySem.W.Frag} {mg : Str→Option Value} {base : Heap}
theorem m_TooMany {C fI D : Addr} {fd : FuncData} (B : BaseC K mg D) (F : Fun K "__init__" "TooMany.__init__" i_TooMany fI fd) (hc : clsAt K "TooMany" C) (hm : mg "TooMany" = some (.ref C)) (hk : PySem.W.keepIn K (.ref C) = true) (hx : xcIn K C fI D = true) (xc : XCls K C)  (isf : PySem.W.isFn K (.ref fI) = true) (bl : mg "list" = none) : XMake P w K mg base 1 "TooMany" 0 gZ where
 ex := ⟨C,fI,D,fd,["self"],hc,hm,hk,hx,xc,isf,init_Z (k:=0) F si_TooMany hx (fun cdv A outer s H E hr=>(pss_one (ps_expr (pe_base B (pa_cons (pv 0) (pa_cons pe_str pa_nil)))))),
   F.binds fun _ _ _ _ _ _ us hl=>ar1 us hl fun _=>rfl⟩
 len := gZ_len
 few := by lia
end
section
variable {P : Program} {w : World} {K : PySem.W.Frag} {mg : Str→Option Value} {base : Heap}
theorem c_wire_of (Df : Def K mg "wire_of" s_wire_of) (T : Txt K mg)   : CalD P w K mg base 1 "wire_of" ["graph", "step"] false F_wire_of :=
 cal_d (N:=["graph", "step"]) (ps:=["graph", "step"]) (st:=s_wire_of) (k:=0) (g:=g_wire_of) Df sc_wire_of (fun _ _ _ _ _ _ us hl=>ar2 us hl fun _ _=>rfl) (fun f cdv A outer s H E hr=>(by
     unfold g_wire_of
     exact (b_one (s_ret (xix (m:=false) o_ix (xix (m:=true) o_ix (xix (m:=true) o_ix (xv (m:=true) 0) (xint (m:=true)) (fun _ _=>rfl)) (xv (m:=true) 1) (fun _ _=>rfl)) (xint (m:=true)) (fun _ _=>rfl))))))
end
section
variable {P : Program} {w : World} {K : PySem.W.Frag} {mg : Str→Option Value} {base : Heap}
theorem c_is_rise (Df : Def K mg "is_rise" s_is_rise) (T : Txt K mg)   : CalD P w K mg base 1 "is_rise" ["graph", "step"] false F_is_rise :=
 cal_d (N:=["graph", "step"]) (ps:=["graph", "step"]) (st:=s_is_rise) (k:=0) (g:=g_is_rise) Df sc_is_rise (fun _ _ _ _ _ _ us hl=>ar2 us hl fun _ _=>rfl) (fun f cdv A outer s H E hr=>(by
     unfold g_is_rise
     exact (b_one (s_ret (xix (m:=false) o_ix (xix (m:=true) o_ix (xix (m:=true) o_ix (xv (m:=true) 0) (xint (m:=true)) (fun _ _=>rfl)) (xv (m:=true) 1) (fun _ _=>rfl)) (xint (m:=true)) (fun _ _=>rfl))))))
end
section
variable {P : Program} {w : World} {K : PySem.W.Frag} {mg : Str→Option Value} {base : Heap}
theorem c_takes_of (Df : Def K mg "takes_of" s_takes_of) (T : Txt K mg)   : CalD P w K mg base 1 "takes_of" ["graph", "step"] false F_takes_of :=
 cal_d (N:=["graph", "step"]) (ps:=["graph", "step"]) (st:=s_takes_of) (k:=0) (g:=g_takes_of) Df sc_takes_of (fun _ _ _ _ _ _ us hl=>ar2 us hl fun _ _=>rfl) (fun f cdv A outer s H E hr=>(by
     unfold g_takes_of
     exact (b_one (s_ret (xix (m:=false) o_ix (xix (m:=true) o_ix (xix (m:=true) o_ix (xv (m:=true) 0) (xint (m:=true)) (fun _ _=>rfl)) (xv (m:=true) 1) (fun _ _=>rfl)) (xint (m:=true)) (fun _ _=>rfl))))))
end
section
variable {P : Program} {w : World} {K : PySem.W.Frag} {mg : Str→Option Value} {base : Heap}
theorem c_fills_of (Df : Def K mg "fills_of" s_fills_of) (T : Txt K mg)   : CalD P w K mg base 1 "fills_of" ["graph", "step"] false F_fills_of :=
 cal_d (N:=["graph", "step"]) (ps:=["graph", "step"]) (st:=s_fills_of) (k:=0) (g:=g_fills_of) Df sc_fills_of (fun _ _ _ _ _ _ us hl=>ar2 us hl fun _ _=>rfl) (fun f cdv A outer s H E hr=>(by
     unfold g_fills_of
     exact (b_one (s_ret (xix (m:=false) o_ix (xix (m:=true) o_ix (xix (m:=true) o_ix (xv (m:=true) 0) (xint (m:=true)) (fun _ _=>rfl)) (xv (m:=true) 1) (fun _ _=>rfl)) (xint (m:=true)) (fun _ _=>rfl))))))
end
section
variable {P : Program} {w : World} {K : PySem.W.Frag} {mg : Str→Option Value} {base : Heap}
theorem c_bits (Df : Def K mg "bits" s_bits) (T : Txt K mg)   : CalD P w K mg base 1 "bits" ["some"] false F_bits :=
 cal_d (N:=["some", "number", "place"]) (ps:=["some"]) (st:=s_bits) (k:=0) (g:=g_bits) Df sc_bits (fun _ _ _ _ _ _ us hl=>ar1 us hl fun _=>rfl) (fun f cdv A outer s H E hr=>(by
     unfold g_bits
     exact (b_cons (s_set 1 sc_bits.nd rfl (Or.inl rfl) (xint (m:=false)))
     (b_cons (s_for PassesOwn.never rfl (i_seq (xv (m:=false) 0)) (g_name 2 sc_bits.nd rfl (Or.inl rfl)) (b_one (s_set 1 sc_bits.nd rfl (Or.inl rfl) (xop (m:=false) o_or (xv (m:=true) 1) (xop (m:=true) o_shl (xint (m:=true)) (xv (m:=true) 2))))))
     (b_one (s_ret (xv (m:=false) 1)))))))
end
section
variable {P : Program} {w : World} {K : PySem.W.Frag} {mg : Str→Option Value} {base : Heap}
theorem c_has_one (Df : Def K mg "has_one" s_has_one) (T : Txt K mg)   : CalD P w K mg base 1 "has_one" ["number", "place"] false F_has_one :=
 cal_d (N:=["number", "place"]) (ps:=["number", "place"]) (st:=s_has_one) (k:=0) (g:=g_has_one) Df sc_has_one (fun _ _ _ _ _ _ us hl=>ar2 us hl fun _ _=>rfl) (fun f cdv A outer s H E hr=>(by
     unfold g_has_one
     exact (b_one (s_ret (xcmp (m:=false) (o_eq hr.units) (xop (m:=true) o_and (xop (m:=true) o_shr (xv (m:=true) 0) (xv (m:=true) 1)) (xint (m:=true))) (xint (m:=true)) (nomark _))))))
end
section
variable {P : Program} {w : World} {K : PySem.W.Frag} {mg : Str→Option Value} {base : Heap}
theorem c_can (Df : Def K mg "can" s_can) (T : Txt K mg)  (C_bits : CalD P w K mg base 1 "bits" ["some"] false F_bits) (C_takes_of : CalD P w K mg base 1 "takes_of" ["graph", "step"] false F_takes_of) : CalD P w K mg base 2 "can" ["graph", "stand", "step"] false F_can :=
 cal_d (N:=["graph", "stand", "step", "takes"]) (ps:=["graph", "stand", "step"]) (st:=s_can) (k:=1) (g:=g_can) Df sc_can (fun _ _ _ _ _ _ us hl=>ar3 us hl fun _ _ _=>rfl) (fun f cdv A outer s H E hr=>(by
     unfold g_can
     exact (b_cons (s_set 3 sc_can.nd rfl (Or.inl rfl) (xcal (m:=false) C_bits (hr.mono (by lia)) (a_cons (xcal (m:=false) C_takes_of (hr.mono (by lia)) (a_cons (xv (m:=false) 0) (a_cons (xv (m:=false) 2) a_nil))) a_nil)))
     (b_one (s_ret (xcmp (m:=false) (o_eq hr.units) (xop (m:=true) o_and (xix (m:=true) o_ix (xv (m:=true) 1) (xint (m:=true)) (fun _ _=>rfl)) (xv (m:=true) 3)) (xv (m:=true) 3) (nomark _)))))))
end
section
variable {P : Program} {w : World} {K : PySem.W.Frag} {mg : Str→Option Value} {base : Heap}
theorem c_behind (Df : Def K mg "behind" s_behind) (T : Txt K mg)  (C_wire_of : CalD P w K mg base 1 "wire_of" ["graph", "step"] false F_wire_of) (C_bits : CalD P w K mg base 1 "bits" ["some"] false F_bits) (C_has_one : CalD P w K mg base 1 "has_one" ["number", "place"] false F_has_one) (C_is_rise : CalD P w K mg base 1 "is_rise" ["graph", "step"] false F_is_rise) (C_fills_of : CalD P w K mg base 1 "fills_of" ["graph", "step"] false F_fills_of) (C_takes_of : CalD P w K mg base 1 "takes_of" ["graph", "step"] false F_takes_of) : CalD P w K mg base 3 "behind" ["graph", "stand", "step"] false F_behind :=
 cal_d (N:=["graph", "stand", "step", "wire", "left", "fills"]) (ps:=["graph", "stand", "step"]) (st:=s_behind) (k:=2) (g:=g_behind) Df sc_behind (fun _ _ _ _ _ _ us hl=>ar3 us hl fun _ _ _=>rfl) (fun f cdv A outer s H E hr=>(by
     unfold g_behind
     exact (b_cons (s_set 3 sc_behind.nd rfl (Or.inl rfl) (xcal (m:=false) C_wire_of (hr.mono (by lia)) (a_cons (xv (m:=false) 0) (a_cons (xv (m:=false) 2) a_nil))))
     (b_cons (s_if (tcmp (o_eq hr.units) (xcal (m:=true) C_has_one (hr.mono (by lia)) (a_cons (xix (m:=false) o_ix (xv (m:=true) 1) (xint (m:=true)) (fun _ _=>rfl)) (a_cons (xv (m:=false) 3) a_nil))) (xcal (m:=true) C_is_rise (hr.mono (by lia)) (a_cons (xv (m:=false) 0) (a_cons (xv (m:=false) 2) a_nil))) (nomark _)) (b_one s_no) b_nil)
     (b_cons (s_set 4 sc_behind.nd rfl (Or.inl rfl) (xop (m:=false) o_and (xix (m:=true) o_ix (xv (m:=true) 1) (xint (m:=true)) (fun _ _=>rfl)) (xun (m:=true) u_inv (xcal (m:=true) C_bits (hr.mono (by lia)) (a_cons (xcal (m:=false) C_takes_of (hr.mono (by lia)) (a_cons (xv (m:=false) 0) (a_cons (xv (m:=false) 2) a_nil))) a_nil)))))
     (b_cons (s_set 5 sc_behind.nd rfl (Or.inl rfl) (xcal (m:=false) C_bits (hr.mono (by lia)) (a_cons (xcal (m:=false) C_fills_of (hr.mono (by lia)) (a_cons (xv (m:=false) 0) (a_cons (xv (m:=false) 2) a_nil))) a_nil)))
     (b_cons (s_if (tcmp (o_ne hr.units) (xop (m:=true) o_and (xv (m:=true) 4) (xv (m:=true) 5)) (xint (m:=true)) (nomark _)) (b_one s_no) b_nil)
     (b_one (s_ret (xtup (m:=false) (a_cons (xop (m:=false) o_or (xv (m:=true) 4) (xv (m:=true) 5)) (a_cons (xop (m:=false) o_xor (xix (m:=true) o_ix (xv (m:=true) 1) (xint (m:=true)) (fun _ _=>rfl)) (xop (m:=true) o_shl (xint (m:=true)) (xv (m:=true) 3))) a_nil))))))))))))
end
section
variable {P : Program} {w : World} {K : PySem.W.Frag} {mg : Str→Option Value} {base : Heap}
theorem c_steps_at (Df : Def K mg "steps_at" s_steps_at) (T : Txt K mg)  (C_can : CalD P w K mg base 2 "can" ["graph", "stand", "step"] false F_can) : CalD P w K mg base 3 "steps_at" ["graph", "stand"] true F_steps_at :=
 cal_d (N:=["graph", "stand"]) (ps:=["graph", "stand"]) (st:=s_steps_at) (k:=2) (g:=g_steps_at) Df sc_steps_at (fun _ _ _ _ _ _ us hl=>ar2 us hl fun _ _=>rfl) (fun f cdv A outer s H E hr=>(by
     unfold g_steps_at
     refine (b_one (s_retN ?c0))
     case c0=>exact n_comp (defScope s_steps_at) [none,some 0,some 1] ["step", "graph", "stand"] rfl (show CompOk (defScope s_steps_at) _ ["graph", "stand"] ["step", "graph", "stand"] [none,some 0,some 1] from CompOk.of (by decide +kernel)) rfl (i_range1 (by rfl) T.b_range (a_cons (xcallB (m:=true) c_len (by rfl) T.b_len (by decide +kernel) (a_cons (xix (m:=true) o_ix (xv (m:=true) 0) (xint (m:=true)) (fun _ _=>rfl)) a_nil)) a_nil)) (fun _ _ _ _=>⟨(g_name 0 (show (["step", "graph", "stand"] : List Str).Nodup from by decide +kernel) rfl (Or.inl rfl)),(f_one (tval (xcal (m:=true) C_can (hr.mono (by lia)) (a_cons (xv (m:=false) 1) (a_cons (xv (m:=false) 2) (a_cons (xv (m:=false) 0) a_nil)))))),(xv (m:=false) 0)⟩) (by decide)))
end
section
variable {P : Program} {w : World} {K : PySem.W.Frag} {mg : Str→Option Value} {base : Heap}
theorem c_way (Df : Def K mg "way" s_way) (T : Txt K mg)   : CalD P w K mg base 1 "way" ["found", "n"] true F_way :=
 cal_d (N:=["found", "n", "steps", "at"]) (ps:=["found", "n"]) (st:=s_way) (k:=0) (g:=g_way) Df sc_way (fun _ _ _ _ _ _ us hl=>ar2 us hl fun _ _=>rfl) (fun f cdv A outer s H E hr=>(by
     unfold g_way
     exact (b_cons (s_own 2 sc_way.nd rfl (Or.inl rfl) (nlst a_nil))
     (b_cons (s_set 3 sc_way.nd rfl (Or.inl rfl) (xv (m:=false) 1))
     (b_cons (s_while PassesOwn.never (tcmp o_isn (xix (m:=true) o_ix (xix (m:=true) o_ix (xv (m:=true) 0) (xv (m:=true) 3) (fun _ _=>rfl)) (xint (m:=true)) (fun _ _=>rfl)) (xnon (m:=true)) (nomark _)) (b_cons (s_meth 2 PySem.F.slot_list_append PySem.F.type_list_append m_append (a_cons (xix (m:=false) o_ix (xix (m:=true) o_ix (xv (m:=true) 0) (xv (m:=true) 3) (fun _ _=>rfl)) (xint (m:=true)) (fun _ _=>rfl)) a_nil))
     (b_one (s_set 3 sc_way.nd rfl (Or.inl rfl) (xix (m:=false) o_ix (xix (m:=true) o_ix (xv (m:=true) 0) (xv (m:=true) 3) (fun _ _=>rfl)) (xint (m:=true)) (fun _ _=>rfl))))))
     (b_one (s_retN (n_listrev (by rfl) T.b_list (by rfl) T.b_reversed (a_cons (xo 2) a_nil)))))))))
end
section
variable {P : Program} {w : World} {K : PySem.W.Frag} {mg : Str→Option Value} {base : Heap}
theorem c_come_to (Df : Def K mg "come_to" s_come_to) (T : Txt K mg)  (C_behind : CalD P w K mg base 3 "behind" ["graph", "stand", "step"] false F_behind) (C_way : CalD P w K mg base 1 "way" ["found", "n"] true F_way) : CalD P w K mg base 4 "come_to" ["graph", "found", "at", "step"] false F_come_to :=
 cal_d (N:=["graph", "found", "at", "step"]) (ps:=["graph", "found", "at", "step"]) (st:=s_come_to) (k:=3) (g:=g_come_to) Df sc_come_to (fun _ _ _ _ _ _ us hl=>ar4 us hl fun _ _ _ _=>rfl) (fun f cdv A outer s H E hr=>(by
     unfold g_come_to
     exact (b_one (s_tryNo (fun _=>(b_one (s_ret (xcal (m:=false) C_behind (hr.mono (by lia)) (a_cons (xv (m:=false) 0) (a_cons (xslice (m:=false) o_slX (xix (m:=true) o_ix (xv (m:=true) 1) (xv (m:=true) 2) (fun _ _=>rfl)) o_none (o_some (xint (m:=true)))) (a_cons (xv (m:=false) 3) a_nil)))))))))))
end
section
variable {P : Program} {w : World} {K : PySem.W.Frag} {mg : Str→Option Value} {base : Heap}
theorem c_stands (Df : Def K mg "stands" s_stands) (T : Txt K mg) (M_TooMany : XMake P w K mg base 1 "TooMany" 0 gZ) (C_steps_at : CalD P w K mg base 3 "steps_at" ["graph", "stand"] true F_steps_at) (C_come_to : CalD P w K mg base 4 "come_to" ["graph", "found", "at", "step"] false F_come_to) : CalX P w K mg base 5 "stands" ["graph", "most"] true F_stands :=
 cal_dL (N:=["graph", "most", "found", "seen", "at", "here", "step", "stand"]) (ps:=["graph", "most"]) (st:=s_stands) (k:=4) (g:=g_stands) Df sc_stands (fun _ _ _ _ _ _ us hl=>ar2 us hl fun _ _=>rfl) (fun f cdv A outer s H E hr=>(by
     unfold g_stands
     exact (b_cons (s_own 2 sc_stands.nd rfl (Or.inl rfl) (nlst (a_cons (xtup (m:=false) (a_cons (xix (m:=false) o_ix (xv (m:=true) 0) (xint (m:=true)) (fun _ _=>rfl)) (a_cons (xix (m:=false) o_ix (xv (m:=true) 0) (xint (m:=true)) (fun _ _=>rfl)) (a_cons (xnon (m:=false)) (a_cons (xnon (m:=false)) a_nil))))) a_nil)))
     (b_cons (s_ownD 3 sc_stands.nd rfl (Or.inl rfl) (hu_of hr) (xtup (m:=true) (a_cons (xix (m:=false) o_ix (xv (m:=true) 0) (xint (m:=true)) (fun _ _=>rfl)) (a_cons (xix (m:=false) o_ix (xv (m:=true) 0) (xint (m:=true)) (fun _ _=>rfl)) a_nil))) (xbl (m:=false)))
     (b_cons (s_set 4 sc_stands.nd rfl (Or.inl rfl) (xint (m:=false)))
     (b_cons (s_while pass_l (tcmp o_lt (xv (m:=true) 4) (xcallB (m:=true) c_len (by rfl) T.b_len (by decide +kernel) (a_cons (xo 2) a_nil)) (nomark _)) (b_cons (s_set 5 sc_stands.nd rfl (Or.inl rfl) (xcal (m:=false) C_steps_at (hr.mono (by lia)) (a_cons (xv (m:=false) 0) (a_cons (xslice (m:=false) o_slX (xix (m:=true) o_ix (xo 2) (xv (m:=true) 4) (fun _ _=>rfl)) o_none (o_some (xint (m:=true)))) a_nil))))
     (b_cons (s_for pass_l rfl (i_seq (xv (m:=false) 5)) (g_name 6 sc_stands.nd rfl (Or.inl rfl)) (b_cons (s_set 7 sc_stands.nd rfl (Or.inl rfl) (xcalP (m:=false) C_come_to (hr.mono (by lia)) (a_cons (xv (m:=true) 0) (a_cons (xo 2) (a_cons (xv (m:=true) 4) (a_cons (xv (m:=true) 6) a_nil))))))
     (b_cons (s_if (tDin 3 (hu_of hr) (xv (m:=true) 7)) (b_one s_cont) b_nil)
     (b_cons (s_if (tcmp o_ge (xcallB (m:=true) c_len (by rfl) T.b_len (by decide +kernel) (a_cons (xo 2) a_nil)) (xv (m:=true) 1) (nomark _)) (b_one (s_raise0 M_TooMany (hr.mono (by lia)) rfl)) b_nil)
     (b_cons (s_dput 3 (hu_of hr) (xv (m:=true) 7) (xbl (m:=false)))
     (b_one (s_meth 2 PySem.F.slot_list_append PySem.F.type_list_append m_append (a_cons (xtup (m:=false) (a_cons (xix (m:=false) o_ix (xv (m:=true) 7) (xint (m:=true)) (fun _ _=>rfl)) (a_cons (xix (m:=false) o_ix (xv (m:=true) 7) (xint (m:=true)) (fun _ _=>rfl)) (a_cons (xv (m:=false) 4) (a_cons (xv (m:=false) 6) a_nil))))) a_nil))))))))
     (b_one (s_aug 4 sc_stands.nd rfl (Or.inl rfl) (xint (m:=false)))))))
     (b_one (s_retO 2))))))))
end
section
variable {P : Program} {w : World} {K : PySem.W.Frag} {mg : Str→Option Value} {base : Heap}
theorem c__law_mix (Df : Def K mg "_law_mix" s__law_mix) (T : Txt K mg)   : CalD P w K mg base 1 "_law_mix" ["_law_script", "_law_k"] false F__law_mix :=
 cal_d (N:=["_law_script", "_law_k", "_law_number"]) (ps:=["_law_script", "_law_k"]) (st:=s__law_mix) (k:=0) (g:=g__law_mix) Df sc__law_mix (fun _ _ _ _ _ _ us hl=>ar2 us hl fun _ _=>rfl) (fun f cdv A outer s H E hr=>(by
     unfold g__law_mix
     exact (b_cons (s_set 2 sc__law_mix.nd rfl (Or.inl rfl) (xop (m:=false) o_add (xop (m:=true) o_mulE (xint (m:=true)) (xv (m:=true) 1)) (xint (m:=true))))
     (b_cons (s_if (tcmp o_lt (xv (m:=true) 1) (xcallB (m:=true) c_len (by rfl) T.b_len (by decide +kernel) (a_cons (xv (m:=true) 0) a_nil)) (nomark _)) (b_one (s_set 2 sc__law_mix.nd rfl (Or.inl rfl) (xop (m:=false) o_add (xv (m:=true) 2) (xop (m:=true) o_mulE (xix (m:=true) o_ix (xv (m:=true) 0) (xv (m:=true) 1) (fun _ _=>rfl)) (xint (m:=true)))))) b_nil)
     (b_one (s_ret (xop (m:=false) o_mod (xop (m:=true) o_mulE (xv (m:=true) 2) (xint (m:=true))) (xint (m:=true)))))))))
end
section
variable {P : Program} {w : World} {K : PySem.W.Frag} {mg : Str→Option Value} {base : Heap}
theorem c__law_word (Df : Def K mg "_law_word" s__law_word) (T : Txt K mg)   : CalD P w K mg base 1 "_law_word" ["_law_cell", "_law_k"] false F__law_word :=
 cal_d (N:=["_law_cell", "_law_k", "_law_letters", "_law_size", "_law_at", "_law_word_here", "_law_j", "_law_shift"]) (ps:=["_law_cell", "_law_k"]) (st:=s__law_word) (k:=0) (g:=g__law_word) Df sc__law_word (fun _ _ _ _ _ _ us hl=>ar2 us hl fun _ _=>rfl) (fun f cdv A outer s H E hr=>(by
     unfold g__law_word
     exact (b_cons (s_set 2 sc__law_word.nd rfl (Or.inl rfl) (xstr (m:=false)))
     (b_cons (s_set 3 sc__law_word.nd rfl (Or.inl rfl) (xop (m:=false) o_add (xint (m:=true)) (xop (m:=true) o_mod (xv (m:=true) 0) (xint (m:=true)))))
     (b_cons (s_set 4 sc__law_word.nd rfl (Or.inl rfl) (xop (m:=false) o_mod (xop (m:=true) o_fdiv (xv (m:=true) 0) (xint (m:=true))) (xv (m:=true) 3)))
     (b_cons (s_set 5 sc__law_word.nd rfl (Or.inl rfl) (xstr (m:=false)))
     (b_cons (s_for PassesOwn.never rfl (i_range1 (by rfl) T.b_range (a_cons (xv (m:=true) 3) a_nil)) (g_name 6 sc__law_word.nd rfl (Or.inl rfl)) (b_cons (s_set 7 sc__law_word.nd rfl (Or.inl rfl) (xint (m:=false)))
     (b_cons (s_if (tcmp (o_eq hr.units) (xv (m:=true) 6) (xv (m:=true) 4) (nomark _)) (b_one (s_set 7 sc__law_word.nd rfl (Or.inl rfl) (xv (m:=false) 1))) b_nil)
     (b_one (s_set 5 sc__law_word.nd rfl (Or.inl rfl) (xop (m:=false) o_add (xv (m:=true) 5) (xix (m:=true) o_ix (xv (m:=true) 2) (xop (m:=true) o_mod (xop (m:=true) o_add (xop (m:=true) o_add (xop (m:=true) o_fdiv (xv (m:=true) 0) (xint (m:=true))) (xop (m:=true) o_mulE (xint (m:=true)) (xv (m:=true) 6))) (xop (m:=true) o_mulE (xint (m:=true)) (xv (m:=true) 7))) (xint (m:=true))) (fun _ _=>rfl))))))))
     (b_cons (s_if (tcmp (o_in hr.units) (xv (m:=true) 5) (PNd.x (m:=true) (nlst (a_cons (xstr (m:=false)) (a_cons (xstr (m:=false)) (a_cons (xstr (m:=false)) (a_cons (xstr (m:=false)) (a_cons (xstr (m:=false)) a_nil))))))) (by rfl)) (b_one (s_set 5 sc__law_word.nd rfl (Or.inl rfl) (xop (m:=false) o_add (xslice (m:=true) o_slX (xv (m:=true) 5) (o_some (xint (m:=true))) o_none) (xstr (m:=true))))) b_nil)
     (b_one (s_ret (xv (m:=false) 5)))))))))))
end
section
variable {P : Program} {w : World} {K : PySem.W.Frag} {mg : Str→Option Value} {base : Heap}
theorem c__law_order (Df : Def K mg "_law_order" s__law_order) (T : Txt K mg)  (C__law_mix : CalD P w K mg base 1 "_law_mix" ["_law_script", "_law_k"] false F__law_mix) : CalD P w K mg base 2 "_law_order" ["_law_script", "_law_first", "_law_n"] true F__law_order :=
 cal_d (N:=["_law_script", "_law_first", "_law_n", "_law_order_here", "_law_w", "_law_cell", "_law_at", "_law_far"]) (ps:=["_law_script", "_law_first", "_law_n"]) (st:=s__law_order) (k:=1) (g:=g__law_order) Df sc__law_order (fun _ _ _ _ _ _ us hl=>ar3 us hl fun _ _ _=>rfl) (fun f cdv A outer s H E hr=>(by
     unfold g__law_order
     exact (b_cons (s_own 3 sc__law_order.nd rfl (Or.inl rfl) (nlst a_nil))
     (b_cons (s_for PassesOwn.never rfl (i_range1 (by rfl) T.b_range (a_cons (xv (m:=true) 2) a_nil)) (g_name 4 sc__law_order.nd rfl (Or.inl rfl)) (b_cons (s_set 5 sc__law_order.nd rfl (Or.inl rfl) (xcal (m:=false) C__law_mix (hr.mono (by lia)) (a_cons (xv (m:=false) 0) (a_cons (xop (m:=false) o_add (xv (m:=true) 1) (xv (m:=true) 4)) a_nil))))
     (b_cons (s_set 6 sc__law_order.nd rfl (Or.inl rfl) (xop (m:=false) o_mod (xv (m:=true) 5) (xop (m:=true) o_add (xcallB (m:=true) c_len (by rfl) T.b_len (by decide +kernel) (a_cons (xo 3) a_nil)) (xint (m:=true)))))
     (b_cons (s_meth 3 PySem.F.slot_list_insert PySem.F.type_list_insert m_insert (a_cons (xv (m:=false) 6) (a_cons (xv (m:=false) 4) a_nil)))
     (b_cons (s_set 7 sc__law_order.nd rfl (Or.inl rfl) (xop (m:=false) o_mod (xop (m:=true) o_fdiv (xv (m:=true) 5) (xint (m:=true))) (xop (m:=true) o_sub (xcallB (m:=true) c_len (by rfl) T.b_len (by decide +kernel) (a_cons (xo 3) a_nil)) (xv (m:=true) 6))))
     (b_one (s_meth 3 PySem.F.slot_list_insert PySem.F.type_list_insert m_insert (a_cons (xop (m:=false) o_add (xop (m:=true) o_add (xv (m:=true) 6) (xint (m:=true))) (xv (m:=true) 7)) (a_cons (xv (m:=false) 4) a_nil)))))))))
     (b_one (s_retO 3))))))
end
section
variable {P : Program} {w : World} {K : PySem.W.Frag} {mg : Str→Option Value} {base : Heap}
theorem c__law_arrows (Df : Def K mg "_law_arrows" s__law_arrows) (T : Txt K mg)  (C__law_mix : CalD P w K mg base 1 "_law_mix" ["_law_script", "_law_k"] false F__law_mix) : CalD P w K mg base 2 "_law_arrows" ["_law_script", "_law_first", "_law_many_here", "_law_size"] true F__law_arrows :=
 cal_d (N:=["_law_script", "_law_first", "_law_many_here", "_law_size", "_law_pairs", "_law_k", "_law_cell", "_law_i", "_law_j"]) (ps:=["_law_script", "_law_first", "_law_many_here", "_law_size"]) (st:=s__law_arrows) (k:=1) (g:=g__law_arrows) Df sc__law_arrows (fun _ _ _ _ _ _ us hl=>ar4 us hl fun _ _ _ _=>rfl) (fun f cdv A outer s H E hr=>(by
     unfold g__law_arrows
     exact (b_cons (s_own 4 sc__law_arrows.nd rfl (Or.inl rfl) (nlst a_nil))
     (b_cons (s_for PassesOwn.never rfl (i_range1 (by rfl) T.b_range (a_cons (xv (m:=true) 2) a_nil)) (g_name 5 sc__law_arrows.nd rfl (Or.inl rfl)) (b_cons (s_set 6 sc__law_arrows.nd rfl (Or.inl rfl) (xcal (m:=false) C__law_mix (hr.mono (by lia)) (a_cons (xv (m:=false) 0) (a_cons (xop (m:=false) o_add (xv (m:=true) 1) (xv (m:=true) 5)) a_nil))))
     (b_cons (s_set 7 sc__law_arrows.nd rfl (Or.inl rfl) (xop (m:=false) o_mod (xv (m:=true) 6) (xv (m:=true) 3)))
     (b_cons (s_set 8 sc__law_arrows.nd rfl (Or.inl rfl) (xop (m:=false) o_mod (xop (m:=true) o_fdiv (xv (m:=true) 6) (xint (m:=true))) (xv (m:=true) 3)))
     (b_one (s_if (PWd.pt (w_and (tcmp (o_ne hr.units) (xv (m:=true) 7) (xv (m:=true) 8) (nomark _)) (w_and1 (tcmp (o_nin hr.units) (xtup (m:=true) (a_cons (xcallB (m:=false) (c_min rfl) (by rfl) T.b_min (by decide +kernel) (a_cons (xv (m:=true) 7) (a_cons (xv (m:=true) 8) a_nil))) (a_cons (xcallB (m:=false) (c_max rfl) (by rfl) T.b_max (by decide +kernel) (a_cons (xv (m:=true) 7) (a_cons (xv (m:=true) 8) a_nil))) a_nil))) (xo 4) (by rfl))))) (b_one (s_meth 4 PySem.F.slot_list_append PySem.F.type_list_append m_append (a_cons (xtup (m:=false) (a_cons (xcallB (m:=false) (c_min rfl) (by rfl) T.b_min (by decide +kernel) (a_cons (xv (m:=true) 7) (a_cons (xv (m:=true) 8) a_nil))) (a_cons (xcallB (m:=false) (c_max rfl) (by rfl) T.b_max (by decide +kernel) (a_cons (xv (m:=true) 7) (a_cons (xv (m:=true) 8) a_nil))) a_nil))) a_nil))) b_nil))))))
     (b_one (s_retO 4))))))
end
section
variable {P : Program} {w : World} {K : PySem.W.Frag} {mg : Str→Option Value} {base : Heap}
theorem c__law_graph (Df : Def K mg "_law_graph" s__law_graph) (T : Txt K mg)  (C__law_order : CalD P w K mg base 2 "_law_order" ["_law_script", "_law_first", "_law_n"] true F__law_order) (C__law_mix : CalD P w K mg base 1 "_law_mix" ["_law_script", "_law_k"] false F__law_mix) (C__law_arrows : CalD P w K mg base 2 "_law_arrows" ["_law_script", "_law_first", "_law_many_here", "_law_size"] true F__law_arrows) (C__law_word : CalD P w K mg base 1 "_law_word" ["_law_cell", "_law_k"] false F__law_word) : CalD P w K mg base 3 "_law_graph" ["_law_script", "_law_first", "_law_n", "_law_many_here"] false F__law_graph :=
 cal_d (N:=["_law_script", "_law_first", "_law_n", "_law_many_here", "_law_order_here", "_law_size", "_law_cell", "_law_pairs", "_law_w", "_law_one", "_law_two", "_law_takes", "_law_fills", "_law_marks", "_law_spots", "_law_i", "_law_j", "_law_code", "_law_seen", "_law_steps", "_law_d", "_law_turn", "_law_word_here", "_law_wires"]) (ps:=["_law_script", "_law_first", "_law_n", "_law_many_here"]) (st:=s__law_graph) (k:=2) (g:=g__law_graph) Df sc__law_graph (fun _ _ _ _ _ _ us hl=>ar4 us hl fun _ _ _ _=>rfl) (fun f cdv A outer s H E hr=>(by
     unfold g__law_graph
     refine (b_cons (s_set 4 sc__law_graph.nd rfl (Or.inl rfl) (xcal (m:=false) C__law_order (hr.mono (by lia)) (a_cons (xv (m:=false) 0) (a_cons (xv (m:=false) 1) (a_cons (xv (m:=false) 2) a_nil)))))
     (b_cons (s_set 5 sc__law_graph.nd rfl (Or.inl rfl) (xop (m:=false) o_mulE (xint (m:=true)) (xv (m:=true) 2)))
     (b_cons (s_set 6 sc__law_graph.nd rfl (Or.inl rfl) (xcal (m:=false) C__law_mix (hr.mono (by lia)) (a_cons (xv (m:=false) 0) (a_cons (xop (m:=false) o_add (xv (m:=true) 1) (xv (m:=true) 2)) a_nil))))
     (b_cons (s_set 7 sc__law_graph.nd rfl (Or.inr rfl) (xcal (m:=false) C__law_arrows (hr.mono (by lia)) (a_cons (xv (m:=false) 0) (a_cons (xop (m:=false) o_add (xop (m:=true) o_add (xv (m:=true) 1) (xv (m:=true) 2)) (xint (m:=true))) (a_cons (xv (m:=false) 3) (a_cons (xv (m:=false) 5) a_nil))))))
     (b_cons (s_if (tcmp (o_eq hr.units) (xop (m:=true) o_mod (xv (m:=true) 6) (xint (m:=true))) (xint (m:=true)) (nomark _)) (b_one (s_set 7 sc__law_graph.nd rfl (Or.inr rfl) (xop (m:=false) o_add (xv (m:=true) 7) (PNd.x (m:=true) ?c0)))) b_nil)
     (b_cons (s_for PassesOwn.never rfl (i_range1 (by rfl) T.b_range (a_cons (xv (m:=true) 2) a_nil)) (g_name 8 sc__law_graph.nd rfl (Or.inl rfl)) (b_cons (s_set 9 sc__law_graph.nd rfl (Or.inr rfl) (xbm (m:=false) PySem.F.plainAttrs_list PySem.F.slot_list_index PySem.F.type_list_index m_indexI (xv (m:=true) 4) (a_cons (xv (m:=true) 8) a_nil)))
     (b_cons (s_set 10 sc__law_graph.nd rfl (Or.inr rfl) (xop (m:=false) o_add (xop (m:=true) o_add (xv (m:=true) 9) (xint (m:=true))) (xbm (m:=true) PySem.F.plainAttrs_list PySem.F.slot_list_index PySem.F.type_list_index m_indexI (xslice (m:=true) o_slX (xv (m:=true) 4) (o_some (xop (m:=true) o_add (xv (m:=true) 9) (xint (m:=true)))) o_none) (a_cons (xv (m:=true) 8) a_nil))))
     (b_one (s_set 7 sc__law_graph.nd rfl (Or.inr rfl) (xop (m:=false) o_add (PNd.x (m:=true) ?c1) (PNd.x (m:=true) (nlst (a_cons (xtup (m:=false) (a_cons (xv (m:=false) 9) (a_cons (xv (m:=false) 10) a_nil))) a_nil)))))))))
     (b_cons (s_ownN 11 sc__law_graph.nd rfl (Or.inl rfl) (defScope s__law_graph) [none] ["_law_d"] rfl (show CompOk (defScope s__law_graph) _ ["_law_script", "_law_first", "_law_n", "_law_many_here", "_law_order_here", "_law_size", "_law_cell", "_law_pairs", "_law_w", "_law_one", "_law_two", "_law_takes", "_law_fills", "_law_marks", "_law_spots", "_law_i", "_law_j", "_law_code", "_law_seen", "_law_steps", "_law_d", "_law_turn", "_law_word_here", "_law_wires"] ["_law_d"] [none] from CompOk.of (by decide +kernel)) rfl (i_seqP (xv (m:=true) 4)) (fun _ _ _ _=>⟨(g_name 0 (show (["_law_d"] : List Str).Nodup from by decide +kernel) rfl (Or.inl rfl)),f_nil⟩) (by decide))
     (b_cons (s_ownN 12 sc__law_graph.nd rfl (Or.inl rfl) (defScope s__law_graph) [none] ["_law_d"] rfl (show CompOk (defScope s__law_graph) _ ["_law_script", "_law_first", "_law_n", "_law_many_here", "_law_order_here", "_law_size", "_law_cell", "_law_pairs", "_law_w", "_law_one", "_law_two", "_law_takes", "_law_fills", "_law_marks", "_law_spots", "_law_i", "_law_j", "_law_code", "_law_seen", "_law_steps", "_law_d", "_law_turn", "_law_word_here", "_law_wires"] ["_law_d"] [none] from CompOk.of (by decide +kernel)) rfl (i_seqP (xv (m:=true) 4)) (fun _ _ _ _=>⟨(g_name 0 (show (["_law_d"] : List Str).Nodup from by decide +kernel) rfl (Or.inl rfl)),f_nil⟩) (by decide))
     (b_cons (s_set 13 sc__law_graph.nd rfl (Or.inl rfl) (xint (m:=false)))
     (b_cons (s_set 14 sc__law_graph.nd rfl (Or.inl rfl) (xop (m:=false) o_mod (xop (m:=true) o_fdiv (xv (m:=true) 6) (xint (m:=true))) (xint (m:=true))))
     (b_cons (s_for PassesOwn.never rfl (i_seq (xv (m:=false) 7)) (g_unp (n:=2) rfl (gs_cons (g_name 15 sc__law_graph.nd rfl (Or.inl rfl)) (gs_cons (g_name 16 sc__law_graph.nd rfl (Or.inl rfl)) gs_nil))) (b_cons (s_napp 12 (xv (m:=true) 15) (fun _ _=>rfl) (a_cons (xv (m:=false) 14) a_nil))
     (b_cons (s_napp 11 (xv (m:=true) 16) (fun _ _=>rfl) (a_cons (xv (m:=false) 14) a_nil))
     (b_cons (s_napp 12 (xv (m:=true) 16) (fun _ _=>rfl) (a_cons (xop (m:=false) o_add (xv (m:=true) 14) (xint (m:=true))) a_nil))
     (b_cons (s_napp 11 (xv (m:=true) 15) (fun _ _=>rfl) (a_cons (xop (m:=false) o_add (xv (m:=true) 14) (xint (m:=true))) a_nil))
     (b_cons (s_set 13 sc__law_graph.nd rfl (Or.inl rfl) (xop (m:=false) o_or (xv (m:=true) 13) (xop (m:=true) o_shl (xint (m:=true)) (xop (m:=true) o_add (xv (m:=true) 14) (xint (m:=true))))))
     (b_one (s_set 14 sc__law_graph.nd rfl (Or.inl rfl) (xop (m:=false) o_add (xv (m:=true) 14) (xint (m:=true)))))))))))
     (b_cons (s_set 17 sc__law_graph.nd rfl (Or.inl rfl) (xop (m:=false) o_mod (xop (m:=true) o_fdiv (xv (m:=true) 6) (xint (m:=true))) (xop (m:=true) o_shl (xint (m:=true)) (xv (m:=true) 2))))
     (b_cons (s_set 18 sc__law_graph.nd rfl (Or.inl rfl) (xv (m:=false) 17))
     (b_cons (s_own 19 sc__law_graph.nd rfl (Or.inl rfl) (nlst a_nil))
     (b_cons (s_for PassesOwn.never rfl (i_enum (by rfl) T.b_enumerate (xv (m:=false) 4)) (g_unp (n:=2) rfl (gs_cons (g_name 20 sc__law_graph.nd rfl (Or.inl rfl)) (gs_cons (g_name 8 sc__law_graph.nd rfl (Or.inl rfl)) gs_nil))) (b_cons (s_meth 19 PySem.F.slot_list_append PySem.F.type_list_append m_append (a_cons (xtup (m:=false) (a_cons (xv (m:=false) 8) (a_cons (xcmp (m:=false) (o_eq hr.units) (xop (m:=true) o_and (xop (m:=true) o_shr (xv (m:=true) 18) (xv (m:=true) 8)) (xint (m:=true))) (xint (m:=true)) (nomark _)) (a_cons (xcallT (m:=false) c_tuple (by rfl) T.b_tuple (by decide +kernel) (a_cons (PNd.x (m:=true) (ncallB c_sortedX (by rfl) T.b_sorted (by decide +kernel) (a_cons (xnix 11 (xv (m:=true) 20) (fun _ _=>rfl)) a_nil))) a_nil)) (a_cons (xcallT (m:=false) c_tuple (by rfl) T.b_tuple (by decide +kernel) (a_cons (PNd.x (m:=true) (ncallB c_sortedX (by rfl) T.b_sorted (by decide +kernel) (a_cons (xnix 12 (xv (m:=true) 20) (fun _ _=>rfl)) a_nil))) a_nil)) a_nil))))) a_nil))
     (b_one (s_set 18 sc__law_graph.nd rfl (Or.inl rfl) (xop (m:=false) o_xor (xv (m:=true) 18) (xop (m:=true) o_shl (xint (m:=true)) (xv (m:=true) 8)))))))
     (b_cons (s_set 21 sc__law_graph.nd rfl (Or.inl rfl) (xop (m:=false) o_mod (xop (m:=true) o_fdiv (xv (m:=true) 6) (xint (m:=true))) (xv (m:=true) 5)))
     (b_cons (s_own 19 sc__law_graph.nd rfl (Or.inl rfl) (nop n_cat (xslice (m:=true) o_slX (xo 19) (o_some (xv (m:=true) 21)) o_none) (xslice (m:=true) o_slX (xo 19) o_none (o_some (xv (m:=true) 21)))))
     (b_cons (s_set 22 sc__law_graph.nd rfl (Or.inr rfl) (xop (m:=false) o_fdiv (xv (m:=true) 6) (xint (m:=true))))
     (b_cons (s_setC 23 sc__law_graph.nd rfl (Or.inl rfl) (defScope s__law_graph) [none,some 22,some 0,some 1] ["_law_w", "_law_word_here", "_law_script", "_law_first"] rfl (show CompOk (defScope s__law_graph) _ ["_law_script", "_law_first", "_law_n", "_law_many_here", "_law_order_here", "_law_size", "_law_cell", "_law_pairs", "_law_w", "_law_one", "_law_two", "_law_takes", "_law_fills", "_law_marks", "_law_spots", "_law_i", "_law_j", "_law_code", "_law_seen", "_law_steps", "_law_d", "_law_turn", "_law_word_here", "_law_wires"] ["_law_w", "_law_word_here", "_law_script", "_law_first"] [none,some 22,some 0,some 1] from CompOk.of (by decide +kernel)) rfl (i_range1 (by rfl) T.b_range (a_cons (xv (m:=true) 2) a_nil)) (fun _ _ _ _=>⟨(g_name 0 (show (["_law_w", "_law_word_here", "_law_script", "_law_first"] : List Str).Nodup from by decide +kernel) rfl (Or.inl rfl)),f_nil,(xtup (m:=false) (a_cons (xcal (m:=false) C__law_word (hr.mono (by lia)) (a_cons (xv (m:=false) 1) (a_cons (xv (m:=false) 0) a_nil))) (a_cons (xix (m:=false) o_ix (PNd.x (m:=true) (nlst (a_cons (xstr (m:=false)) (a_cons (xstr (m:=false)) a_nil)))) (xop (m:=true) o_mod (xop (m:=true) o_fdiv (xcal (m:=true) C__law_mix (hr.mono (by lia)) (a_cons (xv (m:=false) 2) (a_cons (xop (m:=false) o_add (xv (m:=true) 3) (xv (m:=true) 0)) a_nil))) (xint (m:=true))) (xint (m:=true))) (fun _ _=>rfl)) a_nil)))⟩) (by decide))
     (b_one (s_ret (xtup (m:=false) (a_cons (xcallT (m:=false) c_tuple (by rfl) T.b_tuple (by decide +kernel) (a_cons (xv (m:=true) 23) a_nil)) (a_cons (xcallT (m:=false) c_tuple (by rfl) T.b_tuple (by decide +kernel) (a_cons (xo 19) a_nil)) (a_cons (xv (m:=false) 13) (a_cons (xv (m:=false) 17) a_nil))))))))))))))))))))))))))
     case c0=>exact n_comp (defScope s__law_graph) [none,some 7] ["_law_k", "_law_pairs"] rfl (show CompOk (defScope s__law_graph) _ ["_law_script", "_law_first", "_law_n", "_law_many_here", "_law_order_here", "_law_size", "_law_cell", "_law_pairs", "_law_w", "_law_one", "_law_two", "_law_takes", "_law_fills", "_law_marks", "_law_spots", "_law_i", "_law_j", "_law_code", "_law_seen", "_law_steps", "_law_d", "_law_turn", "_law_word_here", "_law_wires"] ["_law_k", "_law_pairs"] [none,some 7] from CompOk.of (by decide +kernel)) rfl (i_range1 (by rfl) T.b_range (a_cons (xop (m:=true) o_sub (xv (m:=true) 5) (xint (m:=true))) a_nil)) (fun _ _ _ _=>⟨(g_name 0 (show (["_law_k", "_law_pairs"] : List Str).Nodup from by decide +kernel) rfl (Or.inl rfl)),(f_one (tcmp (o_nin hr.units) (xtup (m:=true) (a_cons (xv (m:=false) 0) (a_cons (xop (m:=false) o_add (xv (m:=true) 0) (xint (m:=true))) a_nil))) (xv (m:=true) 1) (by rfl))),(xtup (m:=false) (a_cons (xv (m:=false) 0) (a_cons (xop (m:=false) o_add (xv (m:=true) 0) (xint (m:=true))) a_nil)))⟩) (by decide)
     case c1=>exact n_comp (defScope s__law_graph) [none,some 9,some 10] ["_law_pair", "_law_one", "_law_two"] rfl (show CompOk (defScope s__law_graph) _ ["_law_script", "_law_first", "_law_n", "_law_many_here", "_law_order_here", "_law_size", "_law_cell", "_law_pairs", "_law_w", "_law_one", "_law_two", "_law_takes", "_law_fills", "_law_marks", "_law_spots", "_law_i", "_law_j", "_law_code", "_law_seen", "_law_steps", "_law_d", "_law_turn", "_law_word_here", "_law_wires"] ["_law_pair", "_law_one", "_law_two"] [none,some 9,some 10] from CompOk.of (by decide +kernel)) rfl (i_seqP (xv (m:=true) 7)) (fun _ _ _ _=>⟨(g_name 0 (show (["_law_pair", "_law_one", "_law_two"] : List Str).Nodup from by decide +kernel) rfl (Or.inl rfl)),(f_one (tcmp (o_ne hr.units) (xv (m:=true) 0) (xtup (m:=true) (a_cons (xv (m:=false) 1) (a_cons (xv (m:=false) 2) a_nil))) (nomark _))),(xv (m:=false) 0)⟩) (by decide)))
end
section
variable {P : Program} {w : World} {K : PySem.W.Frag} {mg : Str→Option Value} {base : Heap}
theorem c__law_choice (Df : Def K mg "_law_choice" s__law_choice) (T : Txt K mg)  (C__law_mix : CalD P w K mg base 1 "_law_mix" ["_law_script", "_law_k"] false F__law_mix) (C__law_word : CalD P w K mg base 1 "_law_word" ["_law_cell", "_law_k"] false F__law_word) : CalD P w K mg base 2 "_law_choice" ["_law_script", "_law_first"] false F__law_choice :=
 cal_d (N:=["_law_script", "_law_first", "_law_cell", "_law_base", "_law_code", "_law_steps", "_law_wires", "_law_k", "_law_more", "_law_x", "_law_up", "_law_spot", "_law_turn"]) (ps:=["_law_script", "_law_first"]) (st:=s__law_choice) (k:=1) (g:=g__law_choice) Df sc__law_choice (fun _ _ _ _ _ _ us hl=>ar2 us hl fun _ _=>rfl) (fun f cdv A outer s H E hr=>(by
     unfold g__law_choice
     exact (b_cons (s_set 2 sc__law_choice.nd rfl (Or.inl rfl) (xcal (m:=false) C__law_mix (hr.mono (by lia)) (a_cons (xv (m:=false) 0) (a_cons (xv (m:=false) 1) a_nil))))
     (b_cons (s_set 3 sc__law_choice.nd rfl (Or.inl rfl) (xop (m:=false) o_mod (xop (m:=true) o_fdiv (xv (m:=true) 2) (xint (m:=true))) (xint (m:=true))))
     (b_cons (s_set 4 sc__law_choice.nd rfl (Or.inl rfl) (xop (m:=false) o_mod (xop (m:=true) o_fdiv (xv (m:=true) 2) (xint (m:=true))) (xint (m:=true))))
     (b_cons (s_set 5 sc__law_choice.nd rfl (Or.inl rfl) (PNd.x (m:=false) (nlst a_nil)))
     (b_cons (s_own 6 sc__law_choice.nd rfl (Or.inl rfl) (nlst (a_cons (xtup (m:=false) (a_cons (xcal (m:=false) C__law_word (hr.mono (by lia)) (a_cons (xop (m:=false) o_fdiv (xv (m:=true) 2) (xint (m:=true))) (a_cons (xint (m:=false)) a_nil))) (a_cons (xstr (m:=false)) a_nil))) a_nil)))
     (b_cons (s_for PassesOwn.never rfl (i_range1 (by rfl) T.b_range (a_cons (xop (m:=true) o_add (xint (m:=true)) (xop (m:=true) o_mod (xv (m:=true) 2) (xint (m:=true)))) a_nil)) (g_name 7 sc__law_choice.nd rfl (Or.inl rfl)) (b_cons (s_set 8 sc__law_choice.nd rfl (Or.inl rfl) (xcal (m:=false) C__law_mix (hr.mono (by lia)) (a_cons (xv (m:=false) 0) (a_cons (xop (m:=false) o_add (xop (m:=true) o_add (xv (m:=true) 1) (xint (m:=true))) (xv (m:=true) 7)) a_nil))))
     (b_cons (s_set 9 sc__law_choice.nd rfl (Or.inl rfl) (xop (m:=false) o_add (xint (m:=true)) (xop (m:=true) o_mulE (xv (m:=true) 7) (xop (m:=true) o_mod (xop (m:=true) o_fdiv (xv (m:=true) 2) (xint (m:=true))) (xint (m:=true))))))
     (b_cons (s_set 10 sc__law_choice.nd rfl (Or.inl rfl) (xcmp (m:=false) (o_eq hr.units) (xop (m:=true) o_and (xop (m:=true) o_shr (xv (m:=true) 4) (xv (m:=true) 9)) (xint (m:=true))) (xint (m:=true)) (nomark _)))
     (b_cons (s_set 11 sc__law_choice.nd rfl (Or.inl rfl) (xop (m:=false) o_add (xop (m:=true) o_add (xv (m:=true) 3) (xint (m:=true))) (xop (m:=true) o_mulE (xint (m:=true)) (xv (m:=true) 7))))
     (b_cons (s_meth 6 PySem.F.slot_list_append PySem.F.type_list_append m_append (a_cons (xtup (m:=false) (a_cons (xcal (m:=false) C__law_word (hr.mono (by lia)) (a_cons (xop (m:=false) o_fdiv (xv (m:=true) 2) (xint (m:=true))) (a_cons (xop (m:=false) o_add (xv (m:=true) 7) (xint (m:=true))) a_nil))) (a_cons (xix (m:=false) o_ix (PNd.x (m:=true) (nlst (a_cons (xstr (m:=false)) (a_cons (xstr (m:=false)) (a_cons (xstr (m:=false)) a_nil))))) (xop (m:=true) o_mulE (xop (m:=true) o_mod (xv (m:=true) 8) (xint (m:=true))) (xop (m:=true) o_mod (xop (m:=true) o_fdiv (xv (m:=true) 2) (xint (m:=true))) (xint (m:=true)))) (fun _ _=>rfl)) a_nil))) a_nil))
     (b_one (s_if (tcmp (o_eq hr.units) (xop (m:=true) o_mod (xop (m:=true) o_fdiv (xv (m:=true) 8) (xint (m:=true))) (xint (m:=true))) (xint (m:=true)) (nomark _)) (b_one (s_set 5 sc__law_choice.nd rfl (Or.inl rfl) (xop (m:=false) o_add (xv (m:=true) 5) (PNd.x (m:=true) (nlst (a_cons (xtup (m:=false) (a_cons (xv (m:=false) 9) (a_cons (xv (m:=false) 10) (a_cons (xtup (m:=false) (a_cons (xv (m:=false) 3) a_nil)) (a_cons (xtup (m:=false) (a_cons (xv (m:=false) 11) a_nil)) a_nil))))) (a_cons (xtup (m:=false) (a_cons (xv (m:=false) 9) (a_cons (xnot (m:=false) (xv (m:=true) 10)) (a_cons (xtup (m:=false) (a_cons (xv (m:=false) 11) a_nil)) (a_cons (xtup (m:=false) (a_cons (xv (m:=false) 3) a_nil)) a_nil))))) a_nil))))))) (b_cons (s_set 5 sc__law_choice.nd rfl (Or.inl rfl) (xop (m:=false) o_add (xv (m:=true) 5) (PNd.x (m:=true) (nlst (a_cons (xtup (m:=false) (a_cons (xv (m:=false) 9) (a_cons (xv (m:=false) 10) (a_cons (xtup (m:=false) (a_cons (xv (m:=false) 3) a_nil)) (a_cons (xtup (m:=false) (a_cons (xv (m:=false) 11) a_nil)) a_nil))))) (a_cons (xtup (m:=false) (a_cons (xint (m:=false)) (a_cons (xcmp (m:=false) (o_eq hr.units) (xop (m:=true) o_and (xv (m:=true) 4) (xint (m:=true))) (xint (m:=true)) (nomark _)) (a_cons (xtup (m:=false) (a_cons (xv (m:=false) 11) a_nil)) (a_cons (xtup (m:=false) (a_cons (xop (m:=false) o_add (xv (m:=true) 11) (xint (m:=true))) a_nil)) a_nil))))) a_nil))))))
     (b_one (s_set 5 sc__law_choice.nd rfl (Or.inl rfl) (xop (m:=false) o_add (xv (m:=true) 5) (PNd.x (m:=true) (nlst (a_cons (xtup (m:=false) (a_cons (xv (m:=false) 9) (a_cons (xnot (m:=false) (xv (m:=true) 10)) (a_cons (xtup (m:=false) (a_cons (xop (m:=false) o_add (xv (m:=true) 11) (xint (m:=true))) a_nil)) (a_cons (xtup (m:=false) (a_cons (xop (m:=false) o_add (xv (m:=true) 11) (xint (m:=true))) a_nil)) a_nil))))) (a_cons (xtup (m:=false) (a_cons (xint (m:=false)) (a_cons (xcmp (m:=false) (o_eq hr.units) (xop (m:=true) o_and (xv (m:=true) 4) (xint (m:=true))) (xint (m:=true)) (nomark _)) (a_cons (xtup (m:=false) (a_cons (xop (m:=false) o_add (xv (m:=true) 11) (xint (m:=true))) a_nil)) (a_cons (xtup (m:=false) (a_cons (xv (m:=false) 3) a_nil)) a_nil))))) a_nil))))))))))))))))
     (b_cons (s_set 12 sc__law_choice.nd rfl (Or.inl rfl) (xop (m:=false) o_mod (xop (m:=true) o_fdiv (xv (m:=true) 2) (xint (m:=true))) (xcallB (m:=true) c_len (by rfl) T.b_len (by decide +kernel) (a_cons (xv (m:=true) 5) a_nil))))
     (b_one (s_ret (xtup (m:=false) (a_cons (xcallT (m:=false) c_tuple (by rfl) T.b_tuple (by decide +kernel) (a_cons (xo 6) a_nil)) (a_cons (xcallT (m:=false) c_tuple (by rfl) T.b_tuple (by decide +kernel) (a_cons (xop (m:=true) o_add (xslice (m:=true) o_slX (xv (m:=true) 5) (o_some (xv (m:=true) 12)) o_none) (xslice (m:=true) o_slX (xv (m:=true) 5) o_none (o_some (xv (m:=true) 12)))) a_nil)) (a_cons (xop (m:=false) o_shl (xint (m:=true)) (xv (m:=true) 3)) (a_cons (xop (m:=false) o_mod (xv (m:=true) 4) (xop (m:=true) o_shl (xint (m:=true)) (xcallB (m:=true) c_len (by rfl) T.b_len (by decide +kernel) (a_cons (xo 6) a_nil)))) a_nil))))))))))))))))
end
section
variable {P : Program} {w : World} {K : PySem.W.Frag} {mg : Str→Option Value} {base : Heap}
theorem c__law_lookers (Df : Def K mg "_law_lookers" s__law_lookers) (T : Txt K mg)   : CalD P w K mg base 1 "_law_lookers" ["_law_graph_here", "_law_cell"] false F__law_lookers :=
 cal_d (N:=["_law_graph_here", "_law_cell", "_law_wires", "_law_steps", "_law_marks", "_law_code", "_law_there", "_law_step", "_law_spot", "_law_some", "_law_k", "_law_wire", "_law_up", "_law_takes", "_law_fills"]) (ps:=["_law_graph_here", "_law_cell"]) (st:=s__law_lookers) (k:=0) (g:=g__law_lookers) Df sc__law_lookers (fun _ _ _ _ _ _ us hl=>ar2 us hl fun _ _=>rfl) (fun f cdv A outer s H E hr=>(by
     unfold g__law_lookers
     refine (b_cons (s_asg (xv (m:=false) 0) (g_unp (n:=4) rfl (gs_cons (g_name 2 sc__law_lookers.nd rfl (Or.inl rfl)) (gs_cons (g_name 3 sc__law_lookers.nd rfl (Or.inl rfl)) (gs_cons (g_name 4 sc__law_lookers.nd rfl (Or.inl rfl)) (gs_cons (g_name 5 sc__law_lookers.nd rfl (Or.inl rfl)) gs_nil))))))
     (b_cons (s_set 6 sc__law_lookers.nd rfl (Or.inr rfl) (xv (m:=false) 4))
     (b_cons (s_for PassesOwn.never rfl (i_seq (xv (m:=false) 3)) (g_name 7 sc__law_lookers.nd rfl (Or.inl rfl)) (b_one (s_for PassesOwn.never rfl (i_seq (xop (m:=false) o_addT (xix (m:=true) o_ix (xv (m:=true) 7) (xint (m:=true)) (fun _ _=>rfl)) (xix (m:=true) o_ix (xv (m:=true) 7) (xint (m:=true)) (fun _ _=>rfl)))) (g_name 8 sc__law_lookers.nd rfl (Or.inl rfl)) (b_one (s_set 6 sc__law_lookers.nd rfl (Or.inr rfl) (xop (m:=false) o_or (xv (m:=true) 6) (xop (m:=true) o_shl (xint (m:=true)) (xv (m:=true) 8))))))))
     (b_cons (s_set 8 sc__law_lookers.nd rfl (Or.inl rfl) (xix (m:=false) o_ix (PNd.x (m:=true) ?c0) (xop (m:=true) o_mod (xv (m:=true) 1) (xint (m:=true))) (fun _ _=>rfl)))
     (b_cons (s_own 9 sc__law_lookers.nd rfl (Or.inl rfl) (nlst a_nil))
     (b_cons (s_for PassesOwn.never rfl (i_enum (by rfl) T.b_enumerate (xv (m:=false) 3)) (g_unp (n:=2) rfl (gs_cons (g_name 10 sc__law_lookers.nd rfl (Or.inl rfl)) (gs_cons (g_unp (n:=4) rfl (gs_cons (g_name 11 sc__law_lookers.nd rfl (Or.inl rfl)) (gs_cons (g_name 12 sc__law_lookers.nd rfl (Or.inl rfl)) (gs_cons (g_name 13 sc__law_lookers.nd rfl (Or.inl rfl)) (gs_cons (g_name 14 sc__law_lookers.nd rfl (Or.inl rfl)) gs_nil))))) gs_nil))) (b_cons (s_if (tcmp (o_eq hr.units) (xop (m:=true) o_and (xop (m:=true) o_shr (xop (m:=true) o_fdiv (xv (m:=true) 1) (xint (m:=true))) (xv (m:=true) 10)) (xint (m:=true))) (xint (m:=true)) (nomark _)) (b_cons (s_set 13 sc__law_lookers.nd rfl (Or.inl rfl) (xcallT (m:=false) c_tuple (by rfl) T.b_tuple (by decide +kernel) (a_cons (PNd.x (m:=true) (ncallB c_sortedX (by rfl) T.b_sorted (by decide +kernel) (a_cons (xop (m:=true) o_addT (xv (m:=true) 13) (xtup (m:=true) (a_cons (xv (m:=false) 8) a_nil))) a_nil))) a_nil)))
     (b_one (s_set 14 sc__law_lookers.nd rfl (Or.inl rfl) (xcallT (m:=false) c_tuple (by rfl) T.b_tuple (by decide +kernel) (a_cons (PNd.x (m:=true) (ncallB c_sortedX (by rfl) T.b_sorted (by decide +kernel) (a_cons (xop (m:=true) o_addT (xv (m:=true) 14) (xtup (m:=true) (a_cons (xv (m:=false) 8) a_nil))) a_nil))) a_nil))))) b_nil)
     (b_one (s_meth 9 PySem.F.slot_list_append PySem.F.type_list_append m_append (a_cons (xtup (m:=false) (a_cons (xv (m:=false) 11) (a_cons (xv (m:=false) 12) (a_cons (xv (m:=false) 13) (a_cons (xv (m:=false) 14) a_nil))))) a_nil)))))
     (b_one (s_ret (xtup (m:=false) (a_cons (xv (m:=false) 2) (a_cons (xcallT (m:=false) c_tuple (by rfl) T.b_tuple (by decide +kernel) (a_cons (xo 9) a_nil)) (a_cons (xop (m:=false) o_or (xv (m:=true) 4) (xop (m:=true) o_shl (xint (m:=true)) (xv (m:=true) 8))) (a_cons (xv (m:=false) 5) a_nil)))))))))))))
     case c0=>exact n_comp (defScope s__law_lookers) [none,some 6] ["_law_p", "_law_there"] rfl (show CompOk (defScope s__law_lookers) _ ["_law_graph_here", "_law_cell", "_law_wires", "_law_steps", "_law_marks", "_law_code", "_law_there", "_law_step", "_law_spot", "_law_some", "_law_k", "_law_wire", "_law_up", "_law_takes", "_law_fills"] ["_law_p", "_law_there"] [none,some 6] from CompOk.of (by decide +kernel)) rfl (i_range1 (by rfl) T.b_range (a_cons (xint (m:=true)) a_nil)) (fun _ _ _ _=>⟨(g_name 0 (show (["_law_p", "_law_there"] : List Str).Nodup from by decide +kernel) rfl (Or.inl rfl)),(f_one (tcmp (o_eq hr.units) (xop (m:=true) o_and (xop (m:=true) o_shr (xv (m:=true) 1) (xv (m:=true) 0)) (xint (m:=true))) (xint (m:=true)) (nomark _))),(xv (m:=false) 0)⟩) (by decide)))
end
section
variable {P : Program} {w : World} {K : PySem.W.Frag} {mg : Str→Option Value} {base : Heap}
theorem c__law_sort (Df : Def K mg "_law_sort" s__law_sort) (T : Txt K mg)   : CalD P w K mg base 1 "_law_sort" ["_law_e"] false F__law_sort :=
 cal_d (N:=["_law_e", "_law_sorts"]) (ps:=["_law_e"]) (st:=s__law_sort) (k:=0) (g:=g__law_sort) Df sc__law_sort (fun _ _ _ _ _ _ us hl=>ar1 us hl fun _=>rfl) (fun f cdv A outer s H E hr=>(by
     unfold g__law_sort
     exact (b_cons (s_set 1 sc__law_sort.nd rfl (Or.inl rfl) (PNd.x (m:=false) (nlst (a_cons (xisC (m:=false) (tx:="Broken") (sb:=sbOf ["TooMany"] "Broken") (xv (m:=true) 0) T.i_Broken T.b_isinstance) (a_cons (xisC (m:=false) (tx:="Crowded") (sb:=sbOf ["TooMany"] "Crowded") (xv (m:=true) 0) T.i_Crowded T.b_isinstance) (a_cons (xisC (m:=false) (tx:="TooMany") (sb:=sbOf ["TooMany"] "TooMany") (xv (m:=true) 0) T.i_TooMany T.b_isinstance) (a_cons (xisC (m:=false) (tx:="CalledOff") (sb:=sbOf ["TooMany"] "CalledOff") (xv (m:=true) 0) T.i_CalledOff T.b_isinstance) a_nil)))))))
     (b_cons (s_set 1 sc__law_sort.nd rfl (Or.inl rfl) (xop (m:=false) o_add (xv (m:=true) 1) (PNd.x (m:=true) (nlst (a_cons (xisC (m:=false) (tx:="Clash") (sb:=sbOf ["TooMany"] "Clash") (xv (m:=true) 0) T.i_Clash T.b_isinstance) (a_cons (xisC (m:=false) (tx:="NoMove") (sb:=sbOf ["TooMany"] "NoMove") (xv (m:=true) 0) T.i_NoMove T.b_isinstance) (a_cons (xisC (m:=false) (tx:="NoPlace") (sb:=sbOf ["TooMany"] "NoPlace") (xv (m:=true) 0) T.i_NoPlace T.b_isinstance) (a_cons (xisC (m:=false) (tx:="NoText") (sb:=sbOf ["TooMany"] "NoText") (xv (m:=true) 0) T.i_NoText T.b_isinstance) a_nil))))))))
     (b_cons (s_if (PWd.pt (w_or (tcmp (o_ne hr.units) (xbm (m:=true) PySem.F.plainAttrs_list PySem.F.slot_list_count PySem.F.type_list_count (m_count hr.units) (xv (m:=true) 1) (a_cons (xbl (m:=true)) a_nil)) (xint (m:=true)) (nomark _)) (w_or1 (tnot (tval (xisV (m:=true) (sb:=sbAll ["TooMany"]) (xv (m:=true) 0) T.b_ValueError (by decide +kernel) (by decide +kernel) T.j_ValueError T.b_isinstance)))))) (b_one (s_ret (xstr (m:=false)))) b_nil)
     (b_one (s_ret (xix (m:=false) o_ix (PNd.x (m:=true) (nlst (a_cons (xstr (m:=false)) (a_cons (xstr (m:=false)) (a_cons (xstr (m:=false)) (a_cons (xstr (m:=false)) (a_cons (xstr (m:=false)) (a_cons (xstr (m:=false)) (a_cons (xstr (m:=false)) (a_cons (xstr (m:=false)) a_nil)))))))))) (xbm (m:=true) PySem.F.plainAttrs_list PySem.F.slot_list_index PySem.F.type_list_index (m_index hr.units) (xv (m:=true) 1) (a_cons (xbl (m:=true)) a_nil)) (fun _ _=>rfl)))))))))
end
section
variable {P : Program} {w : World} {K : PySem.W.Frag} {mg : Str→Option Value} {base : Heap}
theorem c__law_can (Df : Def K mg "_law_can" s__law_can) (T : Txt K mg)   : CalD P w K mg base 1 "_law_can" ["_law_step", "_law_marks"] false F__law_can :=
 cal_d (N:=["_law_step", "_law_marks"]) (ps:=["_law_step", "_law_marks"]) (st:=s__law_can) (k:=0) (g:=g__law_can) Df sc__law_can (fun _ _ _ _ _ _ us hl=>ar2 us hl fun _ _=>rfl) (fun f cdv A outer s H E hr=>(by
     unfold g__law_can
     refine (b_one (s_ret (xcallB (m:=false) (c_all rfl) (by rfl) T.b_all (by decide +kernel) (a_cons (PNd.x (m:=true) ?c0) a_nil))))
     case c0=>exact n_comp (defScope s__law_can) [none,some 1] ["_law_spot", "_law_marks"] rfl (show CompOk (defScope s__law_can) _ ["_law_step", "_law_marks"] ["_law_spot", "_law_marks"] [none,some 1] from CompOk.of (by decide +kernel)) rfl (i_seqP (xix (m:=true) o_ix (xv (m:=true) 0) (xint (m:=true)) (fun _ _=>rfl))) (fun _ _ _ _=>⟨(g_name 0 (show (["_law_spot", "_law_marks"] : List Str).Nodup from by decide +kernel) rfl (Or.inl rfl)),f_nil,(xcmp (m:=false) (o_eq hr.units) (xop (m:=true) o_and (xop (m:=true) o_shr (xv (m:=true) 1) (xv (m:=true) 0)) (xint (m:=true))) (xint (m:=true)) (nomark _))⟩) (by decide)))
end
section
variable {P : Program} {w : World} {K : PySem.W.Frag} {mg : Str→Option Value} {base : Heap}
theorem c__law_done (Df : Def K mg "_law_done" s__law_done) (T : Txt K mg)   : CalD P w K mg base 1 "_law_done" ["_law_step", "_law_stand"] false F__law_done :=
 cal_d (N:=["_law_step", "_law_stand", "_law_marks", "_law_code", "_law_spot"]) (ps:=["_law_step", "_law_stand"]) (st:=s__law_done) (k:=0) (g:=g__law_done) Df sc__law_done (fun _ _ _ _ _ _ us hl=>ar2 us hl fun _ _=>rfl) (fun f cdv A outer s H E hr=>(by
     unfold g__law_done
     refine (b_cons (s_asg (xv (m:=false) 1) (g_unp (n:=2) rfl (gs_cons (g_name 2 sc__law_done.nd rfl (Or.inr rfl)) (gs_cons (g_name 3 sc__law_done.nd rfl (Or.inl rfl)) gs_nil))))
     (b_cons (s_if (tcmp (o_eq hr.units) (xcmp (m:=true) (o_eq hr.units) (xop (m:=true) o_and (xop (m:=true) o_shr (xv (m:=true) 3) (xix (m:=true) o_ix (xv (m:=true) 0) (xint (m:=true)) (fun _ _=>rfl))) (xint (m:=true))) (xint (m:=true)) (nomark _)) (xix (m:=true) o_ix (xv (m:=true) 0) (xint (m:=true)) (fun _ _=>rfl)) (nomark _)) (b_one (s_ret (xstr (m:=false)))) b_nil)
     (b_cons (s_for PassesOwn.never rfl (i_seq (xix (m:=false) o_ix (xv (m:=true) 0) (xint (m:=true)) (fun _ _=>rfl))) (g_name 4 sc__law_done.nd rfl (Or.inl rfl)) (b_one (s_set 2 sc__law_done.nd rfl (Or.inr rfl) (xop (m:=false) o_sub (xv (m:=true) 2) (xop (m:=true) o_shl (xint (m:=true)) (xv (m:=true) 4))))))
     (b_cons (s_if (tval (xcallB (m:=true) (c_any rfl) (by rfl) T.b_any (by decide +kernel) (a_cons (PNd.x (m:=true) ?c0) a_nil))) (b_one (s_ret (xstr (m:=false)))) b_nil)
     (b_cons (s_for PassesOwn.never rfl (i_seq (xix (m:=false) o_ix (xv (m:=true) 0) (xint (m:=true)) (fun _ _=>rfl))) (g_name 4 sc__law_done.nd rfl (Or.inl rfl)) (b_one (s_set 2 sc__law_done.nd rfl (Or.inr rfl) (xop (m:=false) o_add (xv (m:=true) 2) (xop (m:=true) o_shl (xint (m:=true)) (xv (m:=true) 4))))))
     (b_cons (s_if (tval (xix (m:=true) o_ix (xv (m:=true) 0) (xint (m:=true)) (fun _ _=>rfl))) (b_one (s_ret (xtup (m:=false) (a_cons (xv (m:=false) 2) (a_cons (xop (m:=false) o_add (xv (m:=true) 3) (xop (m:=true) o_shl (xint (m:=true)) (xix (m:=true) o_ix (xv (m:=true) 0) (xint (m:=true)) (fun _ _=>rfl)))) a_nil))))) b_nil)
     (b_one (s_ret (xtup (m:=false) (a_cons (xv (m:=false) 2) (a_cons (xop (m:=false) o_sub (xv (m:=true) 3) (xop (m:=true) o_shl (xint (m:=true)) (xix (m:=true) o_ix (xv (m:=true) 0) (xint (m:=true)) (fun _ _=>rfl)))) a_nil)))))))))))
     case c0=>exact n_comp (defScope s__law_done) [none,some 2] ["_law_spot", "_law_marks"] rfl (show CompOk (defScope s__law_done) _ ["_law_step", "_law_stand", "_law_marks", "_law_code", "_law_spot"] ["_law_spot", "_law_marks"] [none,some 2] from CompOk.of (by decide +kernel)) rfl (i_seqP (xix (m:=true) o_ix (xv (m:=true) 0) (xint (m:=true)) (fun _ _=>rfl))) (fun _ _ _ _=>⟨(g_name 0 (show (["_law_spot", "_law_marks"] : List Str).Nodup from by decide +kernel) rfl (Or.inl rfl)),f_nil,(xcmp (m:=false) (o_eq hr.units) (xop (m:=true) o_and (xop (m:=true) o_shr (xv (m:=true) 1) (xv (m:=true) 0)) (xint (m:=true))) (xint (m:=true)) (nomark _))⟩) (by decide)))
end
section
variable {P : Program} {w : World} {K : PySem.W.Frag} {mg : Str→Option Value} {base : Heap}
theorem c__law_in_order (Df : Def K mg "_law_in_order" s__law_in_order) (T : Txt K mg)  (C__law_can : CalD P w K mg base 1 "_law_can" ["_law_step", "_law_marks"] false F__law_can) (C__law_done : CalD P w K mg base 1 "_law_done" ["_law_step", "_law_stand"] false F__law_done) : CalD P w K mg base 2 "_law_in_order" ["_law_graph_here", "_law_rows"] false F__law_in_order :=
 cal_d (N:=["_law_graph_here", "_law_rows", "_law_begin", "_law_there", "_law_n", "_law_k", "_law_step", "_law_new"]) (ps:=["_law_graph_here", "_law_rows"]) (st:=s__law_in_order) (k:=1) (g:=g__law_in_order) Df sc__law_in_order (fun _ _ _ _ _ _ us hl=>ar2 us hl fun _ _=>rfl) (fun f cdv A outer s H E hr=>(by
     unfold g__law_in_order
     exact (b_cons (s_set 2 sc__law_in_order.nd rfl (Or.inl rfl) (xtup (m:=false) (a_cons (xix (m:=false) o_ix (xv (m:=true) 0) (xint (m:=true)) (fun _ _=>rfl)) (a_cons (xix (m:=false) o_ix (xv (m:=true) 0) (xint (m:=true)) (fun _ _=>rfl)) a_nil))))
     (b_cons (s_if (PWd.pt (w_or (tnot (tval (xisi (m:=true) (T:="list") (xv (m:=true) 1) (by rfl) T.b_isinstance (by decide +kernel) (by rfl) T.b_list (by decide +kernel)))) (w_or (tcmp (o_eq hr.units) (xv (m:=true) 1) (PNd.x (m:=true) (nlst a_nil)) (nomark _)) (w_or1 (tcmp (o_ne hr.units) (xix (m:=true) o_ix (xv (m:=true) 1) (xint (m:=true)) (fun _ _=>rfl)) (xop (m:=true) o_addT (xv (m:=true) 2) (xtup (m:=true) (a_cons (xnon (m:=false)) (a_cons (xnon (m:=false)) a_nil)))) (nomark _)))))) (b_one (s_ret (xbl (m:=false)))) b_nil)
     (b_cons (s_ownD 3 sc__law_in_order.nd rfl (Or.inl rfl) (hu_of hr) (xv (m:=true) 2) (xbl (m:=false)))
     (b_cons (s_for PassesOwn.never rfl (i_range1 (by rfl) T.b_range (a_cons (xcallB (m:=true) c_len (by rfl) T.b_len (by decide +kernel) (a_cons (xv (m:=true) 1) a_nil)) a_nil)) (g_name 4 sc__law_in_order.nd rfl (Or.inl rfl)) (b_one (s_for PassesOwn.never rfl (i_enum (by rfl) T.b_enumerate (xix (m:=false) o_ix (xv (m:=true) 0) (xint (m:=true)) (fun _ _=>rfl))) (g_unp (n:=2) rfl (gs_cons (g_name 5 sc__law_in_order.nd rfl (Or.inl rfl)) (gs_cons (g_name 6 sc__law_in_order.nd rfl (Or.inl rfl)) gs_nil))) (b_one (s_if (PWd.pt (w_and (tcmp o_lt (xv (m:=true) 4) (xcallB (m:=true) c_len (by rfl) T.b_len (by decide +kernel) (a_cons (xv (m:=true) 1) a_nil)) (nomark _)) (w_and1 (tval (xcal (m:=true) C__law_can (hr.mono (by lia)) (a_cons (xv (m:=false) 6) (a_cons (xix (m:=false) o_ix (xix (m:=true) o_ix (xv (m:=true) 1) (xv (m:=true) 4) (fun _ _=>rfl)) (xint (m:=true)) (fun _ _=>rfl)) a_nil))))))) (b_cons (s_set 7 sc__law_in_order.nd rfl (Or.inl rfl) (xcal (m:=false) C__law_done (hr.mono (by lia)) (a_cons (xv (m:=false) 6) (a_cons (xslice (m:=false) o_slX (xix (m:=true) o_ix (xv (m:=true) 1) (xv (m:=true) 4) (fun _ _=>rfl)) o_none (o_some (xint (m:=true)))) a_nil))))
     (b_one (s_if (tDnin 3 (hu_of hr) (xv (m:=true) 7)) (b_cons (s_if (PWd.pt (w_or (tcmp o_ge (xDlen (m:=true) 3 (by rfl) T.b_len (by decide +kernel)) (xcallB (m:=true) c_len (by rfl) T.b_len (by decide +kernel) (a_cons (xv (m:=true) 1) a_nil)) (nomark _)) (w_or1 (tcmp (o_ne hr.units) (xix (m:=true) o_ix (xv (m:=true) 1) (xDlen (m:=true) 3 (by rfl) T.b_len (by decide +kernel)) (fun _ _=>rfl)) (xop (m:=true) o_addT (xv (m:=true) 7) (xtup (m:=true) (a_cons (xv (m:=false) 4) (a_cons (xv (m:=false) 5) a_nil)))) (nomark _))))) (b_one (s_ret (xbl (m:=false)))) b_nil)
     (b_one (s_dput 3 (hu_of hr) (xv (m:=true) 7) (xbl (m:=false))))) b_nil))) b_nil)))))
     (b_one (s_ret (xcmp (m:=false) (o_eq hr.units) (xDlen (m:=true) 3 (by rfl) T.b_len (by decide +kernel)) (xcallB (m:=true) c_len (by rfl) T.b_len (by decide +kernel) (a_cons (xv (m:=true) 1) a_nil)) (nomark _))))))))))
end
section
variable {P : Program} {w : World} {K : PySem.W.Frag} {mg : Str→Option Value} {base : Heap}
theorem c__law_whole (Df : Def K mg "_law_whole" s__law_whole) (T : Txt K mg)   : CalD P w K mg base 1 "_law_whole" ["_law_rows"] false F__law_whole :=
 cal_d (N:=["_law_rows", "_law_n", "_law_row", "_law_number"]) (ps:=["_law_rows"]) (st:=s__law_whole) (k:=0) (g:=g__law_whole) Df sc__law_whole (fun _ _ _ _ _ _ us hl=>ar1 us hl fun _=>rfl) (fun f cdv A outer s H E hr=>(by
     unfold g__law_whole
     exact (b_cons (s_for PassesOwn.never rfl (i_enum (by rfl) T.b_enumerate (xv (m:=false) 0)) (g_unp (n:=2) rfl (gs_cons (g_name 1 sc__law_whole.nd rfl (Or.inl rfl)) (gs_cons (g_name 2 sc__law_whole.nd rfl (Or.inl rfl)) gs_nil))) (b_one (s_for PassesOwn.never rfl (i_seq (xslice (m:=false) o_slX (xv (m:=true) 2) o_none (o_some (xop (m:=true) o_add (xint (m:=true)) (xop (m:=true) o_mulE (xint (m:=true)) (xcallT (m:=true) c_int (by rfl) T.b_int (by decide +kernel) (a_cons (xcmp (m:=true) o_gt (xv (m:=true) 1) (xint (m:=true)) (nomark _)) a_nil))))))) (g_name 3 sc__law_whole.nd rfl (Or.inl rfl)) (b_one (s_if (PWd.pt (w_or (tnot (tval (xisi (m:=true) (T:="int") (xv (m:=true) 3) (by rfl) T.b_isinstance (by decide +kernel) (by rfl) T.b_int (by decide +kernel)))) (w_or1 (tval (xisi (m:=true) (T:="bool") (xv (m:=true) 3) (by rfl) T.b_isinstance (by decide +kernel) (by rfl) T.b_bool (by decide +kernel)))))) (b_one (s_ret (xbl (m:=false)))) b_nil)))))
     (b_one (s_ret (xbl (m:=false)))))))
end
section
variable {P : Program} {w : World} {K : PySem.W.Frag} {mg : Str→Option Value} {base : Heap}
theorem c__law_many (Df : Def K mg "_law_many" s__law_many) (T : Txt K mg)  (C_stands : CalX P w K mg base 5 "stands" ["graph", "most"] true F_stands) (C__law_sort : CalD P w K mg base 1 "_law_sort" ["_law_e"] false F__law_sort) : CalD P w K mg base 6 "_law_many" ["_law_graph_here", "_law_most"] false F__law_many :=
 cal_d (N:=["_law_graph_here", "_law_most", "_law_caught", "_law_e"]) (ps:=["_law_graph_here", "_law_most"]) (st:=s__law_many) (k:=5) (g:=g__law_many) Df sc__law_many (fun _ _ _ _ _ _ us hl=>ar2 us hl fun _ _=>rfl) (fun f cdv A outer s H E hr=>(by
     unfold g__law_many
     exact (b_cons (s_set 2 sc__law_many.nd rfl (Or.inl rfl) (xnon (m:=false)))
     (b_cons (s_tryC (i:=3) (sub:=subAll ["TooMany"]) (fun _ _=>(b_one (s_exprX (xcalX C_stands (hr.mono (by lia)) (a_cons (xv (m:=false) 0) (a_cons (xv (m:=false) 1) a_nil)))))) (fun _ _=>(b_one (s_set 2 sc__law_many.nd rfl (Or.inl rfl) (xv (m:=false) 3)))) T.k_CalmError sc__law_many.nd rfl (Or.inl rfl))
     (b_one (s_ret (xand (m:=false) (xcmp (m:=true) o_isn (xv (m:=true) 2) (xnon (m:=true)) (nomark _)) (xone (xcmp (m:=false) (o_eq hr.units) (xcal (m:=true) C__law_sort (hr.mono (by lia)) (a_cons (xv (m:=false) 2) a_nil)) (xstr (m:=true)) (nomark _))))))))))
end
section
variable {P : Program} {w : World} {K : PySem.W.Frag} {mg : Str→Option Value} {base : Heap}
theorem c_law {f : Addr} {fd : FuncData} (Df : Fun K "law" "law" s_law f fd) (T : Txt K mg)  (C__law_mix : CalD P w K mg base 1 "_law_mix" ["_law_script", "_law_k"] false F__law_mix) (C_stands : CalX P w K mg base 5 "stands" ["graph", "most"] true F_stands) (C__law_choice : CalD P w K mg base 2 "_law_choice" ["_law_script", "_law_first"] false F__law_choice) (C__law_graph : CalD P w K mg base 3 "_law_graph" ["_law_script", "_law_first", "_law_n", "_law_many_here"] false F__law_graph) (C__law_lookers : CalD P w K mg base 1 "_law_lookers" ["_law_graph_here", "_law_cell"] false F__law_lookers) (C__law_in_order : CalD P w K mg base 2 "_law_in_order" ["_law_graph_here", "_law_rows"] false F__law_in_order) (C__law_whole : CalD P w K mg base 1 "_law_whole" ["_law_rows"] false F__law_whole) (C__law_many : CalD P w K mg base 6 "_law_many" ["_law_graph_here", "_law_most"] false F__law_many) (hl : ∀ ns : List Int,ns.length≤63→F_law [.lst (ns.map .int)] = .ok (.bl true)) : FnOk P w K mg base CX0 7 f fd ["_law_script"] (spLaw K) :=
 law_d (N:=["_law_script", "_law_cell", "_law_graph_here", "_law_rows", "_law_kept"]) (ps:=["_law_script"]) (st:=s_law) (g:=g_law) Df sc_law rfl (fun cdv A outer s H E hr=>(by
     unfold g_law
     exact (b_cons (s_set 1 sc_law.nd rfl (Or.inl rfl) (xcal (m:=false) C__law_mix (hr.mono (by lia)) (a_cons (xv (m:=false) 0) (a_cons (xint (m:=false)) a_nil))))
     (b_cons (s_if (tcmp (o_eq hr.units) (xop (m:=true) o_mod (xv (m:=true) 1) (xint (m:=true))) (xint (m:=true)) (nomark _)) (b_one (s_set 2 sc_law.nd rfl (Or.inl rfl) (xcal (m:=false) C__law_choice (hr.mono (by lia)) (a_cons (xv (m:=false) 0) (a_cons (xint (m:=false)) a_nil))))) (b_one (s_set 2 sc_law.nd rfl (Or.inl rfl) (xcal (m:=false) C__law_graph (hr.mono (by lia)) (a_cons (xv (m:=false) 0) (a_cons (xint (m:=false)) (a_cons (xop (m:=false) o_add (xint (m:=true)) (xop (m:=true) o_mod (xop (m:=true) o_fdiv (xv (m:=true) 1) (xint (m:=true))) (xint (m:=true)))) (a_cons (xop (m:=false) o_mod (xop (m:=true) o_fdiv (xv (m:=true) 1) (xint (m:=true))) (xint (m:=true))) a_nil))))))))
     (b_cons (s_if (tcmp (o_eq hr.units) (xop (m:=true) o_mod (xop (m:=true) o_fdiv (xv (m:=true) 1) (xint (m:=true))) (xint (m:=true))) (xint (m:=true)) (nomark _)) (b_one (s_set 2 sc_law.nd rfl (Or.inl rfl) (xcal (m:=false) C__law_lookers (hr.mono (by lia)) (a_cons (xv (m:=false) 2) (a_cons (xop (m:=false) o_fdiv (xv (m:=true) 1) (xint (m:=true))) a_nil))))) b_nil)
     (b_cons (s_own 3 sc_law.nd rfl (Or.inl rfl) (ncalO C_stands (hr.mono (by lia)) (a_cons (xv (m:=false) 2) (a_cons (xint (m:=false)) a_nil))))
     (b_cons (s_if (PWd.pt (w_or (tnot (tval (xcalP (m:=true) C__law_in_order (hr.mono (by lia)) (a_cons (xv (m:=true) 2) (a_cons (xo 3) a_nil))))) (w_or1 (tnot (tval (xcalP (m:=true) C__law_whole (hr.mono (by lia)) (a_cons (xo 3) a_nil))))))) (b_one (s_ret (xbl (m:=false)))) b_nil)
     (b_cons (s_set 4 sc_law.nd rfl (Or.inl rfl) (PNd.x (m:=false) (ncallT c_list (by rfl) T.b_list (by decide +kernel) (a_cons (xo 3) a_nil))))
     (b_cons (s_meth 3 PySem.F.slot_list_append PySem.F.type_list_append m_append (a_cons (xint (m:=false)) a_nil))
     (b_cons (s_if (PWd.pt (w_and (tcmp o_gt (xcallB (m:=true) c_len (by rfl) T.b_len (by decide +kernel) (a_cons (xv (m:=true) 4) a_nil)) (xint (m:=true)) (nomark _)) (w_and1 (tnot (tval (xcal (m:=true) C__law_many (hr.mono (by lia)) (a_cons (xv (m:=false) 2) (a_cons (xop (m:=false) o_add (xint (m:=true)) (xop (m:=true) o_mod (xop (m:=true) o_fdiv (xv (m:=true) 1) (xint (m:=true))) (xop (m:=true) o_sub (xcallB (m:=true) c_len (by rfl) T.b_len (by decide +kernel) (a_cons (xv (m:=true) 4) a_nil)) (xint (m:=true))))) a_nil)))))))) (b_one (s_ret (xbl (m:=false)))) b_nil)
     (b_one (s_ret (xcmp (m:=false) (o_eq hr.units) (xcalO (m:=true) C_stands (hr.mono (by lia)) (a_cons (xv (m:=false) 2) (a_cons (xcallB (m:=false) c_len (by rfl) T.b_len (by decide +kernel) (a_cons (xv (m:=true) 4) a_nil)) a_nil))) (xv (m:=true) 4) (nomark _)))))))))))))) hl
end
end K22
namespace L2
open PySem PySem.Spec PyProof.Rows
def Gd (r : Fl) (N : Ev→Prop) (R : Dat→Prop) : Prop := match r with
 | .next e=>N e
 | .ret d=>R d
 | _=>False
structure Go (r : Fl) (N : Ev→Prop) (R : Dat→Prop) : Prop where
 of : Gd r N R
section
variable {N : Ev→Prop} {R : Dat→Prop} {g h : Ev→Fl} {f : Ev→Option Dat} {fs : Ev→Option (List Dat)} {t : Ev→Option Bool} {env : Ev} {d : Dat} {ds : List Dat} {i : Nat}
theorem Go.mono {N' : Ev→Prop} {R' : Dat→Prop} {r : Fl} (q : Go r N R) (hN : ∀ e,N e→N' e) (hR : ∀ d,R d→R' d) : Go r N' R' := by
 cases r with
 | next e=>exact ⟨hN e q.of⟩
 | ret d=>exact ⟨hR d q.of⟩
 | _=>exact q.of.elim
theorem go_nil (q : N env) : Go (bNil env) N R := ⟨q⟩
theorem go_cons (q : Go (g env) (fun e=>Go (h e) N R) R) : Go (bCons g h env) N R := by
 unfold bCons
 cases e : g env with
 | next e'=>rw [e] at q;exact q.of
 | ret d=>rw [e] at q;exact ⟨q.of⟩
 | _=>rw [e] at q;exact q.of.elim
theorem go_set (e : f env = some d) (q : N (env.set i (.fz d))) : Go (sSet i f env) N R := by unfold sSet;rw [e];exact ⟨q⟩
theorem go_own (e : fs env = some ds) (q : N (env.set i (.ow ds))) : Go (sOwn i fs env) N R := by unfold sOwn;rw [e];exact ⟨q⟩
theorem go_ret (e : f env = some d) (q : R d) : Go (sRet f env) N R := by unfold sRet;rw [e];exact ⟨q⟩
theorem go_retO (e : env[i]? = some (.ow ds)) (q : R (.lst ds)) : Go (sRetO i env) N R := by unfold sRetO;rw [e];exact ⟨q⟩
theorem go_ifT (e : t env = some true) (q : Go (g env) N R) : Go (sIf t g h env) N R := by unfold sIf;rw [e];exact q
theorem go_ifF (e : t env = some false) (q : Go (h env) N R) : Go (sIf t g h env) N R := by unfold sIf;rw [e];exact q
theorem go_if {b : Bool} (e : t env = some b) (q1 : b = true→Go (g env) N R) (q2 : b = false→Go (h env) N R) : Go (sIf t g h env) N R := by
 cases b with
 | true=>exact go_ifT e (q1 rfl)
 | false=>exact go_ifF e (q2 rfl)
theorem go_asg {gg : Dat→Ev→Option Ev} {env' : Ev} (e : f env = some d) (e2 : gg d env = some env') (q : N env') : Go (sAsg f gg env) N R := by
 unfold sAsg;rw [e];dsimp only [Option.bind];rw [e2];exact ⟨q⟩
theorem go_meth {F : List Dat→List Dat→Option (List Dat)} {ds' as : List Dat} (e : env[i]? = some (.ow ds)) (e2 : fs env = some as) (e3 : F ds as = some ds') (q : N (env.set i (.ow ds'))) : Go (sMeth i F fs env) N R := by
 unfold sMeth;rw [e];dsimp only;rw [e2];dsimp only [Option.bind];rw [e3];exact ⟨q⟩
theorem go_forL {gg : Dat→Ev→Option Ev} (P : Nat→Ev→Prop) : ∀ (ds : List Dat) (k : Nat) (env : Ev),P k env→(∀ i d e,ds[i]? = some d→P (k + i) e→∃ e1,gg d e = some e1∧Go (g e1) (P (k + i + 1)) R)→(∀ e,P (k + ds.length) e→N e)→Go (forL gg g ds env) N R
 | [],k,env,h0,_,hN=>⟨hN env h0⟩
 | d :: ds,k,env,h0,hs,hN=>by
   obtain ⟨e1,a1,a2⟩ := hs 0 d env rfl h0
   rw [forL,a1]
   dsimp only
   cases e : g e1 with
   | next e' =>
     rw [e] at a2
     exact go_forL P ds (k + 1) e' a2.of (fun i d e hi hp=>by
       have := hs (i + 1) d e (by simpa using hi) (by rw [show k + (i + 1) = k + 1 + i by lia];exact hp)
       rw [show k + 1 + i + 1 = k + (i + 1) + 1 by lia];exact this) (fun e hp=>hN e (by rw [List.length_cons,show k + (ds.length + 1) = k + 1 + ds.length by lia];exact hp))
   | ret d'=>rw [e] at a2;exact ⟨a2.of⟩
   | _=>rw [e] at a2;exact a2.of.elim
theorem go_for {src : Ev→Option (List Dat)} {gg : Dat→Ev→Option Ev} (P : Nat→Ev→Prop) (e : src env = some ds) (h0 : P 0 env) (hs : ∀ i d e,ds[i]? = some d→P i e→∃ e1,gg d e = some e1∧Go (g e1) (P (i + 1)) R) (hN : ∀ e,P ds.length e→N e) : Go (sFor src gg g env) N R := by
 unfold sFor
 rw [e]
 exact go_forL P ds 0 env h0 (fun i d e hi hp=>by simpa using hs i d e hi (by simpa using hp)) (fun e hp=>hN e (by simpa using hp))
theorem run_of {n p : Nat} (hp : ds.length = p) (q : Go (g (startD n ds)) (fun _=>R .non) R) : ∃ d,runD n p g ds = .ok d∧R d := by
 unfold runD
 rw [if_pos hp]
 cases e : g (startD n ds) with
 | next e'=>rw [e] at q;exact ⟨_,rfl,q.of⟩
 | ret d=>rw [e] at q;exact ⟨_,rfl,q.of⟩
 | _=>rw [e] at q;exact q.of.elim
end
theorem rng_get {lo : Int} {n i : Nat} {d : Dat} (h : (rng lo n)[i]? = some d) : i < n∧d = .int (lo + i) := by
 unfold rng at h
 rw [List.getElem?_map] at h
 by_cases hi : i < n
 · rw [List.getElem?_range hi] at h
   exact ⟨hi,(Option.some.inj h).symm⟩
 · rw [List.getElem?_eq_none (by simpa using hi)] at h
   cases h
theorem srcR1_eq {fs : Ev→Option (List Dat)} {env : Ev} {n : Nat} (h : fs env = some [.int n]) (hn : n≤100000) : srcR1 fs env = some (rng 0 n) := by
 unfold srcR1
 rw [h]
 dsimp only
 rw [if_pos ⟨by lia,by lia,by rw [sizeLine_eq];simp;lia⟩,Int.toNat_natCast]
theorem mulI_ok {i j : Int} (h : CMul i j) : mulE (.int i) (.int j) = some (.int (i * j)) := if_pos h
theorem modD_ok {i j : Int} (h : 0 < j) : modD (.int i) (.int j) = some (.int (i % j)) := if_pos h
theorem fdivD_ok {i j : Int} (h : CDiv i j) : fdivD (.int i) (.int j) = some (.int (i / j)) := if_pos h
theorem dO_ok {α : Type} {F : Dat→Dat→Option α} {f g : Ev→Option Dat} {env : Ev} {x y : Dat} {z : α} (h1 : f env = some x) (h2 : g env = some y) (h3 : F x y = some z) : dO F f g env = some z := by unfold dO;rw [h1,h2];exact h3
theorem dF_ok {α : Type} {F : List Dat→Option α} {fs : Ev→Option (List Dat)} {env : Ev} {xs : List Dat} {z : α} (h1 : fs env = some xs) (h3 : F xs = some z) : dF F fs env = some z := by unfold dF;rw [h1];exact h3
theorem aCons_ok {f : Ev→Option Dat} {fs : Ev→Option (List Dat)} {env : Ev} {x : Dat} {xs : List Dat} (h1 : f env = some x) (h2 : fs env = some xs) : aCons f fs env = some (x :: xs) := by unfold aCons;rw [h1,h2];rfl
theorem dCal_ok {F : List Dat→Rs} {fs : Ev→Option (List Dat)} {env : Ev} {xs : List Dat} {d : Dat} (h1 : fs env = some xs) (h2 : F xs = .ok d) : dCal F fs env = some d := by unfold dCal;rw [h1];show okR (F xs) = _;rw [h2];rfl
theorem dB_ok {f : Ev→Option Dat} {env : Ev} {b : Bool} (h : f env = some (.bl b)) : dB f env = some b := by unfold dB;rw [h]
theorem in_strs (z : Str) (ws : List Str) : (ws.map Dat.str).any (fun y=>eqD y (.str z)) = decide (z∈ws) := by
 induction ws with
 | nil=>simp
 | cons w ws ih =>
   rw [List.map_cons,List.any_cons,ih]
   have : eqD (.str w) (.str z) = (w == z) := by unfold eqD;rfl
   rw [this]
   by_cases e : w = z
   · subst e;simp
   · have e' : (w == z) = false := by simpa using e
     have e2 : ¬ z = w := fun q=>e q.symm
     rw [e'];simp [e2]
theorem pd_str (n : Nat) (z : Str) : pd n (.str z) = true := by cases n <;> rfl
theorem pd_strs (ws : List Str) : (ws.map Dat.str).all (pd 20) = true := by
 induction ws with
 | nil=>rfl
 | cons w ws ih=>rw [List.map_cons,List.all_cons,ih,pd_str];rfl
theorem inB_lst (z : Str) (ws : List Str) : inB (.str z) (.lst (ws.map .str)) = some (decide (z∈ws)) := by
 unfold inB
 dsimp only
 rw [pd_strs,pd_str,Bool.and_self,if_pos rfl,in_strs]
theorem inF_lst (z : Str) (ws : List Str) : inF (.str z) (.lst (ws.map .str)) = some (.bl (decide (z∈ws))) := by unfold inF;rw [inB_lst];rfl
theorem tOr_ok {t u : Ev→Option Bool} {env : Ev} {a b : Bool} (h1 : t env = some a) (h2 : a = false→u env = some b) : tOrD t u env = some (a || b) := by
 unfold tOrD;rw [h1];cases a with
 | true=>rfl
 | false=>exact h2 rfl
theorem tAnd_ok {t u : Ev→Option Bool} {env : Ev} {a b : Bool} (h1 : t env = some a) (h2 : a = true→u env = some b) : tAndD t u env = some (a && b) := by
 unfold tAndD;rw [h1];cases a with
 | false=>rfl
 | true=>exact h2 rfl
theorem dS_ok {F : Dat→Option Int→Option Int→Option Dat} {f : Ev→Option Dat} {l h : Ev→Option (Option Int)} {env : Ev} {x z : Dat} {a b : Option Int} (h1 : f env = some x) (h2 : l env = some a) (h3 : h env = some b) (h4 : F x a b = some z) : dS F f l h env = some z := by
 unfold dS;rw [h1,h2,h3];exact h4
theorem oSome_ok {f : Ev→Option Dat} {env : Ev} {i : Int} (h : f env = some (.int i)) : oSome f env = some (some i) := by unfold oSome;rw [h]
theorem ixL_nat {xs : List Dat} {j : Nat} {x : Dat} (h : xs[j]? = some x) : ixD (.lst xs) (.int j) = some x := atI_nat h
theorem ixT_nat {xs : List Dat} {j : Nat} {x : Dat} (h : xs[j]? = some x) : ixD (.tup xs) (.int j) = some x := atI_nat h
theorem pick2 (x y : Dat) {j : Int} (h0 : 0≤j) (h1 : j < 2) : ixD (.lst [x,y]) (.int j) = some (if j = 1 then y else x) := by
 rcases (show j = 0∨j = 1 by lia) with rfl | rfl <;> rfl
theorem aTup_ok {fs : Ev→Option (List Dat)} {env : Ev} {xs : List Dat} (h : fs env = some xs) (hl : xs.length≤1000) : aTup fs env = some (.tup xs) := by unfold aTup;rw [h];exact if_pos hl
theorem append_ok {ds : List Dat} {d : Dat} (h : ds.length≤1000) : appendF ds [d] = some (ds ++ [d]) := if_pos (Nat.lt_of_le_of_lt h (by decide))
noncomputable abbrev scr (ns : List Int) : Dat := .lst (ns.map .int)
noncomputable abbrev letters : Str := "abcdefghijklmnopqrstuvwxyz"
theorem letters_list : cl letters = List.range' 97 26 := by decide +kernel
theorem letters_at {j : Int} (h0 : 0≤j) (h1 : j < 26) : atI (cl letters) j = some (97 + j.toNat) := by
 obtain ⟨n,rfl⟩ : ∃ n : Nat,j = n := ⟨j.toNat,(Int.toNat_of_nonneg h0).symm⟩
 refine atI_nat ?_
 rw [letters_list,List.getElem?_range' (by lia)]
 simp
theorem ix_letters {j : Int} (h0 : 0≤j) (h1 : j < 26) : ixD (.str letters) (.int j) = some (.str ⟨#[97 + j.toNat]⟩) := by
 show (atI (cl letters) j).map _ = _
 rw [letters_at h0 h1];rfl
theorem addS_ok {x y : Str} (h : x.length + y.length≤1000) : addD (.str x) (.str y) = some (.str (x ++ y)) := if_pos (Nat.le_trans h (by decide))
theorem k_ib : kitB "int" "bool" = some false := by decide +kernel
theorem k_ii : kitB "int" "int" = some true := by decide +kernel
theorem k_ll : kitB "list" "list" = some true := by decide +kernel
theorem dI_ok {f : Ev→Option Dat} {env : Ev} {d : Dat} {t T : String} {b : Bool} (h : f env = some d) (ht : tyN d = some t) (hk : kitB t T = some b) : dI T f env = some (.bl b) := by
 unfold dI;rw [h];show (isiB T d).map _ = _;unfold isiB;rw [ht];show Option.map _ (kitB t T) = _;rw [hk];rfl
theorem dT_ok {f : Ev→Option Dat} {env : Ev} {b : Bool} (h : f env = some (.bl b)) : dT f env = some b := by unfold dT;rw [h];rfl
theorem tNot_ok {t : Ev→Option Bool} {env : Ev} {b : Bool} (h : t env = some b) : tNotD t env = some (!b) := by unfold tNotD;rw [h];rfl
theorem ok_of {r : Rs} {d0 : Dat} (h : ∃ d,r = .ok d∧d = d0) : r = .ok d0 := by obtain ⟨d,e,rfl⟩ := h;exact e
theorem eqF_int (i : Int) : eqF (.int i) (.int i) = some (.bl true) := by unfold eqF;rw [if_pos (by rfl)];unfold eqD;simp
theorem eqF_str (i : Str) : eqF (.str i) (.str i) = some (.bl true) := by unfold eqF;rw [if_pos (by rfl)];unfold eqD;simp
theorem dL_ok {g : Ev→Option (List Dat)} {env : Ev} {ds : List Dat} (h : g env = some ds) : dL g env = some (.lst ds) := by unfold dL;rw [h];rfl
theorem dComp_ok {src : Ev→Option (List Dat)} {fs : List (Option Nat)} {g : Dat→Ev→Option Ev} {t : Ev→Option Bool} {f : Ev→Option Dat} {env env' : Ev} {xs ys : List Dat} (h1 : src env = some xs) (h2 : innerD fs env = env') (h3 : compL g t f env' xs = some ys) : dComp src fs g t f env = some ys := by
 unfold dComp;rw [h1,h2];exact h3
theorem srcT_ok {f : Ev→Option Dat} {env : Ev} {xs : List Dat} (h : f env = some (.tup xs)) : srcL f env = some xs := by unfold srcL;rw [h]
theorem compL_all {g : Dat→Ev→Option Ev} {t : Ev→Option Bool} {f : Ev→Option Dat} {env : Ev} {α : Type} (D : α→Dat) (y : α→Dat) : ∀ (xs : List α),(∀ x∈xs,∃ e1,g (D x) env = some e1∧t e1 = some true∧f e1 = some (y x))→compL g t f env (xs.map D) = some (xs.map y)
 | [],_=>rfl
 | x :: xs,h=>by
   obtain ⟨e1,a1,a2,a3⟩ := h x List.mem_cons_self
   have ih := compL_all D y xs fun z hz=>h z (List.mem_cons_of_mem _ hz)
   rw [List.map_cons,compL,a1]
   dsimp only [Option.bind]
   rw [a2]
   dsimp only
   rw [if_pos rfl,a3]
   dsimp only
   rw [ih]
   rfl
theorem eqB' (i j : Bool) : eqF (.bl i) (.bl j) = some (.bl (i == j)) := rfl
theorem bitOr_nat (a b : Nat) : Builtin.bitOr (a : Int) (b : Int) = ((a ||| b : Nat) : Int) := by
 unfold Builtin.bitOr Builtin.bitAnd Builtin.bitNot
 have h1 : decide (0≤-(a : Int) - 1) = false := by simp;lia
 have h2 : decide (0≤-(b : Int) - 1) = false := by simp;lia
 rw [h1,h2]
 dsimp only
 rw [show (-(-(a : Int) - 1) - 1).toNat = a by lia,show (-(-(b : Int) - 1) - 1).toNat = b by lia]
 lia
theorem bitAnd_nat (a b : Nat) : Builtin.bitAnd (a : Int) (b : Int) = ((a &&& b : Nat) : Int) := by
 unfold Builtin.bitAnd
 rw [show decide (0≤(a : Int)) = true by simp,show decide (0≤(b : Int)) = true by simp]
 simp
noncomputable def bitsN (ps : List Nat) : Nat := ps.foldl (fun a p=>a ||| 2 ^ p) 0
theorem bits_from (ps : List Nat) : ∀ (a j : Nat),(ps.foldl (fun a p=>a ||| 2 ^ p) a).testBit j = (a.testBit j || decide (j∈ps)) := by
 induction ps with
 | nil=>intro a j;simp
 | cons p ps ih =>
   intro a j
   rw [List.foldl_cons,ih,Nat.testBit_or,Nat.testBit_two_pow]
   by_cases h : j = p
   · subst h;simp
   · have h' : ¬ p = j := fun e=>h e.symm
     simp [h,h']
theorem bitsN_at (ps : List Nat) (j : Nat) : (bitsN ps).testBit j = decide (j∈ps) := by unfold bitsN;rw [bits_from];simp
theorem add_place {a p : Nat} (h : a.testBit p = false) : a + 2 ^ p = a ||| 2 ^ p := by
 apply Nat.eq_of_testBit_eq
 intro j
 have e1 : a = 2 ^ p * (a / 2 ^ p) + a % 2 ^ p := (Nat.div_add_mod a (2 ^ p)).symm
 have hm : a % 2 ^ p < 2 ^ p := Nat.mod_lt _ (Nat.two_pow_pos p)
 have ev : a / 2 ^ p % 2 = 0 := by
   rw [Nat.testBit_eq_decide_div_mod_eq] at h
   have := of_decide_eq_false h
   lia
 have e2 : a + 2 ^ p = 2 ^ p * (a / 2 ^ p + 1) + a % 2 ^ p := by rw [Nat.mul_add,Nat.mul_one];lia
 rw [e2,Nat.testBit_two_pow_mul_add _ hm,Nat.testBit_or,Nat.testBit_two_pow]
 rw [show a.testBit j = (2 ^ p * (a / 2 ^ p) + a % 2 ^ p).testBit j by rw [← e1],Nat.testBit_two_pow_mul_add _ hm]
 by_cases hj : j < p
 · simp [hj];lia
 · rw [if_neg hj,if_neg hj]
   rcases Nat.lt_or_eq_of_le (Nat.le_of_not_lt hj) with h1 | h1
   · obtain ⟨i,hi⟩ : ∃ i,j - p = i + 1 := ⟨j - p - 1,by lia⟩
     rw [hi,Nat.testBit_succ,Nat.testBit_succ]
     rw [show (a / 2 ^ p + 1) / 2 = a / 2 ^ p / 2 by lia]
     have : ¬ p = j := by lia
     simp [this]
   · subst h1
     simp
     lia
theorem toI (ps : List Nat) : (ps.map fun p : Nat=>(p : Int)).map Dat.int = ps.map fun p : Nat=>Dat.int (p : Int) := by rw [List.map_map];rfl
noncomputable abbrev natsD (ps : List Nat) : List Dat := (ps.map fun p : Nat=>(p : Int)).map Dat.int
theorem shl1 (p : Nat) (hp : p≤1000) : shlD (.int 1) (.int (p : Int)) = some (.int ((2 ^ p : Nat) : Int)) := by
 have : shlD (.int 1) (.int (p : Int)) = some (.int (1 * 2 ^ ((p : Int)).toNat)) := if_pos ⟨by lia,by lia,by decide⟩
 rw [this,Int.toNat_natCast,Int.one_mul];congr 2
theorem dCalP_ok' {F : List Dat→Rs} {fs : Ev→Option (List Dat)} {env : Ev} {xs : List Dat} {d : Dat} (h1 : fs env = some xs) (h2 : F xs = .ok d) (hd : pureD d = true := by rfl) : dCalP F fs env = some d := by unfold dCalP;rw [h1];show (okR (F xs)).bind _ = _;rw [h2];show (if pureD d = true then some d else none) = _;rw [if_pos hd]
theorem bls_map (bs : List Bool) : allD [.lst (bs.map .bl)] = some (.bl (bs.all id)) := by unfold allD;dsimp only;rw [blsD_map];rfl
theorem bitXor_nat (a b : Nat) : Builtin.bitXor (a : Int) (b : Int) = ((a ^^^ b : Nat) : Int) := by
 unfold Builtin.bitXor
 rw [bitOr_nat,bitAnd_nat]
 have key : ∀ (x y : Nat),x ||| y = (x ^^^ y) + (x &&& y) := by
   intro x
   induction x using Nat.strongRecOn with
   | _ x ih =>
     intro y
     by_cases hx : x = 0
     · subst hx;simp
     · have h := ih (x / 2) (by lia) (y / 2)
       have e1 : x ||| y = 2 * (x / 2 ||| y / 2) + (x ||| y) % 2 := by rw [← Nat.or_div_two];lia
       have e2 : x ^^^ y = 2 * (x / 2 ^^^ y / 2) + (x ^^^ y) % 2 := by rw [← Nat.xor_div_two];lia
       have e3 : x &&& y = 2 * (x / 2 &&& y / 2) + (x &&& y) % 2 := by rw [← Nat.and_div_two];lia
       have e4 : (x ||| y) % 2 = (x ^^^ y) % 2 + (x &&& y) % 2 := by
         have t1 : ∀ z : Nat,z % 2 = (z.testBit 0).toNat := fun z=>by rw [Nat.testBit_zero];by_cases q : z % 2 = 1 <;> simp [q];lia
         rw [t1,t1,t1,Nat.testBit_or,Nat.testBit_xor,Nat.testBit_and]
         cases x.testBit 0 <;> cases y.testBit 0 <;> rfl
       lia
 have := key a b
 lia
theorem andNot_nat (a b : Nat) : ∃ c : Nat,Builtin.bitAnd (a : Int) (-(b : Int) - 1) = (c : Int)∧∀ j,c.testBit j = (a.testBit j && !b.testBit j) := by
 refine ⟨a ^^^ (a &&& b),?_,fun j=>by rw [Nat.testBit_xor,Nat.testBit_and];cases a.testBit j <;> cases b.testBit j <;> rfl⟩
 have hx := bitXor_nat a (a &&& b)
 unfold Builtin.bitXor at hx
 rw [bitOr_nat,bitAnd_nat] at hx
 have e1 : a ||| (a &&& b) = a := Nat.eq_of_testBit_eq fun j=>by rw [Nat.testBit_or,Nat.testBit_and];cases a.testBit j <;> cases b.testBit j <;> rfl
 have e2 : a &&& (a &&& b) = a &&& b := Nat.eq_of_testBit_eq fun j=>by rw [Nat.testBit_and,Nat.testBit_and];cases a.testBit j <;> cases b.testBit j <;> rfl
 rw [e1,e2] at hx
 rw [← hx]
 unfold Builtin.bitAnd Builtin.bitNot
 have h1 : decide (0≤(a : Int)) = true := by simp
 have h2 : decide (0≤-(b : Int) - 1) = false := by simp;lia
 rw [h1,h2]
 dsimp only
 rw [show (-(-(b : Int) - 1) - 1).toNat = b by lia,Int.toNat_natCast]
theorem sub_place {a p : Nat} (h : a.testBit p = true) : ∃ c : Nat,(a : Int) - ((2 ^ p : Nat) : Int) = (c : Int)∧∀ j,c.testBit j = (a.testBit j && decide (j≠p)) := by
 obtain ⟨c,hc⟩ : ∃ c,c = a ^^^ 2 ^ p := ⟨_,rfl⟩
 have ht : ∀ j,c.testBit j = (a.testBit j && decide (j≠p)) := fun j=>by
   rw [hc,Nat.testBit_xor,Nat.testBit_two_pow]
   by_cases e : j = p
   · subst e;simp [h]
   · have : ¬ p = j := fun q=>e q.symm
     simp [e,this]
 have hp : c.testBit p = false := by rw [ht];simp
 have := add_place hp
 have e : c ||| 2 ^ p = a := Nat.eq_of_testBit_eq fun j=>by
   rw [Nat.testBit_or,ht,Nat.testBit_two_pow]
   by_cases e : j = p
   · subst e;simp [h]
   · have : ¬ p = j := fun q=>e q.symm
     simp [e,this]
 rw [e] at this
 exact ⟨c,by lia,ht⟩
theorem shrN (n j : Nat) : shrD (.int (n : Int)) (.int (j : Int)) = some (.int ((n / 2 ^ j : Nat) : Int)) := by
 have : shrD (.int (n : Int)) (.int (j : Int)) = some (.int ((n : Int) / 2 ^ ((j : Int)).toNat)) := by unfold shrD iop;dsimp only;rw [if_pos (by lia)]
 rw [this,Int.toNat_natCast];congr 2
theorem and1N (n j : Nat) : andD (.int ((n / 2 ^ j : Nat) : Int)) (.int 1) = some (.int (if n.testBit j then 1 else 0)) := by
 show some (Dat.int (Builtin.bitAnd ((n / 2 ^ j : Nat) : Int) ((1 : Nat) : Int))) = _
 rw [bitAnd_nat,Nat.and_one_is_mod,Nat.testBit_eq_decide_div_mod_eq]
 generalize n / 2 ^ j = q
 congr 2
 rcases (show q % 2 = 0∨q % 2 = 1 by lia) with h | h <;> simp [h]
theorem andN (a b : Nat) : andD (.int (a : Int)) (.int (b : Int)) = some (.int ((a &&& b : Nat) : Int)) := by
 show some (Dat.int (Builtin.bitAnd _ _)) = _
 rw [bitAnd_nat]
theorem orN (a b : Nat) : orD (.int (a : Int)) (.int (b : Int)) = some (.int ((a ||| b : Nat) : Int)) := by
 show some (Dat.int (Builtin.bitOr _ _)) = _
 rw [bitOr_nat]
theorem xorN (a b : Nat) : xorD (.int (a : Int)) (.int (b : Int)) = some (.int ((a ^^^ b : Nat) : Int)) := by
 show some (Dat.int (Builtin.bitXor _ _)) = _
 rw [bitXor_nat]
theorem eq1_bit (b : Bool) : eqF (.int (if b then 1 else 0)) (.int 1) = some (.bl b) := by cases b <;> rfl
theorem eqN (a b : Nat) : eqF (.int (a : Int)) (.int (b : Int)) = some (.bl (a == b)) := by
 show some (Dat.bl ((a : Int) == (b : Int))) = _
 congr 2
 rw [Bool.eq_iff_iff,beq_iff_eq,beq_iff_eq];lia
theorem neI2 (i j : Int) : neF (.int i) (.int j) = some (.bl (!(i == j))) := rfl
theorem bls_any (bs : List Bool) : anyD [.lst (bs.map .bl)] = some (.bl (bs.any id)) := by unfold anyD;dsimp only;rw [blsD_map];rfl
theorem aLst_ok {fs : Ev→Option (List Dat)} {env : Ev} {xs : List Dat} (h : fs env = some xs) (hl : xs.length≤1000) : aLst fs env = some xs := by unfold aLst;rw [h];exact if_pos (Nat.le_trans hl (by decide))
theorem natsD_map (ps : List Nat) : natsD ps = ps.map fun p : Nat=>Dat.int (p : Int) := toI ps
theorem nodup_take {α : Type} {xs : List α} {i : Nat} {p : α} (h : xs.Nodup) (hp : xs[i]? = some p) : p∉xs.take i := by
 obtain ⟨hi,e⟩ := List.getElem?_eq_some_iff.mp hp
 have e1 : xs = xs.take i ++ p :: xs.drop (i + 1) := by
   conv=>lhs;rw [← List.take_append_drop i xs,List.drop_eq_getElem_cons hi,e]
 rw [e1] at h
 intro hm
 exact (List.nodup_append.mp h).2.2 p hm p List.mem_cons_self rfl
theorem dU_ok {F : Dat→Option Dat} {f : Ev→Option Dat} {env : Ev} {x z : Dat} (h1 : f env = some x) (h2 : F x = some z) : dU F f env = some z := by unfold dU;rw [h1];exact h2
theorem compL_ex {g : Dat→Ev→Option Ev} {f : Ev→Option Dat} {env : Ev} {α : Type} (D : α→Dat) (P : α→Prop) : ∀ (xs : List Dat),(∀ x∈xs,∃ (e1 : Ev) (y : α),g x env = some e1∧f e1 = some (D y)∧P y)→∃ ys : List α,compL g tTrue f env xs = some (ys.map D)∧ys.length = xs.length∧∀ y∈ys,P y
 | [],_=>⟨[],rfl,rfl,fun _ h=>nomatch h⟩
 | x :: xs,h=>by
   obtain ⟨e1,y,a1,a2,a3⟩ := h x List.mem_cons_self
   obtain ⟨ys,b1,b2,b3⟩ := compL_ex D P xs fun z hz=>h z (List.mem_cons_of_mem _ hz)
   refine ⟨y :: ys,?_,by rw [List.length_cons,List.length_cons,b2],fun z hz=>?_⟩
   · rw [compL,a1]
     dsimp only [Option.bind,tTrue]
     rw [if_pos rfl,a2]
     dsimp only
     rw [b1]
     rfl
   · rcases List.mem_cons.mp hz with e | e
     · exact e ▸ a3
     · exact b3 z e
theorem rng_mem {lo : Int} {n : Nat} {d : Dat} (h : d∈rng lo n) : ∃ i : Nat,i < n∧d = .int (lo + i) := by
 obtain ⟨i,hi,e⟩ := List.getElem_of_mem h
 have := rng_get (lo:=lo) (n:=n) (i:=i) (d:=d) (by rw [List.getElem?_eq_getElem hi,e])
 exact ⟨i,this.1,this.2⟩
theorem nats_get {ps : List Nat} {i : Nat} {d : Dat} (h : (natsD ps)[i]? = some d) : ∃ p : Nat,ps[i]? = some p∧d = .int (p : Int) := by
 rw [List.getElem?_map,List.getElem?_map] at h
 obtain ⟨y,hy,rfl⟩ := map_some h
 obtain ⟨p,hq,rfl⟩ := map_some hy
 exact ⟨p,hq,rfl⟩
theorem bits_sub {m : Nat} {ps : List Nat} : (m &&& bitsN ps) = bitsN ps↔∀ p∈ps,m.testBit p = true := by
 constructor
 · intro h p hp
   have : (m &&& bitsN ps).testBit p = true := by rw [h,bitsN_at];simpa using hp
   rw [Nat.testBit_and] at this
   exact (Bool.and_eq_true_iff.mp this).1
 · intro h
   apply Nat.eq_of_testBit_eq
   intro j
   rw [Nat.testBit_and,bitsN_at]
   by_cases hj : j∈ps
   · simp [hj,h j hj]
   · simp [hj]
structure St3 where
 w : Nat
 up : Bool
 takes : List Nat
 fills : List Nat
noncomputable def St3.d (s : St3) : Dat := .tup [.int (s.w : Int),.bl s.up,.tup (natsD s.takes),.tup (natsD s.fills)]
structure G3 where
 wires : List (Str×Bool)
 steps : List St3
 marks : Nat
 code : Nat
noncomputable def wirD (w : Str×Bool) : Dat := .tup [.str w.1,.str (if w.2 then "made" else "given")]
noncomputable def G3.d (G : G3) : Dat := .tup [.tup (G.wires.map wirD),.tup (G.steps.map St3.d),.int (G.marks : Int),.int (G.code : Int)]
theorem modN (r m : Nat) (h : 0 < m) : modD (.int (r : Int)) (.int (m : Int)) = some (.int ((r % m : Nat) : Int)) := by
 rw [modD_ok (by lia)];rfl
theorem fdivN (r m : Nat) (h : 0 < m) (h2 : m < 1073741824) : fdivD (.int (r : Int)) (.int (m : Int)) = some (.int ((r / m : Nat) : Int)) := by
 rw [fdivD_ok ⟨by lia,by lia⟩];rfl
theorem mulN (r m : Nat) (h : m < 18446744073709551616) : mulE (.int (r : Int)) (.int (m : Int)) = some (.int ((r * m : Nat) : Int)) := by
 rw [mulI_ok (.inr ⟨by lia,by lia⟩)];rfl
theorem mulN' (r m : Nat) (h : r < 18446744073709551616) : mulE (.int (r : Int)) (.int (m : Int)) = some (.int ((r * m : Nat) : Int)) := by
 rw [mulI_ok (.inl ⟨by lia,by lia⟩)];rfl
theorem addN (r m : Nat) : addD (.int (r : Int)) (.int (m : Int)) = some (.int ((r + m : Nat) : Int)) := rfl
noncomputable def canB (s : St3) (m : Nat) : Bool := (m &&& bitsN s.takes) == bitsN s.takes
theorem canB_iff {s : St3} {m : Nat} : canB s m = true↔∀ p∈s.takes,m.testBit p = true := by
 unfold canB;rw [beq_iff_eq];exact bits_sub
theorem sort_nats (ps : List Nat) : ∃ qs : List Nat,(sortI (ps.map fun p : Nat=>(p : Int))).map Dat.int = natsD qs∧qs.Perm ps := by
 refine ⟨(sortI (ps.map fun p : Nat=>(p : Int))).map Int.toNat,?_,?_⟩
 · show _ = (((sortI (ps.map fun p : Nat=>(p : Int))).map Int.toNat).map fun p : Nat=>(p : Int)).map Dat.int
   congr 1
   rw [List.map_map]
   conv=>lhs;rw [← List.map_id (sortI _)]
   apply List.map_congr_left
   intro x hx
   have := (sortI_perm _).mem_iff.mp hx
   obtain ⟨p,_,rfl⟩ := List.mem_map.mp this
   simp
 · have h := (sortI_perm (ps.map fun p : Nat=>(p : Int))).map Int.toNat
   rw [List.map_map] at h
   have e : (Int.toNat ∘ fun p : Nat=>(p : Int)) = id := by funext p;simp
   rw [e,List.map_id] at h
   exact h
theorem sorted_nats (ps : List Nat) (h : ps.length < 64) : ∃ qs : List Nat,sortedN [.lst (natsD ps)] = some (natsD qs)∧qs.Perm ps := by
 obtain ⟨qs,e,hp⟩ := sort_nats ps
 refine ⟨qs,?_,hp⟩
 unfold sortedN
 dsimp only
 rw [intsD_map]
 show (if (ps.map fun p : Nat=>(p : Int)).length < 64 then _ else _) = _
 rw [if_pos (by rw [List.length_map];exact h),e]
theorem len_append_str (x y : Str) : (x ++ y).length = x.length + y.length := len_app x y
section
variable {env : Ev} {N : Ev→Prop} {R : Dat→Prop}
theorem go_ownN {i : Nat} {src : Ev→Option (List Dat)} {fs : List (Option Nat)} {ds : List Dat} {h : Nat} (e : src env = some ds) (q : N (env.set i (.gx (.nest (List.replicate ds.length []))))) : Go (sOwnN i src fs (gset h) env) N R := by
 unfold sOwnN
 rw [e]
 dsimp only
 rw [if_pos (show (ds.all fun d=>(gset h d (innerD fs env)).isSome) = true from List.all_eq_true.mpr fun d _=>rfl)]
 exact ⟨q⟩
noncomputable def napp (tk : List (List Nat)) (k x : Nat) : List (List Nat) := tk.set k (tk.getD k [] ++ [x])
theorem napp_len (tk : List (List Nat)) (k x : Nat) : (napp tk k x).length = tk.length := by unfold napp;rw [List.length_set]
structure Nst (L B : Nat) (tk : List (List Nat)) : Prop where
 len : ∀ l∈tk,l.length≤L
 lt : ∀ l∈tk,∀ p∈l,p < B
theorem Nst.mono {L L' B B' : Nat} {tk : List (List Nat)} (h : Nst L B tk) (h1 : L≤L') (h2 : B≤B') : Nst L' B' tk := ⟨fun l q=>Nat.le_trans (h.len l q) h1,fun l q p z=>Nat.lt_of_lt_of_le (h.lt l q p z) h2⟩
theorem Nst.app {L B : Nat} {tk : List (List Nat)} (h : Nst L B tk) (k x : Nat) (hx : x < B) : Nst (L + 1) B (napp tk k x) := by
 have hg : (tk.getD k []).length≤L∧∀ p∈tk.getD k [],p < B := by
   cases e : tk[k]? with
   | none=>simp [List.getD,e]
   | some l=>have hm := List.mem_of_getElem? e;simp only [List.getD,e,Option.getD_some];exact ⟨h.len l hm,h.lt l hm⟩
 constructor
 · intro l hl
   rcases List.mem_or_eq_of_mem_set hl with q | q
   · exact Nat.le_succ_of_le (h.len l q)
   · rw [q,List.length_append];show _ + 1≤_;lia
 · intro l hl p hp
   rcases List.mem_or_eq_of_mem_set hl with q | q
   · exact h.lt l q p hp
   · rw [q] at hp
     rcases List.mem_append.mp hp with z | z
     · exact hg.2 p z
     · rw [List.mem_singleton.mp z];exact hx
theorem Nst.nil (n : Nat) : Nst 0 0 (List.replicate n []) := ⟨fun l h=>by rw [(List.mem_replicate.mp h).2];exact Nat.le_refl _,fun l h p hp=>by rw [(List.mem_replicate.mp h).2] at hp;cases hp⟩
theorem nest_nil (n : Nat) : (List.replicate n ([] : List Dat)) = (List.replicate n ([] : List Nat)).map natsD := by rw [List.map_replicate];rfl
theorem go_napp {i : Nat} {fa : Ev→Option Dat} {fs : Ev→Option (List Dat)} {tk : List (List Nat)} {k x L B : Nat} (e : env[i]? = some (.gx (.nest (tk.map natsD)))) (h : Nst L B tk) (hL : L≤1000) (hk : k < tk.length) (e1 : fa env = some (.int (k : Int))) (e2 : fs env = some [.int (x : Int)]) (q : N (env.set i (.gx (.nest ((napp tk k x).map natsD))))) : Go (sNApp i fa fs env) N R := by
 unfold sNApp
 rw [e,e1]
 dsimp only
 have hat : nestAt (tk.map natsD) (k : Int) = some (natsD tk[k]) := by
   unfold nestAt
   rw [if_pos (by lia),Int.toNat_natCast]
   simp [hk]
 rw [hat,e2]
 dsimp only
 have hl := h.len _ (List.getElem_mem hk)
 rw [show (some [Dat.int (x : Int)]).bind (fun as=>appendF (natsD tk[k]) as) = some (natsD (tk[k] ++ [x])) by
   show appendF (natsD tk[k]) [Dat.int (x : Int)] = _
   rw [append_ok (by rw [List.length_map,List.length_map];lia)];simp [natsD]]
 dsimp only
 have : (tk.map natsD).set ((k : Int)).toNat (natsD (tk[k] ++ [x])) = (napp tk k x).map natsD := by
   unfold napp
   rw [Int.toNat_natCast,List.map_set]
   congr 2
   simp [List.getD,hk]
 rw [this]
 exact ⟨q⟩
theorem dNix_ok {i : Nat} {fa : Ev→Option Dat} {tk : List (List Nat)} {k : Nat} {l : List Nat} (e : env[i]? = some (.gx (.nest (tk.map natsD)))) (e1 : fa env = some (.int (k : Int))) (hk : tk[k]? = some l) : dNix i fa env = some (.lst (natsD l)) := by
 unfold dNix
 rw [e,e1]
 dsimp only
 unfold nestAt
 rw [if_pos (by lia),Int.toNat_natCast,List.getElem?_map,hk]
 rfl
end
theorem compL_sub {g : Dat→Ev→Option Ev} {t : Ev→Option Bool} {f : Ev→Option Dat} {env : Ev} {α : Type} (D E : α→Dat) : ∀ (xs : List α),(∀ x∈xs,∃ e1 b,g (D x) env = some e1∧t e1 = some b∧f e1 = some (E x))→∃ ys : List α,ys.Sublist xs∧compL g t f env (xs.map D) = some (ys.map E)
 | [],_=>⟨[],.slnil,rfl⟩
 | x :: xs,h=>by
   obtain ⟨ys,h1,h2⟩ := compL_sub D E xs fun z hz=>h z (List.mem_cons_of_mem _ hz)
   obtain ⟨e1,b,a1,a2,a3⟩ := h x List.mem_cons_self
   cases b with
   | true=>exact ⟨x :: ys,h1.cons₂ x,by rw [List.map_cons,compL,a1];show (t e1).bind _ = _;rw [a2];show (f e1).bind _ = _;rw [a3,h2];rfl⟩
   | false=>exact ⟨ys,h1.cons x,by rw [List.map_cons,compL,a1];show (t e1).bind _ = _;rw [a2];exact h2⟩
theorem subN (r m : Nat) (h : m≤r) : subD (.int (r : Int)) (.int (m : Int)) = some (.int ((r - m : Nat) : Int)) := by
 show some (Dat.int ((r : Int) - (m : Int))) = _
 rw [Int.ofNat_sub h]
theorem lenL_nats (ps : List Nat) : lenD [.lst (natsD ps)] = some (.int ((ps.length : Nat) : Int)) := by
 show some (Dat.int ((natsD ps).length : Int)) = _
 rw [List.length_map,List.length_map]
theorem insert_nats (ps : List Nat) (a w : Nat) (h : a≤ps.length) (hl : ps.length≤1000) : insertF (natsD ps) [.int (a : Int),.int (w : Int)] = some (natsD (ps.take a ++ w :: ps.drop a)) := by
 show (if _ then some _ else none) = _
 rw [if_pos ⟨by lia,by rw [List.length_map,List.length_map];lia,by rw [List.length_map,List.length_map];exact Nat.lt_of_le_of_lt hl (by decide)⟩,Int.toNat_natCast]
 simp [natsD,List.map_take,List.map_drop]
theorem insert_len {α : Type} (ps : List α) (a : Nat) (w : α) : (ps.take a ++ w :: ps.drop a).length = ps.length + 1 := by
 rw [List.length_append,List.length_cons,List.length_take,List.length_drop];lia
theorem insert_perm {α : Type} (ps : List α) (a : Nat) (w : α) : (ps.take a ++ w :: ps.drop a).Perm (w :: ps) := by
 have h : (ps.take a ++ w :: ps.drop a).Perm (w :: (ps.take a ++ ps.drop a)) := List.perm_middle
 rw [List.take_append_drop] at h
 exact h
theorem insert_count (ps : List Nat) (a w v : Nat) : (ps.take a ++ w :: ps.drop a).count v = ps.count v + (if w = v then 1 else 0) := by
 rw [(insert_perm ps a w).count_eq,List.count_cons]
 by_cases h : w = v <;> simp [h]
theorem cut_drop {α : Type} (xs : List α) (t : Nat) (h : t≤xs.length) : cutL xs (some (t : Int)) none = xs.drop t := by
 unfold cutL
 rw [HT.sIx_nat,HT.sIx_none,Nat.min_eq_left h,List.take_of_length_le (by rw [List.length_drop];exact Nat.le_refl _)]
theorem cut_take {α : Type} (xs : List α) (t : Nat) (h : t≤xs.length) : cutL xs none (some (t : Int)) = xs.take t := by
 unfold cutL
 rw [HT.sIx_nat,HT.sIx_none,Nat.min_eq_left h,List.drop_zero,Nat.sub_zero]
theorem cut_map {α β : Type} (f : α→β) (xs : List α) (a b : Option Int) : cutL (xs.map f) a b = (cutL xs a b).map f := by
 unfold cutL
 rw [List.length_map,List.map_take,List.map_drop]
theorem idx_map (ps : List Nat) (c : Nat) : (ps.map fun p : Nat=>(p : Int)).idxOf (c : Int) = ps.idxOf c := by
 induction ps with
 | nil=>rfl
 | cons p ps ih =>
   rw [List.map_cons,List.idxOf_cons,List.idxOf_cons,ih]
   by_cases h : p = c
   · subst h;rw [show ((p : Int) == (p : Int)) = true from beq_self_eq_true _,show (p == p) = true from beq_self_eq_true _]
   · rw [show ((p : Int) == (c : Int)) = false from beq_eq_false_iff_ne.mpr (by lia),show (p == c) = false from beq_eq_false_iff_ne.mpr h]
theorem index_nats (ps : List Nat) (c : Nat) (h : c∈ps) : indexI (.lst (natsD ps)) [.int (c : Int)] = some (.int ((ps.idxOf c : Nat) : Int)) := by
 show ((intsD (natsD ps)).bind fun zs=>if (c : Int)∈zs then some (Dat.int ((zs.idxOf (c : Int) : Nat) : Int)) else none) = _
 rw [intsD_map]
 show (if _ then some _ else none) = _
 rw [if_pos (List.mem_map_of_mem h),idx_map]
theorem addL_ok {xs ys : List Dat} (h : xs.length + ys.length≤1000) : addD (.lst xs) (.lst ys) = some (.lst (xs ++ ys)) := if_pos (Nat.le_trans h (by decide))
theorem catL_ok {xs ys : List Dat} (h : xs.length + ys.length≤1000) : catL (.lst xs) (.lst ys) = some (xs ++ ys) := if_pos (Nat.le_trans h (by decide))
theorem addT_ok {xs ys : List Dat} (h : xs.length + ys.length≤1000) : addT (.tup xs) (.tup ys) = some (.tup (xs ++ ys)) := if_pos (Nat.le_trans h (by decide))
noncomputable def pairD (p : Nat×Nat) : Dat := .tup [.int (p.1 : Int),.int (p.2 : Int)]
theorem pd_pair (p : Nat×Nat) : pd 20 (pairD p) = true := rfl
theorem nin_pairs (p : Nat×Nat) (qs : List (Nat×Nat)) : ∃ b,ninF (pairD p) (.lst (qs.map pairD)) = some (.bl b) := by
 refine ⟨!((qs.map pairD).any fun y=>eqD y (pairD p)),?_⟩
 unfold ninF inB
 dsimp only
 rw [if_pos]
 · rfl
 · rw [pd_pair,Bool.true_and]
   exact List.all_eq_true.mpr fun x hx=>by obtain ⟨q,_,rfl⟩ := List.mem_map.mp hx;exact pd_pair q
theorem minN (a b : Nat) : minD [.int (a : Int),.int (b : Int)] = some (.int ((min a b : Nat) : Int)) := by
 show some (Dat.int (if (b : Int) < (a : Int) then (b : Int) else (a : Int))) = _
 congr 2
 split <;> lia
theorem maxN (a b : Nat) : maxD [.int (a : Int),.int (b : Int)] = some (.int ((max a b : Nat) : Int)) := by
 show some (Dat.int (if (b : Int) > (a : Int) then (b : Int) else (a : Int))) = _
 congr 2
 split <;> lia
theorem neN (a b : Nat) : neF (.int (a : Int)) (.int (b : Int)) = some (.bl (!(a == b))) := by
 rw [neI2]
 congr 3
 rw [Bool.eq_iff_iff];simp;lia
theorem sortedX_nats (ps : List Nat) (h : ps.length < 64) : ∃ qs : List Nat,sortedX [.lst (natsD ps)] = some (natsD qs)∧qs.Perm ps := sorted_nats ps h
theorem sortedX_tup (ps : List Nat) (h : ps.length < 64) : ∃ qs : List Nat,sortedX [.tup (natsD ps)] = some (natsD qs)∧qs.Perm ps := sorted_nats ps h
theorem rng_map (n : Nat) : rng 0 n = (List.range n).map fun k : Nat=>Dat.int (k : Int) := by
 unfold rng
 congr 1
 funext k
 rw [Int.zero_add]
theorem numb_get' {xs : List Dat} {i : Nat} {d : Dat} (h : (numb 0 xs)[i]? = some d) : ∃ x,xs[i]? = some x∧d = .tup [.int (i : Int),x] := by
 rw [numb_get] at h
 cases e : xs[i]? with
 | none=>rw [e] at h;cases h
 | some x=>rw [e] at h;cases h;exact ⟨x,rfl,by rw [Nat.zero_add]⟩
theorem dM_ok {α : Type} {T : String} {F : Dat→List Dat→Option α} {f : Ev→Option Dat} {fs : Ev→Option (List Dat)} {env : Ev} {x : Dat} {as : List Dat} {z : α} (h1 : f env = some x) (ht : tyOk T x = true) (h2 : fs env = some as) (h3 : F x as = some z) : dM T F f fs env = some z := by
 unfold dM;rw [h1];show (if _ then _ else _) = _;rw [if_pos ht,h2];exact h3
theorem srcL_ok {f : Ev→Option Dat} {env : Ev} {xs : List Dat} (h : f env = some (.lst xs)) : srcL f env = some xs := by unfold srcL;rw [h]
theorem srcEL_ok {f : Ev→Option Dat} {env : Ev} {xs : List Dat} (h : f env = some (.lst xs)) : srcE f env = some (numb 0 xs) := by unfold srcE;rw [srcL_ok h];rfl
theorem compL_filt {g : Dat→Ev→Option Ev} {t : Ev→Option Bool} {f : Ev→Option Dat} {env : Ev} {α : Type} (D E : α→Dat) (p : α→Bool) : ∀ (xs : List α),(∀ x∈xs,∃ e1,g (D x) env = some e1∧t e1 = some (p x)∧f e1 = some (E x))→compL g t f env (xs.map D) = some ((xs.filter p).map E)
 | [],_=>rfl
 | x :: xs,h=>by
   have ih := compL_filt D E p xs fun z hz=>h z (List.mem_cons_of_mem _ hz)
   obtain ⟨e1,a1,a2,a3⟩ := h x List.mem_cons_self
   rw [List.map_cons,compL,a1]
   show (t e1).bind _ = _
   rw [a2]
   cases hp : p x with
   | true=>show (f e1).bind _ = _;rw [a3,ih,List.filter_cons_of_pos hp];rfl
   | false=>rw [List.filter_cons_of_neg (by rw [hp];decide)];exact ih
theorem slXL_ok (xs : List Dat) (a b : Option Int) : slX (.lst xs) a b = some (.lst (cutL xs a b)) := rfl
theorem slXS_ok (z : Str) (a b : Option Int) : slX (.str z) a b = some (.str (Txt.slice z a b)) := rfl
noncomputable def behN (s : St3) (p : Nat×Nat) : Nat×Nat := ((p.1 ^^^ (p.1 &&& bitsN s.takes)) ||| bitsN s.fills,p.2 ^^^ 2 ^ s.w)
theorem beh_m (s : St3) (p : Nat×Nat) (j : Nat) : (behN s p).1.testBit j = ((p.1.testBit j && !decide (j∈s.takes)) || decide (j∈s.fills)) := by
 unfold behN
 dsimp only
 rw [Nat.testBit_or,Nat.testBit_xor,Nat.testBit_and,bitsN_at,bitsN_at]
 cases p.1.testBit j <;> cases decide (j∈s.takes) <;> rfl
theorem beh_c (s : St3) (p : Nat×Nat) (j : Nat) : (behN s p).2.testBit j = (p.2.testBit j ^^ decide (s.w = j)) := by
 unfold behN
 dsimp only
 rw [Nat.testBit_xor,Nat.testBit_two_pow]
structure Calm (G : G3) (I : Nat×Nat→Prop) : Prop where
 ini : I (G.marks,G.code)
 lev : ∀ p s,I p→s∈G.steps→canB s p.1 = true→p.2.testBit s.w≠s.up
 room : ∀ p s,I p→s∈G.steps→canB s p.1 = true→∀ q∈s.fills,p.1.testBit q = true→q∈s.takes
 nxt : ∀ p s,I p→s∈G.steps→canB s p.1 = true→I (behN s p)
 few : ∀ l : List (Nat×Nat),l.Nodup→(∀ p∈l,I p)→l.length≤400
structure Rw where
 m : Nat
 c : Nat
 src : Option (Nat×Nat)
noncomputable def Rw.st (r : Rw) : Nat×Nat := (r.m,r.c)
noncomputable def Rw.d (r : Rw) : Dat := .tup [.int (r.m : Int),.int (r.c : Int),match r.src with | none=>.non | some p=>.int (p.1 : Int),match r.src with | none=>.non | some p=>.int (p.2 : Int)]
structure Told (G : G3) (I : Nat×Nat→Prop) (rows : List Rw) : Prop where
 zero : rows[0]? = some ⟨G.marks,G.code,none⟩
 inv : ∀ r∈rows,I r.st
 nd : (rows.map Rw.st).Nodup
 src : ∀ i r,rows[i]? = some r→0 < i→∃ f k s rf,r.src = some (f,k)∧f < i∧G.steps[k]? = some s∧rows[f]? = some rf∧canB s rf.m = true∧r.st = behN s rf.st
theorem Told.start {G : G3} {I : Nat×Nat→Prop} (h : Calm G I) : Told G I [⟨G.marks,G.code,none⟩] where
 zero := rfl
 inv := fun r hr=>by rw [List.mem_singleton.mp hr];exact h.ini
 nd := List.nodup_cons.mpr ⟨by simp,List.nodup_nil⟩
 src := fun i r e h0=>by
   rw [List.getElem?_cons,if_neg (by lia)] at e
   cases e
theorem Told.app {G : G3} {I : Nat×Nat→Prop} (h : Calm G I) {rows : List Rw} (t : Told G I rows) {f k : Nat} {s : St3} {rf : Rw} (hf : rows[f]? = some rf) (hs : G.steps[k]? = some s) (hc : canB s rf.m = true) (hn : behN s rf.st∉rows.map Rw.st) : Told G I (rows ++ [⟨(behN s rf.st).1,(behN s rf.st).2,some (f,k)⟩]) where
 zero := by
   have := t.zero
   have hl := (List.getElem?_eq_some_iff.mp this).1
   rw [List.getElem?_append_left hl];exact this
 inv := fun r hr=>by
   rcases List.mem_append.mp hr with q | q
   · exact t.inv r q
   · rw [List.mem_singleton.mp q]
     exact h.nxt rf.st s (t.inv rf (List.mem_of_getElem? hf)) (List.mem_of_getElem? hs) hc
 nd := by
   rw [List.map_append]
   refine List.nodup_append.mpr ⟨t.nd,List.nodup_cons.mpr ⟨by simp,List.nodup_nil⟩,fun a ha b hb=>?_⟩
   have eb : b = behN s rf.st := List.mem_singleton.mp hb
   rw [eb];intro e;exact hn (e ▸ ha)
 src := fun i r e h0=>by
   rcases Nat.lt_or_ge i rows.length with hl | hl
   · rw [List.getElem?_append_left hl] at e
     obtain ⟨f',k',s',rf',a1,a2,a3,a4,a5,a6⟩ := t.src i r e h0
     exact ⟨f',k',s',rf',a1,a2,a3,by rw [List.getElem?_append_left (by lia)];exact a4,a5,a6⟩
   · rw [List.getElem?_append_right hl] at e
     have hfl := (List.getElem?_eq_some_iff.mp hf).1
     have e0 : i - rows.length = 0 := by
       rcases Nat.eq_zero_or_pos (i - rows.length) with z | z
       · exact z
       · rw [List.getElem?_cons,if_neg (by lia)] at e;cases e
     rw [e0] at e
     cases e
     exact ⟨f,k,s,rf,rfl,by lia,hs,by rw [List.getElem?_append_left hfl];exact hf,hc,rfl⟩
theorem Told.le {G : G3} {I : Nat×Nat→Prop} (h : Calm G I) {rows : List Rw} (t : Told G I rows) : rows.length≤400 := by
 have := h.few (rows.map Rw.st) t.nd fun p hp=>by obtain ⟨r,hr,rfl⟩ := List.mem_map.mp hp;exact t.inv r hr
 rwa [List.length_map] at this
theorem Told.pos {G : G3} {I : Nat×Nat→Prop} {rows : List Rw} (t : Told G I rows) : 0 < rows.length := (List.getElem?_eq_some_iff.mp t.zero).1
end L2
namespace L2
theorem nodup_le {α : Type} [BEq α] [LawfulBEq α] : ∀ (l m : List α),l.Nodup→(∀ x∈l,x∈m)→l.length≤m.length
 | [],_,_,_=>Nat.zero_le _
 | x :: l,m,hn,hs=>by
   obtain ⟨h1,h2⟩ := List.nodup_cons.mp hn
   have hx := hs x List.mem_cons_self
   have := nodup_le l (m.erase x) h2 fun y hy=>by
     refine (List.mem_erase_of_ne ?_).mpr (hs y (List.mem_cons_of_mem _ hy))
     rintro rfl;exact h1 hy
   rw [List.length_erase_of_mem hx] at this
   have := List.length_pos_of_mem hx
   show l.length + 1≤_
   lia
theorem by_num {α : Type} (R : Nat→α→Prop) (hR : ∀ k a b,R k a→R k b→a = b) (N : Nat) : ∀ l : List α,l.Nodup→(∀ p∈l,∃ k,k < N∧R k p)→l.length≤N := by
 intro l hn hl
 have : ∃ ks : List Nat,ks.length = l.length∧ks.Nodup∧∀ k∈ks,k < N∧∃ p∈l,R k p := by
   revert hn hl
   induction l with
   | nil=>intro _ _;exact ⟨[],rfl,List.nodup_nil,by simp⟩
   | cons p l ih =>
     intro hn hl
     obtain ⟨h1,h2⟩ := List.nodup_cons.mp hn
     obtain ⟨ks,a1,a2,a3⟩ := ih h2 fun q hq=>hl q (List.mem_cons_of_mem _ hq)
     obtain ⟨k,hk,hr⟩ := hl p List.mem_cons_self
     refine ⟨k :: ks,by simp [a1],List.nodup_cons.mpr ⟨fun hm=>?_,a2⟩,fun k' hk'=>?_⟩
     · obtain ⟨_,p',hp',hr'⟩ := a3 k hm
       exact h1 (hR k p p' hr hr' ▸ hp')
     · rcases List.mem_cons.mp hk' with rfl | h
       · exact ⟨hk,p,List.mem_cons_self,hr⟩
       · obtain ⟨b1,p',b2,b3⟩ := a3 k' h
         exact ⟨b1,p',List.mem_cons_of_mem _ b2,b3⟩
 obtain ⟨ks,a1,a2,a3⟩ := this
 have := nodup_le ks (List.range N) a2 fun k hk=>List.mem_range.mpr (a3 k hk).1
 rw [List.length_range] at this
 lia
def Spts (s0 : Nat) (rs : List (Nat×Nat)) (f g : Nat×Nat→Nat) (d : Nat) (l : List Nat) : Prop := ∀ q,q∈l↔∃ t p,rs[t]? = some p∧((q = s0 + 2 * t∧f p = d)∨(q = s0 + 2 * t + 1∧g p = d))
structure Deed (G : G3) (s0 : Nat) (one two : Nat→Nat) (rs : List (Nat×Nat)) (n d : Nat) (s : St3) : Prop where
 w : s.w < n
 dl : d < 2 * n
 tk : Spts s0 rs (·.2) (·.1) d s.takes
 fl : Spts s0 rs (·.1) (·.2) d s.fills
 lev : (d = one s.w∧s.up = !G.code.testBit s.w)∨(d = two s.w∧s.up = G.code.testBit s.w)
structure RG (G : G3) (n s0 : Nat) (one two : Nat→Nat) (rs : List (Nat×Nat)) : Prop where
 ne : ∀ q∈rs,q.1≠q.2
 ring : ∀ w,w < n→(one w,two w)∈rs
 inj : ∀ w v,w < n→v < n→(one w = one v∨two w = two v∨one w = two v)→w = v∧one w≠two v
 mks : ∀ q,G.marks.testBit q = true↔∃ t,t < rs.length∧q = s0 + 2 * t + 1
 st : ∀ s∈G.steps,∃ d,Deed G s0 one two rs n d s
structure RI (G : G3) (n s0 : Nat) (one two : Nat→Nat) (rs : List (Nat×Nat)) (k : Nat) (p : Nat×Nat) : Prop where
 a : ∀ t q,rs[t]? = some q→p.1.testBit (s0 + 2 * t) = (k.testBit q.1 ^^ k.testBit q.2)
 b : ∀ t q,rs[t]? = some q→p.1.testBit (s0 + 2 * t + 1) = !(k.testBit q.1 ^^ k.testBit q.2)
 o : ∀ j,(∀ t,t < rs.length→j≠s0 + 2 * t∧j≠s0 + 2 * t + 1)→p.1.testBit j = false
 c : ∀ w,p.2.testBit w = (G.code.testBit w ^^ (decide (w < n) && (k.testBit (one w) ^^ k.testBit (two w))))
theorem Spts.a {s0 : Nat} {rs : List (Nat×Nat)} {f g : Nat×Nat→Nat} {d : Nat} {l : List Nat} (h : Spts s0 rs f g d l) {t : Nat} {q : Nat×Nat} (e : rs[t]? = some q) : s0 + 2 * t∈l↔f q = d := by
 rw [h]
 constructor
 · rintro ⟨t',p,e',⟨h1,h2⟩ | ⟨h1,_⟩⟩
   · have : t' = t := by lia
     subst this
     rw [e] at e';cases e';exact h2
   · lia
 · exact fun h2=>⟨t,q,e,.inl ⟨rfl,h2⟩⟩
theorem Spts.b {s0 : Nat} {rs : List (Nat×Nat)} {f g : Nat×Nat→Nat} {d : Nat} {l : List Nat} (h : Spts s0 rs f g d l) {t : Nat} {q : Nat×Nat} (e : rs[t]? = some q) : s0 + 2 * t + 1∈l↔g q = d := by
 rw [h]
 constructor
 · rintro ⟨t',p,e',⟨h1,_⟩ | ⟨h1,h2⟩⟩
   · lia
   · have : t' = t := by lia
     subst this
     rw [e] at e';cases e';exact h2
 · exact fun h2=>⟨t,q,e,.inr ⟨rfl,h2⟩⟩
theorem Spts.o {s0 : Nat} {rs : List (Nat×Nat)} {f g : Nat×Nat→Nat} {d : Nat} {l : List Nat} (h : Spts s0 rs f g d l) {j : Nat} (e : ∀ t,t < rs.length→j≠s0 + 2 * t∧j≠s0 + 2 * t + 1) : j∉l := by
 intro hj
 obtain ⟨t,p,et,h1⟩ := (h j).mp hj
 have := e t (List.getElem?_eq_some_iff.mp et).1
 rcases h1 with h1 | h1
 · exact this.1 h1.1
 · exact this.2 h1.1
theorem flip_bit (k d j : Nat) : (k ^^^ 2 ^ d).testBit j = (k.testBit j ^^ decide (d = j)) := by
 rw [Nat.testBit_xor,Nat.testBit_two_pow]
theorem ring_calm {G : G3} {n s0 : Nat} {one two : Nat→Nat} {rs : List (Nat×Nat)} (h : RG G n s0 one two rs) (hn : n≤4) : Calm G fun p=>∃ k,k < 2 ^ (2 * n)∧RI G n s0 one two rs k p where
 ini := by
   refine ⟨0,Nat.two_pow_pos _,?_,?_,?_,?_⟩
   · intro t q e
     simp only [Nat.zero_testBit,Bool.xor_false]
     rw [Bool.eq_false_iff]
     intro hh
     obtain ⟨t',_,e'⟩ := (h.mks _).mp hh
     lia
   · intro t q e
     simp only [Nat.zero_testBit,Bool.xor_false,Bool.not_false]
     exact (h.mks _).mpr ⟨t,(List.getElem?_eq_some_iff.mp e).1,rfl⟩
   · intro j hj
     rw [Bool.eq_false_iff]
     intro hh
     obtain ⟨t',ht',e'⟩ := (h.mks _).mp hh
     exact (hj t' ht').2 e'
   · intro w;simp
 lev := by
   rintro p s ⟨k,hk,hi⟩ hs hc
   obtain ⟨d,hd⟩ := h.st s hs
   obtain ⟨t,ht⟩ := List.getElem?_of_mem (h.ring s.w hd.w)
   rw [hi.c,decide_eq_true hd.w,Bool.true_and]
   have hc := canB_iff.mp hc
   rcases hd.lev with ⟨e1,e2⟩ | ⟨e1,e2⟩
   · have := hc _ ((hd.tk.b ht).mpr e1.symm)
     rw [hi.b t _ ht] at this
     have hx : (k.testBit (one s.w) ^^ k.testBit (two s.w)) = false := by simpa using this
     rw [hx,e2]
     cases G.code.testBit s.w <;> simp
   · have := hc _ ((hd.tk.a ht).mpr e1.symm)
     rw [hi.a t _ ht] at this
     have hx : (k.testBit (one s.w) ^^ k.testBit (two s.w)) = true := this
     rw [hx,e2]
     cases G.code.testBit s.w <;> simp
 room := by
   rintro p s ⟨k,hk,hi⟩ hs hc q hq hb
   obtain ⟨d,hd⟩ := h.st s hs
   have hc := canB_iff.mp hc
   obtain ⟨t,r,et,hh⟩ := (hd.fl q).mp hq
   exfalso
   rcases hh with ⟨rfl,e1⟩ | ⟨rfl,e1⟩
   · have := hc _ ((hd.tk.b et).mpr e1)
     rw [hi.b t _ et] at this
     rw [hi.a t _ et] at hb
     rw [hb] at this;cases this
   · have := hc _ ((hd.tk.a et).mpr e1)
     rw [hi.a t _ et] at this
     rw [hi.b t _ et,this] at hb
     cases hb
 nxt := by
   rintro p s ⟨k,hk,hi⟩ hs hc
   obtain ⟨d,hd⟩ := h.st s hs
   have hc := canB_iff.mp hc
   have hlt : k ^^^ 2 ^ d < 2 ^ (2 * n) := Nat.xor_lt_two_pow hk (Nat.pow_lt_pow_right (by lia) hd.dl)
   refine ⟨k ^^^ 2 ^ d,hlt,?_,?_,?_,?_⟩
   · intro t q e
     have hne := h.ne q (List.mem_of_getElem? e)
     have ha := hi.a t q e
     have hb := hi.b t q e
     have h1 := hd.tk.a e
     have h2 := hd.fl.a e
     have h3 := hd.tk.b e
     rw [beh_m,flip_bit,flip_bit]
     by_cases e1 : q.2 = d
     · have := hc _ (h1.mpr e1)
       have e2 : ¬ q.1 = d := fun e2=>hne (e2.trans e1.symm)
       rw [decide_eq_true (h1.mpr e1),decide_eq_false (mt h2.mp e2),decide_eq_true e1.symm,decide_eq_false (Ne.symm e2)]
       rw [ha] at this
       revert this
       cases k.testBit q.1 <;> cases k.testBit q.2 <;> simp
     · by_cases e2 : q.1 = d
       · have := hc _ (h3.mpr e2)
         rw [decide_eq_false (mt h1.mp e1),decide_eq_true (h2.mpr e2),decide_eq_false (Ne.symm e1),decide_eq_true e2.symm]
         rw [hb] at this
         revert this
         cases k.testBit q.1 <;> cases k.testBit q.2 <;> simp
       · rw [decide_eq_false (mt h1.mp e1),decide_eq_false (mt h2.mp e2),decide_eq_false (Ne.symm e1),decide_eq_false (Ne.symm e2),ha]
         simp
   · intro t q e
     have hne := h.ne q (List.mem_of_getElem? e)
     have ha := hi.a t q e
     have hb := hi.b t q e
     have h1 := hd.tk.b e
     have h2 := hd.fl.b e
     have h3 := hd.tk.a e
     rw [beh_m,flip_bit,flip_bit]
     by_cases e1 : q.1 = d
     · have := hc _ (h1.mpr e1)
       have e2 : ¬ q.2 = d := fun e2=>hne (e1.trans e2.symm)
       rw [decide_eq_true (h1.mpr e1),decide_eq_false (mt h2.mp e2),decide_eq_true e1.symm,decide_eq_false (Ne.symm e2)]
       rw [hb] at this
       revert this
       cases k.testBit q.1 <;> cases k.testBit q.2 <;> simp
     · by_cases e2 : q.2 = d
       · have := hc _ (h3.mpr e2)
         rw [decide_eq_false (mt h1.mp e1),decide_eq_true (h2.mpr e2),decide_eq_false (Ne.symm e1),decide_eq_true e2.symm]
         rw [ha] at this
         revert this
         cases k.testBit q.1 <;> cases k.testBit q.2 <;> simp
       · rw [decide_eq_false (mt h1.mp e1),decide_eq_false (mt h2.mp e2),decide_eq_false (Ne.symm e1),decide_eq_false (Ne.symm e2),hb]
         simp
   · intro j hj
     rw [beh_m,hi.o j hj,decide_eq_false (hd.fl.o hj)]
     simp
   · intro w
     rw [beh_c,hi.c,flip_bit,flip_bit]
     by_cases hw : w < n
     · rw [decide_eq_true hw,Bool.true_and,Bool.true_and]
       have key : decide (s.w = w) = (decide (d = one w) ^^ decide (d = two w)) := by
         by_cases ew : s.w = w
         · subst ew
           have hne := (h.inj s.w s.w hd.w hd.w (.inl rfl)).2
           rcases hd.lev with ⟨e1,_⟩ | ⟨e1,_⟩
           · rw [decide_eq_true rfl,decide_eq_true e1,decide_eq_false (fun e2=>hne (e1.symm.trans e2))];rfl
           · rw [decide_eq_true rfl,decide_eq_true e1,decide_eq_false (fun e2=>hne (e2.symm.trans e1))];rfl
         · have n1 : ¬ d = one w := by
             intro e0
             rcases hd.lev with ⟨e1,_⟩ | ⟨e1,_⟩
             · exact ew (h.inj s.w w hd.w hw (.inl (e1.symm.trans e0))).1
             · exact ew (h.inj w s.w hw hd.w (.inr (.inr (e0.symm.trans e1)))).1.symm
           have n2 : ¬ d = two w := by
             intro e0
             rcases hd.lev with ⟨e1,_⟩ | ⟨e1,_⟩
             · exact ew (h.inj s.w w hd.w hw (.inr (.inr (e1.symm.trans e0)))).1
             · exact ew (h.inj s.w w hd.w hw (.inr (.inl (e1.symm.trans e0)))).1
           rw [decide_eq_false ew,decide_eq_false n1,decide_eq_false n2];rfl
       rw [key]
       cases G.code.testBit w <;> cases k.testBit (one w) <;> cases k.testBit (two w) <;> cases decide (d = one w) <;> cases decide (d = two w) <;> rfl
     · have : s.w≠w := fun e=>hw (e ▸ hd.w)
       rw [decide_eq_false hw,decide_eq_false this];simp
 few := by
   intro l hl hp
   have hle : 2 ^ (2 * n)≤256 := Nat.le_trans (Nat.pow_le_pow_right (by lia) (show 2 * n≤8 by lia)) (by decide)
   have := by_num (fun k p=>RI G n s0 one two rs k p) (fun k p q h1 h2=>?_) (2 ^ (2 * n)) l hl hp
   · lia
   · refine Prod.ext (Nat.eq_of_testBit_eq fun j=>?_) (Nat.eq_of_testBit_eq fun j=>by rw [h1.c,h2.c])
     by_cases hj : ∀ t,t < rs.length→j≠s0 + 2 * t∧j≠s0 + 2 * t + 1
     · rw [h1.o j hj,h2.o j hj]
     · simp only [Classical.not_forall] at hj
       obtain ⟨t,ht,hj⟩ := hj
       have e : rs[t]? = some rs[t] := List.getElem?_eq_getElem ht
       by_cases e1 : j = s0 + 2 * t
       · rw [e1,h1.a t _ e,h2.a t _ e]
       · have e2 : j = s0 + 2 * t + 1 := Classical.byContradiction fun e2=>hj ⟨e1,e2⟩
         rw [e2,h1.b t _ e,h2.b t _ e]
structure OneT (G : G3) (b : Nat) (L : Nat→Nat) : Prop where
 bl : b < 64
 ma : G.marks = 2 ^ b
 cd : G.code = L b
 st : ∀ s∈G.steps,∃ x y,x < 64∧y < 64∧x≠y∧s.takes = [x]∧s.fills = [y]∧L y = L x ^^^ 2 ^ s.w∧(L x).testBit s.w≠s.up
theorem one_calm {G : G3} {b : Nat} {L : Nat→Nat} (h : OneT G b L) : Calm G fun p=>∃ k,k < 64∧p = (2 ^ k,L k) := by
 have key : ∀ (p : Nat×Nat) (s : St3),(∃ k,k < 64∧p = (2 ^ k,L k))→s∈G.steps→canB s p.1 = true→∃ x y,x < 64∧y < 64∧x≠y∧s.takes = [x]∧s.fills = [y]∧L y = L x ^^^ 2 ^ s.w∧(L x).testBit s.w≠s.up∧p = (2 ^ x,L x) := by
   rintro p s ⟨k,hk,rfl⟩ hs hc
   obtain ⟨x,y,h1,h2,h3,h4,h5,h6,h7⟩ := h.st s hs
   have := canB_iff.mp hc x (by rw [h4];simp)
   have e : k = x := by
     have : (2 ^ k).testBit x = true := this
     rw [Nat.testBit_two_pow] at this
     simpa using this
   subst e
   exact ⟨k,y,h1,h2,h3,h4,h5,h6,h7,rfl⟩
 refine ⟨⟨b,h.bl,by rw [h.ma,h.cd]⟩,?_,?_,?_,?_⟩
 · intro p s hi hs hc
   obtain ⟨x,y,h1,h2,h3,h4,h5,h6,h7,rfl⟩ := key p s hi hs hc
   exact h7
 · intro p s hi hs hc q hq hb
   obtain ⟨x,y,h1,h2,h3,h4,h5,h6,h7,rfl⟩ := key p s hi hs hc
   rw [h5] at hq
   rw [List.mem_singleton.mp hq,Nat.testBit_two_pow] at hb
   exact absurd (by simpa using hb) h3
 · intro p s hi hs hc
   obtain ⟨x,y,h1,h2,h3,h4,h5,h6,h7,rfl⟩ := key p s hi hs hc
   refine ⟨y,h2,Prod.ext (Nat.eq_of_testBit_eq fun j=>?_) h6.symm⟩
   rw [beh_m,h4,h5]
   show ((2 ^ x).testBit j && !decide (j∈[x]) || decide (j∈[y])) = (2 ^ y).testBit j
   rw [Nat.testBit_two_pow,Nat.testBit_two_pow]
   by_cases e1 : x = j
   · subst e1;simp [eq_comm]
   · by_cases e2 : y = j <;> simp [e1,e2,eq_comm]
 · intro l hl hp
   have := by_num (fun k p=>p = (2 ^ k,L k)) (fun k p q h1 h2=>h1.trans h2.symm) 64 l hl hp
   lia
structure LookG (G G' : G3) (z : Nat) : Prop where
 len : G'.steps.length = G.steps.length
 ma : G'.marks = G.marks ||| 2 ^ z
 mz : G.marks.testBit z = false
 cd : G'.code = G.code
 st : ∀ s'∈G'.steps,∃ s∈G.steps,∃ b : Bool,s'.w = s.w∧s'.up = s.up∧z∉s.takes∧z∉s.fills∧(∀ q,q∈s'.takes↔q∈s.takes∨(b = true∧q = z))∧(∀ q,q∈s'.fills↔q∈s.fills∨(b = true∧q = z))
theorem look_calm {G G' : G3} {z : Nat} {I : Nat×Nat→Prop} (h : LookG G G' z) (hc : Calm G I) : Calm G' fun p=>∃ m,m.testBit z = false∧p.1 = m ||| 2 ^ z∧I (m,p.2) := by
 have bit : ∀ m j : Nat,(m ||| 2 ^ z).testBit j = (m.testBit j || decide (z = j)) := fun m j=>by rw [Nat.testBit_or,Nat.testBit_two_pow]
 have key : ∀ (m : Nat) (s' s : St3) (b : Bool),z∉s.takes→(∀ q,q∈s'.takes↔q∈s.takes∨(b = true∧q = z))→canB s' (m ||| 2 ^ z) = true→canB s m = true := by
   intro m s' s b hz ht hc
   refine canB_iff.mpr fun q hq=>?_
   have := canB_iff.mp hc q ((ht q).mpr (.inl hq))
   rw [bit] at this
   have hne : z≠q := by rintro rfl;exact hz hq
   rw [decide_eq_false hne,Bool.or_false] at this
   exact this
 refine ⟨⟨G.marks,h.mz,h.ma,by rw [h.cd];exact hc.ini⟩,?_,?_,?_,?_⟩
 · rintro p s' ⟨m,hm,e,hi⟩ hs' hcan
   obtain ⟨s,hs,b,w,u,zt,zf,ht,hf⟩ := h.st s' hs'
   rw [e] at hcan
   have := hc.lev (m,p.2) s hi hs (key m s' s b zt ht hcan)
   rw [w,u];exact this
 · rintro p s' ⟨m,hm,e,hi⟩ hs' hcan q hq hb
   obtain ⟨s,hs,b,w,u,zt,zf,ht,hf⟩ := h.st s' hs'
   rw [e] at hcan hb
   rcases (hf q).mp hq with h1 | ⟨h1,h2⟩
   · have hne : z≠q := by rintro rfl;exact zf h1
     rw [bit,decide_eq_false hne,Bool.or_false] at hb
     exact (ht q).mpr (.inl (hc.room (m,p.2) s hi hs (key m s' s b zt ht hcan) q h1 hb))
   · exact (ht q).mpr (.inr ⟨h1,h2⟩)
 · rintro p s' ⟨m,hm,e,hi⟩ hs' hcan
   obtain ⟨s,hs,b,w,u,zt,zf,ht,hf⟩ := h.st s' hs'
   rw [e] at hcan
   have hn := hc.nxt (m,p.2) s hi hs (key m s' s b zt ht hcan)
   refine ⟨(behN s (m,p.2)).1,?_,Nat.eq_of_testBit_eq fun j=>?_,?_⟩
   · rw [beh_m,hm,decide_eq_false zf];rfl
   · rw [bit,beh_m,beh_m,e,bit]
     by_cases ej : z = j
     · subst ej
       rw [decide_eq_true rfl]
       cases b
       · have n1 : z∉s'.takes := fun x=>by rcases (ht z).mp x with y | y;exact zt y;exact absurd y.1 (by simp)
         rw [decide_eq_false n1];simp
       · rw [decide_eq_true ((hf z).mpr (.inr ⟨rfl,rfl⟩))];simp
     · have t1 : decide (j∈s'.takes) = decide (j∈s.takes) := by
         rw [Bool.eq_iff_iff,decide_eq_true_eq,decide_eq_true_eq,ht j]
         exact ⟨fun x=>x.elim id fun y=>absurd y.2.symm ej,.inl⟩
       have t2 : decide (j∈s'.fills) = decide (j∈s.fills) := by
         rw [Bool.eq_iff_iff,decide_eq_true_eq,decide_eq_true_eq,hf j]
         exact ⟨fun x=>x.elim id fun y=>absurd y.2.symm ej,.inl⟩
       rw [t1,t2,decide_eq_false ej];simp
   · have : (behN s' p).2 = (behN s (m,p.2)).2 := by unfold behN;rw [w]
     rw [this];exact hn
 · intro l hl hp
   have := hc.few (l.map fun p=>(p.1 ^^^ 2 ^ z,p.2)) ?_ ?_
   · rwa [List.length_map] at this
   · refine List.pairwise_map.mpr (hl.imp ?_)
     intro p q hne e
     apply hne
     have e1 := congrArg Prod.fst e
     have e2 := congrArg Prod.snd e
     refine Prod.ext (Nat.eq_of_testBit_eq fun j=>?_) e2
     have : (p.1 ^^^ 2 ^ z).testBit j = (q.1 ^^^ 2 ^ z).testBit j := by rw [show p.1 ^^^ 2 ^ z = q.1 ^^^ 2 ^ z from e1]
     rw [flip_bit,flip_bit] at this
     simpa using this
   · intro p hp'
     obtain ⟨q,hq,rfl⟩ := List.mem_map.mp hp'
     obtain ⟨m,hm,e,hi⟩ := hp q hq
     have : q.1 ^^^ 2 ^ z = m := Nat.eq_of_testBit_eq fun j=>by
       rw [flip_bit,e,bit]
       by_cases ej : z = j
       · subst ej;rw [hm];simp
       · simp [ej]
     show I (q.1 ^^^ 2 ^ z,q.2)
     rw [this];exact hi
end L2
namespace L2
noncomputable def oneOf (ps : List Nat) (w : Nat) : Nat := ps.idxOf w
noncomputable def twoOf (ps : List Nat) (w : Nat) : Nat := ps.idxOf w + 1 + (ps.drop (ps.idxOf w + 1)).idxOf w
theorem occ1 {w : Nat} : ∀ {ps : List Nat} {d : Nat},ps[d]? = some w→ps.count w = 1→(ps.take d).count w = 0∧d = ps.idxOf w
 | [],_,h,_=>by cases h
 | p :: ps,0,h,_=>by
   cases h
   exact ⟨rfl,by rw [List.idxOf_cons];simp⟩
 | p :: ps,d + 1,h,hc=>by
   have h' : ps[d]? = some w := h
   by_cases e : p = w
   · subst e
     rw [List.count_cons_self] at hc
     have : ps.count p = 0 := by lia
     exact absurd (List.mem_of_getElem? h') (List.count_eq_zero.mp this)
   · rw [List.count_cons_of_ne e] at hc
     obtain ⟨h1,h2⟩ := occ1 h' hc
     rw [List.take_succ_cons,List.count_cons_of_ne e,List.idxOf_cons,show (p == w) = false from beq_eq_false_iff_ne.mpr e]
     exact ⟨h1,by simp [h2]⟩
theorem occ2 {w : Nat} : ∀ {ps : List Nat} {d : Nat},ps[d]? = some w→ps.count w = 2→((ps.take d).count w = 0∧d = oneOf ps w)∨((ps.take d).count w = 1∧d = twoOf ps w)
 | [],_,h,_=>by cases h
 | p :: ps,0,h,_=>by
   cases h
   exact .inl ⟨rfl,by unfold oneOf;rw [List.idxOf_cons];simp⟩
 | p :: ps,d + 1,h,hc=>by
   have h' : ps[d]? = some w := h
   by_cases e : p = w
   · subst e
     rw [List.count_cons_self] at hc
     obtain ⟨h1,h2⟩ := occ1 h' (by lia)
     refine .inr ⟨by rw [List.take_succ_cons,List.count_cons_self,h1],?_⟩
     unfold twoOf
     rw [List.idxOf_cons,beq_self_eq_true]
     show d + 1 = 0 + 1 + ps.idxOf p
     lia
   · rw [List.count_cons_of_ne e] at hc
     have e1 : (p :: ps).idxOf w = ps.idxOf w + 1 := by rw [List.idxOf_cons,show (p == w) = false from beq_eq_false_iff_ne.mpr e];rfl
     rw [List.take_succ_cons,List.count_cons_of_ne e]
     unfold oneOf twoOf
     rw [e1]
     rcases occ2 h' hc with ⟨h1,h2⟩ | ⟨h1,h2⟩
     · exact .inl ⟨h1,by unfold oneOf at h2;lia⟩
     · refine .inr ⟨h1,?_⟩
       unfold twoOf at h2
       show d + 1 = ps.idxOf w + 1 + 1 + (ps.drop (ps.idxOf w + 1)).idxOf w
       lia
theorem second {v : Nat} : ∀ {ps : List Nat},ps.count v = 2→v∈ps.drop (ps.idxOf v + 1)
 | [],h=>by cases h
 | p :: ps,h=>by
   rw [List.count_cons] at h
   rw [List.idxOf_cons]
   by_cases e : p = v
   · subst e
     rw [show (p == p) = true from beq_self_eq_true _] at h ⊢
     show p∈ps
     refine List.count_pos_iff.mp ?_
     simp at h
     lia
   · rw [show (p == v) = false from beq_eq_false_iff_ne.mpr e] at h ⊢
     show v∈ps.drop (ps.idxOf v + 1)
     exact second (by simpa using h)
theorem idx_get {w : Nat} {ps : List Nat} (h : w∈ps) : ps[ps.idxOf w]? = some w := by
 have hl := List.idxOf_lt_length_of_mem h
 rw [List.getElem?_eq_getElem hl,List.getElem_idxOf hl]
theorem one_at {w : Nat} {ps : List Nat} (h : ps.count w = 2) : ps[oneOf ps w]? = some w := idx_get (List.count_pos_iff.mp (by lia))
theorem two_at {w : Nat} {ps : List Nat} (h : ps.count w = 2) : ps[twoOf ps w]? = some w := by
 have := idx_get (second h)
 rw [List.getElem?_drop] at this
 exact this
theorem one_lt_two (ps : List Nat) (w : Nat) : oneOf ps w < twoOf ps w := by unfold oneOf twoOf;lia
structure Ord (n : Nat) (ps : List Nat) : Prop where
 len : ps.length = 2 * n
 cnt : ∀ v,ps.count v = if v < n then 2 else 0
theorem Ord.mem {n : Nat} {ps : List Nat} (h : Ord n ps) {v : Nat} : v∈ps↔v < n := by
 rw [← List.count_pos_iff,h.cnt]
 split <;> lia
theorem Ord.two {n : Nat} {ps : List Nat} (h : Ord n ps) {v : Nat} (hv : v < n) : ps.count v = 2 := by rw [h.cnt,if_pos hv]
theorem Ord.inj {n : Nat} {ps : List Nat} (h : Ord n ps) (w v : Nat) (hw : w < n) (hv : v < n) (e : oneOf ps w = oneOf ps v∨twoOf ps w = twoOf ps v∨oneOf ps w = twoOf ps v) : w = v∧oneOf ps w≠twoOf ps v := by
 have a1 := one_at (h.two hw)
 have a2 := two_at (h.two hw)
 have b1 := one_at (h.two hv)
 have b2 := two_at (h.two hv)
 have ewv : w = v := by
   rcases e with e | e | e
   · rw [e,b1] at a1;exact (Option.some.inj a1).symm
   · rw [e,b2] at a2;exact (Option.some.inj a2).symm
   · rw [e,b2] at a1;exact (Option.some.inj a1).symm
 subst ewv
 exact ⟨rfl,by have := one_lt_two ps w;lia⟩
theorem napp_getD (tk : List (List Nat)) (k x d : Nat) (hk : k < tk.length) : (napp tk k x).getD d [] = if d = k then tk.getD d [] ++ [x] else tk.getD d [] := by
 unfold napp
 by_cases e : d = k
 · subst e
   simp [List.getD,List.getElem?_set,hk]
 · have e' : ¬ k = d := fun z=>e z.symm
   simp [List.getD,List.getElem?_set,e,e']
theorem napp_mem (tk : List (List Nat)) (k x d q : Nat) (hk : k < tk.length) : q∈(napp tk k x).getD d []↔q∈tk.getD d []∨(d = k∧q = x) := by
 rw [napp_getD tk k x d hk]
 by_cases e : d = k
 · rw [if_pos e];simp [e]
 · rw [if_neg e];simp [e]
def NS (s0 : Nat) (rs : List (Nat×Nat)) (f g : Nat×Nat→Nat) (tk : List (List Nat)) : Prop := ∀ d,Spts s0 rs f g d (tk.getD d [])
theorem NS.nil (s0 m : Nat) (f g : Nat×Nat→Nat) : NS s0 [] f g (List.replicate m []) := fun d q=>by
 have : (List.replicate m ([] : List Nat)).getD d [] = [] := by
   simp only [List.getD]
   cases e : (List.replicate m ([] : List Nat))[d]? with
   | none=>rfl
   | some l=>have := List.mem_of_getElem? e;rw [(List.mem_replicate.mp this).2];rfl
 rw [this]
 simp
theorem NS.app {s0 : Nat} {rs : List (Nat×Nat)} {f g : Nat×Nat→Nat} {tk : List (List Nat)} (h : NS s0 rs f g tk) (p : Nat×Nat) (hf : f p < tk.length) (hg : g p < tk.length) : NS s0 (rs ++ [p]) f g (napp (napp tk (f p) (s0 + 2 * rs.length)) (g p) (s0 + 2 * rs.length + 1)) := fun d q=>by
 rw [napp_mem _ _ _ _ _ (by rw [napp_len];exact hg),napp_mem _ _ _ _ _ hf,h d q]
 constructor
 · rintro ((⟨t,r,e,h1⟩ | ⟨h1,h2⟩) | ⟨h1,h2⟩)
   · exact ⟨t,r,by rw [List.getElem?_append_left (List.getElem?_eq_some_iff.mp e).1];exact e,h1⟩
   · exact ⟨rs.length,p,by simp,.inl ⟨h2,h1.symm⟩⟩
   · exact ⟨rs.length,p,by simp,.inr ⟨h2,h1.symm⟩⟩
 · rintro ⟨t,r,e,h1⟩
   rcases Nat.lt_or_ge t rs.length with hl | hl
   · rw [List.getElem?_append_left hl] at e
     exact .inl (.inl ⟨t,r,e,h1⟩)
   · rw [List.getElem?_append_right hl] at e
     have e0 : t - rs.length = 0 := by
       rcases Nat.eq_zero_or_pos (t - rs.length) with z | z
       · exact z
       · rw [List.getElem?_cons,if_neg (by lia)] at e;cases e
     rw [e0] at e
     cases e
     have et : t = rs.length := by lia
     subst et
     rcases h1 with ⟨h1,h2⟩ | ⟨h1,h2⟩
     · exact .inl (.inr ⟨h2.symm,h1⟩)
     · exact .inr ⟨h2.symm,h1⟩
theorem nd_app {L B : Nat} {tk : List (List Nat)} (hb : Nst L B tk) (h : ∀ l∈tk,l.Nodup) (k x : Nat) (hx : B≤x) : ∀ l∈napp tk k x,l.Nodup := by
 intro l hl
 rcases List.mem_or_eq_of_mem_set hl with q | q
 · exact h l q
 · rw [q]
   cases e : tk[k]? with
   | none=>simp [List.getD,e]
   | some l' =>
     have hm := List.mem_of_getElem? e
     simp only [List.getD,e,Option.getD_some]
     refine List.nodup_append.mpr ⟨h l' hm,List.nodup_cons.mpr ⟨by simp,List.nodup_nil⟩,fun a ha b hb'=>?_⟩
     have := hb.lt l' hm a ha
     rw [List.mem_singleton.mp hb']
     lia
theorem Spts.perm {s0 : Nat} {rs : List (Nat×Nat)} {f g : Nat×Nat→Nat} {d : Nat} {l l' : List Nat} (h : Spts s0 rs f g d l) (e : l'.Perm l) : Spts s0 rs f g d l' := fun q=>by rw [e.mem_iff];exact h q
structure SB (B n : Nat) (s : St3) : Prop where
 w : s.w < n
 t : ∀ p∈s.takes,p < B
 f : ∀ p∈s.fills,p < B
 tn : s.takes.Nodup
 fn : s.fills.Nodup
theorem nd_len {l : List Nat} {B : Nat} (h : l.Nodup) (hb : ∀ p∈l,p < B) : l.length≤B := by
 have := nodup_le l (List.range B) h fun x hx=>List.mem_range.mpr (hb x hx)
 rwa [List.length_range] at this
structure Gb (B : Nat) (G : G3) : Prop where
 w2 : G.wires.length≤10
 s1 : 1≤G.steps.length
 s2 : G.steps.length≤24
 st : ∀ s∈G.steps,SB B G.wires.length s
 mks : G.marks < 2 ^ B
end L2
namespace L2
open PySem PySem.Spec PyProof.Rows
section
variable {N : Ev→Prop} {R : Dat→Prop} {g h : Ev→Fl} {f fk fv : Ev→Option Dat} {t : Ev→Option Bool} {env : Ev} {d : Dat} {ds : List Dat} {i : Nat}
theorem go_aug {x y : Int} (e : env[i]? = some (.fz (.int x))) (e2 : f env = some (.int y)) (q : N (env.set i (.fz (.int (x + y))))) : Go (sAug i f env) N R := by
 unfold sAug;rw [e,e2];exact ⟨q⟩
theorem go_tryNo (q : Go (g env) N R) : Go (sTryN g env) N R := by
 unfold sTryN
 cases e : g env with
 | exc e' c fs=>rw [e] at q;exact q.of.elim
 | _=>rw [e] at q;exact q
noncomputable def keyP (p : Nat×Nat) : List Key := [.inl (p.1 : Int),.inl (p.2 : Int)]
theorem keyP_inj {p q : Nat×Nat} : keyP p = keyP q↔p = q := by
 constructor
 · intro h
   unfold keyP at h
   simp only [List.cons.injEq,Sum.inl.injEq,and_true] at h
   exact Prod.ext (by lia) (by lia)
 · rintro rfl;rfl
theorem keyD_pair (p : Nat×Nat) : keyD (pairD p) = some (keyP p) := rfl
noncomputable def dctP (ps : List (Nat×Nat)) : List (List Key×Dat) := ps.map fun p=>(keyP p,.bl true)
theorem keys_pairs (ps : List (Nat×Nat)) (q : Nat×Nat) : dKeys (dctP ps) (keyP q) = decide (q∈ps) := by
 unfold dKeys dctP
 rw [List.map_map,Bool.eq_iff_iff,List.any_eq_true,decide_eq_true_eq]
 constructor
 · rintro ⟨x,hx,e⟩
   obtain ⟨p,hp,rfl⟩ := List.mem_map.mp hx
   have : keyP p = keyP q := of_decide_eq_true e
   rw [← keyP_inj.mp this];exact hp
 · intro h
   exact ⟨keyP q,List.mem_map.mpr ⟨q,h,rfl⟩,decide_eq_true rfl⟩
theorem dDin_ok {ps : List (Nat×Nat)} {q : Nat×Nat} (e : env[i]? = some (.gx (.dict (dctP ps)))) (e2 : f env = some (pairD q)) : dDin false i f env = some (.bl (decide (q∈ps))) := by
 unfold dDin
 rw [e,e2]
 dsimp only
 rw [keyD_pair]
 show some (Dat.bl (dKeys (dctP ps) (keyP q))) = _
 rw [keys_pairs]
theorem go_dput {ps : List (Nat×Nat)} {q : Nat×Nat} (e : env[i]? = some (.gx (.dict (dctP ps)))) (e2 : fv env = some (.bl true)) (e3 : fk env = some (pairD q)) (hq : q∉ps) (hl : ps.length≤1000) (n : N (env.set i (.gx (.dict (dctP (ps ++ [q])))))) : Go (sDPutN i fk fv env) N R := by
 unfold sDPutN
 rw [e,e2,e3]
 dsimp only
 rw [keyD_pair]
 dsimp only
 rw [if_pos ⟨by rw [keys_pairs,decide_eq_false hq],by unfold dctP;rw [List.length_map];exact Nat.lt_of_le_of_lt hl (by decide)⟩]
 have : dctP ps ++ [(keyP q,Dat.bl true)] = dctP (ps ++ [q]) := by unfold dctP;rw [List.map_append];rfl
 rw [this]
 exact ⟨n⟩
theorem go_ownD {q : Nat×Nat} (e : fk env = some (pairD q)) (e2 : fv env = some (.bl true)) (n : N (env.set i (.gx (.dict (dctP [q]))))) : Go (sOwnD i fk fv env) N R := by
 unfold sOwnD
 rw [e,e2]
 dsimp only
 rw [keyD_pair]
 exact ⟨n⟩
theorem dCalN_ok {F : List Dat→Rs} {fs : Ev→Option (List Dat)} {xs ds : List Dat} (h1 : fs env = some xs) (h2 : F xs = .ok (.lst ds)) : dCalN F fs env = some ds := by unfold dCalN;rw [h1];show lstR (F xs) = _;rw [h2];rfl
theorem dAnd_ok {f g : Ev→Option Dat} (h1 : f env = some (.bl true)) (h2 : g env = some d) : dAnd f g env = some d := by unfold dAnd dB;rw [h1];exact h2
end
theorem eqDs_self : ∀ xs : List Dat,(∀ x∈xs,eqD x x = true)→eqDs xs xs = true
 | [],_=>by unfold eqDs;rfl
 | x :: xs,h=>by unfold eqDs;rw [h x List.mem_cons_self,eqDs_self xs fun y hy=>h y (List.mem_cons_of_mem _ hy)];rfl
theorem lst_self {xs : List Dat} (h : ∀ x∈xs,eqD x x = true∧pd 19 x = true) : pd 20 (.lst xs) = true∧eqD (.lst xs) (.lst xs) = true := by
 constructor
 · show xs.all (pd 19) = true
   exact List.all_eq_true.mpr fun x hx=>(h x hx).2
 · unfold eqD;exact eqDs_self xs fun x hx=>(h x hx).1
theorem eqF_self {d : Dat} (h : pd 20 d = true∧eqD d d = true) : eqF d d = some (.bl true) := by unfold eqF;rw [h.1,h.2];rfl
theorem neF_self {d : Dat} (h : pd 20 d = true∧eqD d d = true) : neF d d = some (.bl false) := by unfold neF;rw [h.1,h.2];rfl
theorem int_self (i : Int) : eqD (.int i) (.int i) = true := by unfold eqD;exact beq_self_eq_true i
theorem Rw.self (r : Rw) : eqD r.d r.d = true∧pd 19 r.d = true := by
 obtain ⟨m,c,src⟩ := r
 cases src with
 | none =>
   refine ⟨?_,rfl⟩
   show eqD (.tup [.int (m : Int),.int (c : Int),.non,.non]) (.tup [.int (m : Int),.int (c : Int),.non,.non]) = true
   unfold eqD
   refine eqDs_self _ fun x hx=>?_
   simp only [List.mem_cons,List.not_mem_nil,or_false] at hx
   rcases hx with rfl | rfl | rfl | rfl
   · exact int_self _
   · exact int_self _
   · unfold eqD;rfl
   · unfold eqD;rfl
 | some p =>
   refine ⟨?_,rfl⟩
   show eqD (.tup [.int (m : Int),.int (c : Int),.int (p.1 : Int),.int (p.2 : Int)]) (.tup [.int (m : Int),.int (c : Int),.int (p.1 : Int),.int (p.2 : Int)]) = true
   unfold eqD
   refine eqDs_self _ fun x hx=>?_
   simp only [List.mem_cons,List.not_mem_nil,or_false] at hx
   rcases hx with rfl | rfl | rfl | rfl <;> exact int_self _
theorem rows_self (rows : List Rw) : pd 20 (.lst (rows.map Rw.d)) = true∧eqD (.lst (rows.map Rw.d)) (.lst (rows.map Rw.d)) = true := lst_self fun x hx=>by
 obtain ⟨r,_,rfl⟩ := List.mem_map.mp hx
 exact r.self
noncomputable def canK (G : G3) (m k : Nat) : Bool := match G.steps[k]? with
 | some s=>canB s m
 | none=>false
theorem canK_some {G : G3} {m k : Nat} (h : canK G m k = true) : ∃ s,G.steps[k]? = some s∧canB s m = true := by
 unfold canK at h
 cases e : G.steps[k]? with
 | none=>rw [e] at h;cases h
 | some s=>rw [e] at h;exact ⟨s,rfl,h⟩
noncomputable def ksAt (G : G3) (m : Nat) : List Nat := (List.range G.steps.length).filter (canK G m)
noncomputable def newOf (G : G3) (at0 : Nat) (r : Rw) (k : Nat) : Rw := match G.steps[k]? with
 | some s=>⟨(behN s r.st).1,(behN s r.st).2,some (at0,k)⟩
 | none=>r
theorem newOf_some {G : G3} {at0 : Nat} {r : Rw} {k : Nat} {s : St3} (h : G.steps[k]? = some s) : newOf G at0 r k = ⟨(behN s r.st).1,(behN s r.st).2,some (at0,k)⟩ := by unfold newOf;rw [h]
noncomputable def add1 (rows : List Rw) (w : Rw) : List Rw := if w.st∈rows.map Rw.st then rows else rows ++ [w]
noncomputable def adds (G : G3) (at0 : Nat) (r : Rw) : List Nat→List Rw→List Rw
 | [],rows=>rows
 | k :: ks,rows=>adds G at0 r ks (add1 rows (newOf G at0 r k))
theorem adds_snoc (G : G3) (at0 : Nat) (r : Rw) : ∀ (ks : List Nat) (k : Nat) (rows : List Rw),adds G at0 r (ks ++ [k]) rows = add1 (adds G at0 r ks rows) (newOf G at0 r k)
 | [],_,_=>rfl
 | _ :: ks,k,_=>adds_snoc G at0 r ks k _
theorem adds_app (G : G3) (at0 : Nat) (r : Rw) : ∀ (ks ls : List Nat) (rows : List Rw),adds G at0 r (ks ++ ls) rows = adds G at0 r ls (adds G at0 r ks rows)
 | [],_,_=>rfl
 | _ :: ks,ls,_=>adds_app G at0 r ks ls _
theorem add1_pre (rows : List Rw) (w : Rw) : rows <+: add1 rows w := by
 unfold add1
 split
 · exact List.prefix_rfl
 · exact List.prefix_append _ _
theorem adds_pre (G : G3) (at0 : Nat) (r : Rw) : ∀ (ks : List Nat) (rows : List Rw),rows <+: adds G at0 r ks rows
 | [],_=>List.prefix_rfl
 | k :: ks,rows=>(add1_pre rows _).trans (adds_pre G at0 r ks _)
inductive Fin (G : G3) (F : List Rw) : List Rw→Nat→Prop
 | stop {at0 : Nat} : F.length≤at0→Fin G F F at0
 | step {rows : List Rw} {at0 : Nat} {r : Rw} : rows[at0]? = some r→Fin G F (adds G at0 r (ksAt G r.m) rows) (at0 + 1)→Fin G F rows at0
theorem Fin.pre {G : G3} {F rows : List Rw} {at0 : Nat} (h : Fin G F rows at0) : rows <+: F := by
 induction h with
 | stop _=>exact List.prefix_rfl
 | step _ _ ih=>exact (adds_pre G _ _ _ _).trans ih
theorem pre_get {rows F : List Rw} (h : rows <+: F) {i : Nat} {r : Rw} (e : rows[i]? = some r) : F[i]? = some r := by
 obtain ⟨t,rfl⟩ := h
 rw [List.getElem?_append_left (List.getElem?_eq_some_iff.mp e).1];exact e
theorem Fin.inv {G : G3} {F rows : List Rw} {at0 : Nat} (h : Fin G F rows at0) : (rows = F∧F.length≤at0)∨∃ r,rows[at0]? = some r∧Fin G F (adds G at0 r (ksAt G r.m) rows) (at0 + 1) := by
 cases h with
 | stop a=>exact .inl ⟨rfl,a⟩
 | step a b=>exact .inr ⟨_,a,b⟩
theorem told_add {G : G3} {I : Nat×Nat→Prop} (h : Calm G I) {rows : List Rw} (t : Told G I rows) {at0 k : Nat} {r : Rw} (hr : rows[at0]? = some r) (hk : canK G r.m k = true) : Told G I (add1 rows (newOf G at0 r k)) := by
 obtain ⟨s,hs,hc⟩ := canK_some hk
 rw [newOf_some hs]
 unfold add1
 split
 · exact t
 · rename_i hn
   exact t.app h hr hs hc hn
theorem told_adds {G : G3} {I : Nat×Nat→Prop} (h : Calm G I) {at0 : Nat} {r : Rw} : ∀ (ks : List Nat) (rows : List Rw),(∀ k∈ks,canK G r.m k = true)→Told G I rows→rows[at0]? = some r→Told G I (adds G at0 r ks rows)
 | [],_,_,t,_=>t
 | k :: ks,rows,hk,t,hr=>told_adds h ks _ (fun k' h'=>hk k' (List.mem_cons_of_mem _ h')) (told_add h t hr (hk k List.mem_cons_self)) (pre_get (add1_pre _ _) hr)
theorem ksAt_can {G : G3} {m k : Nat} (h : k∈ksAt G m) : canK G m k = true := (List.mem_filter.mp h).2
theorem fin_ex {G : G3} {I : Nat×Nat→Prop} (h : Calm G I) : ∀ (n : Nat) (rows : List Rw) (at0 : Nat),Told G I rows→n + at0 = 400→at0≤rows.length→∃ F,Fin G F rows at0∧Told G I F
 | n,rows,at0,t,hn,hl=>by
   rcases Nat.lt_or_ge at0 rows.length with hlt | hge
   · obtain ⟨r,hr⟩ : ∃ r,rows[at0]? = some r := ⟨_,List.getElem?_eq_getElem hlt⟩
     have hle := t.le h
     have t' := told_adds h (ksAt G r.m) rows (fun k hk=>ksAt_can hk) t hr
     have hpl := (adds_pre G at0 r (ksAt G r.m) rows).length_le
     match n,hn with
     | n + 1,hn =>
       obtain ⟨F,f1,f2⟩ := fin_ex h n _ (at0 + 1) t' (by lia) (by lia)
       exact ⟨F,.step hr f1,f2⟩
     | 0,hn=>lia
   · exact ⟨rows,.stop hge,t⟩
def GdE (r : Fl) (N C : Ev→Prop) (R : Dat→Prop) (E : Str→List (Str×XD)→Prop) : Prop := match r with
 | .next e=>N e
 | .cont e=>C e
 | .ret d=>R d
 | .exc _ c fl=>E c fl
 | _=>False
structure GoE (r : Fl) (N C : Ev→Prop) (R : Dat→Prop) (E : Str→List (Str×XD)→Prop) : Prop where
 of : GdE r N C R E
section
variable {N C : Ev→Prop} {R : Dat→Prop} {E : Str→List (Str×XD)→Prop} {g h : Ev→Fl} {t : Ev→Option Bool} {env : Ev} {d : Dat} {ds : List Dat} {i : Nat}
theorem Go.toE {r : Fl} (q : Go r N R) : GoE r N C R E := by
 cases r with
 | next e=>exact ⟨q.of⟩
 | ret d=>exact ⟨q.of⟩
 | _=>exact q.of.elim
theorem goE_cons (q : GoE (g env) (fun e=>GoE (h e) N C R E) C R E) : GoE (bCons g h env) N C R E := by
 unfold bCons
 cases e : g env with
 | next e'=>rw [e] at q;exact q.of
 | ret d=>rw [e] at q;exact ⟨q.of⟩
 | cont d=>rw [e] at q;exact ⟨q.of⟩
 | exc e' c fl=>rw [e] at q;exact ⟨q.of⟩
 | _=>rw [e] at q;exact q.of.elim
theorem goE_one (q : Go (g env) (fun e=>GoE (h e) N C R E) R) : GoE (bCons g h env) N C R E := goE_cons q.toE
theorem goE_if {b : Bool} (e : t env = some b) (q1 : b = true→GoE (g env) N C R E) (q2 : b = false→GoE (h env) N C R E) : GoE (sIf t g h env) N C R E := by
 unfold sIf
 rw [e]
 cases b with
 | true=>exact q1 rfl
 | false=>exact q2 rfl
theorem goE_raise {c : Str} {Gf : List Dat→Option (List (Str×XD))} {fs : Ev→Option (List Dat)} {fl : List (Str×XD)} (e : fs env = some ds) (e2 : Gf ds = some fl) (q : E c fl) : GoE (sRaise c Gf fs env) N C R E := by
 unfold sRaise
 rw [e]
 dsimp only [Option.bind]
 rw [e2]
 exact ⟨q⟩
theorem goE_forL {gg : Dat→Ev→Option Ev} (P : Nat→Ev→Prop) : ∀ (ds : List Dat) (k : Nat) (env : Ev),P k env→(∀ i d e,ds[i]? = some d→P (k + i) e→∃ e1,gg d e = some e1∧GoE (g e1) (P (k + i + 1)) (P (k + i + 1)) R E)→(∀ e,P (k + ds.length) e→N e)→GoE (forL gg g ds env) N C R E
 | [],k,env,h0,_,hN=>⟨hN env h0⟩
 | d :: ds,k,env,h0,hs,hN=>by
   obtain ⟨e1,a1,a2⟩ := hs 0 d env rfl h0
   rw [forL,a1]
   dsimp only
   have more : ∀ e',P (k + 0 + 1) e'→GoE (forL gg g ds e') N C R E := fun e' h'=>goE_forL P ds (k + 1) e' h' (fun i d e hi hp=>by
       have := hs (i + 1) d e (by simpa using hi) (by rw [show k + (i + 1) = k + 1 + i by lia];exact hp)
       rw [show k + 1 + i + 1 = k + (i + 1) + 1 by lia];exact this) (fun e hp=>hN e (by rw [List.length_cons,show k + (ds.length + 1) = k + 1 + ds.length by lia];exact hp))
   cases e : g e1 with
   | next e'=>rw [e] at a2;exact more e' a2.of
   | cont e'=>rw [e] at a2;exact more e' a2.of
   | ret d'=>rw [e] at a2;exact ⟨a2.of⟩
   | exc e' c fl=>rw [e] at a2;exact ⟨a2.of⟩
   | _=>rw [e] at a2;exact a2.of.elim
theorem goE_for {src : Ev→Option (List Dat)} {gg : Dat→Ev→Option Ev} (P : Nat→Ev→Prop) (e : src env = some ds) (h0 : P 0 env) (hs : ∀ i d e,ds[i]? = some d→P i e→∃ e1,gg d e = some e1∧GoE (g e1) (P (i + 1)) (P (i + 1)) R E) (hN : ∀ e,P ds.length e→N e) : GoE (sFor src gg g env) N C R E := by
 unfold sFor
 rw [e]
 exact goE_forL P ds 0 env h0 (fun i d e hi hp=>by simpa using hs i d e hi (by simpa using hp)) (fun e hp=>hN e (by simpa using hp))
theorem GoE.ne {r : Fl} (q : GoE r N C R E) : r≠.no := fun z=>by rw [z] at q;exact q.of
theorem goE_while (W : Nat→Ev→Prop) {n : Nat} (h0 : W n env) (hs : ∀ n e,W n e→(t e = some false∧N e)∨(t e = some true∧GoE (g e) (fun e'=>∃ m,m < n∧W m e') (fun _=>False) R E)) : GoE (sWhile t g env) N C R E := by
 have key : ∀ n e,W n e→GoE (whileN t g (n + 1) e) N C R E := by
   intro n
   induction n using Nat.strongRecOn with
   | _ n ih =>
     intro e hw
     rcases hs n e hw with ⟨a,b⟩ | ⟨a,b⟩
     · rw [whileN,a];exact ⟨b⟩
     · rw [whileN,a]
       dsimp only
       cases eg : g e with
       | next e' =>
         rw [eg] at b
         obtain ⟨m,hm,hw'⟩ := b.of
         have q := ih m hm e' hw'
         dsimp only
         have := whileN_mono (n - (m + 1)) q.ne
         rw [show m + 1 + (n - (m + 1)) = n by lia] at this
         rw [this];exact q
       | ret d=>rw [eg] at b;exact ⟨b.of⟩
       | exc e' c fl=>rw [eg] at b;exact ⟨b.of⟩
       | _=>rw [eg] at b;exact b.of.elim
 have q := key n env h0
 rw [sWhile_eq q.ne];exact q
theorem runE_of {n p : Nat} (hp : ds.length = p) (q : GoE (g (startD n ds)) (fun _=>R .non) (fun _=>False) R E) : (∃ d,runD n p g ds = .ok d∧R d)∨∃ c fl,runD n p g ds = .exc c fl∧E c fl := by
 unfold runD
 rw [if_pos hp]
 cases e : g (startD n ds) with
 | next e'=>rw [e] at q;exact .inl ⟨_,rfl,q.of⟩
 | ret d=>rw [e] at q;exact .inl ⟨_,rfl,q.of⟩
 | exc e' c fl=>rw [e] at q;exact .inr ⟨_,_,rfl,q.of⟩
 | _=>rw [e] at q;exact q.of.elim
variable {e' e3 : Ev} {sub : Str→Bool} {c : Str} {fl : List (Str×XD)} {F : List Dat→Rs} {fs : Ev→Option (List Dat)}
theorem go_tryX (e : g env = .exc e' c fl) (hs : sub c = true) (e2 : h (e'.set i (.fz (.exc c fl))) = .next e3) (q : N (e3.set i .un)) : Go (sTry sub i g h env) N R := by
 unfold sTry;rw [e];dsimp only;rw [if_pos hs,e2];exact ⟨q⟩
theorem exprX_exc (e : fs env = some ds) (h : F ds = .exc c fl) : sExprX F fs env = .exc env c fl := by unfold sExprX;rw [e];dsimp only;rw [h]
theorem dIX_ok {sb : Str→Option Bool} {f : Ev→Option Dat} {b : Bool} (h : f env = some (.exc c fl)) (hs : sb c = some b) : dIX sb f env = some (.bl b) := by unfold dIX;rw [h];show (sb c).map Dat.bl = _;rw [hs];rfl
theorem dDlen_ok {ps : List (Nat×Nat)} (e : env[i]? = some (.gx (.dict (dctP ps)))) : dDlen i env = some (.int ((ps.length : Nat) : Int)) := by
 unfold dDlen
 rw [e]
 show some (Dat.int ((dctP ps).length : Int)) = _
 unfold dctP
 rw [List.length_map]
theorem dDnin_ok {f : Ev→Option Dat} {ps : List (Nat×Nat)} {q : Nat×Nat} (e : env[i]? = some (.gx (.dict (dctP ps)))) (e2 : f env = some (pairD q)) : dDin true i f env = some (.bl (!decide (q∈ps))) := by
 unfold dDin
 rw [e,e2]
 dsimp only
 rw [keyD_pair]
 show some (Dat.bl (!dKeys (dctP ps) (keyP q))) = _
 rw [keys_pairs]
end
end L2
namespace K22
open PySem PySem.Spec PyProof.Rows L2
theorem mix_ok (ns : List Int) (k : Nat) (hk : k≤100000) : ∃ r : Nat,F__law_mix [scr ns,.int (k : Int)] = .ok (.int (r : Int))∧r < 1000000000039 := by
 have := run_of (n:=3) (p:=2) (ds:=[scr ns,.int (k : Int)]) (g:=g__law_mix) (R:=fun d=>∃ r : Nat,d = .int (r : Int)∧r < 1000000000039) rfl ?_
 · obtain ⟨d,e,r,rfl,h⟩ := this
   exact ⟨r,e,h⟩
 show Go (g__law_mix [.fz (scr ns),.fz (.int (k : Int)),.un]) _ _
 unfold g__law_mix
 have fin : ∀ z : Int,Go (sRet (dO modD (dO mulE (dV 2) (dC (.int 48271))) (dC (.int 1000000000039))) [.fz (scr ns),.fz (.int (k : Int)),.fz (.int z)]) (fun _=>False) (fun d=>∃ r : Nat,d = .int (r : Int)∧r < 1000000000039) := fun z=>by
   refine go_ret (d:=.int (z * 48271 % 1000000000039)) (dO_ok (dO_ok rfl rfl (mulI_ok (.inr (by lia)))) rfl (modD_ok (by lia))) ⟨(z * 48271 % 1000000000039).toNat,?_,?_⟩
   · congr 1;lia
   · lia
 refine go_cons (go_set (d:=.int (7919 * (k : Int) + 12345)) (dO_ok (dO_ok rfl rfl (mulI_ok (.inl (by lia)))) rfl rfl) ?_)
 refine go_cons (go_if (b:=decide ((k : Int) < ((ns.map Dat.int).length : Int))) rfl (fun hb=>?_) (fun hb=>?_))
 · have hkl : k < ns.length := by have := of_decide_eq_true hb;rw [List.length_map] at this;lia
   have hix : ixD (scr ns) (.int (k : Int)) = some (.int ns[k]) := ixL_nat (by simp [hkl])
   refine go_set (d:=.int (7919 * (k : Int) + 12345 + ns[k] * 6364136223846793005)) (dO_ok rfl (dO_ok (dO_ok rfl rfl hix) rfl (mulI_ok (.inr (by lia)))) rfl) ?_
   exact (fin _).mono (fun _ h=>h.elim) fun _ h=>h
 · refine go_nil ?_
   exact (fin _).mono (fun _ h=>h.elim) fun _ h=>h
theorem word_ok (c k : Nat) : ∃ z : Str,F__law_word [.int (c : Int),.int (k : Int)] = .ok (.str z) := by
 have := run_of (n:=8) (p:=2) (ds:=[.int (c : Int),.int (k : Int)]) (g:=g__law_word) (R:=fun d=>∃ z : Str,d = .str z) rfl ?_
 · obtain ⟨d,e,z,rfl⟩ := this
   exact ⟨z,e⟩
 show Go (g__law_word [.fz (.int (c : Int)),.fz (.int (k : Int)),.un,.un,.un,.un,.un,.un]) _ _
 unfold g__law_word
 obtain ⟨n,hn,hn1⟩ : ∃ n : Nat,2 + c % 7 = n∧n≤8 := ⟨_,rfl,by lia⟩
 refine go_cons (go_set (d:=.str letters) rfl ?_)
 refine go_cons (go_set (d:=.int (n : Int)) (by rw [← hn];exact dO_ok rfl (dO_ok rfl rfl (modN c 7 (by lia))) (addN 2 _)) ?_)
 refine go_cons (go_set (dO_ok (dO_ok rfl rfl (fdivN c 7 (by lia) (by lia))) rfl (modN (c / 7) n (by lia))) ?_)
 refine go_cons (go_set (d:=.str "") rfl ?_)
 generalize c / 7 % n = at0
 refine go_cons (go_for (ds:=rng 0 n) (fun i e=>∃ (z : Str) (v6 v7 : Slt),e = [.fz (.int (c : Int)),.fz (.int (k : Int)),.fz (.str letters),.fz (.int (n : Int)),.fz (.int (at0 : Int)),.fz (.str z),v6,v7]∧z.length = i) (srcR1_eq (aCons_ok rfl rfl) (by lia)) ⟨"",.un,.un,rfl,by decide⟩ ?_ ?_)
 · rintro i d e hi ⟨z,v6,v7,rfl,hz⟩
   obtain ⟨hi1,rfl⟩ := rng_get hi
   rw [Int.zero_add]
   refine ⟨_,rfl,?_⟩
   refine go_cons (go_set (d:=.int ((0 : Nat) : Int)) rfl ?_)
   have fin : ∀ q : Nat,Go (sSet 5 (dO addD (dV 5) (dO ixD (dV 2) (dO modD (dO addD (dO addD (dO fdivD (dV 0) (dC (.int 49))) (dO mulE (dC (.int 5)) (dV 6))) (dO mulE (dC (.int 7)) (dV 7))) (dC (.int 26))))) [.fz (.int (c : Int)),.fz (.int (k : Int)),.fz (.str letters),.fz (.int (n : Int)),.fz (.int (at0 : Int)),.fz (.str z),.fz (.int (i : Int)),.fz (.int (q : Int))]) (fun e=>∃ (z : Str) (v6 v7 : Slt),e = [.fz (.int (c : Int)),.fz (.int (k : Int)),.fz (.str letters),.fz (.int (n : Int)),.fz (.int (at0 : Int)),.fz (.str z),v6,v7]∧z.length = i + 1) (fun d=>∃ z : Str,d = .str z) := fun q=>by
     have hx := ix_letters (j:=(((c / 49 + 5 * i + 7 * q) % 26 : Nat) : Int)) (by lia) (by lia)
     refine go_set (dO_ok rfl (dO_ok rfl (dO_ok (dO_ok (dO_ok (dO_ok rfl rfl (fdivN c 49 (by lia) (by lia))) (dO_ok rfl rfl (mulN' 5 i (by lia))) (addN _ _)) (dO_ok rfl rfl (mulN' 7 q (by lia))) (addN _ _)) rfl (modN _ 26 (by lia))) hx) (addS_ok (by show z.length + 1≤_;lia))) ?_
     exact ⟨_,_,_,rfl,by rw [len_append_str];show _ + 1 = _;lia⟩
   refine go_cons (go_if (dB_ok (dO_ok rfl rfl (eqN i at0))) (fun hb=>?_) (fun hb=>?_))
   · exact go_set rfl (fin k)
   · exact go_nil (fin 0)
 · rintro e ⟨z,v6,v7,rfl,hz⟩
   rw [rng_len] at hz
   refine go_cons (go_if (b:=decide (z∈(["given", "made", "up", "down", "start"] : List Str))) (dB_ok (dO_ok rfl rfl (inF_lst z ["given", "made", "up", "down", "start"]))) (fun hb=>?_) (fun hb=>?_))
   · refine go_set (dO_ok (dS_ok rfl (oSome_ok rfl) rfl (slXS_ok z _ _)) rfl (addS_ok ?_)) (go_ret rfl ⟨_,rfl⟩)
     have := Txt.slice_le z (some 1) none
     show (Txt.slice z (some 1) none).length + 1≤_
     lia
   · exact go_nil (go_ret rfl ⟨_,rfl⟩)
theorem order_ok (ns : List Int) (first n : Nat) (hf : first≤1000) (hn : n≤10) : ∃ ps : List Nat,F__law_order [scr ns,.int (first : Int),.int (n : Int)] = .ok (.lst (natsD ps))∧Ord n ps := by
 have := run_of (n:=8) (p:=3) (ds:=[scr ns,.int (first : Int),.int (n : Int)]) (g:=g__law_order) (R:=fun d=>∃ ps : List Nat,d = .lst (natsD ps)∧Ord n ps) rfl ?_
 · obtain ⟨d,e,z,rfl,h⟩ := this
   exact ⟨z,e,h⟩
 show Go (g__law_order [.fz (scr ns),.fz (.int (first : Int)),.fz (.int (n : Int)),.un,.un,.un,.un,.un]) _ _
 unfold g__law_order
 refine go_cons (go_own (ds:=natsD []) rfl ?_)
 refine go_cons (go_for (ds:=rng 0 n) (fun i e=>∃ (ps : List Nat) (v4 v5 v6 v7 : Slt),e = [.fz (scr ns),.fz (.int (first : Int)),.fz (.int (n : Int)),.ow (natsD ps),v4,v5,v6,v7]∧Ord i ps) (srcR1_eq (aCons_ok rfl rfl) (by lia)) ⟨[],.un,.un,.un,.un,rfl,rfl,fun v=>by simp⟩ ?_ ?_)
 · rintro i d e hi ⟨ps,v4,v5,v6,v7,rfl,ho⟩
   obtain ⟨hi1,rfl⟩ := rng_get hi
   rw [Int.zero_add]
   refine ⟨_,rfl,?_⟩
   obtain ⟨c,ec,lc⟩ := mix_ok ns (first + i) (by lia)
   have hl := ho.len
   refine go_cons (go_set (dCal_ok (xs:=[scr ns,.int ((first + i : Nat) : Int)]) (aCons_ok rfl (aCons_ok (dO_ok rfl rfl (addN _ _)) rfl)) ec) ?_)
   refine go_cons (go_set (dO_ok rfl (dO_ok (dF_ok (aCons_ok rfl rfl) (lenL_nats ps)) rfl (addN _ 1)) (modN c (ps.length + 1) (by lia))) ?_)
   have ha : c % (ps.length + 1)≤ps.length := by have := Nat.mod_lt c (show 0 < ps.length + 1 by lia);lia
   generalize c % (ps.length + 1) = a at ha
   refine go_cons (go_meth (ds:=natsD ps) (as:=[.int (a : Int),.int (i : Int)]) rfl rfl (insert_nats ps a i ha (by lia)) ?_)
   have hl1 := insert_len ps a i
   have hc1 := insert_count ps a i
   generalize ps.take a ++ i :: ps.drop a = qs at hl1 hc1
   refine go_cons (go_set (dO_ok (dO_ok rfl rfl (fdivN c 64 (by lia) (by lia))) (dO_ok (dF_ok (aCons_ok rfl rfl) (lenL_nats qs)) rfl (subN _ a (by lia))) (modN (c / 64) (qs.length - a) (by lia))) ?_)
   have hb : c / 64 % (qs.length - a) < qs.length - a := Nat.mod_lt _ (by lia)
   generalize c / 64 % (qs.length - a) = b at hb
   refine go_meth (ds:=natsD qs) (as:=[.int ((a + 1 + b : Nat) : Int),.int (i : Int)]) rfl (aCons_ok (dO_ok (dO_ok rfl rfl (addN a 1)) rfl (addN _ b)) (aCons_ok rfl rfl)) (insert_nats qs (a + 1 + b) i (by lia) (by lia)) ?_
   have hl2 := insert_len qs (a + 1 + b) i
   have hc2 := insert_count qs (a + 1 + b) i
   refine ⟨_,_,_,_,_,rfl,by lia,fun v=>?_⟩
   rw [hc2,hc1,ho.cnt]
   by_cases h1 : i = v
   · subst h1;rw [if_neg (by lia),if_pos rfl,if_pos (by lia)]
   · rw [if_neg h1]
     by_cases h2 : v < i
     · rw [if_pos h2,if_pos (by lia)]
     · rw [if_neg h2,if_neg (by lia)]
 · rintro e ⟨ps,v4,v5,v6,v7,rfl,ho⟩
   rw [rng_len] at ho
   exact go_retO rfl ⟨ps,rfl,ho⟩
structure Prs (n m : Nat) (qs : List (Nat×Nat)) : Prop where
 len : qs.length≤m
 lt : ∀ q∈qs,q.1 < q.2∧q.2 < n
theorem Prs.app {n m m' : Nat} {qs rs : List (Nat×Nat)} (h : Prs n m qs) (h' : Prs n m' rs) : Prs n (m + m') (qs ++ rs) := ⟨by rw [List.length_append];have := h.len;have := h'.len;lia,fun q hq=>(List.mem_append.mp hq).elim (h.lt q) (h'.lt q)⟩
theorem Prs.sub {n m : Nat} {qs rs : List (Nat×Nat)} (h : Prs n m qs) (s : rs.Sublist qs) : Prs n m rs := ⟨Nat.le_trans s.length_le h.len,fun q hq=>h.lt q (s.subset hq)⟩
theorem Prs.one {n : Nat} {q : Nat×Nat} (h1 : q.1 < q.2) (h2 : q.2 < n) : Prs n 1 [q] := ⟨Nat.le_refl _,fun p hp=>by rw [List.mem_singleton.mp hp];exact ⟨h1,h2⟩⟩
theorem Prs.mono {n m m' : Nat} {qs : List (Nat×Nat)} (h : Prs n m qs) (hm : m≤m') : Prs n m' qs := ⟨Nat.le_trans h.len hm,h.lt⟩
theorem Prs.nil (n m : Nat) : Prs n m [] := ⟨Nat.zero_le _,fun q hq=>by cases hq⟩
theorem arrows_ok (ns : List Int) (first many size : Nat) (hf : first≤1000) (hm : many≤100) (hs : 0 < size) : ∃ qs : List (Nat×Nat),F__law_arrows [scr ns,.int (first : Int),.int (many : Int),.int (size : Int)] = .ok (.lst (qs.map pairD))∧Prs size many qs := by
 have := run_of (n:=9) (p:=4) (ds:=[scr ns,.int (first : Int),.int (many : Int),.int (size : Int)]) (g:=g__law_arrows) (R:=fun d=>∃ qs : List (Nat×Nat),d = .lst (qs.map pairD)∧Prs size many qs) rfl ?_
 · obtain ⟨d,e,z,rfl,h⟩ := this
   exact ⟨z,e,h⟩
 show Go (g__law_arrows [.fz (scr ns),.fz (.int (first : Int)),.fz (.int (many : Int)),.fz (.int (size : Int)),.un,.un,.un,.un,.un]) _ _
 unfold g__law_arrows
 refine go_cons (go_own (ds:=([] : List (Nat×Nat)).map pairD) rfl ?_)
 refine go_cons (go_for (ds:=rng 0 many) (fun i e=>∃ (qs : List (Nat×Nat)) (v5 v6 v7 v8 : Slt),e = [.fz (scr ns),.fz (.int (first : Int)),.fz (.int (many : Int)),.fz (.int (size : Int)),.ow (qs.map pairD),v5,v6,v7,v8]∧Prs size i qs) (srcR1_eq (aCons_ok rfl rfl) (by lia)) ⟨[],.un,.un,.un,.un,rfl,Prs.nil _ _⟩ ?_ ?_)
 · rintro i d e hi ⟨qs,v5,v6,v7,v8,rfl,hq⟩
   obtain ⟨hi1,rfl⟩ := rng_get hi
   rw [Int.zero_add]
   refine ⟨_,rfl,?_⟩
   obtain ⟨c,ec,lc⟩ := mix_ok ns (first + i) (by lia)
   refine go_cons (go_set (dCal_ok (xs:=[scr ns,.int ((first + i : Nat) : Int)]) (aCons_ok rfl (aCons_ok (dO_ok rfl rfl (addN _ _)) rfl)) ec) ?_)
   refine go_cons (go_set (dO_ok rfl rfl (modN c size hs)) ?_)
   refine go_cons (go_set (dO_ok (dO_ok rfl rfl (fdivN c 64 (by lia) (by lia))) rfl (modN _ size hs)) ?_)
   have ha : c % size < size := Nat.mod_lt _ hs
   have hb : c / 64 % size < size := Nat.mod_lt _ hs
   generalize c % size = a at ha
   generalize c / 64 % size = b at hb
   obtain ⟨z,hz⟩ := nin_pairs (min a b,max a b) qs
   have et : ∀ env : Ev,env[7]? = some (.fz (.int (a : Int)))→env[8]? = some (.fz (.int (b : Int)))→aTup (aCons (dF minD (aCons (dV 7) (aCons (dV 8) aNil))) (aCons (dF maxD (aCons (dV 7) (aCons (dV 8) aNil))) aNil)) env = some (pairD (min a b,max a b)) := fun env h7 h8=>by
     have e7 : dV 7 env = some (.int (a : Int)) := by unfold dV;rw [h7]
     have e8 : dV 8 env = some (.int (b : Int)) := by unfold dV;rw [h8]
     exact aTup_ok (aCons_ok (dF_ok (aCons_ok e7 (aCons_ok e8 rfl)) (minN a b)) (aCons_ok (dF_ok (aCons_ok e7 (aCons_ok e8 rfl)) (maxN a b)) rfl)) (by simp)
   refine go_if (tAnd_ok (dB_ok (dO_ok rfl rfl (neN a b))) fun _=>dB_ok (dO_ok (et _ rfl rfl) rfl hz)) (fun hb=>?_) (fun _=>go_nil ⟨qs,_,_,_,_,rfl,hq.mono (by lia)⟩)
   have hne : a≠b := by
     have := (Bool.and_eq_true_iff.mp hb).1
     simpa using this
   refine go_meth (ds:=qs.map pairD) (as:=[pairD (min a b,max a b)]) (ds' := (qs ++ [(min a b,max a b)]).map pairD) rfl (aCons_ok (et _ rfl rfl) rfl) (by rw [append_ok (by rw [List.length_map];have := hq.len;lia),List.map_append];rfl) ⟨_,_,_,_,_,rfl,hq.app (Prs.one (by show min a b < max a b;lia) (by show max a b < _;lia))⟩
 · rintro e ⟨qs,v5,v6,v7,v8,rfl,hq⟩
   rw [rng_len] at hq
   exact go_retO rfl ⟨qs,rfl,hq⟩
end K22
set_option maxHeartbeats 1000000
namespace K22
open PySem PySem.Spec PyProof.Rows L2
theorem eq_pair (p q : Nat×Nat) : eqD (pairD p) (pairD q) = decide (p = q) := by
 show (((p.1 : Int) == (q.1 : Int)) && (((p.2 : Int) == (q.2 : Int)) && true)) = _
 rw [Bool.eq_iff_iff]
 simp only [Bool.and_eq_true,beq_iff_eq,decide_eq_true_eq,and_true]
 constructor
 · rintro ⟨h1,h2⟩;exact Prod.ext (by lia) (by lia)
 · rintro rfl;exact ⟨rfl,rfl⟩
theorem ne_pair (p q : Nat×Nat) : neF (pairD p) (pairD q) = some (.bl (!decide (p = q))) := by
 unfold neF
 rw [pd_pair,pd_pair,eq_pair]
 rfl
theorem cut_nats (ps : List Nat) (t : Nat) (h : t≤ps.length) : cutL (natsD ps) (some (t : Int)) none = natsD (ps.drop t) := by
 unfold natsD
 rw [cut_map,cut_map,cut_drop ps t h]
theorem eq0_bit (b : Bool) : eqF (.int (if b then 1 else 0)) (.int 0) = some (.bl (!b)) := by cases b <;> rfl
theorem or_lt {a b k : Nat} (h1 : a < 2 ^ k) (h2 : b < 2 ^ k) : a ||| b < 2 ^ k := Nat.or_lt_two_pow h1 h2
structure DS (s0 : Nat) (rs : List (Nat×Nat)) (ps : List Nat) (code d : Nat) (s : St3) : Prop where
 w : ps[d]? = some s.w
 tk : Spts s0 rs (·.2) (·.1) d s.takes
 fl : Spts s0 rs (·.1) (·.2) d s.fills
 up : s.up = !(code.testBit s.w ^^ decide ((ps.take d).count s.w % 2 = 1))
theorem graph_ok (ns : List Int) (first n many : Nat) (hf : first≤900) (hn1 : 1≤n) (hn2 : n≤4) (hm : many≤5) : ∃ (G : G3) (s0 : Nat) (ps : List Nat) (rs : List (Nat×Nat)),F__law_graph [scr ns,.int (first : Int),.int (n : Int),.int (many : Int)] = .ok G.d∧RG G n s0 (oneOf ps) (twoOf ps) rs∧Gb 54 G := by
 have := run_of (n:=24) (p:=4) (ds:=[scr ns,.int (first : Int),.int (n : Int),.int (many : Int)]) (g:=g__law_graph) (R:=fun d=>∃ (G : G3) (s0 : Nat) (ps : List Nat) (rs : List (Nat×Nat)),d = G.d∧RG G n s0 (oneOf ps) (twoOf ps) rs∧Gb 54 G) rfl ?_
 · obtain ⟨d,e,z,s0,ps,rs,rfl,h⟩ := this
   exact ⟨z,s0,ps,rs,e,h⟩
 show Go (g__law_graph [.fz (scr ns),.fz (.int (first : Int)),.fz (.int (n : Int)),.fz (.int (many : Int)),.un,.un,.un,.un,.un,.un,.un,.un,.un,.un,.un,.un,.un,.un,.un,.un,.un,.un,.un,.un]) _ _
 unfold g__law_graph
 obtain ⟨ps,eo,ho⟩ := order_ok ns first n (by lia) (by lia)
 have hpl := ho.len
 refine go_cons (go_set (dCal_ok (xs:=[scr ns,.int (first : Int),.int (n : Int)]) rfl eo) ?_)
 refine go_cons (go_set (dO_ok rfl rfl (mulN' 2 n (by lia))) ?_)
 obtain ⟨m,hm0⟩ : ∃ m : Nat,2 * n = m := ⟨_,rfl⟩
 rw [hm0] at hpl ⊢
 obtain ⟨c,ec,lc⟩ := mix_ok ns (first + n) (by lia)
 refine go_cons (go_set (dCal_ok (xs:=[scr ns,.int ((first + n : Nat) : Int)]) (aCons_ok rfl (aCons_ok (dO_ok rfl rfl (addN _ _)) rfl)) ec) ?_)
 obtain ⟨qs,eq,hq⟩ := arrows_ok ns (first + n + 1) many m (by lia) (by lia) (by lia)
 refine go_cons (go_set (dCal_ok (xs:=[scr ns,.int ((first + n + 1 : Nat) : Int),.int (many : Int),.int (m : Int)]) (aCons_ok rfl (aCons_ok (dO_ok (dO_ok rfl rfl (addN _ _)) rfl (addN _ 1)) rfl)) eq) ?_)
 refine go_cons (Go.mono (N:=fun e=>∃ rs : List (Nat×Nat),e = [.fz (scr ns),.fz (.int (first : Int)),.fz (.int (n : Int)),.fz (.int (many : Int)),.fz (.lst (natsD ps)),.fz (.int (m : Int)),.fz (.int (c : Int)),.fz (.lst (rs.map pairD)),.un,.un,.un,.un,.un,.un,.un,.un,.un,.un,.un,.un,.un,.un,.un,.un]∧Prs m 12 rs) ?_ ?_ (fun _ h=>h))
 · refine go_if (dB_ok (dO_ok (dO_ok rfl rfl (modN c 3 (by lia))) rfl (eqN _ 0))) (fun _=>?_) (fun _=>go_nil ⟨qs,rfl,hq.mono (by lia)⟩)
   obtain ⟨ks,hs,hc⟩ := compL_sub (g:=gset 0) (t:=dB (dO ninF (aTup (aCons (dV 0) (aCons (dO addD (dV 0) (dC (.int 1))) aNil))) (dV 1))) (f:=aTup (aCons (dV 0) (aCons (dO addD (dV 0) (dC (.int 1))) aNil))) (env:=[.un,.fz (.lst (qs.map pairD))]) (fun k : Nat=>Dat.int (k : Int)) (fun k : Nat=>pairD (k,k + 1)) (List.range (m - 1)) fun k _=>by
     obtain ⟨b,hb⟩ := nin_pairs (k,k + 1) qs
     have et : aTup (aCons (dV 0) (aCons (dO addD (dV 0) (dC (.int 1))) aNil)) [.fz (.int (k : Int)),.fz (.lst (qs.map pairD))] = some (pairD (k,k + 1)) := aTup_ok (aCons_ok rfl (aCons_ok (dO_ok rfl rfl (addN k 1)) rfl)) (by simp)
     exact ⟨_,b,rfl,dB_ok (dO_ok et rfl hb),et⟩
   rw [← rng_map] at hc
   have hp : Prs m 7 (ks.map fun k=>(k,k + 1)) := ⟨by have := hs.length_le;rw [List.length_range] at this;rw [List.length_map];lia,fun q hq=>by
     obtain ⟨k,hk,rfl⟩ := List.mem_map.mp hq
     have := List.mem_range.mp (hs.subset hk)
     exact ⟨by show k < k + 1;lia,by show k + 1 < m;lia⟩⟩
   have hl1 := hq.len
   have hl2 := hp.len
   rw [List.length_map] at hl2
   refine go_set (dO_ok rfl (dL_ok (dComp_ok (xs:=rng 0 (m - 1)) (srcR1_eq (aCons_ok (dO_ok rfl rfl (subN m 1 (by lia))) rfl) (by lia)) rfl hc)) (addL_ok (by rw [List.length_map,List.length_map];lia))) ⟨qs ++ ks.map fun k=>(k,k + 1),by rw [List.map_append,List.map_map];rfl,(hq.app hp).mono (by lia)⟩
 rintro e ⟨rs,rfl,hr⟩
 clear eq hq qs
 refine go_cons (go_for (ds:=rng 0 n) (fun i e=>∃ (rs : List (Nat×Nat)) (v8 v9 v10 : Slt),e = [.fz (scr ns),.fz (.int (first : Int)),.fz (.int (n : Int)),.fz (.int (many : Int)),.fz (.lst (natsD ps)),.fz (.int (m : Int)),.fz (.int (c : Int)),.fz (.lst (rs.map pairD)),v8,v9,v10,.un,.un,.un,.un,.un,.un,.un,.un,.un,.un,.un,.un,.un]∧Prs m (12 + i) rs∧∀ w,w < i→(oneOf ps w,twoOf ps w)∈rs) (srcR1_eq (aCons_ok rfl rfl) (by lia)) ⟨rs,.un,.un,.un,rfl,hr,fun w hw=>absurd hw (by lia)⟩ ?_ ?_)
 · rintro i d e hi ⟨rs,v8,v9,v10,rfl,hr,hrg⟩
   obtain ⟨hi1,rfl⟩ := rng_get hi
   rw [Int.zero_add]
   refine ⟨_,rfl,?_⟩
   have hmem : i∈ps := ho.mem.mpr hi1
   have hone : ps.idxOf i < ps.length := List.idxOf_lt_length_of_mem hmem
   have h2 := second (ho.two hi1)
   have htw0 : twoOf ps i = ps.idxOf i + 1 + (ps.drop (ps.idxOf i + 1)).idxOf i := rfl
   have hon0 : oneOf ps i = ps.idxOf i := rfl
   refine go_cons (go_set (dM_ok rfl rfl rfl (index_nats ps i hmem)) ?_)
   generalize ps.idxOf i = one at hone h2 htw0 hon0
   have htwo : (ps.drop (one + 1)).idxOf i < (ps.drop (one + 1)).length := List.idxOf_lt_length_of_mem h2
   rw [List.length_drop] at htwo
   refine go_cons (go_set (dO_ok (dO_ok rfl rfl (addN one 1)) (dM_ok (x:=.lst (natsD (ps.drop (one + 1)))) (dS_ok rfl (oSome_ok (dO_ok rfl rfl (addN one 1))) rfl (by rw [slXL_ok,cut_nats ps _ (by lia)])) rfl rfl (index_nats _ i h2)) (addN _ _)) ?_)
   generalize (ps.drop (one + 1)).idxOf i = x2 at htwo htw0
   have hc := compL_filt (g:=gset 0) (t:=dB (dO neF (dV 0) (aTup (aCons (dV 1) (aCons (dV 2) aNil))))) (f:=dV 0) (env:=[.un,.fz (.int (one : Int)),.fz (.int ((one + 1 + x2 : Nat) : Int))]) pairD pairD (fun q=>!decide (q = (one,one + 1 + x2))) rs fun q _ => 
     ⟨_,rfl,dB_ok (dO_ok rfl (aTup_ok rfl (by simp)) (ne_pair q (one,one + 1 + x2))),rfl⟩
   have hs : (rs.filter fun q=>!decide (q = (one,one + 1 + x2))).Sublist rs := List.filter_sublist
   have hl := hs.length_le
   have hl2 := hr.len
   refine go_set (dO_ok (dL_ok (dComp_ok (xs:=rs.map pairD) rfl rfl hc)) (dL_ok (aLst_ok (xs:=[pairD (one,one + 1 + x2)]) (aCons_ok (aTup_ok rfl (by simp)) rfl) (by simp))) (addL_ok (by rw [List.length_map];show _ + 1≤_;lia))) ⟨(rs.filter fun q=>!decide (q = (one,one + 1 + x2))) ++ [(one,one + 1 + x2)],_,_,_,by rw [List.map_append];rfl,?_,?_⟩
   · exact ((hr.sub hs).app (Prs.one (by show one < one + 1 + x2;lia) (by show one + 1 + x2 < m;lia))).mono (by lia)
   · intro w hw
     by_cases e : (oneOf ps w,twoOf ps w) = (one,one + 1 + x2)
     · rw [e];exact List.mem_append_right _ (List.mem_singleton.mpr rfl)
     · have hwi : w < i := by
         rcases Nat.lt_or_ge w i with h | h
         · exact h
         · have : w = i := by lia
           subst this
           exact absurd (Prod.ext hon0 htw0) e
       exact List.mem_append_left _ (List.mem_filter.mpr ⟨hrg w hwi,by rw [decide_eq_false e];rfl⟩)
 rintro e ⟨rs,v8,v9,v10,rfl,hr,hrg⟩
 rw [rng_len] at hr hrg
 refine go_cons (go_ownN (ds:=natsD ps) rfl ?_)
 refine go_cons (go_ownN (ds:=natsD ps) rfl ?_)
 rw [List.length_map,List.length_map,hpl,nest_nil]
 refine go_cons (go_set (d:=.int ((0 : Nat) : Int)) rfl ?_)
 refine go_cons (go_set (dO_ok (dO_ok rfl rfl (fdivN c 3 (by lia) (by lia))) rfl (modN _ 20 (by lia))) ?_)
 have hs0 : c / 3 % 20 < 20 := Nat.mod_lt _ (by lia)
 generalize c / 3 % 20 = s0 at hs0
 refine go_cons (go_for (ds:=rs.map pairD) (fun i e=>∃ (tk fl : List (List Nat)) (mk : Nat) (v15 v16 : Slt),e = [.fz (scr ns),.fz (.int (first : Int)),.fz (.int (n : Int)),.fz (.int (many : Int)),.fz (.lst (natsD ps)),.fz (.int (m : Int)),.fz (.int (c : Int)),.fz (.lst (rs.map pairD)),v8,v9,v10,.gx (.nest (tk.map natsD)),.gx (.nest (fl.map natsD)),.fz (.int (mk : Int)),.fz (.int ((s0 + 2 * i : Nat) : Int)),v15,v16,.un,.un,.un,.un,.un,.un,.un]∧tk.length = m∧fl.length = m∧Nst (2 * i) (s0 + 2 * i) tk∧Nst (2 * i) (s0 + 2 * i) fl∧mk < 2 ^ (s0 + 2 * i)∧(∀ l∈tk,l.Nodup)∧(∀ l∈fl,l.Nodup)∧NS s0 (rs.take i) (·.2) (·.1) tk∧NS s0 (rs.take i) (·.1) (·.2) fl∧∀ q,mk.testBit q = true↔∃ t,t < i∧q = s0 + 2 * t + 1) rfl ⟨_,_,0,.un,.un,rfl,List.length_replicate,List.length_replicate,(Nst.nil m).mono (by lia) (by lia),(Nst.nil m).mono (by lia) (by lia),Nat.two_pow_pos _,fun l h=>by rw [(List.mem_replicate.mp h).2];exact List.nodup_nil,fun l h=>by rw [(List.mem_replicate.mp h).2];exact List.nodup_nil,by rw [List.take_zero];exact NS.nil _ _ _ _,by rw [List.take_zero];exact NS.nil _ _ _ _,fun q=>by simp⟩ ?_ ?_)
 · rintro i d e hi ⟨tk,fl,mk,v15,v16,rfl,htl,hfl,ht,hfk,hmk,ndt,ndf,nst,nsf,hmb⟩
   rw [List.getElem?_map] at hi
   obtain ⟨q,hq,rfl⟩ := map_some hi
   have hil := (List.getElem?_eq_some_iff.mp hq).1
   have hql := hr.lt q (List.mem_of_getElem? hq)
   have hrl := hr.len
   refine ⟨_,rfl,?_⟩
   have ht1 := ht.mono (Nat.le_refl _) (show s0 + 2 * i≤s0 + 2 * i + 2 by lia)
   have hf1 := hfk.mono (Nat.le_refl _) (show s0 + 2 * i≤s0 + 2 * i + 2 by lia)
   refine go_cons (go_napp rfl hf1 (by lia) (k:=q.1) (by lia) rfl rfl ?_)
   refine go_cons (go_napp rfl ht1 (by lia) (k:=q.2) (by lia) rfl rfl ?_)
   have ht2 := ht1.app q.2 (s0 + 2 * i) (by lia)
   have hf2 := hf1.app q.1 (s0 + 2 * i) (by lia)
   refine go_cons (go_napp (x:=s0 + 2 * i + 1) rfl hf2 (by lia) (k:=q.2) (by rw [napp_len];lia) rfl rfl ?_)
   refine go_cons (go_napp (x:=s0 + 2 * i + 1) rfl ht2 (by lia) (k:=q.1) (by rw [napp_len];lia) rfl rfl ?_)
   have ht3 := ht2.app q.1 (s0 + 2 * i + 1) (by lia)
   have hf3 := hf2.app q.2 (s0 + 2 * i + 1) (by lia)
   have htb := (ht.mono (Nat.le_refl _) (show s0 + 2 * i≤s0 + 2 * i + 1 by lia)).app q.2 (s0 + 2 * i) (by lia)
   have hfb := (hfk.mono (Nat.le_refl _) (show s0 + 2 * i≤s0 + 2 * i + 1 by lia)).app q.1 (s0 + 2 * i) (by lia)
   have hti : (rs.take i).length = i := by rw [List.length_take];lia
   have htk1 : rs.take (i + 1) = rs.take i ++ [q] := by rw [List.take_succ,hq];rfl
   refine go_cons (go_set (dO_ok rfl (dO_ok rfl (dO_ok rfl rfl (addN _ 1)) (shl1 (s0 + 2 * i + 1) (by lia))) (orN mk _)) ?_)
   refine go_set (dO_ok rfl rfl (addN _ 2)) ⟨_,_,_,_,_,rfl,by rw [napp_len,napp_len,htl],by rw [napp_len,napp_len,hfl],ht3.mono (by lia) (by lia),hf3.mono (by lia) (by lia),?_,?_,?_,?_,?_,?_⟩
   · exact or_lt (Nat.lt_of_lt_of_le hmk (Nat.pow_le_pow_right (by lia) (by lia))) (Nat.pow_lt_pow_right (by lia) (by lia))
   · exact nd_app htb (nd_app ht ndt _ _ (Nat.le_refl _)) _ _ (Nat.le_refl _)
   · exact nd_app hfb (nd_app hfk ndf _ _ (Nat.le_refl _)) _ _ (Nat.le_refl _)
   · have := nst.app q (by show q.2 < _;lia) (by show q.1 < _;lia)
     rw [hti] at this
     rw [htk1];exact this
   · have := nsf.app q (by show q.1 < _;lia) (by show q.2 < _;lia)
     rw [hti] at this
     rw [htk1];exact this
   · intro j
     rw [Nat.testBit_or,Bool.or_eq_true,hmb,Nat.testBit_two_pow,decide_eq_true_eq]
     constructor
     · rintro (⟨t,h1,h2⟩ | h1)
       · exact ⟨t,by lia,h2⟩
       · exact ⟨i,by lia,h1.symm⟩
     · rintro ⟨t,h1,h2⟩
       rcases Nat.lt_or_ge t i with h | h
       · exact .inl ⟨t,h,h2⟩
       · have : t = i := by lia
         subst this
         exact .inr h2.symm
 rintro e ⟨tk,fl,mk,v15,v16,rfl,htl,hfl,ht,hfk,hmk,ndt,ndf,nst,nsf,hmb⟩
 rw [List.length_map] at ht hfk hmk nst nsf hmb ⊢
 rw [List.take_of_length_le (Nat.le_refl _)] at nst nsf
 have hrl := hr.len
 have ht := ht.mono (L' := 32) (B' := 54) (by lia) (by lia)
 have hfk := hfk.mono (L' := 32) (B' := 54) (by lia) (by lia)
 have hmk : mk < 2 ^ 54 := Nat.lt_of_lt_of_le hmk (Nat.pow_le_pow_right (by lia) (by lia))
 refine go_cons (go_set (dO_ok (dO_ok rfl rfl (fdivN c 60 (by lia) (by lia))) (dO_ok rfl rfl (shl1 n (by lia))) (modN _ (2 ^ n) (Nat.two_pow_pos _))) ?_)
 generalize c / 60 % 2 ^ n = code
 refine go_cons (go_set rfl ?_)
 refine go_cons (go_own (ds:=([] : List St3).map St3.d) rfl ?_)
 generalize (s0 + 2 * rs.length) = s9
 refine go_cons (go_for (ds:=numb 0 (natsD ps)) (fun i e=>∃ (ss : List St3) (seen : Nat) (v8 v20 : Slt),e = [.fz (scr ns),.fz (.int (first : Int)),.fz (.int (n : Int)),.fz (.int (many : Int)),.fz (.lst (natsD ps)),.fz (.int (m : Int)),.fz (.int (c : Int)),.fz (.lst (rs.map pairD)),v8,v9,v10,.gx (.nest (tk.map natsD)),.gx (.nest (fl.map natsD)),.fz (.int (mk : Int)),.fz (.int (s9 : Int)),v15,v16,.fz (.int (code : Int)),.fz (.int (seen : Int)),.ow (ss.map St3.d),v20,.un,.un,.un]∧ss.length = i∧(∀ v,seen.testBit v = (code.testBit v ^^ decide ((ps.take i).count v % 2 = 1)))∧(∀ j s,ss[j]? = some s→DS s0 rs ps code j s)∧∀ s∈ss,SB 54 n s) rfl ⟨[],code,v8,.un,rfl,rfl,fun v=>by simp,fun j s h=>(by simp at h),by simp⟩ ?_ ?_)
 · rintro i d e hi ⟨ss,seen,v8,v20,rfl,hsl,hsn,hds,hsk⟩
   obtain ⟨x,hx,rfl⟩ := numb_get' hi
   obtain ⟨w,hw,rfl⟩ := nats_get hx
   have hil := (List.getElem?_eq_some_iff.mp hw).1
   have hwn : w < n := ho.mem.mp (List.mem_of_getElem? hw)
   refine ⟨_,rfl,?_⟩
   have e1 : tk[i]? = some tk[i] := List.getElem?_eq_getElem (by lia)
   have e2 : fl[i]? = some fl[i] := List.getElem?_eq_getElem (by lia)
   have n1 := nst i
   have n2 := nsf i
   rw [show tk.getD i [] = tk[i] by rw [List.getD,e1];rfl] at n1
   rw [show fl.getD i [] = fl[i] by rw [List.getD,e2];rfl] at n2
   generalize htk : tk[i] = tl at e1 n1
   generalize hfl' : fl[i] = fl' at e2 n2
   have t1 := ht.len _ (List.mem_of_getElem? e1)
   have t2 := ht.lt _ (List.mem_of_getElem? e1)
   have f1 := hfk.len _ (List.mem_of_getElem? e2)
   have f2 := hfk.lt _ (List.mem_of_getElem? e2)
   obtain ⟨ta,ea,pa⟩ := sortedX_nats tl (by lia)
   obtain ⟨fa,eb,pb⟩ := sortedX_nats fl' (by lia)
   refine go_cons (go_meth (ds:=ss.map St3.d) (as:=[(⟨w,!(seen.testBit w),ta,fa⟩ : St3).d]) (ds' := (ss ++ [(⟨w,!(seen.testBit w),ta,fa⟩ : St3)]).map St3.d) rfl (aCons_ok (aTup_ok (aCons_ok rfl (aCons_ok (dO_ok (dO_ok (dO_ok rfl rfl (shrN seen w)) rfl (and1N seen w)) rfl (eq0_bit _)) (aCons_ok (dF_ok (aCons_ok (dL_ok (dF_ok (aCons_ok (dNix_ok rfl rfl e1) rfl) ea)) rfl) rfl) (aCons_ok (dF_ok (aCons_ok (dL_ok (dF_ok (aCons_ok (dNix_ok rfl rfl e2) rfl) eb)) rfl) rfl) rfl)))) (by simp)) rfl) ?_ ?_)
   · rw [append_ok (by rw [List.length_map];lia),List.map_append];rfl
   · refine go_set (dO_ok rfl (dO_ok rfl rfl (shl1 w (by lia))) (xorN seen _)) ⟨_,_,_,_,rfl,by rw [List.length_append,List.length_singleton,hsl],?_,?_,fun s hs=>?_⟩
     · intro v
       rw [flip_bit,hsn,List.take_succ,hw]
       show (code.testBit v ^^ decide ((ps.take i).count v % 2 = 1) ^^ decide (w = v)) = (code.testBit v ^^ decide ((ps.take i ++ [w]).count v % 2 = 1))
       rw [List.count_append,List.count_singleton]
       by_cases ew : w = v
       · subst ew
         rw [show (w == w) = true from beq_self_eq_true _,decide_eq_true rfl,if_pos rfl]
         by_cases hp : (ps.take i).count w % 2 = 1
         · rw [decide_eq_true hp,decide_eq_false (by lia)];cases code.testBit w <;> rfl
         · rw [decide_eq_false hp,decide_eq_true (by lia)];cases code.testBit w <;> rfl
       · rw [show (w == v) = false from beq_eq_false_iff_ne.mpr ew,decide_eq_false ew];simp
     · intro j s hj
       rcases Nat.lt_or_ge j ss.length with hl | hl
       · rw [List.getElem?_append_left hl] at hj
         exact hds j s hj
       · rw [List.getElem?_append_right hl] at hj
         have e0 : j - ss.length = 0 := by
           rcases Nat.eq_zero_or_pos (j - ss.length) with z | z
           · exact z
           · rw [List.getElem?_cons,if_neg (by lia)] at hj;cases hj
         rw [e0] at hj
         cases hj
         have ej : j = i := by lia
         subst ej
         exact ⟨hw,n1.perm pa,n2.perm pb,by show (!(seen.testBit w)) = _;rw [hsn]⟩
     rcases List.mem_append.mp hs with h | h
     · exact hsk s h
     · rw [List.mem_singleton.mp h]
       exact ⟨hwn,fun p hp=>t2 p (pa.mem_iff.mp hp),fun p hp=>f2 p (pb.mem_iff.mp hp),pa.nodup_iff.mpr (ndt _ (List.mem_of_getElem? e1)),pb.nodup_iff.mpr (ndf _ (List.mem_of_getElem? e2))⟩
 rintro e ⟨ss,seen,v8,v20,rfl,hsl,hsn,hds,hsk⟩
 rw [numb_len,List.length_map,List.length_map] at hsl
 refine go_cons (go_set (dO_ok (dO_ok rfl rfl (fdivN c 2000 (by lia) (by lia))) rfl (modN _ m (by lia))) ?_)
 have htn : c / 2000 % m < m := Nat.mod_lt _ (by lia)
 generalize c / 2000 % m = t at htn
 refine go_cons (go_own (ds:=(ss.drop t ++ ss.take t).map St3.d) (by
   refine dO_ok (dS_ok rfl (oSome_ok rfl) rfl (slXL_ok _ _ _)) (dS_ok rfl rfl (oSome_ok rfl) (slXL_ok _ _ _)) ?_
   rw [cut_map,cut_map,cut_drop ss t (by lia),cut_take ss t (by lia),catL_ok (by rw [List.length_map,List.length_map,List.length_drop,List.length_take];lia),List.map_append]) ?_)
 refine go_cons (go_set (dO_ok rfl rfl (fdivN c 40000 (by lia) (by lia))) ?_)
 obtain ⟨ws,ew,wl,_⟩ := compL_ex (g:=gset 0) (f:=aTup (aCons (dCal F__law_word (aCons (dV 1) (aCons (dV 0) aNil))) (aCons (dO ixD (dL (aLst (aCons (dC (.str "given")) (aCons (dC (.str "made")) aNil)))) (dO modD (dO fdivD (dCal F__law_mix (aCons (dV 2) (aCons (dO addD (dV 3) (dV 0)) aNil))) (dC (.int 4096))) (dC (.int 2)))) aNil))) (env:=[.un,.fz (.int ((c / 40000 : Nat) : Int)),.fz (scr ns),.fz (.int (first : Int))]) wirD (fun _=>True) (rng 0 n) fun x hx=>by
   obtain ⟨i,hi,rfl⟩ := rng_mem hx
   rw [Int.zero_add]
   obtain ⟨z,ez⟩ := word_ok (c / 40000) i
   obtain ⟨r,er,_⟩ := mix_ok ns (first + i) (by lia)
   have p1 := pick2 (.str "given") (.str "made") (j:=((r / 4096 % 2 : Nat) : Int)) (by lia) (by lia)
   refine ⟨[.fz (.int (i : Int)),.fz (.int ((c / 40000 : Nat) : Int)),.fz (scr ns),.fz (.int (first : Int))],(z,decide (((r / 4096 % 2 : Nat) : Int) = 1)),rfl,?_,trivial⟩
   refine Eq.trans (aTup_ok (aCons_ok (dCal_ok (xs:=[.int ((c / 40000 : Nat) : Int),.int (i : Int)]) rfl ez) (aCons_ok (dO_ok (x:=.lst [.str "given",.str "made"]) rfl (dO_ok (dO_ok (dCal_ok (xs:=[scr ns,.int ((first + i : Nat) : Int)]) (aCons_ok rfl (aCons_ok (dO_ok rfl rfl (addN _ _)) rfl)) er) rfl (fdivN r 4096 (by lia) (by lia))) rfl (modN _ 2 (by lia))) p1) rfl)) (by simp)) ?_
   show some (Dat.tup [.str z,if ((r / 4096 % 2 : Nat) : Int) = 1 then .str "made" else .str "given"]) = some (Dat.tup [.str z,.str (if decide (((r / 4096 % 2 : Nat) : Int) = 1) = true then "made" else "given")])
   by_cases hb : ((r / 4096 % 2 : Nat) : Int) = 1
   · rw [if_pos hb,decide_eq_true hb];rfl
   · rw [if_neg hb,decide_eq_false hb];rfl
 rw [rng_len] at wl
 refine go_cons (go_set (d:=.lst (ws.map wirD)) (dL_ok (dComp_ok (xs:=rng 0 n) (srcR1_eq (aCons_ok rfl rfl) (by lia)) rfl ew)) ?_)
 have hperm : (ss.drop t ++ ss.take t).Perm ss := by
   have := List.perm_append_comm (l₁:=ss.drop t) (l₂:=ss.take t)
   rw [List.take_append_drop] at this
   exact this
 have hlen := hperm.length_eq
 refine go_ret (aTup_ok (aCons_ok (dF_ok (aCons_ok rfl rfl) rfl) (aCons_ok (dF_ok (aCons_ok rfl rfl) rfl) rfl)) (by simp)) ⟨⟨ws,ss.drop t ++ ss.take t,mk,code⟩,s0,ps,rs,rfl,?_,?_⟩
 · exact {
     ne := fun q hq=>by have := (hr.lt q hq).1;lia
     ring := hrg
     inj := fun w v hw hv h=>ho.inj w v hw hv h
     mks := hmb
     st := fun s hs=>by
       obtain ⟨d,hd⟩ := List.getElem?_of_mem (hperm.mem_iff.mp hs)
       have q := hds d s hd
       have hwn := (hsk s (hperm.mem_iff.mp hs)).w
       have hdl := (List.getElem?_eq_some_iff.mp hd).1
       refine ⟨d,hwn,by lia,q.tk,q.fl,?_⟩
       have hu := q.up
       rcases occ2 q.w (ho.two hwn) with ⟨h1,h2⟩ | ⟨h1,h2⟩
       · exact .inl ⟨h2,by rw [hu,h1];show (!(code.testBit s.w ^^ decide (0 % 2 = 1))) = (!code.testBit s.w);simp⟩
       · exact .inr ⟨h2,by rw [hu,h1];show (!(code.testBit s.w ^^ decide (1 % 2 = 1))) = code.testBit s.w;simp⟩ }
 · exact { w2 := by show ws.length≤10;lia,s1 := by show 1≤(ss.drop t ++ ss.take t).length;lia,s2 := by show (ss.drop t ++ ss.take t).length≤24;lia,st := fun s hs=>by show SB 54 ws.length s;rw [wl];exact hsk s (hperm.mem_iff.mp hs),mks := hmk }
theorem stp {f1 f2 f3 f4 : Ev→Option Dat} {env : Ev} {w p q : Nat} {u : Bool} (h1 : f1 env = some (.int (w : Int))) (h2 : f2 env = some (.bl u)) (h3 : f3 env = some (.int (p : Int))) (h4 : f4 env = some (.int (q : Int))) : aTup (aCons f1 (aCons f2 (aCons (aTup (aCons f3 aNil)) (aCons (aTup (aCons f4 aNil)) aNil)))) env = some (⟨w,u,[p],[q]⟩ : St3).d :=
 aTup_ok (aCons_ok h1 (aCons_ok h2 (aCons_ok (aTup_ok (aCons_ok h3 rfl) (by simp)) (aCons_ok (aTup_ok (aCons_ok h4 rfl) (by simp)) rfl)))) (by simp)
theorem pick3 {j : Nat} (h : j < 3) : ∃ b : Bool,ixD (.lst [.str "given",.str "given",.str "made"]) (.int (j : Int)) = some (.str (if b then "made" else "given")) := by
 rcases (show j = 0∨j = 1∨j = 2 by lia) with rfl | rfl | rfl
 · exact ⟨false,rfl⟩
 · exact ⟨false,rfl⟩
 · exact ⟨true,rfl⟩
theorem len_map {α : Type} (f : α→Dat) (xs : List α) : lenD [.lst (xs.map f)] = some (.int ((xs.length : Nat) : Int)) := by
 show some (Dat.int ((xs.map f).length : Int)) = _
 rw [List.length_map]
noncomputable def LC (C base f q : Nat) : Nat := if q = base then C else if (q - base - 1) % 3 = 0 then C ^^^ 2 ^ (1 + (q - base - 1) / 3 * f) else if (q - base - 1) % 3 = 1 then C ^^^ 2 ^ (1 + (q - base - 1) / 3 * f) ^^^ 2 ^ 0 else C ^^^ 2 ^ 0
theorem LC0 (C base f : Nat) : LC C base f base = C := if_pos rfl
theorem LC1 (C base f k : Nat) : LC C base f (base + 1 + 3 * k) = C ^^^ 2 ^ (1 + k * f) := by
 unfold LC
 have e : base + 1 + 3 * k - base - 1 = 3 * k := by lia
 rw [if_neg (by lia),e,if_pos (by lia),show 3 * k / 3 = k by lia]
theorem LC2 (C base f k : Nat) : LC C base f (base + 1 + 3 * k + 1) = C ^^^ 2 ^ (1 + k * f) ^^^ 2 ^ 0 := by
 unfold LC
 have e : base + 1 + 3 * k + 1 - base - 1 = 3 * k + 1 := by lia
 rw [if_neg (by lia),e,if_neg (by lia),if_pos (by lia),show (3 * k + 1) / 3 = k by lia]
theorem LC3 (C base f k : Nat) : LC C base f (base + 1 + 3 * k + 2) = C ^^^ 2 ^ 0 := by
 unfold LC
 have e : base + 1 + 3 * k + 2 - base - 1 = 3 * k + 2 := by lia
 rw [if_neg (by lia),e,if_neg (by lia),if_neg (by lia)]
theorem xx (a b : Nat) : a ^^^ b ^^^ b = a := by rw [Nat.xor_assoc,Nat.xor_self,Nat.xor_zero]
theorem xxy (a b c : Nat) : a ^^^ b ^^^ c ^^^ b = a ^^^ c := by rw [Nat.xor_assoc,Nat.xor_comm c b,← Nat.xor_assoc,xx]
def GoodC (K : Nat) (L : Nat→Nat) (s : St3) : Prop := (∃ x y,x < 64∧y < 64∧x≠y∧s.takes = [x]∧s.fills = [y]∧L y = L x ^^^ 2 ^ s.w∧(L x).testBit s.w≠s.up)∧SB 54 (K + 1) s
theorem good_mk {K : Nat} {L : Nat→Nat} {w x y : Nat} {u : Bool} (hx : x < 54) (hy : y < 54) (hn : x≠y) (hw : w < K + 1) (h1 : L y = L x ^^^ 2 ^ w) (h2 : (L x).testBit w≠u) : GoodC K L ⟨w,u,[x],[y]⟩ :=
 ⟨⟨x,y,by lia,by lia,hn,rfl,rfl,h1,h2⟩,hw,fun p hp=>by rw [List.mem_singleton.mp hp];exact hx,fun p hp=>by rw [List.mem_singleton.mp hp];exact hy,List.nodup_cons.mpr ⟨by simp,List.nodup_nil⟩,List.nodup_cons.mpr ⟨by simp,List.nodup_nil⟩⟩
theorem and1_0 (c : Nat) : andD (.int (c : Int)) (.int 1) = some (.int (if c.testBit 0 then 1 else 0)) := by
 have := and1N c 0
 rw [Nat.pow_zero,Nat.div_one] at this
 exact this
theorem bit_mod {c k x : Nat} (h : x < k) : (c % 2 ^ k).testBit x = c.testBit x := by
 rw [Nat.testBit_mod_two_pow,decide_eq_true h,Bool.true_and]
theorem ne_not (b : Bool) : b≠!b := by cases b <;> simp
theorem choice_ok (ns : List Int) (first : Nat) (hf : first≤900) : ∃ (G : G3) (b : Nat) (L : Nat→Nat),F__law_choice [scr ns,.int (first : Int)] = .ok G.d∧OneT G b L∧Gb 54 G := by
 have := run_of (n:=13) (p:=2) (ds:=[scr ns,.int (first : Int)]) (g:=g__law_choice) (R:=fun d=>∃ (G : G3) (b : Nat) (L : Nat→Nat),d = G.d∧OneT G b L∧Gb 54 G) rfl ?_
 · obtain ⟨d,e,z,b,L,rfl,h⟩ := this
   exact ⟨z,b,L,e,h⟩
 show Go (g__law_choice [.fz (scr ns),.fz (.int (first : Int)),.un,.un,.un,.un,.un,.un,.un,.un,.un,.un,.un]) _ _
 unfold g__law_choice
 obtain ⟨c,ec,lc⟩ := mix_ok ns first (by lia)
 refine go_cons (go_set (dCal_ok (xs:=[scr ns,.int (first : Int)]) rfl ec) ?_)
 refine go_cons (go_set (dO_ok (dO_ok rfl rfl (fdivN c 4 (by lia) (by lia))) rfl (modN _ 20 (by lia))) ?_)
 have hb0 : c / 4 % 20 < 20 := Nat.mod_lt _ (by lia)
 generalize c / 4 % 20 = base at hb0
 refine go_cons (go_set (dO_ok (dO_ok rfl rfl (fdivN c 80 (by lia) (by lia))) rfl (modN _ 32 (by lia))) ?_)
 generalize c / 80 % 32 = code
 refine go_cons (go_set (d:=.lst (([] : List St3).map St3.d)) rfl ?_)
 obtain ⟨z0,ez0⟩ := word_ok (c / 2560) 0
 refine go_cons (go_own (ds:=[(z0,true)].map wirD) (aLst_ok (aCons_ok (aTup_ok (aCons_ok (dCal_ok (xs:=[.int ((c / 2560 : Nat) : Int),.int ((0 : Nat) : Int)]) (aCons_ok (dO_ok rfl rfl (fdivN c 2560 (by lia) (by lia))) rfl) ez0) rfl) (by simp)) rfl) (by simp)) ?_)
 obtain ⟨K,hK⟩ : ∃ K : Nat,1 + c % 4 = K := ⟨_,rfl⟩
 have hK1 : 1≤K∧K≤4 := by lia
 obtain ⟨f,hf0⟩ : ∃ f : Nat,c / 40 % 2 = f := ⟨_,rfl⟩
 have hf1 : f≤1 := by lia
 obtain ⟨C,hC⟩ : ∃ C : Nat,code % 2 ^ (K + 1) = C := ⟨_,rfl⟩
 refine go_cons (go_for (ds:=rng 0 K) (fun i e=>∃ (ss : List St3) (ws : List (Str×Bool)) (v7 v8 v9 v10 v11 : Slt),e = [.fz (scr ns),.fz (.int (first : Int)),.fz (.int (c : Int)),.fz (.int (base : Int)),.fz (.int (code : Int)),.fz (.lst (ss.map St3.d)),.ow (ws.map wirD),v7,v8,v9,v10,v11,.un]∧ws.length = i + 1∧i≤ss.length∧ss.length≤4 * i∧∀ s∈ss,GoodC K (LC C base f) s) (srcR1_eq (aCons_ok (dO_ok rfl (dO_ok rfl rfl (modN c 4 (by lia))) (by rw [← hK];exact addN 1 _)) rfl) (by lia)) ⟨[],[(z0,true)],.un,.un,.un,.un,.un,rfl,rfl,Nat.le_refl _,Nat.le_refl _,by simp⟩ ?_ ?_)
 · rintro i d e hi ⟨ss,ws,v7,v8,v9,v10,v11,rfl,hwl,hs1,hs2,hgd⟩
   obtain ⟨hi1,rfl⟩ := rng_get hi
   rw [Int.zero_add]
   refine ⟨_,rfl,?_⟩
   obtain ⟨r,er,_⟩ := mix_ok ns (first + 1 + i) (by lia)
   refine go_cons (go_set (dCal_ok (xs:=[scr ns,.int ((first + 1 + i : Nat) : Int)]) (aCons_ok rfl (aCons_ok (dO_ok (dO_ok rfl rfl (addN _ 1)) rfl (addN _ _)) rfl)) er) ?_)
   refine go_cons (go_set (d:=.int ((1 + i * f : Nat) : Int)) (dO_ok rfl (dO_ok rfl (dO_ok (dO_ok rfl rfl (fdivN c 40 (by lia) (by lia))) rfl (modN _ 2 (by lia))) (by rw [hf0];exact mulN i f (by lia))) (addN 1 _)) ?_)
   obtain ⟨x,hx⟩ : ∃ x : Nat,1 + i * f = x := ⟨_,rfl⟩
   have hxK : 1≤x∧x < K + 1 := by
     rcases (show f = 0∨f = 1 by lia) with rfl | rfl <;> lia
   rw [hx]
   refine go_cons (go_set (dO_ok (dO_ok (dO_ok rfl rfl (shrN code x)) rfl (and1N code x)) rfl (eq0_bit _)) ?_)
   refine go_cons (go_set (dO_ok (dO_ok rfl rfl (addN base 1)) (dO_ok rfl rfl (mulN' 3 i (by lia))) (addN _ _)) ?_)
   obtain ⟨sp,hsp⟩ : ∃ sp : Nat,base + 1 + 3 * i = sp := ⟨_,rfl⟩
   have l0 := LC0 C base f
   have l1 := LC1 C base f i
   have l2 := LC2 C base f i
   have l3 := LC3 C base f i
   rw [hsp] at l1 l2 l3 ⊢
   rw [hx] at l1 l2
   generalize LC C base f = L at *
   obtain ⟨z,ez⟩ := word_ok (c / 2560) (i + 1)
   obtain ⟨b,hb⟩ := pick3 (j:=r % 3 * (c / 20 % 2)) (by
     have h1 : r % 3 < 3 := Nat.mod_lt _ (by lia)
     rcases (show c / 20 % 2 = 0∨c / 20 % 2 = 1 by lia) with h | h <;> rw [h] <;> lia)
   refine go_cons (go_meth (ds:=ws.map wirD) (as:=[wirD (z,b)]) (ds' := (ws ++ [(z,b)]).map wirD) rfl (aCons_ok (aTup_ok (aCons_ok (dCal_ok (xs:=[.int ((c / 2560 : Nat) : Int),.int ((i + 1 : Nat) : Int)]) (aCons_ok (dO_ok rfl rfl (fdivN c 2560 (by lia) (by lia))) (aCons_ok (dO_ok rfl rfl (addN i 1)) rfl)) ez) (aCons_ok (dO_ok (x:=.lst [.str "given",.str "given",.str "made"]) rfl (dO_ok (dO_ok rfl rfl (modN r 3 (by lia))) (dO_ok (dO_ok rfl rfl (fdivN c 20 (by lia) (by lia))) rfl (modN _ 2 (by lia))) (mulN _ _ (by lia))) hb) rfl)) (by simp)) rfl) (by rw [append_ok (by rw [List.length_map];lia),List.map_append];rfl) ?_)
   have hCx : C.testBit x = code.testBit x := by rw [← hC];exact bit_mod hxK.2
   have hC0 : C.testBit 0 = code.testBit 0 := by rw [← hC];exact bit_mod (by lia)
   have gA : GoodC K L ⟨x,!code.testBit x,[base],[sp]⟩ := good_mk (by lia) (by lia) (by lia) hxK.2 (by rw [l1,l0]) (by rw [l0,hCx];exact ne_not _)
   have hm : ∀ (s1 s2 : St3),addD (.lst (ss.map St3.d)) (.lst [s1.d,s2.d]) = some (.lst ((ss ++ [s1,s2]).map St3.d)) := fun s1 s2=>by
     rw [addL_ok (by rw [List.length_map];show _ + 2≤_;lia),List.map_append];rfl
   refine go_if (dB_ok (dO_ok (dO_ok (dO_ok rfl rfl (fdivN r 3 (by lia) (by lia))) rfl (modN _ 3 (by lia))) rfl (eqN _ 0))) (fun _=>?_) (fun _=>?_)
   · have gB : GoodC K L ⟨x,!!code.testBit x,[sp],[base]⟩ := good_mk (by lia) (by lia) (by lia) hxK.2 (by rw [l1,l0,xx]) (by rw [l1,flip_bit,hCx,decide_eq_true rfl];cases code.testBit x <;> simp)
     refine go_set (dO_ok rfl (dL_ok (aLst_ok (aCons_ok (stp rfl rfl rfl rfl) (aCons_ok (stp rfl rfl rfl rfl) rfl)) (by simp))) (hm _ _)) ⟨_,_,_,_,_,_,_,rfl,by rw [List.length_append,List.length_singleton];lia,by rw [List.length_append];show _≤_ + 2;lia,by rw [List.length_append];show _ + 2≤_;lia,fun s hs=>?_⟩
     rcases List.mem_append.mp hs with h | h
     · exact hgd s h
     · rcases List.mem_cons.mp h with rfl | h
       · exact gA
       · rw [List.mem_singleton.mp h];exact gB
   · have gC : GoodC K L ⟨0,!code.testBit 0,[sp],[sp + 1]⟩ := good_mk (by lia) (by lia) (by lia) (by lia) (by rw [l2,l1]) (by rw [l1,flip_bit,hC0,decide_eq_false (by lia)];cases code.testBit 0 <;> simp)
     have gD : GoodC K L ⟨x,!!code.testBit x,[sp + 1],[sp + 2]⟩ := good_mk (by lia) (by lia) (by lia) hxK.2 (by rw [l3,l2,xxy]) (by rw [l2,flip_bit,flip_bit,hCx,decide_eq_true rfl,decide_eq_false (by lia)];cases code.testBit x <;> simp)
     have gE : GoodC K L ⟨0,code.testBit 0,[sp + 2],[base]⟩ := good_mk (by lia) (by lia) (by lia) (by lia) (by rw [l3,l0,xx]) (by rw [l3,flip_bit,hC0,decide_eq_true rfl];cases code.testBit 0 <;> simp)
     refine go_cons (go_set (dO_ok rfl (dL_ok (aLst_ok (aCons_ok (stp rfl rfl rfl rfl) (aCons_ok (stp (w:=0) rfl (dO_ok (dO_ok rfl rfl (and1_0 code)) rfl (eq0_bit _)) rfl (dO_ok rfl rfl (addN sp 1))) rfl)) (by simp))) (hm _ _)) ?_)
     have hm2 : ∀ (s1 s2 s3 s4 : St3),addD (.lst ((ss ++ [s1,s2]).map St3.d)) (.lst [s3.d,s4.d]) = some (.lst ((ss ++ [s1,s2,s3,s4]).map St3.d)) := fun s1 s2 s3 s4=>by
       rw [addL_ok (by rw [List.length_map,List.length_append];show _ + 2 + 2≤_;lia),List.map_append,List.map_append,List.append_assoc];rfl
     refine go_set (dO_ok rfl (dL_ok (aLst_ok (aCons_ok (stp rfl rfl (dO_ok rfl rfl (addN sp 1)) (dO_ok rfl rfl (addN sp 2))) (aCons_ok (stp (w:=0) rfl (dO_ok (dO_ok rfl rfl (and1_0 code)) rfl (eq1_bit _)) (dO_ok rfl rfl (addN sp 2)) rfl) rfl)) (by simp))) (hm2 _ _ _ _)) ⟨_,_,_,_,_,_,_,rfl,by rw [List.length_append,List.length_singleton];lia,by rw [List.length_append];show _≤_ + 4;lia,by rw [List.length_append];show _ + 4≤_;lia,fun s hs=>?_⟩
     rcases List.mem_append.mp hs with h | h
     · exact hgd s h
     · rcases List.mem_cons.mp h with rfl | h
       · exact gA
       rcases List.mem_cons.mp h with rfl | h
       · exact gC
       rcases List.mem_cons.mp h with rfl | h
       · exact gD
       · rw [List.mem_singleton.mp h];exact gE
 rintro e ⟨ss,ws,v7,v8,v9,v10,v11,rfl,hwl,hs1,hs2,hgd⟩
 rw [rng_len] at hwl hs1 hs2
 refine go_cons (go_set (dO_ok (dO_ok rfl rfl (fdivN c 7 (by lia) (by lia))) (dF_ok (aCons_ok rfl rfl) (len_map St3.d ss)) (modN _ ss.length (by lia))) ?_)
 have ht : c / 7 % ss.length < ss.length := Nat.mod_lt _ (by lia)
 generalize c / 7 % ss.length = t at ht
 have hperm : (ss.drop t ++ ss.take t).Perm ss := by
   have := List.perm_append_comm (l₁:=ss.drop t) (l₂:=ss.take t)
   rw [List.take_append_drop] at this
   exact this
 have hlen := hperm.length_eq
 refine go_ret (aTup_ok (aCons_ok (dF_ok (aCons_ok rfl rfl) rfl) (aCons_ok (dF_ok (aCons_ok (x:=.lst ((ss.drop t ++ ss.take t).map St3.d)) (dO_ok (dS_ok rfl (oSome_ok rfl) rfl (slXL_ok _ _ _)) (dS_ok rfl rfl (oSome_ok rfl) (slXL_ok _ _ _)) (by
   rw [cut_map,cut_map,cut_drop ss t (by lia),cut_take ss t (by lia),addL_ok (by rw [List.length_map,List.length_map,List.length_drop,List.length_take];lia),List.map_append])) rfl) rfl) (aCons_ok (dO_ok rfl rfl (shl1 base (by lia))) (aCons_ok (dO_ok rfl (dO_ok rfl (dF_ok (aCons_ok rfl rfl) (len_map wirD ws)) (shl1 ws.length (by lia))) (modN _ _ (Nat.two_pow_pos _))) rfl)))) (by simp)) ⟨⟨ws,ss.drop t ++ ss.take t,2 ^ base,code % 2 ^ ws.length⟩,base,LC C base f,rfl,?_,?_⟩
 · exact { bl := by lia,ma := rfl,cd := by show code % 2 ^ ws.length = _;rw [LC0,hwl,hC],st := fun s hs=>(hgd s (hperm.mem_iff.mp hs)).1 }
 · exact { w2 := by show ws.length≤10;lia,s1 := by show 1≤(ss.drop t ++ ss.take t).length;lia,s2 := by show (ss.drop t ++ ss.take t).length≤24;lia,st := fun s hs=>by show SB 54 ws.length s;rw [hwl];exact (hgd s (hperm.mem_iff.mp hs)).2,mks := Nat.pow_lt_pow_right (by lia) (by lia) }
theorem nats_app (a b : List Nat) : natsD a ++ natsD b = natsD (a ++ b) := by unfold natsD;rw [List.map_append,List.map_append]
structure LkS (G : G3) (z : Nat) (s' : St3) : Prop where
 a : ∃ s∈G.steps,∃ b : Bool,s'.w = s.w∧s'.up = s.up∧z∉s.takes∧z∉s.fills∧(∀ q,q∈s'.takes↔q∈s.takes∨(b = true∧q = z))∧(∀ q,q∈s'.fills↔q∈s.fills∨(b = true∧q = z))
 b : SB 64 G.wires.length s'
theorem sb_add {B : Nat} {l l' : List Nat} {z : Nat} (hb : ∀ p∈l,p < B) (hB : B≤64) (hz : z < 64) (hn : l.Nodup) (hzl : z∉l) (e : l'.Perm (l ++ [z])) : (∀ p∈l',p < 64)∧l'.Nodup∧∀ q,q∈l'↔q∈l∨(true = true∧q = z) := by
 refine ⟨fun p hp=>?_,?_,fun q=>?_⟩
 · rcases List.mem_append.mp (e.mem_iff.mp hp) with h | h
   · have := hb p h;lia
   · rw [List.mem_singleton.mp h];exact hz
 · refine e.nodup_iff.mpr (List.nodup_append.mpr ⟨hn,List.nodup_cons.mpr ⟨by simp,List.nodup_nil⟩,fun a ha b hb'=>?_⟩)
   rw [List.mem_singleton.mp hb']
   rintro rfl;exact hzl ha
 · rw [e.mem_iff];simp
theorem lookers_ok (G : G3) (hG : Gb 54 G) (c : Nat) : ∃ (G' : G3) (z : Nat),F__law_lookers [G.d,.int (c : Int)] = .ok G'.d∧LookG G G' z∧Gb 64 G' := by
 have := run_of (n:=15) (p:=2) (ds:=[G.d,.int (c : Int)]) (g:=g__law_lookers) (R:=fun d=>∃ (G' : G3) (z : Nat),d = G'.d∧LookG G G' z∧Gb 64 G') rfl ?_
 · obtain ⟨d,e,z,b,rfl,h⟩ := this
   exact ⟨z,b,e,h⟩
 show Go (g__law_lookers [.fz G.d,.fz (.int (c : Int)),.un,.un,.un,.un,.un,.un,.un,.un,.un,.un,.un,.un,.un]) _ _
 unfold g__law_lookers
 refine go_cons (go_asg (d:=G.d) (env' := [.fz G.d,.fz (.int (c : Int)),.fz (.tup (G.wires.map wirD)),.fz (.tup (G.steps.map St3.d)),.fz (.int (G.marks : Int)),.fz (.int (G.code : Int)),.un,.un,.un,.un,.un,.un,.un,.un,.un]) rfl rfl ?_)
 refine go_cons (go_set rfl ?_)
 refine go_cons (go_for (ds:=G.steps.map St3.d) (fun i e=>∃ (th : Nat) (v7 v8 : Slt),e = [.fz G.d,.fz (.int (c : Int)),.fz (.tup (G.wires.map wirD)),.fz (.tup (G.steps.map St3.d)),.fz (.int (G.marks : Int)),.fz (.int (G.code : Int)),.fz (.int (th : Int)),v7,v8,.un,.un,.un,.un,.un,.un]∧th < 2 ^ 54∧(∀ j,G.marks.testBit j = true→th.testBit j = true)∧∀ s∈G.steps.take i,∀ j,j∈s.takes∨j∈s.fills→th.testBit j = true) (srcT_ok rfl) ⟨G.marks,.un,.un,rfl,hG.mks,fun j h=>h,fun s hs=>by simp at hs⟩ ?_ ?_)
 · rintro i d e hi ⟨th,v7,v8,rfl,h1,h2,h3⟩
   rw [List.getElem?_map] at hi
   obtain ⟨s,hs,rfl⟩ := map_some hi
   have hsb := hG.st s (List.mem_of_getElem? hs)
   refine ⟨_,rfl,?_⟩
   have hlt : s.takes.length≤54 := nd_len hsb.tn hsb.t
   have hlf : s.fills.length≤54 := nd_len hsb.fn hsb.f
   have hadd : addT (.tup (natsD s.takes)) (.tup (natsD s.fills)) = some (.tup (natsD (s.takes ++ s.fills))) := by
     rw [addT_ok (by unfold natsD;rw [List.length_map,List.length_map,List.length_map,List.length_map];lia),nats_app]
   refine go_for (ds:=natsD (s.takes ++ s.fills)) (fun k e=>∃ (th' : Nat) (v8 : Slt),e = [.fz G.d,.fz (.int (c : Int)),.fz (.tup (G.wires.map wirD)),.fz (.tup (G.steps.map St3.d)),.fz (.int (G.marks : Int)),.fz (.int (G.code : Int)),.fz (.int (th' : Int)),.fz s.d,v8,.un,.un,.un,.un,.un,.un]∧th' < 2 ^ 54∧(∀ j,th.testBit j = true→th'.testBit j = true)∧∀ j∈(s.takes ++ s.fills).take k,th'.testBit j = true) (srcT_ok (dO_ok (dO_ok rfl rfl rfl) (dO_ok rfl rfl rfl) hadd)) ⟨th,_,rfl,h1,fun j h=>h,fun j hj=>by simp at hj⟩ ?_ ?_
   · rintro k d e hk ⟨th',v8,rfl,g1,g2,g3⟩
     obtain ⟨p,hp,rfl⟩ := nats_get hk
     have hp54 : p < 54 := by
       rcases List.mem_append.mp (List.mem_of_getElem? hp) with h | h
       · exact hsb.t p h
       · exact hsb.f p h
     refine ⟨_,rfl,?_⟩
     refine go_set (dO_ok rfl (dO_ok rfl rfl (shl1 p (by lia))) (orN th' _)) ⟨_,_,rfl,or_lt g1 (Nat.pow_lt_pow_right (by lia) hp54),fun j h=>by rw [Nat.testBit_or,g2 j h];rfl,fun j hj=>?_⟩
     rw [List.take_succ,hp] at hj
     rcases List.mem_append.mp hj with h | h
     · rw [Nat.testBit_or,g3 j h];rfl
     · have : j = p := List.mem_singleton.mp h
       rw [this,Nat.testBit_or,Nat.testBit_two_pow,decide_eq_true rfl,Bool.or_true]
   · rintro e ⟨th',v8,rfl,g1,g2,g3⟩
     have hl : (natsD (s.takes ++ s.fills)).length = (s.takes ++ s.fills).length := by unfold natsD;rw [List.length_map,List.length_map]
     rw [hl,List.take_of_length_le (Nat.le_refl _)] at g3
     refine ⟨th',_,_,rfl,g1,fun j h=>g2 j (h2 j h),fun r hr j hj=>?_⟩
     rw [List.take_succ,hs] at hr
     rcases List.mem_append.mp hr with h | h
     · exact g2 j (h3 r h j hj)
     · have : r = s := List.mem_singleton.mp h
       subst this
       exact g3 j (List.mem_append.mpr hj)
 rintro e ⟨th,v7,v8,rfl,h1,h2,h3⟩
 rw [List.length_map,List.take_of_length_le (Nat.le_refl _)] at h3
 have hc := compL_filt (g:=gset 0) (t:=dB (dO eqF (dO andD (dO shrD (dV 1) (dV 0)) (dC (.int 1))) (dC (.int 0)))) (f:=dV 0) (env:=[.un,.fz (.int (th : Int))]) (fun k : Nat=>Dat.int (k : Int)) (fun k : Nat=>Dat.int (k : Int)) (fun p=>!th.testBit p) (List.range 64) fun p _=>⟨[.fz (.int (p : Int)),.fz (.int (th : Int))],rfl,dB_ok (dO_ok (dO_ok (dO_ok rfl rfl (shrN th p)) rfl (and1N th p)) rfl (eq0_bit _)),rfl⟩
 rw [← rng_map] at hc
 have hfl : 3≤((List.range 64).filter fun p=>!th.testBit p).length := by
   refine nodup_le [54,55,56] _ (by decide) fun p hp=>List.mem_filter.mpr ⟨List.mem_range.mpr ?_,?_⟩
   · have : p = 54∨p = 55∨p = 56 := by simpa using hp
     lia
   · have : p = 54∨p = 55∨p = 56 := by simpa using hp
     rw [Nat.testBit_lt_two_pow (Nat.lt_of_lt_of_le h1 (Nat.pow_le_pow_right (by lia) (by lia)))];rfl
 have hc3 : c % 3 < ((List.range 64).filter fun p=>!th.testBit p).length := by lia
 have hz := List.getElem_mem hc3
 have ez : ((List.range 64).filter fun p=>!th.testBit p)[c % 3]? = some _ := List.getElem?_eq_getElem hc3
 generalize ((List.range 64).filter fun p=>!th.testBit p)[c % 3] = z at hz ez
 obtain ⟨hz1,hz2⟩ := List.mem_filter.mp hz
 have hz64 : z < 64 := List.mem_range.mp hz1
 have hzt : th.testBit z = false := by simpa using hz2
 have hz3 : ∀ s∈G.steps,z∉s.takes∧z∉s.fills := fun s hs=>⟨fun h=>absurd (h3 s hs z (.inl h)) (by rw [hzt];decide),fun h=>absurd (h3 s hs z (.inr h)) (by rw [hzt];decide)⟩
 have hzm : G.marks.testBit z = false := by
   cases h : G.marks.testBit z with
   | false=>rfl
   | true=>rw [h2 z h] at hzt;cases hzt
 refine go_cons (go_set (d:=.int (z : Int)) (dO_ok (dL_ok (dComp_ok (xs:=rng 0 64) (srcR1_eq (aCons_ok rfl rfl) (by lia)) rfl hc)) (dO_ok rfl rfl (modN c 3 (by lia))) (ixL_nat (by rw [List.getElem?_map,ez];rfl))) ?_)
 refine go_cons (go_own (ds:=([] : List St3).map St3.d) rfl ?_)
 refine go_cons (go_for (ds:=numb 0 (G.steps.map St3.d)) (fun i e=>∃ (ss : List St3) (v7 v10 v11 v12 v13 v14 : Slt),e = [.fz G.d,.fz (.int (c : Int)),.fz (.tup (G.wires.map wirD)),.fz (.tup (G.steps.map St3.d)),.fz (.int (G.marks : Int)),.fz (.int (G.code : Int)),.fz (.int (th : Int)),v7,.fz (.int (z : Int)),.ow (ss.map St3.d),v10,v11,v12,v13,v14]∧ss.length = i∧∀ s∈ss,LkS G z s) (by unfold srcE;rw [srcT_ok rfl];rfl) ⟨[],v7,.un,.un,.un,.un,.un,rfl,rfl,by simp⟩ ?_ ?_)
 · rintro i d e hi ⟨ss,v7,v10,v11,v12,v13,v14,rfl,hsl,hlk⟩
   obtain ⟨x,hx,rfl⟩ := numb_get' hi
   rw [List.getElem?_map] at hx
   obtain ⟨s,hs,rfl⟩ := map_some hx
   have hmem := List.mem_of_getElem? hs
   have hsb := hG.st s hmem
   have hil := (List.getElem?_eq_some_iff.mp hs).1
   have hs24 := hG.s2
   obtain ⟨n1,n2⟩ := hz3 s hmem
   have hlt : s.takes.length≤54 := nd_len hsb.tn hsb.t
   have hlf : s.fills.length≤54 := nd_len hsb.fn hsb.f
   refine ⟨[.fz G.d,.fz (.int (c : Int)),.fz (.tup (G.wires.map wirD)),.fz (.tup (G.steps.map St3.d)),.fz (.int (G.marks : Int)),.fz (.int (G.code : Int)),.fz (.int (th : Int)),v7,.fz (.int (z : Int)),.ow (ss.map St3.d),.fz (.int (i : Int)),.fz (.int (s.w : Int)),.fz (.bl s.up),.fz (.tup (natsD s.takes)),.fz (.tup (natsD s.fills))],rfl,?_⟩
   have fin : ∀ (t f : List Nat),LkS G z ⟨s.w,s.up,t,f⟩→Go (sMeth 9 appendF (aCons (aTup (aCons (dV 11) (aCons (dV 12) (aCons (dV 13) (aCons (dV 14) aNil))))) aNil) [.fz G.d,.fz (.int (c : Int)),.fz (.tup (G.wires.map wirD)),.fz (.tup (G.steps.map St3.d)),.fz (.int (G.marks : Int)),.fz (.int (G.code : Int)),.fz (.int (th : Int)),v7,.fz (.int (z : Int)),.ow (ss.map St3.d),.fz (.int (i : Int)),.fz (.int (s.w : Int)),.fz (.bl s.up),.fz (.tup (natsD t)),.fz (.tup (natsD f))]) (fun e=>∃ (ss : List St3) (v7 v10 v11 v12 v13 v14 : Slt),e = [.fz G.d,.fz (.int (c : Int)),.fz (.tup (G.wires.map wirD)),.fz (.tup (G.steps.map St3.d)),.fz (.int (G.marks : Int)),.fz (.int (G.code : Int)),.fz (.int (th : Int)),v7,.fz (.int (z : Int)),.ow (ss.map St3.d),v10,v11,v12,v13,v14]∧ss.length = i + 1∧∀ s∈ss,LkS G z s) (fun d=>∃ (G' : G3) (z : Nat),d = G'.d∧LookG G G' z∧Gb 64 G') := fun t f hl=>by
     refine go_meth (ds:=ss.map St3.d) (as:=[(⟨s.w,s.up,t,f⟩ : St3).d]) (ds' := (ss ++ [(⟨s.w,s.up,t,f⟩ : St3)]).map St3.d) rfl (aCons_ok (aTup_ok rfl (by simp)) rfl) (by rw [append_ok (by rw [List.length_map];lia),List.map_append];rfl) ⟨_,_,_,_,_,_,_,rfl,by rw [List.length_append,List.length_singleton,hsl],fun r hr=>?_⟩
     rcases List.mem_append.mp hr with h | h
     · exact hlk r h
     · rw [List.mem_singleton.mp h];exact hl
   refine go_cons (go_if (dB_ok (dO_ok (dO_ok (dO_ok (dO_ok rfl rfl (fdivN c 3 (by lia) (by lia))) rfl (shrN _ i)) rfl (and1N _ i)) rfl (eq1_bit _))) (fun _=>?_) (fun _=>go_nil ?_))
   · obtain ⟨t,et,pt⟩ := sortedX_tup (s.takes ++ [z]) (by rw [List.length_append,List.length_singleton];lia)
     obtain ⟨f,ef,pf⟩ := sortedX_tup (s.fills ++ [z]) (by rw [List.length_append,List.length_singleton];lia)
     have a1 : addT (.tup (natsD s.takes)) (.tup [.int (z : Int)]) = some (.tup (natsD (s.takes ++ [z]))) := by
       rw [addT_ok (by unfold natsD;rw [List.length_map,List.length_map];show _ + 1≤_;lia),← nats_app];rfl
     have a2 : addT (.tup (natsD s.fills)) (.tup [.int (z : Int)]) = some (.tup (natsD (s.fills ++ [z]))) := by
       rw [addT_ok (by unfold natsD;rw [List.length_map,List.length_map];show _ + 1≤_;lia),← nats_app];rfl
     refine go_cons (go_set (d:=.tup (natsD t)) (dF_ok (aCons_ok (dL_ok (dF_ok (aCons_ok (dO_ok rfl (aTup_ok (aCons_ok rfl rfl) (by simp)) a1) rfl) et)) rfl) rfl) ?_)
     refine go_set (d:=.tup (natsD f)) (dF_ok (aCons_ok (dL_ok (dF_ok (aCons_ok (dO_ok rfl (aTup_ok (aCons_ok rfl rfl) (by simp)) a2) rfl) ef)) rfl) rfl) ?_
     obtain ⟨t1,t2,t3⟩ := sb_add hsb.t (by lia) hz64 hsb.tn n1 pt
     obtain ⟨f1,f2,f3⟩ := sb_add hsb.f (by lia) hz64 hsb.fn n2 pf
     exact fin t f ⟨⟨s,hmem,true,rfl,rfl,n1,n2,t3,f3⟩,⟨hsb.w,t1,f1,t2,f2⟩⟩
   · exact fin s.takes s.fills ⟨⟨s,hmem,false,rfl,rfl,n1,n2,fun q=>by simp,fun q=>by simp⟩,⟨hsb.w,fun p hp=>by have := hsb.t p hp;lia,fun p hp=>by have := hsb.f p hp;lia,hsb.tn,hsb.fn⟩⟩
 rintro e ⟨ss,v7,v10,v11,v12,v13,v14,rfl,hsl,hlk⟩
 rw [numb_len,List.length_map] at hsl
 have := hG.s1
 have := hG.s2
 have := hG.w2
 refine go_ret (aTup_ok (aCons_ok rfl (aCons_ok (dF_ok (aCons_ok rfl rfl) rfl) (aCons_ok (dO_ok rfl (dO_ok rfl rfl (shl1 z (by lia))) (orN G.marks _)) rfl))) (by simp)) ⟨⟨G.wires,ss,G.marks ||| 2 ^ z,G.code⟩,z,rfl,?_,?_⟩
 · exact { len := hsl,ma := rfl,mz := hzm,cd := rfl,st := fun s hs=>(hlk s hs).a }
 · exact { w2 := hG.w2,s1 := by show 1≤ss.length;lia,s2 := by show ss.length≤24;lia,st := fun s hs=>(hlk s hs).b,mks := or_lt (Nat.lt_of_lt_of_le hG.mks (Nat.pow_le_pow_right (by lia) (by lia))) (Nat.pow_lt_pow_right (by lia) hz64) }
theorem takes_ok (G : G3) (k : Nat) (s : St3) (h : G.steps[k]? = some s) : F_takes_of [G.d,.int (k : Int)] = .ok (.tup (natsD s.takes)) := by
 refine ok_of (run_of (n:=2) (p:=2) (ds:=[G.d,.int (k : Int)]) (g:=g_takes_of) (R:=fun d=>d = .tup (natsD s.takes)) rfl ?_)
 show Go (g_takes_of [.fz G.d,.fz (.int (k : Int))]) _ _
 unfold g_takes_of
 exact go_ret (dO_ok (dO_ok (dO_ok rfl rfl rfl) rfl (ixT_nat (x:=s.d) (by rw [List.getElem?_map,h];rfl))) rfl rfl) rfl
theorem bits_ok (ps : List Nat) (hp : ∀ p∈ps,p≤1000) : F_bits [.tup (natsD ps)] = .ok (.int (bitsN ps : Int)) := by
 refine ok_of (run_of (n:=3) (p:=1) (ds:=[.tup (natsD ps)]) (g:=g_bits) (R:=fun d=>d = .int (bitsN ps : Int)) rfl ?_)
 show Go (g_bits [.fz (.tup (natsD ps)),.un,.un]) _ _
 unfold g_bits
 refine go_cons (go_set (d:=.int 0) rfl ?_)
 refine go_cons (go_for (ds:=natsD ps) (fun i e=>∃ (z : Int) (v : Slt),e = [.fz (.tup (natsD ps)),.fz (.int z),v]∧z = (((ps.take i).foldl (fun a p=>a ||| 2 ^ p) 0 : Nat) : Int)) rfl ⟨0,.un,rfl,rfl⟩ ?_ ?_)
 · rintro i x e hi ⟨z,v,rfl,rfl⟩
   obtain ⟨p,hq,rfl⟩ := nats_get hi
   have hpp := hp p (List.mem_of_getElem? hq)
   refine ⟨_,rfl,?_⟩
   refine go_set (d:=.int ((((ps.take (i + 1)).foldl (fun a p=>a ||| 2 ^ p) 0 : Nat)) : Int)) (dO_ok rfl (dO_ok rfl rfl (shl1 p hpp)) ?_) ⟨_,_,rfl,rfl⟩
   rw [orN,List.take_succ,hq,List.foldl_append];rfl
 · rintro e ⟨z,v,rfl,rfl⟩
   refine go_ret rfl ?_
   rw [List.length_map,List.length_map,List.take_of_length_le (Nat.le_refl _)];rfl
theorem wire_ok (G : G3) (k : Nat) (s : St3) (h : G.steps[k]? = some s) : F_wire_of [G.d,.int (k : Int)] = .ok (.int (s.w : Int)) := by
 refine ok_of (run_of (n:=2) (p:=2) (ds:=[G.d,.int (k : Int)]) (g:=g_wire_of) (R:=fun d=>d = .int (s.w : Int)) rfl ?_)
 show Go (g_wire_of [.fz G.d,.fz (.int (k : Int))]) _ _
 unfold g_wire_of
 exact go_ret (dO_ok (dO_ok (dO_ok rfl rfl rfl) rfl (ixT_nat (x:=s.d) (by rw [List.getElem?_map,h];rfl))) rfl rfl) rfl
theorem rise_ok (G : G3) (k : Nat) (s : St3) (h : G.steps[k]? = some s) : F_is_rise [G.d,.int (k : Int)] = .ok (.bl s.up) := by
 refine ok_of (run_of (n:=2) (p:=2) (ds:=[G.d,.int (k : Int)]) (g:=g_is_rise) (R:=fun d=>d = .bl s.up) rfl ?_)
 show Go (g_is_rise [.fz G.d,.fz (.int (k : Int))]) _ _
 unfold g_is_rise
 exact go_ret (dO_ok (dO_ok (dO_ok rfl rfl rfl) rfl (ixT_nat (x:=s.d) (by rw [List.getElem?_map,h];rfl))) rfl rfl) rfl
theorem fills_ok (G : G3) (k : Nat) (s : St3) (h : G.steps[k]? = some s) : F_fills_of [G.d,.int (k : Int)] = .ok (.tup (natsD s.fills)) := by
 refine ok_of (run_of (n:=2) (p:=2) (ds:=[G.d,.int (k : Int)]) (g:=g_fills_of) (R:=fun d=>d = .tup (natsD s.fills)) rfl ?_)
 show Go (g_fills_of [.fz G.d,.fz (.int (k : Int))]) _ _
 unfold g_fills_of
 exact go_ret (dO_ok (dO_ok (dO_ok rfl rfl rfl) rfl (ixT_nat (x:=s.d) (by rw [List.getElem?_map,h];rfl))) rfl rfl) rfl
theorem one_ok (n p : Nat) : F_has_one [.int (n : Int),.int (p : Int)] = .ok (.bl (n.testBit p)) := by
 refine ok_of (run_of (n:=2) (p:=2) (ds:=[.int (n : Int),.int (p : Int)]) (g:=g_has_one) (R:=fun d=>d = .bl (n.testBit p)) rfl ?_)
 show Go (g_has_one [.fz (.int (n : Int)),.fz (.int (p : Int))]) _ _
 unfold g_has_one
 exact go_ret (dO_ok (dO_ok (dO_ok rfl rfl (shrN n p)) rfl (and1N n p)) rfl (eq1_bit _)) rfl
theorem ne0 (a : Nat) : neF (.int (a : Int)) (.int 0) = some (.bl (!(a == 0))) := by
 rw [neI2]
 congr 3
 rw [Bool.eq_iff_iff,beq_iff_eq,beq_iff_eq];lia
theorem law_can_ok (s : St3) (m : Nat) : F__law_can [s.d,.int (m : Int)] = .ok (.bl (canB s m)) := by
 refine ok_of (run_of (n:=2) (p:=2) (ds:=[s.d,.int (m : Int)]) (g:=g__law_can) (R:=fun d=>d = .bl (canB s m)) rfl ?_)
 show Go (g__law_can [.fz s.d,.fz (.int (m : Int))]) _ _
 unfold g__law_can
 have hc : compL (gset 0) tTrue (dO eqF (dO andD (dO shrD (dV 1) (dV 0)) (dC (.int 1))) (dC (.int 1))) [.un,.fz (.int (m : Int))] (natsD s.takes) = some ((s.takes.map fun p=>m.testBit p).map Dat.bl) := by
   rw [natsD_map,compL_all (fun p : Nat=>Dat.int (p : Int)) (fun p : Nat=>.bl (m.testBit p)) s.takes fun p _=>⟨[.fz (.int (p : Int)),.fz (.int (m : Int))],rfl,rfl,dO_ok (dO_ok (dO_ok rfl rfl (shrN m p)) rfl (and1N m p)) rfl (eq1_bit _)⟩,List.map_map]
   rfl
 refine go_ret (dF_ok (aCons_ok (dL_ok (dComp_ok (xs:=natsD s.takes) (env' := [.un,.fz (.int (m : Int))]) (srcT_ok (dO_ok rfl rfl rfl)) rfl hc)) rfl) (bls_map _)) ?_
 congr 1
 rw [Bool.eq_iff_iff,canB_iff,List.all_eq_true]
 constructor
 · intro h p hp
   exact h _ (List.mem_map_of_mem hp)
 · intro h b hb
   obtain ⟨p,hp,rfl⟩ := List.mem_map.mp hb
   exact h p hp
inductive Dn where
 | broken | crowded | at (m c : Nat)
noncomputable def Dn.d : Dn→Dat
 | .broken=>.str "broken"
 | .crowded=>.str "crowded"
 | .at m c=>.tup [.int (m : Int),.int (c : Int)]
structure DnOk (s : St3) (m c : Nat) (r : Dn) : Prop where
 b : r = .broken↔c.testBit s.w = s.up
 k : c.testBit s.w≠s.up→(r = .crowded↔∃ p∈s.fills,m.testBit p = true∧p∉s.takes)
 a : ∀ m' c',r = .at m' c'→(∀ j,m'.testBit j = ((m.testBit j && !decide (j∈s.takes)) || decide (j∈s.fills)))∧∀ j,c'.testBit j = if j = s.w then s.up else c.testBit j
theorem subN_place {a p : Nat} (hp : p≤1000) (h : a.testBit p = true) : ∃ c : Nat,subD (.int (a : Int)) (.int ((2 ^ p : Nat) : Int)) = some (.int (c : Int))∧∀ j,c.testBit j = (a.testBit j && decide (j≠p)) := by
 obtain ⟨c,e,ht⟩ := sub_place h
 exact ⟨c,by show some (Dat.int _) = _;rw [e],ht⟩
theorem addN_place {a p : Nat} (h : a.testBit p = false) : addD (.int (a : Int)) (.int ((2 ^ p : Nat) : Int)) = some (.int ((a ||| 2 ^ p : Nat) : Int)) := by
 rw [addN,add_place h]
theorem done_ok {wires : Nat} (s : St3) (hs : SB 64 wires s) (hw : wires≤10) (m c : Nat) (ht : ∀ p∈s.takes,m.testBit p = true) : ∃ r : Dn,F__law_done [s.d,.tup [.int (m : Int),.int (c : Int)]] = .ok r.d∧DnOk s m c r := by
 have := run_of (n:=5) (p:=2) (ds:=[s.d,.tup [.int (m : Int),.int (c : Int)]]) (g:=g__law_done) (R:=fun d=>∃ r : Dn,d = r.d∧DnOk s m c r) rfl ?_
 · obtain ⟨d,e,z,rfl,h⟩ := this
   exact ⟨z,e,h⟩
 show Go (g__law_done [.fz s.d,.fz (.tup [.int (m : Int),.int (c : Int)]),.un,.un,.un]) _ _
 unfold g__law_done
 have hw1 := hs.w
 refine go_cons (go_asg (d:=.tup [.int (m : Int),.int (c : Int)]) (env' := [.fz s.d,.fz (.tup [.int (m : Int),.int (c : Int)]),.fz (.int (m : Int)),.fz (.int (c : Int)),.un]) rfl rfl ?_)
 refine go_cons (go_if (b:=c.testBit s.w == s.up) (dB_ok (dO_ok (dO_ok (dO_ok (dO_ok rfl (dO_ok rfl rfl rfl) (shrN c s.w)) rfl (and1N c s.w)) rfl (eq1_bit _)) (dO_ok rfl rfl rfl) (eqB' _ _))) (fun hb=>?_) (fun hb=>go_nil ?_))
 · have hb' : c.testBit s.w = s.up := by simpa using hb
   exact go_ret rfl ⟨.broken,rfl,⟨⟨fun _=>hb',fun _=>rfl⟩,fun h=>absurd hb' h,(fun _ _ h=>nomatch h)⟩⟩
 have hnb : c.testBit s.w≠s.up := by simpa using hb
 refine go_cons (go_for (ds:=natsD s.takes) (fun i e=>∃ (q : Nat) (v : Slt),e = [.fz s.d,.fz (.tup [.int (m : Int),.int (c : Int)]),.fz (.int (q : Int)),.fz (.int (c : Int)),v]∧∀ j,q.testBit j = (m.testBit j && !decide (j∈s.takes.take i))) (srcT_ok (dO_ok rfl rfl rfl)) ⟨m,.un,rfl,by simp⟩ ?_ ?_)
 · rintro i x e hi ⟨q,v,rfl,hq⟩
   obtain ⟨p,hp,rfl⟩ := nats_get hi
   have hpm := List.mem_of_getElem? hp
   have hil : i < s.takes.length := (List.getElem?_eq_some_iff.mp hp).1
   have hpn : p∉s.takes.take i := nodup_take hs.tn hp
   have htk : s.takes.take (i + 1) = s.takes.take i ++ [p] := by rw [List.take_succ,hp];rfl
   have hb1 : q.testBit p = true := by rw [hq,ht p hpm];simp [hpn]
   have hlt := hs.t p hpm
   obtain ⟨r,er,hr⟩ := subN_place (p:=p) (by lia) hb1
   refine ⟨_,rfl,?_⟩
   refine go_set (dO_ok rfl (dO_ok rfl rfl (shl1 p (by lia))) er) ⟨r,_,rfl,fun j=>?_⟩
   rw [hr,hq,htk]
   by_cases e1 : j = p
   · subst e1;simp
   · by_cases e2 : j∈s.takes.take i <;> simp [e1,e2]
 rintro e ⟨q,v,rfl,hq⟩
 rw [List.length_map,List.length_map,List.take_of_length_le (Nat.le_refl _)] at hq
 have hc : compL (gset 0) tTrue (dO eqF (dO andD (dO shrD (dV 1) (dV 0)) (dC (.int 1))) (dC (.int 1))) [.un,.fz (.int (q : Int))] (natsD s.fills) = some ((s.fills.map fun p=>q.testBit p).map Dat.bl) := by
   rw [natsD_map,compL_all (fun p : Nat=>Dat.int (p : Int)) (fun p : Nat=>.bl (q.testBit p)) s.fills fun p _=>⟨[.fz (.int (p : Int)),.fz (.int (q : Int))],rfl,rfl,dO_ok (dO_ok (dO_ok rfl rfl (shrN q p)) rfl (and1N q p)) rfl (eq1_bit _)⟩,List.map_map]
   rfl
 refine go_cons (go_if (dT_ok (dF_ok (aCons_ok (dL_ok (dComp_ok (xs:=natsD s.fills) (env' := [.un,.fz (.int (q : Int))]) (srcT_ok (dO_ok rfl rfl rfl)) rfl hc)) rfl) (bls_any _))) (fun hb=>?_) (fun hb=>go_nil ?_))
 · rw [List.any_map,List.any_eq_true] at hb
   obtain ⟨p,hp,hpq⟩ := hb
   have hpq' : q.testBit p = true := hpq
   rw [hq,Bool.and_eq_true] at hpq'
   refine go_ret rfl ⟨.crowded,rfl,⟨⟨(fun h=>nomatch h),fun h=>absurd h hnb⟩,fun _=>⟨fun _=>⟨p,hp,hpq'.1,by simpa using hpq'.2⟩,fun _=>rfl⟩,(fun _ _ h=>nomatch h)⟩⟩
 have hnc : ∀ p∈s.fills,q.testBit p = false := fun p hp=>by
   cases h : q.testBit p with
   | false=>rfl
   | true =>
     have : (List.map (fun p=>q.testBit p) s.fills).any id = true := by rw [List.any_map,List.any_eq_true];exact ⟨p,hp,h⟩
     rw [this] at hb;cases hb
 refine go_cons (go_for (ds:=natsD s.fills) (fun i e=>∃ (r : Nat) (v : Slt),e = [.fz s.d,.fz (.tup [.int (m : Int),.int (c : Int)]),.fz (.int (r : Int)),.fz (.int (c : Int)),v]∧∀ j,r.testBit j = (q.testBit j || decide (j∈s.fills.take i))) (srcT_ok (dO_ok rfl rfl rfl)) ⟨q,_,rfl,by simp⟩ ?_ ?_)
 · rintro i x e hi ⟨r,v,rfl,hr⟩
   obtain ⟨p,hp,rfl⟩ := nats_get hi
   have hpm := List.mem_of_getElem? hp
   have hil : i < s.fills.length := (List.getElem?_eq_some_iff.mp hp).1
   have hpn : p∉s.fills.take i := nodup_take hs.fn hp
   have htk : s.fills.take (i + 1) = s.fills.take i ++ [p] := by rw [List.take_succ,hp];rfl
   have hb1 : r.testBit p = false := by rw [hr,hnc p hpm];simp [hpn]
   have hlt := hs.f p hpm
   refine ⟨_,rfl,?_⟩
   refine go_set (dO_ok rfl (dO_ok rfl rfl (shl1 p (by lia))) (addN_place hb1)) ⟨_,_,rfl,fun j=>?_⟩
   rw [Nat.testBit_or,hr,htk,Nat.testBit_two_pow]
   by_cases e1 : j = p
   · subst e1;simp
   · have e3 : ¬ p = j := fun h=>e1 h.symm
     by_cases e2 : j∈s.fills.take i <;> simp [e1,e2,e3]
 rintro e ⟨r,v',rfl,hr⟩
 rw [List.length_map,List.length_map,List.take_of_length_le (Nat.le_refl _)] at hr
 have hfin : ∀ j,r.testBit j = ((m.testBit j && !decide (j∈s.takes)) || decide (j∈s.fills)) := fun j=>by rw [hr,hq]
 have hnk : ¬ ∃ p∈s.fills,m.testBit p = true∧p∉s.takes := by
   rintro ⟨p,hp,h1,h2⟩
   have := hnc p hp
   rw [hq,h1] at this
   simp [h2] at this
 refine go_cons (go_if (dT_ok (b:=s.up) (dO_ok rfl rfl rfl)) (fun hu=>?_) (fun hu=>go_nil ?_))
 · have hf : c.testBit s.w = false := by cases h : c.testBit s.w with | false=>rfl | true=>exact absurd (h.trans hu.symm) hnb
   refine go_ret (aTup_ok (aCons_ok rfl (aCons_ok (dO_ok rfl (dO_ok rfl (dO_ok rfl rfl rfl) (shl1 s.w (by lia))) (addN_place hf)) rfl)) (by simp)) ⟨.at r (c ||| 2 ^ s.w),rfl,⟨⟨(fun h=>nomatch h),fun h=>absurd h hnb⟩,fun _=>⟨(fun h=>nomatch h),fun h=>absurd h hnk⟩,fun m' c' h=>?_⟩⟩
   cases h
   refine ⟨hfin,fun j=>?_⟩
   rw [Nat.testBit_or,Nat.testBit_two_pow,hu]
   by_cases e1 : j = s.w
   · subst e1;simp
   · have e3 : ¬ s.w = j := fun h=>e1 h.symm
     simp [e1,e3]
 · have hf : c.testBit s.w = true := by cases h : c.testBit s.w with | true=>rfl | false=>exact absurd (h.trans hu.symm) hnb
   obtain ⟨c2,e2,hc2⟩ := subN_place (p:=s.w) (by lia) hf
   refine go_ret (aTup_ok (aCons_ok rfl (aCons_ok (dO_ok rfl (dO_ok rfl (dO_ok rfl rfl rfl) (shl1 s.w (by lia))) e2) rfl)) (by simp)) ⟨.at r c2,rfl,⟨⟨(fun h=>nomatch h),fun h=>absurd h hnb⟩,fun _=>⟨(fun h=>nomatch h),fun h=>absurd h hnk⟩,fun m' c' h=>?_⟩⟩
   cases h
   refine ⟨hfin,fun j=>?_⟩
   rw [hc2,hu]
   by_cases e1 : j = s.w
   · subst e1;simp
   · simp [e1]
theorem can_ok (G : G3) (hG : Gb 64 G) (m : Nat) (cd : Dat) (k : Nat) (s : St3) (h : G.steps[k]? = some s) : F_can [G.d,.tup [.int (m : Int),cd],.int (k : Int)] = .ok (.bl (canB s m)) := by
 refine ok_of (run_of (n:=4) (p:=3) (ds:=[G.d,.tup [.int (m : Int),cd],.int (k : Int)]) (g:=g_can) (R:=fun d=>d = .bl (canB s m)) rfl ?_)
 show Go (g_can [.fz G.d,.fz (.tup [.int (m : Int),cd]),.fz (.int (k : Int)),.un]) _ _
 unfold g_can
 have hs := hG.st s (List.mem_of_getElem? h)
 refine go_cons (go_set (dCal_ok (xs:=[.tup (natsD s.takes)]) (aCons_ok (dCal_ok (xs:=[G.d,.int (k : Int)]) rfl (takes_ok G k s h)) rfl) (bits_ok s.takes fun p hp=>by have := hs.t p hp;lia)) ?_)
 exact go_ret (dO_ok (dO_ok (dO_ok rfl rfl rfl) rfl (andN m _)) rfl (eqN _ _)) rfl
structure Fine (s : St3) (p : Nat×Nat) : Prop where
 can : canB s p.1 = true
 lev : p.2.testBit s.w≠s.up
 room : ∀ q∈s.fills,p.1.testBit q = true→q∈s.takes
theorem behind_ok (G : G3) (hG : Gb 64 G) (p : Nat×Nat) (k : Nat) (s : St3) (h : G.steps[k]? = some s) (hf : Fine s p) : F_behind [G.d,pairD p,.int (k : Int)] = .ok (pairD (behN s p)) := by
 have hs := hG.st s (List.mem_of_getElem? h)
 have hw2 := hG.w2
 have hw1 := hs.w
 refine ok_of (run_of (n:=6) (p:=3) (ds:=[G.d,pairD p,.int (k : Int)]) (g:=g_behind) (R:=fun d=>d = pairD (behN s p)) rfl ?_)
 show Go (g_behind [.fz G.d,.fz (pairD p),.fz (.int (k : Int)),.un,.un,.un]) _ _
 unfold g_behind
 refine go_cons (go_set (dCal_ok (xs:=[G.d,.int (k : Int)]) rfl (wire_ok G k s h)) ?_)
 refine go_cons (go_ifF (dB_ok (dO_ok (dCal_ok (xs:=[.int (p.2 : Int),.int (s.w : Int)]) (aCons_ok (dO_ok rfl rfl rfl) rfl) (one_ok p.2 s.w)) (dCal_ok (xs:=[G.d,.int (k : Int)]) rfl (rise_ok G k s h)) (by rw [eqB',show (p.2.testBit s.w == s.up) = false by simpa using hf.lev]))) (go_nil ?_))
 obtain ⟨lf,ek,hlf⟩ := andNot_nat p.1 (bitsN s.takes)
 refine go_cons (go_set (d:=.int (lf : Int)) (dO_ok (dO_ok rfl rfl rfl) (dU_ok (dCal_ok (xs:=[.tup (natsD s.takes)]) (aCons_ok (dCal_ok (xs:=[G.d,.int (k : Int)]) rfl (takes_ok G k s h)) rfl) (bits_ok s.takes fun p hp=>by have := hs.t p hp;lia)) (z:=.int (-(bitsN s.takes : Int) - 1)) rfl) (by show some (Dat.int (Builtin.bitAnd _ _)) = _;rw [ek])) ?_)
 refine go_cons (go_set (d:=.int (bitsN s.fills : Int)) (dCal_ok (xs:=[.tup (natsD s.fills)]) (aCons_ok (dCal_ok (xs:=[G.d,.int (k : Int)]) rfl (fills_ok G k s h)) rfl) (bits_ok s.fills fun p hp=>by have := hs.f p hp;lia)) ?_)
 have hz : lf &&& bitsN s.fills = 0 := Nat.eq_of_testBit_eq fun j=>by
   rw [Nat.testBit_and,hlf,bitsN_at,bitsN_at,Nat.zero_testBit]
   by_cases h1 : j∈s.fills
   · by_cases h2 : p.1.testBit j = true
     · rw [decide_eq_true (hf.room j h1 h2)];simp
     · have : p.1.testBit j = false := by simpa using h2
       rw [this];rfl
   · rw [decide_eq_false h1,Bool.and_false]
 refine go_cons (go_ifF (dB_ok (dO_ok (dO_ok rfl rfl (andN lf _)) rfl (by rw [hz];exact ne0 0))) (go_nil ?_))
 have em : lf ||| bitsN s.fills = (behN s p).1 := Nat.eq_of_testBit_eq fun j=>by rw [Nat.testBit_or,hlf,bitsN_at,bitsN_at,beh_m]
 refine go_ret (aTup_ok (xs:=[.int ((behN s p).1 : Int),.int ((behN s p).2 : Int)]) (aCons_ok (dO_ok rfl rfl (by rw [orN,em])) (aCons_ok (dO_ok (dO_ok rfl rfl rfl) (dO_ok rfl rfl (shl1 s.w (by lia))) (xorN p.2 _)) rfl)) (by simp)) rfl
theorem rw_cut (r : Rw) : slX r.d none (some 2) = some (pairD r.st) := rfl
theorem steps_at_ok (G : G3) (hG : Gb 64 G) (p : Nat×Nat) : F_steps_at [G.d,pairD p] = .ok (.lst (natsD (ksAt G p.1))) := by
 refine ok_of (run_of (n:=2) (p:=2) (ds:=[G.d,pairD p]) (g:=g_steps_at) (R:=fun d=>d = .lst (natsD (ksAt G p.1))) rfl ?_)
 show Go (g_steps_at [.fz G.d,.fz (pairD p)]) _ _
 unfold g_steps_at
 have hs2 := hG.s2
 have hc := compL_filt (g:=gset 0) (t:=dT (dCal F_can (aCons (dV 1) (aCons (dV 2) (aCons (dV 0) aNil))))) (f:=dV 0) (env:=[.un,.fz G.d,.fz (pairD p)]) (fun k : Nat=>Dat.int (k : Int)) (fun k : Nat=>Dat.int (k : Int)) (canK G p.1) (List.range G.steps.length) fun k hk=>by
   have hkl := List.mem_range.mp hk
   have e : G.steps[k]? = some G.steps[k] := List.getElem?_eq_getElem hkl
   refine ⟨[.fz (.int (k : Int)),.fz G.d,.fz (pairD p)],rfl,?_,rfl⟩
   have : canK G p.1 k = canB G.steps[k] p.1 := by unfold canK;rw [e]
   rw [this]
   exact dT_ok (dCal_ok (xs:=[G.d,.tup [.int (p.1 : Int),.int (p.2 : Int)],.int (k : Int)]) rfl (can_ok G hG p.1 _ k _ e))
 rw [← rng_map] at hc
 refine go_ret (dL_ok (dComp_ok (xs:=rng 0 G.steps.length) (srcR1_eq (aCons_ok (dF_ok (aCons_ok (x:=.tup (G.steps.map St3.d)) (dO_ok rfl rfl rfl) rfl) (by show some (Dat.int ((G.steps.map St3.d).length : Int)) = _;rw [List.length_map])) rfl) (by lia)) rfl hc)) ?_
 rw [natsD_map]
 rfl
theorem come_ok {I : Nat×Nat→Prop} (G : G3) (hG : Gb 64 G) (rows : List Rw) (n k : Nat) (r : Rw) (s : St3) (hr : rows[n]? = some r) (h : G.steps[k]? = some s) (hf : Fine s r.st) : F_come_to [G.d,.lst (rows.map Rw.d),.int (n : Int),.int (k : Int)] = .ok (pairD (behN s r.st)) := by
 refine ok_of (run_of (n:=4) (p:=4) (ds:=[G.d,.lst (rows.map Rw.d),.int (n : Int),.int (k : Int)]) (g:=g_come_to) (R:=fun d=>d = pairD (behN s r.st)) rfl ?_)
 show Go (g_come_to [.fz G.d,.fz (.lst (rows.map Rw.d)),.fz (.int (n : Int)),.fz (.int (k : Int))]) _ _
 unfold g_come_to
 exact go_tryNo (go_ret (dCal_ok (xs:=[G.d,pairD r.st,.int (k : Int)]) (aCons_ok rfl (aCons_ok (dS_ok (dO_ok rfl rfl (ixL_nat (x:=r.d) (by rw [List.getElem?_map,hr];rfl))) rfl (oSome_ok rfl) (rw_cut r)) rfl)) (behind_ok G hG r.st k s h hf)) rfl)
theorem dn_fine {s : St3} {p : Nat×Nat} {r : Dn} (hf : Fine s p) (h : DnOk s p.1 p.2 r) : r.d = pairD (behN s p) := by
 cases r with
 | broken=>exact absurd (h.b.mp rfl) hf.lev
 | crowded =>
   obtain ⟨q,h1,h2,h3⟩ := (h.k hf.lev).mp rfl
   exact absurd (hf.room q h1 h2) h3
 | «at» m c =>
   obtain ⟨h1,h2⟩ := h.a m c rfl
   have e1 : m = (behN s p).1 := Nat.eq_of_testBit_eq fun j=>by rw [h1,beh_m]
   have e2 : c = (behN s p).2 := Nat.eq_of_testBit_eq fun j=>by
     rw [h2,beh_c]
     by_cases e : j = s.w
     · subst e
       rw [if_pos rfl,decide_eq_true rfl]
       have := hf.lev
       revert this
       cases p.2.testBit s.w <;> cases s.up <;> simp
     · rw [if_neg e,decide_eq_false (Ne.symm e)];simp
   show Dat.tup [.int (m : Int),.int (c : Int)] = Dat.tup [.int ((behN s p).1 : Int),.int ((behN s p).2 : Int)]
   rw [e1,e2]
theorem Gb.up {G : G3} (h : Gb 54 G) : Gb 64 G := ⟨h.w2,h.s1,h.s2,fun s hs=>⟨(h.st s hs).w,fun p hp=>by have := (h.st s hs).t p hp;lia,fun p hp=>by have := (h.st s hs).f p hp;lia,(h.st s hs).tn,(h.st s hs).fn⟩,Nat.lt_of_lt_of_le h.mks (Nat.pow_le_pow_right (by lia) (by lia))⟩
noncomputable def rw0 (G : G3) : Rw := ⟨G.marks,G.code,none⟩
theorem stands_run {G : G3} {I : Nat×Nat→Prop} (hG : Gb 64 G) (hc : Calm G I) {F : List Rw} (hF : Fin G F [rw0 G] 0) (tF : Told G I F) (most : Nat) (hm1 : 1≤most) : (∃ d,F_stands [G.d,.int (most : Int)] = .ok d∧d = .lst (F.map Rw.d)∧F.length≤most)∨∃ c fl,F_stands [G.d,.int (most : Int)] = .exc c fl∧c = "TooMany" ∧ fl = []∧most < F.length := by
 have hF4 := tF.le hc
 refine runE_of (n:=8) (p:=2) (ds:=[G.d,.int (most : Int)]) (g:=g_stands) (R:=fun d=>d = .lst (F.map Rw.d)∧F.length≤most) (E:=fun c fl=>c = "TooMany" ∧ fl = []∧most < F.length) rfl ?_
 show GoE (g_stands [.fz G.d,.fz (.int (most : Int)),.un,.un,.un,.un,.un,.un]) _ _ _ _
 unfold g_stands
 refine goE_one (go_own (ds:=[rw0 G].map Rw.d) (aLst_ok (aCons_ok (aTup_ok (aCons_ok (dO_ok rfl rfl rfl) (aCons_ok (dO_ok rfl rfl rfl) rfl)) (by simp)) rfl) (by simp)) ?_)
 refine goE_one (go_ownD (q:=(G.marks,G.code)) (aTup_ok (aCons_ok (dO_ok rfl rfl rfl) (aCons_ok (dO_ok rfl rfl rfl) rfl)) (by simp)) rfl ?_)
 refine goE_one (go_set (d:=.int ((0 : Nat) : Int)) rfl ?_)
 refine goE_cons (goE_while (fun m e=>∃ (rows : List Rw) (at0 : Nat) (v5 v6 v7 : Slt),e = [.fz G.d,.fz (.int (most : Int)),.ow (rows.map Rw.d),.gx (.dict (dctP (rows.map Rw.st))),.fz (.int (at0 : Int)),v5,v6,v7]∧Told G I rows∧at0≤rows.length∧m + at0 = 400∧Fin G F rows at0∧rows.length≤most) (n:=400) ⟨_,0,.un,.un,.un,rfl,Told.start hc,by lia,rfl,hF,hm1⟩ ?_)
 rintro m e ⟨rows,at0,v5,v6,v7,rfl,t,hal,hm,hfin,hmost⟩
 have hle := t.le hc
 have hlen : dF lenD (aCons (dP 2) aNil) [.fz G.d,.fz (.int (most : Int)),.ow (rows.map Rw.d),.gx (.dict (dctP (rows.map Rw.st))),.fz (.int (at0 : Int)),v5,v6,v7] = some (.int (rows.length : Int)) := dF_ok (aCons_ok rfl rfl) (len_map Rw.d rows)
 rcases Nat.lt_or_ge at0 rows.length with hl | hl
 · right
   obtain ⟨r,hr,hfin'⟩ : ∃ r,rows[at0]? = some r∧Fin G F (adds G at0 r (ksAt G r.m) rows) (at0 + 1) := by
     rcases hfin.inv with ⟨e1,e2⟩ | h
     · rw [e1] at hl;lia
     · exact h
   have hix : ixD (.lst (rows.map Rw.d)) (.int (at0 : Int)) = some r.d := ixL_nat (by rw [List.getElem?_map,hr];rfl)
   refine ⟨dB_ok (dO_ok rfl hlen (by show some (Dat.bl (decide ((at0 : Int) < (rows.length : Int)))) = _;rw [decide_eq_true (by lia)])),?_⟩
   refine goE_one (go_set (dCal_ok (xs:=[G.d,pairD r.st]) (aCons_ok rfl (aCons_ok (dS_ok (dO_ok rfl rfl hix) rfl (oSome_ok rfl) (rw_cut r)) rfl)) (steps_at_ok G hG r.st)) ?_)
   obtain ⟨ks,hks⟩ : ∃ ks : List Nat,ksAt G r.st.1 = ks := ⟨_,rfl⟩
   have hks' : ksAt G r.m = ks := hks
   have hkm : ∀ k∈ks,canK G r.m k = true := fun k hk=>by rw [← hks'] at hk;exact ksAt_can hk
   rw [hks]
   rw [hks'] at hfin'
   refine goE_cons (goE_for (ds:=natsD ks) (fun i e=>∃ (v6 v7 : Slt),e = [.fz G.d,.fz (.int (most : Int)),.ow ((adds G at0 r (ks.take i) rows).map Rw.d),.gx (.dict (dctP ((adds G at0 r (ks.take i) rows).map Rw.st))),.fz (.int (at0 : Int)),.fz (.lst (natsD ks)),v6,v7]∧(adds G at0 r (ks.take i) rows).length≤most) rfl ⟨v6,v7,rfl,hmost⟩ ?_ ?_)
   · rintro i d e hi ⟨v6,v7,rfl,hmo⟩
     obtain ⟨k,hk,rfl⟩ := nats_get hi
     have hil := (List.getElem?_eq_some_iff.mp hk).1
     have hcanK := hkm k (List.mem_of_getElem? hk)
     obtain ⟨s,hs,hcan⟩ := canK_some hcanK
     have hsplit : ks = ks.take (i + 1) ++ ks.drop (i + 1) := (List.take_append_drop _ _).symm
     have htk : ks.take (i + 1) = ks.take i ++ [k] := by rw [List.take_succ,hk];rfl
     have tr := told_adds hc (ks.take i) rows (fun k' h'=>hkm k' (List.mem_of_mem_take h')) t hr
     have hr' := pre_get (adds_pre G at0 r (ks.take i) rows) hr
     have hnext : adds G at0 r (ks.take (i + 1)) rows = add1 (adds G at0 r (ks.take i) rows) (newOf G at0 r k) := by rw [htk,adds_snoc]
     have hpre : adds G at0 r (ks.take (i + 1)) rows <+: F := by
       refine List.IsPrefix.trans ?_ hfin'.pre
       rw [hsplit,List.take_append_of_le_length (by rw [List.length_take];lia),List.take_take,Nat.min_self,adds_app]
       exact adds_pre G at0 r _ _
     rw [hnext] at hpre ⊢
     rw [newOf_some hs] at hpre ⊢
     generalize adds G at0 r (ks.take i) rows = rw1 at *
     have hI := tr.inv r (List.mem_of_getElem? hr')
     have hsm := List.mem_of_getElem? hs
     have hf : Fine s r.st := ⟨hcan,hc.lev _ s hI hsm hcan,hc.room _ s hI hsm hcan⟩
     have hle := tr.le hc
     refine ⟨_,rfl,?_⟩
     refine goE_one (go_set (dCalP_ok' (xs:=[G.d,.lst (rw1.map Rw.d),.int (at0 : Int),.int (k : Int)]) rfl (come_ok (I:=I) G hG rw1 at0 k r s hr' hs hf) rfl) ?_)
     refine goE_cons (goE_if (dB_ok (dDin_ok (ps:=rw1.map Rw.st) (q:=behN s r.st) rfl rfl)) (fun hb=>?_) (fun hb=>?_))
     · have hin : behN s r.st∈rw1.map Rw.st := of_decide_eq_true hb
       have ea : add1 rw1 ⟨(behN s r.st).1,(behN s r.st).2,some (at0,k)⟩ = rw1 := by unfold add1;exact if_pos hin
       rw [ea]
       exact ⟨⟨.fz (.int (k : Int)),.fz (pairD (behN s r.st)),rfl,hmo⟩⟩
     have hnin : behN s r.st∉rw1.map Rw.st := of_decide_eq_false hb
     have ea : add1 rw1 ⟨(behN s r.st).1,(behN s r.st).2,some (at0,k)⟩ = rw1 ++ [⟨(behN s r.st).1,(behN s r.st).2,some (at0,k)⟩] := by unfold add1;exact if_neg hnin
     rw [ea] at hpre ⊢
     have hpl := hpre.length_le
     rw [List.length_append,List.length_singleton] at hpl
     refine (go_nil ?_ : Go _ _ _).toE
     refine goE_cons (goE_if (b:=decide ((most : Int)≤(rw1.length : Int))) (dB_ok (dO_ok (dF_ok (aCons_ok rfl rfl) (len_map Rw.d rw1)) rfl rfl)) (fun hb2=>?_) (fun hb2=>(go_nil ?_ : Go _ _ _).toE))
     · have := of_decide_eq_true hb2
       exact goE_raise (ds:=[]) rfl rfl ⟨rfl,rfl,by lia⟩
     have hlt := of_decide_eq_false hb2
     refine goE_one (go_dput (ps:=rw1.map Rw.st) (q:=behN s r.st) rfl rfl rfl hnin (by rw [List.length_map];lia) ?_)
     refine (go_meth (ds:=rw1.map Rw.d) (as:=[(⟨(behN s r.st).1,(behN s r.st).2,some (at0,k)⟩ : Rw).d]) (ds' := (rw1 ++ [(⟨(behN s r.st).1,(behN s r.st).2,some (at0,k)⟩ : Rw)]).map Rw.d) rfl (aCons_ok (aTup_ok (aCons_ok (dO_ok rfl rfl rfl) (aCons_ok (dO_ok rfl rfl rfl) rfl)) (by simp)) rfl) (by rw [append_ok (by rw [List.length_map];lia),List.map_append];rfl) ?_).toE
     refine ⟨.fz (.int (k : Int)),.fz (pairD (behN s r.st)),?_,by rw [List.length_append,List.length_singleton];lia⟩
     rw [List.map_append (f:=Rw.st)];rfl
   · rintro e ⟨v6,v7,rfl,hmo⟩
     have hlk : (natsD ks).length = ks.length := by unfold natsD;rw [List.length_map,List.length_map]
     rw [hlk,List.take_of_length_le (Nat.le_refl _)] at hmo ⊢
     have tr := told_adds hc ks rows hkm t hr
     have hpl := (adds_pre G at0 r ks rows).length_le
     have hle' := tr.le hc
     exact (go_aug rfl rfl ⟨m - 1,by lia,_,at0 + 1,_,_,_,rfl,tr,by lia,by lia,hfin',hmo⟩ : Go _ _ _).toE
 · left
   refine ⟨dB_ok (dO_ok rfl hlen (by show some (Dat.bl (decide ((at0 : Int) < (rows.length : Int)))) = _;rw [decide_eq_false (by lia)])),?_⟩
   have hrF : rows = F := by
     rcases hfin.inv with ⟨e1,e2⟩ | ⟨r,hr,_⟩
     · exact e1
     · have := (List.getElem?_eq_some_iff.mp hr).1;lia
   subst hrF
   exact (go_retO rfl ⟨rfl,hmost⟩ : Go _ _ _).toE
theorem pd_rw (r : Rw) : pd 20 r.d = true := by
 obtain ⟨m,c,src⟩ := r
 cases src <;> rfl
theorem rw_ne_self (r : Rw) : neF r.d r.d = some (.bl false) := neF_self ⟨pd_rw r,r.self.1⟩
theorem add_pair (p : Nat×Nat) (a b : Nat) : addT (pairD p) (.tup [.int (a : Int),.int (b : Int)]) = some (⟨p.1,p.2,some (a,b)⟩ : Rw).d := addT_ok (xs:=[.int (p.1 : Int),.int (p.2 : Int)]) (ys:=[.int (a : Int),.int (b : Int)]) (by simp)
theorem in_order_ok {G : G3} {I : Nat×Nat→Prop} (hG : Gb 64 G) (hc : Calm G I) {F : List Rw} (hF : Fin G F [rw0 G] 0) (tF : Told G I F) : F__law_in_order [G.d,.lst (F.map Rw.d)] = .ok (.bl true) := by
 have hF4 := tF.le hc
 have hpos := tF.pos
 have hs2 := hG.s2
 refine ok_of (run_of (n:=8) (p:=2) (ds:=[G.d,.lst (F.map Rw.d)]) (g:=g__law_in_order) (R:=fun d=>d = .bl true) rfl ?_)
 show Go (g__law_in_order [.fz G.d,.fz (.lst (F.map Rw.d)),.un,.un,.un,.un,.un,.un]) _ _
 unfold g__law_in_order
 refine go_cons (go_set (d:=pairD (G.marks,G.code)) (aTup_ok (aCons_ok (dO_ok rfl rfl rfl) (aCons_ok (dO_ok rfl rfl rfl) rfl)) (by simp)) ?_)
 have hne : eqF (.lst (F.map Rw.d)) (.lst []) = some (.bl false) := by
   unfold eqF
   rw [(rows_self F).1]
   cases F with
   | nil=>simp at hpos
   | cons a l=>rfl
 refine go_cons (go_ifF (tOr_ok (a:=false) (b:=false) (tNot_ok (b:=true) (dT_ok (dI_ok rfl rfl k_ll))) fun _=>tOr_ok (a:=false) (b:=false) (dB_ok (dO_ok rfl rfl hne)) fun _=>dB_ok (dO_ok (dO_ok rfl rfl (ixL_nat (j:=0) (x:=(rw0 G).d) (by rw [List.getElem?_map,tF.zero];rfl))) (dO_ok rfl (aTup_ok rfl (by simp)) (show addT (pairD (G.marks,G.code)) (.tup [.non,.non]) = some (rw0 G).d from addT_ok (xs:=[.int (G.marks : Int),.int (G.code : Int)]) (ys:=[.non,.non]) (by simp))) (rw_ne_self _))) (go_nil ?_))
 refine go_cons (go_ownD (q:=(G.marks,G.code)) rfl rfl ?_)
 have hlen : ∀ e : Ev,e[1]? = some (.fz (.lst (F.map Rw.d)))→dF lenD (aCons (dV 1) aNil) e = some (.int ((F.length : Nat) : Int)) := fun e he=>dF_ok (aCons_ok (x:=.lst (F.map Rw.d)) (by unfold dV;rw [he]) rfl) (len_map Rw.d F)
 refine go_cons (go_for (ds:=rng 0 F.length) (fun i e=>∃ (rows : List Rw) (v4 v5 v6 v7 : Slt),e = [.fz G.d,.fz (.lst (F.map Rw.d)),.fz (pairD (G.marks,G.code)),.gx (.dict (dctP (rows.map Rw.st))),v4,v5,v6,v7]∧Told G I rows∧Fin G F rows i) (srcR1_eq (aCons_ok (hlen _ rfl) rfl) (by lia)) ⟨[rw0 G],.un,.un,.un,.un,rfl,Told.start hc,hF⟩ ?_ ?_)
 · rintro n d e hn ⟨rows,v4,v5,v6,v7,rfl,t,hfin⟩
   obtain ⟨hn1,rfl⟩ := rng_get hn
   rw [Int.zero_add]
   refine ⟨_,rfl,?_⟩
   obtain ⟨r,hr,hfin'⟩ : ∃ r,rows[n]? = some r∧Fin G F (adds G n r (ksAt G r.m) rows) (n + 1) := by
     rcases hfin.inv with ⟨e1,e2⟩ | h
     · lia
     · exact h
   have hrF := pre_get hfin.pre hr
   have hix : ixD (.lst (F.map Rw.d)) (.int (n : Int)) = some r.d := ixL_nat (by rw [List.getElem?_map,hrF];rfl)
   have hI := tF.inv r (List.mem_of_getElem? hrF)
   refine go_for (ds:=numb 0 (G.steps.map St3.d)) (fun i e=>∃ (v5 v6 v7 : Slt),e = [.fz G.d,.fz (.lst (F.map Rw.d)),.fz (pairD (G.marks,G.code)),.gx (.dict (dctP ((adds G n r ((List.range i).filter (canK G r.m)) rows).map Rw.st))),.fz (.int (n : Int)),v5,v6,v7]) (by unfold srcE;rw [srcT_ok (xs:=G.steps.map St3.d) (dO_ok rfl rfl rfl)];rfl) ⟨v5,v6,v7,rfl⟩ ?_ ?_
   · rintro k d e hk ⟨v5,v6,v7,rfl⟩
     obtain ⟨x,hx,rfl⟩ := numb_get' hk
     rw [List.getElem?_map] at hx
     obtain ⟨s,hs,rfl⟩ := map_some hx
     have hkl := (List.getElem?_eq_some_iff.mp hs).1
     have hsm := List.mem_of_getElem? hs
     have hcK : canK G r.m k = canB s r.m := by unfold canK;rw [hs]
     refine ⟨[.fz G.d,.fz (.lst (F.map Rw.d)),.fz (pairD (G.marks,G.code)),.gx (.dict (dctP ((adds G n r ((List.range k).filter (canK G r.m)) rows).map Rw.st))),.fz (.int (n : Int)),.fz (.int (k : Int)),.fz s.d,v7],rfl,?_⟩
     have hrange : (List.range (k + 1)).filter (canK G r.m) = (List.range k).filter (canK G r.m) ++ (if canB s r.m = true then [k] else []) := by
       rw [List.range_succ,List.filter_append,List.filter_cons,hcK]
       cases canB s r.m <;> rfl
     refine go_if (b:=canB s r.m) (by
       have := tAnd_ok (t:=dB (dO ltD (dV 4) (dF lenD (aCons (dV 1) aNil)))) (u:=dT (dCal F__law_can (aCons (dV 6) (aCons (dO ixD (dO ixD (dV 1) (dV 4)) (dC (.int 0))) aNil)))) (env:=[.fz G.d,.fz (.lst (F.map Rw.d)),.fz (pairD (G.marks,G.code)),.gx (.dict (dctP ((adds G n r ((List.range k).filter (canK G r.m)) rows).map Rw.st))),.fz (.int (n : Int)),.fz (.int (k : Int)),.fz s.d,v7]) (a:=true) (b:=canB s r.m) (dB_ok (dO_ok rfl (hlen _ rfl) (by show some (Dat.bl (decide ((n : Int) < (F.length : Int)))) = _;rw [decide_eq_true (by lia)]))) (fun _=>dT_ok (dCal_ok (xs:=[s.d,.int (r.m : Int)]) (aCons_ok rfl (aCons_ok (dO_ok (dO_ok rfl rfl hix) rfl rfl) rfl)) (law_can_ok s r.m)))
       simpa using this) (fun hcan=>?_) (fun hcan=>go_nil ?_)
     · have hf : Fine s r.st := ⟨hcan,hc.lev _ s hI hsm hcan,hc.room _ s hI hsm hcan⟩
       have hnext : adds G n r ((List.range (k + 1)).filter (canK G r.m)) rows = add1 (adds G n r ((List.range k).filter (canK G r.m)) rows) (newOf G n r k) := by rw [hrange,hcan,if_pos rfl,adds_snoc]
       have hpre : adds G n r ((List.range (k + 1)).filter (canK G r.m)) rows <+: F := by
         refine List.IsPrefix.trans ?_ hfin'.pre
         unfold ksAt
         have : List.range G.steps.length = List.range (k + 1) ++ (List.range (G.steps.length - (k + 1))).map (k + 1 + ·) := by rw [← List.range_add];congr 1;lia
         rw [this,List.filter_append,adds_app]
         exact adds_pre G n r _ _
       rw [hnext] at hpre ⊢
       rw [newOf_some hs] at hpre ⊢
       generalize adds G n r ((List.range k).filter (canK G r.m)) rows = rw1 at *
       obtain ⟨q,eq,hq⟩ := done_ok s (hG.st s hsm) hG.w2 r.m r.c (canB_iff.mp hcan)
       refine go_cons (go_set (d:=pairD (behN s r.st)) (dCal_ok (xs:=[s.d,pairD r.st]) (aCons_ok rfl (aCons_ok (dS_ok (dO_ok rfl rfl hix) rfl (oSome_ok rfl) (rw_cut r)) rfl)) (by rw [← dn_fine (p:=r.st) hf hq];exact eq)) ?_)
       refine go_if (dB_ok (dDnin_ok (ps:=rw1.map Rw.st) (q:=behN s r.st) rfl rfl)) (fun hb=>?_) (fun hb=>go_nil ?_)
       · have hnin : behN s r.st∉rw1.map Rw.st := by simpa using hb
         have ea : add1 rw1 ⟨(behN s r.st).1,(behN s r.st).2,some (n,k)⟩ = rw1 ++ [⟨(behN s r.st).1,(behN s r.st).2,some (n,k)⟩] := by unfold add1;exact if_neg hnin
         rw [ea] at hpre ⊢
         have hpl := hpre.length_le
         rw [List.length_append,List.length_singleton] at hpl
         have hget : F[rw1.length]? = some (⟨(behN s r.st).1,(behN s r.st).2,some (n,k)⟩ : Rw) := pre_get hpre (by simp)
         have hdl : ∀ v7 : Slt,dDlen 3 [.fz G.d,.fz (.lst (F.map Rw.d)),.fz (pairD (G.marks,G.code)),.gx (.dict (dctP (rw1.map Rw.st))),.fz (.int (n : Int)),.fz (.int (k : Int)),.fz s.d,v7] = some (.int ((rw1.length : Nat) : Int)) := fun v7=>by rw [dDlen_ok (ps:=rw1.map Rw.st) rfl,List.length_map]
         refine go_cons (go_ifF (tOr_ok (a:=false) (b:=false) (dB_ok (dO_ok (hdl _) (hlen _ rfl) (by show some (Dat.bl (decide ((F.length : Int)≤(rw1.length : Int)))) = _;rw [decide_eq_false (by lia)]))) fun _=>dB_ok (dO_ok (dO_ok rfl (hdl _) (ixL_nat (x:=(⟨(behN s r.st).1,(behN s r.st).2,some (n,k)⟩ : Rw).d) (by rw [List.getElem?_map,hget];rfl))) (dO_ok rfl (aTup_ok rfl (by simp)) (add_pair (behN s r.st) n k)) (rw_ne_self _))) (go_nil ?_))
         refine go_dput (ps:=rw1.map Rw.st) (q:=behN s r.st) rfl rfl rfl hnin (by rw [List.length_map];lia) ⟨.fz (.int (k : Int)),.fz s.d,.fz (pairD (behN s r.st)),?_⟩
         rw [List.map_append (f:=Rw.st)];rfl
       · have hin : behN s r.st∈rw1.map Rw.st := by simpa using hb
         have ea : add1 rw1 ⟨(behN s r.st).1,(behN s r.st).2,some (n,k)⟩ = rw1 := by unfold add1;exact if_pos hin
         rw [ea]
         exact ⟨_,_,_,rfl⟩
     · rw [hrange,hcan,if_neg (by decide),List.append_nil]
       exact ⟨_,_,_,rfl⟩
   · rintro e ⟨v5,v6,v7,rfl⟩
     rw [numb_len,List.length_map]
     refine ⟨_,_,_,_,_,rfl,told_adds hc _ rows (fun k hk=>ksAt_can hk) t hr,hfin'⟩
 · rintro e ⟨rows,v4,v5,v6,v7,rfl,t,hfin⟩
   rw [rng_len] at hfin
   have hrF : rows = F := by
     rcases hfin.inv with ⟨e1,e2⟩ | ⟨r,hr,_⟩
     · exact e1
     · have := (List.getElem?_eq_some_iff.mp hr).1
       have := hfin.pre.length_le
       lia
   subst hrF
   refine go_ret (dO_ok (dDlen_ok (ps:=rows.map Rw.st) rfl) (hlen _ rfl) (by rw [List.length_map];exact eqF_int _)) rfl
theorem whole_ok {G : G3} {I : Nat×Nat→Prop} {F : List Rw} (hc : Calm G I) (tF : Told G I F) : F__law_whole [.lst (F.map Rw.d)] = .ok (.bl true) := by
 refine ok_of (run_of (n:=4) (p:=1) (ds:=[.lst (F.map Rw.d)]) (g:=g__law_whole) (R:=fun d=>d = .bl true) rfl ?_)
 show Go (g__law_whole [.fz (.lst (F.map Rw.d)),.un,.un,.un]) _ _
 unfold g__law_whole
 refine go_cons (go_for (ds:=numb 0 (F.map Rw.d)) (fun i e=>∃ v1 v2 v3 : Slt,e = [.fz (.lst (F.map Rw.d)),v1,v2,v3]) (srcEL_ok rfl) ⟨.un,.un,.un,rfl⟩ ?_ ?_)
 · rintro n d e hn ⟨v1,v2,v3,rfl⟩
   obtain ⟨x,hx,rfl⟩ := numb_get' hn
   rw [List.getElem?_map] at hx
   obtain ⟨r,hr,rfl⟩ := map_some hx
   refine ⟨[.fz (.lst (F.map Rw.d)),.fz (.int (n : Int)),.fz r.d,v3],rfl,?_⟩
   obtain ⟨is,his⟩ : ∃ is : List Int,dS slX (dV 2) oNone (oSome (dO addD (dC (.int 2)) (dO mulE (dC (.int 2)) (dF intD (aCons (dO gtD (dV 1) (dC (.int 0))) aNil))))) [.fz (.lst (F.map Rw.d)),.fz (.int (n : Int)),.fz r.d,v3] = some (.tup (is.map .int)) := by
     obtain ⟨m,c,src⟩ := r
     rcases Nat.eq_zero_or_pos n with z | z
     · subst z
       exact ⟨[(m : Int),(c : Int)],dS_ok rfl rfl (oSome_ok (i:=2) rfl) rfl⟩
     · obtain ⟨f,k,s,rf,a1,_⟩ := tF.src n _ hr z
       cases a1
       have h0 : gtD (.int (n : Int)) (.int 0) = some (.bl true) := by show some (Dat.bl (decide ((0 : Int) < (n : Int)))) = _;rw [decide_eq_true (by lia)]
       exact ⟨[(m : Int),(c : Int),(f : Int),(k : Int)],dS_ok rfl rfl (oSome_ok (i:=4) (dO_ok rfl (dO_ok rfl (dF_ok (aCons_ok (dO_ok rfl rfl h0) rfl) rfl) rfl) rfl)) rfl⟩
   refine go_for (ds:=is.map .int) (fun i e=>∃ v3 : Slt,e = [.fz (.lst (F.map Rw.d)),.fz (.int (n : Int)),.fz r.d,v3]) (srcT_ok his) ⟨v3,rfl⟩ ?_ ?_
   · rintro i d e hi ⟨v3,rfl⟩
     rw [List.getElem?_map] at hi
     obtain ⟨z,hz,rfl⟩ := map_some hi
     refine ⟨_,rfl,?_⟩
     exact go_ifF (tOr_ok (a:=false) (b:=false) (tNot_ok (b:=true) (dT_ok (dI_ok rfl rfl k_ii))) fun _=>dT_ok (dI_ok rfl rfl k_ib)) (go_nil ⟨_,rfl⟩)
   · rintro e ⟨v3,rfl⟩
     exact ⟨_,_,_,rfl⟩
 · rintro e ⟨v1,v2,v3,rfl⟩
   exact go_ret rfl rfl
theorem dM_eq {T : String} {F : Dat→List Dat→Option Dat} {f : Ev→Option Dat} {fs : Ev→Option (List Dat)} {env : Ev} {x : Dat} {ds : List Dat} (h1 : f env = some x) (ht : tyOk T x = true) (h2 : fs env = some ds) : dM T F f fs env = F x ds := by unfold dM;rw [h1];show (if tyOk T x = true then _ else _) = _;rw [if_pos ht,h2];rfl
theorem sort_m (fl : List (Str×XD)) : F__law_sort [.exc "TooMany" fl] = .ok (.str "many") := by
 refine ok_of (run_of (n:=2) (p:=1) (ds:=[.exc "TooMany" fl]) (g:=g__law_sort) (R:=fun d=>d = .str "many") rfl ?_)
 show Go (g__law_sort [.fz (.exc "TooMany" fl),.un]) _ _
 unfold g__law_sort
 refine go_cons (go_set (d:=.lst ([false,false,true,false].map Dat.bl)) (dL_ok (aLst_ok (aCons_ok (dIX_ok rfl (by decide +kernel)) (aCons_ok (dIX_ok rfl (by decide +kernel)) (aCons_ok (dIX_ok rfl (by decide +kernel)) (aCons_ok (dIX_ok rfl (by decide +kernel)) rfl)))) (by simp))) ?_)
 refine go_cons (go_set (d:=.lst ([false,false,true,false,false,false,false,false].map Dat.bl)) (dO_ok rfl (dL_ok (aLst_ok (aCons_ok (dIX_ok rfl (b:=false) (by decide +kernel)) (aCons_ok (dIX_ok rfl (b:=false) (by decide +kernel)) (aCons_ok (dIX_ok rfl (b:=false) (by decide +kernel)) (aCons_ok (dIX_ok rfl (b:=false) (by decide +kernel)) rfl)))) (by simp))) rfl) ?_)
 refine go_cons (go_ifF (tOr_ok (a:=false) (b:=false) (dB_ok (dO_ok ((dM_eq rfl rfl rfl).trans (show _ = some (Dat.int 1) from rfl)) rfl rfl)) fun _=>tNot_ok (b:=true) (dT_ok (dIX_ok rfl (by decide +kernel)))) (go_nil ?_))
 exact go_ret (dO_ok rfl ((dM_eq rfl rfl rfl).trans (show _ = some (Dat.int 2) from rfl)) rfl) rfl
theorem many_ok {G : G3} {I : Nat×Nat→Prop} (hG : Gb 64 G) (hc : Calm G I) {F : List Rw} (hF : Fin G F [rw0 G] 0) (tF : Told G I F) (most : Nat) (hm1 : 1≤most) (hm2 : most < F.length) : F__law_many [G.d,.int (most : Int)] = .ok (.bl true) := by
 rcases stands_run hG hc hF tF most hm1 with ⟨d,_,_,h⟩ | ⟨c,fl,er,e1,e2,_⟩
 · lia
 subst e1
 subst e2
 refine ok_of (run_of (n:=4) (p:=2) (ds:=[G.d,.int (most : Int)]) (g:=g__law_many) (R:=fun d=>d = .bl true) rfl ?_)
 show Go (g__law_many [.fz G.d,.fz (.int (most : Int)),.un,.un]) _ _
 unfold g__law_many
 refine go_cons (go_set (d:=.non) rfl ?_)
 refine go_cons (go_tryX (exprX_exc (ds:=[G.d,.int (most : Int)]) rfl er) (by decide +kernel) (e3:=[.fz G.d,.fz (.int (most : Int)),.fz (.exc "TooMany" []),.fz (.exc "TooMany" [])]) rfl ?_)
 exact go_ret (dAnd_ok (dO_ok rfl rfl rfl) (dO_ok (dCal_ok (xs:=[.exc "TooMany" []]) rfl (sort_m [])) rfl (eqF_str "many"))) rfl
theorem law_ok (ns : List Int) (hl : ns.length≤63) : F_law [.lst (ns.map .int)] = .ok (.bl true) := by
 refine ok_of (run_of (n:=5) (p:=1) (ds:=[scr ns]) (g:=g_law) (R:=fun d=>d = .bl true) rfl ?_)
 show Go (g_law [.fz (scr ns),.un,.un,.un,.un]) _ _
 unfold g_law
 obtain ⟨c,ec,lc⟩ := mix_ok ns 0 (by lia)
 refine go_cons (go_set (dCal_ok (xs:=[scr ns,.int ((0 : Nat) : Int)]) rfl ec) ?_)
 refine go_cons (Go.mono (N:=fun e=>∃ (G : G3) (I : Nat×Nat→Prop),e = [.fz (scr ns),.fz (.int (c : Int)),.fz G.d,.un,.un]∧Calm G I∧Gb 54 G) ?_ ?_ (fun _ h=>h))
 · refine go_if (dB_ok (dO_ok (dO_ok rfl rfl (modN c 3 (by lia))) rfl (eqN _ 0))) (fun _=>?_) (fun _=>?_)
   · obtain ⟨G,b,L,e,h1,h2⟩ := choice_ok ns 1 (by lia)
     exact go_set (dCal_ok (xs:=[scr ns,.int ((1 : Nat) : Int)]) rfl e) ⟨G,_,rfl,one_calm h1,h2⟩
   · obtain ⟨G,s0,ps,rs,e,h1,h2⟩ := graph_ok ns 1 (1 + c / 3 % 4) (c / 12 % 5) (by lia) (by lia) (by lia) (by lia)
     exact go_set (dCal_ok (xs:=[scr ns,.int ((1 : Nat) : Int),.int ((1 + c / 3 % 4 : Nat) : Int),.int ((c / 12 % 5 : Nat) : Int)]) (aCons_ok rfl (aCons_ok rfl (aCons_ok (dO_ok rfl (dO_ok (dO_ok rfl rfl (fdivN c 3 (by lia) (by lia))) rfl (modN _ 4 (by lia))) (addN 1 _)) (aCons_ok (dO_ok (dO_ok rfl rfl (fdivN c 12 (by lia) (by lia))) rfl (modN _ 5 (by lia))) rfl)))) e) ⟨G,_,rfl,ring_calm h1 (by lia),h2⟩
 rintro e ⟨G,I,rfl,hc,hG⟩
 refine go_cons (Go.mono (N:=fun e=>∃ (G : G3) (I : Nat×Nat→Prop),e = [.fz (scr ns),.fz (.int (c : Int)),.fz G.d,.un,.un]∧Calm G I∧Gb 64 G) ?_ ?_ (fun _ h=>h))
 · refine go_if (dB_ok (dO_ok (dO_ok (dO_ok rfl rfl (fdivN c 4096 (by lia) (by lia))) rfl (modN _ 3 (by lia))) rfl (eqN _ 0))) (fun _=>?_) (fun _=>go_nil ⟨G,I,rfl,hc,Gb.up hG⟩)
   obtain ⟨G',z,e,h1,h2⟩ := lookers_ok G hG (c / 12288)
   exact go_set (dCal_ok (xs:=[G.d,.int ((c / 12288 : Nat) : Int)]) (aCons_ok rfl (aCons_ok (dO_ok rfl rfl (fdivN c 12288 (by lia) (by lia))) rfl)) e) ⟨G',_,rfl,look_calm h1 hc,h2⟩
 clear hc hG I G
 rintro e ⟨G,I,rfl,hc,hG⟩
 obtain ⟨F,hF,tF⟩ := fin_ex hc 400 [rw0 G] 0 (Told.start hc) rfl (by lia)
 have hpos := tF.pos
 have hle := tF.le hc
 have er : ∀ most : Nat,F.length≤most→F_stands [G.d,.int (most : Int)] = .ok (.lst (F.map Rw.d)) := fun most hm=>by
   rcases stands_run hG hc hF tF most (by lia) with ⟨d,e,rfl,_⟩ | ⟨c,fl,_,_,_,h⟩
   · exact e
   · lia
 refine go_cons (go_own (dCalN_ok (xs:=[G.d,.int ((400 : Nat) : Int)]) rfl (er 400 hle)) ?_)
 refine go_cons (go_ifF (tOr_ok (a:=false) (b:=false) (tNot_ok (b:=true) (dT_ok (dCalP_ok' (xs:=[G.d,.lst (F.map Rw.d)]) rfl (in_order_ok hG hc hF tF) rfl))) fun _=>tNot_ok (b:=true) (dT_ok (dCalP_ok' (xs:=[.lst (F.map Rw.d)]) rfl (whole_ok hc tF) rfl))) (go_nil ?_))
 refine go_cons (go_set (d:=.lst (F.map Rw.d)) (dL_ok (dF_ok (aCons_ok rfl rfl) rfl)) ?_)
 refine go_cons (go_meth (ds:=F.map Rw.d) (as:=[.int 1]) rfl rfl (append_ok (by rw [List.length_map];lia)) ?_)
 refine go_cons (go_ifF (tAnd_ok (a:=decide ((1 : Int) < (F.length : Int))) (b:=false) (dB_ok (dO_ok (dF_ok (aCons_ok rfl rfl) (len_map Rw.d F)) rfl rfl)) (fun hb=>?_) |>.trans (by rw [Bool.and_false])) (go_nil ?_))
 · have hb' := of_decide_eq_true hb
   have hmod : c / 60 % (F.length - 1) < F.length - 1 := Nat.mod_lt _ (by lia)
   exact tNot_ok (b:=true) (dT_ok (dCal_ok (xs:=[G.d,.int ((1 + c / 60 % (F.length - 1) : Nat) : Int)]) (aCons_ok rfl (aCons_ok (dO_ok rfl (dO_ok (dO_ok rfl rfl (fdivN c 60 (by lia) (by lia))) (dO_ok (dF_ok (aCons_ok rfl rfl) (len_map Rw.d F)) rfl (subN F.length 1 (by lia))) (modN _ _ (by lia))) (addN 1 _)) rfl)) (many_ok hG hc hF tF _ (by lia) (by lia))))
 refine go_ret (dO_ok (dCal_ok (xs:=[G.d,.int ((F.length : Nat) : Int)]) (aCons_ok rfl (aCons_ok (dF_ok (aCons_ok rfl rfl) (len_map Rw.d F)) rfl)) (er F.length (Nat.le_refl _))) rfl (eqF_self (rows_self F))) rfl
end K22
set_option maxHeartbeats 4000000
namespace K22
open PySem PySem.Spec PyProof.Rows L2
theorem all_mk {l : PySem.W.OpenLaw} {w : World} {K : PySem.W.Frag} {h : Heap} {mg : Str→Option Value} {fa : Addr} (X : K.In h) (G : h.Ns mainGlobals mg) (hfa : mg "law" = some (.ref fa))
   {f0 : Addr} {od0 an0 : Option Addr} {sl0 : Array (Option Value)} {oc0 kV0 dc0 pm0 cd0 ct0 : Value}
   {f1 : Addr} {od1 an1 : Option Addr} {sl1 : Array (Option Value)} {oc1 kV1 dc1 pm1 cd1 ct1 : Value}
   {f2 : Addr} {od2 an2 : Option Addr} {sl2 : Array (Option Value)} {oc2 kV2 dc2 pm2 cd2 ct2 : Value}
   {f3 : Addr} {od3 an3 : Option Addr} {sl3 : Array (Option Value)} {oc3 kV3 dc3 pm3 cd3 ct3 : Value}
   {f4 : Addr} {od4 an4 : Option Addr} {sl4 : Array (Option Value)} {oc4 kV4 dc4 pm4 cd4 ct4 : Value}
   {f5 : Addr} {od5 an5 : Option Addr} {sl5 : Array (Option Value)} {oc5 kV5 dc5 pm5 cd5 ct5 : Value}
   {f6 : Addr} {od6 an6 : Option Addr} {sl6 : Array (Option Value)} {oc6 kV6 dc6 pm6 cd6 ct6 : Value}
   {f7 : Addr} {od7 an7 : Option Addr} {sl7 : Array (Option Value)} {oc7 kV7 dc7 pm7 cd7 ct7 : Value}
   {f8 : Addr} {od8 an8 : Option Addr} {sl8 : Array (Option Value)} {oc8 kV8 dc8 pm8 cd8 ct8 : Value}
   {f9 : Addr} {od9 an9 : Option Addr} {sl9 : Array (Option Value)} {oc9 kV9 dc9 pm9 cd9 ct9 : Value}
   {f10 : Addr} {od10 an10 : Option Addr} {sl10 : Array (Option Value)} {oc10 kV10 dc10 pm10 cd10 ct10 : Value}
   {f11 : Addr} {od11 an11 : Option Addr} {sl11 : Array (Option Value)} {oc11 kV11 dc11 pm11 cd11 ct11 : Value}
   {f12 : Addr} {od12 an12 : Option Addr} {sl12 : Array (Option Value)} {oc12 kV12 dc12 pm12 cd12 ct12 : Value}
   {f13 : Addr} {od13 an13 : Option Addr} {sl13 : Array (Option Value)} {oc13 kV13 dc13 pm13 cd13 ct13 : Value}
   {f14 : Addr} {od14 an14 : Option Addr} {sl14 : Array (Option Value)} {oc14 kV14 dc14 pm14 cd14 ct14 : Value}
   {f15 : Addr} {od15 an15 : Option Addr} {sl15 : Array (Option Value)} {oc15 kV15 dc15 pm15 cd15 ct15 : Value}
   {f16 : Addr} {od16 an16 : Option Addr} {sl16 : Array (Option Value)} {oc16 kV16 dc16 pm16 cd16 ct16 : Value}
   {f17 : Addr} {od17 an17 : Option Addr} {sl17 : Array (Option Value)} {oc17 kV17 dc17 pm17 cd17 ct17 : Value}
   {f18 : Addr} {od18 an18 : Option Addr} {sl18 : Array (Option Value)} {oc18 kV18 dc18 pm18 cd18 ct18 : Value}
   {f19 : Addr} {od19 an19 : Option Addr} {sl19 : Array (Option Value)} {oc19 kV19 dc19 pm19 cd19 ct19 : Value}
   {f20 : Addr} {od20 an20 : Option Addr} {sl20 : Array (Option Value)} {oc20 kV20 dc20 pm20 cd20 ct20 : Value}
   {f21 : Addr} {od21 an21 : Option Addr} {sl21 : Array (Option Value)} {oc21 kV21 dc21 pm21 cd21 ct21 : Value}
   {f22 : Addr} {od22 an22 : Option Addr} {sl22 : Array (Option Value)} {oc22 kV22 dc22 pm22 cd22 ct22 : Value}
   {f23 : Addr} {od23 an23 : Option Addr} {sl23 : Array (Option Value)} {oc23 kV23 dc23 pm23 cd23 ct23 : Value}
   {f24 : Addr} {od24 an24 : Option Addr} {sl24 : Array (Option Value)} {oc24 kV24 dc24 pm24 cd24 ct24 : Value}
   {f25 : Addr} {od25 an25 : Option Addr} {sl25 : Array (Option Value)} {oc25 kV25 dc25 pm25 cd25 ct25 : Value}
   {C_Broken : Addr}
   {C_CalledOff : Addr}
   {C_Clash : Addr}
   {C_Crowded : Addr}
   {C_NoMove : Addr}
   {C_NoPlace : Addr}
   {C_NoText : Addr}
   {C_TooMany : Addr}
   {C_CalmError : Addr}
   {J_TooMany : Addr} {qd_TooMany qa_TooMany qo_TooMany : Option Addr} {qs_TooMany qt_TooMany : Array (Option Value)} {qk_TooMany qc_TooMany kV_TooMany dc_TooMany pm_TooMany cv_TooMany ct_TooMany : Value} {cd_TooMany : ClassData}
   (a0 : PySem.W.nsIn K mainGlobals "wire_of" = some (some (.ref f0))) (l0 : K.lookup f0 = some ⟨oc0,od0,.func (PySem.W.fnOf "wire_of" "wire_of" (defArgs s_wire_of) (defBody s_wire_of) (defScope s_wire_of) .none kV0 dc0 pm0 an0 cd0 ct0),sl0⟩) (c0 : PySem.W.codeIn K cd0 "wire_of" = true) (k0 : PySem.W.keepIn K (.ref f0) = true)
   (a1 : PySem.W.nsIn K mainGlobals "is_rise" = some (some (.ref f1))) (l1 : K.lookup f1 = some ⟨oc1,od1,.func (PySem.W.fnOf "is_rise" "is_rise" (defArgs s_is_rise) (defBody s_is_rise) (defScope s_is_rise) .none kV1 dc1 pm1 an1 cd1 ct1),sl1⟩) (c1 : PySem.W.codeIn K cd1 "is_rise" = true) (k1 : PySem.W.keepIn K (.ref f1) = true)
   (a2 : PySem.W.nsIn K mainGlobals "takes_of" = some (some (.ref f2))) (l2 : K.lookup f2 = some ⟨oc2,od2,.func (PySem.W.fnOf "takes_of" "takes_of" (defArgs s_takes_of) (defBody s_takes_of) (defScope s_takes_of) .none kV2 dc2 pm2 an2 cd2 ct2),sl2⟩) (c2 : PySem.W.codeIn K cd2 "takes_of" = true) (k2 : PySem.W.keepIn K (.ref f2) = true)
   (a3 : PySem.W.nsIn K mainGlobals "fills_of" = some (some (.ref f3))) (l3 : K.lookup f3 = some ⟨oc3,od3,.func (PySem.W.fnOf "fills_of" "fills_of" (defArgs s_fills_of) (defBody s_fills_of) (defScope s_fills_of) .none kV3 dc3 pm3 an3 cd3 ct3),sl3⟩) (c3 : PySem.W.codeIn K cd3 "fills_of" = true) (k3 : PySem.W.keepIn K (.ref f3) = true)
   (a4 : PySem.W.nsIn K mainGlobals "bits" = some (some (.ref f4))) (l4 : K.lookup f4 = some ⟨oc4,od4,.func (PySem.W.fnOf "bits" "bits" (defArgs s_bits) (defBody s_bits) (defScope s_bits) .none kV4 dc4 pm4 an4 cd4 ct4),sl4⟩) (c4 : PySem.W.codeIn K cd4 "bits" = true) (k4 : PySem.W.keepIn K (.ref f4) = true)
   (a5 : PySem.W.nsIn K mainGlobals "has_one" = some (some (.ref f5))) (l5 : K.lookup f5 = some ⟨oc5,od5,.func (PySem.W.fnOf "has_one" "has_one" (defArgs s_has_one) (defBody s_has_one) (defScope s_has_one) .none kV5 dc5 pm5 an5 cd5 ct5),sl5⟩) (c5 : PySem.W.codeIn K cd5 "has_one" = true) (k5 : PySem.W.keepIn K (.ref f5) = true)
   (a6 : PySem.W.nsIn K mainGlobals "can" = some (some (.ref f6))) (l6 : K.lookup f6 = some ⟨oc6,od6,.func (PySem.W.fnOf "can" "can" (defArgs s_can) (defBody s_can) (defScope s_can) .none kV6 dc6 pm6 an6 cd6 ct6),sl6⟩) (c6 : PySem.W.codeIn K cd6 "can" = true) (k6 : PySem.W.keepIn K (.ref f6) = true)
   (a7 : PySem.W.nsIn K mainGlobals "behind" = some (some (.ref f7))) (l7 : K.lookup f7 = some ⟨oc7,od7,.func (PySem.W.fnOf "behind" "behind" (defArgs s_behind) (defBody s_behind) (defScope s_behind) .none kV7 dc7 pm7 an7 cd7 ct7),sl7⟩) (c7 : PySem.W.codeIn K cd7 "behind" = true) (k7 : PySem.W.keepIn K (.ref f7) = true)
   (a8 : PySem.W.nsIn K mainGlobals "steps_at" = some (some (.ref f8))) (l8 : K.lookup f8 = some ⟨oc8,od8,.func (PySem.W.fnOf "steps_at" "steps_at" (defArgs s_steps_at) (defBody s_steps_at) (defScope s_steps_at) .none kV8 dc8 pm8 an8 cd8 ct8),sl8⟩) (c8 : PySem.W.codeIn K cd8 "steps_at" = true) (k8 : PySem.W.keepIn K (.ref f8) = true)
   (a9 : PySem.W.nsIn K mainGlobals "way" = some (some (.ref f9))) (l9 : K.lookup f9 = some ⟨oc9,od9,.func (PySem.W.fnOf "way" "way" (defArgs s_way) (defBody s_way) (defScope s_way) .none kV9 dc9 pm9 an9 cd9 ct9),sl9⟩) (c9 : PySem.W.codeIn K cd9 "way" = true) (k9 : PySem.W.keepIn K (.ref f9) = true)
   (a10 : PySem.W.nsIn K mainGlobals "come_to" = some (some (.ref f10))) (l10 : K.lookup f10 = some ⟨oc10,od10,.func (PySem.W.fnOf "come_to" "come_to" (defArgs s_come_to) (defBody s_come_to) (defScope s_come_to) .none kV10 dc10 pm10 an10 cd10 ct10),sl10⟩) (c10 : PySem.W.codeIn K cd10 "come_to" = true) (k10 : PySem.W.keepIn K (.ref f10) = true)
   (a11 : PySem.W.nsIn K mainGlobals "stands" = some (some (.ref f11))) (l11 : K.lookup f11 = some ⟨oc11,od11,.func (PySem.W.fnOf "stands" "stands" (defArgs s_stands) (defBody s_stands) (defScope s_stands) .none kV11 dc11 pm11 an11 cd11 ct11),sl11⟩) (c11 : PySem.W.codeIn K cd11 "stands" = true) (k11 : PySem.W.keepIn K (.ref f11) = true)
   (a12 : PySem.W.nsIn K mainGlobals "_law_mix" = some (some (.ref f12))) (l12 : K.lookup f12 = some ⟨oc12,od12,.func (PySem.W.fnOf "_law_mix" "_law_mix" (defArgs s__law_mix) (defBody s__law_mix) (defScope s__law_mix) .none kV12 dc12 pm12 an12 cd12 ct12),sl12⟩) (c12 : PySem.W.codeIn K cd12 "_law_mix" = true) (k12 : PySem.W.keepIn K (.ref f12) = true)
   (a13 : PySem.W.nsIn K mainGlobals "_law_word" = some (some (.ref f13))) (l13 : K.lookup f13 = some ⟨oc13,od13,.func (PySem.W.fnOf "_law_word" "_law_word" (defArgs s__law_word) (defBody s__law_word) (defScope s__law_word) .none kV13 dc13 pm13 an13 cd13 ct13),sl13⟩) (c13 : PySem.W.codeIn K cd13 "_law_word" = true) (k13 : PySem.W.keepIn K (.ref f13) = true)
   (a14 : PySem.W.nsIn K mainGlobals "_law_order" = some (some (.ref f14))) (l14 : K.lookup f14 = some ⟨oc14,od14,.func (PySem.W.fnOf "_law_order" "_law_order" (defArgs s__law_order) (defBody s__law_order) (defScope s__law_order) .none kV14 dc14 pm14 an14 cd14 ct14),sl14⟩) (c14 : PySem.W.codeIn K cd14 "_law_order" = true) (k14 : PySem.W.keepIn K (.ref f14) = true)
   (a15 : PySem.W.nsIn K mainGlobals "_law_arrows" = some (some (.ref f15))) (l15 : K.lookup f15 = some ⟨oc15,od15,.func (PySem.W.fnOf "_law_arrows" "_law_arrows" (defArgs s__law_arrows) (defBody s__law_arrows) (defScope s__law_arrows) .none kV15 dc15 pm15 an15 cd15 ct15),sl15⟩) (c15 : PySem.W.codeIn K cd15 "_law_arrows" = true) (k15 : PySem.W.keepIn K (.ref f15) = true)
   (a16 : PySem.W.nsIn K mainGlobals "_law_graph" = some (some (.ref f16))) (l16 : K.lookup f16 = some ⟨oc16,od16,.func (PySem.W.fnOf "_law_graph" "_law_graph" (defArgs s__law_graph) (defBody s__law_graph) (defScope s__law_graph) .none kV16 dc16 pm16 an16 cd16 ct16),sl16⟩) (c16 : PySem.W.codeIn K cd16 "_law_graph" = true) (k16 : PySem.W.keepIn K (.ref f16) = true)
   (a17 : PySem.W.nsIn K mainGlobals "_law_choice" = some (some (.ref f17))) (l17 : K.lookup f17 = some ⟨oc17,od17,.func (PySem.W.fnOf "_law_choice" "_law_choice" (defArgs s__law_choice) (defBody s__law_choice) (defScope s__law_choice) .none kV17 dc17 pm17 an17 cd17 ct17),sl17⟩) (c17 : PySem.W.codeIn K cd17 "_law_choice" = true) (k17 : PySem.W.keepIn K (.ref f17) = true)
   (a18 : PySem.W.nsIn K mainGlobals "_law_lookers" = some (some (.ref f18))) (l18 : K.lookup f18 = some ⟨oc18,od18,.func (PySem.W.fnOf "_law_lookers" "_law_lookers" (defArgs s__law_lookers) (defBody s__law_lookers) (defScope s__law_lookers) .none kV18 dc18 pm18 an18 cd18 ct18),sl18⟩) (c18 : PySem.W.codeIn K cd18 "_law_lookers" = true) (k18 : PySem.W.keepIn K (.ref f18) = true)
   (a19 : PySem.W.nsIn K mainGlobals "_law_sort" = some (some (.ref f19))) (l19 : K.lookup f19 = some ⟨oc19,od19,.func (PySem.W.fnOf "_law_sort" "_law_sort" (defArgs s__law_sort) (defBody s__law_sort) (defScope s__law_sort) .none kV19 dc19 pm19 an19 cd19 ct19),sl19⟩) (c19 : PySem.W.codeIn K cd19 "_law_sort" = true) (k19 : PySem.W.keepIn K (.ref f19) = true)
   (a20 : PySem.W.nsIn K mainGlobals "_law_can" = some (some (.ref f20))) (l20 : K.lookup f20 = some ⟨oc20,od20,.func (PySem.W.fnOf "_law_can" "_law_can" (defArgs s__law_can) (defBody s__law_can) (defScope s__law_can) .none kV20 dc20 pm20 an20 cd20 ct20),sl20⟩) (c20 : PySem.W.codeIn K cd20 "_law_can" = true) (k20 : PySem.W.keepIn K (.ref f20) = true)
   (a21 : PySem.W.nsIn K mainGlobals "_law_done" = some (some (.ref f21))) (l21 : K.lookup f21 = some ⟨oc21,od21,.func (PySem.W.fnOf "_law_done" "_law_done" (defArgs s__law_done) (defBody s__law_done) (defScope s__law_done) .none kV21 dc21 pm21 an21 cd21 ct21),sl21⟩) (c21 : PySem.W.codeIn K cd21 "_law_done" = true) (k21 : PySem.W.keepIn K (.ref f21) = true)
   (a22 : PySem.W.nsIn K mainGlobals "_law_in_order" = some (some (.ref f22))) (l22 : K.lookup f22 = some ⟨oc22,od22,.func (PySem.W.fnOf "_law_in_order" "_law_in_order" (defArgs s__law_in_order) (defBody s__law_in_order) (defScope s__law_in_order) .none kV22 dc22 pm22 an22 cd22 ct22),sl22⟩) (c22 : PySem.W.codeIn K cd22 "_law_in_order" = true) (k22 : PySem.W.keepIn K (.ref f22) = true)
   (a23 : PySem.W.nsIn K mainGlobals "_law_whole" = some (some (.ref f23))) (l23 : K.lookup f23 = some ⟨oc23,od23,.func (PySem.W.fnOf "_law_whole" "_law_whole" (defArgs s__law_whole) (defBody s__law_whole) (defScope s__law_whole) .none kV23 dc23 pm23 an23 cd23 ct23),sl23⟩) (c23 : PySem.W.codeIn K cd23 "_law_whole" = true) (k23 : PySem.W.keepIn K (.ref f23) = true)
   (a24 : PySem.W.nsIn K mainGlobals "_law_many" = some (some (.ref f24))) (l24 : K.lookup f24 = some ⟨oc24,od24,.func (PySem.W.fnOf "_law_many" "_law_many" (defArgs s__law_many) (defBody s__law_many) (defScope s__law_many) .none kV24 dc24 pm24 an24 cd24 ct24),sl24⟩) (c24 : PySem.W.codeIn K cd24 "_law_many" = true) (k24 : PySem.W.keepIn K (.ref f24) = true)
   (a25 : PySem.W.nsIn K mainGlobals "law" = some (some (.ref f25))) (l25 : K.lookup f25 = some ⟨oc25,od25,.func (PySem.W.fnOf "law" "law" (defArgs s_law) (defBody s_law) (defScope s_law) .none kV25 dc25 pm25 an25 cd25 ct25),sl25⟩) (c25 : PySem.W.codeIn K cd25 "law" = true) (k25 : PySem.W.keepIn K (.ref f25) = true)
   (z_ValueError : PySem.W.nsIn K mainGlobals "ValueError" = some none)
   (z_all : PySem.W.nsIn K mainGlobals "all" = some none)
   (z_any : PySem.W.nsIn K mainGlobals "any" = some none)
   (z_bool : PySem.W.nsIn K mainGlobals "bool" = some none)
   (z_enumerate : PySem.W.nsIn K mainGlobals "enumerate" = some none)
   (z_int : PySem.W.nsIn K mainGlobals "int" = some none)
   (z_isinstance : PySem.W.nsIn K mainGlobals "isinstance" = some none)
   (z_len : PySem.W.nsIn K mainGlobals "len" = some none)
   (z_list : PySem.W.nsIn K mainGlobals "list" = some none)
   (z_max : PySem.W.nsIn K mainGlobals "max" = some none)
   (z_min : PySem.W.nsIn K mainGlobals "min" = some none)
   (z_range : PySem.W.nsIn K mainGlobals "range" = some none)
   (z_reversed : PySem.W.nsIn K mainGlobals "reversed" = some none)
   (z_sorted : PySem.W.nsIn K mainGlobals "sorted" = some none)
   (z_tuple : PySem.W.nsIn K mainGlobals "tuple" = some none)
   (y_Broken : PySem.W.nsIn K mainGlobals "Broken" = some (some (.ref C_Broken)))
   (y_CalledOff : PySem.W.nsIn K mainGlobals "CalledOff" = some (some (.ref C_CalledOff)))
   (y_Clash : PySem.W.nsIn K mainGlobals "Clash" = some (some (.ref C_Clash)))
   (y_Crowded : PySem.W.nsIn K mainGlobals "Crowded" = some (some (.ref C_Crowded)))
   (y_NoMove : PySem.W.nsIn K mainGlobals "NoMove" = some (some (.ref C_NoMove)))
   (y_NoPlace : PySem.W.nsIn K mainGlobals "NoPlace" = some (some (.ref C_NoPlace)))
   (y_NoText : PySem.W.nsIn K mainGlobals "NoText" = some (some (.ref C_NoText)))
   (y_TooMany : PySem.W.nsIn K mainGlobals "TooMany" = some (some (.ref C_TooMany)))
   (y_CalmError : PySem.W.nsIn K mainGlobals "CalmError" = some (some (.ref C_CalmError)))
   (b0 : PySem.W.specialIn K (.ref C_CalmError) "__getattribute__" = some (some (.builtin "type.__getattribute__"))) (b1 : PySem.W.readsIn K C_CalmError (.type "type") = true) (b2 : PySem.W.findCls K (.ref C_CalmError) (.type "type") "__init__" = some (.val (.builtin "ValueError.__init__")))
   (o_TooMany : K.lookup C_TooMany = some ⟨qk_TooMany,qd_TooMany,.cls cd_TooMany,qs_TooMany⟩) (n_TooMany : PySem.W.nsIn K cd_TooMany.ns "__init__" = some (some (.ref J_TooMany))) (jl_TooMany : K.lookup J_TooMany = some ⟨qc_TooMany,qo_TooMany,.func (PySem.W.fnOf "__init__" "TooMany.__init__" (defArgs i_TooMany) (defBody i_TooMany) (defScope i_TooMany) .none kV_TooMany dc_TooMany pm_TooMany qa_TooMany cv_TooMany ct_TooMany),qt_TooMany⟩) (w_TooMany : PySem.W.codeIn K cv_TooMany "TooMany.__init__" = true) (p_TooMany : PySem.W.keepIn K (.ref J_TooMany) = true) (g_TooMany : PySem.W.isFn K (.ref J_TooMany) = true) (h_TooMany : PySem.W.keepIn K (.ref C_TooMany) = true)
   (x_TooMany : xcIn K C_TooMany J_TooMany C_CalmError = true)
   (ra_TooMany : PySem.W.findIn K (.ref C_TooMany) "__class__" = some (some (.builtin "object.__class__"))) (rb_TooMany : PySem.W.findIn K (.ref C_TooMany) "__getattribute__" = some (some (.builtin "BaseException.__getattribute__"))) (rc_TooMany : PySem.W.findIn K (.ref C_TooMany) "__getattr__" = some none) (rd_TooMany : PySem.W.findIn K (.ref C_TooMany) "__setattr__" = some (some (.builtin "object.__setattr__"))) 
   (s_TooMany : PySem.W.exmOne K (.ref C_TooMany) (.ref C_CalmError) = some true)
   (tv_TooMany : PySem.W.kitOne K (.ref C_TooMany) (.type "ValueError") = some true)
   (t_TooMany_Broken : PySem.W.kitOne K (.ref C_TooMany) (.ref C_Broken) = some false)
   (t_TooMany_CalledOff : PySem.W.kitOne K (.ref C_TooMany) (.ref C_CalledOff) = some false)
   (t_TooMany_Clash : PySem.W.kitOne K (.ref C_TooMany) (.ref C_Clash) = some false)
   (t_TooMany_Crowded : PySem.W.kitOne K (.ref C_TooMany) (.ref C_Crowded) = some false)
   (t_TooMany_NoMove : PySem.W.kitOne K (.ref C_TooMany) (.ref C_NoMove) = some false)
   (t_TooMany_NoPlace : PySem.W.kitOne K (.ref C_TooMany) (.ref C_NoPlace) = some false)
   (t_TooMany_NoText : PySem.W.kitOne K (.ref C_TooMany) (.ref C_NoText) = some false)
   (t_TooMany_TooMany : PySem.W.kitOne K (.ref C_TooMany) (.ref C_TooMany) = some true) :
   ∃ fd : FuncData,(∀ (s : Shared) (v : Value),BindsTo s fd ⟨[v],[]⟩ [("_law_script",v)])∧∀ base : Heap,K.In base→base.Ns mainGlobals mg→FnOk l.prog w K mg base CX0 7 fa fd ["_law_script"] (spLaw K) := by
 have e := hfa.symm.trans (PySem.W.mg_of X G a25)
 cases e
 have xc_TooMany : XCls K C_TooMany := xcls_mk x_TooMany ra_TooMany rb_TooMany rc_TooMany rd_TooMany
 have B : BaseC K mg C_CalmError := ⟨PySem.W.mg_of X G y_CalmError,b0,b1,b2⟩
 have T : Txt K mg := { b_ValueError := PySem.W.mg_none_of X G z_ValueError,b_all := PySem.W.mg_none_of X G z_all,b_any := PySem.W.mg_none_of X G z_any,b_bool := PySem.W.mg_none_of X G z_bool,b_enumerate := PySem.W.mg_none_of X G z_enumerate,b_int := PySem.W.mg_none_of X G z_int,b_isinstance := PySem.W.mg_none_of X G z_isinstance,b_len := PySem.W.mg_none_of X G z_len,b_list := PySem.W.mg_none_of X G z_list,b_max := PySem.W.mg_none_of X G z_max,b_min := PySem.W.mg_none_of X G z_min,b_range := PySem.W.mg_none_of X G z_range,b_reversed := PySem.W.mg_none_of X G z_reversed,b_sorted := PySem.W.mg_none_of X G z_sorted,b_tuple := PySem.W.mg_none_of X G z_tuple,i_Broken := isC_of (PySem.W.mg_of X G y_Broken) (List.forall_mem_cons.mpr ⟨⟨C_TooMany,y_TooMany,t_TooMany_Broken.trans (by decide +kernel),xc_TooMany⟩,(fun _ h=>nomatch h)⟩),i_CalledOff := isC_of (PySem.W.mg_of X G y_CalledOff) (List.forall_mem_cons.mpr ⟨⟨C_TooMany,y_TooMany,t_TooMany_CalledOff.trans (by decide +kernel),xc_TooMany⟩,(fun _ h=>nomatch h)⟩),i_Clash := isC_of (PySem.W.mg_of X G y_Clash) (List.forall_mem_cons.mpr ⟨⟨C_TooMany,y_TooMany,t_TooMany_Clash.trans (by decide +kernel),xc_TooMany⟩,(fun _ h=>nomatch h)⟩),i_Crowded := isC_of (PySem.W.mg_of X G y_Crowded) (List.forall_mem_cons.mpr ⟨⟨C_TooMany,y_TooMany,t_TooMany_Crowded.trans (by decide +kernel),xc_TooMany⟩,(fun _ h=>nomatch h)⟩),i_NoMove := isC_of (PySem.W.mg_of X G y_NoMove) (List.forall_mem_cons.mpr ⟨⟨C_TooMany,y_TooMany,t_TooMany_NoMove.trans (by decide +kernel),xc_TooMany⟩,(fun _ h=>nomatch h)⟩),i_NoPlace := isC_of (PySem.W.mg_of X G y_NoPlace) (List.forall_mem_cons.mpr ⟨⟨C_TooMany,y_TooMany,t_TooMany_NoPlace.trans (by decide +kernel),xc_TooMany⟩,(fun _ h=>nomatch h)⟩),i_NoText := isC_of (PySem.W.mg_of X G y_NoText) (List.forall_mem_cons.mpr ⟨⟨C_TooMany,y_TooMany,t_TooMany_NoText.trans (by decide +kernel),xc_TooMany⟩,(fun _ h=>nomatch h)⟩),i_TooMany := isC_of (PySem.W.mg_of X G y_TooMany) (List.forall_mem_cons.mpr ⟨⟨C_TooMany,y_TooMany,t_TooMany_TooMany.trans (by decide +kernel),xc_TooMany⟩,(fun _ h=>nomatch h)⟩),j_ValueError := isT_of (List.forall_mem_cons.mpr ⟨⟨C_TooMany,y_TooMany,tv_TooMany,xc_TooMany⟩,(fun _ h=>nomatch h)⟩),k_CalmError := catC_of (PySem.W.mg_of X G y_CalmError) (List.forall_mem_cons.mpr ⟨⟨C_TooMany,y_TooMany,s_TooMany⟩,(fun _ h=>nomatch h)⟩) }
 have F0 := fun_mk (st:=s_wire_of) l0 c0 k0
 have D_wire_of : Def K mg "wire_of" s_wire_of := ⟨_,_,F0,PySem.W.mg_of X G a0⟩
 have F1 := fun_mk (st:=s_is_rise) l1 c1 k1
 have D_is_rise : Def K mg "is_rise" s_is_rise := ⟨_,_,F1,PySem.W.mg_of X G a1⟩
 have F2 := fun_mk (st:=s_takes_of) l2 c2 k2
 have D_takes_of : Def K mg "takes_of" s_takes_of := ⟨_,_,F2,PySem.W.mg_of X G a2⟩
 have F3 := fun_mk (st:=s_fills_of) l3 c3 k3
 have D_fills_of : Def K mg "fills_of" s_fills_of := ⟨_,_,F3,PySem.W.mg_of X G a3⟩
 have F4 := fun_mk (st:=s_bits) l4 c4 k4
 have D_bits : Def K mg "bits" s_bits := ⟨_,_,F4,PySem.W.mg_of X G a4⟩
 have F5 := fun_mk (st:=s_has_one) l5 c5 k5
 have D_has_one : Def K mg "has_one" s_has_one := ⟨_,_,F5,PySem.W.mg_of X G a5⟩
 have F6 := fun_mk (st:=s_can) l6 c6 k6
 have D_can : Def K mg "can" s_can := ⟨_,_,F6,PySem.W.mg_of X G a6⟩
 have F7 := fun_mk (st:=s_behind) l7 c7 k7
 have D_behind : Def K mg "behind" s_behind := ⟨_,_,F7,PySem.W.mg_of X G a7⟩
 have F8 := fun_mk (st:=s_steps_at) l8 c8 k8
 have D_steps_at : Def K mg "steps_at" s_steps_at := ⟨_,_,F8,PySem.W.mg_of X G a8⟩
 have F9 := fun_mk (st:=s_way) l9 c9 k9
 have D_way : Def K mg "way" s_way := ⟨_,_,F9,PySem.W.mg_of X G a9⟩
 have F10 := fun_mk (st:=s_come_to) l10 c10 k10
 have D_come_to : Def K mg "come_to" s_come_to := ⟨_,_,F10,PySem.W.mg_of X G a10⟩
 have F11 := fun_mk (st:=s_stands) l11 c11 k11
 have D_stands : Def K mg "stands" s_stands := ⟨_,_,F11,PySem.W.mg_of X G a11⟩
 have F12 := fun_mk (st:=s__law_mix) l12 c12 k12
 have D__law_mix : Def K mg "_law_mix" s__law_mix := ⟨_,_,F12,PySem.W.mg_of X G a12⟩
 have F13 := fun_mk (st:=s__law_word) l13 c13 k13
 have D__law_word : Def K mg "_law_word" s__law_word := ⟨_,_,F13,PySem.W.mg_of X G a13⟩
 have F14 := fun_mk (st:=s__law_order) l14 c14 k14
 have D__law_order : Def K mg "_law_order" s__law_order := ⟨_,_,F14,PySem.W.mg_of X G a14⟩
 have F15 := fun_mk (st:=s__law_arrows) l15 c15 k15
 have D__law_arrows : Def K mg "_law_arrows" s__law_arrows := ⟨_,_,F15,PySem.W.mg_of X G a15⟩
 have F16 := fun_mk (st:=s__law_graph) l16 c16 k16
 have D__law_graph : Def K mg "_law_graph" s__law_graph := ⟨_,_,F16,PySem.W.mg_of X G a16⟩
 have F17 := fun_mk (st:=s__law_choice) l17 c17 k17
 have D__law_choice : Def K mg "_law_choice" s__law_choice := ⟨_,_,F17,PySem.W.mg_of X G a17⟩
 have F18 := fun_mk (st:=s__law_lookers) l18 c18 k18
 have D__law_lookers : Def K mg "_law_lookers" s__law_lookers := ⟨_,_,F18,PySem.W.mg_of X G a18⟩
 have F19 := fun_mk (st:=s__law_sort) l19 c19 k19
 have D__law_sort : Def K mg "_law_sort" s__law_sort := ⟨_,_,F19,PySem.W.mg_of X G a19⟩
 have F20 := fun_mk (st:=s__law_can) l20 c20 k20
 have D__law_can : Def K mg "_law_can" s__law_can := ⟨_,_,F20,PySem.W.mg_of X G a20⟩
 have F21 := fun_mk (st:=s__law_done) l21 c21 k21
 have D__law_done : Def K mg "_law_done" s__law_done := ⟨_,_,F21,PySem.W.mg_of X G a21⟩
 have F22 := fun_mk (st:=s__law_in_order) l22 c22 k22
 have D__law_in_order : Def K mg "_law_in_order" s__law_in_order := ⟨_,_,F22,PySem.W.mg_of X G a22⟩
 have F23 := fun_mk (st:=s__law_whole) l23 c23 k23
 have D__law_whole : Def K mg "_law_whole" s__law_whole := ⟨_,_,F23,PySem.W.mg_of X G a23⟩
 have F24 := fun_mk (st:=s__law_many) l24 c24 k24
 have D__law_many : Def K mg "_law_many" s__law_many := ⟨_,_,F24,PySem.W.mg_of X G a24⟩
 have F25 := fun_mk (st:=s_law) l25 c25 k25
 refine ⟨PySem.W.fnOf "law" "law" (defArgs s_law) (defBody s_law) (defScope s_law) .none kV25 dc25 pm25 an25 cd25 ct25,fun s v=>.of_eq rfl,fun base _ _=>?_⟩
 have M_TooMany := m_TooMany (P:=l.prog) (w:=w) (base:=base) B (fun_mk (st:=i_TooMany) jl_TooMany w_TooMany p_TooMany) y_TooMany (PySem.W.mg_of X G y_TooMany) h_TooMany x_TooMany xc_TooMany  g_TooMany (PySem.W.mg_none_of X G z_list)
 have C_wire_of := c_wire_of (P:=l.prog) (w:=w) (base:=base) D_wire_of T 
 have C_is_rise := c_is_rise (P:=l.prog) (w:=w) (base:=base) D_is_rise T 
 have C_takes_of := c_takes_of (P:=l.prog) (w:=w) (base:=base) D_takes_of T 
 have C_fills_of := c_fills_of (P:=l.prog) (w:=w) (base:=base) D_fills_of T 
 have C_bits := c_bits (P:=l.prog) (w:=w) (base:=base) D_bits T 
 have C_has_one := c_has_one (P:=l.prog) (w:=w) (base:=base) D_has_one T 
 have C_can := c_can (P:=l.prog) (w:=w) (base:=base) D_can T C_bits C_takes_of
 have C_behind := c_behind (P:=l.prog) (w:=w) (base:=base) D_behind T C_wire_of C_bits C_has_one C_is_rise C_fills_of C_takes_of
 have C_steps_at := c_steps_at (P:=l.prog) (w:=w) (base:=base) D_steps_at T C_can
 have C_way := c_way (P:=l.prog) (w:=w) (base:=base) D_way T 
 have C_come_to := c_come_to (P:=l.prog) (w:=w) (base:=base) D_come_to T C_behind C_way
 have C_stands := c_stands (P:=l.prog) (w:=w) (base:=base) D_stands T M_TooMany C_steps_at C_come_to
 have C__law_mix := c__law_mix (P:=l.prog) (w:=w) (base:=base) D__law_mix T 
 have C__law_word := c__law_word (P:=l.prog) (w:=w) (base:=base) D__law_word T 
 have C__law_order := c__law_order (P:=l.prog) (w:=w) (base:=base) D__law_order T C__law_mix
 have C__law_arrows := c__law_arrows (P:=l.prog) (w:=w) (base:=base) D__law_arrows T C__law_mix
 have C__law_graph := c__law_graph (P:=l.prog) (w:=w) (base:=base) D__law_graph T C__law_order C__law_mix C__law_arrows C__law_word
 have C__law_choice := c__law_choice (P:=l.prog) (w:=w) (base:=base) D__law_choice T C__law_mix C__law_word
 have C__law_lookers := c__law_lookers (P:=l.prog) (w:=w) (base:=base) D__law_lookers T 
 have C__law_sort := c__law_sort (P:=l.prog) (w:=w) (base:=base) D__law_sort T 
 have C__law_can := c__law_can (P:=l.prog) (w:=w) (base:=base) D__law_can T 
 have C__law_done := c__law_done (P:=l.prog) (w:=w) (base:=base) D__law_done T 
 have C__law_in_order := c__law_in_order (P:=l.prog) (w:=w) (base:=base) D__law_in_order T C__law_can C__law_done
 have C__law_whole := c__law_whole (P:=l.prog) (w:=w) (base:=base) D__law_whole T 
 have C__law_many := c__law_many (P:=l.prog) (w:=w) (base:=base) D__law_many T C_stands C__law_sort
 exact c_law F25 T C__law_mix C_stands C__law_choice C__law_graph C__law_lookers C__law_in_order C__law_whole C__law_many law_ok
theorem walk {l : PySem.W.OpenLaw} {q : Program} {loose : List Str} {XP : (Str→Option Value)→Heap→Prop} {YP : World→Heap→Prop} {d : DefRec} {K : Params→PySem.W.Frag} (hn : l.most = some 63) (hdf : d.params.defaults = [])
   (hY : ∀ (w : World) (h : Heap),YP w h→(K w.params).In h)
   (F : ∀ (w : World) (mg : Str→Option Value) (fa : Addr) (h : Heap),(K w.params).In h→h.Ns mainGlobals mg→mg d.name = some (.ref fa) →
     ∃ fd : FuncData,(∀ (s : Shared) (u : Value),BindsTo s fd ⟨[u],[]⟩ [("_law_script",u)])∧∀ base : Heap,(K w.params).In base→base.Ns mainGlobals mg→FnOk l.prog w (K w.params) mg base CX0 7 fa fd ["_law_script"] (spLaw (K w.params))) :
   PySem.W.WalkO q loose XP YP l.row.toRowW d [] (fun f vs=>PySem.call f vs) :=
 L2.walk_of (n:=63) (k:=7) (x:="_law_script") (CX:=fun _=>CX0) (sp:=fun w=>spLaw (K w.params)) hn (by decide) hdf ⟨rfl,by decide,by decide,rfl⟩ hY F (fun _ _ a ns hl _ hS=>⟨a,ns,rfl,hS,hl,fun _=>rfl⟩) fun _ _ _ _ _ z=>z
end K22
open PySem PySem.W PyProof.Rows
lay_quick PySem.Challenge.pw_calmwires_k22_stands_in_order
local macro_rules | `(tactic| refine $f:ident $as*) => do if (f.getId.toString.splitOn "holds_open").length > 1 then `(tactic| (refine' $f $as*; case' $(Lean.mkIdent `hl):ident => (intro w; unfold openEnds fencedOpening topFrom; rw [show PySem.Challenge.rw_calmwires_k22_stands_in_order.row.prog = _ from PySem.W.Fast.te4120246103244638742, PySem.W.Fast.te14082659384304107361, PySem.W.Fast.te10274390034422433532, PySem.W.Fast.te14289696077712309145, PySem.W.Fast.te14364793385576792824, PySem.W.Fast.te4187177175401517315, PySem.W.Fast.te1435165496053646825]; kernel_rfl!))) else Lean.Macro.throwUnsupported
set_option maxRecDepth 100000 in
set_option maxHeartbeats 0 in
theorem PySem.Challenge.cw_calmwires_k22_stands_in_order_holds : PySem.Challenge.rw_calmwires_k22_stands_in_order.Holds := by
 w_on;o_law;k_head;(case hw=>w_witness2)
 k_fill
 refine K22.walk (l:=PySem.Challenge.rw_calmwires_k22_stands_in_order) rfl rfl (fun w h Y=>PySem.W.kIn_of Y) ?F
 case F =>
   intro w mg fa h KX G hmg
   refine' K22.all_mk KX G hmg ?a0 ?l0 ?c0 ?k0 ?a1 ?l1 ?c1 ?k1 ?a2 ?l2 ?c2 ?k2 ?a3 ?l3 ?c3 ?k3 ?a4 ?l4 ?c4 ?k4 ?a5 ?l5 ?c5 ?k5 ?a6 ?l6 ?c6 ?k6 ?a7 ?l7 ?c7 ?k7 ?a8 ?l8 ?c8 ?k8 ?a9 ?l9 ?c9 ?k9 ?a10 ?l10 ?c10 ?k10 ?a11 ?l11 ?c11 ?k11 ?a12 ?l12 ?c12 ?k12 ?a13 ?l13 ?c13 ?k13 ?a14 ?l14 ?c14 ?k14 ?a15 ?l15 ?c15 ?k15 ?a16 ?l16 ?c16 ?k16 ?a17 ?l17 ?c17 ?k17 ?a18 ?l18 ?c18 ?k18 ?a19 ?l19 ?c19 ?k19 ?a20 ?l20 ?c20 ?k20 ?a21 ?l21 ?c21 ?k21 ?a22 ?l22 ?c22 ?k22 ?a23 ?l23 ?c23 ?k23 ?a24 ?l24 ?c24 ?k24 ?a25 ?l25 ?c25 ?k25 ?z_ValueError ?z_all ?z_any ?z_bool ?z_enumerate ?z_int ?z_isinstance ?z_len ?z_list ?z_max ?z_min ?z_range ?z_reversed ?z_sorted ?z_tuple ?y_Broken ?y_CalledOff ?y_Clash ?y_Crowded ?y_NoMove ?y_NoPlace ?y_NoText ?y_TooMany ?y_CalmError ?b0 ?b1 ?b2 ?o_TooMany ?n_TooMany ?jl_TooMany ?w_TooMany ?p_TooMany ?g_TooMany ?h_TooMany ?x_TooMany ?ra_TooMany ?rb_TooMany ?rc_TooMany ?rd_TooMany ?s_TooMany ?tv_TooMany ?t_TooMany_Broken ?t_TooMany_CalledOff ?t_TooMany_Clash ?t_TooMany_Crowded ?t_TooMany_NoMove ?t_TooMany_NoPlace ?t_TooMany_NoText ?t_TooMany_TooMany
   (case a0=>k_is);(case l0=>k_is);(case c0=>k_is);(case k0=>k_is);(case a1=>k_is);(case l1=>k_is);(case c1=>k_is);(case k1=>k_is);(case a2=>k_is);(case l2=>k_is);(case c2=>k_is);(case k2=>k_is);(case a3=>k_is);(case l3=>k_is);(case c3=>k_is);(case k3=>k_is);(case a4=>k_is);(case l4=>k_is);(case c4=>k_is);(case k4=>k_is);(case a5=>k_is);(case l5=>k_is);(case c5=>k_is);(case k5=>k_is);(case a6=>k_is);(case l6=>k_is);(case c6=>k_is);(case k6=>k_is);(case a7=>k_is);(case l7=>k_is);(case c7=>k_is);(case k7=>k_is);(case a8=>k_is);(case l8=>k_is);(case c8=>k_is);(case k8=>k_is);(case a9=>k_is);(case l9=>k_is);(case c9=>k_is);(case k9=>k_is);(case a10=>k_is);(case l10=>k_is);(case c10=>k_is);(case k10=>k_is);(case a11=>k_is);(case l11=>k_is);(case c11=>k_is);(case k11=>k_is);(case a12=>k_is);(case l12=>k_is);(case c12=>k_is);(case k12=>k_is);(case a13=>k_is);(case l13=>k_is);(case c13=>k_is);(case k13=>k_is);(case a14=>k_is);(case l14=>k_is);(case c14=>k_is);(case k14=>k_is);(case a15=>k_is);(case l15=>k_is);(case c15=>k_is);(case k15=>k_is);(case a16=>k_is);(case l16=>k_is);(case c16=>k_is);(case k16=>k_is);(case a17=>k_is);(case l17=>k_is);(case c17=>k_is);(case k17=>k_is);(case a18=>k_is);(case l18=>k_is);(case c18=>k_is);(case k18=>k_is);(case a19=>k_is);(case l19=>k_is);(case c19=>k_is);(case k19=>k_is);(case a20=>k_is);(case l20=>k_is);(case c20=>k_is);(case k20=>k_is);(case a21=>k_is);(case l21=>k_is);(case c21=>k_is);(case k21=>k_is);(case a22=>k_is);(case l22=>k_is);(case c22=>k_is);(case k22=>k_is);(case a23=>k_is);(case l23=>k_is);(case c23=>k_is);(case k23=>k_is);(case a24=>k_is);(case l24=>k_is);(case c24=>k_is);(case k24=>k_is);(case a25=>k_is);(case l25=>k_is);(case c25=>k_is);(case k25=>k_is);(case z_ValueError=>k_is);(case z_all=>k_is);(case z_any=>k_is);(case z_bool=>k_is);(case z_enumerate=>k_is);(case z_int=>k_is);(case z_isinstance=>k_is);(case z_len=>k_is);(case z_list=>k_is);(case z_max=>k_is);(case z_min=>k_is);(case z_range=>k_is);(case z_reversed=>k_is);(case z_sorted=>k_is);(case z_tuple=>k_is);(case y_Broken=>k_is);(case y_CalledOff=>k_is);(case y_Clash=>k_is);(case y_Crowded=>k_is);(case y_NoMove=>k_is);(case y_NoPlace=>k_is);(case y_NoText=>k_is);(case y_TooMany=>k_is);(case y_CalmError=>k_is);(case b0=>k_is);(case b1=>k_is);(case b2=>k_is);(case o_TooMany=>k_is);(case n_TooMany=>k_is);(case jl_TooMany=>k_is);(case w_TooMany=>k_is);(case p_TooMany=>k_is);(case g_TooMany=>k_is);(case h_TooMany=>k_is);(case ra_TooMany=>k_is);(case rb_TooMany=>k_is);(case rc_TooMany=>k_is);(case rd_TooMany=>k_is)
   (case x_TooMany=>kernel_rfl!)
   (case tv_TooMany=>kit_is);(case t_TooMany_Broken=>kit_is);(case t_TooMany_CalledOff=>kit_is);(case t_TooMany_Clash=>kit_is);(case t_TooMany_Crowded=>kit_is);(case t_TooMany_NoMove=>kit_is);(case t_TooMany_NoPlace=>kit_is);(case t_TooMany_NoText=>kit_is);(case t_TooMany_TooMany=>kit_is)
   (case s_TooMany=>kts_exm)
