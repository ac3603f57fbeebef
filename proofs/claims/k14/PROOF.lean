import PyProof.Rows.All
import Wide.All
import OpenK.AllK
import Wide.FinOn
import Lean
import PyProof.EqAt
import PyProof.EqKinds
import PyProof.TupleCall
import KE.KRevIter
import PyProof.ListRange
import PyProof.ExcClass3
import PyProof.ExcInit
import PyProof.RulesTry
import PyProof.RulesAs
import PyProof.ExcBaseAll.ValueError
import PyProof.InstStoreFacts
import PyProof.ExcArgsOwn
import KE.KIsAll
import PyProof.IsiBase
import PyProof.ReprRoads
import PyProof.NsDelKeeps
import KE.KTryMore
import PyProof.Rows.SortPure
import PyProof.Rows.SortShell
import KE.KIntText
import PyProof.Rows.StrItems
import PyProof.StrLawsTight
import PySem.Challenge.RW_calmwires_k14_texts_read_back
set_option Elab.async false
set_option linter.all false
set_option maxRecDepth 100000
namespace L2
open PySem PySem.Spec PyProof.Rows
noncomputable abbrev Key := Sum Int Str
noncomputable def keyIs : Key → Value → Bool
  | .inl k, v => Value.isInt k v
  | .inr x, v => Value.isStrOf x v
noncomputable def keyH (w : World) : Key → Int
  | .inl k => hashInt k
  | .inr x => hashStr w x
theorem keyIs_shape : ∀ {k : Key} {v : Value}, keyIs k v = true → (∃ i t, k = Sum.inl i ∧ v = Value.int i t) ∨ (∃ x t, k = Sum.inr x ∧ v = Value.str x t)
  | .inl i, v, h => by
    obtain ⟨t, e⟩ := Value.isInt_shape (k := i) (v := v) h
    exact .inl ⟨i, t, rfl, e⟩
  | .inr x, v, h => by
    obtain ⟨t, e⟩ := Value.isStrOf_shape (x := x) (v := v) h
    exact .inr ⟨x, t, rfl, e⟩
theorem key_ll (a b : Int) : decide ((Sum.inl a : Key) = Sum.inl b) = (a == b) := by
  by_cases e : a = b
  · subst e; simp
  · have h : ¬ (Sum.inl a : Key) = Sum.inl b := fun q => e (Sum.inl.inj q)
    rw [decide_eq_false h]
    exact (beq_eq_false_iff_ne.mpr e).symm
theorem key_rr (a b : Str) : decide ((Sum.inr a : Key) = Sum.inr b) = decide (a = b) := by
  by_cases e : a = b
  · subst e; simp
  · have h : ¬ (Sum.inr a : Key) = Sum.inr b := fun q => e (Sum.inr.inj q)
    rw [decide_eq_false h, decide_eq_false e]
theorem key_lr (a : Int) (b : Str) : decide ((Sum.inl a : Key) = Sum.inr b) = false := decide_eq_false (fun q => nomatch q)
theorem key_rl (a : Str) (b : Int) : decide ((Sum.inr a : Key) = Sum.inl b) = false := decide_eq_false (fun q => nomatch q)
noncomputable def mixKind (prog : Program) (w : World) : PySem.KeyKind prog w Key where
  is := keyIs
  hash := keyH w
  inj := fun v a b ha hb => by
    rcases keyIs_shape ha with ⟨i, t, rfl, rfl⟩ | ⟨x, t, rfl, rfl⟩
    · rcases keyIs_shape hb with ⟨j, u, rfl, e⟩ | ⟨y, u, rfl, e⟩
      · injection e with e1 _; rw [e1]
      · exact nomatch e
    · rcases keyIs_shape hb with ⟨j, u, rfl, e⟩ | ⟨y, u, rfl, e⟩
      · exact nomatch e
      · injection e with e1 _; rw [e1]
  byValue := fun k v h => by
    rcases keyIs_shape h with ⟨i, t, rfl, rfl⟩ | ⟨x, t, rfl, rfl⟩ <;> rfl
  pyHash := fun hv h => by
    rcases keyIs_shape hv with ⟨i, t, rfl, rfl⟩ | ⟨x, t, rfl, rfl⟩
    · exact wpAny_pyHash_int h
    · exact wpAny_pyHash_str h
  eqBool := fun hu hv h => by
    rcases keyIs_shape hu with ⟨i, t, rfl, rfl⟩ | ⟨x, t, rfl, rfl⟩
    · rcases keyIs_shape hv with ⟨j, u, rfl, rfl⟩ | ⟨y, u, rfl, rfl⟩
      · rw [key_ll] at h; exact wpAny_eqBool_int h
      · rw [key_lr] at h; exact SeqAt.EqAt.int_str i t y u _ _ _ _ h
    · rcases keyIs_shape hv with ⟨j, u, rfl, rfl⟩ | ⟨y, u, rfl, rfl⟩
      · rw [key_rl] at h; exact SeqAt.EqAt.str_int x t j u _ _ _ _ h
      · rw [key_rr] at h; exact wpAny_eqBool_str h
  «strs» := fun k x t v h => by
    rcases keyIs_shape h with ⟨i, u, rfl, e⟩ | ⟨y, u, rfl, e⟩
    · exact nomatch e
    · injection e with e1 _
      subst e1
      cases v <;> rfl
end L2
namespace L2
open PySem PySem.Spec PyProof.Rows
inductive V where
  | non | bl (b : Bool) | int (i : Int) | str (x : Str) | byt (b : Array UInt8) | flt (b : UInt64) | ref (a : Addr) | ty (n : String)
  deriving DecidableEq
noncomputable def RelV : V → Value → Prop
  | .non, u => u = Value.none
  | .bl b, u => u = Value.bool b
  | .int i, u => ∃ t, u = Value.int i t
  | .str x, u => ∃ t, u = Value.str x t
  | .byt b, u => ∃ t, u = Value.bytes b t
  | .flt b, u => ∃ t, u = Value.float b t
  | .ref a, u => u = Value.ref a
  | .ty n, u => u = Value.type n
noncomputable abbrev Vals : List V → List Value → Prop := Paired RelV
theorem Vals.length {xs : List V} {us : List Value} (r : Vals xs us) : xs.length = us.length := Paired.length r
theorem Vals.get : ∀ {xs : List V} {us : List Value} {i : Nat} {x : V}, Vals xs us → xs[i]? = some x → ∃ u, us[i]? = some u ∧ RelV x u
  | _, _, _, _, .nil, e => by simp at e
  | _, _, 0, _, .cons r _, e => by simp at e; subst e; exact ⟨_, rfl, r⟩
  | _, _, i + 1, x, .cons _ t, e => by
    obtain ⟨u, h1, h2⟩ := Vals.get (i := i) (x := x) t (by simpa using e)
    exact ⟨u, by simpa using h1, h2⟩
theorem Vals.append : ∀ {xs ys : List V} {us ws : List Value}, Vals xs us → Vals ys ws → Vals (xs ++ ys) (us ++ ws)
  | _, _, _, _, .nil, s => s
  | _, _, _, _, .cons r t, s => .cons r (Vals.append t s)
theorem Vals.take : ∀ {xs : List V} {us : List Value} (n : Nat), Vals xs us → Vals (xs.take n) (us.take n)
  | _, _, 0, _ => .nil
  | _, _, _ + 1, .nil => .nil
  | _, _, n + 1, .cons r t => .cons r (Vals.take n t)
theorem Vals.drop : ∀ {xs : List V} {us : List Value} (n : Nat), Vals xs us → Vals (xs.drop n) (us.drop n)
  | _, _, 0, r => r
  | _, _, _ + 1, .nil => .nil
  | _, _, n + 1, .cons _ t => Vals.drop n t
noncomputable def RelO : Option V → Option Value → Prop
  | some v, some u => RelV v u
  | none, none => True
  | _, _ => False
noncomputable def KV {κ : Type} : List (κ × V) → List (κ × Value) → Prop := Paired fun (p : κ × V) (q : κ × Value) => p.1 = q.1 ∧ RelV p.2 q.2
noncomputable def kV : Key → V
  | .inl i => .int i
  | .inr x => .str x
inductive HO where
    | lst (xs : List V)
    | tup (xs : List V)
    | dK (kvs : List (Key × V)) | dT (kvs : List (List Key × V))
    | set (S : Int → Bool) (n : Nat)
    | ins (C dx : Addr) (fs : List (Str × V))
    | own (x : Addr)
    | xd (fs : List (Str × V))
    | met (f x : Addr)
    | rng (lo hi : Int)
    | frz (o : Obj) (u : HO)
    | tbl (ps : Array Value)
    | ext (φ : Heap → Prop)
noncomputable abbrev Hp := Addr → Option HO
noncomputable def upd (H : Hp) (a : Addr) (o : HO) : Hp := fun b => if b = a then some o else H b
theorem upd_same {H : Hp} {a : Addr} {o : HO} : upd H a o a = some o := by unfold upd; rw [if_pos rfl]
theorem upd_ne {H : Hp} {a b : Addr} {o : HO} (h : b ≠ a) : upd H a o b = H b := by unfold upd; rw [if_neg h]
theorem ne_of_none {H : Hp} {a b : Addr} {o : HO} (h : H a = some o) (h' : H b = none) : a ≠ b := by
  intro e; subst e; rw [h] at h'; cases h'
section
variable (P : Program) (w : World)
noncomputable def ObjOk (H : Hp) (h : Heap) (a : Addr) : HO → Prop
  | .lst xs => xs.length ≤ sizeLine ∧ ∃ (its : List Value) (n : Nat), Vals xs its ∧ h.get? a = some { cls := .type "list", data := .seq its.toArray n }
  | .tup xs => xs.length ≤ sizeLine ∧ ∃ its : List Value, Vals xs its ∧ IsTup h a its.toArray
  | .dK kvs => kvs.length ≤ sizeLine ∧ (a == sysModules) = false ∧ ∃ vs, KV kvs vs ∧ h.DictOf (mixKind P w) a vs
  | .dT kvs => kvs.length ≤ sizeLine ∧ (a == sysModules) = false ∧ ∃ xs : List (List Key × Addr × Value),
      Paired (fun (p : List Key × V) (q : List Key × Addr × Value) => p.1 = q.1 ∧ H q.2.1 = some (.tup (p.1.map kV)) ∧ RelV p.2 q.2.2) kvs xs ∧
      ∃ o es ep, h.get? a = some o ∧ o.ExactDict ∧ o.data = .dict es ep ∧ es.toList = xs.map (entryOfKey (tupleKind (mixKind P w))) ∧ (xs.map (·.1)).Nodup
  | .set S n => h.SetOf (intKind P w) a S n
  | .ins C dx fs => H dx = some (.own a) ∧ fs.length ≤ 1000 ∧ dx ≠ a ∧ h.get? a = some (PySem.W.instObj C dx) ∧
      ∃ mA, h.Ns1 dx mA ∧ (∀ f, RelO (fs.lookup f) (mA f)) ∧ PySem.Within mA (fs.map (·.1))
  | .own _ => ∃ o, h.get? a = some o
  | .xd fs => ∃ mA, h.Ns1 a mA ∧ ∀ f, RelO (fs.lookup f) (mA f)
  | .rng lo hi => ∃ t u v, h.get? a = some { cls := .type "range", data := .fields #[.int lo t, .int hi u, .int 1 v] }
  | .frz o u => h.get? a = some o ∧ ObjOk H h a u
  | .tbl ps => h.get? a = some { cls := .none, data := .fields ps }
  | .met f x => h.get? a = some (PySem.W.methodObj (.ref f) (.ref x))
  | .ext φ => φ h ∧ (∃ o, h.get? a = some o) ∧ ∀ h1 h2 : Heap, φ h1 → (∀ o, h1.get? a = some o → h2.get? a = some o) → φ h2
noncomputable def HOk (H : Hp) (h : Heap) : Prop := ∀ a o, H a = some o → ObjOk P w H h a o
end
section
variable {P : Program} {w : World} {H H' : Hp} {h h' : Heap} {a : Addr} {o : HO}
theorem ObjOk.lt (x : ObjOk P w H h a o) : a < h.objs.size := by
  cases o with
  | lst xs => obtain ⟨_, _, _, _, e⟩ := x; exact Heap.lt_size e
  | tup xs => obtain ⟨_, _, _, p⟩ := x; exact p.lt
  | dK kvs => obtain ⟨_, _, _, _, o, _, _, e, _⟩ := x; exact Heap.lt_size e
  | dT kvs => obtain ⟨_, _, _, _, o, _, _, e, _⟩ := x; exact Heap.lt_size e
  | set S n => obtain ⟨o, _, _, _, e, _⟩ := x; exact Heap.lt_size e
  | ins C dx fs => obtain ⟨_, _, _, e, _⟩ := x; exact Heap.lt_size e
  | own y => obtain ⟨_, e⟩ := x; exact Heap.lt_size e
  | xd fs => obtain ⟨_, ⟨_, _, _, e, _⟩, _⟩ := x; exact Heap.lt_size e
  | rng lo hi => obtain ⟨_, _, _, e⟩ := x; exact Heap.lt_size e
  | frz ob u => obtain ⟨e, _⟩ := x; exact Heap.lt_size e
  | tbl ps => exact Heap.lt_size (show h.get? a = some _ from x)
  | met f y => exact Heap.lt_size (show h.get? a = some _ from x)
  | ext φ => obtain ⟨_, ⟨_, e⟩, _⟩ := x; exact Heap.lt_size e
theorem Paired.mapP {α β : Type} {F G : α → β → Prop} : ∀ {l₁ : List α} {l₂ : List β}, Paired F l₁ l₂ → (∀ a b, F a b → G a b) → Paired G l₁ l₂
  | _, _, .nil, _ => .nil
  | _, _, .cons r t, f => .cons (f _ _ r) (Paired.mapP t f)
theorem ObjOk.stay (x : ObjOk P w H h a o) (k : ∀ b u, (b = a ∨ H b = some (.own a)) → h.get? b = some u → h'.get? b = some u)
    (ho : ∀ b, H b = some (.own a) → H' b = some (.own a)) (ht : ∀ b xs, H b = some (.tup xs) → H' b = some (.tup xs)) : ObjOk P w H' h' a o := by
  induction o with
  | lst xs => obtain ⟨z, its, n, r, e⟩ := x; exact ⟨z, its, n, r, k _ _ (.inl rfl) e⟩
  | tup xs => obtain ⟨z, its, r, ob, e, c⟩ := x; exact ⟨z, its, r, ob, k _ _ (.inl rfl) e, c⟩
  | dK kvs => obtain ⟨z, y, vs, r, ob, es, ep, e, c⟩ := x; exact ⟨z, y, vs, r, ob, es, ep, k _ _ (.inl rfl) e, c⟩
  | dT kvs =>
    obtain ⟨z, y, xs, r, ob, es, ep, e, c⟩ := x
    exact ⟨z, y, xs, Paired.mapP r fun p q z => ⟨z.1, ht _ _ z.2.1, z.2.2⟩, ob, es, ep, k _ _ (.inl rfl) e, c⟩
  | set S n => obtain ⟨ob, es, ep, t, e, c⟩ := x; exact ⟨ob, es, ep, t, k _ _ (.inl rfl) e, c⟩
  | ins C dx fs =>
    obtain ⟨d, z, ne, e, mA, ⟨od, es, ep, e2, c⟩, r⟩ := x
    exact ⟨ho _ d, z, ne, k _ _ (.inl rfl) e, mA, ⟨od, es, ep, k _ _ (.inr d) e2, c⟩, r⟩
  | own y => obtain ⟨ob, e⟩ := x; exact ⟨ob, k _ _ (.inl rfl) e⟩
  | xd fs => obtain ⟨mA, ⟨od, es, ep, e, c⟩, r⟩ := x; exact ⟨mA, ⟨od, es, ep, k _ _ (.inl rfl) e, c⟩, r⟩
  | rng lo hi => obtain ⟨t, u, v, e⟩ := x; exact ⟨t, u, v, k _ _ (.inl rfl) e⟩
  | frz ob u ih => obtain ⟨e, q⟩ := x; exact ⟨k _ _ (.inl rfl) e, ih q⟩
  | tbl ps =>
    have e : h.get? a = some { cls := .none, data := .fields ps } := x
    show h'.get? a = some { cls := .none, data := .fields ps }
    exact k a _ (.inl rfl) e
  | met f y =>
    have e : h.get? a = some (PySem.W.methodObj (.ref f) (.ref y)) := x
    show h'.get? a = some (PySem.W.methodObj (.ref f) (.ref y))
    exact k a _ (.inl rfl) e
  | ext φ => obtain ⟨p, ⟨o, e⟩, st⟩ := x; exact ⟨st _ _ p fun o q => k _ _ (.inl rfl) q, ⟨o, k _ _ (.inl rfl) e⟩, st⟩
theorem HOk.lt (x : HOk P w H h) (e : H a = some o) : a < h.objs.size := (x a o e).lt
theorem HOk.fresh (x : HOk P w H h) (e : h.objs.size ≤ a) : H a = none := by
  cases q : H a with
  | none => rfl
  | some u => exact absurd (Nat.lt_of_lt_of_le (x.lt q) e) (Nat.lt_irrefl _)
theorem HOk.kept (x : HOk P w H h) (k : ∀ b u, h.get? b = some u → h'.get? b = some u) : HOk P w H h' := fun a o e =>
  (x a o e).stay (fun b u _ q => k b u q) (fun _ q => q) fun _ _ q => q
theorem HOk.laid (x : HOk P w H h) (k : ∀ b u, h.get? b = some u → h'.get? b = some u) (hp : h.objs.size ≤ a) (new : ObjOk P w (upd H a o) h' a o) : HOk P w (upd H a o) h' := fun b u e => by
  have hn := x.fresh hp
  by_cases hb : b = a
  · subst hb; rw [upd_same] at e; cases e; exact new
  · rw [upd_ne hb] at e
    exact (x b u e).stay (fun c v _ q => k c v q) (fun c q => by rw [upd_ne (ne_of_none q hn)]; exact q) fun c xs q => by rw [upd_ne (ne_of_none q hn)]; exact q
end
noncomputable def Rd (H : Hp) (a : Addr) (u : HO) : Prop := H a = some u ∨ ∃ o, H a = some (.frz o u)
theorem Rd.ok {P : Program} {w : World} {H : Hp} {h : Heap} {a : Addr} {u : HO} (r : Rd H a u) (x : HOk P w H h) : ObjOk P w H h a u := by
  rcases r with r | ⟨o, r⟩
  · exact x a u r
  · obtain ⟨_, q⟩ := x a _ r
    exact q
noncomputable def Mut : Option HO → Prop
  | some (.lst _) => True
  | some (.dK _) => True
  | some (.dT _) => True
  | some (.set _ _) => True
  | some (.ins _ _ _) => True
  | some (.ext _) => True
  | _ => False
section
variable {P : Program} {w : World} {H : Hp} {h h' : Heap} {x e : Addr} {o' : HO}
theorem HOk.write (ok : HOk P w H h) (mu : Mut (H x)) (he : e = x ∨ H e = some (.own x)) (k : ∀ b u, b ≠ e → h.get? b = some u → h'.get? b = some u) (heo : ∃ u, h'.get? e = some u)
    (new : ObjOk P w (upd H x o') h' x o') : HOk P w (upd H x o') h' := fun b u q => by
  have nown : ∀ c y, H c = some (.own y) → c ≠ x := fun c y r z => by subst z; rw [r] at mu; exact mu
  have ntup : ∀ c xs, H c = some (.tup xs) → c ≠ x := fun c xs r z => by subst z; rw [r] at mu; exact mu
  by_cases hb : b = x
  · subst hb; rw [upd_same] at q; cases q; exact new
  · rw [upd_ne hb] at q
    by_cases hbe : b = e
    · have q' : H b = some (.own x) := by
        rcases he with z | z
        · exact absurd (hbe.trans z) hb
        · rw [hbe]; exact z
      rw [q] at q'; cases q'
      obtain ⟨v, hv⟩ := heo
      exact ⟨v, by rw [hbe]; exact hv⟩
    · refine (ok b u q).stay (fun c v hc r => k c v ?_ r) (fun c r => by rw [upd_ne (nown c b r)]; exact r) fun c xs r => by rw [upd_ne (ntup c xs r)]; exact r
      rcases hc with rfl | hc
      · exact hbe
      · rintro rfl
        rcases he with z | z
        · exact nown c b hc z
        · rw [hc] at z; cases z; exact hb rfl
end
structure Un (fs ex : List Addr) (H H' : Hp) (h h' : Heap) : Prop where
  keep : ∀ b o, h.get? b = some o → H b = none → b ∉ fs → b ∉ ex → h'.get? b = some o
  slot : ∀ b o, h.get? b = some o → H b = none → b ∈ fs → b ∉ ex → ∃ sl, h'.get? b = some { o with slots := sl }
  free : ∀ b o, h.get? b = some o → H b = none → b ∉ ex → H' b = none
  there : ∀ b o, h.get? b = some o → b ∉ ex → ∃ o', h'.get? b = some o'
  tups : ∀ b xs, H b = some (.tup xs) → H' b = some (.tup xs)
  frzs : ∀ b o u, H b = some (.frz o u) → H' b = some (.frz o u)
  tbls : ∀ b ps, H b = some (.tbl ps) → ∃ more, H' b = some (.tbl (ps ++ more))
section
variable {fs fs' ex ex' : List Addr} {H H1 H2 : Hp} {h h1 h2 h' : Heap} {a x e : Addr} {o : HO}
theorem Un.any (u : Un fs ex H H1 h h1) {b : Addr} {ob : Obj} (q : h.get? b = some ob) (n : H b = none) (hx : b ∉ ex) : ∃ sl, h1.get? b = some { ob with slots := sl } := by
  by_cases hb : b ∈ fs
  · exact u.slot b ob q n hb hx
  · exact ⟨ob.slots, u.keep b ob q n hb hx⟩
theorem Un.kept (k : ∀ b u, h.get? b = some u → h'.get? b = some u) : Un fs ex H H h h' :=
  ⟨fun b ob q _ _ _ => k b ob q, fun b ob q _ _ _ => ⟨ob.slots, k b ob q⟩, fun _ _ _ n _ => n, fun b ob q _ => ⟨ob, k b ob q⟩, fun _ _ q => q, fun _ _ _ q => q, fun _ ps q => ⟨#[], by rw [q]; simp⟩⟩
theorem Un.refl : Un fs ex H H h h := Un.kept fun _ _ q => q
theorem Un.laid (k : ∀ b u, h.get? b = some u → h'.get? b = some u) (hp : h.objs.size ≤ a) (hn : H a = none) : Un fs ex H (upd H a o) h h' where
  keep := fun b u q _ _ _ => k b u q
  slot := fun b u q _ _ _ => ⟨u.slots, k b u q⟩
  free := fun b u q n _ => by rw [upd_ne (Nat.ne_of_lt (Nat.lt_of_lt_of_le (Heap.lt_size q) hp))]; exact n
  there := fun b u q _ => ⟨u, k b u q⟩
  tups := fun b xs q => by rw [upd_ne (ne_of_none q hn)]; exact q
  frzs := fun b u xs q => by rw [upd_ne (ne_of_none q hn)]; exact q
  tbls := fun b ps q => ⟨#[], by rw [upd_ne (ne_of_none q hn), q]; simp⟩
theorem Un.write (mu : Mut (H x)) (he : e = x ∨ H e = some (.own x)) (k : ∀ b u, b ≠ e → h.get? b = some u → h'.get? b = some u) (heo : ∃ u, h'.get? e = some u) : Un fs ex H (upd H x o) h h' := by
  have hx : ∀ b, H b = none → b ≠ x := fun b n z => by subst z; rw [n] at mu; exact mu
  have hb : ∀ b, H b = none → b ≠ e := fun b n z => by
    subst z
    rcases he with r | r
    · exact hx b n r
    · rw [n] at r; cases r
  have hm : ∀ b u, H b = some u → ¬ Mut (some u) → b ≠ x := fun b u q nm z => by subst z; rw [q] at mu; exact nm mu
  refine ⟨fun b u q n _ _ => k b u (hb b n) q, fun b u q n _ _ => ⟨u.slots, k b u (hb b n) q⟩, fun b u q n _ => by rw [upd_ne (hx b n)]; exact n, fun b u q _ => ?_,
    fun b xs q => by rw [upd_ne (hm b _ q fun z => z)]; exact q, fun b u xs q => by rw [upd_ne (hm b _ q fun z => z)]; exact q, fun b ps q => ⟨#[], by rw [upd_ne (hm b _ q fun z => z), q]; simp⟩⟩
  by_cases hbe : b = e
  · subst hbe; exact heo
  · exact ⟨u, k b u hbe q⟩
end
noncomputable def trk (h : Heap) (H : Hp) : List Addr := (List.range h.objs.size).filter fun a => (H a).isSome
noncomputable def hidT (h : Heap) (H : Hp) : Heap := PySem.W.hideAll h (trk h H)
theorem hidT_size (h : Heap) (H : Hp) : (hidT h H).objs.size = h.objs.size := PySem.W.hideAll_size _ _
theorem hidT_get {h : Heap} {H : Hp} {b : Addr} {o : Obj} (e : h.get? b = some o) (n : H b = none) : (hidT h H).get? b = some o :=
  PySem.W.hideAll_get _ e fun hm => by
    have q : (H b).isSome = true := (List.mem_filter.mp hm).2
    rw [n] at q; simp at q
theorem of_hidT {h : Heap} {H : Hp} {b : Addr} {o : Obj} (e : (hidT h H).get? b = some o) : h.get? b = some o ∧ H b = none := by
  have e' : h.get? b = some o := PySem.W.of_hideAll (trk h H) e
  refine ⟨e', ?_⟩
  cases q : H b with
  | none => rfl
  | some x =>
    have hm : b ∈ trk h H := List.mem_filter.mpr ⟨List.mem_range.mpr (Heap.lt_size e'), by simp [q]⟩
    have z : (hidT h H).get? b = none := PySem.W.hideAll_none (trk h H) hm
    rw [z] at e; cases e
end L2
namespace L2
open PySem PySem.Spec PyProof.Rows
structure Mod (K : PySem.W.Frag) (mg : Str → Option Value) (base : Heap) : Prop where
  kin : K.In base
  glob : base.Ns mainGlobals mg
  blt : ∃ mb, base.Ns builtinsNs mb ∧ ∀ x : Str, x ≠ "__name__" → mb x = bootBuiltins x
  nolimit : base.NoLimit
structure Cx where
  prog : Program
  w : World
  K : PySem.W.Frag
  mg : Str → Option Value
  base : Heap
  A : Around
  N : List Str
  s₀ : Shared
  H₀ : Hp
  env : Env
  outer : List Env
  stack : List Env
  ex : List Addr
  fn : Str → Bool
  calm : Bool
  pn : List (Addr × Obj)
  xe : Value → Shared → Prop
noncomputable def frs (l : List Env) : List Addr := l.filterMap (·.frame)
noncomputable abbrev Cx.fs (X : Cx) : List Addr := frs X.outer
noncomputable def Vis (sc : Scope) (x : Str) : Prop := sc.names.lookup x = some .local ∨ sc.names.lookup x = some .cell ∨ sc.names.lookup x = some .free
noncomputable def Loc (sc : Scope) (x : Str) : Prop := sc.names.lookup x = some .local ∨ sc.names.lookup x = some .cell
noncomputable def Look (env : Env) (h : Heap) (m : Str → Option Value) (x : Str) (u : Value) : Prop :=
  (env.kindOf x = some .local ∧ m x = some u) ∨ ((env.kindOf x = some .cell ∨ env.kindOf x = some .free) ∧ ∃ c, env.cells.lookup x = some c ∧ h.IsCell c (some u))
structure Cx.Ok (X : Cx) : Prop where
  mod : Mod X.K X.mg X.base
  kind : X.env.scope.kind = .function
  glob : X.env.globals = mainGlobals
  blt : X.env.builtins = builtinsNs
  above : X.s₀.heap.objs.size ≤ X.env.locals
  inj : ∀ x y c, X.env.cells.lookup x = some c → X.env.cells.lookup y = some c → x = y
  has : ∀ x, (X.env.kindOf x = some .cell ∨ X.env.kindOf x = some .free) → ∃ c, X.env.cells.lookup x = some c
  cab : ∀ x c, X.fn x = true → X.env.cells.lookup x = some c → X.s₀.heap.objs.size ≤ c
  hd : X.calm = true → X.A.handled = none
  frames : X.A.frames = some X.stack
  stk : X.stack = X.outer ∨ (X.stack = X.env :: X.outer ∧ X.env.frame = some X.env.locals)
  exf : ∀ b ∈ X.ex, b ≠ X.env.locals ∧ ∀ x c, X.env.cells.lookup x = some c → c ≠ b
  bs : ∀ b o, X.base.get? b = some o → X.s₀.heap.get? b = some o ∧ X.H₀ b = none
  bsz : X.base.objs.size ≤ X.s₀.heap.objs.size
  noex : ∀ b o, X.base.get? b = some o → b ∉ X.ex
  exfs : ∀ b ∈ X.ex, b ∉ X.fs
  funs : X.s₀.heap.FunFrames X.base X.outer
  frf : ∀ b ∈ X.fs, X.H₀ b = none
structure Inv (X : Cx) (pins : List (Addr × Obj)) (σ : List (Option V)) (H : Hp) (s : Shared) : Prop where
  ok : X.Ok
  os : s.os = X.s₀.os
  bare : AllBare s.gens
  base : Un X.fs X.ex X.H₀ H X.s₀.heap s.heap
  loc : ∃ m, s.heap.Ns X.env.locals m ∧ ∀ (i : Nat) (x : Str) (v : V), X.N[i]? = some x → σ[i]? = some (some v) → Vis X.env.scope x → ∃ u, RelV v u ∧ Look X.env s.heap m x u
  cell : ∀ x c, X.env.cells.lookup x = some c → ∃ v, s.heap.IsCell c v
  free : H X.env.locals = none
  freeC : ∀ x c, X.env.cells.lookup x = some c → H c = none
  pin : ∀ p ∈ X.pn ++ pins, s.heap.get? p.1 = some p.2 ∧ H p.1 = none ∧ p.1 ≠ X.env.locals ∧ p.1 ∉ X.fs ∧ ∀ v, p.2.data ≠ .cell v
  hok : HOk X.prog X.w H s.heap
  len : σ.length = X.N.length
section
variable {X : Cx} {pins : List (Addr × Obj)} {σ : List (Option V)} {H H' : Hp} {s : Shared} {h' : Heap}
theorem Cx.Ok.nofr (ok : X.Ok) {b : Addr} {o : Obj} (e : X.base.get? b = some o) : b ∉ X.fs := fun hb => by
  have := (ok.funs.mem hb).1
  rw [e] at this; cases this
theorem Inv.bs (I : Inv X pins σ H s) : ∀ b o, X.base.get? b = some o → s.heap.get? b = some o ∧ H b = none := fun b o e =>
  ⟨I.base.keep b o (I.ok.bs b o e).1 (I.ok.bs b o e).2 (I.ok.nofr e) (I.ok.noex b o e), I.base.free b o (I.ok.bs b o e).1 (I.ok.bs b o e).2 (I.ok.noex b o e)⟩
theorem Inv.bk (I : Inv X pins σ H s) : ∀ b o, X.base.get? b = some o → s.heap.get? b = some o := fun b o e => (I.bs b o e).1
theorem Inv.mod (I : Inv X pins σ H s) : Mod X.K X.mg X.base := I.ok.mod
theorem Inv.kIn (I : Inv X pins σ H s) : X.K.In s.heap := I.ok.mod.kin.keeps I.bk
theorem Inv.lt (I : Inv X pins σ H s) : X.env.locals < s.heap.objs.size := let ⟨_, hn, _⟩ := I.loc; hn.lt
theorem Inv.sz (I : Inv X pins σ H s) : X.s₀.heap.objs.size ≤ s.heap.objs.size := Nat.le_trans I.ok.above (Nat.le_of_lt I.lt)
theorem Inv.nofs (I : Inv X pins σ H s) {a : Addr} (h : s.heap.objs.size ≤ a) : a ∉ X.fs := fun hb => by
  obtain ⟨_, o, ho, _⟩ := I.ok.funs.mem hb
  exact absurd (Nat.lt_of_lt_of_le (Heap.lt_size ho) (Nat.le_trans I.sz h)) (Nat.lt_irrefl _)
theorem Inv.cne (I : Inv X pins σ H s) : ∀ x c, X.env.cells.lookup x = some c → c ≠ X.env.locals := fun x c e z => by
  obtain ⟨v, o, ho, hd⟩ := I.cell x c e
  obtain ⟨m, ⟨o', es, ep, ho', hd', _⟩, _⟩ := I.loc
  rw [z, ho'] at ho; cases ho; rw [hd'] at hd; cases hd
theorem Inv.funs (I : Inv X pins σ H s) : s.heap.FunFrames X.base X.outer := by
  have all : ∀ (l : List Env), (∀ b ∈ frs l, b ∈ X.fs) → X.s₀.heap.FunFrames X.base l → s.heap.FunFrames X.base l := by
    intro l
    induction l with
    | nil => intro _ _; trivial
    | cons env r ih =>
      intro hs hl
      obtain ⟨hk, ⟨L, o, hf, hn, ho, hd⟩, hr⟩ := hl
      have hL : L ∈ X.fs := hs L (by unfold frs; rw [List.filterMap_cons, hf]; exact List.mem_cons_self)
      obtain ⟨sl, e⟩ := I.base.slot L o ho (I.ok.frf L hL) hL fun z => I.ok.exfs L z hL
      exact ⟨hk, ⟨L, _, hf, hn, e, hd⟩, ih (fun b hb => hs b (by unfold frs; rw [List.filterMap_cons, hf]; exact List.mem_cons_of_mem _ hb)) hr⟩
  exact all X.outer (fun _ hb => hb) I.ok.funs
theorem Inv.stack (I : Inv X pins σ H s) : s.heap.FunFrames X.base X.stack := by
  rcases I.ok.stk with e | ⟨e, hf⟩
  · rw [e]; exact I.funs
  · rw [e]
    obtain ⟨m, hn, _⟩ := I.loc
    refine .cons (by rw [I.ok.kind]; decide) hf hn ?_ I.funs
    exact Heap.get?_none_of_le (Nat.le_trans I.ok.bsz I.ok.above)
theorem Inv.stkSub (I : Inv X pins σ H s) : ∀ b ∈ frs X.stack, b ∈ X.env.locals :: X.fs := fun b hb => by
  rcases I.ok.stk with e | ⟨e, hf⟩
  · rw [e] at hb; exact List.mem_cons_of_mem _ hb
  · rw [e] at hb
    unfold frs at hb
    rw [List.filterMap_cons, hf] at hb
    exact hb
theorem Inv.stkFree (I : Inv X pins σ H s) : ∀ b ∈ frs X.stack, H b = none := fun b hb => by
  rcases List.mem_cons.mp (I.stkSub b hb) with e | hb
  · rw [e]; exact I.free
  · obtain ⟨_, o, ho, _⟩ := I.ok.funs.mem hb
    exact I.base.free b o ho (I.ok.frf b hb) fun z => I.ok.exfs b z hb
theorem Inv.step {g' : Array GenState} {t' : Nat} {d' : Drawn} {ch : List Addr} (I : Inv X pins σ H s)
    (hch : ∀ b ∈ ch, (b ∈ X.ex ∨ X.s₀.heap.objs.size ≤ b) ∧ b ≠ X.env.locals ∧ (∀ x c, X.env.cells.lookup x = some c → c ≠ b) ∧ ∀ p ∈ X.pn ++ pins, p.1 ≠ b)
    (keep : ∀ b o, b ≠ X.env.locals → b ∉ X.fs → b ∉ ch → s.heap.get? b = some o → H b = none → h'.get? b = some o)
    (slot : ∀ b o, b ≠ X.env.locals → b ∈ X.fs → b ∉ ch → s.heap.get? b = some o → H b = none → ∃ sl, h'.get? b = some { o with slots := sl }) (free : ∀ b o, b ∉ ch → s.heap.get? b = some o → H b = none → H' b = none)
    (there : ∀ b o, b ∉ ch → s.heap.get? b = some o → ∃ o', h'.get? b = some o')
    (tups : ∀ b xs, H b = some (.tup xs) → H' b = some (.tup xs)) (frzs : ∀ b o u, H b = some (.frz o u) → H' b = some (.frz o u)) (tbls : ∀ b ps, H b = some (.tbl ps) → ∃ more, H' b = some (.tbl (ps ++ more)))
    (ns : ∀ m, s.heap.Ns X.env.locals m → h'.Ns X.env.locals m) (hok : HOk X.prog X.w H' h') (hg : AllBare g') :
    Inv X pins σ H' { s with heap := h', gens := g', drawn := d', toks := t' } := by
  have neL : ∀ b o, X.s₀.heap.get? b = some o → b ≠ X.env.locals := fun b o e => Nat.ne_of_lt (Nat.lt_of_lt_of_le (Heap.lt_size e) I.ok.above)
  have neC : ∀ b o, X.s₀.heap.get? b = some o → b ∉ X.ex → b ∉ ch := fun b o e hx hb => by
    rcases (hch b hb).1 with z | z
    · exact hx z
    · exact absurd (Nat.lt_of_lt_of_le (Heap.lt_size e) z) (Nat.lt_irrefl _)
  have cellK : ∀ x c, X.env.cells.lookup x = some c → ∀ v, s.heap.IsCell c v → h'.IsCell c v := fun x c e v zz => by
    obtain ⟨o, ho, hd⟩ := zz
    have nch : c ∉ ch := fun z => (hch c z).2.2.1 x c e rfl
    by_cases hc : c ∈ X.fs
    · obtain ⟨sl, q⟩ := slot c o (I.cne x c e) hc nch ho (I.freeC x c e)
      exact ⟨_, q, hd⟩
    · exact ⟨o, keep c o (I.cne x c e) hc nch ho (I.freeC x c e), hd⟩
  refine ⟨I.ok, I.os, hg, ⟨fun b o e n hb hx => ?_, fun b o e n hb hx => ?_, fun b o e n hx => ?_, fun b o e hx => ?_, fun b xs e => tups b xs (I.base.tups b xs e), fun b o xs e => frzs b o xs (I.base.frzs b o xs e), fun b ps e => ?_⟩, ?_, fun x c e => ?_, ?_, fun x c e => ?_, fun p hp => ?_, hok, I.len⟩
  · exact keep b o (neL b o e) hb (neC b o e hx) (I.base.keep b o e n hb hx) (I.base.free b o e n hx)
  · obtain ⟨sl, e1⟩ := I.base.slot b o e n hb hx
    obtain ⟨sl', e2⟩ := slot b _ (neL b o e) hb (neC b o e hx) e1 (I.base.free b o e n hx)
    exact ⟨sl', e2⟩
  · obtain ⟨o', e1⟩ := I.base.there b o e hx
    exact free b o' (neC b o e hx) e1 (I.base.free b o e n hx)
  · obtain ⟨o', e1⟩ := I.base.there b o e hx
    exact there b o' (neC b o e hx) e1
  · obtain ⟨m1, e1⟩ := I.base.tbls b ps e
    obtain ⟨m2, e2⟩ := tbls b _ e1
    exact ⟨m1 ++ m2, by rw [e2, Array.append_assoc]⟩
  · obtain ⟨m, hn, hl⟩ := I.loc
    refine ⟨m, ns m hn, fun i x v e1 e2 e3 => ?_⟩
    obtain ⟨u, r, l⟩ := hl i x v e1 e2 e3
    refine ⟨u, r, ?_⟩
    rcases l with l | ⟨k, c, e, z⟩
    · exact .inl l
    · exact .inr ⟨k, c, e, cellK x c e _ z⟩
  · obtain ⟨v, z⟩ := I.cell x c e
    exact ⟨v, cellK x c e v z⟩
  · obtain ⟨m, ⟨o, _, _, ho, _⟩, _⟩ := I.loc
    exact free _ o (fun z => (hch _ z).2.1 rfl) ho I.free
  · obtain ⟨v, o, ho, hd⟩ := I.cell x c e
    exact free c o (fun z => (hch c z).2.2.1 x c e rfl) ho (I.freeC x c e)
  · obtain ⟨e, n, ne, nf, d⟩ := I.pin p hp
    have nch : p.1 ∉ ch := fun z => (hch p.1 z).2.2.2 p hp rfl
    exact ⟨keep p.1 p.2 ne nf nch e n, free p.1 p.2 nch e n, ne, nf, d⟩
theorem Inv.un {t' : Nat} (I : Inv X pins σ H s) (u : Un X.fs [] H H' s.heap h') (hok : HOk X.prog X.w H' h') : Inv X pins σ H' { s with heap := h', toks := t' } := by
  obtain ⟨m, ⟨o, es, ep, ho, r⟩, _⟩ := id I.loc
  obtain ⟨sl, hL⟩ := u.any ho I.free (by simp)
  exact I.step (g' := s.gens) (d' := s.drawn) (ch := []) (fun _ z => nomatch z) (fun b o _ hb _ e n => u.keep b o e n hb (by simp)) (fun b o _ hb _ e n => u.slot b o e n hb (by simp)) (fun b o _ e n => u.free b o e n (by simp)) (fun b o _ e => u.there b o e (by simp)) u.tups u.frzs u.tbls (fun m' hm => by
    obtain ⟨o', es', ep', ho', r'⟩ := hm
    rw [ho] at ho'; cases ho'
    exact ⟨_, es', ep', hL, r'⟩) hok I.bare
theorem Inv.call {g' : Array GenState} {t' : Nat} {d' : Drawn} {ch : List Addr} (I : Inv X pins σ H s) (u : Un (frs X.stack) ch H H' s.heap h') (hok : HOk X.prog X.w H' h') (hg : AllBare g')
    (hch : ∀ b ∈ ch, (b ∈ X.ex ∨ X.s₀.heap.objs.size ≤ b) ∧ b ≠ X.env.locals ∧ (∀ x c, X.env.cells.lookup x = some c → c ≠ b) ∧ ∀ p ∈ X.pn ++ pins, p.1 ≠ b) :
    Inv X pins σ H' { s with heap := h', gens := g', drawn := d', toks := t' } := by
  obtain ⟨m, ⟨o, es, ep, ho, r⟩, _⟩ := id I.loc
  obtain ⟨sl, hL⟩ := u.any ho I.free fun z => (hch _ z).2.1 rfl
  exact I.step (ch := ch) hch (fun b o hL hb hc e n => u.keep b o e n (fun z => (List.mem_cons.mp (I.stkSub b z)).elim hL hb) hc) (fun b o _ _ hc e n => u.any e n hc) (fun b o hc e n => u.free b o e n hc) (fun b o hc e => u.there b o e hc) u.tups u.frzs u.tbls (fun m' hm => by
    obtain ⟨o', es', ep', ho', r'⟩ := hm
    rw [ho] at ho'; cases ho'
    exact ⟨_, es', ep', hL, r'⟩) hok hg
theorem Inv.turned {t' : Nat} {it : Addr} (I : Inv X pins σ H s) (k : ∀ b o, b ≠ it → s.heap.get? b = some o → h'.get? b = some o) (hn : H it = none) (hL : it ≠ X.env.locals)
    (h1 : it ∈ X.ex ∨ X.s₀.heap.objs.size ≤ it) (h2 : ∀ x c, X.env.cells.lookup x = some c → c ≠ it) (h3 : ∀ p ∈ X.pn ++ pins, p.1 ≠ it) : Inv X pins σ H { s with heap := h', toks := t' } := by
  have nit : ∀ b u, H b = some u → b ≠ it := fun b u e z => by rw [z, hn] at e; cases e
  refine I.step (g' := s.gens) (d' := s.drawn) (ch := [it]) (fun b hb => ?_) (fun b o _ _ hc e _ => k b o (fun z => hc (by simp [z])) e) (fun b o _ _ hc e _ => ⟨o.slots, k b o (fun z => hc (by simp [z])) e⟩) (fun _ _ _ _ n => n)
    (fun b o hc e => ⟨o, k b o (fun z => hc (by simp [z])) e⟩) (fun _ _ e => e) (fun _ _ _ e => e) (fun b ps e => ⟨#[], by rw [e]; simp⟩) (fun m hm => ?_) (fun b u e => ?_) I.bare
  · have e : b = it := by simpa using hb
    subst e
    exact ⟨h1, hL, h2, h3⟩
  · obtain ⟨o, es, ep, ho, r⟩ := hm
    exact ⟨o, es, ep, k _ o (Ne.symm hL) ho, r⟩
  · refine (I.hok b u e).stay (fun c v hc q => k c v ?_ q) (fun _ q => q) fun _ _ q => q
    rcases hc with z | z
    · rw [z]; exact nit b u e
    · exact nit c _ z
theorem Inv.tok (I : Inv X pins σ H s) (t : Nat) : Inv X pins σ H { s with toks := t } := I.un (h' := s.heap) (t' := t) Un.refl I.hok
theorem Inv.kept {t' : Nat} (I : Inv X pins σ H s) (k : ∀ b u, s.heap.get? b = some u → h'.get? b = some u) : Inv X pins σ H { s with heap := h', toks := t' } := I.un (Un.kept k) (I.hok.kept k)
theorem Inv.laid {a : Addr} {o : HO} {t' : Nat} (I : Inv X pins σ H s) (k : ∀ b u, s.heap.get? b = some u → h'.get? b = some u) (hp : s.heap.objs.size ≤ a) (new : ObjOk X.prog X.w (upd H a o) h' a o) :
    Inv X pins σ (upd H a o) { s with heap := h', toks := t' } := I.un (Un.laid k hp (I.hok.fresh hp)) (I.hok.laid k hp new)
theorem Inv.write {x e : Addr} {o : HO} {t' : Nat} (I : Inv X pins σ H s) (mu : Mut (H x)) (he : e = x ∨ H e = some (.own x)) (k : ∀ b u, b ≠ e → s.heap.get? b = some u → h'.get? b = some u) (heo : ∃ u, h'.get? e = some u)
    (new : ObjOk X.prog X.w (upd H x o) h' x o) : Inv X pins σ (upd H x o) { s with heap := h', toks := t' } := I.un (Un.write mu he k heo) (I.hok.write mu he k heo new)
theorem Inv.weak {σ' : List (Option V)} (I : Inv X pins σ H s) (hl : σ'.length = σ.length) (w : ∀ (i : Nat) v, σ'[i]? = some (some v) → σ[i]? = some (some v)) : Inv X pins σ' H s :=
  ⟨I.ok, I.os, I.bare, I.base, let ⟨m, hn, hl'⟩ := I.loc; ⟨m, hn, fun i x v e1 e2 e3 => hl' i x v e1 (w i v e2) e3⟩, I.cell, I.free, I.freeC, I.pin, I.hok, hl.trans I.len⟩
theorem Inv.pins_of {pins' : List (Addr × Obj)} (I : Inv X pins σ H s) (h : ∀ p ∈ pins', s.heap.get? p.1 = some p.2 ∧ H p.1 = none ∧ p.1 ≠ X.env.locals ∧ p.1 ∉ X.fs ∧ ∀ v, p.2.data ≠ .cell v) : Inv X pins' σ H s :=
  ⟨I.ok, I.os, I.bare, I.base, I.loc, I.cell, I.free, I.freeC, fun p hp => (List.mem_append.mp hp).elim (fun z => I.pin p (List.mem_append_left _ z)) (h p), I.hok, I.len⟩
theorem nodup_ix {N : List Str} (hN : N.Nodup) {i j : Nat} {x : Str} (a : N[i]? = some x) (b : N[j]? = some x) : i = j := by
  obtain ⟨h1, e1⟩ := List.getElem?_eq_some_iff.mp a
  obtain ⟨h2, e2⟩ := List.getElem?_eq_some_iff.mp b
  exact (List.getElem_inj hN).mp (e1.trans e2.symm)
theorem store_ok2 {M : Model} {A : Around} {E : Value → Shared → Prop} {i : Nat} {x : Str} {v : V} {u : Value} {Q : Unit → Shared → Prop} (I : Inv X pins σ H s) (hN : X.N.Nodup) (hi : X.N[i]? = some x) (hx : Loc X.env.scope x) (r : RelV v u)
    (h : ∀ s', Inv X pins (σ.set i (some v)) H s' → (∃ a, Heap.SameBut a s.heap s'.heap ∧ (a = X.env.locals ∨ X.env.cells.lookup x = some a)) → Q () s') (hf : X.fn x = true ∨ X.env.scope.names.lookup x = some .local := by first | exact .inl rfl | exact .inr rfl | assumption) : wpAny M A (storeName X.env x u) Q E s := by
  obtain ⟨m, hn, hl⟩ := id I.loc
  have hcls : (X.env.scope.kind == .class || (X.env.scope.kind == .module && X.env.locals != X.env.globals)) = false := by rw [I.ok.kind]; rfl
  have hiσ : i < σ.length := by rw [I.len]; exact (List.getElem?_eq_some_iff.mp hi).1
  have cne := I.cne
  have tracked : ∀ {a : Addr} {h' : Heap}, (∃ o, s.heap.get? a = some o ∧ H a = none) → Heap.SameBut a s.heap h' → HOk X.prog X.w H h' := fun {a h'} ha hs b ob e => by
    obtain ⟨_, _, hfree⟩ := ha
    refine (I.hok b ob e).stay (fun c w' hc q => (hs.2 c ?_).trans q) (fun _ q => q) fun _ _ q => q
    rintro rfl
    rcases hc with rfl | hc
    · rw [hfree] at e; cases e
    · rw [hfree] at hc; cases hc
  rcases hx with hk | hk
  · refine wpAny_storeName_local hk hn (fun h' hn' hs => ?_) hcls
    obtain ⟨oL, _, _, hoL, _⟩ := id hn
    refine h _ ⟨I.ok, I.os, I.bare, ⟨fun b o e n hb hx => ?_, fun b o e n hb hx => ?_, I.base.free, fun b o e hx => ?_, I.base.tups, I.base.frzs, I.base.tbls⟩, ⟨_, hn', fun j y v' e1 e2 e3 => ?_⟩, fun y c e => ?_, I.free, I.freeC, fun p hp => ?_, tracked ⟨oL, hoL, I.free⟩ hs, by simpa using I.len⟩ ⟨_, hs, .inl rfl⟩
    · exact (hs.2 b (Nat.ne_of_lt (Nat.lt_of_lt_of_le (Heap.lt_size e) I.ok.above))).trans (I.base.keep b o e n hb hx)
    · obtain ⟨sl, e1⟩ := I.base.slot b o e n hb hx
      exact ⟨sl, (hs.2 b (Nat.ne_of_lt (Nat.lt_of_lt_of_le (Heap.lt_size e) I.ok.above))).trans e1⟩
    · obtain ⟨o', e1⟩ := I.base.there b o e hx
      exact ⟨o', (hs.2 b (Nat.ne_of_lt (Nat.lt_of_lt_of_le (Heap.lt_size e) I.ok.above))).trans e1⟩
    · by_cases hj : j = i
      · subst hj
        rw [hi] at e1; cases e1
        rw [List.getElem?_set_self hiσ] at e2
        cases e2
        exact ⟨u, r, .inl ⟨hk, by simp⟩⟩
      · rw [List.getElem?_set_ne (Ne.symm hj)] at e2
        obtain ⟨u', r', q⟩ := hl j y v' e1 e2 e3
        refine ⟨u', r', ?_⟩
        rcases q with ⟨k, e⟩ | ⟨k, c, e, z⟩
        · refine .inl ⟨k, ?_⟩
          have : y ≠ x := fun e => hj (nodup_ix hN e1 (e ▸ hi))
          simp [this, e]
        · exact .inr ⟨k, c, e, z.sameBut hs (cne y c e)⟩
    · obtain ⟨w', z⟩ := I.cell y c e
      exact ⟨w', z.sameBut hs (cne y c e)⟩
    · obtain ⟨e, n, ne, nf, d⟩ := I.pin p hp
      exact ⟨(hs.2 p.1 ne).trans e, n, ne, nf, d⟩
  · have hfn : X.fn x = true := by
      rcases hf with z | z
      · exact z
      · rw [z] at hk; cases hk
    obtain ⟨c, hc⟩ := I.ok.has x (.inl hk)
    obtain ⟨w', z⟩ := I.cell x c hc
    refine wpAny_storeName_cell I.ok.kind hk hc z (fun h' hc' hs => ?_)
    obtain ⟨oc, hoc, hocd⟩ := id z
    refine h { s with heap := h' } ⟨I.ok, I.os, I.bare, ⟨fun b o e n hb hx => ?_, fun b o e n hb hx => ?_, I.base.free, fun b o e hx => ?_, I.base.tups, I.base.frzs, I.base.tbls⟩, ⟨m, hn.sameBut hs (Ne.symm (cne x c hc)), fun j y v' e1 e2 e3 => ?_⟩, fun y c' e => ?_, I.free, I.freeC, fun p hp => ?_, tracked ⟨oc, hoc, I.freeC x c hc⟩ hs, by simpa using I.len⟩ ⟨c, hs, .inr hc⟩
    · exact (hs.2 b (Nat.ne_of_lt (Nat.lt_of_lt_of_le (Heap.lt_size e) (I.ok.cab x c hfn hc)))).trans (I.base.keep b o e n hb hx)
    · obtain ⟨sl, e1⟩ := I.base.slot b o e n hb hx
      exact ⟨sl, (hs.2 b (Nat.ne_of_lt (Nat.lt_of_lt_of_le (Heap.lt_size e) (I.ok.cab x c hfn hc)))).trans e1⟩
    · obtain ⟨o', e1⟩ := I.base.there b o e hx
      exact ⟨o', (hs.2 b (Nat.ne_of_lt (Nat.lt_of_lt_of_le (Heap.lt_size e) (I.ok.cab x c hfn hc)))).trans e1⟩
    · by_cases hj : j = i
      · subst hj
        rw [hi] at e1; cases e1
        rw [List.getElem?_set_self hiσ] at e2
        cases e2
        exact ⟨u, r, .inr ⟨.inl hk, c, hc, hc'⟩⟩
      · rw [List.getElem?_set_ne (Ne.symm hj)] at e2
        obtain ⟨u', r', q⟩ := hl j y v' e1 e2 e3
        refine ⟨u', r', ?_⟩
        rcases q with q | ⟨k, c', e, z'⟩
        · exact .inl q
        · refine .inr ⟨k, c', e, z'.sameBut hs ?_⟩
          rintro rfl
          exact hj (nodup_ix hN e1 (I.ok.inj _ _ _ e hc ▸ hi))
    · by_cases hcc : c' = c
      · subst hcc; exact ⟨_, hc'⟩
      · obtain ⟨w2, z2⟩ := I.cell y c' e
        exact ⟨w2, z2.sameBut hs hcc⟩
    · obtain ⟨e, n, ne, nf, d⟩ := I.pin p hp
      refine ⟨(hs.2 p.1 ?_).trans e, n, ne, nf, d⟩
      intro q
      rw [q, hoc] at e
      have q' : oc = p.2 := Option.some.inj e
      exact d w' (by rw [← q']; exact hocd)
theorem store_ok {M : Model} {A : Around} {E : Value → Shared → Prop} {i : Nat} {x : Str} {v : V} {u : Value} {Q : Unit → Shared → Prop} (I : Inv X pins σ H s) (hN : X.N.Nodup) (hi : X.N[i]? = some x) (hx : Loc X.env.scope x) (r : RelV v u)
    (h : ∀ s', Inv X pins (σ.set i (some v)) H s' → Q () s') (hf : X.fn x = true ∨ X.env.scope.names.lookup x = some .local := by first | exact .inl rfl | exact .inr rfl | assumption) : wpAny M A (storeName X.env x u) Q E s :=
  store_ok2 I hN hi hx r (fun s' I' _ => h s' I') hf
theorem Inv.call' {s' : Shared} {ch : List Addr} (I : Inv X pins σ H s) (ho : s'.os = s.os) (u : Un (frs X.stack) ch H H' s.heap s'.heap) (hok : HOk X.prog X.w H' s'.heap) (hg : AllBare s'.gens)
    (hch : ∀ b ∈ ch, (b ∈ X.ex ∨ X.s₀.heap.objs.size ≤ b) ∧ b ≠ X.env.locals ∧ (∀ x c, X.env.cells.lookup x = some c → c ≠ b) ∧ ∀ p ∈ X.pn ++ pins, p.1 ≠ b) : Inv X pins σ H' s' := by
  obtain ⟨h', g', d', t', o'⟩ := s'
  have e : o' = s.os := ho
  subst e
  exact I.call (g' := g') (t' := t') (d' := d') u hok hg hch
end
noncomputable abbrev XK := Value → Option Addr → Hp → Prop
noncomputable abbrev St := List (Option V)
noncomputable abbrev VK := V → Hp → Prop
noncomputable abbrev TE := St → Hp → VK → Prop
noncomputable abbrev TT := St → Hp → (Bool → Hp → Prop) → Prop
noncomputable abbrev TA := St → Hp → (List V → Hp → Prop) → Prop
structure Ends where
  nx : St → Hp → Prop
  rt : VK
  bk : St → Hp → Prop := fun _ _ => False
  ct : St → Hp → Prop := fun _ _ => False
noncomputable abbrev TS := Ends → St → Hp → Prop
noncomputable def EP (X : Cx) (pins : List (Addr × Obj)) (σ : St) (Q : VK) (u : Value) (s' : Shared) : Prop := ∃ v H', Inv X pins σ H' s' ∧ RelV v u ∧ Q v H'
noncomputable def TP (X : Cx) (pins : List (Addr × Obj)) (σ : St) (Q : Bool → Hp → Prop) (b : Bool) (s' : Shared) : Prop := ∃ H', Inv X pins σ H' s' ∧ Q b H'
noncomputable def AP (X : Cx) (pins : List (Addr × Obj)) (σ : St) (Q : List V → Hp → Prop) (us : List Value) (s' : Shared) : Prop := ∃ vs H', Inv X pins σ H' s' ∧ Vals vs us ∧ Q vs H'
noncomputable def SP (X : Cx) (pins : List (Addr × Obj)) (D : Ends) (f : Flow) (s' : Shared) : Prop :=
  match f with
  | .next => ∃ σ' H', Inv X pins σ' H' s' ∧ D.nx σ' H'
  | .brk => ∃ σ' H', Inv X pins σ' H' s' ∧ D.bk σ' H'
  | .cont => ∃ σ' H', Inv X pins σ' H' s' ∧ D.ct σ' H'
  | .ret u => ∃ v σ' H', Inv X pins σ' H' s' ∧ RelV v u ∧ D.rt v H'
noncomputable def PE (X : Cx) (e : Expr) (t : TE) : Prop :=
  ∀ (pins : List (Addr × Obj)) (s : Shared) (σ : St) (H : Hp) (Q : VK), Inv X pins σ H s → t σ H Q → wpAny (model X.prog X.w) X.A (eval e X.env) (EP X pins σ Q) X.xe s
noncomputable def PT (X : Cx) (e : Expr) (t : TT) : Prop :=
  ∀ (pins : List (Addr × Obj)) (s : Shared) (σ : St) (H : Hp) (Q : Bool → Hp → Prop), Inv X pins σ H s → t σ H Q → wpAny (model X.prog X.w) X.A (isTrue e X.env (eval e X.env)) (TP X pins σ Q) X.xe s
noncomputable def PW (X : Cx) (e : Expr) (t : TT) : Prop :=
  ∀ (whole : Sem Value) (pins : List (Addr × Obj)) (s : Shared) (σ : St) (H : Hp) (Q : Bool → Hp → Prop), Inv X pins σ H s → t σ H Q → wpAny (model X.prog X.w) X.A (isTrue e X.env whole) (TP X pins σ Q) X.xe s
theorem PW.pt {X : Cx} {e : Expr} {t : TT} (h : PW X e t) : PT X e t := h _
noncomputable def PA (X : Cx) (es : List Expr) (t : TA) : Prop :=
  ∀ (pos : Pos) (pins : List (Addr × Obj)) (s : Shared) (σ : St) (H : Hp) (Q : List V → Hp → Prop), Inv X pins σ H s → t σ H Q → wpAny (model X.prog X.w) X.A (spliced (backTo pos (starEach es X.env))) (AP X pins σ Q) X.xe s
noncomputable def PS (X : Cx) (st : Stmt) (t : TS) : Prop :=
  ∀ (pins : List (Addr × Obj)) (s : Shared) (σ : St) (H : Hp) (D : Ends), Inv X pins σ H s → t D σ H → wpAny (model X.prog X.w) X.A (exec st X.env) (SP X pins D) X.xe s
noncomputable def PSs (X : Cx) (st : List Stmt) (t : TS) : Prop :=
  ∀ (pins : List (Addr × Obj)) (s : Shared) (σ : St) (H : Hp) (D : Ends), Inv X pins σ H s → t D σ H → wpAny (model X.prog X.w) X.A (execs st X.env) (SP X pins D) X.xe s
theorem thn {α : Type} {t : Sem α} {Q Q' : α → Shared → Prop} {M : Model} {A : Around} {E : Value → Shared → Prop} {s : Shared} (h : wpAny M A t Q E s) (hQ : ∀ a s, Q a s → Q' a s) : wpAny M A t Q' E s := wpAny_mono h hQ fun _ _ x => x
end L2
namespace L2
open PySem PySem.Spec PyProof.Rows
section
variable {X : Cx}
noncomputable def tVar (i : Nat) : TE := fun σ H Q => ∃ v, σ[i]? = some (some v) ∧ Q v H
noncomputable def tC (v : V) : TE := fun _ H Q => Q v H
theorem pe_var {i : Nat} {x : Str} {pos : Pos} (hN : X.N[i]? = some x) (hv : Vis X.env.scope x) (hd : (x == ("__debug__" : Str)) = false := by decide) (hcd : (x == ("__classdict__" : Str)) = false := by decide) : PE X (.Name x pos) (tVar i) := by
  intro pins s σ H Q I h
  obtain ⟨v, e, h⟩ := h
  obtain ⟨m, hn, hl⟩ := I.loc
  obtain ⟨u, r, l⟩ := hl i x v hN e hv
  have fin : EP X pins σ Q u s := ⟨v, H, I, r, h⟩
  rcases l with ⟨hk, hm⟩ | ⟨hk, c, hc, hcell⟩
  · exact wpAny_Name (wpAny_loadName_local I.ok.kind hk hn hm fin) hd
  · rcases hk with hk | hk
    · exact wpAny_Name (wpAny_loadName_cell I.ok.kind hk hc hcell fin) hd
    · exact wpAny_Name (wpAny_loadName_free I.ok.kind hk hc hcell fin hcd) hd
theorem pe_int {i j pos} : PE X (.Constant (.int i) j pos) (tC (.int i)) := fun _ _ _ H _ I h => wpAny_Constant_int ⟨.int i, H, I.tok _, ⟨_, rfl⟩, h⟩
theorem pe_bl {b j pos} : PE X (.Constant (.bool b) j pos) (tC (.bl b)) := fun _ _ _ H _ I h => Constant_bool ⟨.bl b, H, I, rfl, h⟩
theorem pe_non {j pos} : PE X (.Constant .none j pos) (tC .non) := fun _ _ _ H _ I h => Constant_none ⟨.non, H, I, rfl, h⟩
theorem pe_str {x j pos} : PE X (.Constant (.str x) j pos) (tC (.str x)) := fun _ _ _ H _ I h => Calls.Constant_str ⟨.str x, H, I.tok _, ⟨_, rfl⟩, h⟩
noncomputable def Gl (X : Cx) (x : Str) : Prop := X.env.kindOf x = some .globalImplicit
theorem ld_glob {E : Value → Shared → Prop} {pins : List (Addr × Obj)} {s : Shared} {σ : St} {H : Hp} {x : Str} {u : Value} {pos : Pos} {Q : Value → Shared → Prop} (I : Inv X pins σ H s) (hg : Gl X x) (hm : X.mg x = some u) (h : Q u s)
    (hd : (x == ("__debug__" : Str)) = false := by decide) : wpAny (model X.prog X.w) X.A (eval (.Name x pos) X.env) Q E s :=
  Calls.Name_function_global I.ok.kind hg (Calls.loadGlobal_global (by rw [I.ok.glob]; exact I.mod.glob.keeps I.bk) hm h) hd
theorem ld_blt {E : Value → Shared → Prop} {pins : List (Addr × Obj)} {s : Shared} {σ : St} {H : Hp} {x : Str} {u : Value} {pos : Pos} {Q : Value → Shared → Prop} (I : Inv X pins σ H s) (hg : Gl X x) (hm : X.mg x = none) (hv : bootBuiltins x = some u) (h : Q u s)
    (hn : x ≠ "__name__" := by decide) (hd : (x == ("__debug__" : Str)) = false := by decide) : wpAny (model X.prog X.w) X.A (eval (.Name x pos) X.env) Q E s := by
  obtain ⟨mb, h1, h2⟩ := I.mod.blt
  exact Calls.Name_function_global I.ok.kind hg (Calls.loadGlobal_builtin (by rw [I.ok.glob]; exact I.mod.glob.keeps I.bk) hm (by rw [I.ok.blt]; exact h1.keeps I.bk) ((h2 x hn).trans hv) h) hd
theorem pe_glob {x : Str} {v : V} {u : Value} {pos : Pos} (hg : Gl X x) (hm : X.mg x = some u) (r : RelV v u) (hd : (x == ("__debug__" : Str)) = false := by decide) : PE X (.Name x pos) (tC v) :=
  fun _ _ _ H _ I h => ld_glob I hg hm ⟨v, H, I, r, h⟩ hd
theorem pe_bltn {x : Str} {v : V} {u : Value} {pos : Pos} (hg : Gl X x) (hm : X.mg x = none) (hv : bootBuiltins x = some u) (r : RelV v u) (hn : x ≠ "__name__" := by decide) (hd : (x == ("__debug__" : Str)) = false := by decide) : PE X (.Name x pos) (tC v) :=
  fun _ _ _ H _ I h => ld_blt I hg hm hv ⟨v, H, I, r, h⟩ hn hd
variable {a b : Expr} {ta tb : TE} {pos : Pos}
variable {tA tB' : TT} {rest : List Expr}
noncomputable def tAnd (t u : TT) : TT := fun σ H Q => t σ H fun c H1 => if c = true then u σ H1 Q else Q false H1
noncomputable def tOr (t u : TT) : TT := fun σ H Q => t σ H fun c H1 => if c = true then Q true H1 else u σ H1 Q
noncomputable def tNot (t : TT) : TT := fun σ H Q => t σ H fun c H1 => Q (!c) H1
theorem pw_and1 (ha : PT X a tA) : PW X (.BoolOp .And [a] pos) tA := by
  intro wh pins s σ H Q I h
  refine isTrue_and (thn (ha pins s σ H Q I h) fun c s1 e => ?_)
  cases c with
  | true => exact isTrue_and_nil e
  | false => exact e
theorem pw_or1 (ha : PT X a tA) : PW X (.BoolOp .Or [a] pos) tA := by
  intro wh pins s σ H Q I h
  refine isTrue_or (thn (ha pins s σ H Q I h) fun c s1 e => ?_)
  cases c with
  | false => exact isTrue_or_nil e
  | true => exact e
theorem pw_and (ha : PT X a tA) (hb : PW X (.BoolOp .And (b :: rest) pos) tB') : PW X (.BoolOp .And (a :: b :: rest) pos) (tAnd tA tB') := by
  intro wh pins s σ H Q I h
  refine isTrue_and (thn (ha pins s σ H _ I h) fun c s1 ⟨H1, I1, q1⟩ => ?_)
  cases c with
  | true => exact hb wh pins s1 σ H1 Q I1 q1
  | false => exact ⟨H1, I1, q1⟩
theorem pw_or (ha : PT X a tA) (hb : PW X (.BoolOp .Or (b :: rest) pos) tB') : PW X (.BoolOp .Or (a :: b :: rest) pos) (tOr tA tB') := by
  intro wh pins s σ H Q I h
  refine isTrue_or (thn (ha pins s σ H _ I h) fun c s1 ⟨H1, I1, q1⟩ => ?_)
  cases c with
  | true => exact ⟨H1, I1, q1⟩
  | false => exact hb wh pins s1 σ H1 Q I1 q1
theorem pt_not (ha : PT X a tA) : PT X (.UnaryOp .Not a pos) (tNot tA) := by
  intro pins s σ H Q I h
  exact isTrue_not (ha pins s σ H (fun c H1 => Q (!c) H1) I h)
noncomputable def tAndV (ta tb : TE) : TE := fun σ H Q => ta σ H fun x H1 => ∃ c, x = .bl c ∧ if c = true then tb σ H1 Q else Q (.bl false) H1
noncomputable def tNotV (ta : TE) : TE := fun σ H Q => ta σ H fun x H1 => ∃ c, x = .bl c ∧ Q (.bl (!c)) H1
theorem pe_one {op} {t : TE} (h : PE X a t) : PE X (.BoolOp op [a] pos) t := fun pins s σ H Q I hw => BoolOp_one (h pins s σ H Q I hw)
theorem pe_and (ha : PE X a ta) (hb : PE X (.BoolOp .And (b :: rest) pos) tb) : PE X (.BoolOp .And (a :: b :: rest) pos) (tAndV ta tb) := by
  intro pins s σ H Q I h
  refine BoolOp_and (thn (ha pins s σ H _ I h) fun v s1 ⟨x, H1, I1, r1, q1⟩ => ?_)
  obtain ⟨c, rfl, q1⟩ := q1
  cases r1
  refine wpAny_truthy_bool ?_
  cases c with
  | true => exact hb pins s1 σ H1 Q I1 q1
  | false => exact ⟨.bl false, H1, I1, rfl, q1⟩
theorem pe_not (ha : PE X a ta) : PE X (.UnaryOp .Not a pos) (tNotV ta) := by
  intro pins s σ H Q I h
  refine UnaryOp_ (thn (ha pins s σ H _ I h) fun v s1 ⟨x, H1, I1, r1, q1⟩ => ?_)
  obtain ⟨c, rfl, q1⟩ := q1
  cases r1
  exact not_of (wpAny_truthy_bool ⟨.bl (!c), H1, I1, rfl, q1⟩)
noncomputable def tIf (t : TT) (ta tb : TE) : TE := fun σ H Q => t σ H fun c H1 => if c = true then ta σ H1 Q else tb σ H1 Q
theorem pe_ifExp {c : Expr} (hc : PT X c tA) (ha : PE X a ta) (hb : PE X b tb) : PE X (.IfExp c a b pos) (tIf tA ta tb) := by
  intro pins s σ H Q I h
  refine wpAny_IfExp (thn (hc pins s σ H _ I h) fun d s1 ⟨H1, I1, q1⟩ => ?_)
  cases d with
  | true => exact ha pins s1 σ H1 Q I1 q1
  | false => exact hb pins s1 σ H1 Q I1 q1
end
end L2
namespace L2
open PySem PySem.Spec PyProof.Rows
noncomputable def SqL (K : PySem.W.Frag) (H : Hp) (a : Addr) (xs : List V) : Prop :=
  Rd H a (.lst xs) ∨
    ∃ (o : Obj) (its : Array Value) (n : Nat), K.lookup a = some o ∧ o.cls = .type "list" ∧ o.dict = none ∧ o.data = .seq its n ∧ its.size ≤ sizeLine ∧ Vals xs its.toList
noncomputable def SqT (K : PySem.W.Frag) (H : Hp) (a : Addr) (xs : List V) : Prop :=
  Rd H a (.tup xs) ∨
    ∃ (o : Obj) (its : Array Value) (n : Nat), K.lookup a = some o ∧ o.cls = .type "tuple" ∧ o.data = .seq its n ∧ its.size ≤ sizeLine ∧ Vals xs its.toList
noncomputable def absV : Value → Option V
  | .none => some .non
  | .bool b => some (.bl b)
  | .int i _ => some (.int i)
  | .str x _ => some (.str x)
  | .bytes b _ => some (.byt b)
  | .float b _ => some (.flt b)
  | .ref a => some (.ref a)
  | .type n => some (.ty n)
  | _ => none
theorem RelV.abs {x : V} {u : Value} (r : RelV x u) : absV u = some x := by
  cases x with
  | non => cases r; rfl
  | bl _ => cases r; rfl
  | int _ => obtain ⟨t, rfl⟩ := r; rfl
  | str _ => obtain ⟨t, rfl⟩ := r; rfl
  | byt _ => obtain ⟨t, rfl⟩ := r; rfl
  | flt _ => obtain ⟨t, rfl⟩ := r; rfl
  | ref _ => cases r; rfl
  | ty _ => cases r; rfl
theorem RelV.inj {x y : V} {u : Value} (r : RelV x u) (q : RelV y u) : x = y := Option.some.inj (r.abs.symm.trans q.abs)
theorem Vals.inj : ∀ {xs ys : List V} {us : List Value}, Vals xs us → Vals ys us → xs = ys
  | _, _, _, .nil, .nil => rfl
  | _, _, _, .cons r t, .cons r' t' => by rw [r.inj r', Vals.inj t t']
section
variable {X : Cx} {pins : List (Addr × Obj)} {σ : St} {H : Hp} {s : Shared} {a : Addr} {xs ys : List V}
theorem SqL.of {K : PySem.W.Frag} (h : H a = some (.lst xs)) : SqL K H a xs := .inl (.inl h)
theorem Inv.list (I : Inv X pins σ H s) (h : SqL X.K H a xs) : ∃ its : List Value, Vals xs its ∧ PlainL s.heap a its.toArray ∧ xs.length ≤ sizeLine := by
  rcases h with h | ⟨o, its, n, hk, hc, hd, hs, hz, r⟩
  · obtain ⟨z, its, n, r, e⟩ := h.ok I.hok
    exact ⟨its, r, ⟨_, n, e, rfl, rfl, rfl⟩, z⟩
  · refine ⟨its.toList, r, ⟨o, n, I.kIn a o hk, hc, hd, by simpa using hs⟩, ?_⟩
    have e := r.length
    simp only [Array.length_toList] at e
    omega
theorem Inv.tuple (I : Inv X pins σ H s) (h : SqT X.K H a xs) : ∃ its : List Value, Vals xs its ∧ IsTup s.heap a its.toArray ∧ xs.length ≤ sizeLine := by
  rcases h with h | ⟨o, its, n, hk, hc, hs, hz, r⟩
  · obtain ⟨z, its, r, p⟩ := h.ok I.hok
    exact ⟨its, r, p, z⟩
  · refine ⟨its.toList, r, ⟨o, I.kIn a o hk, hc, n, by simpa using hs⟩, ?_⟩
    have e := r.length
    simp only [Array.length_toList] at e
    omega
theorem Inv.list_inj (I : Inv X pins σ H s) (h : SqL X.K H a xs) (h' : SqL X.K H a ys) : xs = ys := by
  obtain ⟨its, r, ⟨o, n, e, _, _, d⟩, _⟩ := I.list h
  obtain ⟨its', r', ⟨o', n', e', _, _, d'⟩, _⟩ := I.list h'
  rw [e] at e'; cases e'
  rw [d] at d'
  injection d' with d1 _
  have : its = its' := by simpa using congrArg Array.toList d1
  subst this
  exact r.inj r'
theorem Inv.tuple_inj (I : Inv X pins σ H s) (h : SqT X.K H a xs) (h' : SqT X.K H a ys) : xs = ys := by
  obtain ⟨its, r, ⟨o, e, _, n, d⟩, _⟩ := I.tuple h
  obtain ⟨its', r', ⟨o', e', _, n', d'⟩, _⟩ := I.tuple h'
  rw [e] at e'; cases e'
  rw [d] at d'
  injection d' with d1 _
  have : its = its' := by simpa using congrArg Array.toList d1
  subst this
  exact r.inj r'
end
noncomputable abbrev Cx.wish (X : Cx) (E : Value → Shared → Prop) : Cx := { X with xe := E }
noncomputable abbrev Cx.nox (X : Cx) : Cx := X.wish fun _ _ => False
theorem Cx.Ok.wish {X : Cx} (ok : X.Ok) (E : Value → Shared → Prop) : (X.wish E).Ok :=
  ⟨ok.mod, ok.kind, ok.glob, ok.blt, ok.above, ok.inj, ok.has, ok.cab, ok.hd, ok.frames, ok.stk, ok.exf, ok.bs, ok.bsz, ok.noex, ok.exfs, ok.funs, ok.frf⟩
theorem Cx.Ok.unwish {X : Cx} {E : Value → Shared → Prop} (ok : (X.wish E).Ok) : X.Ok :=
  ⟨ok.mod, ok.kind, ok.glob, ok.blt, ok.above, ok.inj, ok.has, ok.cab, ok.hd, ok.frames, ok.stk, ok.exf, ok.bs, ok.bsz, ok.noex, ok.exfs, ok.funs, ok.frf⟩
section
variable {X : Cx} {pins : List (Addr × Obj)} {σ : St} {H : Hp} {s : Shared} {E : Value → Shared → Prop}
theorem Inv.wish (I : Inv X pins σ H s) (E : Value → Shared → Prop) : Inv (X.wish E) pins σ H s := ⟨I.ok.wish E, I.os, I.bare, I.base, I.loc, I.cell, I.free, I.freeC, I.pin, I.hok, I.len⟩
theorem Inv.unwish (I : Inv (X.wish E) pins σ H s) : Inv X pins σ H s := ⟨I.ok.unwish, I.os, I.bare, I.base, I.loc, I.cell, I.free, I.freeC, I.pin, I.hok, I.len⟩
theorem SP.unwish {D : Ends} {f : Flow} {s' : Shared} (h : SP (X.wish E) pins D f s') : SP X pins D f s' := by
  cases f with
  | next => obtain ⟨σ', H', I, q⟩ := h; exact ⟨σ', H', I.unwish, q⟩
  | brk => obtain ⟨σ', H', I, q⟩ := h; exact ⟨σ', H', I.unwish, q⟩
  | cont => obtain ⟨σ', H', I, q⟩ := h; exact ⟨σ', H', I.unwish, q⟩
  | ret u => obtain ⟨v, σ', H', I, r, q⟩ := h; exact ⟨v, σ', H', I.unwish, r, q⟩
theorem PSs.nox {st : List Stmt} {t : TS} (h : PSs X.nox st t) : PSs X st t := fun pins s σ H D I hw =>
  wpAny_mono (h pins s σ H D (I.wish _) hw) (fun _ _ q => q.unwish) fun _ _ z => False.elim z
end
section
variable {X : Cx} {st : Stmt} {rest : List Stmt} {t u : TS} {e : Expr} {te : TE} {pos : Pos}
noncomputable def tNext : TS := fun D σ H => D.nx σ H
noncomputable def tSeq (t u : TS) : TS := fun D σ H => t { D with nx := u D } σ H
theorem pss_nil : PSs X [] tNext := fun _ _ σ H _ I h => wpAny_execs_nil ⟨σ, H, I, h⟩
theorem pss_cons (h1 : PS X st t) (h2 : PSs X rest u) : PSs X (st :: rest) (tSeq t u) := by
  intro pins s σ H D I h
  refine wpAny_execs_cons (thn (h1 pins s σ H { D with nx := u D } I h) fun f s1 q => ?_)
  cases f with
  | next =>
    obtain ⟨σ', H', I', q⟩ := q
    exact h2 pins s1 σ' H' D I' q
  | ret v => exact q
  | brk => exact q
  | cont => exact q
theorem pss_one (h1 : PS X st t) : PSs X [st] t := by
  intro pins s σ H D I h
  refine wpAny_execs_cons (thn (h1 pins s σ H D I h) fun f s1 q => ?_)
  cases f with
  | next => exact wpAny_execs_nil q
  | ret v => exact q
  | brk => exact q
  | cont => exact q
theorem Inv.quiet {pins : List (Addr × Obj)} {σ : St} {H : Hp} {s : Shared} (I : Inv X pins σ H s) : interactive X.env = false := by simp [interactive, I.ok.kind]
noncomputable def tDrop (te : TE) : TS := fun D σ H => te σ H fun _ H1 => D.nx σ H1
theorem ps_expr (he : PE X e te) (hs : swapsWith e none pos.line X.env = pure false := by rfl) : PS X (.Expr e pos) (tDrop te) := by
  intro pins s σ H D I h
  exact wpAny_Expr_any (thn (he pins s σ H _ I h) fun v s1 ⟨x, H1, I1, r1, q1⟩ => ⟨σ, H1, I1, q1⟩) I.quiet hs
noncomputable def tRet (te : TE) : TS := fun D σ H => te σ H D.rt
theorem ps_ret (he : PE X e te) : PS X (.Return (some e) pos) (tRet te) := by
  intro pins s σ H D I h
  exact wpAny_Return_some (thn (he pins s σ H _ I h) fun v s1 ⟨x, H1, I1, r1, q1⟩ => ⟨x, σ, H1, I1, r1, q1⟩)
noncomputable def tIfS (c : TT) (t u : TS) : TS := fun D σ H => c σ H fun b H1 => if b = true then t D σ H1 else u D σ H1
theorem ps_if {c : Expr} {a b : List Stmt} {tc : TT} (hc : PT X c tc) (ha : PSs X a t) (hb : PSs X b u) : PS X (.If c a b pos) (tIfS tc t u) := by
  intro pins s σ H D I h
  refine wpAny_If (thn (hc pins s σ H _ I h) fun d s1 ⟨H1, I1, q1⟩ => ?_)
  cases d with
  | true => exact ha pins s1 σ H1 D I1 q1
  | false => exact hb pins s1 σ H1 D I1 q1
end
noncomputable abbrev TG := V → St → Hp → (St → Hp → Prop) → Prop
noncomputable abbrev TGs := List V → St → Hp → (St → Hp → Prop) → Prop
noncomputable def PG (X : Cx) (target : Expr) (t : TG) : Prop :=
  ∀ (pins : List (Addr × Obj)) (s : Shared) (σ : St) (H : Hp) (v : V) (u : Value) (Q : St → Hp → Prop), Inv X pins σ H s → RelV v u → t v σ H Q →
    wpAny (model X.prog X.w) X.A (assign target X.env u) (fun _ s' => ∃ σ' H', Inv X pins σ' H' s' ∧ Q σ' H') X.xe s
noncomputable def PGs (X : Cx) (ts : List Expr) (t : TGs) : Prop :=
  ∀ (pins : List (Addr × Obj)) (s : Shared) (σ : St) (H : Hp) (vs : List V) (us : List Value) (Q : St → Hp → Prop), Inv X pins σ H s → Vals vs us → t vs σ H Q →
    wpAny (model X.prog X.w) X.A (assignInOrder ((assignEach ts X.env).map (·.2)) us) (fun _ s' => ∃ σ' H', Inv X pins σ' H' s' ∧ Q σ' H') X.xe s
section
variable {X : Cx} {pos : Pos}
noncomputable def gName (i : Nat) : TG := fun v σ H Q => Q (σ.set i (some v)) H
theorem pg_name {i : Nat} {x : Str} (hN : X.N.Nodup) (hi : X.N[i]? = some x) (hx : Loc X.env.scope x) (hf : X.fn x = true ∨ X.env.scope.names.lookup x = some .local := by first | exact .inl rfl | exact .inr rfl | assumption) : PG X (.Name x pos) (gName i) := by
  intro pins s σ H v u Q I r h
  exact wpAny_assign_Name (store_ok I hN hi hx r (fun s' I' => ⟨_, H, I', h⟩) hf)
noncomputable def gNil : TGs := fun vs σ H Q => vs = [] ∧ Q σ H
noncomputable def gCons (t : TG) (u : TGs) : TGs := fun vs σ H Q => ∃ v r, vs = v :: r ∧ t v σ H fun σ' H' => u r σ' H' Q
theorem pgs_nil : PGs X [] gNil := by
  intro pins s σ H vs us Q I r h
  obtain ⟨e, h⟩ := h
  subst e
  cases r
  exact assignInOrder_nil ⟨σ, H, I, h⟩
theorem pgs_cons {e : Expr} {es : List Expr} {t : TG} {u : TGs} (h1 : PG X e t) (h2 : PGs X es u)
    (hs : (assignEach (e :: es) X.env).map (·.2) = assign e X.env :: (assignEach es X.env).map (·.2) := by rfl) : PGs X (e :: es) (gCons t u) := by
  intro pins s σ H vs us Q I r h
  obtain ⟨v, vr, e1, h⟩ := h
  subst e1
  cases r with
  | cons r rr =>
    rw [hs]
    refine assignInOrder_cons (thn (h1 pins s σ H _ _ _ I r h) fun _ s1 ⟨σ1, H1, I1, q1⟩ => ?_)
    exact h2 pins s1 σ1 H1 _ _ Q I1 rr q1
noncomputable def gTup (K : PySem.W.Frag) (n : Nat) (t : TGs) : TG := fun v σ H Q => ∃ a xs, v = .ref a ∧ SqT K H a xs ∧ xs.length = n ∧ t xs σ H Q
theorem pg_tup {es : List Expr} {k : Nat} {t : TGs} {n : Nat} (hc : X.calm = true) (h : PGs X es t)
    (hn : (assignEach es X.env).length = n := by rfl) (hst : (assignEach es X.env).findIdx? (·.1) = none := by rfl) : PG X (.Tuple es k pos) (gTup X.K n t) := by
  intro pins s σ H v u Q I r hw
  obtain ⟨a, xs, e1, hq, hl, hw⟩ := hw
  subst e1
  cases r
  obtain ⟨its, rv, ht, hz⟩ := I.tuple hq
  refine assign_Tuple_tuple (I.ok.hd hc) ht (by simp [hn, ← hl, rv.length]) hst fun h' hx => ?_
  have I1 : Inv X pins σ H { s with heap := h' } := I.kept (t' := s.toks) fun b o e => hx b o (Nat.ne_of_lt (Heap.lt_size e)) e
  exact h pins _ σ H xs _ Q I1 (by simpa using rv) hw
noncomputable def tAsg (te : TE) (g : TG) : TS := fun D σ H => te σ H fun x H1 => g x σ H1 D.nx
theorem ps_asg {tg e : Expr} {te : TE} {g : TG} (he : PE X e te) (hg : PG X tg g) (hs : swapsWithSole [tg] e pos.line X.env = pure false := by rfl) (hw : swappedStores [tg] e X.env = pure none := by rfl)
    (h1 : (assignEach [tg] X.env).map (·.2) = [assign tg X.env] := by rfl) : PS X (.Assign [tg] e pos) (tAsg te g) := by
  intro pins s σ H D I h
  refine wpAny_Assign_stores (thn (he pins s σ H _ I h) fun v s1 ⟨x, H1, I1, r1, q1⟩ => ?_) hs hw
  rw [h1]
  exact thn (hg pins s1 σ H1 x v _ I1 r1 q1) fun _ s2 q => q
theorem ps_set {i : Nat} {x : Str} {e : Expr} {te : TE} {pos' : Pos} (hN : X.N.Nodup) (hi : X.N[i]? = some x) (hx : Loc X.env.scope x) (he : PE X e te) (hs : swapsWith e (some (.Name x pos')) pos.line X.env = pure false := by rfl) (hf : X.fn x = true ∨ X.env.scope.names.lookup x = some .local := by first | exact .inl rfl | exact .inr rfl | assumption) :
    PS X (.Assign [.Name x pos'] e pos) (tAsg te (gName i)) := by
  intro pins s σ H D I h
  refine wpAny_Assign_Name (thn (he pins s σ H _ I h) fun v s1 ⟨y, H1, I1, r1, q1⟩ => ?_) hs
  exact store_ok I1 hN hi hx r1 (fun s2 I2 => ⟨_, H1, I2, q1⟩) hf
end
section
variable {X : Cx} {pos : Pos}
noncomputable def tWhile (c : TT) (tb : TS) : TS := fun D σ H => ∃ W : Nat → St → Hp → Prop, (∃ m, W m σ H) ∧ ∀ m σ H, W m σ H →
  c σ H fun b H1 => if b = true then ∃ N : St → Hp → Prop, (∀ σ' H', N σ' H' → ∃ m', m' < m ∧ W m' σ' H') ∧ tb { D with nx := N, ct := N, bk := D.nx } σ H1 else D.nx σ H1
theorem ps_while {c : Expr} {body : List Stmt} {tc : TT} {tb : TS} (hp : PassesOwn (model X.prog X.w) X.A X.env X.xe) (hc : PT X c tc) (hb : PSs X body tb) : PS X (.While c body [] pos) (tWhile tc tb) := by
  intro pins s σ H D I h
  obtain ⟨W, ⟨m0, w0⟩, turn⟩ := h
  refine wpAny_While (codeAny_whileLoop (fun n s' => ∃ σ' H', Inv X pins σ' H' s' ∧ W n σ' H') ?_ m0 ⟨σ, H, I, w0⟩)
  rintro n s1 ⟨σ1, H1, I1, w1⟩
  refine wpAny_passesOwn hp (thn (hc pins s1 σ1 H1 _ I1 (turn n σ1 H1 w1)) fun b s2 ⟨H2, I2, q2⟩ => ?_)
  cases b with
  | true =>
    obtain ⟨N, hN, q2⟩ := q2
    rw [if_pos rfl]
    refine wpAny_passesOwn hp (thn (hb pins s2 σ1 H2 _ I2 q2) fun f s3 q3 => ?_)
    cases f with
    | next =>
      obtain ⟨σ3, H3, I3, n3⟩ := q3
      obtain ⟨m', hm, w3⟩ := hN σ3 H3 n3
      exact ⟨m', hm, σ3, H3, I3, w3⟩
    | cont =>
      obtain ⟨σ3, H3, I3, n3⟩ := q3
      obtain ⟨m', hm, w3⟩ := hN σ3 H3 n3
      exact ⟨m', hm, σ3, H3, I3, w3⟩
    | brk => exact q3
    | ret v => exact q3
  | false =>
    rw [if_neg Bool.false_ne_true]
    exact wpAny_execs_nil ⟨σ1, H2, I2, q2⟩
end
structure It where
  go : Nat → Hp → Prop
  yld : Nat → Hp → V → Hp → Prop
  stop : Nat → Hp → Prop
noncomputable def FpOk (X : Cx) (pins : List (Addr × Obj)) (H : Hp) (b : Addr) : Prop :=
  H b = none ∧ b ≠ X.env.locals ∧ b ∉ X.fs ∧ (b ∈ X.ex ∨ X.s₀.heap.objs.size ≤ b) ∧ (∀ x c, X.env.cells.lookup x = some c → c ≠ b) ∧ ∀ p ∈ X.pn ++ pins, p.1 ≠ b
theorem Inv.fpOk {X : Cx} {pins : List (Addr × Obj)} {σ : St} {H H' : Hp} {s : Shared} {b : Addr} (I : Inv X pins σ H s) (hb : s.heap.objs.size ≤ b) (hn : H' b = none) : FpOk X pins H' b := by
  refine ⟨hn, Nat.ne_of_gt (Nat.lt_of_lt_of_le I.lt hb), I.nofs hb, .inr (Nat.le_trans I.sz hb), fun x c e z => ?_, fun p hp z => ?_⟩
  · obtain ⟨v, q⟩ := I.cell x c e
    exact absurd (Nat.lt_of_lt_of_le q.lt (by rw [z]; exact hb)) (Nat.lt_irrefl _)
  · exact absurd (Nat.lt_of_lt_of_le (Heap.lt_size (I.pin p hp).1) (by rw [z]; exact hb)) (Nat.lt_irrefl _)
structure Turn (P : Program) (w : World) (K : PySem.W.Frag) (tg : Expr) (J : It) (fp : List Addr) (it : Addr) (tn : Nat → Heap → Prop) : Prop where
  mem : it ∈ fp
  obj : ∀ i h, tn i h → ∀ b ∈ fp, ∃ o, h.get? b = some o ∧ ∀ v, o.data ≠ .cell v
  keep : ∀ i h h', tn i h → (∀ b ∈ fp, ∀ o, h.get? b = some o → h'.get? b = some o) → tn i h'
  item : ∀ (X : Cx), X.prog = P → X.w = w → X.K = K → X.calm = true → ∀ (i : Nat) (pins : List (Addr × Obj)) (s : Shared) (σ : St) (H : Hp) (E : Value → Shared → Prop), Inv X pins σ H s → (∀ b ∈ fp, FpOk X pins H b) → tn i s.heap → J.go i H →
    wpAny (model P w) X.A (pyNext (.ref it)) (fun r s1 => ∃ u, r = some u ∧
      wpAny (model P w) X.A (letOwnedTupleGo tg (.ref it) u) (fun _ s2 => ∃ x H', Inv X pins σ H' s2 ∧ RelV x u ∧ J.yld i H x H' ∧ tn (i + 1) s2.heap ∧ ∀ b ∈ fp, H' b = none) E s1) E s
  done : ∀ (X : Cx), X.prog = P → X.w = w → X.K = K → X.calm = true → ∀ (i : Nat) (pins : List (Addr × Obj)) (s : Shared) (σ : St) (H : Hp) (E : Value → Shared → Prop), Inv X pins σ H s → (∀ b ∈ fp, FpOk X pins H b) → tn i s.heap → J.stop i H →
    wpAny (model P w) X.A (pyNext (.ref it)) (fun r s1 => r = none ∧ Inv X pins σ H s1) E s
  self : ∀ (A : Around) (i : Nat) (s : Shared) (Q : Value → Shared → Prop) (E : Value → Shared → Prop), tn i s.heap → Q (.ref it) s → wpAny (model P w) A (pyIter (.ref it)) Q E s
noncomputable abbrev TI := St → Hp → (It → Hp → Prop) → Prop
noncomputable def PIE (X : Cx) (pins : List (Addr × Obj)) (σ : St) (tg : Expr) (R : It → Hp → Prop) (itv : Value) (s2 : Shared) : Prop :=
  ∃ (it : Addr) (fp : List Addr) (tn : Nat → Heap → Prop) (J : It) (H' : Hp), itv = .ref it ∧ Inv X pins σ H' s2 ∧ Turn X.prog X.w X.K tg J fp it tn ∧ tn 0 s2.heap ∧ (∀ b ∈ fp, FpOk X pins H' b) ∧ R J H'
noncomputable def PI (X : Cx) (tg iter : Expr) (wi : TI) : Prop :=
  ∀ (pins : List (Addr × Obj)) (s : Shared) (σ : St) (H : Hp) (R : It → Hp → Prop), Inv X pins σ H s → wi σ H R →
    wpAny (model X.prog X.w) X.A (eval iter X.env) (fun v s1 => wpAny (model X.prog X.w) X.A (pyIter v) (PIE X pins σ tg R) X.xe s1) X.xe s
theorem go_of {M : Model} {A : Around} {E : Value → Shared → Prop} {s : Shared} {tg : Expr} {it : Addr} {u : Value} {o : Obj} {n : String} {vs : Array Value} {Q : Unit → Shared → Prop} (ho : s.heap.get? it = some o) (hc : o.cls = .type n) (hd : o.data = .fields vs)
    (hn : ["enumerate", "zip", "dict_itemiterator", "dict_reverseitemiterator", "odict_iterator", "itertools.zip_longest", "itertools.pairwise"].contains n = false) (hQ : Q () s) : wpAny M A (letOwnedTupleGo tg (.ref it) u) Q E s := by
  unfold letOwnedTupleGo
  cases tg <;> first
    | exact wpAny_pure hQ
    | (cases u <;> first
        | exact wpAny_pure hQ
        | (refine wpAny_bind (wpAny_load ho ?_)
           rw [hc, hd]
           show wpAny M A (if (["enumerate", "zip", "dict_itemiterator", "dict_reverseitemiterator", "odict_iterator", "itertools.zip_longest", "itertools.pairwise"].contains n && vs[0]? == some (rawInt _)) = true then _ else _) Q E s
           rw [if_neg (by intro h; rw [hn, Bool.false_and] at h; cases h)]
           exact wpAny_pure hQ))
noncomputable def Itl (K : PySem.W.Frag) (a : Addr) : It :=
  ⟨fun i H => ∃ xs x, SqL K H a xs ∧ xs[i]? = some x, fun i H x H' => H' = H ∧ ∀ xs, SqL K H a xs → xs[i]? = some x, fun i H => ∃ xs, SqL K H a xs ∧ xs.length ≤ i⟩
noncomputable def Itt (K : PySem.W.Frag) (a : Addr) : It :=
  ⟨fun i H => ∃ xs x, SqT K H a xs ∧ xs[i]? = some x, fun i H x H' => H' = H ∧ ∀ xs, SqT K H a xs → xs[i]? = some x, fun i H => ∃ xs, SqT K H a xs ∧ xs.length ≤ i⟩
noncomputable def Itr (lo : Int) (n : Nat) : It := ⟨fun i _ => i < n, fun i H x H' => H' = H ∧ x = .int (lo + i), fun i _ => n ≤ i⟩
theorem turn_list {P : Program} {w : World} {K : PySem.W.Frag} {tg : Expr} (a it : Addr) : Turn P w K tg (Itl K a) [it] it (fun i h => h.IsListIter it a i) where
  mem := by simp
  obj := fun i h st b hb => by
    have e : b = it := by simpa using hb
    subst e
    obtain ⟨o, e, c, d⟩ := st
    exact ⟨o, e, fun v z => by rw [d] at z; cases z⟩
  keep := fun i h h' st k => st.at fun o e => k it (by simp) o e
  item := by
    intro X hP hw hK hc i pins s σ H E I hf st hg
    subst hP hw hK
    obtain ⟨xs, x, hq, hx⟩ := hg
    obtain ⟨its, rv, p, hz⟩ := I.list hq
    obtain ⟨u, hu, ru⟩ := rv.get hx
    obtain ⟨f0, f1, f2, f3, f4, f5⟩ := hf it (by simp)
    refine wpAny_pyNext_list_item st p.isList (x := u) (by simpa using hu) fun h' st' sb => ?_
    have I1 : Inv X pins σ H { s with heap := h' } := I.turned (t' := s.toks) (fun b o hb e => (sb.2 b hb).trans e) f0 f1 f3 f4 f5
    obtain ⟨o, e, c, d⟩ := id st'
    exact ⟨u, rfl, go_of (s := { s with heap := h' }) e c d (by decide) ⟨x, H, I1, ru, ⟨rfl, fun ys hy => by rw [I.list_inj hy hq]; exact hx⟩, st', fun b hb => (hf b hb).1⟩⟩
  done := by
    intro X hP hw hK hc i pins s σ H E I hf st hg
    subst hP hw hK
    obtain ⟨xs, hq, hx⟩ := hg
    obtain ⟨its, rv, p, hz⟩ := I.list hq
    obtain ⟨f0, f1, f2, f3, f4, f5⟩ := hf it (by simp)
    have hl := rv.length
    exact wpAny_pyNext_list_end (I.ok.hd hc) st p.isList (by simp; omega) fun h' eb => ⟨rfl, I.turned (t' := s.toks) (fun b o hb e => eb b o hb e) f0 f1 f3 f4 f5⟩
  self := fun _ _ _ _ _ st h => wpAny_pyIter_listiter st h
theorem turn_tuple {P : Program} {w : World} {K : PySem.W.Frag} {tg : Expr} (a it : Addr) : Turn P w K tg (Itt K a) [it] it (fun i h => h.IsTupleIter it a i) where
  mem := by simp
  obj := fun i h st b hb => by
    have e : b = it := by simpa using hb
    subst e
    obtain ⟨o, e, c, d⟩ := st
    exact ⟨o, e, fun v z => by rw [d] at z; cases z⟩
  keep := fun i h h' st k => st.at fun o e => k it (by simp) o e
  item := by
    intro X hP hw hK hc i pins s σ H E I hf st hg
    subst hP hw hK
    obtain ⟨xs, x, hq, hx⟩ := hg
    obtain ⟨its, rv, p, hz⟩ := I.tuple hq
    obtain ⟨u, hu, ru⟩ := rv.get hx
    obtain ⟨f0, f1, f2, f3, f4, f5⟩ := hf it (by simp)
    refine wpAny_pyNext_tuple_item st (show s.heap.IsTuple a its.toArray from p) (x := u) (by simpa using hu) fun h' st' sb => ?_
    have I1 : Inv X pins σ H { s with heap := h' } := I.turned (t' := s.toks) (fun b o hb e => (sb.2 b hb).trans e) f0 f1 f3 f4 f5
    obtain ⟨o, e, c, d⟩ := id st'
    exact ⟨u, rfl, go_of (s := { s with heap := h' }) e c d (by decide) ⟨x, H, I1, ru, ⟨rfl, fun ys hy => by rw [I.tuple_inj hy hq]; exact hx⟩, st', fun b hb => (hf b hb).1⟩⟩
  done := by
    intro X hP hw hK hc i pins s σ H E I hf st hg
    subst hP hw hK
    obtain ⟨xs, hq, hx⟩ := hg
    obtain ⟨its, rv, p, hz⟩ := I.tuple hq
    obtain ⟨f0, f1, f2, f3, f4, f5⟩ := hf it (by simp)
    have hl := rv.length
    exact wpAny_pyNext_tuple_end (I.ok.hd hc) st (show s.heap.IsTuple a its.toArray from p) (by simp; omega) fun h' eb => ⟨rfl, I.turned (t' := s.toks) (fun b o hb e => eb b o hb e) f0 f1 f3 f4 f5⟩
  self := fun _ _ _ _ _ st h => wpAny_pyIter_tupleiter st h
theorem turn_range {P : Program} {w : World} {K : PySem.W.Frag} {tg : Expr} (it : Addr) (lo : Int) (n : Nat) : Turn P w K tg (Itr lo n) [it] it (fun i h => IsRangeIter h it (lo + (i : Nat) * 1) ((n : Int) - (i : Nat)) 1) where
  mem := by simp
  obj := fun i h st b hb => by
    have e : b = it := by simpa using hb
    subst e
    exact ⟨_, st, fun v z => by
      have z' : Data.fields _ = Data.cell v := z
      cases z'⟩
  keep := fun i h h' st k => k it (by simp) _ st
  item := by
    intro X hP hw hK hc i pins s σ H E I hf st hg
    subst hP hw hK
    obtain ⟨f0, f1, f2, f3, f4, f5⟩ := hf it (by simp)
    have W := Walks.range (prog := X.prog) (w := X.w) (I.ok.hd hc) it lo 1 n
    refine W.item i s _ _ hg st fun v h' tk hv st' kk => ?_
    obtain ⟨t, rfl⟩ := hv
    have I1 : Inv X pins σ H { s with heap := h', toks := tk } := I.turned (fun b o hb e => kk b o (by simpa using hb) e) f0 f1 f3 f4 f5
    refine ⟨_, rfl, go_of (s := { s with heap := h', toks := tk }) (n := "range_iterator") st' rfl rfl (by decide) ⟨.int (lo + i), H, I1, ⟨t, ?_⟩, ⟨rfl, rfl⟩, st', fun b hb => (hf b hb).1⟩⟩
    rw [Int.mul_one]
  done := by
    intro X hP hw hK hc i pins s σ H E I hf st hg
    subst hP hw hK
    obtain ⟨f0, f1, f2, f3, f4, f5⟩ := hf it (by simp)
    exact wpAny_pyNext_range_end (I.ok.hd hc) st (by have : n ≤ i := hg; omega) fun h' eb => ⟨rfl, I.turned (t' := s.toks) (fun b o hb e => eb b o hb e) f0 f1 f3 f4 f5⟩
  self := fun _ _ _ _ _ st h => wpAny_pyIter_rangeiter st h
end L2
namespace L2
open PySem PySem.Spec PyProof.Rows
section
variable {X : Cx} {tg : Expr}
noncomputable def iList (K : PySem.W.Frag) (tl : TE) : TI := fun σ H R => tl σ H fun x H1 => ∃ a, x = .ref a ∧ (∃ xs, SqL K H1 a xs) ∧ R (Itl K a) H1
noncomputable def iTup (K : PySem.W.Frag) (tl : TE) : TI := fun σ H R => tl σ H fun x H1 => ∃ a, x = .ref a ∧ (∃ xs, SqT K H1 a xs) ∧ R (Itt K a) H1
theorem pi_list {l : Expr} {tl : TE} (hl : PE X l tl) : PI X tg l (iList X.K tl) := by
  intro pins s σ H R I h
  refine thn (hl pins s σ H _ I h) fun v s1 ⟨x, H1, I1, r1, q1⟩ => ?_
  obtain ⟨a, e, ⟨xs, hq⟩, q⟩ := q1
  subst e
  cases r1
  obtain ⟨its, rv, p, hz⟩ := I1.list hq
  refine wpAny_pyIter_list p.isList ?_
  refine ⟨s1.heap.objs.size, [s1.heap.objs.size], _, _, H1, rfl, I1.kept (t' := s1.toks) fun b o e => Heap.get?_push_of_some _ e, turn_list a _, ⟨_, Heap.get?_push_size _ rfl, rfl, rfl⟩, fun b hb => ?_, q⟩
  have e : b = s1.heap.objs.size := by simpa using hb
  subst e
  exact I1.fpOk (Nat.le_refl _) (I1.hok.fresh (Nat.le_refl _))
theorem pi_tup {l : Expr} {tl : TE} (hl : PE X l tl) : PI X tg l (iTup X.K tl) := by
  intro pins s σ H R I h
  refine thn (hl pins s σ H _ I h) fun v s1 ⟨x, H1, I1, r1, q1⟩ => ?_
  obtain ⟨a, e, ⟨xs, hq⟩, q⟩ := q1
  subst e
  cases r1
  obtain ⟨its, rv, p, hz⟩ := I1.tuple hq
  refine wpAny_pyIter_tuple (show s1.heap.IsTuple a its.toArray from p) ?_
  refine ⟨s1.heap.objs.size, [s1.heap.objs.size], _, _, H1, rfl, I1.kept (t' := s1.toks) fun b o e => Heap.get?_push_of_some _ e, turn_tuple a _, ⟨_, Heap.get?_push_size _ rfl, rfl, rfl⟩, fun b hb => ?_, q⟩
  have e : b = s1.heap.objs.size := by simpa using hb
  subst e
  exact I1.fpOk (Nat.le_refl _) (I1.hok.fresh (Nat.le_refl _))
theorem range_it {pins : List (Addr × Obj)} {σ : St} {H : Hp} {s : Shared} {R : It → Hp → Prop} {E : Value → Shared → Prop} {lo hi : Int} {t u v : Tok} {tk : Nat} (I : Inv X pins σ H s) (h1 : -(2 ^ 62) ≤ lo) (h2 : lo < 2 ^ 62) (h3 : -(2 ^ 62) ≤ hi) (h4 : hi < 2 ^ 62)
    (q : R (Itr lo (hi - lo).toNat) H) : wpAny (model X.prog X.w) X.A (pyIter (.ref s.heap.objs.size)) (PIE X pins σ tg R) E { s with heap := s.heap.push { cls := .type "range", data := .fields #[.int lo t, .int hi u, .int 1 v] }, toks := tk } := by
  refine wpAny_pyIter_range (IsRange.new ..) (small_one h1 h2 h3 h4) ?_
  have I1 : Inv X pins σ H { s with heap := s.heap.push { cls := .type "range", data := .fields #[.int lo t, .int hi u, .int 1 v] }, toks := tk } := I.kept fun b o e => Heap.get?_push_of_some _ e
  refine ⟨(s.heap.push { cls := .type "range", data := .fields #[.int lo t, .int hi u, .int 1 v] }).objs.size, [(s.heap.push { cls := .type "range", data := .fields #[.int lo t, .int hi u, .int 1 v] }).objs.size], _, _, H, rfl,
    I1.kept (t' := tk) fun b o e => Heap.get?_push_of_some _ e, turn_range _ lo (hi - lo).toNat, ?_, fun b hb => ?_, q⟩
  · have e1 : lo + ((0 : Nat) : Int) * 1 = lo := by simp
    have e2 : (((hi - lo).toNat : Nat) : Int) - ((0 : Nat) : Int) = Builtin.Range.rangeSize lo hi 1 := by rw [rangeSize_one]; split <;> omega
    show IsRangeIter _ _ (lo + ((0 : Nat) : Int) * 1) ((((hi - lo).toNat : Nat) : Int) - ((0 : Nat) : Int)) 1
    rw [e1, e2]
    exact Heap.get?_push_size _ rfl
  · have e : b = (s.heap.push { cls := .type "range", data := .fields #[.int lo t, .int hi u, .int 1 v] }).objs.size := by simpa using hb
    subst e
    exact I1.fpOk (Nat.le_refl _) (I1.hok.fresh (Nat.le_refl _))
noncomputable def iRng1 (ta : TA) : TI := fun σ H R => ta σ H fun vs H1 => ∃ j : Int, vs = [.int j] ∧ -(2 ^ 62) ≤ j ∧ j < 2 ^ 62 ∧ R (Itr 0 j.toNat) H1
theorem pi_range1 {a : Expr} {ta : TA} {p pos : Pos} (hg : Gl X "range") (hm : X.mg "range" = none) (ha : PA X [a] ta) (hs : starEach [a] X.env = [(false, eval a X.env)] := by rfl) : PI X tg (.Call (.Name "range" p) [a] [] pos) (iRng1 ta) := by
  intro pins s σ H R I h
  refine Call_ (ld_blt I hg hm boot_range (PyProof.Rows.callWith_type1 (thn (ha pos pins s σ H _ I h) fun us s1 ⟨vs, H1, I1, r1, q1⟩ => ?_) hs rfl))
  obtain ⟨j, e, q1, q2, q⟩ := q1
  subst e
  cases r1 with
  | cons r rr =>
    cases rr
    obtain ⟨t, rfl⟩ := r
    exact call_range_1 (range_it I1 (by omega) (by omega) q1 q2 (by simpa using q))
noncomputable def tFor (wi : TI) (g : TG) (tb : TS) : TS := fun D σ H => wi σ H fun J H1 => ∃ W : Nat → Nat → St → Hp → Prop, (∃ m, W 0 m σ H1) ∧ ∀ i m σ H, W i m σ H →
  (J.stop i H ∧ D.nx σ H) ∨ (J.go i H ∧ ∃ N : St → Hp → Prop, (∀ σ' H', N σ' H' → ∃ m', m' < m ∧ W (i + 1) m' σ' H') ∧ ∀ x H', J.yld i H x H' → g x σ H' fun σ2 H2 => tb { D with nx := N, ct := N, bk := D.nx } σ2 H2)
noncomputable def pinsAt (fp : List Addr) (h : Heap) : List (Addr × Obj) := fp.filterMap fun b => (h.get? b).map fun o => (b, o)
theorem mem_pinsAt {fp : List Addr} {h : Heap} {b : Addr} {o : Obj} (hb : b ∈ fp) (e : h.get? b = some o) : (b, o) ∈ pinsAt fp h := List.mem_filterMap.mpr ⟨b, hb, by rw [e]; rfl⟩
theorem of_pinsAt {fp : List Addr} {h : Heap} {p : Addr × Obj} (hp : p ∈ pinsAt fp h) : p.1 ∈ fp ∧ h.get? p.1 = some p.2 := by
  obtain ⟨b, hb, e⟩ := List.mem_filterMap.mp hp
  cases q : h.get? b with
  | none => rw [q] at e; cases e
  | some o =>
    rw [q] at e
    have e' : (b, o) = p := Option.some.inj e
    subst e'
    exact ⟨hb, q⟩
theorem Inv.pinned {pins : List (Addr × Obj)} {σ : St} {H : Hp} {s : Shared} {fp : List Addr} (I : Inv X pins σ H s) (hf : ∀ b ∈ fp, FpOk X pins H b) (ho : ∀ b ∈ fp, ∃ o, s.heap.get? b = some o ∧ ∀ v, o.data ≠ .cell v) : Inv X (pins ++ pinsAt fp s.heap) σ H s :=
  I.pins_of fun p hp => (List.mem_append.mp hp).elim (fun z => I.pin p (List.mem_append_right _ z)) fun z => by
    obtain ⟨hb, e⟩ := of_pinsAt z
    obtain ⟨f0, f1, f2, _⟩ := hf p.1 hb
    obtain ⟨o, e', d⟩ := ho p.1 hb
    rw [e] at e'; cases e'
    exact ⟨e, f0, f1, f2, d⟩
theorem Inv.unpinned {pins pl : List (Addr × Obj)} {σ : St} {H : Hp} {s : Shared} (I : Inv X (pins ++ pl) σ H s) : Inv X pins σ H s := I.pins_of fun p hp => I.pin p (List.mem_append_right _ (List.mem_append_left _ hp))
theorem ps_for {iter : Expr} {body : List Stmt} {wi : TI} {g : TG} {tb : TS} {pos : Pos} (hp : PassesOwn (model X.prog X.w) X.A X.env X.xe) (hc : X.calm = true) (hi : PI X tg iter wi) (hg : PG X tg g) (hb : PSs X body tb)
    (hs : ∀ x, foldedSetIterable iter X.env x = pure x := by intro _; rfl) : PS X (.For tg iter body [] pos) (tFor wi g tb) := by
  intro pins s σ H D I h
  refine wpAny_For (thn (hi pins s σ H _ I h) fun v s1 h1 => thn h1 fun itv s2 h2 => ?_) hs
  obtain ⟨it, fp, tn, J, H2, e, I2, T, st2, f2, W, ⟨m0, w0⟩, turn⟩ := h2
  subst e
  -- what stays true of the iterator's objects through the loop
  have stat : ∀ {H' : Hp}, (∀ b ∈ fp, H' b = none) → ∀ b ∈ fp, FpOk X pins H' b := fun hn b hb => ⟨hn b hb, (f2 b hb).2⟩
  refine codeAny_forLoop_any (fun n s' => ∃ i σ' H', Inv X pins σ' H' s' ∧ tn i s'.heap ∧ (∀ b ∈ fp, H' b = none) ∧ W i n σ' H') ?_ m0 ⟨0, σ, H2, I2, st2, fun b hb => (f2 b hb).1, w0⟩
  rintro n s3 ⟨i, σ3, H3, I3, st3, fr3, w3⟩
  rcases turn i n σ3 H3 w3 with ⟨stop, qn⟩ | ⟨go, N, hN, step⟩
  · refine wpAny_passesOwn hp (thn (T.done X rfl rfl rfl hc i pins s3 σ3 H3 X.xe I3 (stat fr3) st3 stop) fun r s4 ⟨hr, I4⟩ => ?_)
    subst hr
    exact wpAny_execs_nil ⟨σ3, H3, I4, qn⟩
  · refine wpAny_passesOwn hp (thn (T.item X rfl rfl rfl hc i pins s3 σ3 H3 X.xe I3 (stat fr3) st3 go) fun r s4 ⟨u, hr, h4⟩ => ?_)
    subst hr
    refine wpAny_passesOwn hp (thn h4 fun _ s5 ⟨x, H5, I5, r5, y5, st5, fr5⟩ => ?_)
    have I5' := I5.pinned (stat fr5) (T.obj _ _ st5)
    refine wpAny_passesOwn hp (thn (hg _ s5 σ3 H5 x u _ I5' r5 (step x H5 y5)) fun _ s6 ⟨σ6, H6, I6, q6⟩ => ?_)
    refine wpAny_passesOwn hp (thn (hb _ s6 σ6 H6 _ I6 q6) fun f s7 q7 => ?_)
    have again : ∀ {σ7 : St} {H7 : Hp}, Inv X (pins ++ pinsAt fp s5.heap) σ7 H7 s7 → N σ7 H7 → ∃ m, m < n ∧ ∃ i σ' H', Inv X pins σ' H' s7 ∧ tn i s7.heap ∧ (∀ b ∈ fp, H' b = none) ∧ W i m σ' H' := fun {σ7 H7} I7 n7 => by
      obtain ⟨m', hm, w7⟩ := hN σ7 H7 n7
      refine ⟨m', hm, i + 1, σ7, H7, I7.unpinned, T.keep _ _ _ st5 fun b hb o e => (I7.pin (b, o) (List.mem_append_right _ (List.mem_append_right _ (mem_pinsAt hb e)))).1, fun b hb => ?_, w7⟩
      obtain ⟨o, e, d⟩ := T.obj _ _ st5 b hb
      exact (I7.pin (b, o) (List.mem_append_right _ (List.mem_append_right _ (mem_pinsAt hb e)))).2.1
    cases f with
    | next => obtain ⟨σ7, H7, I7, n7⟩ := q7; exact again I7 n7
    | cont => obtain ⟨σ7, H7, I7, n7⟩ := q7; exact again I7 n7
    | brk => obtain ⟨σ7, H7, I7, q7⟩ := q7; exact ⟨σ7, H7, I7.unpinned, q7⟩
    | ret v => obtain ⟨x7, σ7, H7, I7, r7, q7⟩ := q7; exact ⟨x7, σ7, H7, I7.unpinned, r7, q7⟩
end
end L2
namespace L2
open PySem PySem.Spec PyProof.Rows
noncomputable abbrev R2 := V → V → Hp → VK → Prop
noncomputable def OpR (X : Cx) (f : Value → Value → Sem Value) (r : R2) : Prop :=
  ∀ (pins : List (Addr × Obj)) (s : Shared) (σ : St) (H : Hp) (x y : V) (v u : Value) (Q : VK), Inv X pins σ H s → RelV x v → RelV y u → r x y H Q →
    wpAny (model X.prog X.w) X.A (f v u) (EP X pins σ Q) X.xe s
noncomputable def UnR (X : Cx) (f : Value → Sem Value) (r : V → Hp → VK → Prop) : Prop :=
  ∀ (pins : List (Addr × Obj)) (s : Shared) (σ : St) (H : Hp) (x : V) (v : Value) (Q : VK), Inv X pins σ H s → RelV x v → r x H Q →
    wpAny (model X.prog X.w) X.A (f v) (EP X pins σ Q) X.xe s
noncomputable def CallR (X : Cx) (f : Value) (r : List V → Hp → VK → Prop) : Prop :=
  ∀ (pins : List (Addr × Obj)) (s : Shared) (σ : St) (H : Hp) (xs : List V) (us : List Value) (Q : VK), Inv X pins σ H s → Vals xs us → r xs H Q →
    wpAny (model X.prog X.w) X.A (call f us) (EP X pins σ Q) X.xe s
noncomputable def TruR (X : Cx) (r : V → Hp → (Bool → Hp → Prop) → Prop) : Prop :=
  ∀ (pins : List (Addr × Obj)) (s : Shared) (σ : St) (H : Hp) (x : V) (v : Value) (Q : Bool → Hp → Prop), Inv X pins σ H s → RelV x v → r x H Q →
    wpAny (model X.prog X.w) X.A (truthy v) (TP X pins σ Q) X.xe s
noncomputable def tOp (r : R2) (ta tb : TE) : TE := fun σ H Q => ta σ H fun x H1 => tb σ H1 fun y H2 => r x y H2 Q
noncomputable def tUn (r : V → Hp → VK → Prop) (ta : TE) : TE := fun σ H Q => ta σ H fun x H1 => r x H1 Q
noncomputable def rI (C : Int → Int → Prop) (g : Int → Int → V) : R2 := fun x y H Q => ∃ i j, x = .int i ∧ y = .int j ∧ C i j ∧ Q (g i j) H
noncomputable def rI0 (g : Int → Int → V) : R2 := fun x y H Q => ∃ i j, x = .int i ∧ y = .int j ∧ Q (g i j) H
noncomputable def rU (g : Int → V) : V → Hp → VK → Prop := fun x H Q => ∃ i, x = .int i ∧ Q (g i) H
section
variable {X : Cx} {a b c : Expr} {ta tb tc : TE} {pos : Pos}
theorem binT (ha : PE X a ta) (hb : PE X b tb) {pins : List (Addr × Obj)} {s : Shared} {σ : St} {H : Hp} {R : V → V → Hp → Prop} (I : Inv X pins σ H s)
    (h : ta σ H fun x H1 => tb σ H1 fun y H2 => R x y H2) {Q : Value → Shared → Prop} {f : Value → Value → Sem Value}
    (hf : ∀ v u s2 x y H2, Inv X pins σ H2 s2 → RelV x v → RelV y u → R x y H2 → wpAny (model X.prog X.w) X.A (f v u) Q X.xe s2) :
    wpAny (model X.prog X.w) X.A (eval a X.env) (fun v s₁ => wpAny (model X.prog X.w) X.A (eval b X.env) (fun u s₂ => wpAny (model X.prog X.w) X.A (f v u) Q X.xe s₂) X.xe s₁) X.xe s := by
  refine thn (ha pins s σ H _ I h) fun v s1 ⟨x, H1, I1, r1, q1⟩ => ?_
  refine thn (hb pins s1 σ H1 _ I1 q1) fun u s2 ⟨y, H2, I2, r2, q2⟩ => ?_
  exact hf v u s2 x y H2 I2 r1 r2 q2
theorem pe_op {op : Operator} {r : R2} (ho : OpR X (binaryOp op) r) (ha : PE X a ta) (hb : PE X b tb) : PE X (.BinOp a op b pos) (tOp r ta tb) := by
  intro pins s σ H Q I h
  exact wpAny_BinOp (binT ha hb I h fun v u s2 x y H2 I2 rx ry q => ho pins s2 σ H2 x y v u Q I2 rx ry q)
theorem pe_un {op : UnaryOp} {r : V → Hp → VK → Prop} (ho : UnR X (unaryOp op) r) (ha : PE X a ta) : PE X (.UnaryOp op a pos) (tUn r ta) := by
  intro pins s σ H Q I h
  exact UnaryOp_ (thn (ha pins s σ H _ I h) fun v s1 ⟨x, H1, I1, r1, q1⟩ => ho pins s1 σ H1 x v Q I1 r1 q1)
theorem opI {f : Value → Value → Sem Value} {C : Int → Int → Prop} {g : Int → Int → Int}
    (rule : ∀ (i j : Int) (t u : Tok) (s : Shared) (Q : Value → Shared → Prop) (E : Value → Shared → Prop), C i j → Q (.int (g i j) s.toks) { s with toks := s.toks + 1 } → wpAny (model X.prog X.w) X.A (f (.int i t) (.int j u)) Q E s) :
    OpR X f (rI C fun i j => .int (g i j)) := by
  intro pins s σ H x y v u Q I rx ry h
  obtain ⟨i, j, rfl, rfl, hc, q⟩ := h
  obtain ⟨t, rfl⟩ := rx
  obtain ⟨t', rfl⟩ := ry
  exact rule i j t t' s _ _ hc ⟨.int (g i j), H, I.tok _, ⟨_, rfl⟩, q⟩
theorem opI0 {f : Value → Value → Sem Value} {g : Int → Int → Int}
    (rule : ∀ (i j : Int) (t u : Tok) (s : Shared) (Q : Value → Shared → Prop) (E : Value → Shared → Prop), Q (.int (g i j) s.toks) { s with toks := s.toks + 1 } → wpAny (model X.prog X.w) X.A (f (.int i t) (.int j u)) Q E s) :
    OpR X f (rI0 fun i j => .int (g i j)) := by
  intro pins s σ H x y v u Q I rx ry h
  obtain ⟨i, j, rfl, rfl, q⟩ := h
  obtain ⟨t, rfl⟩ := rx
  obtain ⟨t', rfl⟩ := ry
  exact rule i j t t' s _ _ ⟨.int (g i j), H, I.tok _, ⟨_, rfl⟩, q⟩
theorem opB0 {f : Value → Value → Sem Value} {g : Int → Int → Bool}
    (rule : ∀ (i j : Int) (t u : Tok) (s : Shared) (Q : Value → Shared → Prop) (E : Value → Shared → Prop), Q (.bool (g i j)) s → wpAny (model X.prog X.w) X.A (f (.int i t) (.int j u)) Q E s) :
    OpR X f (rI0 fun i j => .bl (g i j)) := by
  intro pins s σ H x y v u Q I rx ry h
  obtain ⟨i, j, rfl, rfl, q⟩ := h
  obtain ⟨t, rfl⟩ := rx
  obtain ⟨t', rfl⟩ := ry
  exact rule i j t t' s _ _ ⟨.bl (g i j), H, I, rfl, q⟩
noncomputable def CDiv (i j : Int) : Prop := 0 < j ∧ j < 1073741824
noncomputable def CPow (i j : Int) : Prop := 0 ≤ j ∧ j ≤ 1000000 ∧ i.natAbs < 2 ^ 64
noncomputable def CMul (i j : Int) : Prop := (-(2 ^ 64) < i ∧ i < 2 ^ 64) ∨ (-(2 ^ 64) < j ∧ j < 2 ^ 64)
theorem CMul.ok {i j : Int} (h : CMul i j) : IntMulOk i j := by
  rcases h with ⟨h1, h2⟩ | ⟨h1, h2⟩
  · exact .of_left (intBits_le_64 h1 h2)
  · exact .of_right (intBits_le_64 h1 h2)
theorem two_pow_nn (k : Nat) : (0 : Int) ≤ 2 ^ k := by
  rw [two_pow_cast]
  exact Int.natCast_nonneg _
theorem op_add : OpR X (binaryOp .Add) (rI0 fun i j => .int (i + j)) := opI0 fun _ _ _ _ _ _ _ q => add_int q
theorem op_mul : OpR X (binaryOp .Mult) (rI CMul fun i j => .int (i * j)) := opI fun _ _ _ _ _ _ _ hc q => mul_int q hc.ok
theorem op_fdiv : OpR X (binaryOp .FloorDiv) (rI CDiv fun i j => .int (i / j)) := opI fun i j _ _ _ _ _ hc q => by
  have h1 : (0 : Int) < j := hc.1
  have h2 : j < 1073741824 := hc.2
  exact floordiv_int (by omega) (by rw [Int.fdiv_eq_ediv_of_nonneg i (by omega)]; exact q) (.inl (PyProof.noPylong_small (by omega)))
theorem op_mod : OpR X (binaryOp .Mod) (rI (fun _ j => 0 < j) fun i j => .int (i % j)) := opI fun i j _ _ _ _ _ hc q => by
  have h1 : (0 : Int) < j := hc
  exact mod_int' (by omega) (by rw [Int.fmod_eq_emod_of_nonneg i (by omega)]; exact q)
theorem op_pow : OpR X (binaryOp .Pow) (rI CPow fun i j => .int (i ^ j.toNat)) := opI fun _ _ _ _ _ _ _ hc q => pow_int_small hc.1 hc.2.1 hc.2.2 q
theorem op_shl : OpR X (binaryOp .LShift) (rI CPow fun i j => .int (i * 2 ^ j.toNat)) := opI fun _ _ _ _ _ _ _ hc q => lshift_int_small hc.1 hc.2.1 hc.2.2 q
theorem op_shr : OpR X (binaryOp .RShift) (rI (fun _ j => 0 ≤ j) fun i j => .int (i / 2 ^ j.toNat)) := opI fun i j _ _ _ _ _ hc q =>
  rshift_int hc (by rw [Int.fdiv_eq_ediv_of_nonneg i (two_pow_nn _)]; exact q)
theorem op_and : OpR X (binaryOp .BitAnd) (rI0 fun i j => .int (Builtin.bitAnd i j)) := opI0 fun _ _ _ _ _ _ _ q => and_int q
theorem op_or : OpR X (binaryOp .BitOr) (rI0 fun i j => .int (Builtin.bitOr i j)) := opI0 fun _ _ _ _ _ _ _ q => or_int q
theorem unI {f : Value → Sem Value} {g : Int → Int}
    (rule : ∀ (i : Int) (t : Tok) (s : Shared) (Q : Value → Shared → Prop) (E : Value → Shared → Prop), Q (.int (g i) s.toks) { s with toks := s.toks + 1 } → wpAny (model X.prog X.w) X.A (f (.int i t)) Q E s) :
    UnR X f (rU fun i => .int (g i)) := by
  intro pins s σ H x v Q I rx h
  obtain ⟨i, rfl, q⟩ := h
  obtain ⟨t, rfl⟩ := rx
  exact rule i t s _ _ ⟨.int (g i), H, I.tok _, ⟨_, rfl⟩, q⟩
theorem un_neg : UnR X (unaryOp .USub) (rU fun i => .int (-i)) := unI fun _ _ _ _ _ q => neg_int q
end
section
variable {X : Cx} {a b c : Expr} {ta tb tc : TE} {pos : Pos}
theorem fin_bl {pins : List (Addr × Obj)} {σ : St} {H : Hp} {s : Shared} {Q : VK} {k k' : Bool} (I : Inv X pins σ H s) (q : Q (.bl k) H) (e : k = k') : EP X pins σ Q (.bool k') s := by
  subst e
  exact ⟨.bl k, H, I, rfl, q⟩
theorem op_lt : OpR X (compareOp .Lt) (rI0 fun i j => .bl (decide (i < j))) := opB0 fun _ _ _ _ _ _ _ q => lt_int q
theorem op_le : OpR X (compareOp .LtE) (rI0 fun i j => .bl (decide (i ≤ j))) := opB0 fun _ _ _ _ _ _ _ q => le_int q
theorem op_gt : OpR X (compareOp .Gt) (rI0 fun i j => .bl (decide (j < i))) := opB0 fun _ _ _ _ _ _ _ q => gt_int q
theorem op_in_str : OpR X (compareOp .In) (fun x y H Q => ∃ i j, x = .str i ∧ y = .str j ∧ Q (.bl (!(Builtin.Str.occurrences j i 0 j.length 1).isEmpty)) H) := by
  intro pins s σ H x y v u Q I rx ry h
  obtain ⟨i, j, rfl, rfl, q⟩ := h
  obtain ⟨t, rfl⟩ := rx
  obtain ⟨t', rfl⟩ := ry
  exact in_str (fin_bl I q rfl)
theorem op_isN : OpR X (compareOp .Is) (fun x y H Q => y = .non ∧ Q (.bl (decide (x = .non))) H) := by
  intro pins s σ H x y v u Q I rx ry h
  obtain ⟨rfl, q⟩ := h
  cases ry
  refine is_none_gen (fin_bl I q ?_)
  cases x <;> first
    | (cases rx; rfl)
    | (obtain ⟨t, rfl⟩ := rx; rfl)
theorem nomark (b : Expr) {op : CmpOp} (h : op ≠ .In := by decide) (h2 : op ≠ .NotIn := by decide) : behindInMarks op b = false := by
  have e1 : (op == CmpOp.In) = false := by cases op <;> first | rfl | exact absurd rfl h
  have e2 : (op == CmpOp.NotIn) = false := by cases op <;> first | rfl | exact absurd rfl h2
  cases b <;> simp [behindInMarks, e1, e2]
theorem pe_cmpR {op : CmpOp} {r : R2} (ho : OpR X (compareOp op) r) (ha : PE X a ta) (hb : PE X b tb) (hm : behindInMarks op b = false) : PE X (.Compare a [op] [b] pos) (tOp r ta tb) := by
  intro pins s σ H Q I h
  exact wpAny_Compare1 (binT ha hb I h fun v u s2 x y H2 I2 rx ry q => ho pins s2 σ H2 x y v u Q I2 rx ry q) hm
noncomputable def tTest (t : TE) : TT := fun σ H Q => t σ H fun x H' => ∃ k, x = .bl k ∧ Q k H'
theorem pt_cmpR {op : CmpOp} {r : R2} (ho : OpR X (compareOp op) r) (ha : PE X a ta) (hb : PE X b tb) (hm : behindInMarks op b = false) : PT X (.Compare a [op] [b] pos) (tTest (tOp r ta tb)) := by
  intro pins s σ H Q I h
  refine wpAny_isTrue_Compare1 (thn (ha pins s σ H _ I h) fun v s1 ⟨x, H1, I1, r1, q1⟩ => thn (hb pins s1 σ H1 _ I1 q1) fun u s2 ⟨y, H2, I2, r2, q2⟩ =>
    thn (ho pins s2 σ H2 x y v u _ I2 r1 r2 q2) fun c s3 ⟨z, H3, I3, r3, k, e, q3⟩ => ?_) hm
  subst e
  cases r3
  exact wpAny_truthy_bool ⟨H3, I3, q3⟩
noncomputable def TruV (K : PySem.W.Frag) (x : V) (H : Hp) (k : Bool) : Prop :=
  match x with
  | .non => k = false
  | .bl b => k = b
  | .int i => k = (i != 0)
  | .str y => y.length ≤ sizeLine ∧ k = ((y.length : Int) != 0)
  | .byt y => y.size ≤ sizeLine ∧ k = ((y.size : Int) != 0)
  | .ref p => (∃ xs, SqL K H p xs ∧ k = !xs.isEmpty) ∨ (∃ xs, SqT K H p xs ∧ k = !xs.isEmpty) ∨ ∃ kvs, H p = some (.dK kvs) ∧ k = !kvs.isEmpty
  | _ => False
theorem isEmpty_kv {κ : Type} {kvs : List (κ × V)} {vs : List (κ × Value)} (r : KV kvs vs) : (!vs.isEmpty) = !kvs.isEmpty := by
  cases r <;> rfl
theorem isEmpty_of {xs : List V} {its : List Value} (r : Vals xs its) : (!its.toArray.isEmpty) = !xs.isEmpty := by
  cases r <;> simp
theorem line63 : (sizeLine : Nat) < 2 ^ 63 := by rw [sizeLine_eq]; decide
theorem tru_ok : TruR X (fun x H Q => ∃ k, TruV X.K x H k ∧ Q k H) := by
  intro pins s σ H x v Q I rx h
  obtain ⟨k, e, q⟩ := h
  have hl := line63
  have hs : sizeLine = 16777216 := sizeLine_eq
  cases x with
  | non =>
    cases rx
    have e' : k = false := e
    subst e'
    exact truthy_none ⟨H, I, q⟩
  | bl b =>
    cases rx
    have e' : k = b := e
    subst e'
    exact wpAny_truthy_bool ⟨H, I, q⟩
  | int i =>
    obtain ⟨t, rfl⟩ := rx
    have e' : k = (i != 0) := e
    subst e'
    exact PySem.P.truthy_int ⟨H, I, q⟩
  | str y =>
    obtain ⟨t, rfl⟩ := rx
    obtain ⟨hy, e'⟩ : y.length ≤ sizeLine ∧ k = ((y.length : Int) != 0) := e
    subst e'
    exact PySem.P.truthy_str (by omega) ⟨H, I.tok _, q⟩
  | byt y =>
    obtain ⟨t, rfl⟩ := rx
    obtain ⟨hy, e'⟩ : y.size ≤ sizeLine ∧ k = ((y.size : Int) != 0) := e
    subst e'
    exact PySem.W.truthy_bytes (by omega) ⟨H, I.tok _, q⟩
  | ref p =>
    cases rx
    have e' : (∃ xs, SqL X.K H p xs ∧ k = !xs.isEmpty) ∨ (∃ xs, SqT X.K H p xs ∧ k = !xs.isEmpty) ∨ ∃ kvs, H p = some (.dK kvs) ∧ k = !kvs.isEmpty := e
    rcases e' with ⟨xs, hx, e'⟩ | ⟨xs, hx, e'⟩ | ⟨kvs, hx, e'⟩
    · subst e'
      obtain ⟨its, r, pl, hz⟩ := I.list hx
      have hlen := r.length
      exact wpAny_truthy_list pl.isList (by simp only [List.size_toArray]; omega) ⟨H, I.tok _, by rw [isEmpty_of r]; exact q⟩
    · subst e'
      obtain ⟨its, r, pl, hz⟩ := I.tuple hx
      have hlen := r.length
      exact truthy_tuple pl (by simp only [List.size_toArray]; omega) ⟨H, I.tok _, by rw [isEmpty_of r]; exact q⟩
    · subst e'
      obtain ⟨hz, hS, vs, r, m⟩ : kvs.length ≤ sizeLine ∧ (p == sysModules) = false ∧ ∃ vs, KV kvs vs ∧ s.heap.DictOf (mixKind X.prog X.w) p vs := I.hok p _ hx
      have hlen : kvs.length = vs.length := Paired.length r
      exact wpAny_truthy_dict hS m (by omega) ⟨H, I.tok _, by rw [isEmpty_kv r]; exact q⟩
  | _ => exact (show False from e).elim
theorem pt_truth (ha : PE X a ta) (he : ∀ whole, isTrue a X.env whole = (do let v ← whole; standAt a.pos; holding [v] (truthy v))) :
    PT X a (fun σ H Q => ta σ H fun x H' => ∃ k, TruV X.K x H' k ∧ Q k H') := by
  intro pins s σ H Q I h
  exact isTrue_plain (thn (ha pins s σ H _ I h) fun v s1 ⟨x, H1, I1, r1, q1⟩ => tru_ok pins s1 σ H1 x v Q I1 r1 q1) (he _)
theorem op_add_str : OpR X (binaryOp .Add) (fun x y H Q => ∃ i j, x = .str i ∧ y = .str j ∧ i.length + j.length ≤ sizeLine ∧ Q (.str (i ++ j)) H) := by
  intro pins s σ H x y v u Q I rx ry h
  obtain ⟨i, j, rfl, rfl, hz, q⟩ := h
  obtain ⟨t, rfl⟩ := rx
  obtain ⟨t', rfl⟩ := ry
  exact add_str (fun t' tk => ⟨.str (i ++ j), H, I.tok _, ⟨_, rfl⟩, q⟩) hz
theorem vals1 {x : V} {us : List Value} (r : Vals [x] us) : ∃ u, us = [u] ∧ RelV x u := by
  cases r with
  | cons r1 r2 => cases r2; exact ⟨_, rfl, r1⟩
theorem vals2 {x y : V} {us : List Value} (r : Vals [x, y] us) : ∃ u w', us = [u, w'] ∧ RelV x u ∧ RelV y w' := by
  cases r with
  | cons r1 r2 =>
    cases r2 with
    | cons r3 r4 => cases r4; exact ⟨_, _, rfl, r1, r3⟩
theorem call_int1 : CallR X (.type "int") (fun xs H Q => (∃ i, xs = [.int i] ∧ Q (.int i) H) ∨ ∃ k, xs = [.bl k] ∧ Q (.int (if k then 1 else 0)) H) := by
  intro pins s σ H xs us Q I r h
  rcases h with ⟨i, rfl, q⟩ | ⟨k, rfl, q⟩
  · obtain ⟨u, rfl, t, rfl⟩ := vals1 r
    exact call_int_int ⟨.int i, H, I, ⟨_, rfl⟩, q⟩
  · obtain ⟨u, rfl, r1⟩ := vals1 r
    cases r1
    exact call_int_bool ⟨.int (if k then 1 else 0), H, I.tok _, ⟨_, rfl⟩, q⟩
theorem call_str_int : CallR X (.type "str") (fun xs H Q => ∃ i, xs = [.int i] ∧ i.natAbs.log2 < 1920 ∧ Q (.str (toString i)) H) := by
  intro pins s σ H xs us Q I r h
  obtain ⟨i, rfl, hz, q⟩ := h
  obtain ⟨u, rfl, t, rfl⟩ := vals1 r
  exact PySem.P.str_of_int hz ⟨.str _, H, I.tok _, ⟨_, rfl⟩, q⟩
end
end L2
namespace L2
open PySem PySem.Spec PyProof.Rows
structure ObjM (h : Heap) (x dx C : Addr) (mA : Str → Option Value) : Prop where
  obj : h.get? x = some (PySem.W.instObj C dx)
  ns : h.Ns1 dx mA
  ne : dx ≠ x
theorem lookIn_ns {h : Heap} {dx : Addr} {mA : Str → Option Value} (n : h.Ns1 dx mA) : ∃ od, h.get? dx = some od ∧ ∀ name, PySem.W.lookIn name od = some (mA name) := by
  obtain ⟨o, es, ep, ho, hd, hk, _, hm⟩ := n
  refine ⟨o, ho, fun name => ?_⟩
  have e := hm name
  unfold nsFind findBy at e
  rw [← Array.find?_toList] at e
  unfold PySem.W.lookIn
  rw [hd]
  dsimp only
  split
  · rename_i y q
    rw [q] at e
    exact congrArg some e
  · rename_i q
    rw [q] at e
    have a : es.toList.any (·.refKey) = false := by
      rw [List.any_eq_false]
      intro y hy
      obtain ⟨z, t, hkey⟩ := hk y (Array.mem_toList_iff.mp hy)
      simp [DictEntry.refKey, hkey]
    have a' : ¬ es.toList.any (·.refKey) = true := by rw [a]; exact Bool.false_ne_true
    rw [if_neg a']
    exact congrArg some e
theorem ObjM.look {h : Heap} {x dx C : Addr} {mA : Str → Option Value} (I : ObjM h x dx C mA) : ∃ od, PySem.W.InstAt h x (PySem.W.instObj C dx) C (some od) ∧ ∀ name, PySem.W.lookIn name od = some (mA name) :=
  let ⟨od, ho, hl⟩ := lookIn_ns I.ns
  ⟨od, ⟨I.obj, rfl, rfl, ho⟩, hl⟩
section
variable {prog : Program} {w : World} {A : Around} {E : Value → Shared → Prop} {s : Shared} {K : PySem.W.Frag} {x dx C f : Addr} {mA : Str → Option Value} {name : Str} {v : Value}
end
section
variable {P : Program} {w : World} {H H' : Hp} {h h' : Heap} {a C dx : Addr} {fs fs' : List (Str × V)}
theorem ins_get (hok : HOk P w H h) (e : H a = some (.ins C dx fs)) : ∃ mA, ObjM h a dx C mA ∧ (∀ f, RelO (fs.lookup f) (mA f)) ∧ PySem.Within mA (fs.map (·.1)) ∧ fs.length ≤ 1000 ∧ H dx = some (.own a) := by
  obtain ⟨d, z, ne, ob, mA, n, r, q⟩ := (show ObjOk P w H h a (.ins C dx fs) from hok a _ e)
  exact ⟨mA, ⟨ob, n, ne⟩, r, q, z, d⟩
end
structure Cls (K : PySem.W.Frag) (C : Addr) : Prop where
  pg : PySem.W.plainGet K C Str.empty = true
  hd : PySem.W.hasDictIn K C = true
  po : PySem.W.plainOver K C = true
  sa : PySem.W.findIn K (.ref C) "__setattr__" = some (some (.builtin "object.__setattr__"))
theorem Cls.get {K : PySem.W.Frag} {C : Addr} (c : Cls K C) (f : Str) : PySem.W.plainGet K C f = true := c.pg
section
variable {X : Cx} {pins : List (Addr × Obj)} {σ : St} {H : Hp} {s : Shared} {a C dx : Addr} {fs : List (Str × V)} {f : Str} {v : V} {A : Around} {E : Value → Shared → Prop}
end
section
variable {X : Cx} {o e value : Expr} {f : Str} {pos pos' tpos : Pos} {ta tv : TE}
end
section
variable {X : Cx} {pins : List (Addr × Obj)} {σ : St} {H : Hp} {s : Shared} {A : Around} {E : Value → Shared → Prop} {Q : Value → Shared → Prop} {c : Value} {b : Bool}
inductive TyOf (K : PySem.W.Frag) (H : Hp) : V → Value → Prop where
  | non : TyOf K H .non (.type "NoneType")
  | bl (x : Bool) : TyOf K H (.bl x) (.type "bool")
  | int (i : Int) : TyOf K H (.int i) (.type "int")
  | str (x : Str) : TyOf K H (.str x) (.type "str")
  | flt (x : UInt64) : TyOf K H (.flt x) (.type "float")
  | lst {a : Addr} {xs : List V} (e : H a = some (.lst xs)) : TyOf K H (.ref a) (.type "list")
  | frz {a : Addr} {o : Obj} {xs : List V} (e : H a = some (.frz o (.lst xs))) : TyOf K H (.ref a) (.type "list")
  | tup {a : Addr} {xs : List V} (e : H a = some (.tup xs)) : TyOf K H (.ref a) (.type "tuple")
  | dK {a : Addr} {kvs : List (Key × V)} (e : H a = some (.dK kvs)) : TyOf K H (.ref a) (.type "dict")
  | dT {a : Addr} {kvs : List (List Key × V)} (e : H a = some (.dT kvs)) : TyOf K H (.ref a) (.type "dict")
  | ins {a C dx : Addr} {fs : List (Str × V)} (e : H a = some (.ins C dx fs)) (cl : Cls K C) (ha : PySem.W.findIn K (.ref C) "__class__" = some (some (.builtin "object.__class__")))
      (hn : PySem.W.specialIn K (.builtin "object.__class__") "__get__" = some (some (.builtin "getset_descriptor.__get__"))) (htk : PySem.W.takesIn K (.builtin "object.__class__") = some true)
      (hm : PySem.W.mroIn K C (.type "object") = some true) : TyOf K H (.ref a) (.ref C)
theorem isinst_ok {x : V} {u t : Value} (I : Inv X pins σ H s) (rx : RelV x u) (ty : TyOf X.K H x t) (e : PySem.W.kitOne X.K t c = some b) (h : ∀ tk, Q (.bool b) { s with toks := tk }) :
    wpAny (model X.prog X.w) A (call (.builtin "isinstance") [u, c]) Q E s := by
  cases ty with
  | non => cases (show u = Value.none from rx); exact PySem.W.kia_one PySem.W.kitx_none I.kIn True.intro e (fun z => nomatch z) h
  | bl y => cases (show u = Value.bool y from rx); exact PySem.W.kia_one PySem.W.kitx_bool I.kIn True.intro e (fun z => nomatch z) h
  | int i => obtain ⟨t, q⟩ := (show ∃ t, u = Value.int i t from rx); cases q; exact PySem.W.kia_one PySem.W.kitx_int I.kIn True.intro e (fun z => nomatch z) h
  | str y => obtain ⟨t, q⟩ := (show ∃ t, u = Value.str y t from rx); cases q; exact PySem.W.kia_one PySem.W.kitx_str I.kIn True.intro e (fun z => nomatch z) h
  | flt y => obtain ⟨t, q⟩ := (show ∃ t, u = Value.float y t from rx); cases q; exact PySem.W.kia_one PySem.W.kitx_float I.kIn True.intro e (fun z => nomatch z) h
  | @lst a xs ea =>
    cases (show u = Value.ref a from rx)
    obtain ⟨_, _, n, _, h1⟩ := (show ObjOk X.prog X.w H s.heap a (.lst xs) from I.hok a _ ea)
    exact PySem.W.kia_one PySem.W.kitx_list I.kIn ⟨_, h1, rfl⟩ e (fun z => nomatch z) h
  | @frz a ob xs ea =>
    cases (show u = Value.ref a from rx)
    obtain ⟨_, _, _, n, _, h1⟩ := (show ObjOk X.prog X.w H s.heap a (.frz ob (.lst xs)) from I.hok a _ ea)
    exact PySem.W.kia_one PySem.W.kitx_list I.kIn ⟨_, h1, rfl⟩ e (fun z => nomatch z) h
  | @tup a xs ea =>
    cases (show u = Value.ref a from rx)
    obtain ⟨_, _, _, p⟩ := (show ObjOk X.prog X.w H s.heap a (.tup xs) from I.hok a _ ea)
    obtain ⟨o, h1, h2, _⟩ := p
    exact PySem.W.kia_one PySem.W.kitx_tuple I.kIn ⟨o, h1, h2⟩ e (fun z => nomatch z) h
  | @dK a kvs ea =>
    cases (show u = Value.ref a from rx)
    obtain ⟨_, _, vs, _, p⟩ := (show ObjOk X.prog X.w H s.heap a (.dK kvs) from I.hok a _ ea)
    obtain ⟨o, es, ep, h1, h2, _⟩ := p
    exact PySem.W.kia_one PySem.W.kitx_dict I.kIn ⟨o, h1, h2.1⟩ e (fun z => nomatch z) h
  | @dT a kvs ea =>
    cases (show u = Value.ref a from rx)
    obtain ⟨_, _, xs, _, o, es, ep, h1, h2, _⟩ := (show ObjOk X.prog X.w H s.heap a (.dT kvs) from I.hok a _ ea)
    exact PySem.W.kia_one PySem.W.kitx_dict I.kIn ⟨o, h1, h2.1⟩ e (fun z => nomatch z) h
  | @ins a C dx fs ea cl ha hn htk hm =>
    cases (show u = Value.ref a from rx)
    obtain ⟨mA, O, _⟩ := ins_get I.hok ea
    obtain ⟨od, J, _⟩ := O.look
    exact PySem.W.kia_one (PySem.W.kitx_own (cl.get _) cl.hd ha hn htk hm) I.kIn J e (fun z => nomatch z) h
end
end L2
namespace L2
open PySem PySem.Spec PyProof.Rows
structure Room (k : Nat) (A : Around) : Prop where
  hd : A.handled = none
  dp : A.depth + 3 * k + 5 < recursionLimit
  un : A.units + 16 * k + 200 < cLine
  gd : A.guards = some []
theorem Room.mono {j k : Nat} {A : Around} (r : Room k A) (h : j ≤ k) : Room j A := ⟨r.hd, by have := r.dp; omega, by have := r.un; omega, r.gd⟩
theorem Room.deeper {k : Nat} {A : Around} (r : Room (k + 1) A) (env : Env) : Room k (A.deeper env) :=
  ⟨r.hd, by have := r.dp; show A.depth + 1 + 3 * k + 5 < _; omega, by have := r.un; show A.units + 3 + 16 * k + 200 < _; omega, r.gd⟩
theorem Room.depth {k : Nat} {A : Around} (r : Room k A) : A.depth < recursionLimit := by have := r.dp; omega
theorem Room.units {k : Nat} {A : Around} (r : Room k A) : A.units + 64 < cLine := by have := r.un; omega
noncomputable def tNil : TA := fun _ H Q => Q [] H
noncomputable def tCons (ta : TE) (tr : TA) : TA := fun σ H Q => ta σ H fun x H1 => tr σ H1 fun xs H2 => Q (x :: xs) H2
section
variable {X : Cx} {e : Expr} {es : List Expr} {te : TE} {t : TA} {pos : Pos}
theorem pa_nil : PA X [] tNil := fun _ _ _ _ H Q I h => Calls.spliced_nil ⟨[], H, I, .nil, h⟩
theorem pa_cons (ha : PE X e te) (hr : PA X es t) (hs : starEach (e :: es) X.env = (false, eval e X.env) :: starEach es X.env := by rfl) : PA X (e :: es) (tCons te t) := by
  intro pos pins s σ H Q I h
  rw [hs]
  show wpAny _ _ (spliced ((false, eval e X.env) :: backTo pos (starEach es X.env))) _ _ s
  refine Calls.spliced_cons (thn (ha pins s σ H _ I h) fun u s1 ⟨x, H1, I1, r1, q1⟩ => ?_)
  exact thn (hr pos pins s1 σ H1 _ I1 q1) fun us s2 ⟨xs, H2, I2, r2, q2⟩ => ⟨x :: xs, H2, I2, .cons r1 r2, q2⟩
noncomputable def tTup (t : TA) : TE := fun σ H Q => t σ H fun xs H1 => xs.length ≤ sizeLine ∧ ∀ p, H1 p = none → Q (.ref p) (upd H1 p (.tup xs))
noncomputable def tLst (t : TA) : TE := fun σ H Q => t σ H fun xs H1 => xs.length ≤ sizeLine ∧ ∀ p, H1 p = none → Q (.ref p) (upd H1 p (.lst xs))
theorem pe_tup {x1} (h : PA X es t) : PE X (.Tuple es x1 pos) (tTup t) := by
  intro pins s σ H Q I hq
  refine wpAny_Tuple_spliced (thn (h pos pins s σ H _ I hq) fun us s1 ⟨xs, H1, I1, r, z, q⟩ => ⟨by rw [← r.length]; exact z, ?_⟩)
  have hf : H1 s1.heap.objs.size = none := I1.hok.fresh (Nat.le_refl _)
  refine ⟨.ref s1.heap.objs.size, upd H1 s1.heap.objs.size (.tup xs), I1.laid (t' := s1.toks) (fun b u e => Heap.get?_push_of_some _ e) (Nat.le_refl _) ?_, rfl, q _ hf⟩
  exact ⟨z, us, r, ⟨_, Heap.get?_push_size _ rfl, rfl, _, rfl⟩⟩
theorem pe_lst (h : PA X es t) : PE X (.List es pos) (tLst t) := by
  intro pins s σ H Q I hq
  refine wpAny_List_spliced (thn (h pos pins s σ H _ I hq) fun us s1 ⟨xs, H1, I1, r, z, q⟩ => ⟨by rw [← r.length]; exact z, ?_⟩)
  have hf : H1 s1.heap.objs.size = none := I1.hok.fresh (Nat.le_refl _)
  refine ⟨.ref s1.heap.objs.size, upd H1 s1.heap.objs.size (.lst xs), I1.laid (t' := s1.toks) (fun b u e => Heap.get?_push_of_some _ e) (Nat.le_refl _) ?_, rfl, q _ hf⟩
  exact ⟨z, us, 0, r, Heap.get?_push_size _ rfl⟩
end
noncomputable abbrev Sp := List V → Hp → VK → XK → Prop
noncomputable abbrev CXT := List Env → Hp → Shared → XK → Value → Shared → Prop
structure Env0 (P : Program) (w : World) (K : PySem.W.Frag) (mg : Str → Option Value) (base : Heap) (A : Around) (outer : List Env) (s : Shared) (H : Hp) : Prop where
  frames : A.frames = some outer
  mod : Mod K mg base
  bs : ∀ b o, base.get? b = some o → s.heap.get? b = some o ∧ H b = none
  bsz : base.objs.size ≤ s.heap.objs.size
  funs : s.heap.FunFrames base outer
  frf : ∀ b ∈ frs outer, H b = none
  hok : HOk P w H s.heap
  bare : AllBare s.gens
noncomputable def CE (outer : List Env) (P : Program) (w : World) (H : Hp) (s : Shared) (Q : VK) (u : Value) (s' : Shared) : Prop :=
  ∃ v H', s'.os = s.os ∧ AllBare s'.gens ∧ Un (frs outer) [] H H' s.heap s'.heap ∧ HOk P w H' s'.heap ∧ RelV v u ∧ Q v H'
noncomputable def CR (CX : CXT) (outer : List Env) (P : Program) (w : World) (H : Hp) (s : Shared) (Q : VK) (E : XK) (r : Result) (s' : Shared) : Prop :=
  match r with
  | .ok (.ret u) => CE outer P w H s Q u s'
  | .ok _ => False
  | .error e => CX outer H s E e s'
structure FnOk (P : Program) (w : World) (K : PySem.W.Frag) (mg : Str → Option Value) (base : Heap) (CX : CXT) (k : Nat) (f : Addr) (fd : FuncData) (ps : List Str) (sp : Sp) : Prop where
  len : ∀ vs H Q E, sp vs H Q E → vs.length = ps.length
  run : ∀ (A : Around) (outer : List Env) (s : Shared) (H : Hp) (args : Args) (us : List Value) (vs : List V) (Q : VK) (E : XK), Room k A → Env0 P w K mg base A outer s H → BindsTo s fd args (ps.zip us) → Vals vs us → sp vs H Q E →
    codeAny (model P w) A (.call (.ref f) args) (CR CX outer P w H s Q E) s
theorem FnOk.mono {P : Program} {w : World} {K : PySem.W.Frag} {mg : Str → Option Value} {base : Heap} {CX : CXT} {j k : Nat} {f : Addr} {fd : FuncData} {ps : List Str} {sp : Sp} (F : FnOk P w K mg base CX j f fd ps sp) (h : j ≤ k) :
    FnOk P w K mg base CX k f fd ps sp := ⟨F.len, fun A outer s H args us vs Q E hr => F.run A outer s H args us vs Q E (hr.mono h)⟩
theorem FnOk.imp {P : Program} {w : World} {K : PySem.W.Frag} {mg : Str → Option Value} {base : Heap} {CX : CXT} {k : Nat} {f : Addr} {fd : FuncData} {ps : List Str} {sp sp' : Sp} (F : FnOk P w K mg base CX k f fd ps sp)
    (h : ∀ vs H Q E, sp' vs H Q E → sp vs H Q E) : FnOk P w K mg base CX k f fd ps sp' :=
  ⟨fun vs H Q E q => F.len vs H Q E (h _ _ _ _ q), fun A outer s H args us vs Q E hr he hb hv hs => F.run A outer s H args us vs Q E hr he hb hv (h _ _ _ _ hs)⟩
section
variable {X : Cx} {pins : List (Addr × Obj)} {σ : St} {H : Hp} {s s' : Shared}
theorem Inv.env0 (I : Inv X pins σ H s) : Env0 X.prog X.w X.K X.mg X.base X.A X.stack s H :=
  ⟨I.ok.frames, I.ok.mod, I.bs, Nat.le_trans I.ok.bsz I.sz, I.stack, I.stkFree, I.hok, I.bare⟩
theorem Inv.after {Q : VK} {u : Value} (I : Inv X pins σ H s) (h : CE X.stack X.prog X.w H s Q u s') : EP X pins σ Q u s' := by
  obtain ⟨v, H', os, bare, un, hok, r, q⟩ := h
  obtain ⟨hh, g, d, t, os'⟩ := s'
  obtain rfl : os' = s.os := os
  exact ⟨v, H', I.call (h' := hh) (g' := g) (d' := d) (t' := t) (ch := []) un hok bare (fun b z => absurd z (by simp)), r, q⟩
end
noncomputable def tCall (sp : Sp) (dvs : List V) (E : XK) (t : TA) : TE := fun σ H Q => t σ H fun vs H1 => sp (vs ++ dvs) H1 Q E
noncomputable def Binds (K : PySem.W.Frag) (fd : FuncData) (ps : List Str) (ds : List Value) : Prop :=
  ∀ (s : Shared) (us : List Value), K.In s.heap → (us ++ ds).length = ps.length → BindsTo s fd ⟨us, []⟩ (ps.zip (us ++ ds))
theorem Binds.all {K : PySem.W.Frag} {fd : FuncData} {ps : List Str} (h : ∀ us : List Value, us.length = ps.length → bindArgs fd ⟨us, []⟩ = pure (ps.zip us)) : Binds K fd ps [] := fun s us _ hl => by
  rw [List.append_nil] at hl ⊢
  exact .of_eq (h us hl)
noncomputable def Passes (CX : CXT) (X : Cx) (E : XK) : Prop := ∀ (pins : List (Addr × Obj)) (σ : St) (H : Hp) (s : Shared) (e : Value) (s' : Shared), Inv X pins σ H s → CX X.stack H s E e s' → X.xe e s'
section
variable {X : Cx} {CX : CXT} {k : Nat} {f C : Addr} {fd : FuncData} {ps : List Str} {sp : Sp} {dvs : List V} {ds : List Value} {E : XK} {x m : Str} {p pos apos : Pos} {e o : Expr} {es : List Expr} {ta : TE} {t : TA}
theorem run_fn {pins : List (Addr × Obj)} {σ : St} {H : Hp} {s : Shared} {Q : VK} {us : List Value} {vs : List V} (F : FnOk X.prog X.w X.K X.mg X.base CX k f fd ps sp) (hr : Room k X.A) (hb : Binds X.K fd ps ds) (hd : Vals dvs ds) (hx : Passes CX X E)
    (I : Inv X pins σ H s) (r : Vals vs us) (h : sp (vs ++ dvs) H Q E) : wpAny (model X.prog X.w) X.A (call (.ref f) us) (EP X pins σ Q) X.xe s := by
  have r2 : Vals (vs ++ dvs) (us ++ ds) := r.append hd
  have hl : (us ++ ds).length = ps.length := by rw [← r2.length]; exact F.len _ _ _ _ h
  refine wpAny_call (codeAny_mono (F.run X.A X.stack s H ⟨us, []⟩ (us ++ ds) (vs ++ dvs) Q E hr I.env0 (hb s us I.kIn hl) r2 h) fun r s' hq => ?_)
  cases r with
  | error e => exact hx pins σ H s e s' I hq
  | ok fl =>
    cases fl with
    | ret u => exact I.after hq
    | next => exact False.elim hq
    | brk => exact False.elim hq
    | cont => exact False.elim hq
theorem pe_call (F : FnOk X.prog X.w X.K X.mg X.base CX k f fd ps sp) (hr : Room k X.A) (hg : Gl X x) (hm : X.mg x = some (.ref f)) (hk : PySem.W.keepIn X.K (.ref f) = true) (hb : Binds X.K fd ps ds) (hd : Vals dvs ds) (hx : Passes CX X E)
    (ha : PA X (e :: es) t) (hdb : (x == ("__debug__" : Str)) = false := by decide) (he : starEach (e :: es) X.env = (false, eval e X.env) :: starEach es X.env := by rfl) (hpl : (backTo pos (starEach es X.env)).any (·.1) = false := by rfl) :
    PE X (.Call (.Name x p) (e :: es) [] pos) (tCall sp dvs E t) := by
  intro pins s σ H Q I h
  refine wpAny_Call_Name_kw (ld_glob I hg hm ?_ hdb)
  refine PySem.W.callWith_K (h₀ := X.base) I.ok.mod.kin hk (thn (ha pos pins s σ H _ I h) fun us s1 ⟨vs, H1, I1, r, q⟩ => ⟨I1.kIn, ?_⟩) he hpl
  exact run_fn F hr hb hd hx I1 r q
end
section
variable {X : Cx} {CX : CXT} {k : Nat} {f C : Addr} {fd : FuncData} {ps ks : List Str} {sp : Sp} {E : XK} {x m : Str} {p pos apos kpos : Pos} {e o : Expr} {es : List Expr} {kws : List Keyword} {te ta : TE} {t tk : TA} {nm : Option Str}
variable {g : List Value → List Value → List Value} {gV : List V → List V → List V}
end
structure FnScope (N P : List Str) (sc : Scope) : Prop where
  kind : sc.kind = .function
  co : sc.isCoroutine = false
  gen : sc.isGenerator = false
  nd : N.Nodup
  pre : N.take P.length = P
  par : ∀ x ∈ P, sc.names.lookup x = some .local ∨ sc.names.lookup x = some .cell
  nofree : ∀ y ∈ sc.names, y.2 ≠ .free
theorem bindL_out {kindOf : Str → Option NameKind} {x : Str} : ∀ {binds : List (Str × Value)} {m : Str → Option Value}, (∀ v, (x, v) ∉ binds) → bindL kindOf binds m x = m x
  | [], _, _ => rfl
  | (n, v) :: r, m, h => by
    unfold bindL
    rw [bindL_out fun w hw => h w (List.mem_cons_of_mem _ hw)]
    split
    · have : x ≠ n := by rintro rfl; exact h v List.mem_cons_self
      simp [this]
    · rfl
theorem bindC_out {kindOf : Str → Option NameKind} {x : Str} : ∀ {binds : List (Str × Value)} {m : Str → Option Value}, (∀ v, (x, v) ∉ binds) → bindC kindOf binds m x = m x
  | [], _, _ => rfl
  | (n, v) :: r, m, h => by
    unfold bindC
    rw [bindC_out fun w hw => h w (List.mem_cons_of_mem _ hw)]
    split
    · rfl
    · have : x ≠ n := by rintro rfl; exact h v List.mem_cons_self
      simp [this]
theorem bindL_get {kindOf : Str → Option NameKind} {x : Str} {v : Value} : ∀ {P : List Str} {vs : List Value} {i : Nat} {m : Str → Option Value}, P.Nodup → P[i]? = some x → vs[i]? = some v → kindOf x = some .local →
    bindL kindOf (P.zip vs) m x = some v
  | [], _, _, _, _, h, _, _ => by simp at h
  | _ :: _, [], _, _, _, _, h, _ => by simp at h
  | p :: P, w :: vs, 0, m, nd, h1, h2, hk => by
    simp at h1 h2; subst h1; subst h2
    show bindL kindOf ((p, w) :: P.zip vs) m p = _
    unfold bindL
    rw [bindL_out fun v hv => (List.nodup_cons.mp nd).1 (List.of_mem_zip hv).1, if_pos hk]
    simp
  | p :: P, w :: vs, i + 1, m, nd, h1, h2, hk => by
    show bindL kindOf ((p, w) :: P.zip vs) m x = _
    unfold bindL
    exact bindL_get (i := i) (List.nodup_cons.mp nd).2 (by simpa using h1) (by simpa using h2) hk
theorem bindC_get {kindOf : Str → Option NameKind} {x : Str} {v : Value} : ∀ {P : List Str} {vs : List Value} {i : Nat} {m : Str → Option Value}, P.Nodup → P[i]? = some x → vs[i]? = some v → kindOf x ≠ some .local →
    bindC kindOf (P.zip vs) m x = some v
  | [], _, _, _, _, h, _, _ => by simp at h
  | _ :: _, [], _, _, _, _, h, _ => by simp at h
  | p :: P, w :: vs, 0, m, nd, h1, h2, hk => by
    simp at h1 h2; subst h1; subst h2
    show bindC kindOf ((p, w) :: P.zip vs) m p = _
    unfold bindC
    rw [bindC_out fun v hv => (List.nodup_cons.mp nd).1 (List.of_mem_zip hv).1, if_neg hk]
    simp
  | p :: P, w :: vs, i + 1, m, nd, h1, h2, hk => by
    show bindC kindOf ((p, w) :: P.zip vs) m x = _
    unfold bindC
    exact bindC_get (i := i) (List.nodup_cons.mp nd).2 (by simpa using h1) (by simpa using h2) hk
noncomputable def start (N : List Str) (vs : List V) : St := vs.map some ++ List.replicate (N.length - vs.length) none
noncomputable def cxOf (CX : CXT) (P : Program) (w : World) (K : PySem.W.Frag) (mg : Str → Option Value) (base : Heap) (N : List Str) (qual : Str) (scope : Scope) (f : Addr) (cd : Value) (A : Around) (outer : List Env) (s : Shared) (H : Hp) (E : XK) : Cx where
  prog := P
  w := w
  K := K
  mg := mg
  base := base
  A := A.deeper (envOfC qual scope s.heap.objs.size f cd)
  N := N
  s₀ := s
  H₀ := H
  env := envOfC qual scope s.heap.objs.size f cd
  outer := outer
  stack := envOfC qual scope s.heap.objs.size f cd :: outer
  ex := []
  calm := true
  fn := fun _ => true
  pn := []
  xe := fun e s' => wpAny (model P w) (A.deeper (envOfC qual scope s.heap.objs.size f cd)) (leaving (envOfC qual scope s.heap.objs.size f cd) e) (fun _ s'' => CX outer H s E e s'') (fun e' s'' => CX outer H s E e' s'') s'
theorem cell_has {sc : Scope} {n : Nat} {x : Str} (h : sc.names.lookup x = some .cell) : ∃ c, (cellsFrom n sc.names []).lookup x = some c := by
  have q := PySem.W.cellsFrom_some sc.names n [] (.inl h)
  exact Option.isSome_iff_exists.mp q
theorem inv_start {CX : CXT} {P : Program} {w : World} {K : PySem.W.Frag} {mg : Str → Option Value} {base : Heap} {N ps : List Str} {qual : Str} {scope : Scope} {f : Addr} {cd : Value} {A : Around} {outer : List Env} {s s1 : Shared} {H : Hp} {E : XK} {us : List Value} {vs : List V}
    (S : FnScope N ps scope) (hd : A.handled = none) (e0 : Env0 P w K mg base A outer s H) (hl : vs.length = ps.length) (r : Vals vs us)
    (x : InCallC s s.heap.objs.size (bindL (envOfC qual scope s.heap.objs.size f cd).kindOf (ps.zip us) fun _ => none) (cellsFrom (s.heap.objs.size + 1) scope.names []) (bindC (envOfC qual scope s.heap.objs.size f cd).kindOf (ps.zip us) fun _ => none) s1) :
    Inv (cxOf CX P w K mg base N qual scope f cd A outer s H E) [] (start N vs) H s1 := by
  have hpl : ps.length ≤ N.length := by have := congrArg List.length S.pre; rw [List.length_take] at this; omega
  obtain ⟨h1, tk, rfl, hk⟩ := x.done
  have noA : ∀ b : Addr, b ∉ (cxOf CX P w K mg base N qual scope f cd A outer s H E).ex := fun b z => absurd (show b ∈ ([] : List Addr) from z) (by simp)
  refine ⟨⟨e0.mod, S.kind, rfl, rfl, Nat.le_refl _, fun y z c h1 h2 => ?_, fun y hy => ?_, fun y c _ h => ?_, fun _ => hd, Around.frames_deeper e0.frames, .inr ⟨rfl, rfl⟩, fun b z => absurd z (noA b), e0.bs, e0.bsz, fun b _ _ => noA b, fun b z => absurd z (noA b), e0.funs, e0.frf⟩,
    rfl, e0.bare, Un.kept hk, ⟨_, x.toInCall.ns, fun i y v h1 h2 h3 => ?_⟩, fun y c h => ⟨_, x.cell y c h⟩, e0.hok.fresh (Nat.le_refl _), fun y c h => ?_, fun p hp => absurd (show p ∈ ([] : List (Addr × Obj)) from hp) (by simp), e0.hok.kept hk, ?_⟩
  · exact name_of_addr x.apart (PySem.mem_of_lookup h1) (PySem.mem_of_lookup h2)
  · have hy : scope.names.lookup y = some .cell ∨ scope.names.lookup y = some .free := hy
    rcases hy with hy | hy
    · exact cell_has hy
    · exact absurd rfl (S.nofree _ (PySem.mem_of_lookup hy))
  · exact Nat.le_of_lt (x.above y c (PySem.mem_of_lookup h))
  · have hi : i < vs.length := by
      unfold start at h2
      by_cases hi : i < vs.length
      · exact hi
      · rw [List.getElem?_append_right (by simpa using hi)] at h2
        rw [List.getElem?_replicate] at h2
        split at h2 <;> cases h2
    have ha : vs[i]? = some v := by
      unfold start at h2
      rw [List.getElem?_append_left (by simpa using hi), List.getElem?_map] at h2
      cases e : vs[i]? with
      | none => rw [e] at h2; cases h2
      | some a => rw [e] at h2; cases h2; rfl
    obtain ⟨u, hu, rv⟩ := r.get ha
    have hp : ps[i]? = some y := by
      rw [← S.pre, List.getElem?_take_of_lt (by omega)]; exact h1
    have ndP : ps.Nodup := by rw [← S.pre]; exact S.nd.sublist (List.take_sublist _ _)
    refine ⟨u, rv, ?_⟩
    rcases S.par y (List.mem_of_getElem? hp) with k | k
    · exact .inl ⟨k, bindL_get ndP hp hu k⟩
    · obtain ⟨c, e⟩ := cell_has (n := s.heap.objs.size + 1) k
      refine .inr ⟨.inl k, c, e, ?_⟩
      have q := x.cell y c e
      rw [bindC_get ndP hp hu (by show scope.names.lookup y ≠ _; rw [k]; decide)] at q
      exact q
  · exact e0.hok.fresh (Nat.le_of_lt (x.above y c (PySem.mem_of_lookup h)))
  · unfold start
    show _ = N.length
    rw [List.length_append, List.length_map, List.length_replicate]
    omega
theorem fn_of {CX : CXT} {P : Program} {w : World} {K : PySem.W.Frag} {mg : Str → Option Value} {base : Heap} {k : Nat} {f : Addr} {name qual : Str} {params : Arguments} {body : List Stmt} {scope : Scope} {dV kV doc pm cdv ct oc : Value} {an od : Option Addr}
    {osl : Array (Option Value)} {N ps : List Str} {sp : Sp} (lk : K.lookup f = some ⟨oc, od, .func (PySem.W.fnOf name qual params body scope dV kV doc pm an cdv ct), osl⟩) (hcd : PySem.W.codeIn K cdv qual = true) (S : FnScope N ps scope)
    (len : ∀ vs H Q E, sp vs H Q E → vs.length = ps.length)
    (hbody : ∀ (A : Around) (outer : List Env) (s : Shared) (H : Hp) (vs : List V) (Q : VK) (E : XK), Room k (A.deeper (envOfC qual scope s.heap.objs.size f cdv)) → sp vs H Q E →
      ∃ t, PSs (cxOf CX P w K mg base N qual scope f cdv A outer s H E) body t ∧ t { nx := fun _ H' => Q .non H', rt := Q } (start N vs) H) :
    FnOk P w K mg base CX (k + 1) f (PySem.W.fnOf name qual params body scope dV kV doc pm an cdv ct) ps sp := by
  refine ⟨len, fun A outer s H args us vs Q E hr e0 hb r hsp => ?_⟩
  have hl := len _ _ _ _ hsp
  have KX : K.In s.heap := e0.mod.kin.keeps fun b o e => (e0.bs b o e).1
  have lim : s.heap.NoLimit := e0.mod.nolimit.keeps fun b o e => (e0.bs b o e).1
  have hkind : ∀ y ∈ ps.zip us, scope.names.lookup y.1 = some .local ∨ (scope.names.lookup y.1 = some .cell ∧ ((cellsFrom (s.heap.objs.size + 1) scope.names []).lookup y.1).isSome = true) := fun ⟨n, v⟩ hy => by
    rcases S.par n (List.of_mem_zip hy).1 with q | q
    · exact .inl q
    · exact .inr ⟨q, PySem.W.cellsFrom_some _ _ _ (.inl q)⟩
  refine codeAny_call_function hr.depth (KX _ _ lk) rfl S.co S.gen rfl (PySem.W.codeRec_of KX hcd) (hb _ _ _ _ ?_)
  refine wpAny_newFunctionEnv_cells S.kind hkind fun env he s1 x => ?_
  subst he
  refine ⟨lim.keeps x.toInCall.keep, codeAny_func ?_⟩
  obtain ⟨t, ht, hq⟩ := hbody A outer s H vs Q E (hr.deeper _) hsp
  have I : Inv (cxOf CX P w K mg base N qual scope f cdv A outer s H E) [] (start N vs) H s1 := inv_start S hr.hd e0 hl r x
  refine wpAny_mono (ht [] s1 (start N vs) H _ I hq) (fun fl s' hs => ?_) fun e s' hs => hs
  have fin : ∀ {σ' : St} {H' : Hp} {v : V} {u : Value}, Inv (cxOf CX P w K mg base N qual scope f cdv A outer s H E) [] σ' H' s' → RelV v u → Q v H' → CE outer P w H s Q u s' :=
    fun {σ' H' v u} J rv q => ⟨v, H', J.os, J.bare, J.base, J.hok, rv, q⟩
  cases fl with
  | ret u =>
    obtain ⟨v, σ', H', J, rv, q⟩ := hs
    exact fin J rv q
  | next =>
    obtain ⟨σ', H', J, q⟩ := hs
    exact fin (v := V.non) (u := Value.none) J rfl q
  | brk =>
    obtain ⟨_, _, _, q⟩ := hs
    exact False.elim q
  | cont =>
    obtain ⟨_, _, _, q⟩ := hs
    exact False.elim q
end L2
namespace L2
open PySem PySem.Spec PyProof.Rows
section
variable {X : Cx} {x : Str} {p pos : Pos} {e : Expr} {es : List Expr} {t : TA} {id T : String} {r : List V → Hp → VK → Prop}
noncomputable def tCB (r : List V → Hp → VK → Prop) (t : TA) : TE := fun σ H Q => t σ H fun vs H1 => r vs H1 Q
theorem pe_callB (hc : CallR X (.builtin id) r) (hg : Gl X x) (hm : X.mg x = none) (hv : bootBuiltins x = some (.builtin id)) (ha : PA X (e :: es) t) (hn : x ≠ "__name__" := by decide) (hdb : (x == ("__debug__" : Str)) = false := by decide)
    (he : starEach (e :: es) X.env = (false, eval e X.env) :: starEach es X.env := by rfl) (hpl : (backTo pos (starEach es X.env)).any (·.1) = false := by rfl) : PE X (.Call (.Name x p) (e :: es) [] pos) (tCB r t) := by
  intro pins s σ H Q I h
  refine wpAny_Call_Name_kw (ld_blt I hg hm hv ?_ hn hdb)
  exact PyProof.Rows.callWith_builtin1 (thn (ha pos pins s σ H _ I h) fun us s1 ⟨vs, H1, I1, r1, q1⟩ => hc pins s1 σ H1 vs us Q I1 r1 q1) he hpl
theorem pe_callTy (hc : CallR X (.type T) r) (hg : Gl X x) (hm : X.mg x = none) (hv : bootBuiltins x = some (.type T)) (ha : PA X (e :: es) t) (hn : x ≠ "__name__" := by decide) (hdb : (x == ("__debug__" : Str)) = false := by decide)
    (he : starEach (e :: es) X.env = (false, eval e X.env) :: starEach es X.env := by rfl) (hpl : (backTo pos (starEach es X.env)).any (·.1) = false := by rfl) : PE X (.Call (.Name x p) (e :: es) [] pos) (tCB r t) := by
  intro pins s σ H Q I h
  refine wpAny_Call_Name_kw (ld_blt I hg hm hv ?_ hn hdb)
  exact PyProof.Rows.callWith_type1 (thn (ha pos pins s σ H _ I h) fun us s1 ⟨vs, H1, I1, r1, q1⟩ => hc pins s1 σ H1 vs us Q I1 r1 q1) he hpl
end
end L2
namespace HT
open PySem PyProof.Rows
section
open PySem.SeqAt
open PySem.AutoSeq1 (wpAny_loadPart')
open PySem.MeetsSeq PySem.MeetsSeq2 PySem.MeetsSeq3
end
section
variable {prog : Program} {w : World} {A : Around} {E : Value → Shared → Prop} {s : Shared}
noncomputable def sIx (n d : Nat) : Option Int → Nat
  | none => d
  | some v => if v < 0 then (v + (n : Int)).toNat else min v.toNat n
theorem sIx_nat (n d k : Nat) : sIx n d (some (k : Int)) = min k n := by
  show (if (k : Int) < 0 then ((k : Int) + (n : Int)).toNat else min (k : Int).toNat n) = min k n
  rw [if_neg (by omega), Int.toNat_natCast]
theorem sIx_le (n d : Nat) (hd : d ≤ n) (o : Option Int) : sIx n d o ≤ n := by
  cases o with
  | none => exact hd
  | some v =>
    show (if v < 0 then (v + (n : Int)).toNat else min v.toNat n) ≤ n
    by_cases hv : v < 0
    · rw [if_pos hv]; omega
    · rw [if_neg hv]; exact Nat.min_le_right _ _
theorem clip_eq (v : Int) (n d : Nat) : (if v < 0 then max (v + (n : Int)) 0 else min v (n : Int)) = ((sIx n d (some v) : Nat) : Int) := by
  show (if v < 0 then max (v + (n : Int)) 0 else min v (n : Int)) = (((if v < 0 then (v + (n : Int)).toNat else min v.toNat n) : Nat) : Int)
  by_cases hv : v < 0
  · simp only [if_pos hv]; omega
  · simp only [if_neg hv]; omega
theorem adjust_gen (lo hi : Option Int) (n : Nat) : Builtin.Slice.sliceAdjust lo hi 1 (n : Int) = (((sIx n 0 lo : Nat) : Int), ((sIx n n hi : Nat) : Int)) := by
  have h1 : ¬ ((1 : Int) < 0) := by omega
  unfold Builtin.Slice.sliceAdjust
  simp only [h1, if_false]
  refine Prod.ext ?_ ?_
  · cases lo with
    | none => rfl
    | some v => exact clip_eq v n 0
  · cases hi with
    | none => rfl
    | some v => exact clip_eq v n n
theorem places_gen (i j : Nat) : Builtin.Slice.slicePlaces (i : Int) (j : Int) 1 = j - i := by
  unfold Builtin.Slice.slicePlaces
  have h1 : (1 : Int) > 0 := by omega
  simp only [h1, if_true, Int.ediv_one]
  split <;> omega
theorem slicePart_ {v : Value} {o : Option Int} {Q : Option Int → Shared → Prop} (p : IsPart v o) (h : Q o s) : wpAny (model prog w) A (Builtin.Slice.slicePartIndex v) Q E s := by
  cases p with
  | none => exact slicePart_none h
  | int i t => exact slicePart_int h
theorem sliceApplied_gen {sl : Addr} {vl vu : Value} {lo hi : Option Int} {n : Nat} {Q : Int × Int × Nat → Shared → Prop} (hs : s.heap.IsSliceOf sl vl vu .none) (pl : IsPart vl lo) (pu : IsPart vu hi)
    (h : Q (((sIx n 0 lo : Nat) : Int), 1, sIx n n hi - sIx n 0 lo) s) : wpAny (model prog w) A (Builtin.Slice.sliceApplied (.ref sl) (pure (n : Int))) Q E s := by
  obtain ⟨os, hos, hcs, hds⟩ := id hs
  unfold Builtin.Slice.sliceApplied Builtin.Slice.sliceFields
  refine wpAny_bind (wpAny_bind (wpAny_field hos hds (x := vl) rfl (wpAny_bind (wpAny_field hos hds (x := vu) rfl (wpAny_bind (wpAny_field hos hds (x := .none) rfl (wpAny_pure ?_)))))))
  refine wpAny_bind (slicePart_none ?_)
  show wpAny _ _ (if ((1 : Int) == 0) = true then _ else _) _ _ s
  rw [if_neg (by decide)]
  refine wpAny_bind (slicePart_ pl (wpAny_bind (slicePart_ pu (wpAny_bind (wpAny_pure ?_)))))
  show wpAny _ _ (match Builtin.Slice.sliceAdjust lo hi 1 (n : Int) with | (lo, hi) => pure (lo, (1 : Int), Builtin.Slice.slicePlaces lo hi 1)) _ _ s
  rw [adjust_gen lo hi n]
  show wpAny _ _ (pure (((sIx n 0 lo : Nat) : Int), (1 : Int), Builtin.Slice.slicePlaces ((sIx n 0 lo : Nat) : Int) ((sIx n n hi : Nat) : Int) 1)) _ _ s
  rw [places_gen]
  exact wpAny_pure h
theorem pick_gen (xs : Array Value) (i k : Nat) : ((List.range k).filterMap fun (m : Nat) => xs[((i : Int) + (m : Int) * 1).toNat]?).toArray = ((xs.toList.drop i).take k).toArray := by
  have e : (fun (m : Nat) => xs[((i : Int) + (m : Int) * 1).toNat]?) = fun m => xs[i + m]? := by
    funext m
    have : ((i : Int) + (m : Int) * 1).toNat = i + m := by omega
    rw [this]
  rw [e]
  have := pick_run xs i k
  rw [List.filterMap_map] at this
  have e2 : ((fun x => xs[x]?) ∘ fun x => i + x) = fun m => xs[i + m]? := rfl
  rw [e2] at this
  rw [this]
theorem getItem_tuple_cut {t sl : Addr} {items : Array Value} {vl vu : Value} {lo hi : Option Int} {Q : Value → Shared → Prop} (ht : IsTup s.heap t items) (hs : s.heap.IsSliceOf sl vl vu .none) (pl : IsPart vl lo) (pu : IsPart vu hi)
    (hw : ¬ (sIx items.size 0 lo = 0 ∧ sIx items.size items.size hi = items.size))
    (h : Q (.ref s.heap.objs.size) { s with heap := s.heap.push { cls := .type "tuple", data := .seq ((items.toList.drop (sIx items.size 0 lo)).take (sIx items.size items.size hi - sIx items.size 0 lo)).toArray } })
    (hsz : items.size ≤ sizeLine) : wpAny (model prog w) A (getItem (.ref t) (.ref sl)) Q E s := by
  have htake : sizeOk (.seq ((items.toList.drop (sIx items.size 0 lo)).take (sIx items.size items.size hi - sIx items.size 0 lo)).toArray) := by
    show ((items.toList.drop (sIx items.size 0 lo)).take (sIx items.size items.size hi - sIx items.size 0 lo)).toArray.size ≤ sizeLine
    rw [List.size_toArray, List.length_take, List.length_drop, Array.length_toList]
    omega
  have hj : sIx items.size items.size hi ≤ items.size := sIx_le _ _ (Nat.le_refl _) hi
  obtain ⟨os, hos, hcs, hds⟩ := id hs
  have hTs : s.TypeIs (.ref sl) "slice" := ⟨os, hos, hcs⟩
  unfold getItem
  try with_reducible refine wpAny_holding ?_
  first | refine wpAny_bind (wpAny_pure ?_) | skip
  refine wpAny_bind (wpAny_sequenceKey ht.typeIs (by decide) ?_)
  refine wpAny_bind (wpAny_callSpecial?_slot (name := Str.ofString "__getitem__") ht.typeIs PyProof.Rows.slot_tuple_getitem
    (wpAny_call_entry PyProof.Rows.slot_tuple_getitem ht.typeIs entry_tuple_getitem ?_ (args_tuple_getitem _ _)))
  show wpAny _ _ (Builtin.Tuple.tupleItemsOf (.ref t) >>= _) _ _ s
  refine wpAny_bind (tupleItemsOf_ ht ?_)
  refine wpAny_bind (wpAny_typeOf hTs ?_)
  rw [if_pos (by decide)]
  refine wpAny_bind (sliceApplied_gen hs pl pu ?_)
  have hno : ¬ ((((sIx items.size 0 lo : Nat) : Int) == 0 && (1 : Int) == 1 && (sIx items.size items.size hi - sIx items.size 0 lo) == items.size) = true) := by
    intro q
    rw [Bool.and_eq_true, Bool.and_eq_true] at q
    have q1 : ((sIx items.size 0 lo : Nat) : Int) = 0 := eq_of_beq q.1.1
    have q2 : sIx items.size items.size hi - sIx items.size 0 lo = items.size := eq_of_beq q.2
    exact hw ⟨by omega, by omega⟩
  show wpAny _ _ (if (((sIx items.size 0 lo : Nat) : Int) == 0 && (1 : Int) == 1 && (sIx items.size items.size hi - sIx items.size 0 lo) == items.size) = true then _ else _) _ _ s
  rw [if_neg hno, pick_gen]
  first
    | exact wpAny_bind (m := Builtin.Tuple.tupleExact _) (wpAny_newObj_type (wpAny_pure ⟨_, rfl, wpAny_pure h⟩) htake)
    | exact wpAny_bind (m := Builtin.Tuple.tupleExact _) (wpAny_newObj_type (wpAny_bind (wpAny_pure (wpAny_pure ⟨_, rfl, wpAny_pure h⟩))) htake)
    | exact wpAny_bind (wpAny_bind (m := Builtin.Tuple.tupleExact _) (wpAny_newObj_type (wpAny_pure (wpAny_pure ⟨_, rfl, wpAny_pure h⟩)) htake))
    | exact wpAny_bind (wpAny_bind (m := Builtin.Tuple.tupleExact _) (wpAny_newObj_type (wpAny_pure ⟨_, rfl, wpAny_pure h⟩) htake))
end
end HT
namespace L2
open PySem PySem.Spec PyProof.Rows
noncomputable abbrev TO := St → Hp → (Option Int → Hp → Prop) → Prop
noncomputable def PO (X : Cx) (e : Option Expr) (t : TO) : Prop :=
  ∀ (pins : List (Addr × Obj)) (s : Shared) (σ : St) (H : Hp) (Q : Option Int → Hp → Prop), Inv X pins σ H s → t σ H Q →
    wpAny (model X.prog X.w) X.A (evalPart e X.env) (fun u s' => ∃ o H', Inv X pins σ H' s' ∧ IsPart u o ∧ Q o H') X.xe s
noncomputable def tNoPart : TO := fun _ H Q => Q none H
noncomputable def tPart (t : TE) : TO := fun σ H Q => t σ H fun x H1 => ∃ i, x = .int i ∧ Q (some i) H1
theorem intsAre_of {ns : List Int} : ∀ {us : List Value}, Vals (ns.map V.int) us → IntsAre us ns := by
  induction ns with
  | nil => intro us r; rw [List.map_nil] at r; cases r; exact .nil
  | cons n ns ih =>
    intro us r
    rw [List.map_cons] at r
    cases r with
    | cons r1 r2 =>
      obtain ⟨t, e⟩ := r1
      subst e
      exact .cons n t (ih r2)
section
variable {X : Cx} {e : Expr} {te : TE} {lo hi : Option Expr} {tl th : TO} {pos p2 : Pos}
theorem po_none : PO X none tNoPart := by
  intro pins s σ H Q I h
  rw [evalPart_none]
  exact wpAny_pure ⟨none, H, I, .none, h⟩
theorem po_some (h : PE X e te) : PO X (some e) (tPart te) := by
  intro pins s σ H Q I hw
  rw [evalPart_some]
  refine thn (h pins s σ H _ I hw) fun u s1 ⟨x, H1, I1, r1, q1⟩ => ?_
  obtain ⟨i, rfl, q⟩ := q1
  obtain ⟨t, rfl⟩ := r1
  exact ⟨some i, H1, I1, .int i t, q⟩
noncomputable def SlR (X : Cx) (r : V → Option Int → Option Int → Hp → VK → Prop) : Prop :=
  ∀ (pins : List (Addr × Obj)) (s : Shared) (σ : St) (H : Hp) (x : V) (v vl vu : Value) (lo hi : Option Int) (sl : Addr) (Q : VK), Inv X pins σ H s → RelV x v → s.heap.IsSliceOf sl vl vu .none → IsPart vl lo → IsPart vu hi → r x lo hi H Q →
    ∃ T id, typeLookup (.type T) "__getitem__" = pure (some (.builtin id)) ∧ s.TypeIs v T ∧ wpAny (model X.prog X.w) X.A (getItem v (.ref sl)) (EP X pins σ Q) X.xe s
theorem SlR.or {r r' : V → Option Int → Option Int → Hp → VK → Prop} (h : SlR X r) (h' : SlR X r') : SlR X (fun x lo hi H Q => r x lo hi H Q ∨ r' x lo hi H Q) := by
  intro pins s σ H x v vl vu lo hi sl Q I rx hs pl pu q
  rcases q with q | q
  · exact h pins s σ H x v vl vu lo hi sl Q I rx hs pl pu q
  · exact h' pins s σ H x v vl vu lo hi sl Q I rx hs pl pu q
noncomputable def tSl (r : V → Option Int → Option Int → Hp → VK → Prop) (te : TE) (tl th : TO) : TE := fun σ H Q => te σ H fun x H1 => tl σ H1 fun l H2 => th σ H2 fun u H3 => r x l u H3 Q
theorem pe_slice {r : V → Option Int → Option Int → Hp → VK → Prop} (hr : SlR X r) (he : PE X e te) (hl : PO X lo tl) (hu : PO X hi th) : PE X (.Subscript e (.Slice lo hi none p2) pos) (tSl r te tl th) := by
  intro pins s σ H Q I h
  refine Subscript_ (thn (he pins s σ H _ I h) fun v s1 ⟨x, H1, I1, r1, q1⟩ => ?_)
  refine wpAny_Slice (thn (hl pins s1 σ H1 _ I1 q1) fun vl s2 ⟨l, H2, I2, pl, q2⟩ => thn (hu pins s2 σ H2 _ I2 q2) fun vu s3 ⟨u, H3, I3, pu, q3⟩ => ?_)
  rw [evalPart_none]
  refine wpAny_pure ?_
  have I4 : Inv X pins σ H3 { s3 with heap := s3.heap.push { cls := .type "slice", data := .fields #[vl, vu, .none] } } := I3.kept (t' := s3.toks) fun b ob q => Heap.get?_push_of_some _ q
  obtain ⟨T, id, hT, ht, hg⟩ := hr pins { s3 with heap := s3.heap.push { cls := .type "slice", data := .fields #[vl, vu, .none] } } σ H3 x v vl vu l u s3.heap.objs.size Q I4 r1 (Heap.IsSliceOf.new ..) pl pu q3
  show wpAny (model X.prog X.w) X.A (subscriptTail e (.Slice lo hi none p2) v (.ref s3.heap.objs.size)) (EP X pins σ Q) X.xe { s3 with heap := s3.heap.push { cls := .type "slice", data := .fields #[vl, vu, .none] } }
  exact tail_any (ops := [.ref s3.heap.objs.size, v]) ht hT hg (by with_unfolding_all rfl)
noncomputable def cutV (xs : List V) (lo hi : Option Int) : List V := (xs.drop (HT.sIx xs.length 0 lo)).take (HT.sIx xs.length xs.length hi - HT.sIx xs.length 0 lo)
theorem cutV_length (xs : List V) (lo hi : Option Int) : (cutV xs lo hi).length ≤ xs.length := by
  unfold cutV
  rw [List.length_take, List.length_drop]
  omega
noncomputable def rSlT (K : PySem.W.Frag) : V → Option Int → Option Int → Hp → VK → Prop := fun x lo hi H Q => ∃ a xs, x = .ref a ∧ SqT K H a xs ∧
  ¬ (HT.sIx xs.length 0 lo = 0 ∧ HT.sIx xs.length xs.length hi = xs.length) ∧ ∀ p, H p = none → Q (.ref p) (upd H p (.tup (cutV xs lo hi)))
theorem sl_tup : SlR X (rSlT X.K) := by
  intro pins s σ H x v vl vu lo hi sl Q I rx hs pl pu h
  obtain ⟨a, xs, rfl, hx, hw, q⟩ := h
  cases rx
  obtain ⟨its, r, ht, hz⟩ := I.tuple hx
  have hlen : its.toArray.size = xs.length := by rw [List.size_toArray]; exact r.length.symm
  refine ⟨"tuple", _, PyProof.Rows.slot_tuple_getitem.lookup, ht.typeIs, ?_⟩
  refine HT.getItem_tuple_cut ht hs pl pu (by rw [hlen]; exact hw) ?_ (by rw [hlen]; exact hz)
  rw [hlen]
  refine ⟨.ref s.heap.objs.size, _, I.laid (t' := s.toks) (o := .tup (cutV xs lo hi)) (fun b ob q => Heap.get?_push_of_some _ q) (Nat.le_refl _) ?_, rfl, q _ (I.hok.fresh (Nat.le_refl _))⟩
  exact ⟨Nat.le_trans (cutV_length xs lo hi) hz, _, (r.drop (HT.sIx xs.length 0 lo)).take (HT.sIx xs.length xs.length hi - HT.sIx xs.length 0 lo), IsTup.new _ _⟩
end
end L2
namespace L2
open PySem PySem.Spec PyProof.Rows
noncomputable def ixN (n : Nat) (i : Int) : Option Nat := if 0 ≤ i then (if i < n then some i.toNat else none) else if -(n : Int) ≤ i then some (i + n).toNat else none
noncomputable def atI {α : Type} (xs : List α) (i : Int) : Option α := (ixN xs.length i).bind fun j => xs[j]?
theorem ixN_seq {n : Nat} {i : Int} {j : Nat} (h : ixN n i = some j) : seqIndex? i n = some j ∧ j < n ∧ -(n : Int) ≤ i ∧ i < n := by
  unfold ixN at h
  by_cases h0 : 0 ≤ i
  · rw [if_pos h0] at h
    by_cases h1 : i < n
    · rw [if_pos h1] at h
      have e : i.toNat = j := Option.some.inj h
      exact ⟨by rw [seqIndex_of h0 h1, e], by omega, by omega, h1⟩
    · rw [if_neg h1] at h; cases h
  · rw [if_neg h0] at h
    by_cases h1 : -(n : Int) ≤ i
    · rw [if_pos h1] at h
      have e : (i + n).toNat = j := Option.some.inj h
      exact ⟨by rw [seqIndex_neg (by omega) h1, e], by omega, h1, by omega⟩
    · rw [if_neg h1] at h; cases h
theorem atI_get {α : Type} {xs : List α} {i : Int} {v : α} (h : atI xs i = some v) : ∃ j, seqIndex? i xs.length = some j ∧ xs[j]? = some v ∧ j < xs.length ∧ -(xs.length : Int) ≤ i ∧ i < xs.length := by
  unfold atI at h
  cases e : ixN xs.length i with
  | none => rw [e] at h; cases h
  | some j =>
    rw [e] at h
    obtain ⟨h1, h2, h3, h4⟩ := ixN_seq e
    exact ⟨j, h1, h, h2, h3, h4⟩
theorem atI_nat {α : Type} {xs : List α} {j : Nat} {v : α} (h : xs[j]? = some v) : atI xs (j : Int) = some v := by
  have hj : j < xs.length := (List.getElem?_eq_some_iff.mp h).1
  have e : ixN xs.length (j : Int) = some j := by
    unfold ixN
    rw [if_pos (by omega), if_pos (by omega)]; simp
  unfold atI; rw [e]; exact h
noncomputable def PlainIx (b : Expr) : Prop := ∀ o i, subscripted b false o i = operate [o, i] (getItem o i)
noncomputable def IxR (X : Cx) (r : R2) : Prop :=
  ∀ (value slice : Expr) (pins : List (Addr × Obj)) (s : Shared) (σ : St) (H : Hp) (x y : V) (v u : Value) (Q : VK), Inv X pins σ H s → RelV x v → RelV y u → r x y H Q →
    subscripted slice false v u = operate [v, u] (getItem v u) → wpAny (model X.prog X.w) X.A (subscriptTail value slice v u) (EP X pins σ Q) X.xe s
noncomputable def MtR (X : Cx) (id : String) (r : V → List V → Hp → VK → Prop) : Prop :=
  ∀ (pins : List (Addr × Obj)) (s : Shared) (σ : St) (H : Hp) (x : V) (xs : List V) (v : Value) (us : List Value) (Q : VK), Inv X pins σ H s → RelV x v → Vals xs us → r x xs H Q →
    wpAny (model X.prog X.w) X.A (call (.builtin id) (v :: us)) (EP X pins σ Q) X.xe s
section
variable {X : Cx} {a b : Expr} {ta tb : TE} {pos : Pos}
theorem IxR.or {r r' : R2} (h : IxR X r) (h' : IxR X r') : IxR X (fun x y H Q => r x y H Q ∨ r' x y H Q) := by
  intro value slice pins s σ H x y v u Q I rx ry q hs
  rcases q with q | q
  · exact h value slice pins s σ H x y v u Q I rx ry q hs
  · exact h' value slice pins s σ H x y v u Q I rx ry q hs
theorem pe_ix {r : R2} (hr : IxR X r) (ha : PE X a ta) (hb : PE X b tb) (hs : PlainIx b) : PE X (.Subscript a b pos) (tOp r ta tb) := by
  intro pins s σ H Q I h
  exact Subscript_ (binT ha hb I h fun v u s2 x y H2 I2 rx ry q => hr a b pins s2 σ H2 x y v u Q I2 rx ry q (hs _ _))
noncomputable def rIxL (K : PySem.W.Frag) : R2 := fun x y H Q => ∃ p xs i v, x = .ref p ∧ y = .int i ∧ SqL K H p xs ∧ atI xs i = some v ∧ Q v H
noncomputable def rIxT (K : PySem.W.Frag) : R2 := fun x y H Q => ∃ p xs i v, x = .ref p ∧ y = .int i ∧ SqT K H p xs ∧ atI xs i = some v ∧ Q v H
noncomputable def rIxS : R2 := fun x y H Q => ∃ z i c, x = .str z ∧ y = .int i ∧ z.length ≤ sizeLine ∧ atI z.cps.toList i = some c ∧ Q (.str ⟨#[c]⟩) H
theorem ix_list : IxR X (rIxL X.K) := by
  intro value slice pins s σ H x y v u Q I rx ry h hs
  obtain ⟨p, xs, i, z, rfl, rfl, hq, he, q⟩ := h
  cases rx
  obtain ⟨t, rfl⟩ := ry
  obtain ⟨its, r, pl, hz⟩ := I.list hq
  obtain ⟨j, h1, h2, h3, h4, h5⟩ := atI_get he
  obtain ⟨w, ew, rw'⟩ := r.get h2
  have hl := r.length
  have hn := line63
  have fin : EP X pins σ Q w s := ⟨z, H, I, rw', q⟩
  by_cases h0 : 0 ≤ i
  · have hj : i.toNat = j := by
      rw [seqIndex_of h0 h5] at h1
      exact Option.some.inj h1
    exact item_listR pl.isList h0 (by omega) (by rw [hj]; simpa using ew) fin hs
  · have hj : (i + (its.toArray.size : Int)).toNat = j := by
      rw [seqIndex_neg (by omega) h4] at h1
      rw [List.size_toArray, ← hl]
      exact Option.some.inj h1
    exact subscriptTail_builtinR (x := w) pl.isList.typeIs slot_list_getitem.lookup
      (wpAny_getItem_list_neg (Q := fun r s' => r = w ∧ EP X pins σ Q r s') pl.isList (by omega) (by rw [List.size_toArray] <;> omega) (by omega) (by rw [hj]; simpa using ew) ⟨rfl, fin⟩) hs
theorem ix_tup : IxR X (rIxT X.K) := by
  intro value slice pins s σ H x y v u Q I rx ry h hs
  obtain ⟨p, xs, i, z, rfl, rfl, hq, he, q⟩ := h
  cases rx
  obtain ⟨t, rfl⟩ := ry
  obtain ⟨its, r, pl, hz⟩ := I.tuple hq
  obtain ⟨j, h1, h2, h3, h4, h5⟩ := atI_get he
  obtain ⟨w, ew, rw'⟩ := r.get h2
  have hl := r.length
  have hn := line63
  have fin : EP X pins σ Q w s := ⟨z, H, I, rw', q⟩
  exact subscriptTail_builtinR (x := w) pl.typeIs slot_tuple_getitem.lookup
    (getItem_tuple (j := j) (Q := fun r s' => r = w ∧ EP X pins σ Q r s') pl (by omega) (by omega) (by rw [List.size_toArray, ← hl]; exact h1) (by simpa using ew) ⟨rfl, fin⟩) hs
theorem ix_str : IxR X rIxS := by
  intro value slice pins s σ H x y v u Q I rx ry h hs
  obtain ⟨z, i, c, rfl, rfl, hz, he, q⟩ := h
  obtain ⟨t, rfl⟩ := rx
  obtain ⟨t', rfl⟩ := ry
  obtain ⟨j, h1, h2, h3, h4, h5⟩ := atI_get he
  have hl : z.cps.toList.length = z.length := by simp [Str.length]
  rw [hl] at h1 h4 h5
  have hn := line63
  exact tail_any (typeIs_str s z t) slot_str_getitem.lookup (getItem_str (c := c) (by
    have e1 : decide (i < -(2 ^ 63 : Int)) = false := decide_eq_false (by omega)
    have e2 : decide (i ≥ 2 ^ 63) = false := decide_eq_false (by omega)
    rw [e1, e2, Bool.or_false]) (by rw [h1]; simpa using h2) ⟨.str ⟨#[c]⟩, H, I.tok _, ⟨_, rfl⟩, q⟩) hs
noncomputable def rIx (K : PySem.W.Frag) : R2 := fun x y H Q => rIxL K x y H Q ∨ rIxT K x y H Q ∨ rIxS x y H Q
theorem ix_seq : IxR X (rIx X.K) := ix_list.or (ix_tup.or ix_str)
theorem slice_bounds (lo hi : Option Int) (n : Nat) : (sliceBounds lo hi none n).1 = ((HT.sIx n 0 lo : Nat) : Int) ∧ (sliceBounds lo hi none n).2.1 = ((HT.sIx n n hi : Nat) : Int) ∧ (sliceBounds lo hi none n).2.2 = 1 := by
  refine ⟨?_, ?_, rfl⟩
  · cases lo with
    | none => simp [sliceBounds, HT.sIx]
    | some i =>
      simp only [sliceBounds, HT.sIx, Option.getD_none, show (1 : Int) > 0 by decide, if_true]
      by_cases h : i < 0
      · simp only [h, if_true] <;> omega
      · simp only [h, if_false] <;> omega
  · cases hi with
    | none => simp [sliceBounds, HT.sIx]
    | some i =>
      simp only [sliceBounds, HT.sIx, Option.getD_none, show (1 : Int) > 0 by decide, if_true]
      by_cases h : i < 0
      · simp only [h, if_true] <;> omega
      · simp only [h, if_false] <;> omega
theorem slicePick_cut (its : List Value) (lo hi : Option Int) : slicePick its.toArray lo hi none = ((its.drop (HT.sIx its.length 0 lo)).take (HT.sIx its.length its.length hi - HT.sIx its.length 0 lo)).toArray := by
  obtain ⟨h1, h2, h3⟩ := slice_bounds lo hi its.toArray.size
  unfold slicePick
  rw [h1, h2, h3]
  simp only [sliceRange_one, pick_run, List.size_toArray] <;> rfl
noncomputable def rSlL (K : PySem.W.Frag) : V → Option Int → Option Int → Hp → VK → Prop := fun x lo hi H Q => ∃ a xs, x = .ref a ∧ SqL K H a xs ∧ ∀ p, H p = none → Q (.ref p) (upd H p (.lst (cutV xs lo hi)))
theorem sl_list : SlR X (rSlL X.K) := by
  intro pins s σ H x v vl vu lo hi sl Q I rx hs pl pu h
  obtain ⟨a, xs, rfl, hx, q⟩ := h
  cases rx
  obtain ⟨its, r, ht, hz⟩ := I.list hx
  have hlen := r.length
  refine ⟨"list", _, slot_list_getitem.lookup, ht.isList.typeIs, ?_⟩
  refine wpAny_getItem_list_slice ht.isList hs pl pu .none (by simp) ?_ (by rw [List.size_toArray] <;> omega)
  rw [slicePick_cut, ← hlen]
  refine ⟨.ref s.heap.objs.size, _, I.laid (t' := s.toks) (o := .lst (cutV xs lo hi)) (fun b ob q => Heap.get?_push_of_some _ q) (Nat.le_refl _) ?_, rfl, q _ (I.hok.fresh (Nat.le_refl _))⟩
  exact ⟨Nat.le_trans (cutV_length xs lo hi) hz, _, 0, (r.drop (HT.sIx xs.length 0 lo)).take (HT.sIx xs.length xs.length hi - HT.sIx xs.length 0 lo), Heap.get?_push_size _ rfl⟩
theorem op_notIn_str : OpR X (compareOp .NotIn) (fun x y H Q => ∃ i j, x = .str i ∧ y = .str j ∧ Q (.bl (!(!(Builtin.Str.occurrences j i 0 j.length 1).isEmpty))) H) := by
  intro pins s σ H x y v u Q I rx ry h
  obtain ⟨i, j, rfl, rfl, q⟩ := h
  obtain ⟨t, rfl⟩ := rx
  obtain ⟨t', rfl⟩ := ry
  exact notIn_str ⟨.bl _, H, I, rfl, q⟩
theorem call_len_seq : CallR X (.builtin "len") (fun xs H Q => ∃ p ys, xs = [.ref p] ∧ (SqL X.K H p ys ∨ SqT X.K H p ys) ∧ Q (.int ys.length) H) := by
  intro pins s σ H xs us Q I r h
  obtain ⟨p, ys, rfl, hq, q⟩ := h
  obtain ⟨u, rfl, rx⟩ := vals1 r
  cases rx
  have hn := line63
  rcases hq with hq | hq
  · obtain ⟨its, r', pl, hz⟩ := I.list hq
    have hlen := r'.length
    exact Calls.call_len_list pl.isList (by simp only [List.size_toArray] <;> omega) ⟨.int ys.length, H, I.tok _, ⟨s.toks + 1, by rw [List.size_toArray, hlen]⟩, q⟩
  · obtain ⟨its, r', pl, hz⟩ := I.tuple hq
    have hlen := r'.length
    exact len_tuple pl (by simp only [List.size_toArray] <;> omega) ⟨.int ys.length, H, I.tok _, ⟨s.toks + 1, by rw [List.size_toArray, hlen]⟩, q⟩
theorem call_len_str : CallR X (.builtin "len") (fun xs H Q => ∃ z, xs = [.str z] ∧ z.length ≤ sizeLine ∧ Q (.int z.length) H) := by
  intro pins s σ H xs us Q I r h
  obtain ⟨z, rfl, hz, q⟩ := h
  obtain ⟨u, rfl, t, rfl⟩ := vals1 r
  have hn := line63
  exact len_str (by omega) ⟨.int z.length, H, I.tok _, ⟨_, rfl⟩, q⟩
theorem call_tuple_of : CallR X (.type "tuple") (fun xs H Q => ∃ p ys, xs = [.ref p] ∧ ((SqL X.K H p ys ∧ ∀ l, H l = none → Q (.ref l) (upd H l (.tup ys))) ∨ (SqT X.K H p ys ∧ Q (.ref p) H))) := by
  intro pins s σ H xs us Q I r h
  obtain ⟨p, ys, rfl, h⟩ := h
  obtain ⟨u, rfl, rx⟩ := vals1 r
  cases rx
  rcases h with ⟨hq, q⟩ | ⟨hq, q⟩
  · obtain ⟨its, r', pl, hz⟩ := I.list hq
    have hlen := r'.length
    refine call_tuple_list pl.isList (fun h' kp => ?_) (by simp only [List.size_toArray] <;> omega)
    have I1 : Inv X pins σ H { s with heap := h' } := I.kept (t' := s.toks) kp
    have I2 : Inv X pins σ (upd H h'.objs.size (.tup ys)) { s with heap := h'.push { cls := .type "tuple", data := .seq its.toArray } } :=
      I1.laid (t' := s.toks) (fun b o e => Heap.get?_push_of_some _ e) (Nat.le_refl _) (show ObjOk X.prog X.w _ _ _ (.tup ys) from ⟨hz, its, r', IsTup.new _ _⟩)
    exact ⟨.ref h'.objs.size, _, I2, rfl, q _ (I1.hok.fresh (Nat.le_refl _))⟩
  · obtain ⟨its, r', pl, hz⟩ := I.tuple hq
    exact call_tuple_same pl ⟨.ref p, H, I, rfl, q⟩
noncomputable def tyV (K : PySem.W.Frag) (T : String) (x : V) (H : Hp) : Prop := match x with
  | .str _ => T = "str"
  | .int _ => T = "int"
  | .ref p => (T = "list" ∧ ∃ xs, SqL K H p xs) ∨ (T = "tuple" ∧ ∃ o, K.lookup p = some o ∧ o.cls = .type "tuple" ∧ o.dict = none) ∨
      (T = "dict" ∧ ((∃ kvs, H p = some (.dK kvs)) ∨ ∃ kvs, H p = some (.dT kvs))) ∨ (T = "set" ∧ ∃ S n, H p = some (.set S n))
  | _ => False
theorem tyV_is {pins : List (Addr × Obj)} {σ : St} {H : Hp} {s : Shared} {T : String} {x : V} {v : Value} (I : Inv X pins σ H s) (r : RelV x v) (ty : tyV X.K T x H) :
    s.TypeIs v T ∧ ∀ a, v = .ref a → ∃ ob, s.heap.get? a = some ob ∧ ob.dict = none := by
  cases x with
  | str z =>
    obtain ⟨t, rfl⟩ := r
    cases (show T = "str" from ty)
    exact ⟨typeIs_str s z t, fun _ e => nomatch e⟩
  | int i =>
    obtain ⟨t, rfl⟩ := r
    cases (show T = "int" from ty)
    exact ⟨typeIs_int s i t, fun _ e => nomatch e⟩
  | ref p =>
    cases r
    rcases ty with ⟨rfl, xs, hq⟩ | ⟨rfl, o, hk, hc, hd⟩ | ⟨rfl, hk⟩ | ⟨rfl, S, n, hk⟩
    · obtain ⟨its, _, pl, _⟩ := I.list hq
      refine ⟨pl.isList.typeIs, fun a e => ?_⟩
      cases e
      obtain ⟨o, n, e, c, hd, _⟩ := pl
      exact ⟨o, e, hd⟩
    · refine ⟨⟨o, I.kIn p o hk, hc⟩, fun a e => ?_⟩
      cases e
      exact ⟨o, I.kIn _ o hk, hd⟩
    · have z : ∃ o, s.heap.get? p = some o ∧ o.ExactDict := by
        rcases hk with ⟨kvs, hk⟩ | ⟨kvs, hk⟩
        · obtain ⟨_, _, _, _, o, _, _, e, ex, _⟩ := I.hok p _ hk
          exact ⟨o, e, ex⟩
        · obtain ⟨_, _, _, _, o, _, _, e, ex, _⟩ := I.hok p _ hk
          exact ⟨o, e, ex⟩
      obtain ⟨o, e, ex⟩ := z
      refine ⟨⟨o, e, ex.1⟩, fun a e2 => ?_⟩
      cases e2
      exact ⟨o, e, ex.2.1⟩
    · obtain ⟨o, _, _, _, e, ex, _⟩ := I.hok p _ hk
      refine ⟨⟨o, e, ex.1⟩, fun a e2 => ?_⟩
      cases e2
      exact ⟨o, e, ex.2.1⟩
  | _ => exact False.elim ty
noncomputable def tBM0 (K : PySem.W.Frag) (T : String) (r : V → List V → Hp → VK → Prop) (to : TE) : TE := fun σ H Q => to σ H fun x H1 => tyV K T x H1 ∧ r x [] H1 Q
noncomputable def tBM (K : PySem.W.Frag) (T : String) (r : V → List V → Hp → VK → Prop) (to : TE) (t : TA) : TE := fun σ H Q => to σ H fun x H1 => tyV K T x H1 ∧ t σ H1 fun xs H2 => r x xs H2 Q
variable {o e : Expr} {es : List Expr} {to : TE} {t : TA} {name : Str} {apos cpos : Pos} {T id : String} {r : V → List V → Hp → VK → Prop}
theorem pe_bm0 (pa : PlainAttrs T) (slot : Slot T name id) (hty : typeOf (.builtin id) = pure (.type "method_descriptor")) (hm : MtR X id r) (ho : PE X o to)
    (hbase : attributeBase o name X.env (eval o X.env) = eval o X.env := by rfl) (hline : (apos.endLine == cpos.line) = true := by rfl) : PE X (.Call (.Attribute o name apos) [] [] cpos) (tBM0 X.K T r to) := by
  intro pins s σ H Q I h
  refine wpAny_Call_method0_late hbase hline (thn (ho pins s σ H _ I h) fun v s1 ⟨x, H1, I1, r1, ty, q1⟩ => ?_)
  obtain ⟨h1, h2⟩ := tyV_is I1 r1 ty
  exact ⟨T, id, pa, slot, hty, h1, h2, Calls.callWith_builtin rfl (PySem.evalArgs_none (hm pins s1 σ H1 x [] v [] Q I1 r1 .nil q1))⟩
theorem pe_bm (pa : PlainAttrs T) (slot : Slot T name id) (hty : typeOf (.builtin id) = pure (.type "method_descriptor")) (hm : MtR X id r) (ho : PE X o to) (ha : PA X (e :: es) t)
    (hbase : attributeBase o name X.env (eval o X.env) = eval o X.env := by rfl)
    (hfew : ((backTo cpos (starEach (e :: es) X.env)).all (fun x => !x.1) && (backToKw cpos (keywordEach [] X.env)).all (fun x => x.1.isSome)
      && decide ((e :: es).length + ([] : List Keyword).length + (if ([] : List Keyword).isEmpty then 0 else 1) < 30)) = true := by rfl)
    (hline : (apos.endLine == cpos.line) = true := by rfl) (hs : starEach (e :: es) X.env = (false, eval e X.env) :: starEach es X.env := by rfl) (hplain : (backTo cpos (starEach es X.env)).any (·.1) = false := by rfl) :
    PE X (.Call (.Attribute o name apos) (e :: es) [] cpos) (tBM X.K T r to t) := by
  intro pins s σ H Q I h
  refine wpAny_Call_method_late hbase hfew hline rfl (thn (ho pins s σ H _ I h) fun v s1 ⟨x, H1, I1, r1, ty, q1⟩ => ?_)
  obtain ⟨h1, h2⟩ := tyV_is I1 r1 ty
  refine ⟨T, id, pa, slot, hty, h1, h2, ?_⟩
  have hA := ha cpos pins s1 σ H1 _ I1 q1
  rw [hs] at hA ⊢
  refine Calls.callWith_builtin (by show (false || (backTo cpos (starEach es X.env)).any (·.1)) = false; rw [hplain] <;> rfl) (Calls.evalArgs_plain ?_)
  exact thn hA fun us s2 ⟨vs, H2, I2, r2, q2⟩ => hm pins s2 σ H2 x vs v us Q I2 r1 r2 q2
end
end L2
namespace L2
open PySem PySem.Spec PyProof.Rows
noncomputable def MtM (X : Cx) (id : String) (r : V → List V → Hp → VK → Prop) : Prop :=
  ∀ (pins : List (Addr × Obj)) (s : Shared) (σ : St) (H : Hp) (x : V) (xs : List V) (v : Value) (us : List Value) (Q : VK), Inv X pins σ H s → RelV x v → Vals xs us → r x xs H Q →
    wpAny (model X.prog X.w) X.A (call (.builtin id) (v :: us)) (EP X pins σ Q) X.xe s
theorem Vals.one : ∀ {x : V} {us : List Value}, Vals [x] us → ∃ u, us = [u] ∧ RelV x u
  | _, _, .cons r .nil => ⟨_, rfl, r⟩
section
variable {X : Cx} {pins : List (Addr × Obj)} {σ : St} {H : Hp} {s : Shared} {l b : Addr} {xs ys zs : List V}
theorem Inv.lset {its its' : List Value} {n : Nat} {f : Array Value → Array Value} {t' : Nat} (I : Inv X pins σ H s) (hH : H l = some (.lst xs))
    (e : s.heap.get? l = some { cls := .type "list", data := .seq its.toArray n }) (hf : f its.toArray = its'.toArray) (hv : Vals ys its') (hz : ys.length ≤ sizeLine) :
    Inv X pins σ (upd H l (.lst ys)) { s with heap := s.heap.update l (Obj.mapSeq f), toks := t' } := by
  have q := PySem.IsL.update e f
  rw [hf] at q
  refine I.write (x := l) (e := l) (by rw [hH]; exact trivial) (.inl rfl) (fun b' u hb hu => (Heap.get?_update_other s.heap (Obj.mapSeq f) (Ne.symm hb)).trans hu) ⟨_, q⟩ ?_
  exact ⟨hz, its', _, hv, q⟩
theorem Inv.lnew {its : List Value} {t' : Nat} (I : Inv X pins σ H s) (hv : Vals ys its) (hz : ys.length ≤ sizeLine) :
    Inv X pins σ (upd H s.heap.objs.size (.lst ys)) { s with heap := s.heap.push { cls := .type "list", data := .seq its.toArray }, toks := t' } :=
  I.laid (fun _ _ q => Heap.get?_push_of_some _ q) (Nat.le_refl _) ⟨hz, its, 0, hv, Heap.get?_push_size _ rfl⟩
theorem Inv.fresh (I : Inv X pins σ H s) : H s.heap.objs.size = none := I.hok.fresh (Nat.le_refl _)
theorem Inv.lstM (I : Inv X pins σ H s) (hH : H l = some (.lst xs)) : xs.length ≤ sizeLine ∧ ∃ (its : List Value) (n : Nat), Vals xs its ∧ xs.length = its.length ∧ s.heap.get? l = some { cls := .type "list", data := .seq its.toArray n } := by
  obtain ⟨z, its, n, r, e⟩ := I.hok l _ hH
  exact ⟨z, its, n, r, r.length, e⟩
theorem notLongL {n : Nat} (h : n ≤ sizeLine) : Builtin.List.listTooLong n = false := by
  unfold Builtin.List.listTooLong
  exact decide_eq_false (by omega)
end
section
variable {X : Cx}
noncomputable def rAppend : V → List V → Hp → VK → Prop := fun x vs H Q => ∃ l xs y, x = .ref l ∧ vs = [y] ∧ H l = some (.lst xs) ∧ xs.length < sizeLine ∧ Q .non (upd H l (.lst (xs ++ [y])))
theorem mt_append : MtM X "list.append" rAppend := by
  intro pins s σ H x vs v us Q I rx rv h
  obtain ⟨l, xs, y, rfl, rfl, hH, hz, q⟩ := h
  cases rx
  obtain ⟨u, rfl, ru⟩ := rv.one
  obtain ⟨z, its, n, r, hl, e⟩ := I.lstM hH
  refine call_meets F.slot_list_append ⟨_, e, rfl⟩ F.entry_list_append (F.args_list_append_2 _ _) (PySem.list_append l its.toArray n u (by rw [List.size_toArray]; omega)) ⟨e, ?_⟩
  refine ⟨.non, _, I.lset (its' := its ++ [u]) hH e (by simp) (r.append (.cons ru .nil)) ?_, rfl, q⟩
  rw [List.length_append, List.length_singleton]
  omega
end
section
variable {prog : Program} {w : World} {A : Around} {E : Value → Shared → Prop} {s : Shared}
end
section
variable {X : Cx}
end
end L2
namespace Att
open PySem PySem.W PySem.Calls PyProof.Rows
theorem ints_of_wellAll {P : Params} {h : Heap} : ∀ (ns : List Int) (vs : List Value), WellAll P h vs (ns.map WData.int) → IntsAre vs ns := by
  intro ns
  induction ns with
  | nil =>
    intro vs w
    rw [List.map_nil] at w
    cases w
    exact .nil
  | cons n ns ih =>
    intro vs w
    rw [List.map_cons] at w
    cases w with
    | cons a b =>
      cases a
      exact .cons _ _ (ih _ b)
theorem script_of {l : OpenLaw} {n : Nat} (hn : l.most = some n) {P : Params} {h : Heap} {args : List WData} {vals : List Value}
    (hpre : l.row.toRowW.claim.pre args = true) (hwl : WellAll P h vals args) :
    ∃ a vs ns, vals = [Value.ref a] ∧ args = [WData.list (ns.map WData.int)] ∧ h.get? a = some { cls := .type "list", data := .seq vs.toArray } ∧ IntsAre vs ns ∧ ns.length ≤ n := by
  have hsh : WShape.hasAll [] args [.list .int] = true := (pre_splitW hpre).1
  have hc : l.pre.holds [] { args := args } = true := (pre_splitW hpre).2
  obtain ⟨d, r, rfl, h1, h2⟩ := hasAllW_cons hsh
  obtain rfl := hasAllW_nil h2
  obtain ⟨xs, rfl, h3⟩ := hasW_list h1
  obtain ⟨ns, rfl⟩ := items_int h3
  have hlen : ns.length ≤ n := by
    unfold OpenLaw.pre at hc
    have h4 : (WTm.not (.lt (.lit (.int (n : Int))) (.len (.arg 0)))).holds [] { args := [.list (ns.map .int)] } = true := by
      have h4 := (holds_andW hc).1
      rw [hn] at h4
      exact h4
    have h5 := condW_of h4 (w_not (w_lt w_lit (w_len_list (w_arg rfl))))
    rw [List.length_map] at h5
    refine Nat.le_of_not_lt fun q => ?_
    have q' : (n : Int) < ((ns.length : Nat) : Int) := by omega
    first
      | (rw [decide_eq_true q'] at h5; exact absurd h5 (by decide))
      | (simp at h5; omega)
  cases hwl with
  | cons w1 w2 =>
    cases w2
    cases w1 with
    | list ho hall => exact ⟨_, _, ns, rfl, rfl, ho, ints_of_wellAll ns _ hall, hlen⟩
theorem post_true (l : OpenLaw) (args : List WData) : l.row.toRowW.claim.post args (.bool true) args = true :=
  postW_of (r := l.row.toRowW) (X := (true == true))
    (show WShape.has [] (.bool true) .bool = true by first | rfl | decide | simp [WShape.has, WShape.arms, WShape.armsAll])
    (show (WTm.eq .res (.lit (.bool true))).value [] { args := args, res := some (.bool true), after := args } = some (.bool (true == true)) from w_eq_bool (w_res rfl) w_lit) rfl
theorem attach_call {l : OpenLaw} {n : Nat} {q : Program} {loose : List Str} {XP : (Str → Option Value) → Heap → Prop} {YP : World → Heap → Prop} {d : DefRec}
    (hn : l.most = some n) (hdf : d.params.defaults = [])
    (call : ∀ (w : World) (s₀ s₁ : Shared) (mg mb : Str → Option Value) (fa : Addr) (o : Obj) (pm cd doc : Value) (a : Addr) (vs : List Value) (ns : List Int),
      Ground q loose [] XP w s₀ mg mb s₁.heap → YP w s₁.heap →
      s₁.heap.get? fa = some o → o.data = .func (docDef d.name d.params d.body d.scope pm cd doc) → s₁.heap.CodeRec cd d.name → mg d.name = some (.ref fa) →
      s₁.heap.get? a = some { cls := .type "list", data := .seq vs.toArray } → IntsAre vs ns → ns.length ≤ n → s₁.gens = #[] →
      codeAny (model l.prog w) callerA (.call (.ref fa) ⟨[.ref a], []⟩) (fun r s' => r = .ok (.ret (.bool true)) ∧ OldK s₁.heap s'.heap ∧ s'.os = s₁.os ∧ AllBare s'.gens) s₁) :
    WalkO q loose XP YP l.row.toRowW d [] (fun f vs => PySem.call f vs) := by
  intro w s₀ s₁ mg mb G Y fa o pm cd doc dV kV ho hd hcd hD hmg hg args vals as hpre hlay hrd hwl hlo
  obtain rfl : dV = .none := Dflts.none hD hdf
  obtain rfl : kV = .none := Dflts.noKw hD
  obtain ⟨a, vs, ns, rfl, rfl, hobj, hints, hlen⟩ := script_of hn hpre hwl
  refine enter_call (codeAny_mono (call w s₀ s₁ mg mb fa o pm cd doc a vs ns G Y ho (fd_plain hd) hcd hmg hobj hints hlen hg) fun r s' hq => ?_)
  obtain ⟨rfl, h2, h3, h4⟩ := hq
  exact ⟨.inl ⟨.bool true, .bool true, [], rfl, fun _ => rfl, .bool true, post_true l _, fun _ => ⟨List.Pairwise.nil, fun _ hm => (nomatch hm)⟩⟩, h2, h3, h4⟩
section
variable {prog : Program} {w : World} {A : Around} {E : Value → Shared → Prop} {s : Shared} {K : Frag}
end
end Att
namespace L2
open PySem PySem.Spec PyProof.Rows
theorem vals_ints : ∀ {vs : List Value} {ns : List Int}, IntsAre vs ns → Vals (ns.map V.int) vs
  | _, _, .nil => .nil
  | _, _, .cons n t h => .cons ⟨t, rfl⟩ (vals_ints h)
noncomputable def SL (K : PySem.W.Frag) (H : Hp) (a : Addr) (xs : List V) : Prop :=
  Rd H a (.lst xs) ∨ ∃ (its : List Value) (n : Nat), K.lookup a = some { cls := .type "list", data := .seq its.toArray n } ∧ xs.length ≤ sizeLine ∧ Vals xs its
noncomputable def Only (H : Hp) : Prop := ∀ b, H b = none ∨ ∃ o xs, H b = some (.frz o (.lst xs))
theorem law_call {P : Program} {w : World} {K : PySem.W.Frag} {mg mb : Str → Option Value} {CX : CXT} {k : Nat} {fa a : Addr} {fd : FuncData} {x : Str} {sp : Sp} {s₁ : Shared} {vs : List Value} {ns : List Int}
    (KX : K.In s₁.heap) (hns : s₁.heap.Ns mainGlobals mg) (hb : s₁.heap.Ns builtinsNs mb) (hbb : ∀ x : Str, x ≠ "__name__" → mb x = bootBuiltins x) (hlim : s₁.heap.NoLimit) (hg : s₁.gens = #[])
    (ha : s₁.heap.get? a = some { cls := .type "list", data := .seq vs.toArray }) (hi : IntsAre vs ns) (hl : ns.length ≤ sizeLine) (hr : Room k callerA)
    (F : ∀ base : Heap, K.In base → base.Ns mainGlobals mg → FnOk P w K mg base CX k fa fd [x] sp) (hbind : ∀ (s : Shared) (u : Value), BindsTo s fd ⟨[u], []⟩ [(x, u)])
    (hsp : ∀ H : Hp, Only H → SL K H a (ns.map V.int) → sp [.ref a] H (fun v _ => v = .bl true) fun _ _ _ => False)
    (hCX : ∀ H e s', CX [] H s₁ (fun _ _ _ => False) e s' → False) :
    codeAny (model P w) callerA (.call (.ref fa) ⟨[.ref a], []⟩) (fun r s' => r = .ok (.ret (.bool true)) ∧ OldK s₁.heap s'.heap ∧ s'.os = s₁.os ∧ AllBare s'.gens) s₁ := by
  have rv := vals_ints hi
  have lenV := hi.length
  -- from an abstract heap in which nothing but the script may be tracked
  have core : ∀ H : Hp, Only H → SL K H a (ns.map V.int) → HOk P w H s₁.heap → (∀ b, H b ≠ none → b = a) → (H a ≠ none → K.lookup a = none) →
      codeAny (model P w) callerA (.call (.ref fa) ⟨[.ref a], []⟩) (fun r s' => r = .ok (.ret (.bool true)) ∧ OldK s₁.heap s'.heap ∧ s'.os = s₁.os ∧ AllBare s'.gens) s₁ := by
    intro H hO hS hok hA hK
    have base_of : ∀ {b : Addr} {o : Obj}, s₁.heap.get? b = some o → H b = none → (hidT s₁.heap H).get? b = some o := fun e n => hidT_get e n
    have noA : ∀ {b : Addr} {o : Obj} {es : Array DictEntry} {ep : Nat}, s₁.heap.get? b = some o → o.data = .dict es ep → H b = none := fun {b o es ep} e d => by
      cases q : H b with
      | none => rfl
      | some u =>
        have e' : b = a := hA b (by rw [q]; simp)
        subst e'
        rw [ha] at e; cases e
        have d' : Data.seq vs.toArray _ = Data.dict es ep := d
        cases d'
    have nsK : ∀ {b : Addr} {m : Str → Option Value}, s₁.heap.Ns b m → (hidT s₁.heap H).Ns b m := fun {b m} ⟨o, es, ep, e, d, r⟩ => ⟨o, es, ep, base_of e (noA e d), d, r⟩
    have hKb : K.In (hidT s₁.heap H) := fun b o e => base_of (KX b o e) (by
      cases q : H b with
      | none => rfl
      | some u =>
        have e' : b = a := hA b (by rw [q]; simp)
        subst e'
        rw [hK (by rw [q]; simp)] at e; cases e)
    have hM : Mod K mg (hidT s₁.heap H) := ⟨hKb, nsK hns, ⟨mb, nsK hb, hbb⟩, let ⟨mc, h1, h2⟩ := hlim; ⟨mc, nsK h1, h2⟩⟩
    have e0 : Env0 P w K mg (hidT s₁.heap H) callerA [] s₁ H := ⟨rfl, hM, fun b o e => of_hidT e, Nat.le_of_eq (hidT_size _ _), trivial, fun b hb => absurd (show b ∈ ([] : List Addr) from hb) (by simp), hok, .of_eq hg⟩
    refine codeAny_mono ((F _ hKb (nsK hns)).run callerA [] s₁ H ⟨[.ref a], []⟩ [.ref a] [.ref a] _ _ hr e0 (hbind s₁ (.ref a)) (.cons rfl .nil) (hsp H hO hS)) fun r s' h => ?_
    cases r with
    | error e => exact (hCX H e s' h).elim
    | ok fl =>
      cases fl with
      | next => exact False.elim h
      | brk => exact False.elim h
      | cont => exact False.elim h
      | ret u =>
        obtain ⟨v, H', os, bare, un, hok', r', q⟩ := h
        have q' : v = .bl true := q
        subst q'
        obtain rfl : u = Value.bool true := r'
        refine ⟨rfl, OldK.of_keep fun b o e => ?_, os, bare⟩
        cases q : H b with
        | none => exact un.keep b o e q (by intro z; exact absurd (show b ∈ ([] : List Addr) from z) (by simp)) (by simp)
        | some u =>
          rcases hO b with z | ⟨ob, xs, z⟩
          · rw [q] at z; cases z
          · have z2 := un.frzs b ob _ z
            obtain ⟨e1, _⟩ := hok b _ z
            obtain ⟨e2, _⟩ := hok' b _ z2
            rw [e] at e1; cases e1
            exact e2
  cases hk : K.lookup a with
  | some o =>
    -- the script is one of the module's own objects
    have e := KX a o hk
    rw [ha] at e
    cases e
    refine core (fun _ => none) (fun _ => .inl rfl) (.inr ⟨vs, _, hk, by rw [List.length_map]; exact hl, rv⟩) (fun b u z => by have z' : (none : Option HO) = some u := z; cases z') (fun b z => absurd rfl z) fun z => absurd rfl z
  | none =>
    refine core (fun b => if b = a then some (.frz { cls := .type "list", data := .seq vs.toArray } (.lst (ns.map V.int))) else none) (fun b => ?_) (.inl (.inr ⟨{ cls := .type "list", data := .seq vs.toArray }, if_pos rfl⟩)) (fun b u z => ?_) (fun b z => ?_) fun _ => hk
    · by_cases hb : b = a
      · exact .inr ⟨_, _, if_pos hb⟩
      · exact .inl (if_neg hb)
    · by_cases hb : b = a
      · have z' := (if_pos hb).symm.trans z
        cases z'
        subst hb
        exact ⟨ha, by rw [List.length_map]; exact hl, vs, _, rv, ha⟩
      · have z' := (if_neg hb).symm.trans z
        cases z'
    · by_cases hb : b = a
      · exact hb
      · exact absurd (if_neg hb) z
end L2
namespace L2
open PySem PySem.Spec PyProof.Rows
theorem walk_of {l : PySem.W.OpenLaw} {n k : Nat} {q : Program} {loose : List Str} {XP : (Str → Option Value) → Heap → Prop} {YP : World → Heap → Prop} {d : DefRec} {K : Params → PySem.W.Frag} {CX : World → CXT} {sp : World → Sp} {x : Str}
    (hn : l.most = some n) (hn2 : n ≤ sizeLine) (hdf : d.params.defaults = []) (hr : Room k callerA)
    (hY : ∀ (w : World) (h : Heap), YP w h → (K w.params).In h)
    (F : ∀ (w : World) (mg : Str → Option Value) (fa : Addr) (h : Heap), (K w.params).In h → h.Ns mainGlobals mg → mg d.name = some (.ref fa) →
      ∃ fd : FuncData, (∀ (s : Shared) (u : Value), BindsTo s fd ⟨[u], []⟩ [(x, u)]) ∧
        ∀ base : Heap, (K w.params).In base → base.Ns mainGlobals mg → FnOk l.prog w (K w.params) mg base (CX w) k fa fd [x] (sp w))
    (hsp : ∀ (w : World) (H : Hp) (a : Addr) (ns : List Int), ns.length ≤ n → Only H → SL (K w.params) H a (ns.map V.int) → sp w [.ref a] H (fun v _ => v = .bl true) fun _ _ _ => False)
    (hCX : ∀ (w : World) (H : Hp) (s : Shared) (e : Value) (s' : Shared), CX w [] H s (fun _ _ _ => False) e s' → False) :
    PySem.W.WalkO q loose XP YP l.row.toRowW d [] (fun f vs => PySem.call f vs) := by
  refine Att.attach_call hn hdf fun w s₀ s₁ mg mb fa o pm cd doc a vs ns G Y ho hd hcd hmg hobj hints hlen hg => ?_
  have KX := hY w _ Y
  obtain ⟨fd, hb, hF⟩ := F w mg fa _ KX G.T.g hmg
  exact law_call KX G.T.g G.T.b G.T.builtins G.T.nolimit hg hobj hints (Nat.le_trans hlen hn2) hr hF hb (fun H hO hS => hsp w H a ns hlen hO hS) fun H e s' => hCX w H s₁ e s'
end L2
namespace L2
open PySem PySem.Spec PyProof.Rows
noncomputable def defArgs (s : Stmt) : Arguments := match s with
  | .FunctionDef _ a _ _ _ _ _ _ _ _ => a
  | _ => { posonlyargs := [], args := [], vararg := none, kwonlyargs := [], kw_defaults := [], kwarg := none, defaults := [] }
noncomputable def defBody (s : Stmt) : List Stmt := match s with
  | .FunctionDef _ _ b _ _ _ _ _ _ _ => b
  | _ => []
noncomputable def defScope (s : Stmt) : Scope := match s with
  | .FunctionDef _ _ _ _ _ _ sc _ _ _ => sc
  | _ => { kind := .function, names := [], isGenerator := false, isCoroutine := false }
noncomputable abbrev CX0 : CXT := fun _ _ _ _ _ _ => False
noncomputable abbrev E0 : XK := fun _ _ _ => False
theorem pass0 {X : Cx} : Passes CX0 X E0 := fun _ _ _ _ _ _ _ h => h.elim
structure Fun (K : PySem.W.Frag) (x qual : Str) (st : Stmt) (f : Addr) (fd : FuncData) : Prop where
  ex : ∃ (oc : Value) (od : Option Addr) (kV doc pm : Value) (an : Option Addr) (cdv ct : Value) (osl : Array (Option Value)),
    fd = PySem.W.fnOf x qual (defArgs st) (defBody st) (defScope st) .none kV doc pm an cdv ct ∧ K.lookup f = some ⟨oc, od, .func fd, osl⟩ ∧ PySem.W.codeIn K cdv qual = true
  kp : PySem.W.keepIn K (.ref f) = true
section
variable {P : Program} {w : World} {K : PySem.W.Frag} {mg : Str → Option Value} {base : Heap}
theorem Fun.ok {x qual : Str} {st : Stmt} {f : Addr} {fd : FuncData} {N ps : List Str} {k : Nat} {sp : Sp} (F : Fun K x qual st f fd) (S : FnScope N ps (defScope st)) (len : ∀ vs H Q E, sp vs H Q E → vs.length = ps.length)
    (hbody : ∀ (cdv : Value) (A : Around) (outer : List Env) (s : Shared) (H : Hp) (vs : List V) (Q : VK) (E : XK), Room k (A.deeper (envOfC qual (defScope st) s.heap.objs.size f cdv)) → sp vs H Q E →
      ∃ t, PSs (cxOf CX0 P w K mg base N qual (defScope st) f cdv A outer s H E).nox (defBody st) t ∧ t { nx := fun _ H' => Q .non H', rt := Q } (start N vs) H) : FnOk P w K mg base CX0 (k + 1) f fd ps sp := by
  obtain ⟨oc, od, kV, doc, pm, an, cdv, ct, osl, rfl, lk, hcd⟩ := F.ex
  refine fn_of lk hcd S len fun A outer s H vs Q E hr hsp => ?_
  obtain ⟨t, h, q⟩ := hbody cdv A outer s H vs Q E hr hsp
  exact ⟨t, h.nox, q⟩
theorem Fun.binds {x qual : Str} {st : Stmt} {f : Addr} {fd : FuncData} {ps : List Str} (F : Fun K x qual st f fd)
    (h : ∀ (kV doc pm : Value) (an : Option Addr) (cdv ct : Value) (us : List Value), us.length = ps.length → bindArgs (PySem.W.fnOf x qual (defArgs st) (defBody st) (defScope st) .none kV doc pm an cdv ct) ⟨us, []⟩ = pure (ps.zip us)) : Binds K fd ps [] := by
  obtain ⟨oc, od, kV, doc, pm, an, cdv, ct, osl, rfl, lk, hcd⟩ := F.ex
  exact .all (h kV doc pm an cdv ct)
theorem fun_mk {x qual : Str} {st : Stmt} {f : Addr} {oc : Value} {od an : Option Addr} {osl : Array (Option Value)} {kV doc pm cdv ct : Value} (l : K.lookup f = some ⟨oc, od, .func (PySem.W.fnOf x qual (defArgs st) (defBody st) (defScope st) .none kV doc pm an cdv ct), osl⟩)
    (c : PySem.W.codeIn K cdv qual = true) (k : PySem.W.keepIn K (.ref f) = true) : Fun K x qual st f (PySem.W.fnOf x qual (defArgs st) (defBody st) (defScope st) .none kV doc pm an cdv ct) := ⟨⟨oc, od, kV, doc, pm, an, cdv, ct, osl, rfl, l, c⟩, k⟩
end
theorem small1000 {n : Nat} (h : n ≤ 1000) : n < sizeLine := Nat.lt_of_le_of_lt h (by decide)
section
variable {X : Cx}
end
theorem iteF {A B : Prop} (h : B) : if false = true then A else B := by
  rw [if_neg Bool.false_ne_true]
  exact h
theorem iteT {A B : Prop} (h : A) : if true = true then A else B := by
  rw [if_pos rfl]
  exact h
noncomputable def Same (H H' : Hp) : Prop := ∀ b o, H b = some o → H' b = some o
theorem Same.refl (H : Hp) : Same H H := fun _ _ h => h
theorem Same.trans {H H1 H2 : Hp} (a : Same H H1) (b : Same H1 H2) : Same H H2 := fun c o h => b c o (a c o h)
theorem Same.free {H H' : Hp} (e : Same H H') {l : Addr} (h : H' l = Option.none) : H l = Option.none := by
  cases q : H l with
  | none => rfl
  | some o =>
    rw [e l o q] at h
    cases h
end L2
namespace L2
open PySem PySem.Spec PyProof.Rows
theorem compLoop_go {prog : Program} {w : World} {A : Around} {R : Result → Shared → Prop} {s : Shared} {elt target iter : Expr} {ifs : List Expr} {scope : Scope} {pos : Pos} {it acc : Value} {env : Env} (I : Nat → Shared → Prop)
    (turn : ∀ n s, I n s → wpAny (model prog w) A (pyNext it) (fun r s₁ => match r with
      | none => R (.ok .next) s₁
      | some v => wpAny (model prog w) A (letOwnedTupleGo target it v) (fun _ s₁' => wpAny (model prog w) A (assign target env v) (fun _ s₂ =>
          wpAny (model prog w) A (forIn ifs true fun c r => if r = true then do let ok ← isTrue c env (eval c env); pure (ForInStep.yield ok) else pure (ForInStep.yield r)) (fun ok s₃ =>
            if ok = true then wpAny (model prog w) A (eval elt env) (fun x s₄ =>
              wpAny (model prog w) A (call (.builtin "list.append") [acc, x]) (fun _ s₅ => ∃ m, m < n ∧ I m s₅) (fun _ _ => False) s₄) (fun _ _ => False) s₃
            else ∃ m, m < n ∧ I m s₃) (fun _ _ => False) s₂) (fun _ _ => False) s₁') (fun _ _ => False) s₁) (fun _ _ => False) s)
    (n : Nat) (h : I n s) :
    codeAny (model prog w) A (.compLoop (.ListComp elt [⟨target, iter, ifs, 0⟩] scope pos) 0 it acc env) R s := by
  refine codeAny_loop rfl I (fun n s hI => ?_) n h
  show wpAny _ A ((compTurn (.ListComp elt [⟨target, iter, ifs, 0⟩] scope pos) 0 it acc env).onRaise (fun x => do noteFrame x env; theTreesLotGoes x)) _ _ s
  refine wpAny_noted ?_
  rw [compTurn_list]
  refine wpAny_bind (wpAny_standAt (wpAny_bind (wpAny_mono (turn n s hI) (fun r s₁ h₁ => ?_) fun _ _ h' => h'.elim)))
  cases r with
  | none => exact wpAny_pure h₁
  | some v =>
    refine wpAny_bind (wpAny_mono h₁ (fun _ s₁' h₁' => ?_) fun _ _ h' => h'.elim)
    refine wpAny_bind (wpAny_mono h₁' (fun _ s₂ h₂ => wpAny_bind (wpAny_mono h₂ (fun ok s₃ h₃ => ?_) fun _ _ h' => h'.elim)) fun _ _ h' => h'.elim)
    cases ok with
    | false => exact wpAny_pure ⟨rfl, h₃⟩
    | true =>
      exact wpAny_bind (wpAny_bind (wpAny_mono h₃ (fun x s₄ h₄ => wpAny_bind (wpAny_mono h₄ (fun _ s₅ h₅ => wpAny_pure (wpAny_pure ⟨rfl, h₅⟩)) fun _ _ h' => h'.elim)) fun _ _ h' => h'.elim))
noncomputable def clOf (cells : List (Str × Addr)) : List (Str × NameKind) → List (Str × Addr) → List (Str × Addr)
  | [], acc => acc
  | (n, k) :: r, acc => clOf cells r (if k == .free then (n, (cells.lookup n).getD 0) :: acc else acc)
theorem closure_ok {sc : Scope} {env : Env} (h : ∀ y ∈ sc.names, y.2 = .free → ∃ c, env.cells.lookup y.1 = some c) : closureFor sc env = pure (clOf env.cells sc.names []) := by
  unfold closureFor
  generalize ([] : List (Str × Addr)) = acc
  generalize hl : sc.names = names at h
  clear hl
  induction names generalizing acc with
  | nil => rfl
  | cons y r ih =>
    obtain ⟨n, k⟩ := y
    have ih' := fun acc => ih acc fun y hy => h y (List.mem_cons_of_mem _ hy)
    dsimp only at ih' ⊢
    rw [List.forIn_cons]
    by_cases hk : k = .free
    · subst hk
      obtain ⟨c, hc⟩ := h (n, .free) List.mem_cons_self rfl
      simp only [cellOf, hc, beq_self_eq_true, if_true, pure_bind, clOf, Option.getD_some]
      exact ih' _
    · have hb : (k == NameKind.free) = false := by simpa using hk
      simp only [hb, Bool.false_eq_true, if_false, pure_bind, clOf]
      exact ih' _
theorem lookup_clOf {cells : List (Str × Addr)} : ∀ (names : List (Str × NameKind)) (acc : List (Str × Addr)), (∀ y ∈ names, y.2 = .free → ∃ c, cells.lookup y.1 = some c) → (∀ x c, acc.lookup x = some c → cells.lookup x = some c) →
    ∀ x c, (clOf cells names acc).lookup x = some c → cells.lookup x = some c
  | [], _, _, ha, x, c, e => ha x c e
  | (n, k) :: r, acc, h, ha, x, c, e => by
    unfold clOf at e
    refine lookup_clOf r _ (fun y hy => h y (List.mem_cons_of_mem _ hy)) (fun x' c' e' => ?_) x c e
    split at e'
    · rename_i hk
      have hk' : k = .free := by simpa using hk
      obtain ⟨c0, hc0⟩ := h (n, k) List.mem_cons_self hk'
      simp only at hc0
      rw [List.lookup_cons] at e'
      split at e'
      · rename_i hx
        have hx' : x' = n := by simpa using hx
        subst hx'
        rw [hc0] at e'
        simp at e'
        rw [hc0, e']
      · exact ha x' c' e'
    · exact ha x' c' e'
theorem clOf_has {cells : List (Str × Addr)} : ∀ (names : List (Str × NameKind)) (acc : List (Str × Addr)) (x : Str), ((x, NameKind.free) ∈ names ∨ (acc.lookup x).isSome = true) → ((clOf cells names acc).lookup x).isSome = true
  | [], acc, x, h => by
    rcases h with h | h
    · simp at h
    · exact h
  | (n, k) :: r, acc, x, h => by
    unfold clOf
    refine clOf_has r _ x ?_
    rcases h with h | h
    · rcases List.mem_cons.mp h with e | h
      · cases e
        right
        simp
      · exact .inl h
    · right
      split
      · rw [List.lookup_cons]
        split
        · rfl
        · exact h
      · exact h
noncomputable def compCx (X : Cx) (sc : Scope) (N : List Str) (C : Addr) (s : Shared) (H : Hp) (fp : List Addr) : Cx :=
  { X with N := N, s₀ := s, H₀ := H, env := compEnvC sc (clOf X.env.cells sc.names []) C X.env, outer := X.stack, ex := fp, fn := fun _ => false, pn := [], xe := fun _ _ => False }
noncomputable def compB (psc sc : Scope) (NX N : List Str) (fs : List (Option Nat)) : Bool :=
  N.length == fs.length && (N.zip fs).all (fun p => match p.2 with | none => true | some j => NX[j]? == some p.1 && sc.names.lookup p.1 == some .free) &&
  sc.names.all (fun y => y.2 != .cell && (y.2 != .free || (psc.names.lookup y.1 == some .cell || psc.names.lookup y.1 == some .free)) && (y.2 != .local || sc.names.lookup y.1 == some .local)) && sc.kind == .function
structure CompOk (psc sc : Scope) (NX N : List Str) (fs : List (Option Nat)) : Prop where
  len : N.length = fs.length
  frees : ∀ (i j : Nat), fs[i]? = some (some j) → ∃ x, N[i]? = some x ∧ NX[j]? = some x ∧ sc.names.lookup x = some .free
  nocell : ∀ y ∈ sc.names, y.2 ≠ .cell
  par : ∀ y ∈ sc.names, y.2 = .free → psc.names.lookup y.1 = some .cell ∨ psc.names.lookup y.1 = some .free
  loc : ∀ y ∈ sc.names, y.2 = .local → sc.names.lookup y.1 = some .local
  kind : sc.kind = .function
theorem CompOk.of {psc sc : Scope} {NX N : List Str} {fs : List (Option Nat)} (h : compB psc sc NX N fs = true) : CompOk psc sc NX N fs := by
  unfold compB at h
  simp only [Bool.and_eq_true, beq_iff_eq, List.all_eq_true, bne_iff_ne, ne_eq, Bool.or_eq_true] at h
  obtain ⟨⟨⟨h1, h2⟩, h3⟩, h4⟩ := h
  refine ⟨h1, fun i j e => ?_, fun y hy => (h3 y hy).1.1, fun y hy e => ?_, fun y hy e => ?_, h4⟩
  · have hi : i < fs.length := (List.getElem?_eq_some_iff.mp e).1
    have hN : i < N.length := by omega
    have hz : (N.zip fs)[i]? = some (N[i], some j) := by
      rw [List.getElem?_zip_eq_some]
      exact ⟨by simp [hN], e⟩
    have := h2 _ (List.mem_of_getElem? hz)
    simp only [Bool.and_eq_true, beq_iff_eq] at this
    exact ⟨N[i], by simp [hN], this.1, this.2⟩
  · rcases (h3 y hy).1.2 with z | z
    · exact absurd e z
    · exact z
  · rcases (h3 y hy).2 with z | z
    · exact absurd e z
    · exact z
theorem relabel_kinds {sc : Scope} {env : Env} {x : Str} {k : NameKind} (nc : ∀ y ∈ sc.names, y.2 ≠ .cell) (h : (relabel sc env).names.lookup x = some k) (hk : k = .cell ∨ k = .free) : (x, NameKind.free) ∈ sc.names := by
  have hm := PySem.mem_of_lookup h
  unfold relabel at hm
  simp only [List.mem_map] at hm
  obtain ⟨⟨n, k'⟩, hy, e⟩ := hm
  dsimp only at e
  split at e
  · rename_i hc
    simp only [Bool.and_eq_true, beq_iff_eq] at hc
    cases e
    rw [hc.1.1] at hy
    exact hy
  · cases e
    rcases hk with z | z
    · exact absurd z (nc _ hy)
    · rw [z] at hy; exact hy
theorem relabel_free {sc : Scope} {env : Env} {x : Str} (h : sc.names.lookup x = some .free) : (relabel sc env).names.lookup x = some .cell ∨ (relabel sc env).names.lookup x = some .free := by
  unfold relabel
  dsimp only
  generalize sc.names = names at h
  induction names with
  | nil => simp at h
  | cons y r ih =>
    obtain ⟨n, k⟩ := y
    rw [List.lookup_cons] at h
    rw [List.map_cons]
    split at h
    · rename_i hx
      cases h
      have : x = n := by simpa using hx
      subst this
      dsimp only
      split
      · left; rw [List.lookup_cons]; simp
      · right; rw [List.lookup_cons]; simp
    · rename_i hx
      dsimp only
      split
      · rw [List.lookup_cons, hx]; exact ih h
      · rw [List.lookup_cons, hx]; exact ih h
end L2
namespace L2
open PySem PySem.Spec PyProof.Rows
section
variable {X : Cx} {pins : List (Addr × Obj)} {σ : St} {H : Hp} {s : Shared} {sc psc : Scope} {N : List Str} {fs : List (Option Nat)} {C : Addr} {fp : List Addr}
theorem comp_cells (I : Inv X pins σ H s) (hp : X.env.scope = psc) (S : CompOk psc sc X.N N fs) : ∀ y ∈ sc.names, y.2 = .free → ∃ c, X.env.cells.lookup y.1 = some c := fun y hy e => by
  refine I.ok.has y.1 ?_
  have := S.par y hy e
  rw [← hp] at this
  exact this
theorem comp_cl (I : Inv X pins σ H s) (hp : X.env.scope = psc) (S : CompOk psc sc X.N N fs) : ∀ x c, (clOf X.env.cells sc.names []).lookup x = some c → X.env.cells.lookup x = some c :=
  lookup_clOf sc.names [] (comp_cells I hp S) fun x c e => by simp at e
theorem compCx_ok (I : Inv X pins σ H s) (hp : X.env.scope = psc) (S : CompOk psc sc X.N N fs) (hf : ∀ b ∈ fp, FpOk X pins H b) (hfl : ∀ b ∈ fp, b < s.heap.objs.size) (hC : s.heap.objs.size ≤ C) : (compCx X sc N C s H fp).Ok where
  mod := I.ok.mod
  kind := S.kind
  glob := I.ok.glob
  blt := I.ok.blt
  above := hC
  inj := fun x y c h1 h2 => I.ok.inj x y c (comp_cl I hp S x c h1) (comp_cl I hp S y c h2)
  has := fun x hx => by
    have hm : (x, NameKind.free) ∈ sc.names := by
      rcases hx with hx | hx
      · exact relabel_kinds S.nocell hx (.inl rfl)
      · exact relabel_kinds S.nocell hx (.inr rfl)
    exact Option.isSome_iff_exists.mp (clOf_has sc.names [] x (.inl hm))
  cab := fun x c h _ => by cases h
  hd := I.ok.hd
  frames := I.ok.frames
  stk := .inl rfl
  exf := fun b hb => ⟨Nat.ne_of_lt (Nat.lt_of_lt_of_le (hfl b hb) hC), fun x c e => (hf b hb).2.2.2.2.1 x c (comp_cl I hp S x c e)⟩
  bs := I.bs
  bsz := Nat.le_trans I.ok.bsz I.sz
  noex := fun b o e hb => by
    rcases (hf b hb).2.2.2.1 with z | z
    · exact I.ok.noex b o e z
    · exact absurd (Nat.lt_of_lt_of_le (Heap.lt_size e) (Nat.le_trans I.ok.bsz z)) (Nat.lt_irrefl _)
  exfs := fun b hb hs => by
    rcases List.mem_cons.mp (I.stkSub b hs) with z | z
    · exact (hf b hb).2.1 z
    · exact (hf b hb).2.2.1 z
  funs := I.stack
  frf := I.stkFree
noncomputable def inner (fs : List (Option Nat)) (σ : St) : St := fs.map fun o => match o with | none => none | some j => (σ[j]?).getD none
theorem comp_start {h₁ : Heap} {tk : Nat} {D : Addr} {oD : Obj} {m₁ : Str → Option Value} (I : Inv X pins σ H s) (hp : X.env.scope = psc) (S : CompOk psc sc X.N N fs) (hf : ∀ b ∈ fp, FpOk X pins H b) (hfl : ∀ b ∈ fp, b < s.heap.objs.size) (hC : s.heap.objs.size ≤ C)
    (old : ∀ b o, s.heap.get? b = some o → h₁.get? b = some o) (hn : h₁.Ns C m₁) (hD : h₁.get? D = some oD) (hDs : s.heap.objs.size ≤ D) (hDC : D ≠ C) (hDd : ∀ v, oD.data ≠ .cell v) :
    Inv (compCx X sc N C s H fp) [(D, oD)] (inner fs σ) H { s with heap := h₁, toks := tk } := by
  refine ⟨compCx_ok I hp S hf hfl hC, rfl, I.bare, Un.kept old, ⟨m₁, hn, fun i x v e1 e2 e3 => ?_⟩, fun x c e => ?_, I.hok.fresh hC, fun x c e => I.freeC x c (comp_cl I hp S x c e), fun p hpn => ?_, I.hok.kept old, ?_⟩
  · unfold inner at e2
    rw [List.getElem?_map] at e2
    cases hfi : fs[i]? with
    | none => rw [hfi] at e2; cases e2
    | some o =>
      rw [hfi] at e2
      cases o with
      | none => simp at e2
      | some j =>
        simp only [Option.map_some, Option.some.injEq] at e2
        obtain ⟨x', ex, ej, el⟩ := S.frees i j hfi
        have : x' = x := by
          have q : N[i]? = some x := e1
          rw [ex] at q; exact Option.some.inj q
        subst this
        have ev : σ[j]? = some (some v) := by
          cases q : σ[j]? with
          | none => rw [q] at e2; simp at e2
          | some z => rw [q] at e2; simp at e2; rw [e2]
        have kk : X.env.scope.names.lookup x' = some .cell ∨ X.env.scope.names.lookup x' = some .free := by
          rw [hp]; exact S.par (x', .free) (PySem.mem_of_lookup el) rfl
        obtain ⟨m, hm, hl⟩ := I.loc
        obtain ⟨u, r, l⟩ := hl j x' v ej ev (by
          rcases kk with k | k
          · exact .inr (.inl k)
          · exact .inr (.inr k))
        refine ⟨u, r, .inr ⟨relabel_free el, ?_⟩⟩
        rcases l with ⟨k, _⟩ | ⟨_, c, hc, hcell⟩
        · have k' : X.env.scope.names.lookup x' = some .local := k
          rcases kk with z | z <;> rw [z] at k' <;> cases k'
        · obtain ⟨c', hc'⟩ := Option.isSome_iff_exists.mp (clOf_has (cells := X.env.cells) sc.names [] x' (.inl (PySem.mem_of_lookup el)))
          have := comp_cl I hp S x' c' hc'
          rw [hc] at this
          cases this
          obtain ⟨oc, ho, hd⟩ := hcell
          exact ⟨c, hc', oc, old _ _ ho, hd⟩
  · obtain ⟨v, oc, ho, hd⟩ := I.cell x c (comp_cl I hp S x c e)
    exact ⟨v, oc, old _ _ ho, hd⟩
  · have hpn' : p = (D, oD) := by
      rcases List.mem_append.mp hpn with z | z
      · exact absurd (show p ∈ ([] : List (Addr × Obj)) from z) (by simp)
      · simpa using z
    subst hpn'
    refine ⟨hD, I.hok.fresh hDs, hDC, fun hs => ?_, hDd⟩
    have hb : D ∈ X.env.locals :: X.fs := I.stkSub D hs
    rcases List.mem_cons.mp hb with z | z
    · exact absurd (Nat.lt_of_lt_of_le I.lt (by rw [← z]; exact hDs)) (Nat.lt_irrefl _)
    · exact I.nofs hDs z
  · show (inner fs σ).length = N.length
    unfold inner
    rw [List.length_map, S.len]
theorem HOk.adopt {P : Program} {w : World} {H : Hp} {h : Heap} {D : Addr} {ys : List V} {its : List Value} {n : Nat} (ok : HOk P w H h) (hD : H D = none) (ho : h.get? D = some { cls := .type "list", data := .seq its.toArray n }) (r : Vals ys its) (hz : ys.length ≤ sizeLine) :
    HOk P w (upd H D (.lst ys)) h := fun b u e => by
  by_cases hb : b = D
  · subst hb
    rw [upd_same] at e
    cases e
    exact ⟨hz, its, n, r, ho⟩
  · rw [upd_ne hb] at e
    refine (ok b u e).stay (fun c v _ q => q) (fun c q => ?_) fun c xs q => ?_
    · rw [upd_ne (ne_of_none q hD)]; exact q
    · rw [upd_ne (ne_of_none q hD)]; exact q
theorem Un.adopt {fs ex : List Addr} {H H' : Hp} {h h' : Heap} {D : Addr} {o : HO} (u : Un fs ex H H' h h') (hD : h.objs.size ≤ D) (hn : H' D = none) : Un fs ex H (upd H' D o) h h' where
  keep := u.keep
  slot := u.slot
  free := fun b ob q n hx => by rw [upd_ne (Nat.ne_of_lt (Nat.lt_of_lt_of_le (Heap.lt_size q) hD))]; exact u.free b ob q n hx
  there := u.there
  tups := fun b xs q => by rw [upd_ne (ne_of_none (u.tups b xs q) hn)]; exact u.tups b xs q
  frzs := fun b ob x q => by rw [upd_ne (ne_of_none (u.frzs b ob x q) hn)]; exact u.frzs b ob x q
  tbls := fun b ps q => by
    obtain ⟨more, e⟩ := u.tbls b ps q
    exact ⟨more, by rw [upd_ne (ne_of_none e hn)]; exact e⟩
noncomputable def PIf (Y : Cx) (ifs : List Expr) (tt : TT) : Prop :=
  ∀ (pins : List (Addr × Obj)) (s : Shared) (σ : St) (H : Hp) (Q : Bool → Hp → Prop), Inv Y pins σ H s → tt σ H Q →
    wpAny (model Y.prog Y.w) Y.A (forIn ifs true fun c r => if r = true then do let ok ← isTrue c Y.env (eval c Y.env); pure (ForInStep.yield ok) else pure (ForInStep.yield r)) (TP Y pins σ Q) Y.xe s
noncomputable def tYes : TT := fun _ H Q => Q true H
theorem pif_nil {Y : Cx} : PIf Y [] tYes := fun _ _ _ H _ I h => wpAny_tests_nil ⟨H, I, h⟩
theorem pif_one {Y : Cx} {c : Expr} {tc : TT} (h : PT Y c tc) : PIf Y [c] tc := fun pins s σ H Q I q => wpAny_tests_one (h pins s σ H Q I q)
noncomputable def Ext (σ σ2 : St) : Prop := σ.length = σ2.length ∧ ∀ (i : Nat) v, σ[i]? = some (some v) → σ2[i]? = some (some v)
noncomputable def tComp (wi : TI) (fs : List (Option Nat)) (g : TG) (tt : TT) (te : TE) : TE := fun σ H Q => wi σ H fun J H1 => ∃ W : Nat → Nat → List V → Hp → Prop, (∃ m, W 0 m [] H1) ∧ ∀ i m ys H, W i m ys H →
  (J.stop i H ∧ ys.length ≤ sizeLine ∧ ∀ p, H p = none → Q (.ref p) (upd H p (.lst ys))) ∨
  (J.go i H ∧ ys.length ≤ sizeLine ∧ ∃ N : List V → Hp → Prop, (∀ ys' H', N ys' H' → ∃ m', m' < m ∧ W (i + 1) m' ys' H') ∧ ∀ x H', J.yld i H x H' → g x (inner fs σ) H' fun σ2 H2 => Ext (inner fs σ) σ2 ∧
    tt σ2 H2 fun b H3 => if b = true then te σ2 H3 fun v H4 => N (ys ++ [v]) H4 else N ys H3)
theorem block_go {elt tg iter : Expr} {ifs : List Expr} {pos : Pos} {it : Addr} {tn : Nat → Heap → Prop} {J : It} {g : TG} {tt : TT} {te : TE} {E : Value → Shared → Prop} {RR : Value → Addr → Result → Shared → Prop}
    (hp : X.env.scope = psc) (S : CompOk psc sc X.N N fs) (hc : X.calm = true)
    (hb : ∀ (C : Addr) (s : Shared) (H : Hp) (fp : List Addr), PG (compCx X sc N C s H fp) tg g ∧ PIf (compCx X sc N C s H fp) ifs tt ∧ PE (compCx X sc N C s H fp) elt te)
    (I : Inv X pins σ H s) (T : Turn X.prog X.w X.K tg J fp it tn) (st : tn 0 s.heap) (hf : ∀ b ∈ fp, FpOk X pins H b) {Q : VK}
    (hW : ∃ W : Nat → Nat → List V → Hp → Prop, (∃ m, W 0 m [] H) ∧ ∀ i m ys H, W i m ys H →
      (J.stop i H ∧ ys.length ≤ sizeLine ∧ ∀ p, H p = none → Q (.ref p) (upd H p (.lst ys))) ∨
      (J.go i H ∧ ys.length ≤ sizeLine ∧ ∃ N : List V → Hp → Prop, (∀ ys' H', N ys' H' → ∃ m', m' < m ∧ W (i + 1) m' ys' H') ∧ ∀ x H', J.yld i H x H' → g x (inner fs σ) H' fun σ2 H2 => Ext (inner fs σ) σ2 ∧
        tt σ2 H2 fun b H3 => if b = true then te σ2 H3 fun v H4 => N (ys ++ [v]) H4 else N ys H3))
    (hRR : ∀ (D C : Addr) (s' : Shared) (H' : Hp), (∃ m, s'.heap.Ns C m) → Inv X pins σ H' s' → FpOk X pins H' C → Q (.ref D) H' → RR (.ref D) C (.ok .next) s') :
    wpAny (model X.prog X.w) X.A (newList []) (fun acc s₃ => wpAny (model X.prog X.w) X.A (newFunctionEnv sc X.env.globals (clOf X.env.cells sc.names []) [] X.env.qual none .none (some X.env)) (fun cenv s₄ =>
      codeAny (model X.prog X.w) X.A (.compStart (.ListComp elt [⟨tg, iter, ifs, 0⟩] sc pos) 0 (.ref it) acc { cenv with scope := relabel sc X.env }) (RR acc cenv.locals) s₄) E s₃) E s := by
  refine wpAny_newObj_type (wpAny_newFunctionEnv S.nocell (by intro y hy; simp at hy) (fun h₁ hns₁ hsb₁ => ?_) S.kind)
  dsimp only at hns₁ hsb₁ ⊢
  generalize hH2 : s.heap.push { cls := .type "list", dict := none, data := .seq ([] : List Value).toArray } = G2 at hns₁ hsb₁ ⊢
  have hC : G2.objs.size = s.heap.objs.size + 1 := by rw [← hH2, Heap.size_push]
  have hDC : s.heap.objs.size ≠ G2.objs.size := by rw [hC]; exact Nat.ne_of_lt (Nat.lt_succ_self _)
  have hCle : s.heap.objs.size ≤ G2.objs.size := by rw [hC]; exact Nat.le_succ _
  have below : ∀ b, b < s.heap.objs.size → b ≠ G2.objs.size ∧ b ≠ s.heap.objs.size := fun b hb => ⟨by rw [hC]; exact Nat.ne_of_lt (Nat.lt_succ_of_lt hb), Nat.ne_of_lt hb⟩
  have hfl : ∀ b ∈ fp, b < s.heap.objs.size := fun b hb => by
    obtain ⟨o, e, _⟩ := T.obj _ _ st b hb
    exact Heap.lt_size e
  have old : ∀ b o, s.heap.get? b = some o → h₁.get? b = some o := fun b o e => hsb₁.extBut b o (below b (Heap.lt_size e)).1 (Heap.get?_push_of_some _ (hH2 ▸ Heap.get?_push_of_some _ e))
  have hacc : h₁.get? s.heap.objs.size = some { cls := .type "list", data := .seq ([] : List Value).toArray 0 } := hsb₁.extBut _ _ hDC (Heap.get?_push_of_some _ (hH2 ▸ Heap.get?_push_size _ rfl))
  have st1 : tn 0 h₁ := T.keep _ _ _ st fun b _ o e => old b o e
  obtain ⟨W, ⟨m0, w0⟩, turn⟩ := hW
  obtain ⟨pg, pif, pe⟩ := hb G2.objs.size s H fp
  generalize hY : compCx X sc N G2.objs.size s H fp = Y at pg pif pe
  have Ye : Y.env = compEnvC sc (clOf X.env.cells sc.names []) G2.objs.size X.env := by rw [← hY]; rfl
  have YA : Y.A = X.A := by rw [← hY]; rfl
  have Yp : Y.prog = X.prog := by rw [← hY]; rfl
  have Yw : Y.w = X.w := by rw [← hY]; rfl
  have YK : Y.K = X.K := by rw [← hY]; rfl
  have Yx : Y.xe = fun _ _ => False := by rw [← hY]; rfl
  have Yc : Y.calm = true := by rw [← hY]; exact hc
  have cellN : ∀ x c, X.env.cells.lookup x = some c → c < s.heap.objs.size := fun x c e => by
    obtain ⟨v, q⟩ := I.cell x c e
    exact q.lt
  have loop : ∀ s₃ : Shared, s₃ = { s with heap := h₁, toks := s.toks + ([] : List (Str × Value)).length } →
      codeAny (model X.prog X.w) X.A (.compLoop (.ListComp elt [⟨tg, iter, ifs, 0⟩] sc pos) 0 (.ref it) (.ref s.heap.objs.size) (compEnvC sc (clOf X.env.cells sc.names []) G2.objs.size X.env)) (RR (.ref s.heap.objs.size) G2.objs.size) s₃ := by
    rintro s₃ rfl
    refine compLoop_go (fun n s' => ∃ (i : Nat) (H' : Hp) (ys : List V) (its : List Value) (k : Nat), Vals ys its ∧ Inv Y [(s.heap.objs.size, { cls := .type "list", data := .seq its.toArray k })] (inner fs σ) H' s' ∧ tn i s'.heap ∧ (∀ b ∈ fp, H' b = none) ∧ W i n ys H') ?_ m0
      ⟨0, H, [], [], 0, .nil, hY ▸ comp_start (D := s.heap.objs.size) I hp S hf hfl hCle old hns₁ hacc (Nat.le_refl _) hDC (fun v z => by cases z), st1, fun b hb => (hf b hb).1, w0⟩
    rintro n s1 ⟨i, H1, ys, its, k, rv, I1, st', fr1, w1⟩
    have stat : ∀ {H' : Hp} {pl : List (Addr × Obj)}, (∀ b ∈ fp, H' b = none) → (∀ p ∈ pl, p.1 = s.heap.objs.size) → ∀ b ∈ fp, FpOk Y pl H' b := fun {H' pl} hn hpl b hb => by
      rw [← hY]
      refine ⟨hn b hb, (below b (hfl b hb)).1, fun z => ?_, .inl hb, fun x c e => (hf b hb).2.2.2.2.1 x c (comp_cl I hp S x c e), fun p hpp => ?_⟩
      · rcases List.mem_cons.mp (I.stkSub b z) with z | z
        · exact (hf b hb).2.1 z
        · exact (hf b hb).2.2.1 z
      · have hpp' : p ∈ pl := by
          rcases List.mem_append.mp hpp with z | z
          · exact absurd (show p ∈ ([] : List (Addr × Obj)) from z) (by simp)
          · exact z
        rw [hpl p hpp']
        exact Ne.symm (below b (hfl b hb)).2
    have one : ∀ {o : Obj} (p : Addr × Obj), p ∈ ([(s.heap.objs.size, o)] : List (Addr × Obj)) → p.1 = s.heap.objs.size := fun {o} p hpp => by
      have : p = _ := List.mem_singleton.mp hpp
      rw [this]
    rcases turn i n ys H1 w1 with ⟨stop, hz, qn⟩ | ⟨go, hz, N', hN, step⟩
    · have := T.done Y Yp Yw YK Yc i _ s1 _ H1 (fun _ _ => False) I1 (stat fr1 one) st' stop
      rw [YA] at this
      refine thn this fun r s4 ⟨hr, I4⟩ => ?_
      subst hr
      have Ib := I4.base
      have pinD := I4.pin (s.heap.objs.size, _) (List.mem_append_right _ List.mem_cons_self)
      obtain ⟨mC, hmC, _⟩ := I4.loc
      have e1 : Y.fs = frs X.stack := by rw [← hY]; rfl
      have e2 : Y.ex = fp := by rw [← hY]; rfl
      have e3 : Y.H₀ = H := by rw [← hY]; rfl
      have e4 : Y.s₀ = s := by rw [← hY]; rfl
      have e5 : Y.env.locals = G2.objs.size := by rw [← hY]; rfl
      rw [e1, e2, e3, e4] at Ib
      rw [e5] at hmC
      have hok4 : HOk X.prog X.w H1 s4.heap := by
        have := I4.hok
        rw [Yp, Yw] at this
        exact this
      have freeC : H1 G2.objs.size = none := by have := I4.free; rw [e5] at this; exact this
      have freeC' : upd H1 s.heap.objs.size (.lst ys) G2.objs.size = none := by rw [upd_ne (Ne.symm hDC)]; exact freeC
      have os4 : s4.os = s.os := by have := I4.os; rw [e4] at this; exact this
      refine hRR _ _ s4 (upd H1 s.heap.objs.size (.lst ys)) ⟨mC, hmC⟩ ?_ (I.fpOk hCle freeC') (qn _ pinD.2.1)
      exact I.call' (s' := s4) (ch := fp) os4 (Ib.adopt (Nat.le_refl _) pinD.2.1) (hok4.adopt pinD.2.1 pinD.1 rv hz) I4.bare fun b hb => ⟨(hf b hb).2.2.2.1, (hf b hb).2.1, (hf b hb).2.2.2.2.1, (hf b hb).2.2.2.2.2⟩
    · have := T.item Y Yp Yw YK Yc i _ s1 _ H1 (fun _ _ => False) I1 (stat fr1 one) st' go
      rw [YA] at this
      refine thn this fun r s4 ⟨u, hr, h4⟩ => ?_
      subst hr
      refine thn h4 fun _ s5 ⟨x, H5, I5, r5, y5, st5, fr5⟩ => ?_
      have I5' := I5.pinned (stat fr5 one) (T.obj _ _ st5)
      have a1 := pg _ s5 _ H5 x u _ I5' r5 (step x H5 y5)
      rw [YA, Yp, Yw, Yx, Ye] at a1
      refine thn a1 fun _ s6 ⟨σ6, H6, I6, ext, q6⟩ => ?_
      have a2 := pif _ s6 σ6 H6 _ I6 q6
      rw [YA, Yp, Yw, Yx, Ye] at a2
      refine thn a2 fun b s7 ⟨H7, I7, q7⟩ => ?_
      have back : ∀ {H8 : Hp} {s8 : Shared}, Inv Y ([(s.heap.objs.size, ({ cls := .type "list", data := .seq its.toArray k } : Obj))] ++ pinsAt fp s5.heap) σ6 H8 s8 → Inv Y [(s.heap.objs.size, { cls := .type "list", data := .seq its.toArray k })] (inner fs σ) H8 s8 ∧ tn (i + 1) s8.heap ∧ ∀ b ∈ fp, H8 b = none := fun {H8 s8} I8 =>
        ⟨I8.unpinned.weak ext.1 ext.2, T.keep _ _ _ st5 fun b hb o e => (I8.pin (b, o) (List.mem_append_right _ (List.mem_append_right _ (mem_pinsAt hb e)))).1, fun b hb => by
          obtain ⟨o, e, d⟩ := T.obj _ _ st5 b hb
          exact (I8.pin (b, o) (List.mem_append_right _ (List.mem_append_right _ (mem_pinsAt hb e)))).2.1⟩
      cases b with
      | false =>
        rw [if_neg Bool.false_ne_true] at q7 ⊢
        obtain ⟨m', hm, w7⟩ := hN _ _ q7
        obtain ⟨I7', st7, fr7⟩ := back I7
        exact ⟨m', hm, i + 1, H7, ys, its, k, rv, I7', st7, fr7, w7⟩
      | true =>
        rw [if_pos rfl] at q7 ⊢
        have a3 := pe _ s7 σ6 H7 _ I7 q7
        rw [YA, Yp, Yw, Yx, Ye] at a3
        refine thn a3 fun y s8 ⟨v, H8, I8, r8, q8⟩ => ?_
        obtain ⟨m', hm, w8⟩ := hN _ _ q8
        obtain ⟨I8', st8, fr8⟩ := back I8
        have pinD := I8'.pin (s.heap.objs.size, _) (List.mem_append_right _ List.mem_cons_self)
        refine append_at (hsz := by show its.toArray.size ≤ sizeLine; rw [List.size_toArray, ← rv.length]; exact hz) pinD.1 fun h9 hs9 hD9 => ?_
        have e5 : Y.env.locals = G2.objs.size := by rw [← hY]; rfl
        have I9 : Inv Y [] (inner fs σ) H8 { s8 with heap := h9 } := by
          have J0 : Inv Y [] (inner fs σ) H8 s8 := I8'.pins_of fun p hp => absurd hp (by simp)
          refine J0.turned (t' := s8.toks) (it := s.heap.objs.size) (fun b o hb e => hs9.extBut b o hb e) pinD.2.1 (by rw [e5]; exact hDC) (.inr ?_) (fun x c e => ?_) fun p hp => ?_
          · rw [← hY]; exact Nat.le_refl _
          · rw [← hY] at e
            exact Nat.ne_of_lt (cellN x c (comp_cl I hp S x c e))
          · rw [← hY] at hp
            exact absurd (show p ∈ ([] : List (Addr × Obj)) from hp) (by simp)
        refine ⟨m', hm, i + 1, H8, ys ++ [v], its ++ [y], k + 1, rv.append (.cons r8 .nil), I9.pins_of fun p hp => ?_, T.keep _ _ _ st8 fun b hb o e => hs9.extBut b o (below b (hfl b hb)).2 e, fr8, w8⟩
        have : p = _ := List.mem_singleton.mp hp
        subst this
        refine ⟨?_, pinD.2.1, pinD.2.2.1, pinD.2.2.2.1, fun v z => by cases z⟩
        have e9 : its.toArray.push y = (its ++ [y]).toArray := by simp
        rw [← e9]
        exact hD9
  exact codeAny_compStart_list (loop _ rfl) (T.self _ 0 _ _ _ st1 (loop _ rfl))
theorem Inv.letGo {H' : Hp} {h' : Heap} (I : Inv X pins σ H s) (f : FpOk X pins H C) (hs : Heap.SameBut C s.heap h') : Inv X pins σ H { s with heap := h' } := by
  obtain ⟨f0, f1, f2, f3, f4, f5⟩ := f
  exact I.turned (t' := s.toks) (fun b o hb e => hs.extBut b o hb e) f0 f1 f3 f4 f5
theorem pe_comp {elt tg iter : Expr} {ifs : List Expr} {pos : Pos} {wi : TI} {g : TG} {tt : TT} {te : TE} (psc : Scope) (fs : List (Option Nat)) (N : List Str) (hp : X.env.scope = psc) (S : CompOk psc sc X.N N fs) (hc : X.calm = true) (hi : PI X tg iter wi)
    (hb : ∀ (C : Addr) (s : Shared) (H : Hp) (fp : List Addr), PG (compCx X sc N C s H fp) tg g ∧ PIf (compCx X sc N C s H fp) ifs tt ∧ PE (compCx X sc N C s H fp) elt te)
    (hs : ∀ x, foldedSetIterable iter X.env x = pure x := by intro _; rfl) : PE X (.ListComp elt [⟨tg, iter, ifs, 0⟩] sc pos) (tComp wi fs g tt te) := by
  intro pins s σ H Q I h
  rw [eval_ListComp]
  refine wpAny_comprehension_free (use := none) rfl hs (closure_ok (comp_cells I hp S)) S.kind S.loc (thn (hi pins s σ H _ I h) fun xv s₁ h₁ => thn h₁ fun itv s₂ h₂ => ?_)
  obtain ⟨it, fp, tn, J, H2, e, I2, T, st2, f2, hW⟩ := h₂
  subst e
  refine block_go (RR := fun acc C => compPost (model X.prog X.w) X.A X.xe none (EP X pins σ Q) acc C) hp S hc hb I2 T st2 f2 hW ?_
  intro D C s' H' ⟨m, hm⟩ I' f q
  exact ⟨m, hm, fun h' hs' => ⟨.ref D, H', I'.letGo (H' := H') f hs', rfl, q⟩⟩
theorem ps_setComp {i : Nat} {x : Str} {elt tg iter : Expr} {ifs : List Expr} {pos pos' spos : Pos} {wi : TI} {g : TG} {tt : TT} {te : TE} (hN : X.N.Nodup) (hi' : X.N[i]? = some x) (hx : Loc X.env.scope x) (psc : Scope) (fs : List (Option Nat)) (N : List Str) (hp : X.env.scope = psc) (S : CompOk psc sc X.N N fs) (hc : X.calm = true) (hi : PI X tg iter wi)
    (hb : ∀ (C : Addr) (s : Shared) (H : Hp) (fp : List Addr), PG (compCx X sc N C s H fp) tg g ∧ PIf (compCx X sc N C s H fp) ifs tt ∧ PE (compCx X sc N C s H fp) elt te)
    (hs : ∀ x, foldedSetIterable iter X.env x = pure x := by intro _; rfl) (hsw : swapsWith (.ListComp elt [⟨tg, iter, ifs, 0⟩] sc pos) (some (.Name x pos')) spos.line X.env = pure true := by rfl)
    (hf : X.fn x = true ∨ X.env.scope.names.lookup x = some .local := by first | exact .inl rfl | exact .inr rfl | assumption) :
    PS X (.Assign [.Name x pos'] (.ListComp elt [⟨tg, iter, ifs, 0⟩] sc pos) spos) (tAsg (tComp wi fs g tt te) (gName i)) := by
  intro pins s σ H D I h
  rw [exec_Assign_Name_used _ _ _ _ hsw]
  refine wpAny_bind (wpAny_standAt (wpAny_bind ?_))
  show wpAny _ X.A (do let _ ← comprehension (.ListComp elt [⟨tg, iter, ifs, 0⟩] sc pos) sc X.env _ (newList []) false (eval iter X.env) (some (assign (.Name x pos') X.env))) _ _ s
  refine wpAny_bind (wpAny_mono (wpAny_comprehension_free (use := some (assign (.Name x pos') X.env)) (Q := fun _ s' => SP X pins D .next s') rfl hs (closure_ok (comp_cells I hp S)) S.kind S.loc
    (thn (hi pins s σ H _ I h) fun xv s₁ h₁ => thn h₁ fun itv s₂ h₂ => ?_)) (fun _ s' hq => wpAny_pure (wpAny_pure hq)) fun _ _ e => e)
  obtain ⟨it, fp, tn, J, H2, e, I2, T, st2, f2, hW⟩ := h₂
  subst e
  refine block_go (Q := fun v H' => gName i v σ H' D.nx) (RR := fun acc C => compPost (model X.prog X.w) X.A X.xe (some (assign (.Name x pos') X.env)) (fun _ s' => SP X pins D .next s') acc C) hp S hc hb I2 T st2 f2 hW ?_
  intro L C s' H' ⟨m, hm⟩ I' f q
  refine wpAny_assign_Name (store_ok2 I' hN hi' hx (show RelV (V.ref L) (Value.ref L) from rfl) (fun s'' I'' ⟨a, hsb, ha⟩ => ?_) hf)
  have hCa : C ≠ a := by
    rintro rfl
    rcases ha with z | z
    · exact f.2.1 z
    · exact f.2.2.2.2.1 x _ z rfl
  refine ⟨m, hm.sameBut hsb hCa, fun h' hs' => ⟨_, H', I''.letGo (H' := H') f hs', q⟩⟩
end
end L2
namespace L2
open PySem PySem.Spec PyProof.Rows
section
variable {t u : TS} {a b c : St → Hp → Prop} {r : VK} {σ : St} {H : Hp} {te ta tb : TE} {tc td : TT} {Q : VK} {i : Nat}
end
section
variable {X : Cx}
noncomputable def rLenA (K : PySem.W.Frag) : List V → Hp → VK → Prop := fun xs H Q => (∃ p ys, xs = [.ref p] ∧ (SqL K H p ys ∨ SqT K H p ys) ∧ (ys.length ≤ sizeLine → Q (.int ys.length) H)) ∨ ∃ z, xs = [.str z] ∧ z.length ≤ sizeLine ∧ Q (.int z.length) H
theorem call_lenA : CallR X (.builtin "len") (rLenA X.K) := by
  intro pins s σ H xs us Q I r h
  rcases h with ⟨p, ys, e, hq, q⟩ | h
  · refine call_len_seq pins s σ H xs us Q I r ⟨p, ys, e, hq, q ?_⟩
    rcases hq with hq | hq
    · exact (I.list hq).choose_spec.2.2
    · exact (I.tuple hq).choose_spec.2.2
  · exact call_len_str pins s σ H xs us Q I r h
theorem PI.or {tg iter : Expr} {w1 w2 : TI} (h1 : PI X tg iter w1) (h2 : PI X tg iter w2) : PI X tg iter (fun σ H R => w1 σ H R ∨ w2 σ H R) := by
  intro pins s σ H R I h
  rcases h with h | h
  · exact h1 pins s σ H R I h
  · exact h2 pins s σ H R I h
noncomputable def iSeq (K : PySem.W.Frag) (tl : TE) : TI := fun σ H R => iList K tl σ H R ∨ iTup K tl σ H R
theorem pi_seq {tg l : Expr} {tl : TE} (hl : PE X l tl) : PI X tg l (iSeq X.K tl) := (pi_list hl).or (pi_tup hl)
end
section
variable {K : PySem.W.Frag} {tl : TE} {ta : TA} {g : TG} {tb : TS} {D : Ends} {σ : St} {H : Hp} {a b c : St → Hp → Prop} {r : VK}
variable {tt : TT} {te : TE} {fs : List (Option Nat)} {Q : VK}
end
structure Def (K : PySem.W.Frag) (mg : Str → Option Value) (x : Str) (st : Stmt) : Prop where
  ex : ∃ f fd, Fun K x x st f fd ∧ mg x = some (.ref f)
structure Cal (P : Program) (w : World) (K : PySem.W.Frag) (mg : Str → Option Value) (base : Heap) (k : Nat) (x : Str) (ps : List Str) (sp : Sp) : Prop where
  ex : ∃ f fd, FnOk P w K mg base CX0 k f fd ps sp ∧ mg x = some (.ref f) ∧ PySem.W.keepIn K (.ref f) = true ∧ Binds K fd ps []
noncomputable def tCal (sp : Sp) (t : TA) : TE := fun σ H Q => t σ H fun vs H1 => sp vs H1 Q E0
section
variable {P : Program} {w : World} {K : PySem.W.Frag} {mg : Str → Option Value} {base : Heap}
theorem Cal.mono {j k : Nat} {x : Str} {ps : List Str} {sp : Sp} (C : Cal P w K mg base j x ps sp) (h : j ≤ k) : Cal P w K mg base k x ps sp := by
  obtain ⟨f, fd, F, r⟩ := C.ex
  exact ⟨f, fd, F.mono h, r⟩
theorem Cal.imp {k : Nat} {x : Str} {ps : List Str} {sp sp' : Sp} (C : Cal P w K mg base k x ps sp) (h : ∀ vs H Q E, sp' vs H Q E → sp vs H Q E) : Cal P w K mg base k x ps sp' := by
  obtain ⟨f, fd, F, r⟩ := C.ex
  exact ⟨f, fd, F.imp h, r⟩
theorem pe_cal {X : Cx} {k : Nat} {x : Str} {ps : List Str} {sp : Sp} {p pos : Pos} {e : Expr} {es : List Expr} {t : TA} (C : Cal X.prog X.w X.K X.mg X.base k x ps sp) (hr : Room k X.A) (ha : PA X (e :: es) t) (hg : Gl X x := by rfl)
    (hdb : (x == ("__debug__" : Str)) = false := by decide) (he : starEach (e :: es) X.env = (false, eval e X.env) :: starEach es X.env := by rfl) (hpl : (backTo pos (starEach es X.env)).any (·.1) = false := by rfl) :
    PE X (.Call (.Name x p) (e :: es) [] pos) (tCal sp t) := by
  obtain ⟨f, fd, F, hm, hk, hb⟩ := C.ex
  have := pe_call (dvs := []) (ds := []) (E := E0) F hr hg hm hk hb .nil pass0 ha hdb he hpl (p := p)
  intro pins s σ H Q I h
  refine this pins s σ H Q I ?_
  unfold tCall
  simp only [List.append_nil]
  exact h
theorem cal_of {x : Str} {st : Stmt} {N ps : List Str} {k : Nat} {sp : Sp} (D : Def K mg x st) (S : FnScope N ps (defScope st))
    (hbi : ∀ (kV doc pm : Value) (an : Option Addr) (cdv ct : Value) (us : List Value), us.length = ps.length → bindArgs (PySem.W.fnOf x x (defArgs st) (defBody st) (defScope st) .none kV doc pm an cdv ct) ⟨us, []⟩ = pure (ps.zip us))
    (len : ∀ vs H Q E, sp vs H Q E → vs.length = ps.length)
    (hbody : ∀ (f : Addr) (cdv : Value) (A : Around) (outer : List Env) (s : Shared) (H : Hp) (vs : List V) (Q : VK) (E : XK), Room k (A.deeper (envOfC x (defScope st) s.heap.objs.size f cdv)) → sp vs H Q E →
      ∃ t, PSs (cxOf CX0 P w K mg base N x (defScope st) f cdv A outer s H E).nox (defBody st) t ∧ t (Ends.mk (fun _ H' => Q .non H') Q (fun _ _ => False) (fun _ _ => False)) (start N vs) H) : Cal P w K mg base (k + 1) x ps sp := by
  obtain ⟨f, fd, F, hm⟩ := D.ex
  exact ⟨f, fd, F.ok S len (fun cdv A outer s H vs Q E hr h => hbody f cdv A outer s H vs Q E hr h), hm, F.kp, F.binds hbi⟩
theorem fn_body {x : Str} {st : Stmt} {f : Addr} {fd : FuncData} {N ps : List Str} {k : Nat} {sp : Sp} (F : Fun K x x st f fd) (S : FnScope N ps (defScope st)) (len : ∀ vs H Q E, sp vs H Q E → vs.length = ps.length)
    (hbody : ∀ (cdv : Value) (A : Around) (outer : List Env) (s : Shared) (H : Hp) (vs : List V) (Q : VK) (E : XK), Room k (A.deeper (envOfC x (defScope st) s.heap.objs.size f cdv)) → sp vs H Q E →
      ∃ t, PSs (cxOf CX0 P w K mg base N x (defScope st) f cdv A outer s H E).nox (defBody st) t ∧ t (Ends.mk (fun _ H' => Q .non H') Q (fun _ _ => False) (fun _ _ => False)) (start N vs) H) : FnOk P w K mg base CX0 (k + 1) f fd ps sp :=
  F.ok S len hbody
theorem cal_none {x : Str} {st : Stmt} {ps : List Str} (D : Def K mg x st)
    (hbi : ∀ (kV doc pm : Value) (an : Option Addr) (cdv ct : Value) (us : List Value), us.length = ps.length → bindArgs (PySem.W.fnOf x x (defArgs st) (defBody st) (defScope st) .none kV doc pm an cdv ct) ⟨us, []⟩ = pure (ps.zip us)) :
    Cal P w K mg base 0 x ps (fun _ _ _ _ => False) := by
  obtain ⟨f, fd, F, hm⟩ := D.ex
  exact ⟨f, fd, ⟨fun _ _ _ _ h => h.elim, fun _ _ _ _ _ _ _ _ _ _ _ _ _ h => h.elim⟩, hm, F.kp, F.binds hbi⟩
end
theorem Same.new {H : Hp} {l : Addr} {o : HO} (h : H l = none) : Same H (upd H l o) := fun b u e => by rw [upd_ne (ne_of_none e h)]; exact e
theorem Same.seqT {K : PySem.W.Frag} {H H' : Hp} {a : Addr} {xs : List V} (e : Same H H') (h : SqT K H a xs) : SqT K H' a xs := by
  rcases h with (h | ⟨o, h⟩) | h
  · exact .inl (.inl (e _ _ h))
  · exact .inl (.inr ⟨o, e _ _ h⟩)
  · exact .inr h
section
variable {X : Cx}
theorem pe_bty {x : Str} {T : String} {pos : Pos} (hg : Gl X x) (hm : X.mg x = none) (hv : bootBuiltins x = some (.type T)) (hn : x ≠ "__name__" := by decide) (hd : (x == ("__debug__" : Str)) = false := by decide) : PE X (.Name x pos) (tC (.ty T)) :=
  pe_bltn (v := .ty T) hg hm hv rfl hn hd
noncomputable def kitB (T n : String) : Option Bool := if (Value.type T == Value.type n) = true then some true else if PySem.W.kitMeta n = true then (PySem.fastBuiltinMro T).map (·.contains (.type n)) else none
theorem kit_of {K : PySem.W.Frag} {T n : String} {b : Bool} (h : kitB T n = some b) : PySem.W.kitOne K (.type T) (.type n) = some b := h
end
end L2
namespace L2
open PySem PySem.Spec PyProof.Rows
section
variable {X : Cx}
noncomputable def rSlS : V → Option Int → Option Int → Hp → VK → Prop := fun x lo hi H Q => ∃ z, x = .str z ∧ z.length ≤ sizeLine ∧ Q (.str (Txt.slice z lo hi)) H
theorem sl_str : SlR X rSlS := by
  intro pins s σ H x v vl vu lo hi sl Q I rx hs pl pu h
  obtain ⟨z, rfl, hz, q⟩ := h
  obtain ⟨t, rfl⟩ := rx
  have fin : ∀ t' k, EP X pins σ Q (.str (Txt.slice z lo hi) t') { s with toks := k } := fun t' k => ⟨.str (Txt.slice z lo hi), H, I.tok _, ⟨_, rfl⟩, q⟩
  refine ⟨"str", _, F.slot_str_getitem.lookup, typeIs_str _ _ _, ?_⟩
  cases pl with
  | none =>
    cases pu with
    | none => exact wpAny_getItem_str_slice (l := none) (u := none) (st := none) hs rfl (post_val_or_str ⟨Nat.le_trans (Txt.slice_le z _ _) hz, fin⟩)
    | int j tj => exact wpAny_getItem_str_slice (l := none) (u := some (j, tj)) (st := none) hs rfl (post_val_or_str ⟨Nat.le_trans (Txt.slice_le z _ _) hz, fin⟩)
  | int i ti =>
    cases pu with
    | none => exact wpAny_getItem_str_slice (l := some (i, ti)) (u := none) (st := none) hs rfl (post_val_or_str ⟨Nat.le_trans (Txt.slice_le z _ _) hz, fin⟩)
    | int j tj => exact wpAny_getItem_str_slice (l := some (i, ti)) (u := some (j, tj)) (st := none) hs rfl (post_val_or_str ⟨Nat.le_trans (Txt.slice_le z _ _) hz, fin⟩)
noncomputable def rSlA (K : PySem.W.Frag) : V → Option Int → Option Int → Hp → VK → Prop := fun x lo hi H Q => rSlL K x lo hi H Q ∨ rSlT K x lo hi H Q ∨ rSlS x lo hi H Q
theorem sl_A : SlR X (rSlA X.K) := sl_list.or (sl_tup.or sl_str)
noncomputable def rSIndex : V → List V → Hp → VK → Prop := fun x xs H Q => ∃ z y, x = .str z ∧ xs = [.str y] ∧ Txt.find z y ≠ -1 ∧ Q (.int (Txt.find z y)) H
theorem mt_sindex (hc : X.calm = true) : MtR X "str.index" rSIndex := by
  intro pins s σ H x xs v us Q I rx rs h
  obtain ⟨z, y, rfl, rfl, hn, q⟩ := h
  obtain ⟨t, rfl⟩ := rx
  obtain ⟨u, rfl, ru⟩ := vals1 rs
  obtain ⟨t', rfl⟩ := ru
  exact index_or (I.ok.hd hc) (fun e => absurd e hn) fun _ _ => ⟨.int _, H, I.tok _, ⟨_, rfl⟩, q⟩
theorem strsAre_of {ns : List Str} : ∀ {us : List Value}, Vals (ns.map V.str) us → StrsAre us ns := by
  induction ns with
  | nil => intro us r; rw [List.map_nil] at r; cases r; exact .nil
  | cons n ns ih =>
    intro us r
    rw [List.map_cons] at r
    cases r with
    | cons r1 r2 =>
      obtain ⟨t, e⟩ := r1
      subst e
      exact .cons n t (ih r2)
noncomputable def rJoin (K : PySem.W.Frag) : V → List V → Hp → VK → Prop := fun x xs H Q => ∃ z p ys, x = .str z ∧ xs = [.ref p] ∧ SqL K H p (ys.map V.str) ∧ (ys.map (·.length)).sum + ys.length * z.length ≤ 16777216 ∧ Q (.str (Txt.join z ys)) H
theorem mt_join : MtR X "str.join" (rJoin X.K) := by
  intro pins s σ H x xs v us Q I rx rs h
  obtain ⟨z, p, ys, rfl, rfl, hq, hz, q⟩ := h
  obtain ⟨t, rfl⟩ := rx
  obtain ⟨u, rfl, ru⟩ := vals1 rs
  cases ru
  obtain ⟨its, r', pl, _⟩ := I.list hq
  exact join_list pl.isList (by simpa using strsAre_of r') hz fun t' k => ⟨.str _, H, I.tok _, ⟨_, rfl⟩, q⟩
theorem vals_strs : ∀ (l : List (Str × Tok)), Vals ((l.map (·.1)).map V.str) (strValues l)
  | [] => .nil
  | p :: l => .cons ⟨p.2, rfl⟩ (vals_strs l)
noncomputable def rBitLen : V → List V → Hp → VK → Prop := fun x xs H Q => ∃ i, x = .int i ∧ xs = [] ∧ Q (.int (Builtin.Int.intBits i)) H
theorem mt_bitlen : MtR X "int.bit_length" rBitLen := by
  intro pins s σ H x xs v us Q I rx rs h
  obtain ⟨i, rfl, rfl, q⟩ := h
  obtain ⟨t, rfl⟩ := rx
  cases rs
  exact call_int_bit_length ⟨.int _, H, I.tok _, ⟨_, rfl⟩, q⟩
theorem vals_of_ints {ns : List Int} : ∀ {us : List Value}, IntsAre us ns → Vals (ns.map V.int) us := by
  intro us h
  induction h with
  | nil => exact .nil
  | cons n t h ih => exact .cons ⟨t, rfl⟩ ih
noncomputable def rSorted (K : PySem.W.Frag) : List V → Hp → VK → Prop := fun xs H Q => ∃ p ns, xs = [.ref p] ∧ SqL K H p (ns.map V.int) ∧ ns.length < 64 ∧
  ∀ (ms : List Int) (l : Addr), ms.Perm ns → ms.Pairwise (· ≤ ·) → H l = none → Q (.ref l) (upd H l (.lst (ms.map V.int)))
theorem call_sortedL : CallR X (.builtin "sorted") (rSorted X.K) := by
  intro pins s σ H xs us Q I r h
  obtain ⟨p, ns, rfl, hq, h64, q⟩ := h
  obtain ⟨u, rfl, rx⟩ := vals1 r
  cases rx
  obtain ⟨its, r', pl, hz⟩ := I.list hq
  have hlen := r'.length
  rw [List.length_map] at hlen
  refine sorted_ints pl.isList (intsAre_of r') (by omega) fun out ms h1 h2 h3 => ?_
  obtain ⟨e, he⟩ := sortedAll_at s.heap its out
  have hl : ms.length = ns.length := h2.length_eq
  refine ⟨.ref (s.heap.objs.size + 1), upd H (s.heap.objs.size + 1) (.lst (ms.map V.int)), I.laid (t' := s.toks) (fun b o q => sortedAll_old q) (Nat.le_succ _) ?_, rfl, q ms _ h2 h3 (I.hok.fresh (Nat.le_succ _))⟩
  refine ⟨by rw [List.length_map] at hz ⊢; omega, out.toList, e, vals_of_ints h1, ?_⟩
  rw [he]
theorem truth_bools {A : Around} {its : List Value} {bs : List Bool} (r : Vals (bs.map V.bl) its) : TruthOf X.prog X.w A (fun i v => its.toArray[i]? = some v) (fun i => bs.getD i false) := by
  intro i v s Q E hv h
  have hv' : its[i]? = some v := by simpa using hv
  have hi : i < its.length := (List.getElem?_eq_some_iff.mp hv').1
  have hl := r.length
  rw [List.length_map] at hl
  have hb : (bs.map V.bl)[i]? = some (V.bl (bs[i]'(by omega))) := by simp [show i < bs.length by omega]
  obtain ⟨u, hu, ru⟩ := r.get hb
  rw [hv'] at hu
  cases hu
  cases ru
  have : bs.getD i false = bs[i]'(by omega) := by simp [List.getD, show i < bs.length by omega]
  have h' : Q (bs.getD i false) s := h
  rw [this] at h'
  exact wpAny_truthy_bool h'
theorem all_range (bs : List Bool) : (List.range bs.length).all (fun i => bs.getD i false) = bs.all id := by
  induction bs with
  | nil => rfl
  | cons b bs ih =>
    rw [List.length_cons, List.range_succ_eq_map, List.all_cons, List.all_map, List.all_cons]
    have : (fun i => (b :: bs).getD i false) ∘ Nat.succ = fun i => bs.getD i false := by funext i; rfl
    rw [this, ih]
    rfl
noncomputable def rAll (K : PySem.W.Frag) : List V → Hp → VK → Prop := fun xs H Q => ∃ (p : Addr) (bs : List Bool), xs = [.ref p] ∧ SqL K H p (bs.map V.bl) ∧ Q (.bl (bs.all id)) H
theorem call_allA (hc : X.calm = true) : CallR X (.builtin "all") (rAll X.K) := by
  intro pins s σ H xs us Q I r h
  obtain ⟨p, bs, rfl, hq, q⟩ := h
  obtain ⟨u, rfl, rx⟩ := vals1 r
  cases rx
  obtain ⟨its, r', pl, hz⟩ := I.list hq
  have hl := pl.isList
  have hlt : p < s.heap.objs.size := by obtain ⟨o, e, _⟩ := hl; exact Heap.lt_size e
  have hlen := r'.length
  rw [List.length_map] at hlen
  refine call_all_walk (wpAny_pyIter_list hl ⟨s.heap.objs.size, _, _, _, _, _, fun i => bs.getD i false, rfl, Walks.list (A := X.A.in1) (I.ok.hd hc) s.heap.objs.size p (Nat.ne_of_lt hlt) its.toArray, ⟨⟨_, Heap.get?_push_size _ rfl, rfl, rfl⟩, hl.push _⟩, truth_bools r', fun h' tk hk => ?_⟩)
  have e : (List.range its.toArray.size).all (fun i => bs.getD i false) = bs.all id := by rw [List.size_toArray, ← hlen]; exact all_range bs
  rw [e]
  exact ⟨.bl _, H, I.kept (h' := h') (t' := tk) (fun b o e => hk b o (by simpa using Nat.ne_of_lt (Heap.lt_size e)) (Heap.get?_push_of_some _ e)), rfl, q⟩
noncomputable def Its (z : Str) : It := ⟨fun i _ => i < z.length, fun i H x H' => H' = H ∧ ∃ c, z.cps[i]? = some c ∧ x = .str ⟨#[c]⟩, fun i _ => i = z.length⟩
theorem turn_str {P : Program} {w : World} {K : PySem.W.Frag} {tg : Expr} (it : Addr) (z : Str) (t : Tok) (ty : String) (hty : ["enumerate", "zip", "dict_itemiterator", "dict_reverseitemiterator", "odict_iterator", "itertools.zip_longest", "itertools.pairwise"].contains ty = false)
    (W : ∀ A' : Around, A'.handled = none → Walks P w A' it [it] [it] z.cps.size (SignAt z) (fun i h => h.IsStrIter it ty z t i))
    (S : ∀ (A : Around) (i : Nat) (s : Shared) (Q : Value → Shared → Prop) (E : Value → Shared → Prop), s.heap.IsStrIter it ty z t i → Q (.ref it) s → wpAny (model P w) A (pyIter (.ref it)) Q E s) : Turn P w K tg (Its z) [it] it (fun i h => h.IsStrIter it ty z t i) where
  mem := by simp
  obj := fun i h st b hb => by
    have e : b = it := by simpa using hb
    subst e
    obtain ⟨o, e, c, d⟩ := st
    exact ⟨o, e, fun v z => by rw [d] at z; cases z⟩
  keep := fun i h h' st k => by
    obtain ⟨o, e, r⟩ := st
    exact ⟨o, k it (by simp) o e, r⟩
  item := by
    intro X hP hw hK hc i pins s σ H E I hf st hg
    subst hP hw hK
    obtain ⟨f0, f1, f2, f3, f4, f5⟩ := hf it (by simp)
    refine (W X.A (I.ok.hd hc)).item i s _ _ (show i < z.cps.size from hg) st fun v h' tk hv st' kk => ?_
    obtain ⟨c, u, hcu, rfl⟩ := hv
    have I1 : Inv X pins σ H { s with heap := h', toks := tk } := I.turned (fun b o hb e => kk b o (by simpa using hb) e) f0 f1 f3 f4 f5
    obtain ⟨o, e, cc, d⟩ := id st'
    exact ⟨_, rfl, go_of (s := { s with heap := h', toks := tk }) e cc d hty ⟨.str ⟨#[c]⟩, H, I1, ⟨u, rfl⟩, ⟨rfl, c, hcu, rfl⟩, st', fun b hb => (hf b hb).1⟩⟩
  done := by
    intro X hP hw hK hc i pins s σ H E I hf st hg
    subst hP hw hK
    obtain ⟨f0, f1, f2, f3, f4, f5⟩ := hf it (by simp)
    have e : i = z.cps.size := hg
    subst e
    exact (W X.A (I.ok.hd hc)).done s _ _ st fun h' tk kk => ⟨rfl, I.turned (fun b o hb e => kk b o (by simpa using hb) e) f0 f1 f3 f4 f5⟩
  self := fun A i s Q E st h => S A i s Q E st h
noncomputable def iStr (tl : TE) : TI := fun σ H R => tl σ H fun x H1 => ∃ z, x = .str z ∧ R (Its z) H1
theorem pi_str {tg l : Expr} {tl : TE} (hl : PE X l tl) : PI X tg l (iStr tl) := by
  intro pins s σ H R I h
  refine thn (hl pins s σ H _ I h) fun v s1 ⟨x, H1, I1, r1, z, e, q⟩ => ?_
  subst e
  obtain ⟨t, rfl⟩ := r1
  have I2 : ∀ o : Obj, Inv X pins σ H1 { s1 with heap := s1.heap.push o } := fun o => I1.kept (t' := s1.toks) fun b ob e => Heap.get?_push_of_some _ e
  have fr : ∀ b ∈ [s1.heap.objs.size], FpOk X pins H1 b := fun b hb => by
    have e : b = s1.heap.objs.size := by simpa using hb
    subst e
    exact I1.fpOk (Nat.le_refl _) (I1.hok.fresh (Nat.le_refl _))
  cases ha : z.cps.all (· < 128)
  · exact wpAny_pyIter_wide ha ⟨_, _, _, Its z, H1, rfl, I2 _, turn_str _ z t "str_iterator" (by decide) (fun A' hA => Walks.strWide hA _ z t) (fun A i s Q E st h => wpAny_pyIter_striter_wide st h), ⟨_, Heap.get?_push_size _ rfl, rfl, rfl⟩, fr, q⟩
  · exact wpAny_pyIter_ascii ha ⟨_, _, _, Its z, H1, rfl, I2 _, turn_str _ z t "str_ascii_iterator" (by decide) (fun A' hA => Walks.strAscii hA _ z t) (fun A i s Q E st h => wpAny_pyIter_striter_ascii st h), ⟨_, Heap.get?_push_size _ rfl, rfl, rfl⟩, fr, q⟩
noncomputable abbrev TJ := St → Hp → Str → VK → Prop
noncomputable def PJ (X : Cx) (vs : List Expr) (t : TJ) : Prop :=
  ∀ (pins : List (Addr × Obj)) (s : Shared) (σ : St) (H : Hp) (acc : Str) (Q : VK), Inv X pins σ H s → acc.length ≤ sizeLine → t σ H acc Q → wpAny (model X.prog X.w) X.A (joinParts acc (evalEach vs X.env)) (EP X pins σ Q) X.xe s
noncomputable def jNil : TJ := fun _ H acc Q => Q (.str acc) H
noncomputable def jLit (c : Str) (r : TJ) : TJ := fun σ H acc Q => (acc ++ c).length ≤ sizeLine ∧ r σ H (acc ++ c) Q
noncomputable def jFmt (te : TE) (r : TJ) : TJ := fun σ H acc Q => te σ H fun x H1 => ∃ y, ((x = .str y ∧ y.length ≤ sizeLine) ∨ ∃ i : Int, x = .int i ∧ i.natAbs.log2 < 1920 ∧ y = toString i) ∧ (acc ++ y).length ≤ sizeLine ∧ r σ H1 (acc ++ y) Q
theorem pj_nil : PJ X [] jNil := fun pins s σ H acc Q I hz h => joinParts_nil ⟨.str acc, H, I.tok _, ⟨_, rfl⟩, h⟩ hz
theorem pj_lit {c : Str} {j : Nat} {pos : Pos} {vs : List Expr} {r : TJ} (hr : PJ X vs r) : PJ X (.Constant (.str c) j pos :: vs) (jLit c r) := by
  intro pins s σ H acc Q I hz h
  refine joinParts_cons (Calls.Constant_str ?_)
  exact ⟨h.1, hr pins _ σ H (acc ++ c) Q (I.tok _) h.1 h.2⟩
theorem pj_fmt {e : Expr} {pos : Pos} {te : TE} {vs : List Expr} {r : TJ} (he : PE X e te) (hr : PJ X vs r) : PJ X (.FormattedValue e (-1) none pos :: vs) (jFmt te r) := by
  intro pins s σ H acc Q I hz h
  refine joinParts_cons (FormattedValue_plain (thn (he pins s σ H _ I h) fun v s1 ⟨x, H1, I1, r1, y, hx, hy, q⟩ => ?_))
  rcases hx with ⟨rfl, hyl⟩ | ⟨i, rfl, hi, rfl⟩
  · obtain ⟨t, rfl⟩ := r1
    exact formatField_str (fun t' tk => ⟨hy, hr pins _ σ H1 _ Q (I1.tok _) hy q⟩) hyl
  · obtain ⟨t, rfl⟩ := r1
    exact formatField_int_small hi ⟨hy, hr pins _ σ H1 _ Q (I1.tok _) hy q⟩
noncomputable def tJoined (r : TJ) : TE := fun σ H Q => r σ H Str.empty Q
theorem pe_joined {v1 v2 : Expr} {rest : List Expr} {pos : Pos} {r : TJ} (h : PJ X (v1 :: v2 :: rest) r) : PE X (.JoinedStr (v1 :: v2 :: rest) pos) (tJoined r) := by
  intro pins s σ H Q I hq
  exact JoinedStr_many (h pins s σ H Str.empty Q I (by decide) hq)
end
end L2
namespace L2
open PySem PySem.Spec PyProof.Rows
noncomputable abbrev cl (z : Str) : List Nat := z.cps.toList
theorem cl_len (z : Str) : (cl z).length = z.length := by simp [cl, Str.length]
theorem cl_app (x y : Str) : cl (x ++ y) = cl x ++ cl y := by
  show (x.cps ++ y.cps).toList = _
  simp [cl]
theorem cl_ext {x y : Str} (h : cl x = cl y) : x = y := by
  cases x; cases y
  simp only [cl] at h
  congr
  exact Array.ext' h
theorem cl_one (c : Nat) : cl (⟨#[c]⟩ : Str) = [c] := rfl
noncomputable def cutL {α : Type} (xs : List α) (lo hi : Option Int) : List α := (xs.drop (HT.sIx xs.length 0 lo)).take (HT.sIx xs.length xs.length hi - HT.sIx xs.length 0 lo)
theorem pick_nat (xs : List Nat) (i k : Nat) : ((List.range k).map fun (m : Nat) => ((i : Int) + 1 * (m : Int)).toNat).filterMap (xs[·]?) = (xs.drop i).take k := by
  rw [List.filterMap_map]
  induction k generalizing i with
  | zero => simp
  | succ k ih =>
    rw [List.range_succ_eq_map, List.filterMap_cons, List.filterMap_map]
    have e0 : ((fun x => xs[x]?) ∘ fun m : Nat => ((i : Int) + 1 * (m : Int)).toNat) 0 = xs[i]? := by simp [Function.comp]
    rw [e0]
    have e1 : (((fun x => xs[x]?) ∘ fun m : Nat => ((i : Int) + 1 * (m : Int)).toNat) ∘ Nat.succ) = ((fun x => xs[x]?) ∘ fun m : Nat => (((i + 1 : Nat) : Int) + 1 * (m : Int)).toNat) := by
      funext m
      simp only [Function.comp, Nat.succ_eq_add_one]
      congr 1
      omega
    rw [e1, ih]
    cases h : xs[i]? with
    | none =>
      have hl : xs.length ≤ i := List.getElem?_eq_none_iff.mp h
      simp [List.drop_eq_nil_of_le hl, List.drop_eq_nil_of_le (Nat.le_succ_of_le hl)]
    | some c =>
      obtain ⟨hi, hc⟩ := List.getElem?_eq_some_iff.mp h
      rw [List.drop_eq_getElem_cons hi, List.take_succ_cons, hc]
theorem idx_eq (lo hi : Option Int) (n : Nat) : Builtin.Str.strSliceIndices lo hi 1 n = (List.range (HT.sIx n n hi - HT.sIx n 0 lo)).map fun (m : Nat) => (((HT.sIx n 0 lo : Nat) : Int) + 1 * (m : Int)).toNat := by
  have c : ∀ (v : Option Int) (d : Nat), (match v with | none => (d : Int) | some i => (let i := if i < 0 then i + (n : Int) else i; if (1 : Int) > 0 then max 0 (min i (n : Int)) else max (-1) (min i ((n : Int) - 1)))) = ((HT.sIx n d v : Nat) : Int) := by
    intro v d
    cases v with
    | none => rfl
    | some i =>
      rw [← HT.clip_eq i n d]
      dsimp only
      rw [if_pos (by decide)]
      by_cases hi : i < 0
      · rw [if_pos hi, if_pos hi]; omega
      · rw [if_neg hi, if_neg hi]; omega
  have key : ∀ (x y : Int) (a b : Nat), x = a → y = b → sliceRange x y 1 = (List.range (b - a)).map fun (m : Nat) => ((a : Int) + 1 * (m : Int)).toNat := by
    rintro x y a b rfl rfl
    unfold sliceRange
    dsimp only
    rw [if_pos (by decide)]
    congr 1
    congr 1
    by_cases h : (a : Int) < (b : Int)
    · rw [if_pos h]; omega
    · rw [if_neg h]; omega
  unfold Builtin.Str.strSliceIndices
  dsimp only
  have e1 := c lo 0
  have e2 := c hi n
  dsimp only at e1 e2
  simp only [show (1 : Int) > 0 by decide, if_true] at e1 e2 ⊢
  exact key _ _ _ _ e1 e2
theorem cl_slice (z : Str) (lo hi : Option Int) : cl (Txt.slice z lo hi) = cutL (cl z) lo hi := by
  have hn : (cl z).length = z.length := cl_len z
  unfold Txt.slice cutL
  rw [hn]
  have hle := HT.sIx_le z.length z.length (Nat.le_refl _) hi
  split
  · rename_i h
    rw [idx_eq, List.length_map, List.length_range] at h
    have h' : HT.sIx z.length z.length hi - HT.sIx z.length 0 lo = z.length := by simpa using h
    have h0 : HT.sIx z.length 0 lo = 0 ∨ z.length = 0 := by omega
    rcases h0 with h0 | h0
    · rw [h', h0, List.drop_zero, List.take_of_length_le (by omega)]
    · have : cl z = [] := List.length_eq_zero_iff.mp (by omega)
      rw [this]; simp
  · show (((Builtin.Str.strSliceIndices lo hi 1 z.length).filterMap (z.cps[·]?)).toArray).toList = _
    rw [idx_eq]
    have e : (fun x : Nat => z.cps[x]?) = fun x => (cl z)[x]? := by funext x; simp [cl]
    rw [e]
    exact pick_nat _ _ _
theorem atI_last' {α : Type} (xs : List α) (h : 0 < xs.length) : atI xs (-1) = xs[xs.length - 1]? := by
  unfold atI ixN
  rw [if_neg (by omega), if_pos (by omega)]
  show xs[((-1 : Int) + (xs.length : Int)).toNat]? = _
  congr 1
  omega
end L2
namespace L2
open PySem PySem.Spec PyProof.Rows
section
variable {X : Cx} (K : PySem.W.Frag)
variable {o e : Expr} {es : List Expr} {to : TE} {t : TA} {name : Str} {apos cpos : Pos} {T id : String} {r : V → List V → Hp → VK → Prop}
end
end L2
namespace PySem
open AutoSeq1 (wpAny_loadPart')
section
variable {prog : Program} {w : World} {A : Around} {E : Value → Shared → Prop} {s : Shared}
end
end PySem
namespace L2
open PySem PySem.Spec PyProof.Rows
inductive XD where
  | int (i : Int) | nums (is : List Int)
inductive Dat where
  | non | bl (b : Bool) | int (i : Int) | str (x : Str) | tup (xs : List Dat) | lst (xs : List Dat) | dct (kvs : List (Dat × Dat)) | exc (c : Str) (fs : List (Str × XD))
noncomputable def clsAt (K : PySem.W.Frag) (c : Str) (C : Addr) : Prop := PySem.W.nsIn K mainGlobals c = some (some (.ref C))
noncomputable def XIs (e C : Addr) (dct : Option Addr) (h : Heap) : Prop := ∃ o, h.get? e = some o ∧ o.cls = .ref C ∧ o.dict = dct ∧ ∀ c, o.data ≠ .cls c
noncomputable def XDOk (K : PySem.W.Frag) (H : Hp) : XD → V → Prop
  | .int i, v => v = .int i
  | .nums is, v => ∃ a, v = .ref a ∧ SL K H a (is.map V.int) ∧ is.length ≤ sizeLine
noncomputable def XFs (K : PySem.W.Frag) (H : Hp) : Option Addr → List (Str × XD) → Prop
  | none, fs => fs = []
  | some dx, fs => ∃ fvs, H dx = some (.xd fvs) ∧ ∀ f, (fs.lookup f = none ∧ fvs.lookup f = none) ∨ ∃ d v, fs.lookup f = some d ∧ fvs.lookup f = some v ∧ XDOk K H d v
noncomputable def XRp (K : PySem.W.Frag) (H : Hp) (c : Str) (fs : List (Str × XD)) (v : V) : Prop := ∃ e C dct, v = .ref e ∧ H e = some (.ext (XIs e C dct)) ∧ clsAt K c C ∧ XFs K H dct fs
structure SOk (x : Str) : Prop where
  ok : PyData.strOk x = true
  le : x.length ≤ sizeLine
noncomputable instance (x : Str) : Decidable (SOk x) := decidable_of_iff (PyData.strOk x = true ∧ x.length ≤ sizeLine) ⟨fun h => ⟨h.1, h.2⟩, fun h => ⟨h.ok, h.le⟩⟩
theorem SOk.of {x : Str} (h : PyData.strOk x = true) (h' : x.length ≤ sizeLine) : SOk x := ⟨h, h'⟩
mutual
noncomputable def Rp (K : PySem.W.Frag) (H : Hp) : Dat → V → Prop
  | .non, v => v = .non
  | .bl b, v => v = .bl b
  | .int i, v => v = .int i
  | .str x, v => v = .str x ∧ SOk x
  | .tup ds, v => ds.length ≤ sizeLine ∧ ∃ a vs, v = .ref a ∧ SqT K H a vs ∧ Rps K H ds vs
  | .lst ds, v => ds.length ≤ sizeLine ∧ ∃ a vs, v = .ref a ∧ SL K H a vs ∧ Rps K H ds vs
  | .dct _, _ => False
  | .exc c fs, v => XRp K H c fs v
noncomputable def Rps (K : PySem.W.Frag) (H : Hp) : List Dat → List V → Prop
  | [], vs => vs = []
  | d :: ds, vs => ∃ v r, vs = v :: r ∧ Rp K H d v ∧ Rps K H ds r
end
noncomputable abbrev AS := Addr → Bool
noncomputable def av (H : Hp) (A : AS) : Hp := fun a => if A a = true then none else H a
theorem av_at {H : Hp} {A : AS} {a : Addr} {o : HO} (h : H a = some o) (hA : A a = false) : av H A a = some o := by unfold av; rw [hA]; exact h
theorem av_of {H : Hp} {A : AS} {a : Addr} {o : HO} (h : av H A a = some o) : A a = false ∧ H a = some o := by
  unfold av at h
  split at h
  · cases h
  · rename_i q; exact ⟨by simpa using q, h⟩
theorem av_same {H : Hp} {A : AS} : Same (av H A) H := fun b o e => (av_of e).2
theorem av_mono {H H' : Hp} {A : AS} (h : Same H H') : Same (av H A) (av H' A) := fun b o e => av_at (h b o (av_of e).2) (av_of e).1
theorem av_less {H : Hp} {A B : AS} (h : ∀ a, B a = true → A a = true) : Same (av H A) (av H B) := fun b o e => by
  obtain ⟨h1, h2⟩ := av_of e
  refine av_at h2 ?_
  cases q : B b with
  | false => rfl
  | true => rw [h b q] at h1; cases h1
noncomputable def no : AS := fun _ => false
theorem av_no {H : Hp} : av H no = H := by funext a; simp [av, no]
theorem Same.sl {K : PySem.W.Frag} {H H' : Hp} {a : Addr} {xs : List V} (e : Same H H') (h : SL K H a xs) : SL K H' a xs := by
  rcases h with (h | ⟨o, h⟩) | h
  · exact .inl (.inl (e _ _ h))
  · exact .inl (.inr ⟨o, e _ _ h⟩)
  · exact .inr h
theorem SL.sq {K : PySem.W.Frag} {H : Hp} {a : Addr} {xs : List V} (h : SL K H a xs) : SqL K H a xs := by
  rcases h with h | ⟨its, n, h1, h2, h3⟩
  · exact .inl h
  · refine .inr ⟨_, its.toArray, n, h1, rfl, rfl, rfl, ?_, by simpa using h3⟩
    have := h3.length
    simp only [List.size_toArray]; omega
theorem SL.get {X : Cx} {pins : List (Addr × Obj)} {σ : St} {H : Hp} {s : Shared} {a : Addr} {xs : List V} (h : SL X.K H a xs) (I : Inv X pins σ H s) :
    ∃ (its : List Value) (n : Nat), Vals xs its ∧ s.heap.get? a = some { cls := .type "list", data := .seq its.toArray n } ∧ xs.length ≤ sizeLine := by
  rcases h with h | ⟨its, n, h1, h2, h3⟩
  · obtain ⟨z, its, n, r, e⟩ := h.ok I.hok
    exact ⟨its, n, r, e, z⟩
  · exact ⟨its, n, h3, I.kIn _ _ h1, h2⟩
theorem XDOk.mono {K : PySem.W.Frag} {H H' : Hp} (e : Same H H') {d : XD} {v : V} (h : XDOk K H d v) : XDOk K H' d v := by
  cases d with
  | int i => exact h
  | nums is => obtain ⟨a, e1, e2, e3⟩ := h; exact ⟨a, e1, e.sl e2, e3⟩
theorem XFs.mono {K : PySem.W.Frag} {H H' : Hp} (e : Same H H') {dct : Option Addr} {fs : List (Str × XD)} (h : XFs K H dct fs) : XFs K H' dct fs := by
  cases dct with
  | none => exact h
  | some dx =>
    obtain ⟨fvs, e1, e2⟩ := h
    exact ⟨fvs, e _ _ e1, fun f => (e2 f).imp id fun ⟨d, v, a, b, c⟩ => ⟨d, v, a, b, c.mono e⟩⟩
theorem XRp.mono {K : PySem.W.Frag} {H H' : Hp} (e : Same H H') {c : Str} {fs : List (Str × XD)} {v : V} (h : XRp K H c fs v) : XRp K H' c fs v := by
  obtain ⟨x, C, dct, e1, e2, e3, e4⟩ := h
  exact ⟨x, C, dct, e1, e _ _ e2, e3, e4.mono e⟩
mutual
theorem Rp.mono {K : PySem.W.Frag} {H H' : Hp} (e : Same H H') : ∀ {d : Dat} {v : V}, Rp K H d v → Rp K H' d v
  | .non, v, h => by unfold Rp at h ⊢; exact h
  | .bl b, v, h => by unfold Rp at h ⊢; exact h
  | .int i, v, h => by unfold Rp at h ⊢; exact h
  | .str x, v, h => by unfold Rp at h ⊢; exact h
  | .dct _, v, h => by unfold Rp at h; exact h.elim
  | .exc _ _, v, h => by unfold Rp at h ⊢; exact XRp.mono e h
  | .tup ds, v, h => by
    unfold Rp at h ⊢
    obtain ⟨hz, a, vs, e1, e2, e3⟩ := h
    exact ⟨hz, a, vs, e1, e.seqT e2, Rps.mono e e3⟩
  | .lst ds, v, h => by
    unfold Rp at h ⊢
    obtain ⟨hz, a, vs, e1, e2, e3⟩ := h
    exact ⟨hz, a, vs, e1, e.sl e2, Rps.mono e e3⟩
theorem Rps.mono {K : PySem.W.Frag} {H H' : Hp} (e : Same H H') : ∀ {ds : List Dat} {vs : List V}, Rps K H ds vs → Rps K H' ds vs
  | [], vs, h => by unfold Rps at h ⊢; exact h
  | d :: ds, vs, h => by
    unfold Rps at h ⊢
    obtain ⟨v, r, e1, e2, e3⟩ := h
    exact ⟨v, r, e1, Rp.mono e e2, Rps.mono e e3⟩
end
section
variable {K : PySem.W.Frag} {H : Hp}
theorem rps_nil : Rps K H [] [] := by unfold Rps; rfl
theorem rps_cons {d : Dat} {ds : List Dat} {v : V} {vs : List V} (h : Rp K H d v) (t : Rps K H ds vs) : Rps K H (d :: ds) (v :: vs) := by unfold Rps; exact ⟨v, vs, rfl, h, t⟩
theorem rps_of_nil {vs : List V} (h : Rps K H [] vs) : vs = [] := by unfold Rps at h; exact h
theorem rps_of_cons {d : Dat} {ds : List Dat} {vs : List V} (h : Rps K H (d :: ds) vs) : ∃ v r, vs = v :: r ∧ Rp K H d v ∧ Rps K H ds r := by unfold Rps at h; exact h
theorem rps_len : ∀ {ds : List Dat} {vs : List V}, Rps K H ds vs → vs.length = ds.length
  | [], vs, h => by rw [rps_of_nil h]; rfl
  | d :: ds, vs, h => by
    obtain ⟨v, r, e1, e2, e3⟩ := rps_of_cons h
    rw [e1, List.length_cons, List.length_cons, rps_len e3]
theorem rps_get : ∀ {ds : List Dat} {vs : List V} {i : Nat} {d : Dat}, Rps K H ds vs → ds[i]? = some d → ∃ v, vs[i]? = some v ∧ Rp K H d v
  | [], vs, i, d, h, e => by simp at e
  | d' :: ds, vs, 0, d, h, e => by
    obtain ⟨v, r, e1, e2, e3⟩ := rps_of_cons h
    simp at e; subst e
    exact ⟨v, by rw [e1]; rfl, e2⟩
  | d' :: ds, vs, i + 1, d, h, e => by
    obtain ⟨v, r, e1, e2, e3⟩ := rps_of_cons h
    obtain ⟨v', h1, h2⟩ := rps_get (i := i) e3 (by simpa using e)
    exact ⟨v', by rw [e1]; simpa using h1, h2⟩
theorem rps_append : ∀ {ds es : List Dat} {vs us : List V}, Rps K H ds vs → Rps K H es us → Rps K H (ds ++ es) (vs ++ us)
  | [], es, vs, us, h, k => by rw [rps_of_nil h]; exact k
  | d :: ds, es, vs, us, h, k => by
    obtain ⟨v, r, e1, e2, e3⟩ := rps_of_cons h
    subst e1
    exact rps_cons e2 (rps_append e3 k)
theorem rps_take : ∀ (n : Nat) {ds : List Dat} {vs : List V}, Rps K H ds vs → Rps K H (ds.take n) (vs.take n)
  | 0, _, _, _ => by simp only [List.take_zero]; exact rps_nil
  | n + 1, [], vs, h => by rw [rps_of_nil h]; simp only [List.take_nil]; exact rps_nil
  | n + 1, d :: ds, vs, h => by
    obtain ⟨v, r, e1, e2, e3⟩ := rps_of_cons h
    subst e1
    exact rps_cons e2 (rps_take n e3)
theorem rps_drop : ∀ (n : Nat) {ds : List Dat} {vs : List V}, Rps K H ds vs → Rps K H (ds.drop n) (vs.drop n)
  | 0, _, _, h => h
  | n + 1, [], vs, h => by rw [rps_of_nil h]; simp only [List.drop_nil]; exact rps_nil
  | n + 1, d :: ds, vs, h => by
    obtain ⟨v, r, e1, e2, e3⟩ := rps_of_cons h
    subst e1
    exact rps_drop n e3
theorem rps_one {d : Dat} {v : V} (h : Rp K H d v) : Rps K H [d] [v] := rps_cons h rps_nil
theorem rps_ints : ∀ (ns : List Int), Rps K H (ns.map Dat.int) (ns.map V.int)
  | [] => rps_nil
  | n :: ns => rps_cons (by unfold Rp; rfl) (rps_ints ns)
theorem rp_non : Rp K H .non .non := by unfold Rp; rfl
theorem rp_bl {b : Bool} : Rp K H (.bl b) (.bl b) := by unfold Rp; rfl
theorem rp_int {i : Int} : Rp K H (.int i) (.int i) := by unfold Rp; rfl
theorem rp_str {x : Str} (h : SOk x) : Rp K H (.str x) (.str x) := by unfold Rp; exact ⟨rfl, h⟩
theorem rp_tup {a : Addr} {vs : List V} {ds : List Dat} (hz : ds.length ≤ sizeLine) (h : SqT K H a vs) (r : Rps K H ds vs) : Rp K H (.tup ds) (.ref a) := by unfold Rp; exact ⟨hz, a, vs, rfl, h, r⟩
theorem rp_lst {a : Addr} {vs : List V} {ds : List Dat} (hz : ds.length ≤ sizeLine) (h : SL K H a vs) (r : Rps K H ds vs) : Rp K H (.lst ds) (.ref a) := by unfold Rp; exact ⟨hz, a, vs, rfl, h, r⟩
theorem of_non {v : V} (h : Rp K H .non v) : v = .non := by unfold Rp at h; exact h
theorem of_bl {b : Bool} {v : V} (h : Rp K H (.bl b) v) : v = .bl b := by unfold Rp at h; exact h
theorem of_int {i : Int} {v : V} (h : Rp K H (.int i) v) : v = .int i := by unfold Rp at h; exact h
theorem of_str {x : Str} {v : V} (h : Rp K H (.str x) v) : v = .str x ∧ SOk x := by unfold Rp at h; exact h
theorem of_tup {ds : List Dat} {v : V} (h : Rp K H (.tup ds) v) : ∃ a vs, v = .ref a ∧ SqT K H a vs ∧ Rps K H ds vs := by unfold Rp at h; exact h.2
theorem len_tup {ds : List Dat} {v : V} (h : Rp K H (.tup ds) v) : ds.length ≤ sizeLine := by unfold Rp at h; exact h.1
theorem len_lst {ds : List Dat} {v : V} (h : Rp K H (.lst ds) v) : ds.length ≤ sizeLine := by unfold Rp at h; exact h.1
theorem of_lst {ds : List Dat} {v : V} (h : Rp K H (.lst ds) v) : ∃ a vs, v = .ref a ∧ SL K H a vs ∧ Rps K H ds vs := by unfold Rp at h; exact h.2
theorem of_dct {ds : List (Dat × Dat)} {v : V} (h : Rp K H (.dct ds) v) : False := by unfold Rp at h; exact h
theorem of_exc {c : Str} {ds : List (Str × XD)} {v : V} (h : Rp K H (.exc c ds) v) : XRp K H c ds v := by unfold Rp at h; exact h
end
noncomputable def Pk (K : PySem.W.Frag) (A : AS) (H : Hp) (d : Dat) (v : V) : Prop :=
  Rp K (av H A) d v ∨ ∃ a vs ds, d = .lst ds ∧ v = .ref a ∧ ds.length ≤ sizeLine ∧ H a = some (.lst vs) ∧ Rps K (av H A) ds vs
section
variable {K : PySem.W.Frag} {A : AS} {H H' : Hp} {d : Dat} {v : V}
theorem Pk.mono (e : Same H H') (h : Pk K A H d v) : Pk K A H' d v := by
  rcases h with h | ⟨a, vs, ds, e1, e2, hz, e3, e4⟩
  · exact .inl (h.mono (av_mono e))
  · exact .inr ⟨a, vs, ds, e1, e2, hz, e _ _ e3, e4.mono (av_mono e)⟩
theorem Pk.rp (h : Pk K A H d v) : Rp K H d v := by
  rcases h with h | ⟨a, vs, ds, e1, e2, hz, e3, e4⟩
  · exact h.mono av_same
  · subst e1 e2; exact rp_lst hz (.inl (.inl e3)) (e4.mono av_same)
theorem Pk.lenL {ds : List Dat} (h : Pk K A H (.lst ds) v) : ds.length ≤ sizeLine := len_lst h.rp
theorem Pk.lenT {ds : List Dat} (h : Pk K A H (.tup ds) v) : ds.length ≤ sizeLine := len_tup h.rp
theorem Pk.non (h : Pk K A H .non v) : v = .non := of_non h.rp
theorem Pk.bl {b : Bool} (h : Pk K A H (.bl b) v) : v = .bl b := of_bl h.rp
theorem Pk.int {i : Int} (h : Pk K A H (.int i) v) : v = .int i := of_int h.rp
theorem Pk.str {x : Str} (h : Pk K A H (.str x) v) : v = .str x ∧ SOk x := of_str h.rp
theorem Pk.tup {ds : List Dat} (h : Pk K A H (.tup ds) v) : ∃ a vs, v = .ref a ∧ SqT K H a vs ∧ Rps K (av H A) ds vs := by
  rcases h with h | ⟨a, vs, ds, e1, e2, e3, e4⟩
  · obtain ⟨a, vs, e1, e2, e3⟩ := of_tup h
    exact ⟨a, vs, e1, av_same.seqT e2, e3⟩
  · cases e1
theorem Pk.lst {ds : List Dat} (h : Pk K A H (.lst ds) v) : ∃ a vs, v = .ref a ∧ SL K H a vs ∧ Rps K (av H A) ds vs := by
  rcases h with h | ⟨a, vs, ds', e1, e2, hz, e3, e4⟩
  · obtain ⟨a, vs, e1, e2, e3⟩ := of_lst h
    exact ⟨a, vs, e1, av_same.sl e2, e3⟩
  · cases e1; exact ⟨a, vs, e2, .inl (.inl e3), e4⟩
end
mutual
noncomputable def eqD : Dat → Dat → Bool
  | .non, .non => true
  | .bl a, .bl b => a == b
  | .bl a, .int j => (if a then 1 else 0) == j
  | .int i, .bl b => i == (if b then 1 else 0)
  | .int i, .int j => i == j
  | .str x, .str y => x == y
  | .lst xs, .lst ys => eqDs xs ys
  | .tup xs, .tup ys => eqDs xs ys
  | _, _ => false
noncomputable def eqDs : List Dat → List Dat → Bool
  | [], [] => true
  | x :: xs, y :: ys => eqD x y && eqDs xs ys
  | _, _ => false
end
noncomputable def pd : Nat → Dat → Bool
  | 0, .lst _ => false
  | 0, .tup _ => false
  | n + 1, .lst xs => xs.all (pd n)
  | n + 1, .tup xs => xs.all (pd n)
  | _, .dct _ => false
  | _, .exc _ _ => false
  | _, .non => true
  | _, .bl _ => true
  | _, .int _ => true
  | _, .str _ => true
mutual
noncomputable def toP : Dat → PyData
  | .non => .none
  | .bl b => .bool b
  | .int i => .int i
  | .str x => .str x
  | .tup xs => .tuple (toPs xs)
  | .lst xs => .list (toPs xs)
  | .dct _ => .none
  | .exc _ _ => .none
noncomputable def toPs : List Dat → List PyData
  | [] => []
  | x :: xs => toP x :: toPs xs
end
theorem pd_lst {n : Nat} {xs : List Dat} (h : pd n (.lst xs) = true) : ∃ m, n = m + 1 ∧ ∀ x ∈ xs, pd m x = true := by
  cases n with
  | zero => cases h
  | succ n => exact ⟨n, rfl, by simpa [pd] using h⟩
theorem pd_tup {n : Nat} {xs : List Dat} (h : pd n (.tup xs) = true) : ∃ m, n = m + 1 ∧ ∀ x ∈ xs, pd m x = true := by
  cases n with
  | zero => cases h
  | succ n => exact ⟨n, rfl, by simpa [pd] using h⟩
theorem pd_dct {n : Nat} {xs} (h : pd n (.dct xs) = true) : False := by cases n <;> cases h
theorem pd_exc {n : Nat} {c xs} (h : pd n (.exc c xs) = true) : False := by cases n <;> cases h
mutual
theorem eqv_toP : ∀ {n m : Nat} (x y : Dat), pd n x = true → pd m y = true → PyData.eqv (toP x) (toP y) = eqD x y
  | n, m, .dct _, y, h, _ => (pd_dct h).elim
  | n, m, .exc _ _, y, h, _ => (pd_exc h).elim
  | n, m, x, .dct _, _, h => (pd_dct h).elim
  | n, m, x, .exc _ _, _, h => (pd_exc h).elim
  | n, m, .non, .non, _, _ => rfl
  | n, m, .non, .bl _, _, _ => rfl
  | n, m, .non, .int _, _, _ => rfl
  | n, m, .non, .str _, _, _ => rfl
  | n, m, .non, .tup _, _, _ => rfl
  | n, m, .non, .lst _, _, _ => rfl
  | n, m, .bl _, .non, _, _ => rfl
  | n, m, .bl _, .bl _, _, _ => rfl
  | n, m, .bl _, .int _, _, _ => rfl
  | n, m, .bl _, .str _, _, _ => rfl
  | n, m, .bl _, .tup _, _, _ => rfl
  | n, m, .bl _, .lst _, _, _ => rfl
  | n, m, .int _, .non, _, _ => rfl
  | n, m, .int _, .bl _, _, _ => rfl
  | n, m, .int _, .int _, _, _ => rfl
  | n, m, .int _, .str _, _, _ => rfl
  | n, m, .int _, .tup _, _, _ => rfl
  | n, m, .int _, .lst _, _, _ => rfl
  | n, m, .str _, .non, _, _ => rfl
  | n, m, .str _, .bl _, _, _ => rfl
  | n, m, .str _, .int _, _, _ => rfl
  | n, m, .str _, .str _, _, _ => rfl
  | n, m, .str _, .tup _, _, _ => rfl
  | n, m, .str _, .lst _, _, _ => rfl
  | n, m, .lst _, .non, _, _ => rfl
  | n, m, .lst _, .bl _, _, _ => rfl
  | n, m, .lst _, .int _, _, _ => rfl
  | n, m, .lst _, .str _, _, _ => rfl
  | n, m, .lst _, .tup _, _, _ => rfl
  | n, m, .lst xs, .lst ys, h, k => by
    obtain ⟨n', _, hx⟩ := pd_lst h
    obtain ⟨m', _, hy⟩ := pd_lst k
    simp only [toP, PyData.eqv, eqD]
    exact eqvs_toP xs ys hx hy
  | n, m, .tup _, .non, _, _ => rfl
  | n, m, .tup _, .bl _, _, _ => rfl
  | n, m, .tup _, .int _, _, _ => rfl
  | n, m, .tup _, .str _, _, _ => rfl
  | n, m, .tup _, .lst _, _, _ => rfl
  | n, m, .tup xs, .tup ys, h, k => by
    obtain ⟨n', _, hx⟩ := pd_tup h
    obtain ⟨m', _, hy⟩ := pd_tup k
    simp only [toP, PyData.eqv, eqD]
    exact eqvs_toP xs ys hx hy
theorem eqvs_toP : ∀ {n m : Nat} (xs ys : List Dat), (∀ x ∈ xs, pd n x = true) → (∀ y ∈ ys, pd m y = true) → PyData.eqvAll (toPs xs) (toPs ys) = eqDs xs ys
  | n, m, [], [], _, _ => rfl
  | n, m, [], _ :: _, _, _ => rfl
  | n, m, _ :: _, [], _, _ => rfl
  | n, m, x :: xs, y :: ys, hx, hy => by
    simp only [toPs, PyData.eqvAll, eqDs]
    rw [eqv_toP (n := n) (m := m) x y (hx x List.mem_cons_self) (hy y List.mem_cons_self), eqvs_toP (n := n) (m := m) xs ys (fun z hz => hx z (List.mem_cons_of_mem _ hz)) (fun z hz => hy z (List.mem_cons_of_mem _ hz))]
end
mutual
theorem depth_toP : ∀ (n : Nat) (x : Dat), pd n x = true → (toP x).depth ≤ n
  | n, .dct _, h => (pd_dct h).elim
  | n, .exc _ _, h => (pd_exc h).elim
  | n, .non, _ => Nat.zero_le _
  | n, .bl _, _ => Nat.zero_le _
  | n, .int _, _ => Nat.zero_le _
  | n, .str _, _ => Nat.zero_le _
  | n, .lst xs, h => by
    obtain ⟨m, e, hx⟩ := pd_lst h
    subst e
    simp only [toP, PyData.depth]
    exact Nat.succ_le_succ (depths_toP m xs hx)
  | n, .tup xs, h => by
    obtain ⟨m, e, hx⟩ := pd_tup h
    subst e
    simp only [toP, PyData.depth]
    exact Nat.succ_le_succ (depths_toP m xs hx)
theorem depths_toP : ∀ (n : Nat) (xs : List Dat), (∀ x ∈ xs, pd n x = true) → PyData.depthAll (toPs xs) ≤ n
  | n, [], _ => Nat.zero_le _
  | n, x :: xs, h => by
    simp only [toPs, PyData.depthAll]
    exact Nat.max_le.mpr ⟨depth_toP n x (h x List.mem_cons_self), depths_toP n xs fun z hz => h z (List.mem_cons_of_mem _ hz)⟩
end
section
variable {X : Cx} {pins : List (Addr × Obj)} {σ : St} {H : Hp} {s : Shared}
mutual
theorem Rp.reads (I : Inv X pins σ H s) : ∀ {n : Nat} (d : Dat) (v : V) (u : Value), pd n d = true → Rp X.K H d v → RelV v u → ∃ as, Reads s.heap u (toP d) as ∧ (toP d).canLay0 = true
  | n, .dct _, v, u, h, _, _ => (pd_dct h).elim
  | n, .exc _ _, v, u, h, _, _ => (pd_exc h).elim
  | n, .non, v, u, _, i, r => by cases of_non i; cases r; exact ⟨_, .none, rfl⟩
  | n, .bl b, v, u, _, i, r => by cases of_bl i; cases r; exact ⟨_, .bool b, rfl⟩
  | n, .int k, v, u, _, i, r => by cases of_int i; obtain ⟨t, rfl⟩ := r; exact ⟨_, .int k t, rfl⟩
  | n, .str x, v, u, _, i, r => by
    obtain ⟨e, hs⟩ := of_str i
    subst e; obtain ⟨t, rfl⟩ := r
    exact ⟨_, .str x t, hs.ok⟩
  | n, .tup ds, v, u, h, i, r => by
    obtain ⟨m, _, hx⟩ := pd_tup h
    obtain ⟨a, vs, e1, e2, e3⟩ := of_tup i
    subst e1; cases r
    obtain ⟨its, rv, ⟨o, ho, hc, k, hd⟩, _⟩ := I.tuple e2
    obtain ⟨as, ra, hl⟩ := Rps.reads I ds vs its hx e3 rv
    exact ⟨_, .tuple ho hc hd (by simpa using ra), hl⟩
  | n, .lst ds, v, u, h, i, r => by
    obtain ⟨m, _, hx⟩ := pd_lst h
    obtain ⟨a, vs, e1, e2, e3⟩ := of_lst i
    subst e1; cases r
    obtain ⟨its, rv, ⟨o, k, ho, hc, _, hd⟩, _⟩ := I.list e2.sq
    obtain ⟨as, ra, hl⟩ := Rps.reads I ds vs its hx e3 rv
    exact ⟨_, .list ho hc hd (by simpa using ra), hl⟩
theorem Rps.reads (I : Inv X pins σ H s) : ∀ {n : Nat} (ds : List Dat) (vs : List V) (us : List Value), (∀ x ∈ ds, pd n x = true) → Rps X.K H ds vs → Vals vs us → ∃ as, ReadsAll s.heap us (toPs ds) as ∧ PyData.canLayAll0 (toPs ds) = true
  | n, [], vs, us, _, i, r => by
    rw [rps_of_nil i] at r; cases r; exact ⟨_, .nil, rfl⟩
  | n, d :: ds, vs, us, h, i, r => by
    obtain ⟨v, rr, e1, e2, e3⟩ := rps_of_cons i
    subst e1
    cases r with
    | cons r1 r2 =>
      obtain ⟨as, h1, l1⟩ := Rp.reads I d v _ (h d List.mem_cons_self) e2 r1
      obtain ⟨bs, h2, l2⟩ := Rps.reads I ds rr _ (fun z hz => h z (List.mem_cons_of_mem _ hz)) e3 r2
      exact ⟨_, .cons h1 h2, by simp only [toPs, PyData.canLayAll0, l1, l2]; rfl⟩
end
theorem Rp.eqAt (I : Inv X pins σ H s) {A : Around} {n m : Nat} {d e : Dat} {v w : V} {u u' : Value} (hd : pd n d = true) (he : pd m e = true) (hn : n ≤ 60) (hu : A.units + 60 < cLine) (r1 : Rp X.K H d v) (r2 : Rp X.K H e w) (q1 : RelV v u) (q2 : RelV w u') :
    SeqAt.EqAt A s u u' (eqD d e) := by
  obtain ⟨as, a1, a2⟩ := Rp.reads I d v u hd r1 q1
  obtain ⟨bs, b1, b2⟩ := Rp.reads I e w u' he r2 q2
  rw [← eqv_toP d e hd he]
  have := depth_toP n d hd
  exact SeqAt.eqAt_reads _ _ A s u u' as bs a1 b1 a2 b2 (by omega)
end
end L2
namespace L2
open PySem PySem.Spec PyProof.Rows
noncomputable def Mtb : Option HO → Prop
  | some (.lst _) => True
  | some (.dK _) => True
  | some (.dT _) => True
  | _ => False
noncomputable def MuOk (A : AS) (H : Hp) : Prop := ∀ a, A a = true → Mtb (H a)
theorem MuOk.new {A : AS} {H : Hp} (m : MuOk A H) {p : Addr} (h : H p = none) : A p = false := by
  cases q : A p with
  | false => rfl
  | true => have := m p q; rw [h] at this; exact this.elim
theorem MuOk.mono {A : AS} {H H' : Hp} (m : MuOk A H) (e : Same H H') : MuOk A H' := fun a h => by
  have := m a h
  cases q : H a with
  | none => rw [q] at this; exact this.elim
  | some o => rw [q] at this; rw [e a o q]; exact this
noncomputable def ins (A : AS) (p : Addr) : AS := fun a => A a || a == p
theorem ins_self {A : AS} {p : Addr} : ins A p p = true := by simp [ins]
theorem ins_of {A : AS} {p a : Addr} (h : A a = true) : ins A p a = true := by simp [ins, h]
theorem ins_or {A : AS} {p a : Addr} (h : ins A p a = true) : A a = true ∨ a = p := by simpa [ins] using h
theorem ins_ff {A : AS} {p a : Addr} (h : A a = false) (hn : a ≠ p) : ins A p a = false := by simp [ins, h, hn]
structure Step (A : AS) (H : Hp) (A' : AS) (H' : Hp) : Prop where
  keep : ∀ a o, H a = some o → A a = false → H' a = some o
  sub : ∀ a, A' a = true → A a = true ∨ H a = none
theorem Step.refl (A : AS) (H : Hp) : Step A H A H := ⟨fun _ _ h _ => h, fun _ h => .inl h⟩
theorem Step.same {A : AS} {H H' : Hp} (e : Same H H') : Step A H A H' := ⟨fun a o h _ => e a o h, fun _ h => .inl h⟩
theorem Step.trans {A A1 A2 : AS} {H H1 H2 : Hp} (a : Step A H A1 H1) (b : Step A1 H1 A2 H2) : Step A H A2 H2 where
  keep := fun c o h hA => b.keep c o (a.keep c o h hA) (by
    cases q : A1 c with
    | false => rfl
    | true =>
      rcases a.sub c q with z | z
      · rw [z] at hA; cases hA
      · rw [z] at h; cases h)
  sub := fun c h => by
    rcases b.sub c h with z | z
    · exact a.sub c z
    · cases qA : A c with
      | true => exact .inl rfl
      | false =>
        cases q : H c with
        | none => exact .inr rfl
        | some o => rw [a.keep c o q qA] at z; cases z
theorem Step.av {A A' : AS} {H H' : Hp} (s : Step A H A' H') : Same (av H A) (av H' A') := fun b o e => by
  obtain ⟨h1, h2⟩ := av_of e
  refine av_at (s.keep b o h2 h1) ?_
  cases q : A' b with
  | false => rfl
  | true =>
    rcases s.sub b q with z | z
    · rw [z] at h1; cases h1
    · rw [z] at h2; cases h2
inductive Slt where
  | un | fz (d : Dat) | pk (d : Dat) | ow (ds : List Dat)
noncomputable abbrev Ev := List Slt
noncomputable def SlotOk (K : PySem.W.Frag) (A : AS) (H : Hp) (o : Addr → Prop) : Slt → Option V → Prop
  | .un, _ => True
  | .fz d, x => ∃ v, x = some v ∧ Rp K (av H A) d v
  | .pk d, x => ∃ v, x = some v ∧ Pk K A H d v
  | .ow ds, x => ∃ a vs, x = some (.ref a) ∧ o a ∧ ds.length ≤ sizeLine ∧ H a = some (.lst vs) ∧ Rps K (av H A) ds vs
structure Bs where
  H₀ : Hp
  R : AS
  st : Bool
structure EnvOk (K : PySem.W.Frag) (B : Bs) (A : AS) (H : Hp) (σ : St) (env : Ev) : Prop where
  h0 : Same B.H₀ H
  r0 : ∀ a, B.R a = true → ∃ o, B.H₀ a = some o
  ra : ∀ a, B.R a = true → A a = true
  ar : ∀ a, A a = true → B.R a = true ∨ B.H₀ a = none
  mu : MuOk A H
  len : σ.length = env.length
  np : B.st = true → ∀ (i : Nat) d, env[i]? ≠ some (.pk d)
  sl : ∃ own : Nat → Addr → Prop, (∀ i j a, own i a → own j a → i = j) ∧ (∀ i a, own i a → A a = true ∧ B.R a = false) ∧
    ∀ (i : Nat) s, env[i]? = some s → ∃ x, σ[i]? = some x ∧ SlotOk K A H (own i) s x
theorem SlotOk.mono {K : PySem.W.Frag} {A : AS} {H H' : Hp} (e : Same H H') {o : Addr → Prop} {s : Slt} {x : Option V} (h : SlotOk K A H o s x) : SlotOk K A H' o s x := by
  cases s with
  | un => trivial
  | fz d => obtain ⟨v, e1, e2⟩ := h; exact ⟨v, e1, e2.mono (av_mono e)⟩
  | pk d => obtain ⟨v, e1, e2⟩ := h; exact ⟨v, e1, e2.mono e⟩
  | ow ds => obtain ⟨a, vs, e1, e2, hz, e3, e4⟩ := h; exact ⟨a, vs, e1, e2, hz, e _ _ e3, e4.mono (av_mono e)⟩
theorem EnvOk.mono {K : PySem.W.Frag} {B : Bs} {A : AS} {H H' : Hp} {σ : St} {env : Ev} (k : EnvOk K B A H σ env) (e : Same H H') : EnvOk K B A H' σ env := by
  obtain ⟨own, h1, h2, h4⟩ := k.sl
  exact ⟨k.h0.trans e, k.r0, k.ra, k.ar, k.mu.mono e, k.len, k.np, own, h1, h2, fun i s q => let ⟨x, q2, q3⟩ := h4 i s q; ⟨x, q2, q3.mono e⟩⟩
noncomputable def Rm (m : Bool) (K : PySem.W.Frag) (A : AS) (H : Hp) (d : Dat) (v : V) : Prop := match m with
  | true => Pk K A H d v
  | false => Rp K (av H A) d v
theorem Rm.any {m : Bool} {K : PySem.W.Frag} {A : AS} {H : Hp} {d : Dat} {v : V} (h : Rp K (av H A) d v) : Rm m K A H d v := by
  cases m with
  | true => exact .inl h
  | false => exact h
theorem Rm.pk {m : Bool} {K : PySem.W.Frag} {A : AS} {H : Hp} {d : Dat} {v : V} (h : Rm m K A H d v) : Pk K A H d v := by
  cases m with
  | true => exact h
  | false => exact .inl h
theorem Rm.mono {m : Bool} {K : PySem.W.Frag} {A : AS} {H H' : Hp} (e : Same H H') {d : Dat} {v : V} (h : Rm m K A H d v) : Rm m K A H' d v := by
  cases m with
  | true => exact Pk.mono e h
  | false => exact Rp.mono (av_mono e) h
noncomputable def Rms (m : Bool) (K : PySem.W.Frag) (A : AS) (H : Hp) : List Dat → List V → Prop
  | [], vs => vs = []
  | d :: ds, vs => ∃ v r, vs = v :: r ∧ Rm m K A H d v ∧ Rms m K A H ds r
theorem Rms.rps {K : PySem.W.Frag} {A : AS} {H : Hp} : ∀ {ds : List Dat} {vs : List V}, Rms false K A H ds vs → Rps K (av H A) ds vs
  | [], vs, h => by rw [show vs = [] from h]; exact rps_nil
  | _ :: _, _, ⟨v, r, e1, e2, e3⟩ => by rw [e1]; exact rps_cons e2 (Rms.rps e3)
theorem Rms.full {m : Bool} {K : PySem.W.Frag} {A : AS} {H : Hp} : ∀ {ds : List Dat} {vs : List V}, Rms m K A H ds vs → Rps K H ds vs
  | [], vs, h => by rw [show vs = [] from h]; exact rps_nil
  | _ :: _, _, ⟨v, r, e1, e2, e3⟩ => by rw [e1]; exact rps_cons e2.pk.rp (Rms.full e3)
theorem Rms.one {m : Bool} {K : PySem.W.Frag} {A : AS} {H : Hp} {d : Dat} {vs : List V} (h : Rms m K A H [d] vs) : ∃ v, vs = [v] ∧ Pk K A H d v := by
  obtain ⟨v, r, e1, e2, e3⟩ := h
  exact ⟨v, by rw [e1, show r = [] from e3], e2.pk⟩
noncomputable def RegC (m : Bool) (K : PySem.W.Frag) (A : AS) (H : Hp) (d : Dat) (Q : VK) : Prop := ∀ v H', Same H H' → Rm m K A H' d v → Q v H'
noncomputable def NewC (K : PySem.W.Frag) (A : AS) (H : Hp) (ds : List Dat) (Q : VK) : Prop := ∀ p vs H', ds.length ≤ sizeLine → Same H H' → H p = none → H' p = some (.lst vs) → Rps K (av H' (ins A p)) ds vs → Q (.ref p) H'
section
variable {m : Bool} {K : PySem.W.Frag} {A : AS} {H H' : Hp} {d : Dat} {ds : List Dat} {Q : VK}
theorem RegC.mono (h : RegC m K A H d Q) (e : Same H H') : RegC m K A H' d Q := fun v H2 e2 r => h v H2 (e.trans e2) r
theorem NewC.mono (h : NewC K A H ds Q) (e : Same H H') : NewC K A H' ds Q := fun p vs H2 hz e2 hn hp r => h p vs H2 hz (e.trans e2) (e.free hn) hp r
theorem RegC.any (h : RegC m K A H d Q) : RegC false K A H d Q := fun v H' e r => h v H' e (Rm.any r)
theorem RegC.here {v : V} (h : RegC m K A H d Q) (r : Rp K (av H A) d v) : Q v H := h v H (Same.refl H) (Rm.any r)
theorem RegC.new (h : RegC m K A H (.lst ds) Q) (mu : MuOk A H) : NewC K A H ds Q := fun p vs H' hz e hn hp r => by
  refine h _ H' e (Rm.any (rp_lst hz (.inl (.inl (av_at hp (mu.new hn)))) (r.mono (av_less fun a q => ins_of q))))
theorem NewC.at {vs : List V} (h : NewC K A H ds Q) (hz : ds.length ≤ sizeLine) (r : Rps K (av H A) ds vs) : ∀ p, H p = none → Q (.ref p) (upd H p (.lst vs)) := fun p hp => by
  refine h p vs _ hz (Same.new hp) hp upd_same (r.mono fun b o e => ?_)
  obtain ⟨h1, h2⟩ := av_of e
  have hb : b ≠ p := ne_of_none h2 hp
  exact av_at (by rw [upd_ne hb]; exact h2) (ins_ff h1 hb)
theorem RegC.tup {vs : List V} (h : RegC m K A H (.tup ds) Q) (mu : MuOk A H) (hz : ds.length ≤ sizeLine) (r : Rps K (av H A) ds vs) : ∀ p, H p = none → Q (.ref p) (upd H p (.tup vs)) := fun p hp => by
  refine h _ _ (Same.new hp) (Rm.any (rp_tup hz (.inl (.inl (av_at upd_same (mu.new hp)))) (r.mono (av_mono (Same.new hp)))))
end
noncomputable def PXd (m : Bool) (X : Cx) (e : Expr) (f : Ev → Option Dat) : Prop := PE X e fun σ H Q => ∃ env R A d, EnvOk X.K R A H σ env ∧ f env = some d ∧ RegC m X.K A H d Q
noncomputable def PNd (X : Cx) (e : Expr) (f : Ev → Option (List Dat)) : Prop := PE X e fun σ H Q => ∃ env R A ds, EnvOk X.K R A H σ env ∧ f env = some ds ∧ NewC X.K A H ds Q
noncomputable def PAd (m : Bool) (X : Cx) (es : List Expr) (f : Ev → Option (List Dat)) : Prop := PA X es fun σ H Q => ∃ env R A ds, EnvOk X.K R A H σ env ∧ f env = some ds ∧ ∀ vs H', Same H H' → Rms m X.K A H' ds vs → Q vs H'
noncomputable def PTd (X : Cx) (e : Expr) (f : Ev → Option Bool) : Prop := PT X e fun σ H Q => ∃ env R A b, EnvOk X.K R A H σ env ∧ f env = some b ∧ ∀ H', Same H H' → Q b H'
noncomputable def PWd (X : Cx) (e : Expr) (f : Ev → Option Bool) : Prop := PW X e fun σ H Q => ∃ env R A b, EnvOk X.K R A H σ env ∧ f env = some b ∧ ∀ H', Same H H' → Q b H'
theorem PE.weak {X : Cx} {e : Expr} {t t' : TE} (h : PE X e t) (w : ∀ σ H Q, t' σ H Q → t σ H Q) : PE X e t' := fun pins s σ H Q I q => h pins s σ H Q I (w σ H Q q)
theorem PT.weak {X : Cx} {e : Expr} {t t' : TT} (h : PT X e t) (w : ∀ σ H Q, t' σ H Q → t σ H Q) : PT X e t' := fun pins s σ H Q I q => h pins s σ H Q I (w σ H Q q)
theorem PW.weak {X : Cx} {e : Expr} {t t' : TT} (h : PW X e t) (w : ∀ σ H Q, t' σ H Q → t σ H Q) : PW X e t' := fun wh pins s σ H Q I q => h wh pins s σ H Q I (w σ H Q q)
theorem PA.weak {X : Cx} {e : List Expr} {t t' : TA} (h : PA X e t) (w : ∀ σ H Q, t' σ H Q → t σ H Q) : PA X e t' := fun pos pins s σ H Q I q => h pos pins s σ H Q I (w σ H Q q)
theorem PS.weak {X : Cx} {e : Stmt} {t t' : TS} (h : PS X e t) (w : ∀ D σ H, t' D σ H → t D σ H) : PS X e t' := fun pins s σ H D I q => h pins s σ H D I (w D σ H q)
theorem PSs.weak {X : Cx} {e : List Stmt} {t t' : TS} (h : PSs X e t) (w : ∀ D σ H, t' D σ H → t D σ H) : PSs X e t' := fun pins s σ H D I q => h pins s σ H D I (w D σ H q)
section
variable {m : Bool} {X : Cx} {e : Expr} {f : Ev → Option Dat}
theorem PXd.any (h : PXd false X e f) : PXd m X e f := h.weak fun _ _ _ ⟨env, R, A, d, k, q1, q2⟩ => ⟨env, R, A, d, k, q1, q2.any⟩
noncomputable def dL (g : Ev → Option (List Dat)) : Ev → Option Dat := fun env => (g env).map .lst
theorem PNd.x {g : Ev → Option (List Dat)} (h : PNd X e g) : PXd m X e (dL g) := h.weak fun _ _ _ zz => by
  obtain ⟨env, R, A, d, k, q1, q2⟩ := zz
  unfold dL at q1
  cases q : g env with
  | none => rw [q] at q1; cases q1
  | some ds =>
    rw [q] at q1
    cases q1
    exact ⟨env, R, A, ds, k, q, q2.new k.mu⟩
theorem bind_some {α β : Type} {a : Option α} {g : α → Option β} {b : β} (h : a.bind g = some b) : ∃ x, a = some x ∧ g x = some b := by
  cases a with
  | none => cases h
  | some x => exact ⟨x, rfl, h⟩
noncomputable def dV (i : Nat) : Ev → Option Dat := fun env => match env[i]? with
  | some (.fz d) => some d
  | _ => none
noncomputable def dP (i : Nat) : Ev → Option Dat := fun env => match env[i]? with
  | some (.fz d) => some d
  | some (.pk d) => some d
  | some (.ow ds) => some (.lst ds)
  | _ => none
theorem EnvOk.fz {R : Bs} {A : AS} {H : Hp} {σ : St} {env : Ev} {i : Nat} {d : Dat} (k : EnvOk X.K R A H σ env) (h : env[i]? = some (.fz d)) : ∃ v, σ[i]? = some (some v) ∧ Rp X.K (av H A) d v := by
  obtain ⟨own, h1, h2, h4⟩ := k.sl
  obtain ⟨x, q2, v, e1, e2⟩ := h4 i _ h
  subst e1
  exact ⟨v, q2, e2⟩
theorem EnvOk.look {R : Bs} {A : AS} {H : Hp} {σ : St} {env : Ev} {i : Nat} {d : Dat} (k : EnvOk X.K R A H σ env) (h : dP i env = some d) : ∃ v, σ[i]? = some (some v) ∧ Pk X.K A H d v := by
  obtain ⟨own, h1, h2, h4⟩ := k.sl
  unfold dP at h
  split at h
  · rename_i z e
    cases h
    obtain ⟨x, q2, v, e1, e2⟩ := h4 i _ e
    subst e1
    exact ⟨v, q2, .inl e2⟩
  · rename_i z e
    cases h
    obtain ⟨x, q2, v, e1, e2⟩ := h4 i _ e
    subst e1
    exact ⟨v, q2, e2⟩
  · rename_i z e
    cases h
    obtain ⟨x, q2, a, vs, e1, e2, hz, e3, e4⟩ := h4 i _ e
    subst e1
    exact ⟨.ref a, q2, .inr ⟨a, vs, z, rfl, rfl, hz, e3, e4⟩⟩
  · cases h
theorem xv (i : Nat) {x : Str} {pos : Pos} (hN : X.N[i]? = some x := by rfl) (hv : Vis X.env.scope x := by first | exact Or.inl rfl | exact Or.inr (Or.inl rfl) | exact Or.inr (Or.inr rfl)) (hd : (x == ("__debug__" : Str)) = false := by decide)
    (hcd : (x == ("__classdict__" : Str)) = false := by decide) : PXd m X (.Name x pos) (dV i) := PXd.any ((pe_var hN hv hd hcd).weak fun σ H Q zz => by
  obtain ⟨env, R, A, d, k, q1, q2⟩ := zz
  unfold dV at q1
  split at q1
  · rename_i z e
    cases q1
    obtain ⟨v, h1, h2⟩ := k.fz e
    exact ⟨v, h1, q2.here h2⟩
  · cases q1)
theorem xo (i : Nat) {x : Str} {pos : Pos} (hN : X.N[i]? = some x := by rfl) (hv : Vis X.env.scope x := by first | exact Or.inl rfl | exact Or.inr (Or.inl rfl) | exact Or.inr (Or.inr rfl)) (hd : (x == ("__debug__" : Str)) = false := by decide)
    (hcd : (x == ("__classdict__" : Str)) = false := by decide) : PXd true X (.Name x pos) (dP i) := (pe_var hN hv hd hcd).weak fun σ H Q zz => by
  obtain ⟨env, R, A, d, k, q1, q2⟩ := zz
  obtain ⟨v, h1, h2⟩ := k.look q1
  exact ⟨v, h1, q2 v H (Same.refl H) h2⟩
noncomputable def dC (d : Dat) : Ev → Option Dat := fun _ => some d
theorem xint {i : Int} {j pos} : PXd m X (.Constant (.int i) j pos) (dC (.int i)) := PXd.any (pe_int.weak fun _ _ _ ⟨_, _, _, _, _, q1, q2⟩ => by cases q1; exact q2.here rp_int)
theorem xbl {b : Bool} {j pos} : PXd m X (.Constant (.bool b) j pos) (dC (.bl b)) := PXd.any (pe_bl.weak fun _ _ _ ⟨_, _, _, _, _, q1, q2⟩ => by cases q1; exact q2.here rp_bl)
theorem xnon {j pos} : PXd m X (.Constant .none j pos) (dC .non) := PXd.any (pe_non.weak fun _ _ _ ⟨_, _, _, _, _, q1, q2⟩ => by cases q1; exact q2.here rp_non)
theorem xstr {x : Str} {j pos} (h : SOk x := by decide +kernel) : PXd m X (.Constant (.str x) j pos) (dC (.str x)) := PXd.any (pe_str.weak fun _ _ _ ⟨_, _, _, _, _, q1, q2⟩ => by cases q1; exact q2.here (rp_str h))
theorem xglob {x : Str} {v : V} {u : Value} {d : Dat} {pos : Pos} (hg : Gl X x) (hm : X.mg x = some u) (r : RelV v u) (hr : ∀ H, Rp X.K H d v) (hd : (x == ("__debug__" : Str)) = false := by decide) : PXd m X (.Name x pos) (dC d) :=
  PXd.any ((pe_glob hg hm r hd).weak fun _ _ _ ⟨_, _, _, _, _, q1, q2⟩ => by cases q1; exact q2.here (hr _))
end
noncomputable def rD (K : PySem.W.Frag) (F : Dat → Dat → Option Dat) : R2 := fun v u H Q => ∃ A x y d, MuOk A H ∧ F x y = some d ∧ Pk K A H x v ∧ Pk K A H y u ∧ RegC false K A H d Q
noncomputable def rN (K : PySem.W.Frag) (F : Dat → Dat → Option (List Dat)) : R2 := fun v u H Q => ∃ A x y ds, MuOk A H ∧ F x y = some ds ∧ Pk K A H x v ∧ Pk K A H y u ∧ NewC K A H ds Q
noncomputable def OpD (X : Cx) (f : Value → Value → Sem Value) (F : Dat → Dat → Option Dat) : Prop := OpR X f (rD X.K F)
noncomputable def OpN (X : Cx) (f : Value → Value → Sem Value) (F : Dat → Dat → Option (List Dat)) : Prop := OpR X f (rN X.K F)
theorem OpR.weak {X : Cx} {f : Value → Value → Sem Value} {r r' : R2} (h : OpR X f r) (w : ∀ x y H Q, r' x y H Q → r x y H Q) : OpR X f r' := fun pins s σ H x y v u Q I rx ry q => h pins s σ H x y v u Q I rx ry (w _ _ _ _ q)
theorem OpN.d {X : Cx} {f : Value → Value → Sem Value} {F : Dat → Dat → Option (List Dat)} (h : OpN X f F) : OpD X f (fun x y => (F x y).map .lst) := OpR.weak h fun v u H Q zz => by
  obtain ⟨A, x, y, d, mu, e, p1, p2, q⟩ := zz
  dsimp only at e
  cases z : F x y with
  | none => rw [z] at e; cases e
  | some ds => rw [z] at e; cases e; exact ⟨A, x, y, ds, mu, z, p1, p2, q.new mu⟩
noncomputable def dO (F : Dat → Dat → Option α) (f g : Ev → Option Dat) : Ev → Option α := fun env => (f env).bind fun x => (g env).bind fun y => F x y
section
variable {m m1 m2 : Bool} {X : Cx} {a b : Expr} {f g : Ev → Option Dat} {F : Dat → Dat → Option Dat} {G : Dat → Dat → Option (List Dat)} {pos : Pos}
theorem two {r : R2} {σ : St} {H : Hp} {Q : VK} {env : Ev} {R : Bs} {A : AS} {x y : Dat} (k : EnvOk X.K R A H σ env) (e1 : f env = some x) (e2 : g env = some y)
    (h : ∀ v u H2, Same H H2 → Pk X.K A H2 x v → Pk X.K A H2 y u → MuOk A H2 → r v u H2 Q) :
    tOp r (fun σ H Q => ∃ env R A d, EnvOk X.K R A H σ env ∧ f env = some d ∧ RegC m1 X.K A H d Q) (fun σ H Q => ∃ env R A d, EnvOk X.K R A H σ env ∧ g env = some d ∧ RegC m2 X.K A H d Q) σ H Q :=
  ⟨env, R, A, x, k, e1, fun v H1 s1 p1 => ⟨env, R, A, y, k.mono s1, e2, fun u H2 s2 p2 => h v u H2 (s1.trans s2) (p1.pk.mono s2) p2.pk (k.mu.mono (s1.trans s2))⟩⟩
theorem dO_some {α : Type} {F : Dat → Dat → Option α} {env : Ev} {d : α} (h : dO F f g env = some d) : ∃ x y, f env = some x ∧ g env = some y ∧ F x y = some d := by
  obtain ⟨x, e1, h⟩ := bind_some h
  obtain ⟨y, e2, h⟩ := bind_some h
  exact ⟨x, y, e1, e2, h⟩
theorem xop {op : Operator} (ho : OpD X (binaryOp op) F) (ha : PXd m1 X a f) (hb : PXd m2 X b g) : PXd m X (.BinOp a op b pos) (dO F f g) := PXd.any ((pe_op ho ha hb).weak fun σ H Q zz => by
  obtain ⟨env, R, A, d, k, q1, q2⟩ := zz
  obtain ⟨x, y, e1, e2, e3⟩ := dO_some q1
  exact two k e1 e2 fun v u H2 s p1 p2 mu => ⟨A, x, y, d, mu, e3, p1, p2, q2.mono s⟩)
theorem xcmp {op : CmpOp} (ho : OpD X (compareOp op) F) (ha : PXd m1 X a f) (hb : PXd m2 X b g) (hm : behindInMarks op b = false) : PXd m X (.Compare a [op] [b] pos) (dO F f g) := PXd.any ((pe_cmpR ho ha hb hm).weak fun σ H Q zz => by
  obtain ⟨env, R, A, d, k, q1, q2⟩ := zz
  obtain ⟨x, y, e1, e2, e3⟩ := dO_some q1
  exact two k e1 e2 fun v u H2 s p1 p2 mu => ⟨A, x, y, d, mu, e3, p1, p2, q2.mono s⟩)
noncomputable def dB (f : Ev → Option Dat) : Ev → Option Bool := fun env => match f env with
  | some (.bl b) => some b
  | _ => none
theorem dB_some {env : Ev} {b : Bool} (h : dB f env = some b) : f env = some (.bl b) := by
  unfold dB at h
  split at h
  · rename_i z e; cases h; exact e
  · cases h
theorem tcmp {op : CmpOp} (ho : OpD X (compareOp op) F) (ha : PXd m1 X a f) (hb : PXd m2 X b g) (hm : behindInMarks op b = false) : PTd X (.Compare a [op] [b] pos) (dB (dO F f g)) := (pt_cmpR ho ha hb hm).weak fun σ H Q zz => by
  obtain ⟨env, R, A, d, k, q1, q2⟩ := zz
  obtain ⟨x, y, e1, e2, e3⟩ := dO_some (dB_some q1)
  show tOp (rD X.K F) _ _ σ H (fun x H' => ∃ k, x = .bl k ∧ Q k H')
  exact two k e1 e2 fun v u H2 s p1 p2 mu => ⟨A, x, y, .bl d, mu, e3, p1, p2, fun v H' s' r => ⟨d, r.pk.bl, q2 H' (s.trans s')⟩⟩
theorem xix (ho : IxR X (rD X.K F)) (ha : PXd m1 X a f) (hb : PXd m2 X b g) (hs : PlainIx b) : PXd m X (.Subscript a b pos) (dO F f g) := PXd.any ((pe_ix ho ha hb hs).weak fun σ H Q zz => by
  obtain ⟨env, R, A, d, k, q1, q2⟩ := zz
  obtain ⟨x, y, e1, e2, e3⟩ := dO_some q1
  exact two k e1 e2 fun v u H2 s p1 p2 mu => ⟨A, x, y, d, mu, e3, p1, p2, q2.mono s⟩)
end
section
variable {m m1 m2 : Bool} {X : Cx} {a b c : Expr} {rest : List Expr} {f g h : Ev → Option Dat} {t u : Ev → Option Bool} {pos : Pos}
noncomputable def tAndD (t u : Ev → Option Bool) : Ev → Option Bool := fun env => (t env).bind fun b => if b = true then u env else some false
noncomputable def tOrD (t u : Ev → Option Bool) : Ev → Option Bool := fun env => (t env).bind fun b => if b = true then some true else u env
noncomputable def tNotD (t : Ev → Option Bool) : Ev → Option Bool := fun env => (t env).map (!·)
theorem w_and1 (ha : PTd X a t) : PWd X (.BoolOp .And [a] pos) t := pw_and1 ha
theorem w_or1 (ha : PTd X a t) : PWd X (.BoolOp .Or [a] pos) t := pw_or1 ha
theorem w_and (ha : PTd X a t) (hb : PWd X (.BoolOp .And (b :: rest) pos) u) : PWd X (.BoolOp .And (a :: b :: rest) pos) (tAndD t u) := (pw_and ha hb).weak fun σ H Q zz => by
  obtain ⟨env, R, A, d, k, q1, q2⟩ := zz
  obtain ⟨x, e1, e2⟩ := bind_some q1
  refine ⟨env, R, A, x, k, e1, fun H1 s1 => ?_⟩
  cases x with
  | true =>
    rw [if_pos rfl] at e2 ⊢
    exact ⟨env, R, A, d, k.mono s1, e2, fun H2 s2 => q2 H2 (s1.trans s2)⟩
  | false =>
    rw [if_neg Bool.false_ne_true] at e2 ⊢
    cases e2
    exact q2 H1 s1
theorem w_or (ha : PTd X a t) (hb : PWd X (.BoolOp .Or (b :: rest) pos) u) : PWd X (.BoolOp .Or (a :: b :: rest) pos) (tOrD t u) := (pw_or ha hb).weak fun σ H Q zz => by
  obtain ⟨env, R, A, d, k, q1, q2⟩ := zz
  obtain ⟨x, e1, e2⟩ := bind_some q1
  refine ⟨env, R, A, x, k, e1, fun H1 s1 => ?_⟩
  cases x with
  | true =>
    rw [if_pos rfl] at e2 ⊢
    cases e2
    exact q2 H1 s1
  | false =>
    rw [if_neg Bool.false_ne_true] at e2 ⊢
    exact ⟨env, R, A, d, k.mono s1, e2, fun H2 s2 => q2 H2 (s1.trans s2)⟩
theorem PWd.pt {e : Expr} (h : PWd X e t) : PTd X e t := PW.pt h
theorem tnot (ha : PTd X a t) : PTd X (.UnaryOp .Not a pos) (tNotD t) := (pt_not ha).weak fun σ H Q zz => by
  obtain ⟨env, R, A, d, k, q1, q2⟩ := zz
  unfold tNotD at q1
  cases e : t env with
  | none => rw [e] at q1; cases q1
  | some x =>
    rw [e] at q1
    cases q1
    exact ⟨env, R, A, x, k, e, fun H1 s1 => q2 H1 s1⟩
noncomputable def dAnd (f g : Ev → Option Dat) : Ev → Option Dat := fun env => (dB f env).bind fun b => if b = true then g env else some (.bl false)
noncomputable def dNot (f : Ev → Option Dat) : Ev → Option Dat := fun env => (dB f env).map fun b => .bl (!b)
theorem xone {op} (ha : PXd m X a f) : PXd m X (.BoolOp op [a] pos) f := pe_one ha
theorem xand (ha : PXd m1 X a f) (hb : PXd false X (.BoolOp .And (b :: rest) pos) g) : PXd m X (.BoolOp .And (a :: b :: rest) pos) (dAnd f g) := PXd.any ((pe_and ha hb).weak fun σ H Q zz => by
  obtain ⟨env, R, A, d, k, q1, q2⟩ := zz
  obtain ⟨x, e1, e2⟩ := bind_some q1
  refine ⟨env, R, A, .bl x, k, dB_some e1, fun v H1 s1 p1 => ⟨x, p1.pk.bl, ?_⟩⟩
  cases x with
  | true =>
    rw [if_pos rfl] at e2 ⊢
    exact ⟨env, R, A, d, k.mono s1, e2, q2.mono s1⟩
  | false =>
    rw [if_neg Bool.false_ne_true] at e2 ⊢
    cases e2
    exact (q2.mono s1).here rp_bl)
theorem xnot (ha : PXd m1 X a f) : PXd m X (.UnaryOp .Not a pos) (dNot f) := PXd.any ((pe_not ha).weak fun σ H Q zz => by
  obtain ⟨env, R, A, d, k, q1, q2⟩ := zz
  unfold dNot at q1
  cases e : dB f env with
  | none => rw [e] at q1; cases q1
  | some x =>
    rw [e] at q1
    cases q1
    exact ⟨env, R, A, .bl x, k, dB_some e, fun v H1 s1 p1 => ⟨x, p1.pk.bl, (q2.mono s1).here rp_bl⟩⟩)
noncomputable def dIf (t : Ev → Option Bool) (f g : Ev → Option Dat) : Ev → Option Dat := fun env => (t env).bind fun b => if b = true then f env else g env
theorem xif (hc : PTd X c t) (ha : PXd m X a f) (hb : PXd m X b g) : PXd m X (.IfExp c a b pos) (dIf t f g) := (pe_ifExp hc ha hb).weak fun σ H Q zz => by
  obtain ⟨env, R, A, d, k, q1, q2⟩ := zz
  obtain ⟨x, e1, e2⟩ := bind_some q1
  refine ⟨env, R, A, x, k, e1, fun H1 s1 => ?_⟩
  cases x with
  | true =>
    rw [if_pos rfl] at e2 ⊢
    exact ⟨env, R, A, d, k.mono s1, e2, q2.mono s1⟩
  | false =>
    rw [if_neg Bool.false_ne_true] at e2 ⊢
    exact ⟨env, R, A, d, k.mono s1, e2, q2.mono s1⟩
noncomputable def truD : Dat → Option Bool
  | .non => some false
  | .bl b => some b
  | .int i => some (i != 0)
  | .str y => some ((y.length : Int) != 0)
  | .lst xs => some (!xs.isEmpty)
  | .tup xs => some (!xs.isEmpty)
  | _ => none
noncomputable def dT (f : Ev → Option Dat) : Ev → Option Bool := fun env => (f env).bind truD
theorem rps_isEmpty {K : PySem.W.Frag} {H : Hp} {ds : List Dat} {vs : List V} (r : Rps K H ds vs) : vs.isEmpty = ds.isEmpty := by
  cases ds with
  | nil => rw [rps_of_nil r]; rfl
  | cons d ds => obtain ⟨v, r', e, _⟩ := rps_of_cons r; rw [e]; rfl
theorem tval (ha : PXd true X a f) (he : ∀ whole, isTrue a X.env whole = (do let v ← whole; standAt a.pos; holding [v] (truthy v)) := by intro _; rfl) : PTd X a (dT f) := (pt_truth ha he).weak fun σ H Q zz => by
  obtain ⟨env, R, A, b, k, q1, q2⟩ := zz
  obtain ⟨x, e1, e2⟩ := bind_some q1
  refine ⟨env, R, A, x, k, e1, fun v H1 s1 p1 => ⟨b, ?_, q2 H1 s1⟩⟩
  have p : Pk X.K A H1 x v := p1
  cases x with
  | non => cases e2; rw [p.non]; rfl
  | bl b' => cases e2; rw [p.bl]; rfl
  | int i => cases e2; rw [p.int]; rfl
  | str y => cases e2; obtain ⟨e, h⟩ := p.str; rw [e]; exact ⟨h.le, rfl⟩
  | lst xs => cases e2; obtain ⟨a', vs, e, h1, h2⟩ := p.lst; rw [e]; exact .inl ⟨vs, h1.sq, by rw [rps_isEmpty h2]⟩
  | tup xs => cases e2; obtain ⟨a', vs, e, h1, h2⟩ := p.tup; rw [e]; exact .inr (.inl ⟨vs, h1, by rw [rps_isEmpty h2]⟩)
  | dct _ => cases e2
  | exc _ _ => cases e2
end
section
variable {m : Bool} {X : Cx} {e : Expr} {es : List Expr} {f : Ev → Option Dat} {fs : Ev → Option (List Dat)} {pos : Pos}
noncomputable def aNil : Ev → Option (List Dat) := fun _ => some []
noncomputable def aCons (f : Ev → Option Dat) (fs : Ev → Option (List Dat)) : Ev → Option (List Dat) := fun env => (f env).bind fun d => (fs env).map fun ds => d :: ds
theorem a_nil : PAd m X [] aNil := pa_nil.weak fun σ H Q ⟨env, R, A, ds, k, q1, q2⟩ => by cases q1; exact q2 [] H (Same.refl H) rfl
theorem a_cons (ha : PXd m X e f) (hr : PAd m X es fs) (hs : starEach (e :: es) X.env = (false, eval e X.env) :: starEach es X.env := by rfl) : PAd m X (e :: es) (aCons f fs) := (pa_cons ha hr hs).weak fun σ H Q zz => by
  obtain ⟨env, R, A, ds, k, q1, q2⟩ := zz
  obtain ⟨d, e1, e2⟩ := bind_some q1
  cases e3 : fs env with
  | none => rw [e3] at e2; cases e2
  | some r =>
    rw [e3] at e2
    cases e2
    exact ⟨env, R, A, d, k, e1, fun v H1 s1 p1 => ⟨env, R, A, r, k.mono s1, e3, fun vs H2 s2 p2 => q2 (v :: vs) H2 (s1.trans s2) ⟨v, vs, rfl, p1.mono s2, p2⟩⟩⟩
noncomputable def aTup (fs : Ev → Option (List Dat)) : Ev → Option Dat := fun env => (fs env).bind fun ds => if ds.length ≤ 1000 then some (.tup ds) else none
noncomputable def aLst (fs : Ev → Option (List Dat)) : Ev → Option (List Dat) := fun env => (fs env).bind fun ds => if ds.length ≤ 1000 then some ds else none
theorem xtup {x1} (h : PAd false X es fs) : PXd m X (.Tuple es x1 pos) (aTup fs) := PXd.any ((pe_tup h).weak fun σ H Q zz => by
  obtain ⟨env, R, A, d, k, q1, q2⟩ := zz
  obtain ⟨ds, e1, e2⟩ := bind_some q1
  split at e2
  · rename_i hz
    cases e2
    have hz' : ds.length ≤ sizeLine := Nat.le_of_lt (small1000 hz)
    refine ⟨env, R, A, ds, k, e1, fun vs H1 s1 p1 => ⟨?_, (q2.mono s1).tup (k.mu.mono s1) hz' p1.rps⟩⟩
    rw [rps_len p1.rps]; exact hz'
  · cases e2)
theorem nlst (h : PAd false X es fs) : PNd X (.List es pos) (aLst fs) := (pe_lst h).weak fun σ H Q zz => by
  obtain ⟨env, R, A, d, k, q1, q2⟩ := zz
  obtain ⟨ds, e1, e2⟩ := bind_some q1
  split at e2
  · rename_i hz
    cases e2
    have hz' : d.length ≤ sizeLine := Nat.le_of_lt (small1000 hz)
    refine ⟨env, R, A, d, k, e1, fun vs H1 s1 p1 => ⟨?_, (q2.mono s1).at hz' p1.rps⟩⟩
    rw [rps_len p1.rps]; exact hz'
  · cases e2
noncomputable def CallD (X : Cx) (f : Value) (F : List Dat → Option Dat) : Prop := CallR X f (fun vs H Q => ∃ A ds d, MuOk A H ∧ F ds = some d ∧ Rms true X.K A H ds vs ∧ RegC false X.K A H d Q)
noncomputable def CallN (X : Cx) (f : Value) (F : List Dat → Option (List Dat)) : Prop := CallR X f (fun vs H Q => ∃ A ds d, MuOk A H ∧ F ds = some d ∧ Rms true X.K A H ds vs ∧ NewC X.K A H d Q)
theorem CallR.weak {f : Value} {r r' : List V → Hp → VK → Prop} (h : CallR X f r) (w : ∀ xs H Q, r' xs H Q → r xs H Q) : CallR X f r' := fun pins s σ H xs us Q I rv q => h pins s σ H xs us Q I rv (w _ _ _ q)
noncomputable def dF (F : List Dat → Option α) (fs : Ev → Option (List Dat)) : Ev → Option α := fun env => (fs env).bind F
variable {x : Str} {p : Pos} {id T : String} {F : List Dat → Option Dat} {G : List Dat → Option (List Dat)}
theorem xcallB (hc : CallD X (.builtin id) F) (hg : Gl X x) (hm : X.mg x = none) (hv : bootBuiltins x = some (.builtin id)) (ha : PAd true X (e :: es) fs) (hn : x ≠ "__name__" := by decide) (hdb : (x == ("__debug__" : Str)) = false := by decide)
    (he : starEach (e :: es) X.env = (false, eval e X.env) :: starEach es X.env := by rfl) (hpl : (backTo pos (starEach es X.env)).any (·.1) = false := by rfl) : PXd m X (.Call (.Name x p) (e :: es) [] pos) (dF F fs) :=
  PXd.any ((pe_callB hc hg hm hv ha hn hdb he hpl).weak fun σ H Q zz => by
    obtain ⟨env, R, A, d, k, q1, q2⟩ := zz
    obtain ⟨ds, e1, e2⟩ := bind_some q1
    exact ⟨env, R, A, ds, k, e1, fun vs H1 s1 p1 => ⟨A, ds, d, k.mu.mono s1, e2, p1, q2.mono s1⟩⟩)
theorem xcallT (hc : CallD X (.type T) F) (hg : Gl X x) (hm : X.mg x = none) (hv : bootBuiltins x = some (.type T)) (ha : PAd true X (e :: es) fs) (hn : x ≠ "__name__" := by decide) (hdb : (x == ("__debug__" : Str)) = false := by decide)
    (he : starEach (e :: es) X.env = (false, eval e X.env) :: starEach es X.env := by rfl) (hpl : (backTo pos (starEach es X.env)).any (·.1) = false := by rfl) : PXd m X (.Call (.Name x p) (e :: es) [] pos) (dF F fs) :=
  PXd.any ((pe_callTy hc hg hm hv ha hn hdb he hpl).weak fun σ H Q zz => by
    obtain ⟨env, R, A, d, k, q1, q2⟩ := zz
    obtain ⟨ds, e1, e2⟩ := bind_some q1
    exact ⟨env, R, A, ds, k, e1, fun vs H1 s1 p1 => ⟨A, ds, d, k.mu.mono s1, e2, p1, q2.mono s1⟩⟩)
theorem ncallB (hc : CallN X (.builtin id) G) (hg : Gl X x) (hm : X.mg x = none) (hv : bootBuiltins x = some (.builtin id)) (ha : PAd true X (e :: es) fs) (hn : x ≠ "__name__" := by decide) (hdb : (x == ("__debug__" : Str)) = false := by decide)
    (he : starEach (e :: es) X.env = (false, eval e X.env) :: starEach es X.env := by rfl) (hpl : (backTo pos (starEach es X.env)).any (·.1) = false := by rfl) : PNd X (.Call (.Name x p) (e :: es) [] pos) (dF G fs) :=
  (pe_callB hc hg hm hv ha hn hdb he hpl).weak fun σ H Q zz => by
    obtain ⟨env, R, A, d, k, q1, q2⟩ := zz
    obtain ⟨ds, e1, e2⟩ := bind_some q1
    exact ⟨env, R, A, ds, k, e1, fun vs H1 s1 p1 => ⟨A, ds, d, k.mu.mono s1, e2, p1, q2.mono s1⟩⟩
end
section
variable {m m1 : Bool} {X : Cx} {o e : Expr} {es : List Expr} {f : Ev → Option Dat} {fs : Ev → Option (List Dat)} {pos apos cpos : Pos} {name : Str} {T id : String} {α : Type}
noncomputable def tyOk (T : String) : Dat → Bool
  | .str _ => T == "str"
  | .int _ => T == "int"
  | .lst _ => T == "list"
  | _ => false
theorem tyOk_v {K : PySem.W.Frag} {A : AS} {H : Hp} {d : Dat} {v : V} (h : tyOk T d = true) (p : Pk K A H d v) : tyV K T v H := by
  cases d with
  | str x => rw [p.str.1]; show T = "str"; simpa [tyOk] using h
  | int x => rw [p.int]; show T = "int"; simpa [tyOk] using h
  | lst x => obtain ⟨a, vs, e, h1, h2⟩ := p.lst; rw [e]; exact .inl ⟨by simpa [tyOk] using h, vs, h1.sq⟩
  | _ => cases h
noncomputable def MtD (X : Cx) (id : String) (F : Dat → List Dat → Option Dat) : Prop := MtR X id (fun v vs H Q => ∃ A x ds d, MuOk A H ∧ F x ds = some d ∧ Pk X.K A H x v ∧ Rms true X.K A H ds vs ∧ RegC false X.K A H d Q)
noncomputable def MtN (X : Cx) (id : String) (F : Dat → List Dat → Option (List Dat)) : Prop := MtR X id (fun v vs H Q => ∃ A x ds d, MuOk A H ∧ F x ds = some d ∧ Pk X.K A H x v ∧ Rms true X.K A H ds vs ∧ NewC X.K A H d Q)
noncomputable def dM (T : String) (F : Dat → List Dat → Option α) (f : Ev → Option Dat) (fs : Ev → Option (List Dat)) : Ev → Option α := fun env => (f env).bind fun x => if tyOk T x = true then (fs env).bind fun ds => F x ds else none
theorem dM_some {F : Dat → List Dat → Option α} {env : Ev} {d : α} (h : dM T F f fs env = some d) : ∃ x ds, f env = some x ∧ tyOk T x = true ∧ fs env = some ds ∧ F x ds = some d := by
  obtain ⟨x, e1, h⟩ := bind_some h
  split at h
  · rename_i ht
    obtain ⟨ds, e2, h⟩ := bind_some h
    exact ⟨x, ds, e1, ht, e2, h⟩
  · cases h
theorem MtR.weak {r r' : V → List V → Hp → VK → Prop} (h : MtR X id r) (w : ∀ x xs H Q, r' x xs H Q → r x xs H Q) : MtR X id r' := fun pins s σ H x xs v us Q I rx rv q => h pins s σ H x xs v us Q I rx rv (w _ _ _ _ q)
variable {F : Dat → List Dat → Option Dat} {G : Dat → List Dat → Option (List Dat)}
theorem xbm (pa : PlainAttrs T) (slot : Slot T name id) (hty : typeOf (.builtin id) = pure (.type "method_descriptor")) (hm : MtD X id F) (ho : PXd m1 X o f) (ha : PAd true X (e :: es) fs)
    (hbase : attributeBase o name X.env (eval o X.env) = eval o X.env := by rfl)
    (hfew : ((backTo cpos (starEach (e :: es) X.env)).all (fun x => !x.1) && (backToKw cpos (keywordEach [] X.env)).all (fun x => x.1.isSome)
      && decide ((e :: es).length + ([] : List Keyword).length + (if ([] : List Keyword).isEmpty then 0 else 1) < 30)) = true := by rfl)
    (hline : (apos.endLine == cpos.line) = true := by rfl) (hs : starEach (e :: es) X.env = (false, eval e X.env) :: starEach es X.env := by rfl) (hplain : (backTo cpos (starEach es X.env)).any (·.1) = false := by rfl) :
    PXd m X (.Call (.Attribute o name apos) (e :: es) [] cpos) (dM T F f fs) := PXd.any ((pe_bm pa slot hty hm ho ha hbase hfew hline hs hplain).weak fun σ H Q zz => by
  obtain ⟨env, R, A, d, k, q1, q2⟩ := zz
  obtain ⟨x, ds, e1, ht, e2, e3⟩ := dM_some q1
  exact ⟨env, R, A, x, k, e1, fun v H1 s1 p1 => ⟨tyOk_v ht p1.pk, env, R, A, ds, k.mono s1, e2, fun vs H2 s2 p2 => ⟨A, x, ds, d, k.mu.mono (s1.trans s2), e3, p1.pk.mono s2, p2, q2.mono (s1.trans s2)⟩⟩⟩)
theorem nbm (pa : PlainAttrs T) (slot : Slot T name id) (hty : typeOf (.builtin id) = pure (.type "method_descriptor")) (hm : MtN X id G) (ho : PXd m1 X o f) (ha : PAd true X (e :: es) fs)
    (hbase : attributeBase o name X.env (eval o X.env) = eval o X.env := by rfl)
    (hfew : ((backTo cpos (starEach (e :: es) X.env)).all (fun x => !x.1) && (backToKw cpos (keywordEach [] X.env)).all (fun x => x.1.isSome)
      && decide ((e :: es).length + ([] : List Keyword).length + (if ([] : List Keyword).isEmpty then 0 else 1) < 30)) = true := by rfl)
    (hline : (apos.endLine == cpos.line) = true := by rfl) (hs : starEach (e :: es) X.env = (false, eval e X.env) :: starEach es X.env := by rfl) (hplain : (backTo cpos (starEach es X.env)).any (·.1) = false := by rfl) :
    PNd X (.Call (.Attribute o name apos) (e :: es) [] cpos) (dM T G f fs) := (pe_bm pa slot hty hm ho ha hbase hfew hline hs hplain).weak fun σ H Q zz => by
  obtain ⟨env, R, A, d, k, q1, q2⟩ := zz
  obtain ⟨x, ds, e1, ht, e2, e3⟩ := dM_some q1
  exact ⟨env, R, A, x, k, e1, fun v H1 s1 p1 => ⟨tyOk_v ht p1.pk, env, R, A, ds, k.mono s1, e2, fun vs H2 s2 p2 => ⟨A, x, ds, d, k.mu.mono (s1.trans s2), e3, p1.pk.mono s2, p2, q2.mono (s1.trans s2)⟩⟩⟩
noncomputable def dM0 (T : String) (F : Dat → List Dat → Option α) (f : Ev → Option Dat) : Ev → Option α := fun env => (f env).bind fun x => if tyOk T x = true then F x [] else none
theorem xbm0 (pa : PlainAttrs T) (slot : Slot T name id) (hty : typeOf (.builtin id) = pure (.type "method_descriptor")) (hm : MtD X id F) (ho : PXd m1 X o f)
    (hbase : attributeBase o name X.env (eval o X.env) = eval o X.env := by rfl) (hline : (apos.endLine == cpos.line) = true := by rfl) : PXd m X (.Call (.Attribute o name apos) [] [] cpos) (dM0 T F f) :=
  PXd.any ((pe_bm0 pa slot hty hm ho hbase hline).weak fun σ H Q zz => by
  obtain ⟨env, R, A, d, k, q1, q2⟩ := zz
  obtain ⟨x, e1, h⟩ := bind_some q1
  split at h
  · rename_i ht
    exact ⟨env, R, A, x, k, e1, fun v H1 s1 p1 => ⟨tyOk_v ht p1.pk, A, x, [], d, k.mu.mono s1, h, p1.pk, rfl, q2.mono s1⟩⟩
  · cases h)
noncomputable def POd (X : Cx) (e : Option Expr) (f : Ev → Option (Option Int)) : Prop := PO X e fun σ H Q => ∃ env R A i, EnvOk X.K R A H σ env ∧ f env = some i ∧ ∀ H', Same H H' → Q i H'
noncomputable def oNone : Ev → Option (Option Int) := fun _ => some none
noncomputable def oSome (f : Ev → Option Dat) : Ev → Option (Option Int) := fun env => match f env with
  | some (.int i) => some (some i)
  | _ => none
theorem PO.weak {e : Option Expr} {t t' : TO} (h : PO X e t) (w : ∀ σ H Q, t' σ H Q → t σ H Q) : PO X e t' := fun pins s σ H Q I q => h pins s σ H Q I (w σ H Q q)
theorem o_none : POd X none oNone := po_none.weak fun σ H Q ⟨env, R, A, i, k, q1, q2⟩ => by cases q1; exact q2 H (Same.refl H)
theorem o_some (h : PXd m X e f) : POd X (some e) (oSome f) := (po_some h).weak fun σ H Q zz => by
  obtain ⟨env, R, A, i, k, q1, q2⟩ := zz
  unfold oSome at q1
  split at q1
  · rename_i n e1
    cases q1
    exact ⟨env, R, A, _, k, e1, fun v H1 s1 p1 => ⟨n, p1.pk.int, q2 H1 s1⟩⟩
  · cases q1
noncomputable def SlD (X : Cx) (F : Dat → Option Int → Option Int → Option Dat) : Prop := SlR X (fun v lo hi H Q => ∃ A x d, MuOk A H ∧ F x lo hi = some d ∧ Pk X.K A H x v ∧ RegC false X.K A H d Q)
noncomputable def dS (F : Dat → Option Int → Option Int → Option α) (f : Ev → Option Dat) (g h : Ev → Option (Option Int)) : Ev → Option α := fun env => (f env).bind fun x => (g env).bind fun l => (h env).bind fun u => F x l u
variable {lo hi : Option Expr} {gl gh : Ev → Option (Option Int)} {p2 : Pos}
theorem dS_some {F : Dat → Option Int → Option Int → Option α} {env : Ev} {d : α} (h : dS F f gl gh env = some d) : ∃ x l u, f env = some x ∧ gl env = some l ∧ gh env = some u ∧ F x l u = some d := by
  obtain ⟨x, e1, h⟩ := bind_some h
  obtain ⟨l, e2, h⟩ := bind_some h
  obtain ⟨u, e3, h⟩ := bind_some h
  exact ⟨x, l, u, e1, e2, e3, h⟩
theorem xslice {F : Dat → Option Int → Option Int → Option Dat} (hr : SlD X F) (he : PXd m1 X e f) (hl : POd X lo gl) (hu : POd X hi gh) : PXd m X (.Subscript e (.Slice lo hi none p2) pos) (dS F f gl gh) := PXd.any ((pe_slice hr he hl hu).weak fun σ H Q zz => by
  obtain ⟨env, R, A, d, k, q1, q2⟩ := zz
  obtain ⟨x, l, u, e1, e2, e3, e4⟩ := dS_some q1
  exact ⟨env, R, A, x, k, e1, fun v H1 s1 p1 => ⟨env, R, A, l, k.mono s1, e2, fun H2 s2 => ⟨env, R, A, u, k.mono (s1.trans s2), e3, fun H3 s3 => ⟨A, x, d, k.mu.mono ((s1.trans s2).trans s3), e4, p1.pk.mono (s2.trans s3), q2.mono ((s1.trans s2).trans s3)⟩⟩⟩⟩)
noncomputable def UnD (X : Cx) (g : Value → Sem Value) (F : Dat → Option Dat) : Prop := UnR X g (fun v H Q => ∃ A x d, MuOk A H ∧ F x = some d ∧ Pk X.K A H x v ∧ RegC false X.K A H d Q)
noncomputable def dU (F : Dat → Option Dat) (f : Ev → Option Dat) : Ev → Option Dat := fun env => (f env).bind F
theorem xun {op : UnaryOp} {F : Dat → Option Dat} (ho : UnD X (unaryOp op) F) (ha : PXd m1 X e f) : PXd m X (.UnaryOp op e pos) (dU F f) := PXd.any ((pe_un ho ha).weak fun σ H Q zz => by
  obtain ⟨env, R, A, d, k, q1, q2⟩ := zz
  obtain ⟨x, e1, e2⟩ := bind_some q1
  exact ⟨env, R, A, x, k, e1, fun v H1 s1 p1 => ⟨A, x, d, k.mu.mono s1, e2, p1.pk, q2.mono s1⟩⟩)
end
end L2
namespace L2
open PySem PySem.Spec PyProof.Rows
section
variable {X : Cx}
noncomputable def iop (C : Int → Int → Prop) [∀ i j, Decidable (C i j)] (g : Int → Int → Dat) : Dat → Dat → Option Dat
  | .int i, .int j => if C i j then some (g i j) else none
  | _, _ => none
theorem op_i {f : Value → Value → Sem Value} {C : Int → Int → Prop} [∀ i j, Decidable (C i j)] {g : Int → Int → V} {G : Int → Int → Dat} (h : OpR X f (rI C g)) (hg : ∀ K H i j, Rp K H (G i j) (g i j)) : OpD X f (iop C G) := h.weak fun v u H Q zz => by
  obtain ⟨A, x, y, d, mu, e, p1, p2, q⟩ := zz
  unfold iop at e
  split at e
  · rename_i i j
    split at e
    · rename_i hc
      cases e
      exact ⟨i, j, p1.int, p2.int, hc, q.here (hg _ _ _ _)⟩
    · cases e
  · cases e
theorem op_i0 {f : Value → Value → Sem Value} {g : Int → Int → V} {G : Int → Int → Dat} (h : OpR X f (rI0 g)) (hg : ∀ K H i j, Rp K H (G i j) (g i j)) : OpD X f (iop (fun _ _ => True) G) := h.weak fun v u H Q zz => by
  obtain ⟨A, x, y, d, mu, e, p1, p2, q⟩ := zz
  unfold iop at e
  split at e
  · rename_i i j
    rw [if_pos trivial] at e
    cases e
    exact ⟨i, j, p1.int, p2.int, q.here (hg _ _ _ _)⟩
  · cases e
noncomputable instance : ∀ i j, Decidable (CMul i j) := fun i j => by unfold CMul; infer_instance
noncomputable instance : ∀ i j, Decidable (CDiv i j) := fun i j => by unfold CDiv; infer_instance
noncomputable instance : ∀ i j, Decidable (CPow i j) := fun i j => by unfold CPow; infer_instance
noncomputable def fdivD := iop CDiv fun i j => .int (i / j)
noncomputable def modD := iop (fun _ j => 0 < j) fun i j => .int (i % j)
noncomputable def powD := iop CPow fun i j => .int (i ^ j.toNat)
noncomputable def shlD := iop CPow fun i j => .int (i * 2 ^ j.toNat)
noncomputable def shrD := iop (fun _ j => 0 ≤ j) fun i j => .int (i / 2 ^ j.toNat)
noncomputable def andD := iop (fun _ _ => True) fun i j => .int (Builtin.bitAnd i j)
noncomputable def orD := iop (fun _ _ => True) fun i j => .int (Builtin.bitOr i j)
noncomputable def ltD := iop (fun _ _ => True) fun i j => .bl (decide (i < j))
noncomputable def leD := iop (fun _ _ => True) fun i j => .bl (decide (i ≤ j))
noncomputable def gtD := iop (fun _ _ => True) fun i j => .bl (decide (j < i))
theorem o_fdiv : OpD X (binaryOp .FloorDiv) fdivD := op_i op_fdiv fun _ _ _ _ => rp_int
theorem o_mod : OpD X (binaryOp .Mod) modD := op_i op_mod fun _ _ _ _ => rp_int
theorem o_pow : OpD X (binaryOp .Pow) powD := op_i op_pow fun _ _ _ _ => rp_int
theorem o_shl : OpD X (binaryOp .LShift) shlD := op_i op_shl fun _ _ _ _ => rp_int
theorem o_shr : OpD X (binaryOp .RShift) shrD := op_i op_shr fun _ _ _ _ => rp_int
theorem o_and : OpD X (binaryOp .BitAnd) andD := op_i0 op_and fun _ _ _ _ => rp_int
theorem o_or : OpD X (binaryOp .BitOr) orD := op_i0 op_or fun _ _ _ _ => rp_int
theorem o_lt : OpD X (compareOp .Lt) ltD := op_i0 op_lt fun _ _ _ _ => rp_bl
theorem o_le : OpD X (compareOp .LtE) leD := op_i0 op_le fun _ _ _ _ => rp_bl
theorem o_gt : OpD X (compareOp .Gt) gtD := op_i0 op_gt fun _ _ _ _ => rp_bl
theorem OpD.or {f : Value → Value → Sem Value} {F G E : Dat → Dat → Option Dat} (h : OpD X f F) (h' : OpD X f G) (he : ∀ x y d, E x y = some d → F x y = some d ∨ G x y = some d) : OpD X f E := fun pins s σ H x y v u Q I rx ry zz => by
  obtain ⟨A, a, b, d, mu, e, p1, p2, q⟩ := zz
  rcases he _ _ _ e with e | e
  · exact h pins s σ H x y v u Q I rx ry ⟨A, a, b, d, mu, e, p1, p2, q⟩
  · exact h' pins s σ H x y v u Q I rx ry ⟨A, a, b, d, mu, e, p1, p2, q⟩
noncomputable def negD : Dat → Option Dat
  | .int i => some (.int (-i))
  | _ => none
theorem UnR.weak {f : Value → Sem Value} {r r' : V → Hp → VK → Prop} (h : UnR X f r) (w : ∀ x H Q, r' x H Q → r x H Q) : UnR X f r' := fun pins s σ H x v Q I rx q => h pins s σ H x v Q I rx (w _ _ _ q)
theorem u_neg : UnD X (unaryOp .USub) negD := UnR.weak un_neg fun v H Q zz => by
  obtain ⟨A, x, d, mu, e, p, q⟩ := zz
  unfold negD at e
  split at e
  · cases e; exact ⟨_, p.int, q.here rp_int⟩
  · cases e
theorem strOk_of {x : Str} (h : ∀ c ∈ cl x, c < 0x110000) : PyData.strOk x = true := by
  unfold PyData.strOk
  rw [Array.all_eq_true']
  intro c hc
  exact decide_eq_true (h c (by simpa [cl] using hc))
theorem strOk_at {x : Str} (h : PyData.strOk x = true) : ∀ c ∈ cl x, c < 0x110000 := by
  unfold PyData.strOk at h
  rw [Array.all_eq_true'] at h
  intro c hc
  exact of_decide_eq_true (h c (by simpa [cl] using hc))
theorem strOk_app {x y : Str} (h : PyData.strOk x = true) (k : PyData.strOk y = true) : PyData.strOk (x ++ y) = true := strOk_of fun c hc => by
  rw [cl_app] at hc
  rcases List.mem_append.mp hc with z | z
  · exact strOk_at h c z
  · exact strOk_at k c z
theorem len_app (x y : Str) : (x ++ y).length = x.length + y.length := by rw [← cl_len, cl_app, List.length_append, cl_len, cl_len]
noncomputable def addS : Dat → Dat → Option Dat
  | .str x, .str y => if x.length + y.length ≤ sizeLine then some (.str (x ++ y)) else none
  | _, _ => none
theorem o_addS : OpD X (binaryOp .Add) addS := op_add_str.weak fun v u H Q zz => by
  obtain ⟨A, x, y, d, mu, e, p1, p2, q⟩ := zz
  unfold addS at e
  split at e
  · rename_i i j
    split at e
    · rename_i hz
      cases e
      obtain ⟨e1, k1⟩ := p1.str
      obtain ⟨e2, k2⟩ := p2.str
      exact ⟨i, j, e1, e2, hz, q.here (rp_str (SOk.of (strOk_app k1.ok k2.ok) (by rw [len_app]; exact hz)))⟩
    · cases e
  · cases e
noncomputable def catL : Dat → Dat → Option (List Dat)
  | .lst xs, .lst ys => if xs.length + ys.length ≤ sizeLine then some (xs ++ ys) else none
  | _, _ => none
theorem n_cat : OpN X (binaryOp .Add) catL := fun pins s σ H x y v u Q I rx ry zz => by
  obtain ⟨A, a, b, d, mu, e, p1, p2, q⟩ := zz
  unfold catL at e
  split at e
  · rename_i xs ys
    split at e
    · rename_i hz
      cases e
      obtain ⟨l1, vs, e1, h1, r1⟩ := p1.lst
      obtain ⟨l2, us, e2, h2, r2⟩ := p2.lst
      subst e1 e2
      cases rx
      cases ry
      obtain ⟨its, n, w1, g1, _⟩ := h1.get I
      obtain ⟨its2, n2, w2, g2, _⟩ := h2.get I
      have z1 := w1.length
      have z2 := w2.length
      have z3 := rps_len r1
      have z4 := rps_len r2
      refine PySem.P.add_list g1 g2 ?_ (by rw [List.size_toArray, List.size_toArray]; omega)
      have ea : its.toArray ++ its2.toArray = (its ++ its2).toArray := by simp
      rw [ea]
      exact ⟨.ref _, _, I.lnew (t' := s.toks) (w1.append w2) (by rw [List.length_append]; omega), rfl, q.at (by rw [List.length_append]; exact hz) (rps_append r1 r2) _ I.fresh⟩
    · cases e
  · cases e
noncomputable def addD : Dat → Dat → Option Dat
  | .int i, .int j => some (.int (i + j))
  | .str x, .str y => if x.length + y.length ≤ sizeLine then some (.str (x ++ y)) else none
  | .lst xs, .lst ys => if xs.length + ys.length ≤ sizeLine then some (.lst (xs ++ ys)) else none
  | _, _ => none
theorem o_addI : OpD X (binaryOp .Add) (iop (fun _ _ => True) fun i j => .int (i + j)) := op_i0 op_add fun _ _ _ _ => rp_int
theorem o_add : OpD X (binaryOp .Add) addD := by
  have h1 := OpD.or (E := fun x y => match x, y with | .int i, .int j => some (.int (i + j)) | .str x, .str y => if x.length + y.length ≤ sizeLine then some (.str (x ++ y)) else none | _, _ => none) (o_addI (X := X)) o_addS (fun x y d e => by
    split at e
    · left; simp [iop]; exact by simpa using e
    · right; simp only [addS]; exact e
    · cases e)
  refine OpD.or h1 n_cat.d fun x y d e => ?_
  unfold addD at e
  split at e
  · left; exact e
  · left; exact e
  · right
    rename_i xs ys
    simp only [catL]
    split at e
    · rename_i hz; cases e; rw [if_pos hz]; rfl
    · cases e
  · cases e
noncomputable def mulI := iop CMul fun i j => .int (i * j)
theorem o_mulI : OpD X (binaryOp .Mult) mulI := op_i op_mul fun _ _ _ _ => rp_int
noncomputable def eqF : Dat → Dat → Option Dat := fun x y => if (pd 20 x && pd 20 y) = true then some (.bl (eqD x y)) else none
noncomputable def neF : Dat → Dat → Option Dat := fun x y => if (pd 20 x && pd 20 y) = true then some (.bl (!eqD x y)) else none
theorem o_eq (hu : X.A.units + 64 < cLine) : OpD X (compareOp .Eq) eqF := fun pins s σ H x y v u Q I rx ry zz => by
  obtain ⟨A, a, b, d, mu, e, p1, p2, q⟩ := zz
  unfold eqF at e
  split at e
  · rename_i hp
    rw [Bool.and_eq_true] at hp
    cases e
    obtain ⟨as, a1, a2⟩ := Rp.reads I a x v hp.1 p1.rp rx
    obtain ⟨bs, b1, b2⟩ := Rp.reads I b y u hp.2 p2.rp ry
    have := depth_toP 20 a hp.1
    refine SeqAt.compareEq_reads a1 b1 a2 b2 (by omega) ⟨.bl _, H, I, rfl, ?_⟩
    rw [eqv_toP a b hp.1 hp.2]
    exact q.here rp_bl
  · cases e
theorem o_ne (hu : X.A.units + 64 < cLine) : OpD X (compareOp .NotEq) neF := fun pins s σ H x y v u Q I rx ry zz => by
  obtain ⟨A, a, b, d, mu, e, p1, p2, q⟩ := zz
  unfold neF at e
  split at e
  · rename_i hp
    rw [Bool.and_eq_true] at hp
    cases e
    obtain ⟨as, a1, a2⟩ := Rp.reads I a x v hp.1 p1.rp rx
    obtain ⟨bs, b1, b2⟩ := Rp.reads I b y u hp.2 p2.rp ry
    have := depth_toP 20 a hp.1
    refine SeqAt.compareNe_reads a1 b1 a2 b2 (by omega) ⟨.bl _, H, I, rfl, ?_⟩
    rw [eqv_toP a b hp.1 hp.2]
    exact q.here rp_bl
  · cases e
noncomputable def isN : Dat → Bool
  | .non => true
  | _ => false
theorem isN_v {K : PySem.W.Frag} {H : Hp} {d : Dat} {v : V} (r : Rp K H d v) : decide (v = V.non) = isN d := by
  cases d with
  | non => rw [of_non r]; rfl
  | bl b => rw [of_bl r]; rfl
  | int b => rw [of_int r]; rfl
  | str b => rw [(of_str r).1]; rfl
  | tup b => obtain ⟨a, _, e, _⟩ := of_tup r; rw [e]; rfl
  | lst b => obtain ⟨a, _, e, _⟩ := of_lst r; rw [e]; rfl
  | dct _ => exact (of_dct r).elim
  | exc _ _ => obtain ⟨_, _, _, e, _⟩ := of_exc r; subst e; rfl
noncomputable def isF : Dat → Dat → Option Dat
  | x, .non => some (.bl (isN x))
  | _, _ => none
theorem o_is : OpD X (compareOp .Is) isF := op_isN.weak fun v u H Q zz => by
  obtain ⟨A, x, y, d, mu, e, p1, p2, q⟩ := zz
  unfold isF at e
  split at e
  · cases e
    exact ⟨p2.non, by rw [isN_v p1.rp]; exact q.here rp_bl⟩
  · cases e
noncomputable def inS : Str → Str → Bool := fun i j => !(Builtin.Str.occurrences j i 0 j.length 1).isEmpty
noncomputable def inB : Dat → Dat → Option Bool
  | x, .lst ys => if (pd 20 x && ys.all (pd 20)) = true then some (ys.any fun y => eqD y x) else none
  | x, .tup ys => if (pd 20 x && ys.all (pd 20)) = true then some (ys.any fun y => eqD y x) else none
  | .str i, .str j => some (inS i j)
  | _, _ => none
noncomputable def inF : Dat → Dat → Option Dat := fun x y => (inB x y).map .bl
noncomputable def ninF : Dat → Dat → Option Dat := fun x y => (inB x y).map fun b => .bl (!b)
theorem eqAt_items {pins : List (Addr × Obj)} {σ : St} {H : Hp} {s : Shared} (I : Inv X pins σ H s) (hu : X.A.units + 64 < cLine) {a : Dat} {x : V} {v : Value} (ha : pd 20 a = true) (rx : Rp X.K H a x) (qx : RelV x v) :
    ∃ e : Value → Bool, ∀ {ys : List Dat} {vs : List V} {us : List Value}, Rps X.K H ys vs → Vals vs us → (∀ y ∈ ys, pd 20 y = true) → (∀ u ∈ us, SeqAt.EqAt X.A.in1 s u v (e u)) ∧ us.any e = ys.any fun y => eqD y a := by
  classical
  have hu' : X.A.in1.units + 60 < cLine := by show X.A.units + 1 + 60 < cLine; omega
  have key : ∀ {y : Dat} {w : V} {u : Value}, Rp X.K H y w → RelV w u → pd 20 y = true → SeqAt.EqAt X.A.in1 s u v (eqD y a) := fun {y w u} r q h => Rp.eqAt I h ha (by decide) hu' r rx q qx
  let e : Value → Bool := fun u => decide (∃ (y : Dat) (w : V), Rp X.K H y w ∧ RelV w u ∧ pd 20 y = true ∧ eqD y a = true)
  have he : ∀ {y : Dat} {w : V} {u : Value}, Rp X.K H y w → RelV w u → pd 20 y = true → e u = eqD y a := fun {y w u} r q h => by
    cases z : eqD y a with
    | true => exact decide_eq_true ⟨y, w, r, q, h, z⟩
    | false =>
      refine decide_eq_false ?_
      rintro ⟨y', w', r', q', h', z'⟩
      have := q.inj q'
      subst this
      obtain ⟨as, a1, a2⟩ := Rp.reads I y w u h r q
      obtain ⟨bs, b1, b2⟩ := Rp.reads I y' w u h' r' q
      have eqP := SeqAt.Reads.unique _ _ _ _ _ a2 a1 b1
      rw [← eqv_toP y a h ha, eqP, eqv_toP y' a h' ha, z'] at z
      cases z
  refine ⟨e, fun {ys} => ?_⟩
  induction ys with
  | nil => intro vs us r q _; rw [rps_of_nil r] at q; cases q; exact ⟨fun u hu => (by cases hu), rfl⟩
  | cons y ys ih =>
    intro vs us r q hp
    obtain ⟨w, vs', e1, r1, r2⟩ := rps_of_cons r
    subst e1
    cases q with
    | cons q1 q2 =>
      rename_i u us
      obtain ⟨h1, h2⟩ := ih r2 q2 fun z hz => hp z (List.mem_cons_of_mem _ hz)
      have hy := hp y List.mem_cons_self
      refine ⟨fun u' hu' => ?_, ?_⟩
      · rcases List.mem_cons.mp hu' with z | z
        · subst z; rw [he r1 q1 hy]; exact key r1 q1 hy
        · exact h1 u' z
      · rw [List.any_cons, List.any_cons, h2, he r1 q1 hy]
theorem o_in (hu : X.A.units + 64 < cLine) : OpD X (compareOp .In) inF := fun pins s σ H x y v u Q I rx ry zz => by
  obtain ⟨A, a, b, d, mu, e, p1, p2, q⟩ := zz
  unfold inF at e
  unfold inB at e
  split at e
  · rename_i ys
    split at e
    · rename_i hp
      rw [Bool.and_eq_true, List.all_eq_true] at hp
      cases e
      obtain ⟨l, vs, e1, h1, r1⟩ := p2.lst
      subst e1
      cases ry
      obtain ⟨its, w1, pl, _⟩ := I.list h1.sq
      obtain ⟨f, hf⟩ := eqAt_items I hu hp.1 p1.rp rx
      obtain ⟨k1, k2⟩ := hf (r1.mono av_same) w1 hp.2
      refine SeqAt.in_listAt f pl.isList (fun w hw => k1 w (by simpa using hw)) ⟨.bl _, H, I, rfl, ?_⟩
      rw [show its.toArray.any f = its.any f by simp, k2]
      exact q.here rp_bl
    · cases e
  · rename_i ys
    split at e
    · rename_i hp
      rw [Bool.and_eq_true, List.all_eq_true] at hp
      cases e
      obtain ⟨l, vs, e1, h1, r1⟩ := p2.tup
      subst e1
      cases ry
      obtain ⟨its, w1, pl, _⟩ := I.tuple h1
      obtain ⟨f, hf⟩ := eqAt_items I hu hp.1 p1.rp rx
      obtain ⟨k1, k2⟩ := hf (r1.mono av_same) w1 hp.2
      refine SeqAt.in_tupleAt f pl (fun w hw => k1 w (by simpa using hw)) ⟨.bl _, H, I, rfl, ?_⟩
      rw [show its.toArray.any f = its.any f by simp, k2]
      exact q.here rp_bl
    · cases e
  · rename_i i j
    cases e
    obtain ⟨e1, k1⟩ := p1.str
    obtain ⟨e2, k2⟩ := p2.str
    exact op_in_str pins s σ H x y v u Q I rx ry ⟨i, j, e1, e2, q.here rp_bl⟩
  · cases e
theorem o_nin (hu : X.A.units + 64 < cLine) : OpD X (compareOp .NotIn) ninF := fun pins s σ H x y v u Q I rx ry zz => by
  obtain ⟨A, a, b, d, mu, e, p1, p2, q⟩ := zz
  unfold ninF at e
  unfold inB at e
  split at e
  · rename_i ys
    split at e
    · rename_i hp
      rw [Bool.and_eq_true, List.all_eq_true] at hp
      cases e
      obtain ⟨l, vs, e1, h1, r1⟩ := p2.lst
      subst e1
      cases ry
      obtain ⟨its, w1, pl, _⟩ := I.list h1.sq
      obtain ⟨f, hf⟩ := eqAt_items I hu hp.1 p1.rp rx
      obtain ⟨k1, k2⟩ := hf (r1.mono av_same) w1 hp.2
      refine SeqAt.notIn_listAt f pl.isList (fun w hw => k1 w (by simpa using hw)) ⟨.bl _, H, I, rfl, ?_⟩
      rw [show its.toArray.any f = its.any f by simp, k2]
      exact q.here rp_bl
    · cases e
  · rename_i ys
    split at e
    · rename_i hp
      rw [Bool.and_eq_true, List.all_eq_true] at hp
      cases e
      obtain ⟨l, vs, e1, h1, r1⟩ := p2.tup
      subst e1
      cases ry
      obtain ⟨its, w1, pl, _⟩ := I.tuple h1
      obtain ⟨f, hf⟩ := eqAt_items I hu hp.1 p1.rp rx
      obtain ⟨k1, k2⟩ := hf (r1.mono av_same) w1 hp.2
      refine SeqAt.notIn_tupleAt f pl (fun w hw => k1 w (by simpa using hw)) ⟨.bl _, H, I, rfl, ?_⟩
      rw [show its.toArray.any f = its.any f by simp, k2]
      exact q.here rp_bl
    · cases e
  · rename_i i j
    cases e
    obtain ⟨e1, k1⟩ := p1.str
    obtain ⟨e2, k2⟩ := p2.str
    exact op_notIn_str pins s σ H x y v u Q I rx ry ⟨i, j, e1, e2, q.here rp_bl⟩
  · cases e
noncomputable def ixD : Dat → Dat → Option Dat
  | .lst xs, .int i => atI xs i
  | .tup xs, .int i => atI xs i
  | .str z, .int i => (atI (cl z) i).map fun c => .str ⟨#[c]⟩
  | _, _ => none
theorem atI_rps {K : PySem.W.Frag} {H : Hp} {ds : List Dat} {vs : List V} {i : Int} {d : Dat} (r : Rps K H ds vs) (h : atI ds i = some d) : ∃ v, atI vs i = some v ∧ Rp K H d v := by
  unfold atI at h ⊢
  rw [rps_len r]
  obtain ⟨j, e1, e2⟩ := bind_some h
  obtain ⟨v, h1, h2⟩ := rps_get r e2
  exact ⟨v, by rw [e1]; exact h1, h2⟩
theorem atI_mem {α : Type} {xs : List α} {i : Int} {x : α} (h : atI xs i = some x) : x ∈ xs := by
  unfold atI at h
  obtain ⟨j, e1, e2⟩ := bind_some h
  exact List.mem_of_getElem? e2
theorem sok_one {z : Str} {c : Nat} (h : SOk z) (hc : c ∈ cl z) : SOk ⟨#[c]⟩ := SOk.of (strOk_of fun c' hc' => by
  have : c' = c := by simpa [cl] using hc'
  rw [this]; exact strOk_at h.ok c hc) (by rw [← cl_len]; simp [cl]; decide)
theorem IxR.weak {r r' : R2} (h : IxR X r) (w : ∀ x y H Q, r' x y H Q → r x y H Q) : IxR X r' := fun value slice pins s σ H x y v u Q I rx ry q hs => h value slice pins s σ H x y v u Q I rx ry (w _ _ _ _ q) hs
theorem o_ix : IxR X (rD X.K ixD) := ix_seq.weak fun v u H Q zz => by
  obtain ⟨A, x, y, d, mu, e, p1, p2, q⟩ := zz
  unfold ixD at e
  split at e
  · rename_i xs i
    obtain ⟨l, vs, e1, h1, r1⟩ := p1.lst
    obtain ⟨w, h2, r2⟩ := atI_rps r1 e
    exact .inl ⟨l, vs, i, w, e1, p2.int, h1.sq, h2, q.here r2⟩
  · rename_i xs i
    obtain ⟨l, vs, e1, h1, r1⟩ := p1.tup
    obtain ⟨w, h2, r2⟩ := atI_rps r1 e
    exact .inr (.inl ⟨l, vs, i, w, e1, p2.int, h1, h2, q.here r2⟩)
  · rename_i z i
    obtain ⟨e1, k1⟩ := p1.str
    cases hc : atI (cl z) i with
    | none => rw [hc] at e; cases e
    | some c =>
      rw [hc] at e
      cases e
      exact .inr (.inr ⟨z, i, c, e1, p2.int, k1.le, hc, q.here (rp_str (sok_one k1 (atI_mem hc)))⟩)
  · cases e
theorem cut_rps {K : PySem.W.Frag} {H : Hp} {ds : List Dat} {vs : List V} (lo hi : Option Int) (r : Rps K H ds vs) : Rps K H (cutL ds lo hi) (cutV vs lo hi) := by
  unfold cutL cutV
  rw [rps_len r]
  exact rps_take _ (rps_drop _ r)
theorem cutL_mem {α : Type} {xs : List α} {lo hi : Option Int} {x : α} (h : x ∈ cutL xs lo hi) : x ∈ xs := List.mem_of_mem_drop (List.mem_of_mem_take h)
theorem cutL_len {α : Type} {xs : List α} {lo hi : Option Int} {n : Nat} (h : xs.length ≤ n) : (cutL xs lo hi).length ≤ n := by unfold cutL; rw [List.length_take, List.length_drop]; omega
theorem SlR.weak {r r' : V → Option Int → Option Int → Hp → VK → Prop} (h : SlR X r) (w : ∀ x lo hi H Q, r' x lo hi H Q → r x lo hi H Q) : SlR X r' := fun pins s σ H x v vl vu lo hi sl Q I rx hs pl pu q => h pins s σ H x v vl vu lo hi sl Q I rx hs pl pu (w _ _ _ _ _ q)
noncomputable def slD : Dat → Option Int → Option Int → Option Dat
  | .lst xs, lo, hi => some (.lst (cutL xs lo hi))
  | .str z, lo, hi => some (.str (Txt.slice z lo hi))
  | .tup xs, lo, hi => if HT.sIx xs.length 0 lo = 0 ∧ HT.sIx xs.length xs.length hi = xs.length then none else some (.tup (cutL xs lo hi))
  | _, _, _ => none
theorem slice_sok {z : Str} {lo hi : Option Int} (h : SOk z) : SOk (Txt.slice z lo hi) := SOk.of (strOk_of fun c hc => by
  rw [cl_slice] at hc; exact strOk_at h.ok c (cutL_mem hc)) (Nat.le_trans (Txt.slice_le z _ _) h.le)
theorem o_sl : SlD X slD := sl_A.weak fun v lo hi H Q zz => by
  obtain ⟨A, x, d, mu, e, p1, q⟩ := zz
  unfold slD at e
  split at e
  · rename_i xs
    cases e
    obtain ⟨l, vs, e1, h1, r1⟩ := p1.lst
    exact .inl ⟨l, vs, e1, h1.sq, (q.new mu).at (cutL_len p1.lenL) (cut_rps lo hi r1)⟩
  · rename_i z
    cases e
    obtain ⟨e1, k1⟩ := p1.str
    exact .inr (.inr ⟨z, e1, k1.le, q.here (rp_str (slice_sok k1))⟩)
  · rename_i xs
    split at e
    · cases e
    · rename_i hn
      cases e
      obtain ⟨l, vs, e1, h1, r1⟩ := p1.tup
      exact .inr (.inl ⟨l, vs, e1, h1, by rw [rps_len r1]; exact hn, q.tup mu (cutL_len p1.lenT) (cut_rps lo hi r1)⟩)
  · cases e
end
end L2
namespace L2
open PySem PySem.Spec PyProof.Rows
section
variable {X : Cx} {m : Bool}
noncomputable def lenD : List Dat → Option Dat
  | [.lst xs] => some (.int xs.length)
  | [.tup xs] => some (.int xs.length)
  | [.str z] => some (.int z.length)
  | _ => none
theorem c_len : CallD X (.builtin "len") lenD := call_lenA.weak fun vs H Q zz => by
  obtain ⟨A, ds, d, mu, e, p, q⟩ := zz
  unfold lenD at e
  split at e
  · obtain ⟨v, e1, p1⟩ := p.one
    obtain ⟨l, us, e2, h1, r1⟩ := p1.lst
    cases e
    exact .inl ⟨l, us, by rw [e1, e2], .inl h1.sq, fun _ => by rw [rps_len r1]; exact q.here rp_int⟩
  · obtain ⟨v, e1, p1⟩ := p.one
    obtain ⟨l, us, e2, h1, r1⟩ := p1.tup
    cases e
    exact .inl ⟨l, us, by rw [e1, e2], .inr h1, fun _ => by rw [rps_len r1]; exact q.here rp_int⟩
  · obtain ⟨v, e1, p1⟩ := p.one
    obtain ⟨e2, h1⟩ := p1.str
    cases e
    exact .inr ⟨_, by rw [e1, e2], h1.le, q.here rp_int⟩
  · cases e
noncomputable def tupleD : List Dat → Option Dat
  | [.lst xs] => some (.tup xs)
  | [.tup xs] => some (.tup xs)
  | _ => none
theorem c_tuple : CallD X (.type "tuple") tupleD := call_tuple_of.weak fun vs H Q zz => by
  obtain ⟨A, ds, d, mu, e, p, q⟩ := zz
  unfold tupleD at e
  split at e
  · obtain ⟨v, e1, p1⟩ := p.one
    obtain ⟨l, us, e2, h1, r1⟩ := p1.lst
    cases e
    exact ⟨l, us, by rw [e1, e2], .inl ⟨h1.sq, q.tup mu p1.lenL r1⟩⟩
  · obtain ⟨v, e1, p1⟩ := p.one
    rcases p1 with p1 | ⟨_, _, _, z, _⟩
    · obtain ⟨l, us, e2, h1, r1⟩ := of_tup p1
      cases e
      exact ⟨l, us, by rw [e1, e2], .inr ⟨av_same.seqT h1, by rw [← e2]; exact q.here p1⟩⟩
    · cases z
  · cases e
noncomputable def intsD : List Dat → Option (List Int)
  | [] => some []
  | .int i :: r => (intsD r).map (i :: ·)
  | _ => none
noncomputable def blsD : List Dat → Option (List Bool)
  | [] => some []
  | .bl i :: r => (blsD r).map (i :: ·)
  | _ => none
noncomputable def strsD : List Dat → Option (List Str)
  | [] => some []
  | .str i :: r => (strsD r).map (i :: ·)
  | _ => none
theorem intsD_map (ns : List Int) : intsD (ns.map .int) = some ns := by
  induction ns with
  | nil => rfl
  | cons n ns ih => rw [List.map_cons, intsD, ih]; rfl
theorem blsD_map (ns : List Bool) : blsD (ns.map .bl) = some ns := by
  induction ns with
  | nil => rfl
  | cons n ns ih => rw [List.map_cons, blsD, ih]; rfl
theorem strsD_map (ns : List Str) : strsD (ns.map .str) = some ns := by
  induction ns with
  | nil => rfl
  | cons n ns ih => rw [List.map_cons, strsD, ih]; rfl
theorem intsD_eq : ∀ {ds : List Dat} {ns : List Int}, intsD ds = some ns → ds = ns.map .int
  | [], _, h => by cases h; rfl
  | d :: ds, ns, h => by
    cases d <;> try cases h
    rename_i i
    rw [intsD] at h
    cases e : intsD ds with
    | none => rw [e] at h; cases h
    | some r => rw [e] at h; cases h; rw [intsD_eq e]; rfl
theorem blsD_eq : ∀ {ds : List Dat} {ns : List Bool}, blsD ds = some ns → ds = ns.map .bl
  | [], _, h => by cases h; rfl
  | d :: ds, ns, h => by
    cases d <;> try cases h
    rename_i i
    rw [blsD] at h
    cases e : blsD ds with
    | none => rw [e] at h; cases h
    | some r => rw [e] at h; cases h; rw [blsD_eq e]; rfl
theorem strsD_eq : ∀ {ds : List Dat} {ns : List Str}, strsD ds = some ns → ds = ns.map .str
  | [], _, h => by cases h; rfl
  | d :: ds, ns, h => by
    cases d <;> try cases h
    rename_i i
    rw [strsD] at h
    cases e : strsD ds with
    | none => rw [e] at h; cases h
    | some r => rw [e] at h; cases h; rw [strsD_eq e]; rfl
theorem rps_of_ints {K : PySem.W.Frag} {H : Hp} : ∀ {ns : List Int} {vs : List V}, Rps K H (ns.map .int) vs → vs = ns.map .int
  | [], vs, h => rps_of_nil h
  | n :: ns, vs, h => by obtain ⟨v, r, e, h1, h2⟩ := rps_of_cons h; rw [e, of_int h1, rps_of_ints h2]; rfl
theorem rps_of_bls {K : PySem.W.Frag} {H : Hp} : ∀ {ns : List Bool} {vs : List V}, Rps K H (ns.map .bl) vs → vs = ns.map .bl
  | [], vs, h => rps_of_nil h
  | n :: ns, vs, h => by obtain ⟨v, r, e, h1, h2⟩ := rps_of_cons h; rw [e, of_bl h1, rps_of_bls h2]; rfl
theorem rps_of_strs {K : PySem.W.Frag} {H : Hp} : ∀ {ns : List Str} {vs : List V}, Rps K H (ns.map .str) vs → vs = ns.map .str ∧ ∀ x ∈ ns, SOk x
  | [], vs, h => ⟨rps_of_nil h, fun x hx => by cases hx⟩
  | n :: ns, vs, h => by
    obtain ⟨v, r, e, h1, h2⟩ := rps_of_cons h
    obtain ⟨e2, h3⟩ := rps_of_strs h2
    exact ⟨by rw [e, (of_str h1).1, e2]; rfl, fun x hx => by
      rcases List.mem_cons.mp hx with z | z
      · rw [z]; exact (of_str h1).2
      · exact h3 x z⟩
noncomputable def sortI (ns : List Int) : List Int := ns.mergeSort (fun a b => decide (a ≤ b))
theorem sortI_perm (ns : List Int) : (sortI ns).Perm ns := List.mergeSort_perm ns _
theorem sortI_sorted (ns : List Int) : (sortI ns).Pairwise (· ≤ ·) := by
  have := List.pairwise_mergeSort (le := fun a b : Int => decide (a ≤ b)) (by intro a b c h1 h2; simp only [decide_eq_true_eq] at *; omega) (by intro a b; simp only [Bool.or_eq_true, decide_eq_true_eq]; omega) ns
  exact this.imp fun h => of_decide_eq_true h
theorem sorted_unique : ∀ {xs ys : List Int}, xs.Perm ys → xs.Pairwise (· ≤ ·) → ys.Pairwise (· ≤ ·) → xs = ys
  | [], ys, p, _, _ => by rw [List.nil_perm.mp p]
  | x :: xs, [], p, _, _ => by have := p.length_eq; simp at this
  | x :: xs, y :: ys, p, h1, h2 => by
    have hx := List.pairwise_cons.mp h1
    have hy := List.pairwise_cons.mp h2
    have e : x = y := by
      have m1 : x ∈ y :: ys := p.mem_iff.mp List.mem_cons_self
      have m2 : y ∈ x :: xs := p.mem_iff.mpr List.mem_cons_self
      rcases List.mem_cons.mp m1 with z | z
      · exact z
      · rcases List.mem_cons.mp m2 with w | w
        · exact w.symm
        · have a1 := hx.1 y w
          have a2 := hy.1 x z
          omega
    subst e
    rw [sorted_unique (List.Perm.cons_inv p) hx.2 hy.2]
noncomputable def sortedN : List Dat → Option (List Dat)
  | [.lst xs] => (intsD xs).bind fun ns => if ns.length < 64 then some ((sortI ns).map .int) else none
  | _ => none
theorem c_sorted : CallN X (.builtin "sorted") sortedN := call_sortedL.weak fun vs H Q zz => by
  obtain ⟨A, ds, d, mu, e, p, q⟩ := zz
  unfold sortedN at e
  split at e
  · rename_i xs
    obtain ⟨v, e1, p1⟩ := p.one
    obtain ⟨l, us, e2, h1, r1⟩ := p1.lst
    obtain ⟨ns, hn, e⟩ := bind_some e
    split at e
    · rename_i h64
      cases e
      rw [intsD_eq hn] at r1
      have eu := rps_of_ints r1
      subst eu
      refine ⟨l, ns, by rw [e1, e2], h1.sq, h64, fun ms l' hp hs hl => ?_⟩
      rw [sorted_unique (hp.trans (sortI_perm ns).symm) hs (sortI_sorted ns)]
      have h0 : (64 : Nat) ≤ sizeLine := by decide
      exact q.at (by rw [List.length_map, (sortI_perm ns).length_eq]; omega) (rps_ints _) l' hl
    · cases e
  · cases e
noncomputable def allD : List Dat → Option Dat
  | [.lst xs] => (blsD xs).map fun bs => .bl (bs.all id)
  | _ => none
theorem map_some {α β : Type} {a : Option α} {g : α → β} {b : β} (h : a.map g = some b) : ∃ x, a = some x ∧ g x = b := by
  cases a with
  | none => cases h
  | some x => cases h; exact ⟨x, rfl, rfl⟩
theorem c_all (hc : X.calm = true) : CallD X (.builtin "all") allD := (call_allA hc).weak fun vs H Q zz => by
  obtain ⟨A, ds, d, mu, e, p, q⟩ := zz
  unfold allD at e
  split at e
  · obtain ⟨v, e1, p1⟩ := p.one
    obtain ⟨l, us, e2, h1, r1⟩ := p1.lst
    obtain ⟨bs, hb, e⟩ := map_some e
    subst e
    rw [blsD_eq hb] at r1
    have eu := rps_of_bls r1
    subst eu
    exact ⟨l, bs, by rw [e1, e2], h1.sq, q.here rp_bl⟩
  · cases e
noncomputable def strI (i : Int) : Str := toString i
noncomputable def strD : List Dat → Option Dat
  | [.int i] => if i.natAbs.log2 < 1920 ∧ SOk (strI i) then some (.str (strI i)) else none
  | _ => none
theorem c_str : CallD X (.type "str") strD := call_str_int.weak fun vs H Q zz => by
  obtain ⟨A, ds, d, mu, e, p, q⟩ := zz
  unfold strD at e
  split at e
  · obtain ⟨v, e1, p1⟩ := p.one
    split at e
    · rename_i hc
      cases e
      exact ⟨_, by rw [e1, p1.int], hc.1, q.here (rp_str hc.2)⟩
    · cases e
  · cases e
noncomputable def tyN : Dat → Option String
  | .non => some "NoneType" | .bl _ => some "bool" | .int _ => some "int" | .str _ => some "str" | .tup _ => some "tuple" | .lst _ => some "list" | _ => none
noncomputable def isiB (T : String) (d : Dat) : Option Bool := (tyN d).bind fun t => kitB t T
noncomputable def dI (T : String) (f : Ev → Option Dat) : Ev → Option Dat := fun env => (f env).bind fun d => (isiB T d).map .bl
theorem isi_go {pins : List (Addr × Obj)} {σ : St} {H : Hp} {s : Shared} {A : Around} {E : Value → Shared → Prop} {Q : Value → Shared → Prop} {d : Dat} {v : V} {u : Value} {T t : String} {b : Bool} (I : Inv X pins σ H s) (r : Rp X.K H d v) (ru : RelV v u) (ht : tyN d = some t) (e : PySem.W.kitOne X.K (.type t) (.type T) = some b) (h : ∀ tk, Q (.bool b) { s with toks := tk }) :
    wpAny (model X.prog X.w) A (call (.builtin "isinstance") [u, .type T]) Q E s := by
  cases d with
  | non => cases ht; rw [of_non r] at ru; exact isinst_ok I ru .non e h
  | bl y => cases ht; rw [of_bl r] at ru; exact isinst_ok I ru (.bl y) e h
  | int y => cases ht; rw [of_int r] at ru; exact isinst_ok I ru (.int y) e h
  | str y => cases ht; rw [(of_str r).1] at ru; exact isinst_ok I ru (.str y) e h
  | tup ds =>
    cases ht
    obtain ⟨a, vs, e1, h1, _⟩ := of_tup r
    subst e1; cases ru
    obtain ⟨its, _, ⟨o, ho, hc, _⟩, _⟩ := I.tuple h1
    exact PySem.W.kia_one PySem.W.kitx_tuple I.kIn ⟨o, ho, hc⟩ e (fun z => nomatch z) h
  | lst ds =>
    cases ht
    obtain ⟨a, vs, e1, h1, _⟩ := of_lst r
    subst e1; cases ru
    obtain ⟨its, n, _, ho, _⟩ := h1.get I
    exact PySem.W.kia_one PySem.W.kitx_list I.kIn ⟨_, ho, rfl⟩ e (fun z => nomatch z) h
  | dct _ => cases ht
  | exc _ _ => cases ht
theorem xisi {e : Expr} {f : Ev → Option Dat} {T : String} {tx : Str} {p p2 pos : Pos} (he : PXd true X e f) (hg : Gl X "isinstance") (hm : X.mg "isinstance" = none) (hv : bootBuiltins "isinstance" = some (.builtin "isinstance")) (hgT : Gl X tx) (hmT : X.mg tx = none) (hvT : bootBuiltins tx = some (.type T)) (hnT : tx ≠ "__name__" := by decide) (hdT : (tx == ("__debug__" : Str)) = false := by decide)
    (hs : starEach [e, .Name tx p2] X.env = (false, eval e X.env) :: starEach [.Name tx p2] X.env := by rfl) : PXd m X (.Call (.Name "isinstance" p) [e, .Name tx p2] [] pos) (dI T f) := by
  have hc : CallR X (.builtin "isinstance") (fun vs H Q => ∃ v A d b, vs = [v, .ty T] ∧ MuOk A H ∧ isiB T d = some b ∧ Pk X.K A H d v ∧ RegC false X.K A H (.bl b) Q) := by
    intro pins s σ H xs us Q I r ⟨v, A, d, b, e1, mu, e2, p1, q⟩
    subst e1
    obtain ⟨u, w', rfl, ru, rw'⟩ := vals2 r
    cases rw'
    obtain ⟨t, ht, hk⟩ := bind_some e2
    exact isi_go I p1.rp ru ht (kit_of hk) fun tk => ⟨.bl b, H, I.tok _, rfl, q.here rp_bl⟩
  refine PXd.any ((pe_callB hc hg hm hv (pa_cons he (pa_cons (pe_bty hgT hmT hvT hnT hdT) pa_nil) hs) (he := hs)).weak fun σ H Q ⟨env, R, A, d, k, q1, q2⟩ => ?_)
  obtain ⟨x, e1, h⟩ := bind_some q1
  obtain ⟨b, e2, h⟩ := map_some h
  subst h
  exact ⟨env, R, A, x, k, e1, fun v H1 s1 p1 => ⟨v, A, x, b, rfl, k.mu.mono s1, e2, p1, q2.mono s1⟩⟩
noncomputable def bitlenD : Dat → List Dat → Option Dat
  | .int i, [] => some (.int (Builtin.Int.intBits i))
  | _, _ => none
theorem m_bitlen : MtD X "int.bit_length" bitlenD := mt_bitlen.weak fun v vs H Q zz => by
  obtain ⟨A, x, ds, d, mu, e, p, ps, q⟩ := zz
  unfold bitlenD at e
  split at e
  · cases e
    exact ⟨_, p.int, ps, q.here rp_int⟩
  · cases e
noncomputable def joinD : Dat → List Dat → Option Dat
  | .str z, [.lst xs] => (strsD xs).bind fun ys => if (ys.map (·.length)).sum + ys.length * z.length ≤ 16777216 ∧ SOk (Txt.join z ys) then some (.str (Txt.join z ys)) else none
  | _, _ => none
theorem m_join : MtD X "str.join" joinD := mt_join.weak fun v vs H Q zz => by
  obtain ⟨A, x, ds, d, mu, e, p, ps, q⟩ := zz
  unfold joinD at e
  split at e
  · rename_i z xs
    obtain ⟨v', e1, p1⟩ := ps.one
    obtain ⟨l, us, e2, h1, r1⟩ := p1.lst
    obtain ⟨ys, hy, e⟩ := bind_some e
    split at e
    · rename_i hc
      cases e
      rw [strsD_eq hy] at r1
      obtain ⟨eu, _⟩ := rps_of_strs r1
      subst eu
      exact ⟨z, l, ys, p.str.1, by rw [e1, e2], h1.sq, hc.1, q.here (rp_str hc.2)⟩
    · cases e
  · cases e
noncomputable def sindexD : Dat → List Dat → Option Dat
  | .str z, [.str y] => if Txt.find z y ≠ -1 then some (.int (Txt.find z y)) else none
  | _, _ => none
theorem m_sindex (hc : X.calm = true) : MtD X "str.index" sindexD := (mt_sindex hc).weak fun v vs H Q zz => by
  obtain ⟨A, x, ds, d, mu, e, p, ps, q⟩ := zz
  unfold sindexD at e
  split at e
  · rename_i z y
    obtain ⟨v', e1, p1⟩ := ps.one
    split at e
    · rename_i hn
      cases e
      exact ⟨z, y, p.str.1, by rw [e1, p1.str.1], hn, q.here rp_int⟩
    · cases e
  · cases e
end
end L2
namespace L2
open PySem PySem.Spec PyProof.Rows
noncomputable def Adv (st : Bool) (A : AS) (H : Hp) (A1 : AS) (H1 : Hp) : Prop := match st with
  | true => Step A H A1 H1
  | false => A1 = A ∧ Same H H1
theorem Adv.step {st : Bool} {A A1 : AS} {H H1 : Hp} (h : Adv st A H A1 H1) : Step A H A1 H1 := by
  cases st with
  | true => exact h
  | false => obtain ⟨rfl, h⟩ := h; exact Step.same h
noncomputable def ItOk (st : Bool) (K : PySem.W.Frag) (A : AS) (H : Hp) (ds : List Dat) (J : It) : Prop := ∀ A1 H1, Adv st A H A1 H1 → MuOk A1 H1 →
  (∀ (i : Nat) x, ds[i]? = some x → J.go i H1 ∧ ∀ v H2, J.yld i H1 v H2 → Same H1 H2 ∧ Rp K (av H2 A1) x v) ∧ J.stop ds.length H1
noncomputable def PId (st : Bool) (X : Cx) (tg iter : Expr) (src : Ev → Option (List Dat)) : Prop := PI X tg iter fun σ H R' => ∃ env R A ds, EnvOk X.K R A H σ env ∧ src env = some ds ∧
  ∀ J H', ds.length ≤ sizeLine → Same H H' → ItOk st X.K A H' ds J → R' J H'
theorem PI.weak {X : Cx} {tg iter : Expr} {t t' : TI} (h : PI X tg iter t) (w : ∀ σ H Q, t' σ H Q → t σ H Q) : PI X tg iter t' := fun pins s σ H Q I q => h pins s σ H Q I (w σ H Q q)
section
variable {st m : Bool} {X : Cx} {tg l : Expr} {f : Ev → Option Dat} {fs : Ev → Option (List Dat)}
noncomputable def srcL (f : Ev → Option Dat) : Ev → Option (List Dat) := fun env => match f env with
  | some (.lst xs) => some xs
  | some (.tup xs) => some xs
  | _ => none
theorem it_list {K : PySem.W.Frag} {A : AS} {H : Hp} {a : Addr} {vs : List V} {ds : List Dat} (h : ∀ A1 H1, Adv st A H A1 H1 → SqL K H1 a vs) (r : Rps K (av H A) ds vs) : ItOk st K A H ds (Itl K a) := fun A1 H1 adv _ => by
  have h1 := h A1 H1 adv
  have r1 := r.mono adv.step.av
  refine ⟨fun i x e => ?_, ⟨vs, h1, Nat.le_of_eq (rps_len r)⟩⟩
  obtain ⟨v, e1, e2⟩ := rps_get r1 e
  refine ⟨⟨vs, v, h1, e1⟩, fun v' H2 ⟨e3, e4⟩ => ?_⟩
  subst e3
  have := e4 vs h1
  rw [e1] at this
  cases this
  exact ⟨Same.refl _, e2⟩
theorem it_tup {K : PySem.W.Frag} {A : AS} {H : Hp} {a : Addr} {vs : List V} {ds : List Dat} (h : ∀ A1 H1, Adv st A H A1 H1 → SqT K H1 a vs) (r : Rps K (av H A) ds vs) : ItOk st K A H ds (Itt K a) := fun A1 H1 adv _ => by
  have h1 := h A1 H1 adv
  have r1 := r.mono adv.step.av
  refine ⟨fun i x e => ?_, ⟨vs, h1, Nat.le_of_eq (rps_len r)⟩⟩
  obtain ⟨v, e1, e2⟩ := rps_get r1 e
  refine ⟨⟨vs, v, h1, e1⟩, fun v' H2 ⟨e3, e4⟩ => ?_⟩
  subst e3
  have := e4 vs h1
  rw [e1] at this
  cases this
  exact ⟨Same.refl _, e2⟩
theorem i_seq (h : PXd false X l f) : PId st X tg l (srcL f) := (pi_seq h).weak fun σ H R' zz => by
  obtain ⟨env, R, A, ds, k, e, q⟩ := zz
  unfold srcL at e
  split at e
  · rename_i xs e1
    cases e
    refine .inl ⟨env, R, A, .lst ds, k, e1, fun v H1 s1 p1 => ?_⟩
    obtain ⟨a, vs, e2, h1, r1⟩ := of_lst (show Rp X.K (av H1 A) (.lst ds) v from p1)
    subst e2
    exact ⟨a, rfl, ⟨vs, (av_same.sl h1).sq⟩, q _ H1 p1.pk.lenL s1 (it_list (vs := vs) (fun A1 H2 adv => (av_same.sl (adv.step.av.sl h1)).sq) r1)⟩
  · rename_i xs e1
    cases e
    refine .inr ⟨env, R, A, .tup ds, k, e1, fun v H1 s1 p1 => ?_⟩
    obtain ⟨a, vs, e2, h1, r1⟩ := of_tup (show Rp X.K (av H1 A) (.tup ds) v from p1)
    subst e2
    exact ⟨a, rfl, ⟨vs, av_same.seqT h1⟩, q _ H1 p1.pk.lenT s1 (it_tup (vs := vs) (fun A1 H2 adv => av_same.seqT (adv.step.av.seqT h1)) r1)⟩
  · cases e
theorem i_seqP (h : PXd true X l f) : PId false X tg l (srcL f) := (pi_seq h).weak fun σ H R' zz => by
  obtain ⟨env, R, A, ds, k, e, q⟩ := zz
  unfold srcL at e
  split at e
  · rename_i xs e1
    cases e
    refine .inl ⟨env, R, A, .lst ds, k, e1, fun v H1 s1 p1 => ?_⟩
    obtain ⟨a, vs, e2, h1, r1⟩ := p1.pk.lst
    subst e2
    exact ⟨a, rfl, ⟨vs, h1.sq⟩, q _ H1 p1.pk.lenL s1 (it_list (vs := vs) (fun A1 H2 adv => (adv.2.sl h1).sq) r1)⟩
  · rename_i xs e1
    cases e
    refine .inr ⟨env, R, A, .tup ds, k, e1, fun v H1 s1 p1 => ?_⟩
    obtain ⟨a, vs, e2, h1, r1⟩ := p1.pk.tup
    subst e2
    exact ⟨a, rfl, ⟨vs, h1⟩, q _ H1 p1.pk.lenT s1 (it_tup (vs := vs) (fun A1 H2 adv => adv.2.seqT h1) r1)⟩
  · cases e
noncomputable def rng (lo : Int) (n : Nat) : List Dat := (List.range n).map fun (k : Nat) => .int (lo + k)
theorem rng_len {lo : Int} {n : Nat} : (rng lo n).length = n := by simp [rng]
theorem it_rng {K : PySem.W.Frag} {A : AS} {H : Hp} {lo : Int} {n : Nat} : ItOk st K A H (rng lo n) (Itr lo n) := fun A1 H1 adv _ => by
  refine ⟨fun i x e => ?_, by show n ≤ (rng lo n).length; simp [rng]⟩
  unfold rng at e
  rw [List.getElem?_map] at e
  by_cases hi : i < n
  · rw [List.getElem?_range hi] at e
    cases e
    exact ⟨hi, fun v H2 ⟨e1, e2⟩ => by subst e1 e2; exact ⟨Same.refl _, rp_int⟩⟩
  · rw [List.getElem?_eq_none (by simpa using hi)] at e
    cases e
noncomputable def srcR1 (fs : Ev → Option (List Dat)) : Ev → Option (List Dat) := fun env => match fs env with
  | some [.int j] => if -(2 ^ 62) ≤ j ∧ j < 2 ^ 62 ∧ j.toNat ≤ sizeLine then some (rng 0 j.toNat) else none
  | _ => none
theorem i_range1 {a : Expr} {p pos : Pos} (hg : Gl X "range") (hm : X.mg "range" = none) (ha : PAd true X [a] fs) (hs : starEach [a] X.env = [(false, eval a X.env)] := by rfl) : PId st X tg (.Call (.Name "range" p) [a] [] pos) (srcR1 fs) := (pi_range1 hg hm ha hs).weak fun σ H R' zz => by
  obtain ⟨env, R, A, ds, k, e, q⟩ := zz
  unfold srcR1 at e
  split at e
  · rename_i j e1
    split at e
    · rename_i hj
      cases e
      refine ⟨env, R, A, _, k, e1, fun vs H1 s1 p1 => ?_⟩
      obtain ⟨v, e2, p2⟩ := p1.one
      exact ⟨j, by rw [e2, p2.int], hj.1, hj.2.1, q _ H1 (by rw [rng_len]; exact hj.2.2) s1 it_rng⟩
    · cases e
  · cases e
noncomputable def srcC (f : Ev → Option Dat) : Ev → Option (List Dat) := fun env => match f env with
  | some (.str z) => some ((cl z).map fun c => .str ⟨#[c]⟩)
  | _ => none
theorem i_str (h : PXd m X l f) : PId st X tg l (srcC f) := (pi_str h).weak fun σ H R' zz => by
  obtain ⟨env, R, A, ds, k, e, q⟩ := zz
  unfold srcC at e
  split at e
  · rename_i z e1
    cases e
    refine ⟨env, R, A, _, k, e1, fun v H1 s1 p1 => ?_⟩
    obtain ⟨e2, hk⟩ := p1.pk.str
    refine ⟨z, e2, q _ H1 (by rw [List.length_map, cl_len]; exact hk.le) s1 fun A1 H2 adv _ => ⟨fun i x ex => ?_, by show _ = _; rw [List.length_map, cl_len]⟩⟩
    rw [List.getElem?_map] at ex
    cases hc : (cl z)[i]? with
    | none => rw [hc] at ex; cases ex
    | some c =>
      rw [hc] at ex
      cases ex
      have hi : i < z.length := by rw [← cl_len]; exact (List.getElem?_eq_some_iff.mp hc).1
      refine ⟨hi, fun v' H3 ⟨e3, c', e4, e5⟩ => ?_⟩
      subst e3 e5
      have : c' = c := by
        have h' : (cl z)[i]? = some c' := by simpa [cl] using e4
        rw [hc] at h'; exact (Option.some.inj h').symm
      subst this
      exact ⟨Same.refl _, rp_str (sok_one hk (List.mem_of_getElem? hc))⟩
  · cases e
end
noncomputable def Agree (is : List Nat) (σ σ' : St) : Prop := σ'.length = σ.length ∧ ∀ j, j ∉ is → σ'[j]? = σ[j]?
noncomputable def PGd (is : List Nat) (X : Cx) (tg : Expr) (g : Dat → Ev → Option Ev) : Prop := PG X tg fun v σ H Q => ∃ env R A d env', EnvOk X.K R A H σ env ∧ Rp X.K (av H A) d v ∧ g d env = some env' ∧ ∀ σ', EnvOk X.K R A H σ' env' → Agree is σ σ' → Q σ' H
noncomputable def PGsd (is : List Nat) (X : Cx) (tgs : List Expr) (g : List Dat → Ev → Option Ev) : Prop := PGs X tgs fun vs σ H Q => ∃ env R A ds env', EnvOk X.K R A H σ env ∧ Rps X.K (av H A) ds vs ∧ g ds env = some env' ∧ ∀ σ', EnvOk X.K R A H σ' env' → Agree is σ σ' → Q σ' H
theorem EnvOk.put {K : PySem.W.Frag} {B : Bs} {A : AS} {H : Hp} {σ : St} {env : Ev} (k : EnvOk K B A H σ env) (i : Nat) {d : Dat} {v : V} (r : Rp K (av H A) d v) : EnvOk K B A H (σ.set i (some v)) (env.set i (.fz d)) := by
  obtain ⟨own, h1, h2, h4⟩ := k.sl
  refine ⟨k.h0, k.r0, k.ra, k.ar, k.mu, by rw [List.length_set, List.length_set]; exact k.len, fun hs j d' => ?_, fun j a => j ≠ i ∧ own j a, fun j j' a q q' => h1 j j' a q.2 q'.2, fun j a q => h2 j a q.2, fun j s e => ?_⟩
  · rw [List.getElem?_set]
    split
    · split
      · intro z; cases z
      · intro z; cases z
    · exact k.np hs j d'
  by_cases hj : i = j
  · subst hj
    rw [List.getElem?_set] at e
    rw [if_pos rfl] at e
    split at e
    · rename_i hl
      cases e
      refine ⟨some v, ?_, v, rfl, r⟩
      rw [List.getElem?_set, if_pos rfl, if_pos (by rw [k.len]; exact hl)]
    · cases e
  · rw [List.getElem?_set, if_neg hj] at e
    obtain ⟨x, q1, q2⟩ := h4 j s e
    refine ⟨x, by rw [List.getElem?_set, if_neg hj]; exact q1, ?_⟩
    cases s with
    | un => trivial
    | fz d => exact q2
    | pk d => exact q2
    | ow ds => obtain ⟨a, vs, e1, e2, e3⟩ := q2; exact ⟨a, vs, e1, ⟨Ne.symm hj, e2⟩, e3⟩
theorem PG.weak {X : Cx} {e : Expr} {t t' : TG} (h : PG X e t) (w : ∀ v σ H Q, t' v σ H Q → t v σ H Q) : PG X e t' := fun pins s σ H v u Q I r q => h pins s σ H v u Q I r (w _ _ _ _ q)
theorem PGs.weak {X : Cx} {e : List Expr} {t t' : TGs} (h : PGs X e t) (w : ∀ v σ H Q, t' v σ H Q → t v σ H Q) : PGs X e t' := fun pins s σ H v u Q I r q => h pins s σ H v u Q I r (w _ _ _ _ q)
section
variable {X : Cx} {pos : Pos}
noncomputable def gset (i : Nat) : Dat → Ev → Option Ev := fun d env => some (env.set i (.fz d))
theorem agree_set {σ : St} {i : Nat} {v : Option V} : Agree [i] σ (σ.set i v) := ⟨by rw [List.length_set], fun j hj => by rw [List.getElem?_set, if_neg (by intro e; exact hj (by simp [e]))]⟩
theorem g_name (i : Nat) {x : Str} (hN : X.N.Nodup) (hi : X.N[i]? = some x) (hx : Loc X.env.scope x) (hf : X.fn x = true ∨ X.env.scope.names.lookup x = some .local := by first | exact .inl rfl | exact .inr rfl | assumption) : PGd [i] X (.Name x pos) (gset i) := (pg_name hN hi hx hf).weak fun v σ H Q zz => by
  obtain ⟨env, R, A, d, env', k, r, e, q⟩ := zz
  cases e
  exact q _ (k.put i r) agree_set
noncomputable def gsNil : List Dat → Ev → Option Ev := fun ds env => match ds with
  | [] => some env
  | _ => none
noncomputable def gsCons (g : Dat → Ev → Option Ev) (gs : List Dat → Ev → Option Ev) : List Dat → Ev → Option Ev := fun ds env => match ds with
  | d :: ds => (g d env).bind fun env' => gs ds env'
  | _ => none
theorem gs_nil : PGsd [] X [] gsNil := pgs_nil.weak fun vs σ H Q zz => by
  obtain ⟨env, R, A, ds, env', k, r, e, q⟩ := zz
  unfold gsNil at e
  split at e
  · cases e
    exact ⟨rps_of_nil r, q σ k ⟨rfl, fun _ _ => rfl⟩⟩
  · cases e
theorem gs_cons {e : Expr} {es : List Expr} {is js : List Nat} {g : Dat → Ev → Option Ev} {gs : List Dat → Ev → Option Ev} (h1 : PGd is X e g) (h2 : PGsd js X es gs)
    (hs : (assignEach (e :: es) X.env).map (·.2) = assign e X.env :: (assignEach es X.env).map (·.2) := by rfl) : PGsd (is ++ js) X (e :: es) (gsCons g gs) := (pgs_cons h1 h2 hs).weak fun vs σ H Q zz => by
  obtain ⟨env, R, A, ds, env', k, r, e, q⟩ := zz
  unfold gsCons at e
  split at e
  · rename_i d ds'
    obtain ⟨env1, e1, e2⟩ := bind_some e
    obtain ⟨v, us, ev, r1, r2⟩ := rps_of_cons r
    refine ⟨v, us, ev, env, R, A, d, env1, k, r1, e1, fun σ1 k1 a1 => ⟨env1, R, A, ds', env', k1, r2, e2, fun σ2 k2 a2 => q σ2 k2 ⟨by rw [a2.1, a1.1], fun j hj => ?_⟩⟩⟩
    rw [List.mem_append, not_or] at hj
    rw [a2.2 j hj.2, a1.2 j hj.1]
  · cases e
noncomputable def gtup (n : Nat) (gs : List Dat → Ev → Option Ev) : Dat → Ev → Option Ev := fun d env => match d with
  | .tup ds => if ds.length = n then gs ds env else none
  | _ => none
theorem g_tup {es : List Expr} {k : Nat} {is : List Nat} {gs : List Dat → Ev → Option Ev} {n : Nat} (hc : X.calm = true) (h : PGsd is X es gs)
    (hn : (assignEach es X.env).length = n := by rfl) (hst : (assignEach es X.env).findIdx? (·.1) = none := by rfl) : PGd is X (.Tuple es k pos) (gtup n gs) := (pg_tup hc h hn hst).weak fun v σ H Q zz => by
  obtain ⟨env, R, A, d, env', k, r, e, q⟩ := zz
  unfold gtup at e
  split at e
  · rename_i ds
    split at e
    · rename_i hl
      obtain ⟨a, vs, ev, h1, r1⟩ := of_tup r
      exact ⟨a, vs, ev, av_same.seqT h1, by rw [rps_len r1]; exact hl, env, R, A, ds, env', k, r1, e, q⟩
    · cases e
  · cases e
end
noncomputable def innerD (fs : List (Option Nat)) (env : Ev) : Ev := fs.map fun o => match o with
  | none => .un
  | some j => match env[j]? with
    | some (.fz d) => .fz d
    | some (.pk d) => .pk d
    | some (.ow ds) => .pk (.lst ds)
    | _ => .un
theorem EnvOk.inn {K : PySem.W.Frag} {B : Bs} {A : AS} {H : Hp} {σ : St} {env : Ev} (k : EnvOk K B A H σ env) (fs : List (Option Nat)) : EnvOk K ⟨H, A, false⟩ A H (inner fs σ) (innerD fs env) := by
  obtain ⟨own, h1, h2, h4⟩ := k.sl
  refine ⟨Same.refl H, fun a h => ?_, fun _ h => h, fun _ h => .inl h, k.mu, by simp [inner, innerD], fun z => (by cases z), fun _ _ => False, fun _ _ _ h => h.elim, fun _ _ h => h.elim, fun i s e => ?_⟩
  · have := k.mu a h
    cases q : H a with
    | none => rw [q] at this; exact this.elim
    | some o => exact ⟨o, q⟩
  · unfold innerD at e
    rw [List.getElem?_map] at e
    unfold inner
    rw [List.getElem?_map]
    cases hf : fs[i]? with
    | none => rw [hf] at e; cases e
    | some o =>
      rw [hf] at e
      cases o with
      | none => cases e; exact ⟨_, rfl, trivial⟩
      | some j =>
        simp only [Option.map_some, Option.some.injEq] at e ⊢
        refine ⟨_, rfl, ?_⟩
        split at e
        · rename_i d hd
          obtain ⟨x, q1, q2⟩ := h4 j _ hd
          subst e
          rw [q1]; exact q2
        · rename_i d hd
          obtain ⟨x, q1, q2⟩ := h4 j _ hd
          subst e
          rw [q1]; exact q2
        · rename_i ds hd
          obtain ⟨x, q1, a, vs, e1, _, hz, e3, e4⟩ := h4 j _ hd
          subst e
          rw [q1]
          exact ⟨.ref a, e1, .inr ⟨a, vs, ds, rfl, rfl, hz, e3, e4⟩⟩
        · subst e; trivial
noncomputable def compL (g : Dat → Ev → Option Ev) (t : Ev → Option Bool) (f : Ev → Option Dat) (env : Ev) : List Dat → Option (List Dat)
  | [] => some []
  | x :: xs => (g x env).bind fun env1 => (t env1).bind fun b => if b = true then (f env1).bind fun y => (compL g t f env xs).map (y :: ·) else compL g t f env xs
noncomputable def dComp (src : Ev → Option (List Dat)) (fs : List (Option Nat)) (g : Dat → Ev → Option Ev) (t : Ev → Option Bool) (f : Ev → Option Dat) : Ev → Option (List Dat) := fun env => (src env).bind fun ds => compL g t f (innerD fs env) ds
theorem compL_len {g : Dat → Ev → Option Ev} {t : Ev → Option Bool} {f : Ev → Option Dat} {env : Ev} : ∀ {xs ys : List Dat}, compL g t f env xs = some ys → ys.length ≤ xs.length
  | [], ys, h => by cases h; exact Nat.le_refl _
  | x :: xs, ys, h => by
    rw [compL] at h
    obtain ⟨env1, e1, h⟩ := bind_some h
    obtain ⟨b, e2, h⟩ := bind_some h
    split at h
    · obtain ⟨y, e3, h⟩ := bind_some h
      obtain ⟨zs, e4, h⟩ := map_some h
      subst h
      exact Nat.succ_le_succ (compL_len e4)
    · exact Nat.le_succ_of_le (compL_len h)
noncomputable def PFd (X : Cx) (ifs : List Expr) (t : Ev → Option Bool) : Prop := PIf X ifs fun σ H Q => ∃ env R A b, EnvOk X.K R A H σ env ∧ t env = some b ∧ ∀ H', Same H H' → Q b H'
noncomputable def tTrue : Ev → Option Bool := fun _ => some true
theorem PIf.weak {X : Cx} {e : List Expr} {t t' : TT} (h : PIf X e t) (w : ∀ σ H Q, t' σ H Q → t σ H Q) : PIf X e t' := fun pins s σ H Q I q => h pins s σ H Q I (w σ H Q q)
theorem f_nil {X : Cx} : PFd X [] tTrue := (pif_nil (Y := X)).weak fun σ H Q ⟨env, R, A, b, k, e, q⟩ => by cases e; exact q H (Same.refl H)
theorem f_one {X : Cx} {c : Expr} {t : Ev → Option Bool} (h : PTd X c t) : PFd X [c] t := pif_one h
section
variable {X : Cx} {sc : Scope}
theorem comp_go {J : It} {fs : List (Option Nat)} {is : List Nat} {g : Dat → Ev → Option Ev} {t : Ev → Option Bool} {f : Ev → Option Dat} {σ : St} {H1 : Hp} {Q : VK} {K : PySem.W.Frag} {A : AS} {B : Bs} {env : Ev} {ds ys : List Dat}
    (hfs : ∀ i ∈ is, fs[i]? = some none) (k : EnvOk K B A H1 σ env) (hJ : ItOk false K A H1 ds J) (hz : ds.length ≤ sizeLine) (hc : compL g t f (innerD fs env) ds = some ys) (q : NewC K A H1 ys Q) :
    ∃ W : Nat → Nat → List V → Hp → Prop, (∃ m, W 0 m [] H1) ∧ ∀ i m zs H, W i m zs H →
      (J.stop i H ∧ zs.length ≤ sizeLine ∧ ∀ p, H p = none → Q (.ref p) (upd H p (.lst zs))) ∨
      (J.go i H ∧ zs.length ≤ sizeLine ∧ ∃ N : List V → Hp → Prop, (∀ ys' H', N ys' H' → ∃ m', m' < m ∧ W (i + 1) m' ys' H') ∧ ∀ x H', J.yld i H x H' → (∃ env R A d env', EnvOk K R A H' (inner fs σ) env ∧ Rp K (av H' A) d x ∧ g d env = some env' ∧ ∀ σ', EnvOk K R A H' σ' env' → Agree is (inner fs σ) σ' →
        (Ext (inner fs σ) σ' ∧ ∃ env R A b, EnvOk K R A H' σ' env ∧ t env = some b ∧ ∀ H3, Same H' H3 → if b = true then ∃ env R A d, EnvOk K R A H3 σ' env ∧ f env = some d ∧ RegC false K A H3 d (fun v H4 => N (zs ++ [v]) H4) else N zs H3))) := by
  have hl := compL_len hc
  refine ⟨fun i m zs H => m = ds.length - i ∧ i ≤ ds.length ∧ Same H1 H ∧ ∃ us rest, compL g t f (innerD fs env) (ds.drop i) = some rest ∧ us ++ rest = ys ∧ Rps K (av H A) us zs,
    ⟨ds.length, by simp, Nat.zero_le _, Same.refl _, [], ys, by simpa using hc, rfl, rps_nil⟩, ?_⟩
  rintro i m zs H ⟨rfl, hi, s1, us, rest, e1, e2, r⟩
  have hzs : zs.length ≤ sizeLine := by
    rw [rps_len r]
    have : us.length ≤ ys.length := by rw [← e2, List.length_append]; omega
    omega
  obtain ⟨hgo, hstop⟩ := hJ A H ⟨rfl, s1⟩ (k.mono s1).mu
  by_cases hlt : i < ds.length
  · have hx : ds[i]? = some ds[i] := by simp [hlt]
    obtain ⟨go, yl⟩ := hgo i _ hx
    rw [List.drop_eq_getElem_cons hlt, compL] at e1
    obtain ⟨env1, b1, e1⟩ := bind_some e1
    obtain ⟨b, b2, e1⟩ := bind_some e1
    refine .inr ⟨go, hzs, fun zs' H' => i + 1 ≤ ds.length ∧ Same H1 H' ∧ ∃ us rest, compL g t f (innerD fs env) (ds.drop (i + 1)) = some rest ∧ us ++ rest = ys ∧ Rps K (av H' A) us zs',
      fun zs' H' h => ⟨ds.length - (i + 1), by omega, rfl, h⟩, fun x H' hy => ?_⟩
    obtain ⟨s2, rx⟩ := yl x H' hy
    refine ⟨innerD fs env, ⟨H1, A, false⟩, A, ds[i], env1, (k.inn fs).mono (s1.trans s2), rx, b1, fun σ' k' ag => ⟨⟨ag.1.symm, fun j v ej => ?_⟩, env1, ⟨H1, A, false⟩, A, b, k', b2, fun H3 s3 => ?_⟩⟩
    · have hj : j ∉ is := fun hj => by
        have := hfs j hj
        unfold inner at ej
        rw [List.getElem?_map, this] at ej
        cases ej
      rw [ag.2 j hj]; exact ej
    · cases b with
      | true =>
        rw [if_pos rfl] at e1 ⊢
        obtain ⟨y, b3, e1⟩ := bind_some e1
        obtain ⟨rest', b4, e1⟩ := map_some e1
        subst e1
        refine ⟨env1, ⟨H1, A, false⟩, A, y, k'.mono s3, b3, fun v H4 s4 rv => ⟨hlt, ((s1.trans s2).trans s3).trans s4, us ++ [y], rest', b4, by rw [List.append_assoc]; exact e2, rps_append (r.mono (av_mono ((s2.trans s3).trans s4))) (rps_one rv)⟩⟩
      | false =>
        rw [if_neg Bool.false_ne_true] at e1 ⊢
        exact ⟨hlt, (s1.trans s2).trans s3, us, rest, e1, e2, r.mono (av_mono (s2.trans s3))⟩
  · have e : i = ds.length := by omega
    subst e
    rw [List.drop_length, compL] at e1
    cases e1
    rw [List.append_nil] at e2
    subst e2
    exact .inl ⟨hstop, hzs, (q.mono s1).at (by omega) r⟩
variable {elt tg iter : Expr} {ifs : List Expr} {pos : Pos} {src : Ev → Option (List Dat)} {is : List Nat} {g : Dat → Ev → Option Ev} {t : Ev → Option Bool} {f : Ev → Option Dat}
theorem n_comp (psc : Scope) (fs : List (Option Nat)) (N : List Str) (hp : X.env.scope = psc) (S : CompOk psc sc X.N N fs) (hc : X.calm = true) (hi : PId false X tg iter src)
    (hb : ∀ (C : Addr) (s : Shared) (H : Hp) (fp : List Addr), PGd is (compCx X sc N C s H fp) tg g ∧ PFd (compCx X sc N C s H fp) ifs t ∧ PXd false (compCx X sc N C s H fp) elt f)
    (hfs : ∀ i ∈ is, fs[i]? = some none) (hs : ∀ x, foldedSetIterable iter X.env x = pure x := by intro _; rfl) : PNd X (.ListComp elt [⟨tg, iter, ifs, 0⟩] sc pos) (dComp src fs g t f) := by
  refine PE.weak (pe_comp (g := fun v σ H Q => ∃ env R A d env', EnvOk X.K R A H σ env ∧ Rp X.K (av H A) d v ∧ g d env = some env' ∧ ∀ σ', EnvOk X.K R A H σ' env' → Agree is σ σ' → Q σ' H) (tt := fun σ H Q => ∃ env R A b, EnvOk X.K R A H σ env ∧ t env = some b ∧ ∀ H', Same H H' → Q b H') (te := fun σ H Q => ∃ env R A d, EnvOk X.K R A H σ env ∧ f env = some d ∧ RegC false X.K A H d Q) psc fs N hp S hc hi hb hs) fun σ H Q ⟨env, R, A, ys, k, e, q⟩ => ?_
  obtain ⟨ds, e1, e2⟩ := bind_some e
  exact ⟨env, R, A, ds, k, e1, fun J H1 hz s1 hJ => comp_go hfs (k.mono s1) hJ hz e2 (q.mono s1)⟩
end
end L2
namespace L2
open PySem PySem.Spec PyProof.Rows
noncomputable def TrX (h base : Heap) (e T : Addr) (cls : Value) (dct : Option Addr) (fl : Value) : Prop :=
  ∃ oe vs oT ts, h.get? e = some oe ∧ oe.cls = cls ∧ oe.dict = dct ∧ oe.data = .fields vs ∧ vs[1]? = some (.ref T) ∧ base.get? T = none ∧ T ≠ e ∧ h.get? T = some oT ∧ oT.data = .fields ts ∧ ts[3]? = some fl
section
variable {M : Model} {A : Around} {E : Value → Shared → Prop} {s : Shared}
end
end L2
namespace L2
open PySem PySem.Spec PyProof.Rows
inductive Fl where
  | next (env : Ev) | ret (d : Dat) | brk (env : Ev) | cont (env : Ev) | exc (env : Ev) (c : Str) (fs : List (Str × XD)) | no
noncomputable def NwT (K : PySem.W.Frag) (B : Bs) (H' : Hp) (d : Dat) (v : V) : Prop := ∀ ds, d = .lst ds → ∃ p vs, v = .ref p ∧ B.H₀ p = none ∧ H' p = some (.lst vs) ∧ ds.length ≤ sizeLine ∧ Rps K (av H' (ins B.R p)) ds vs
structure XSt (X : Cx) (pins : List (Addr × Obj)) (H : Hp) (h : Heap) (e C : Addr) (dct : Option Addr) : Prop where
  lo : X.s₀.heap.objs.size ≤ e
  un : H e = none
  ob : (∃ o vs, h.get? e = some o ∧ o.cls = .ref C ∧ o.dict = dct ∧ o.data = .fields vs ∧ vs[1]? = some .none) ∨ ∃ T, X.s₀.heap.objs.size ≤ T ∧ H T = none ∧ (∀ p ∈ X.pn ++ pins, p.1 ≠ T) ∧ TrX h X.base e T (.ref C) dct .none
  pe : ∀ p ∈ X.pn ++ pins, p.1 ≠ e
noncomputable def XW (X : Cx) (A : AS) (H : Hp) (σ : St) (c : Str) (fs : List (Str × XD)) : Prop :=
  ∀ (pins : List (Addr × Obj)) (s : Shared) (e C : Addr) (dct : Option Addr), Inv X pins σ H s → clsAt X.K c C → XSt X pins H s.heap e C dct → XFs X.K (av H A) dct fs → X.xe (.ref e) s
noncomputable def FlOk (fr : Bool) (X : Cx) (B : Bs) (A : AS) (H : Hp) (D : Ends) : Fl → Prop
  | .next env' => ∀ A' H' σ', Step A H A' H' → EnvOk X.K B A' H' σ' env' → D.nx σ' H'
  | .brk env' => ∀ A' H' σ', Step A H A' H' → EnvOk X.K B A' H' σ' env' → D.bk σ' H'
  | .cont env' => ∀ A' H' σ', Step A H A' H' → EnvOk X.K B A' H' σ' env' → D.ct σ' H'
  | .ret d => ∀ v H', Same B.H₀ H' → Rp X.K (av H' B.R) d v → (fr = true → NwT X.K B H' d v) → D.rt v H'
  | .exc env' c fs => ∀ A' H' σ', Step A H A' H' → EnvOk X.K B A' H' σ' env' → XW X A' H' σ' c fs
  | .no => False
noncomputable def tS (fr : Bool) (X : Cx) (g : Ev → Fl) : TS := fun D σ H => ∃ env B A, EnvOk X.K B A H σ env ∧ B.st = true ∧ FlOk fr X B A H D (g env)
noncomputable def PSd (fr : Bool) (X : Cx) (st : Stmt) (g : Ev → Fl) : Prop := PS X st (tS fr X g)
noncomputable def PBd (fr : Bool) (X : Cx) (st : List Stmt) (g : Ev → Fl) : Prop := PSs X st (tS fr X g)
theorem FlOk.step {fr : Bool} {X : Cx} {B : Bs} {A A' : AS} {H H' : Hp} {D : Ends} {r : Fl} (h : FlOk fr X B A H D r) (s : Step A H A' H') : FlOk fr X B A' H' D r := by
  cases r with
  | next e => exact fun A2 H2 σ2 s2 k => h A2 H2 σ2 (s.trans s2) k
  | brk e => exact fun A2 H2 σ2 s2 k => h A2 H2 σ2 (s.trans s2) k
  | cont e => exact fun A2 H2 σ2 s2 k => h A2 H2 σ2 (s.trans s2) k
  | ret d => exact h
  | exc e c fs => exact fun A2 H2 σ2 s2 k => h A2 H2 σ2 (s.trans s2) k
  | no => exact h
section
variable {fr m : Bool} {X : Cx} {st : Stmt} {rest a b : List Stmt} {e c : Expr} {g h : Ev → Fl} {f : Ev → Option Dat} {fs : Ev → Option (List Dat)} {t : Ev → Option Bool} {pos : Pos}
noncomputable def bNil : Ev → Fl := fun env => .next env
noncomputable def bCons (g h : Ev → Fl) : Ev → Fl := fun env => match g env with
  | .next env' => h env'
  | r => r
theorem b_nil : PBd fr X [] bNil := pss_nil.weak fun D σ H ⟨env, B, A, k, hst, q⟩ => q A H σ (Step.refl A H) k
theorem b_cons (h1 : PSd fr X st g) (h2 : PBd fr X rest h) : PBd fr X (st :: rest) (bCons g h) := (pss_cons h1 h2).weak fun D σ H zz => by
  obtain ⟨env, B, A, k, hst, q⟩ := zz
  refine ⟨env, B, A, k, hst, ?_⟩
  unfold bCons at q
  split at q
  · rename_i env' e
    rw [e]
    exact fun A' H' σ' s k' => ⟨env', B, A', k', hst, q.step s⟩
  · rename_i r hn
    cases e : g env with
    | next env' => exact absurd e (hn env')
    | brk e' => rw [e] at q; exact q
    | cont e' => rw [e] at q; exact q
    | ret d => rw [e] at q; exact q
    | exc e' c fs => rw [e] at q; exact q
    | no => rw [e] at q; exact q
theorem b_one (h1 : PSd fr X st g) : PBd fr X [st] g := pss_one h1
noncomputable def sIf (t : Ev → Option Bool) (g h : Ev → Fl) : Ev → Fl := fun env => match t env with
  | some true => g env
  | some false => h env
  | none => .no
theorem s_if (hc : PTd X c t) (ha : PBd fr X a g) (hb : PBd fr X b h) : PSd fr X (.If c a b pos) (sIf t g h) := (ps_if hc ha hb).weak fun D σ H zz => by
  obtain ⟨env, B, A, k, hst, q⟩ := zz
  unfold sIf at q
  split at q
  · rename_i e
    refine ⟨env, B, A, true, k, e, fun H' s => ?_⟩
    exact iteT ⟨env, B, A, k.mono s, hst, q.step (Step.same s)⟩
  · rename_i e
    refine ⟨env, B, A, false, k, e, fun H' s => ?_⟩
    exact iteF ⟨env, B, A, k.mono s, hst, q.step (Step.same s)⟩
  · exact q.elim
noncomputable def sRet (f : Ev → Option Dat) : Ev → Fl := fun env => match f env with
  | some d => .ret d
  | none => .no
theorem ret_ok {B : Bs} {A : AS} {H H' : Hp} {σ : St} {env : Ev} {d : Dat} {v : V} (k : EnvOk X.K B A H σ env) (s : Same H H') (r : Rp X.K (av H' A) d v) : Same B.H₀ H' ∧ Rp X.K (av H' B.R) d v := ⟨k.h0.trans s, r.mono (av_less k.ra)⟩
theorem s_ret (he : PXd false X e f) : PSd false X (.Return (some e) pos) (sRet f) := (ps_ret he).weak fun D σ H zz => by
  obtain ⟨env, B, A, k, hst, q⟩ := zz
  unfold sRet at q
  split at q
  · rename_i d e
    exact ⟨env, B, A, d, k, e, fun v H' s r => q v H' (ret_ok k s r).1 (ret_ok k s r).2 (fun z => by cases z)⟩
  · exact q.elim
theorem new_ok {B : Bs} {A : AS} {H H' : Hp} {σ : St} {env : Ev} {ds : List Dat} {p : Addr} {vs : List V} (k : EnvOk X.K B A H σ env) (hz : ds.length ≤ sizeLine) (s : Same H H') (hn : H p = none) (hp : H' p = some (.lst vs)) (r : Rps X.K (av H' (ins A p)) ds vs) : B.H₀ p = none ∧ B.R p = false ∧ Rps X.K (av H' (ins B.R p)) ds vs := by
  have h0 : B.H₀ p = none := k.h0.free hn
  refine ⟨h0, ?_, r.mono (av_less fun a ha => ?_)⟩
  · cases q : B.R p with
    | false => rfl
    | true => obtain ⟨o, ho⟩ := k.r0 p q; rw [h0] at ho; cases ho
  · rcases ins_or ha with z | z
    · exact ins_of (k.ra a z)
    · subst z; exact ins_self
theorem s_retN (he : PNd X e fs) : PSd fr X (.Return (some e) pos) (sRet (dL fs)) := (ps_ret he).weak fun D σ H zz => by
  obtain ⟨env, B, A, k, hst, q⟩ := zz
  unfold sRet at q
  split at q
  · rename_i d e
    obtain ⟨ds, e1, e2⟩ := map_some e
    subst e2
    refine ⟨env, B, A, ds, k, e1, fun p vs H' hz s hn hp r => ?_⟩
    obtain ⟨h1, h2, h3⟩ := new_ok k hz s hn hp r
    refine q (.ref p) H' (k.h0.trans s) (rp_lst hz (.inl (.inl (av_at hp h2))) (h3.mono (av_less fun a ha => ins_of ha))) fun _ ds' ed => ?_
    cases ed
    exact ⟨p, vs, rfl, h1, hp, hz, h3⟩
  · exact q.elim
theorem np_set {env : Ev} {i : Nat} {s : Slt} (h : ∀ (j : Nat) d, env[j]? ≠ some (.pk d)) (hs : ∀ d, s ≠ .pk d) : ∀ (j : Nat) d, (env.set i s)[j]? ≠ some (.pk d) := fun j d => by
  rw [List.getElem?_set]
  split
  · split
    · intro z; exact hs d (Option.some.inj z)
    · intro z; cases z
  · exact h j d
theorem EnvOk.own {K : PySem.W.Frag} {B : Bs} {A : AS} {H : Hp} {σ : St} {env : Ev} {i : Nat} {ds : List Dat} (k : EnvOk K B A H σ env) (hst : B.st = true) (h : env[i]? = some (.ow ds)) :
    ∃ a vs, σ[i]? = some (some (.ref a)) ∧ H a = some (.lst vs) ∧ Rps K (av H A) ds vs ∧ ds.length ≤ sizeLine ∧ A a = true ∧ B.R a = false ∧ B.H₀ a = none ∧
      (∀ ds' vs', ds'.length ≤ sizeLine → Rps K (av H A) ds' vs' → Step A H A (upd H a (.lst vs')) ∧ EnvOk K B A (upd H a (.lst vs')) σ (env.set i (.ow ds'))) ∧
      Step A H (fun b => A b && b != a) H ∧ EnvOk K B (fun b => A b && b != a) H σ (env.set i (.fz (.lst ds))) := by
  obtain ⟨own, h1, h2, h4⟩ := k.sl
  obtain ⟨x, q1, a, vs, e1, e2, hz, e3, e4⟩ := h4 i _ h
  subst e1
  obtain ⟨hA, hR⟩ := h2 i a e2
  have h0 : B.H₀ a = none := by
    rcases k.ar a hA with z | z
    · rw [z] at hR; cases hR
    · exact z
  have avs : ∀ vs', Same (av H A) (av (upd H a (.lst vs')) A) := fun vs' b o e => by
    obtain ⟨z1, z2⟩ := av_of e
    have hb : b ≠ a := by intro z; rw [z, hA] at z1; cases z1
    exact av_at (by rw [upd_ne hb]; exact z2) z1
  refine ⟨a, vs, q1, e3, e4, hz, hA, hR, h0, fun ds' vs' hz' r' => ⟨⟨fun b o hb hAb => ?_, fun b hb => .inl hb⟩, ?_⟩, ⟨fun b o hb _ => hb, fun b hb => .inl ?_⟩, ?_⟩
  · have hn : b ≠ a := by intro z; rw [z, hA] at hAb; cases hAb
    rw [upd_ne hn]; exact hb
  · refine ⟨fun b o hb => ?_, k.r0, k.ra, k.ar, fun b hb => ?_, by rw [List.length_set]; exact k.len, fun hs j d' => np_set (k.np hs) (fun _ z => by cases z) j d', own, h1, h2, fun j s e => ?_⟩
    · have hn : b ≠ a := ne_of_none hb h0
      rw [upd_ne hn]; exact k.h0 b o hb
    · by_cases hn : b = a
      · subst hn; rw [upd_same]; trivial
      · rw [upd_ne hn]; exact k.mu b hb
    · by_cases hj : i = j
      · subst hj
        rw [List.getElem?_set, if_pos rfl] at e
        split at e
        · cases e
          exact ⟨_, q1, a, vs', rfl, e2, hz', upd_same, r'.mono (avs vs')⟩
        · cases e
      · rw [List.getElem?_set, if_neg hj] at e
        obtain ⟨x, p1, p2⟩ := h4 j s e
        refine ⟨x, p1, ?_⟩
        cases s with
        | un => trivial
        | fz d => obtain ⟨v, z1, z2⟩ := p2; exact ⟨v, z1, z2.mono (avs vs')⟩
        | pk d =>
          exact absurd e (k.np hst j d)
        | ow es =>
          obtain ⟨b, us, z1, z2, z3, z4, z5⟩ := p2
          have hn : b ≠ a := fun z => hj (h1 i j a e2 (z ▸ z2))
          exact ⟨b, us, z1, z2, z3, by rw [upd_ne hn]; exact z4, z5.mono (avs vs')⟩
  · rw [Bool.and_eq_true] at hb; exact hb.1
  · have less : Same (av H A) (av H fun b => A b && b != a) := av_less fun b hb => by rw [Bool.and_eq_true] at hb; exact hb.1
    refine ⟨k.h0, k.r0, fun b hb => ?_, fun b hb => ?_, fun b hb => ?_, by rw [List.length_set]; exact k.len, fun hs j d' => np_set (k.np hs) (fun _ z => by cases z) j d', fun j b => j ≠ i ∧ own j b, fun j j' b z z' => h1 j j' b z.2 z'.2, fun j b z => ?_, fun j s e => ?_⟩
    · have hn : b ≠ a := by intro z; rw [z, hR] at hb; cases hb
      simp [k.ra b hb, hn]
    · rw [Bool.and_eq_true] at hb; exact k.ar b hb.1
    · rw [Bool.and_eq_true] at hb; exact k.mu b hb.1
    · have hn : b ≠ a := fun w => z.1 (h1 j i a (w ▸ z.2) e2)
      simp [(h2 j b z.2).1, (h2 j b z.2).2, hn]
    · by_cases hj : i = j
      · subst hj
        rw [List.getElem?_set, if_pos rfl] at e
        split at e
        · cases e
          exact ⟨_, q1, .ref a, rfl, rp_lst hz (.inl (.inl (av_at e3 (by simp)))) (e4.mono less)⟩
        · cases e
      · rw [List.getElem?_set, if_neg hj] at e
        obtain ⟨x, p1, p2⟩ := h4 j s e
        refine ⟨x, p1, ?_⟩
        cases s with
        | un => trivial
        | fz d => obtain ⟨v, z1, z2⟩ := p2; exact ⟨v, z1, z2.mono less⟩
        | pk d =>
          obtain ⟨v, z1, z2⟩ := p2
          refine ⟨v, z1, ?_⟩
          rcases z2 with z2 | ⟨b, us, es, y1, y2, y3, y4, y5⟩
          · exact .inl (z2.mono less)
          · exact .inr ⟨b, us, es, y1, y2, y3, y4, y5.mono less⟩
        | ow es =>
          obtain ⟨b, us, z1, z2, z3, z4, z5⟩ := p2
          exact ⟨b, us, z1, ⟨Ne.symm hj, z2⟩, z3, z4, z5.mono less⟩
noncomputable def sRetO (i : Nat) : Ev → Fl := fun env => match env[i]? with
  | some (.ow ds) => .ret (.lst ds)
  | _ => .no
theorem s_retO (i : Nat) {x : Str} {p : Pos} (hN : X.N[i]? = some x := by rfl) (hv : Vis X.env.scope x := by first | exact Or.inl rfl | exact Or.inr (Or.inl rfl) | exact Or.inr (Or.inr rfl)) (hd : (x == ("__debug__" : Str)) = false := by decide)
    (hcd : (x == ("__classdict__" : Str)) = false := by decide) : PSd fr X (.Return (some (.Name x p)) pos) (sRetO i) := (ps_ret (pe_var hN hv hd hcd)).weak fun D σ H zz => by
  obtain ⟨env, B, A, k, hst, q⟩ := zz
  unfold sRetO at q
  split at q
  · rename_i ds e
    obtain ⟨a, vs, h1, h2, h3, hz, hA, hR, h0, _⟩ := k.own hst e
    have less : ∀ b, ins B.R a b = true → A b = true := fun b hb => by
      rcases ins_or hb with z | z
      · exact k.ra b z
      · rw [z]; exact hA
    have r := h3.mono (av_less (H := H) less)
    refine ⟨.ref a, h1, q (.ref a) H k.h0 (rp_lst hz (.inl (.inl (av_at h2 hR))) (r.mono (av_less fun b hb => ins_of hb))) fun _ ds' ed => ?_⟩
    cases ed
    exact ⟨a, vs, rfl, h0, h2, hz, r⟩
  · exact q.elim
noncomputable def sSet (i : Nat) (f : Ev → Option Dat) : Ev → Fl := fun env => match f env with
  | some d => .next (env.set i (.fz d))
  | none => .no
noncomputable def sOwn (i : Nat) (f : Ev → Option (List Dat)) : Ev → Fl := fun env => match f env with
  | some ds => .next (env.set i (.ow ds))
  | none => .no
theorem EnvOk.putO {K : PySem.W.Frag} {B : Bs} {A : AS} {H H' : Hp} {σ : St} {env : Ev} (k : EnvOk K B A H σ env) (hst : B.st = true) (i : Nat) {ds : List Dat} {p : Addr} {vs : List V} (hz : ds.length ≤ sizeLine) (s : Same H H') (hn : H p = none) (hp : H' p = some (.lst vs)) (r : Rps K (av H' (ins A p)) ds vs) :
    Step A H (ins A p) H' ∧ EnvOk K B (ins A p) H' (σ.set i (some (.ref p))) (env.set i (.ow ds)) := by
  have st : Step A H (ins A p) H' := ⟨fun a o h _ => s a o h, fun a h => by
    rcases ins_or h with z | z
    · exact .inl z
    · rw [z]; exact .inr hn⟩
  have hAp : A p = false := k.mu.new hn
  have h0 : B.H₀ p = none := k.h0.free hn
  obtain ⟨own, h1, h2, h4⟩ := k.sl
  refine ⟨st, k.h0.trans s, k.r0, fun a h => ins_of (k.ra a h), fun a h => ?_, fun a h => ?_, by rw [List.length_set, List.length_set]; exact k.len, fun hs j d' => np_set (k.np hs) (fun _ z => by cases z) j d',
    fun j a => (j ≠ i ∧ own j a) ∨ (j = i ∧ a = p), fun j j' a z z' => ?_, fun j a z => ?_, fun j sl e => ?_⟩
  · rcases ins_or h with z | z
    · exact k.ar a z
    · rw [z]; exact .inr h0
  · rcases ins_or h with z | z
    · exact k.mu.mono s a z
    · rw [z, hp]; trivial
  · rcases z with z | z <;> rcases z' with z' | z'
    · exact h1 j j' a z.2 z'.2
    · have := (h2 j a z.2).1; rw [z'.2, hAp] at this; cases this
    · have := (h2 j' a z'.2).1; rw [z.2, hAp] at this; cases this
    · rw [z.1, z'.1]
  · rcases z with z | z
    · exact ⟨ins_of (h2 j a z.2).1, (h2 j a z.2).2⟩
    · refine ⟨by rw [z.2]; exact ins_self, ?_⟩
      cases q : B.R a with
      | false => rfl
      | true => obtain ⟨o, ho⟩ := k.r0 a q; rw [z.2, h0] at ho; cases ho
  · by_cases hj : i = j
    · subst hj
      rw [List.getElem?_set, if_pos rfl] at e
      split at e
      · rename_i hl
        cases e
        exact ⟨some (.ref p), by rw [List.getElem?_set, if_pos rfl, if_pos (by rw [k.len]; exact hl)], p, vs, rfl, .inr ⟨rfl, rfl⟩, hz, hp, r⟩
      · cases e
    · rw [List.getElem?_set, if_neg hj] at e
      obtain ⟨x, p1, p2⟩ := h4 j sl e
      refine ⟨x, by rw [List.getElem?_set, if_neg hj]; exact p1, ?_⟩
      cases sl with
      | un => trivial
      | fz d => obtain ⟨v, z1, z2⟩ := p2; exact ⟨v, z1, z2.mono st.av⟩
      | pk d => exact absurd e (k.np hst j d)
      | ow es =>
        obtain ⟨b, us, z1, z2, z3, z4, z5⟩ := p2
        exact ⟨b, us, z1, .inl ⟨Ne.symm hj, z2⟩, z3, s _ _ z4, z5.mono st.av⟩
theorem s_set (i : Nat) {x : Str} {pos' : Pos} (hN : X.N.Nodup) (hi : X.N[i]? = some x) (hx : Loc X.env.scope x) (he : PXd false X e f) (hs : swapsWith e (some (.Name x pos')) pos.line X.env = pure false := by rfl)
    (hf : X.fn x = true ∨ X.env.scope.names.lookup x = some .local := by first | exact .inl rfl | exact .inr rfl | assumption) : PSd fr X (.Assign [.Name x pos'] e pos) (sSet i f) := (ps_set hN hi hx he hs hf).weak fun D σ H zz => by
  obtain ⟨env, B, A, k, hst, q⟩ := zz
  unfold sSet at q
  split at q
  · rename_i d e
    exact ⟨env, B, A, d, k, e, fun v H' s r => q A H' _ (Step.same s) ((k.mono s).put i r)⟩
  · exact q.elim
theorem s_own (i : Nat) {x : Str} {pos' : Pos} (hN : X.N.Nodup) (hi : X.N[i]? = some x) (hx : Loc X.env.scope x) (he : PNd X e fs) (hs : swapsWith e (some (.Name x pos')) pos.line X.env = pure false := by rfl)
    (hf : X.fn x = true ∨ X.env.scope.names.lookup x = some .local := by first | exact .inl rfl | exact .inr rfl | assumption) : PSd fr X (.Assign [.Name x pos'] e pos) (sOwn i fs) := (ps_set hN hi hx he hs hf).weak fun D σ H zz => by
  obtain ⟨env, B, A, k, hst, q⟩ := zz
  unfold sOwn at q
  split at q
  · rename_i ds e
    refine ⟨env, B, A, ds, k, e, fun p vs H' hz s hn hp r => ?_⟩
    obtain ⟨h1, h2⟩ := k.putO hst i hz s hn hp r
    exact q _ H' _ h1 h2
  · exact q.elim
variable {sc : Scope} {elt tg iter : Expr} {ifs : List Expr} {src : Ev → Option (List Dat)} {is : List Nat} {gg : Dat → Ev → Option Ev} {tt : Ev → Option Bool}
theorem s_ownC (i : Nat) {x : Str} {pos' spos : Pos} (hN : X.N.Nodup) (hi' : X.N[i]? = some x) (hx : Loc X.env.scope x) (psc : Scope) (fs : List (Option Nat)) (N : List Str) (hp : X.env.scope = psc) (S : CompOk psc sc X.N N fs) (hc : X.calm = true) (hi : PId false X tg iter src)
    (hb : ∀ (C : Addr) (s : Shared) (H : Hp) (fp : List Addr), PGd is (compCx X sc N C s H fp) tg gg ∧ PFd (compCx X sc N C s H fp) ifs tt ∧ PXd false (compCx X sc N C s H fp) elt f)
    (hfs : ∀ i ∈ is, fs[i]? = some none) (hs : ∀ x, foldedSetIterable iter X.env x = pure x := by intro _; rfl) (hsw : swapsWith (.ListComp elt [⟨tg, iter, ifs, 0⟩] sc pos) (some (.Name x pos')) spos.line X.env = pure true := by rfl)
    (hf : X.fn x = true ∨ X.env.scope.names.lookup x = some .local := by first | exact .inl rfl | exact .inr rfl | assumption) :
    PSd fr X (.Assign [.Name x pos'] (.ListComp elt [⟨tg, iter, ifs, 0⟩] sc pos) spos) (sOwn i (dComp src fs gg tt f)) := (ps_setComp (g := fun v σ H Q => ∃ env R A d env', EnvOk X.K R A H σ env ∧ Rp X.K (av H A) d v ∧ gg d env = some env' ∧ ∀ σ', EnvOk X.K R A H σ' env' → Agree is σ σ' → Q σ' H) (tt := fun σ H Q => ∃ env R A b, EnvOk X.K R A H σ env ∧ tt env = some b ∧ ∀ H', Same H H' → Q b H') (te := fun σ H Q => ∃ env R A d, EnvOk X.K R A H σ env ∧ f env = some d ∧ RegC false X.K A H d Q) hN hi' hx psc fs N hp S hc hi hb hs hsw hf).weak fun D σ H zz => by
  obtain ⟨env, B, A, k, hst, q⟩ := zz
  unfold sOwn at q
  split at q
  · rename_i ys e
    obtain ⟨ds, e1, e2⟩ := bind_some e
    refine ⟨env, B, A, ds, k, e1, fun J H1 hz s1 hJ => comp_go (Q := fun v H' => D.nx (σ.set i (some v)) H') hfs (k.mono s1) hJ hz e2 fun p vs H' hz' s hn hp r => ?_⟩
    obtain ⟨h1, h2⟩ := k.putO hst i hz' (s1.trans s) (s1.free hn) hp r
    exact q _ H' _ h1 h2
  · exact q.elim
theorem s_setC (i : Nat) {x : Str} {pos' spos : Pos} (hN : X.N.Nodup) (hi' : X.N[i]? = some x) (hx : Loc X.env.scope x) (psc : Scope) (fs : List (Option Nat)) (N : List Str) (hp : X.env.scope = psc) (S : CompOk psc sc X.N N fs) (hc : X.calm = true) (hi : PId false X tg iter src)
    (hb : ∀ (C : Addr) (s : Shared) (H : Hp) (fp : List Addr), PGd is (compCx X sc N C s H fp) tg gg ∧ PFd (compCx X sc N C s H fp) ifs tt ∧ PXd false (compCx X sc N C s H fp) elt f)
    (hfs : ∀ i ∈ is, fs[i]? = some none) (hs : ∀ x, foldedSetIterable iter X.env x = pure x := by intro _; rfl) (hsw : swapsWith (.ListComp elt [⟨tg, iter, ifs, 0⟩] sc pos) (some (.Name x pos')) spos.line X.env = pure true := by rfl)
    (hf : X.fn x = true ∨ X.env.scope.names.lookup x = some .local := by first | exact .inl rfl | exact .inr rfl | assumption) :
    PSd fr X (.Assign [.Name x pos'] (.ListComp elt [⟨tg, iter, ifs, 0⟩] sc pos) spos) (sSet i (dL (dComp src fs gg tt f))) := (ps_setComp (g := fun v σ H Q => ∃ env R A d env', EnvOk X.K R A H σ env ∧ Rp X.K (av H A) d v ∧ gg d env = some env' ∧ ∀ σ', EnvOk X.K R A H σ' env' → Agree is σ σ' → Q σ' H) (tt := fun σ H Q => ∃ env R A b, EnvOk X.K R A H σ env ∧ tt env = some b ∧ ∀ H', Same H H' → Q b H') (te := fun σ H Q => ∃ env R A d, EnvOk X.K R A H σ env ∧ f env = some d ∧ RegC false X.K A H d Q) hN hi' hx psc fs N hp S hc hi hb hs hsw hf).weak fun D σ H zz => by
  obtain ⟨env, B, A, k, hst, q⟩ := zz
  unfold sSet at q
  split at q
  · rename_i d e
    obtain ⟨ys, e', ed⟩ := map_some e
    subst ed
    obtain ⟨ds, e1, e2⟩ := bind_some e'
    have q' : RegC false X.K A H (.lst ys) (fun v H' => D.nx (σ.set i (some v)) H') := fun v H' s r => q A H' _ (Step.same s) ((k.mono s).put i r)
    exact ⟨env, B, A, ds, k, e1, fun J H1 hz s1 hJ => comp_go (Q := fun v H' => D.nx (σ.set i (some v)) H') hfs (k.mono s1) hJ hz e2 ((q'.new k.mu).mono s1)⟩
  · exact q.elim
noncomputable def sAsg (f : Ev → Option Dat) (g : Dat → Ev → Option Ev) : Ev → Fl := fun env => match (f env).bind fun d => g d env with
  | some env' => .next env'
  | none => .no
theorem s_asg {tg e : Expr} {is : List Nat} {g : Dat → Ev → Option Ev} (he : PXd false X e f) (hg : PGd is X tg g) (hs : swapsWithSole [tg] e pos.line X.env = pure false := by rfl) (hw : swappedStores [tg] e X.env = pure none := by rfl) (h1 : (assignEach [tg] X.env).map (·.2) = [assign tg X.env] := by rfl) : PSd fr X (.Assign [tg] e pos) (sAsg f g) := (ps_asg he hg hs hw h1).weak fun D σ H zz => by
  obtain ⟨env, B, A, k, hst, q⟩ := zz
  unfold sAsg at q
  split at q
  · rename_i env' e
    obtain ⟨d, e1, e2⟩ := bind_some e
    exact ⟨env, B, A, d, k, e1, fun v H' s r => ⟨env, B, A, d, env', k.mono s, r, e2, fun σ' k' _ => q A H' σ' (Step.same s) k'⟩⟩
  · exact q.elim
noncomputable def forL (g : Dat → Ev → Option Ev) (body : Ev → Fl) : List Dat → Ev → Fl
  | [], env => .next env
  | x :: xs, env => match g x env with
    | none => .no
    | some env1 => match body env1 with
      | .next e => forL g body xs e
      | .cont e => forL g body xs e
      | .brk e => .next e
      | .ret d => .ret d
      | .exc e c fs => .exc e c fs
      | .no => .no
noncomputable def sFor (src : Ev → Option (List Dat)) (g : Dat → Ev → Option Ev) (body : Ev → Fl) : Ev → Fl := fun env => match src env with
  | none => .no
  | some ds => forL g body ds env
theorem s_for {body : List Stmt} (hp : PassesOwn (model X.prog X.w) X.A X.env X.xe) (hc : X.calm = true) (hi : PId true X tg iter src) (hg : PGd is X tg gg) (hb : PBd fr X body g)
    (hs : ∀ x, foldedSetIterable iter X.env x = pure x := by intro _; rfl) : PSd fr X (.For tg iter body [] pos) (sFor src gg g) := (ps_for hp hc hi hg hb hs).weak fun D σ H zz => by
  obtain ⟨env, B, A, k, hst, q⟩ := zz
  unfold sFor at q
  split at q
  · exact q.elim
  rename_i ds e
  refine ⟨env, B, A, ds, k, e, fun J H1 hz s1 hJ => ?_⟩
  refine ⟨fun i m σ' H' => m = ds.length - i ∧ i ≤ ds.length ∧ ∃ A' env', Step A H1 A' H' ∧ EnvOk X.K B A' H' σ' env' ∧ FlOk fr X B A' H' D (forL gg g (ds.drop i) env'),
    ⟨ds.length, by simp, Nat.zero_le _, A, env, Step.refl A H1, k.mono s1, by simpa using q.step (Step.same s1)⟩, ?_⟩
  rintro i m σ' H' ⟨rfl, hi', A', env', s', k', q'⟩
  obtain ⟨hgo, hstop⟩ := hJ A' H' s' k'.mu
  by_cases hlt : i < ds.length
  · obtain ⟨go, yl⟩ := hgo i _ (show ds[i]? = some ds[i] by simp [hlt])
    refine .inr ⟨go, fun σ2 H2 => i + 1 ≤ ds.length ∧ ∃ A2 env2, Step A H1 A2 H2 ∧ EnvOk X.K B A2 H2 σ2 env2 ∧ FlOk fr X B A2 H2 D (forL gg g (ds.drop (i + 1)) env2), fun σ2 H2 z => ⟨ds.length - (i + 1), by omega, rfl, z⟩, fun x H2 hy => ?_⟩
    obtain ⟨s2, rx⟩ := yl x H2 hy
    rw [List.drop_eq_getElem_cons hlt, forL] at q'
    split at q'
    · exact q'.elim
    rename_i env1 e1
    refine ⟨env', B, A', ds[i], env1, k'.mono s2, rx, e1, fun σ3 k3 _ => ⟨env1, B, A', k3, hst, ?_⟩⟩
    have st2 : Step A' H' A' H2 := Step.same s2
    split at q'
    · rename_i e2 eb
      rw [eb]
      exact fun A4 H4 σ4 s4 k4 => ⟨hlt, A4, e2, s'.trans (st2.trans s4), k4, q'.step (st2.trans s4)⟩
    · rename_i e2 eb
      rw [eb]
      exact fun A4 H4 σ4 s4 k4 => ⟨hlt, A4, e2, s'.trans (st2.trans s4), k4, q'.step (st2.trans s4)⟩
    · rename_i e2 eb
      rw [eb]
      exact fun A4 H4 σ4 s4 k4 => q' A4 H4 σ4 (st2.trans s4) k4
    · rename_i d eb
      rw [eb]
      exact q'
    · rename_i e2 c2 f2 eb
      rw [eb]
      exact fun A4 H4 σ4 s4 k4 => q' A4 H4 σ4 (st2.trans s4) k4
    · exact q'.elim
  · have e : i = ds.length := by omega
    subst e
    rw [List.drop_length, forL] at q'
    exact .inl ⟨hstop, q' A' H' σ' (Step.refl _ _) k'⟩
noncomputable def whileN (t : Ev → Option Bool) (body : Ev → Fl) : Nat → Ev → Fl
  | 0, _ => .no
  | n + 1, env => match t env with
    | none => .no
    | some false => .next env
    | some true => match body env with
      | .next e => whileN t body n e
      | .cont e => whileN t body n e
      | .brk e => .next e
      | .ret d => .ret d
      | .exc e c fs => .exc e c fs
      | .no => .no
theorem whileN_mono {t : Ev → Option Bool} {body : Ev → Fl} : ∀ {n : Nat} {env : Ev} (k : Nat), whileN t body n env ≠ .no → whileN t body (n + k) env = whileN t body n env
  | 0, env, k, h => absurd rfl h
  | n + 1, env, k, h => by
    rw [show n + 1 + k = (n + k) + 1 by omega]
    simp only [whileN] at h ⊢
    split
    · rfl
    · rfl
    · rename_i e1
      simp only [e1] at h
      split
      · rename_i e2 eb; simp only [eb] at h; exact whileN_mono k h
      · rename_i e2 eb; simp only [eb] at h; exact whileN_mono k h
      · rfl
      · rfl
      · rfl
      · rfl
open Classical in
noncomputable def sWhile (t : Ev → Option Bool) (body : Ev → Fl) : Ev → Fl := fun env => if h : ∃ n, whileN t body n env ≠ .no then whileN t body (Classical.choose h) env else .no
theorem sWhile_eq {t : Ev → Option Bool} {body : Ev → Fl} {n : Nat} {env : Ev} (h : whileN t body n env ≠ .no) : sWhile t body env = whileN t body n env := by
  unfold sWhile
  have hx : ∃ n, whileN t body n env ≠ .no := ⟨n, h⟩
  rw [dif_pos hx]
  have hc := Classical.choose_spec hx
  have e1 := whileN_mono n hc
  have e2 := whileN_mono (Classical.choose hx) h
  rw [← e1, ← e2, Nat.add_comm]
theorem s_while {body : List Stmt} (hp : PassesOwn (model X.prog X.w) X.A X.env X.xe) (hc : PTd X c t) (hb : PBd fr X body g) : PSd fr X (.While c body [] pos) (sWhile t g) := (ps_while hp hc hb).weak fun D σ H zz => by
  obtain ⟨env, B, A, k, hst, q⟩ := zz
  unfold sWhile at q
  split at q
  · rename_i hx
    refine ⟨fun n σ' H' => ∃ A' env', EnvOk X.K B A' H' σ' env' ∧ FlOk fr X B A' H' D (whileN t g n env'), ⟨_, A, env, k, q⟩, ?_⟩
    rintro n σ' H' ⟨A', env', k', q'⟩
    cases n with
    | zero => exact q'.elim
    | succ n =>
      rw [whileN] at q'
      split at q'
      · exact q'.elim
      · rename_i e1
        refine ⟨env', B, A', false, k', e1, fun H1 s1 => ?_⟩
        refine iteF ?_
        exact q' A' H1 σ' (Step.same s1) (k'.mono s1)
      · rename_i e1
        refine ⟨env', B, A', true, k', e1, fun H1 s1 => ?_⟩
        refine iteT ?_
        refine ⟨fun σ2 H2 => ∃ A2 env2, EnvOk X.K B A2 H2 σ2 env2 ∧ FlOk fr X B A2 H2 D (whileN t g n env2), fun σ2 H2 z => ⟨n, Nat.lt_succ_self n, z⟩, env', B, A', k'.mono s1, hst, ?_⟩
        have st2 : Step A' H' A' H1 := Step.same s1
        split at q'
        · rename_i e2 eb
          rw [eb]
          exact fun A4 H4 σ4 s4 k4 => ⟨A4, e2, k4, q'.step (st2.trans s4)⟩
        · rename_i e2 eb
          rw [eb]
          exact fun A4 H4 σ4 s4 k4 => ⟨A4, e2, k4, q'.step (st2.trans s4)⟩
        · rename_i e2 eb
          rw [eb]
          exact fun A4 H4 σ4 s4 k4 => q' A4 H4 σ4 (st2.trans s4) k4
        · rename_i d eb
          rw [eb]
          exact q'
        · rename_i e2 c2 f2 eb
          rw [eb]
          exact fun A4 H4 σ4 s4 k4 => q' A4 H4 σ4 (st2.trans s4) k4
        · exact q'.elim
  · exact q.elim
noncomputable def MtU (X : Cx) (id : String) (F : List Dat → List Dat → Option (List Dat)) : Prop := MtR X id (fun v us H Q => ∃ A a vs ds as ds', MuOk A H ∧ v = .ref a ∧ H a = some (.lst vs) ∧ Rps X.K (av H A) ds vs ∧ Rms false X.K A H as us ∧ F ds as = some ds' ∧ ∀ w vs', ds'.length ≤ sizeLine → Rps X.K (av H A) ds' vs' → Q w (upd H a (.lst vs')))
noncomputable def sMeth (i : Nat) (F : List Dat → List Dat → Option (List Dat)) (fs : Ev → Option (List Dat)) : Ev → Fl := fun env => match env[i]? with
  | some (.ow ds) => match (fs env).bind fun as => F ds as with
    | some ds' => .next (env.set i (.ow ds'))
    | none => .no
  | _ => .no
theorem s_meth (i : Nat) {x : Str} {es : List Expr} {name : Str} {id : String} {F : List Dat → List Dat → Option (List Dat)} {p apos cpos : Pos} (slot : Slot "list" name id) (hty : typeOf (.builtin id) = pure (.type "method_descriptor")) (hm : MtU X id F) (ha : PAd false X (e :: es) fs)
    (hN : X.N[i]? = some x := by rfl) (hv : Vis X.env.scope x := by first | exact Or.inl rfl | exact Or.inr (Or.inl rfl) | exact Or.inr (Or.inr rfl)) (hd : (x == ("__debug__" : Str)) = false := by decide) (hcd : (x == ("__classdict__" : Str)) = false := by decide)
    (hsw : swapsWith (.Call (.Attribute (.Name x p) name apos) (e :: es) [] cpos) none pos.line X.env = pure false := by rfl)
    (hbase : attributeBase (.Name x p) name X.env (eval (.Name x p) X.env) = eval (.Name x p) X.env := by rfl)
    (hfew : ((backTo cpos (starEach (e :: es) X.env)).all (fun x => !x.1) && (backToKw cpos (keywordEach [] X.env)).all (fun x => x.1.isSome)
      && decide ((e :: es).length + ([] : List Keyword).length + (if ([] : List Keyword).isEmpty then 0 else 1) < 30)) = true := by rfl)
    (hline : (apos.endLine == cpos.line) = true := by rfl) (hs : starEach (e :: es) X.env = (false, eval e X.env) :: starEach es X.env := by rfl) (hplain : (backTo cpos (starEach es X.env)).any (·.1) = false := by rfl) :
    PSd fr X (.Expr (.Call (.Attribute (.Name x p) name apos) (e :: es) [] cpos) pos) (sMeth i F fs) := (ps_expr (pe_bm PySem.F.plainAttrs_list slot hty hm (pe_var hN hv hd hcd) ha hbase hfew hline hs hplain) hsw).weak fun D σ H zz => by
  obtain ⟨env, B, A, k, hst, q⟩ := zz
  unfold sMeth at q
  split at q
  · rename_i ds e
    split at q
    · rename_i ds' e2
      obtain ⟨as, e3, e4⟩ := bind_some e2
      obtain ⟨a, vs, h1, h2, h3, _⟩ := k.own hst e
      refine ⟨.ref a, h1, .inl ⟨rfl, vs, SqL.of h2⟩, env, B, A, as, k, e3, fun us H2 s2 rs => ?_⟩
      have k2 := k.mono s2
      obtain ⟨a', vs', g1, g2, g3, _, _, _, _, g4, _⟩ := k2.own hst e
      rw [h1] at g1
      cases g1
      refine ⟨A, a, vs', ds, as, ds', k2.mu, rfl, g2, g3, rs, e4, fun w vs2 hz r2 => ?_⟩
      obtain ⟨z1, z2⟩ := g4 ds' vs2 hz r2
      exact q A _ σ ((Step.same s2).trans z1) z2
    · exact q.elim
  · exact q.elim
noncomputable def appendF : List Dat → List Dat → Option (List Dat)
  | ds, [d] => if ds.length < sizeLine then some (ds ++ [d]) else none
  | _, _ => none
theorem m_append : MtU X "list.append" appendF := MtR.weak (id := "list.append") mt_append fun v us H Q zz => by
  obtain ⟨A, a, vs, ds, as, ds', mu, e1, h1, r1, r2, e2, q⟩ := zz
  unfold appendF at e2
  split at e2
  · rename_i d
    split at e2
    · rename_i hl
      cases e2
      obtain ⟨w, us', e3, r3, e4⟩ := r2
      refine ⟨a, vs, w, e1, by rw [e3, show us' = [] from e4], h1, by rw [rps_len r1]; exact hl, q _ _ (by simp; omega) (rps_append r1 (rps_one r3))⟩
    · cases e2
  · cases e2
end
inductive Rs where
  | ok (d : Dat) | exc (c : Str) (fs : List (Str × XD)) | no
noncomputable def startD (n : Nat) (ds : List Dat) : Ev := ds.map .fz ++ List.replicate (n - ds.length) .un
noncomputable def runD (n p : Nat) (g : Ev → Fl) : List Dat → Rs := fun ds => if ds.length = p then (match g (startD n ds) with
  | .ret d => .ok d
  | .next _ => .ok .non
  | .exc _ c fs => .exc c fs
  | _ => .no) else .no
noncomputable def spD (K : PySem.W.Frag) (fr : Bool) (p : Nat) (F : List Dat → Rs) : Sp := fun vs H Q _ => vs.length = p ∧ ∃ ds R d, MuOk R H ∧ Rps K (av H R) ds vs ∧ F ds = .ok d ∧ ∀ v H', Same H H' → Rp K (av H' R) d v → (fr = true → NwT K ⟨H, R, true⟩ H' d v) → Q v H'
structure CalD (P : Program) (w : World) (K : PySem.W.Frag) (mg : Str → Option Value) (base : Heap) (k : Nat) (x : Str) (ps : List Str) (fr : Bool) (F : List Dat → Rs) : Prop where
  cal : Cal P w K mg base k x ps (spD K fr ps.length F)
  len : ∀ ds d, F ds = .ok d → ds.length = ps.length
theorem Mtb.some {o : Option HO} (h : Mtb o) : ∃ u, o = Option.some u := by
  cases o with
  | none => exact h.elim
  | some u => exact ⟨u, rfl⟩
theorem start_ok {K : PySem.W.Frag} {H : Hp} {R : AS} {N : List Str} {ds : List Dat} {vs : List V} (mu : MuOk R H) (r : Rps K (av H R) ds vs) (hl : ds.length ≤ N.length) : EnvOk K ⟨H, R, true⟩ R H (start N vs) (startD N.length ds) := by
  have hn := rps_len r
  refine ⟨Same.refl H, fun a h => (mu a h).some, fun _ h => h, fun _ h => .inl h, mu, by simp [start, startD]; omega, fun _ i d => ?_, fun _ _ => False, fun _ _ _ h => h.elim, fun _ _ h => h.elim, fun i s e => ?_⟩
  · unfold startD
    rw [List.getElem?_append]
    split
    · rw [List.getElem?_map]
      cases ds[i]? <;> simp
    · rw [List.getElem?_replicate]
      split <;> simp
  · unfold startD at e
    unfold start
    rw [List.getElem?_append] at e ⊢
    simp only [List.length_map] at e ⊢
    rw [hn]
    split at e
    · rename_i hi
      rw [if_pos hi]
      rw [List.getElem?_map] at e ⊢
      cases hd : ds[i]? with
      | none => rw [hd] at e; cases e
      | some d =>
        rw [hd] at e
        cases e
        obtain ⟨v, h1, h2⟩ := rps_get r hd
        rw [h1]
        exact ⟨some v, rfl, v, rfl, h2⟩
    · rename_i hi
      rw [if_neg hi]
      rw [List.getElem?_replicate] at e ⊢
      split at e
      · rename_i h2
        cases e
        rw [if_pos h2]
        exact ⟨none, rfl, trivial⟩
      · cases e
theorem run_body {fr : Bool} {X : Cx} {N : List Str} {p : Nat} {g : Ev → Fl} {ds : List Dat} {d : Dat} {R : AS} {H : Hp} {vs : List V} {Q : VK} (hp : p ≤ N.length) (mu : MuOk R H) (r : Rps X.K (av H R) ds vs) (hF : runD N.length p g ds = .ok d)
    (q : ∀ v H', Same H H' → Rp X.K (av H' R) d v → (fr = true → NwT X.K ⟨H, R, true⟩ H' d v) → Q v H') :
    tS fr X g (Ends.mk (fun _ H' => Q .non H') Q (fun _ _ => False) (fun _ _ => False)) (start N vs) H := by
  unfold runD at hF
  split at hF
  · rename_i hl
    refine ⟨startD N.length ds, ⟨H, R, true⟩, R, start_ok mu r (by omega), rfl, ?_⟩
    split at hF
    · rename_i d' e
      cases hF
      rw [e]
      exact fun v H' s r n => q v H' s r n
    · rename_i env e
      cases hF
      rw [e]
      exact fun A' H' σ' s k => q .non H' k.h0 rp_non (fun _ ds e => by cases e)
    · cases hF
    · cases hF
  · cases hF
section
variable {P : Program} {w : World} {K : PySem.W.Frag} {mg : Str → Option Value} {base : Heap}
theorem runD_len {n p : Nat} {g : Ev → Fl} {ds : List Dat} {d : Dat} (h : runD n p g ds = .ok d) : ds.length = p := by
  unfold runD at h
  split at h
  · assumption
  · cases h
theorem ar0 {α : Type} {P : List α → Prop} (us : List α) (hl : us.length = 0) (h : P []) : P us := by cases us with | nil => exact h | cons _ _ => cases hl
@[elab_as_elim] theorem ar1 {α : Type} {P : List α → Prop} (us : List α) (hl : us.length = 1) (h : ∀ a, P [a]) : P us := by
  cases us with
  | nil => cases hl
  | cons a us => exact ar0 (P := fun us => P (a :: us)) us (Nat.succ.inj hl) (h a)
@[elab_as_elim] theorem ar2 {α : Type} {P : List α → Prop} (us : List α) (hl : us.length = 2) (h : ∀ a b, P [a, b]) : P us := by
  cases us with
  | nil => cases hl
  | cons a us => exact ar1 (P := fun us => P (a :: us)) us (Nat.succ.inj hl) (h a)
@[elab_as_elim] theorem ar3 {α : Type} {P : List α → Prop} (us : List α) (hl : us.length = 3) (h : ∀ a b c, P [a, b, c]) : P us := by
  cases us with
  | nil => cases hl
  | cons a us => exact ar2 (P := fun us => P (a :: us)) us (Nat.succ.inj hl) (h a)
@[elab_as_elim] theorem ar4 {α : Type} {P : List α → Prop} (us : List α) (hl : us.length = 4) (h : ∀ a b c d, P [a, b, c, d]) : P us := by
  cases us with
  | nil => cases hl
  | cons a us => exact ar3 (P := fun us => P (a :: us)) us (Nat.succ.inj hl) (h a)
@[elab_as_elim] theorem ar5 {α : Type} {P : List α → Prop} (us : List α) (hl : us.length = 5) (h : ∀ a b c d e, P [a, b, c, d, e]) : P us := by
  cases us with
  | nil => cases hl
  | cons a us => exact ar4 (P := fun us => P (a :: us)) us (Nat.succ.inj hl) (h a)
@[elab_as_elim] theorem ar6 {α : Type} {P : List α → Prop} (us : List α) (hl : us.length = 6) (h : ∀ a b c d e f, P [a, b, c, d, e, f]) : P us := by
  cases us with
  | nil => cases hl
  | cons a us => exact ar5 (P := fun us => P (a :: us)) us (Nat.succ.inj hl) (h a)
theorem cal_d {x : Str} {st : Stmt} {N ps : List Str} {k : Nat} {fr : Bool} {g : Ev → Fl} (D : Def K mg x st) (S : FnScope N ps (defScope st))
    (hbi : ∀ (kV doc pm : Value) (an : Option Addr) (cdv ct : Value) (us : List Value), us.length = ps.length → bindArgs (PySem.W.fnOf x x (defArgs st) (defBody st) (defScope st) .none kV doc pm an cdv ct) ⟨us, []⟩ = pure (ps.zip us))
    (hb : ∀ (f : Addr) (cdv : Value) (A : Around) (outer : List Env) (s : Shared) (H : Hp) (E : XK), Room k (A.deeper (envOfC x (defScope st) s.heap.objs.size f cdv)) → PBd fr (cxOf CX0 P w K mg base N x (defScope st) f cdv A outer s H E).nox (defBody st) g) :
    CalD P w K mg base (k + 1) x ps fr (runD N.length ps.length g) := by
  have hpl : ps.length ≤ N.length := by have := congrArg List.length S.pre; rw [List.length_take] at this; omega
  refine ⟨cal_of D S hbi (fun vs H Q E h => h.1) fun f cdv A outer s H vs Q E hr ⟨hl, ds, R, d, mu, r, hF, q⟩ => ⟨_, hb f cdv A outer s H E hr, ?_⟩, fun ds d h => runD_len h⟩
  exact run_body hpl mu r hF q
noncomputable def spLaw (K : PySem.W.Frag) : Sp := fun vs H Q _ => ∃ (a : Addr) (ns : List Int), vs = [.ref a] ∧ SL K H a (ns.map V.int) ∧ ns.length ≤ 63 ∧ ∀ H', Q (.bl true) H'
theorem law_d {x : Str} {st : Stmt} {f : Addr} {fd : FuncData} {N ps : List Str} {k : Nat} {g : Ev → Fl} (F : Fun K x x st f fd) (S : FnScope N ps (defScope st)) (hps : ps.length = 1)
    (hb : ∀ (cdv : Value) (A : Around) (outer : List Env) (s : Shared) (H : Hp) (E : XK), Room k (A.deeper (envOfC x (defScope st) s.heap.objs.size f cdv)) → PBd false (cxOf CX0 P w K mg base N x (defScope st) f cdv A outer s H E).nox (defBody st) g)
    (law : ∀ ns : List Int, ns.length ≤ 63 → runD N.length 1 g [.lst (ns.map .int)] = .ok (.bl true)) : FnOk P w K mg base CX0 (k + 1) f fd ps (spLaw K) := by
  have hpl : ps.length ≤ N.length := by have := congrArg List.length S.pre; rw [List.length_take] at this; omega
  refine fn_body F S (fun vs H Q E ⟨a, ns, e, _⟩ => by rw [e, hps]; rfl) fun cdv A outer s H vs Q E hr ⟨a, ns, e, hS, hl, q⟩ => ⟨_, hb cdv A outer s H E hr, ?_⟩
  subst e
  refine run_body (R := no) (d := .bl true) (by omega) (fun a h => by cases h) (ds := [.lst (ns.map .int)]) ?_ (law ns hl) fun v H' _ r _ => by rw [of_bl r]; exact q H'
  rw [av_no]
  refine rps_one (rp_lst ?_ hS (rps_ints ns))
  rw [List.length_map]
  exact Nat.le_of_lt (small1000 (by omega))
variable {X : Cx} {m : Bool} {fr : Bool} {F : List Dat → Rs} {k : Nat} {x : Str} {ps : List Str} {e : Expr} {es : List Expr} {fs : Ev → Option (List Dat)} {p pos : Pos}
noncomputable def okR : Rs → Option Dat
  | .ok d => some d
  | _ => none
theorem okR_some {r : Rs} {d : Dat} (h : okR r = some d) : r = .ok d := by cases r <;> cases h; rfl
noncomputable def dCal (F : List Dat → Rs) (fs : Ev → Option (List Dat)) : Ev → Option Dat := fun env => (fs env).bind fun ds => okR (F ds)
theorem xcal (C : CalD X.prog X.w X.K X.mg X.base k x ps fr F) (hr : Room k X.A) (ha : PAd false X (e :: es) fs) (hg : Gl X x := by rfl)
    (hdb : (x == ("__debug__" : Str)) = false := by decide) (he : starEach (e :: es) X.env = (false, eval e X.env) :: starEach es X.env := by rfl) (hpl : (backTo pos (starEach es X.env)).any (·.1) = false := by rfl) :
    PXd m X (.Call (.Name x p) (e :: es) [] pos) (dCal F fs) := PXd.any ((pe_cal C.cal hr ha hg hdb he hpl).weak fun σ H Q zz => by
  obtain ⟨env, R, A, d, k, q1, q2⟩ := zz
  obtain ⟨ds, e1, e2⟩ := bind_some q1
  have e3 := okR_some e2
  refine ⟨env, R, A, ds, k, e1, fun vs H1 s1 rs => ⟨by rw [rps_len rs.rps]; exact C.len ds d e3, ds, A, d, k.mu.mono s1, rs.rps, e3, fun v H' s r _ => q2 v H' (s1.trans s) r⟩⟩)
mutual
noncomputable def pureD : Dat → Bool
  | .lst _ => false
  | .dct _ => false
  | .exc _ _ => false
  | .tup xs => pureDs xs
  | .non => true
  | .bl _ => true
  | .int _ => true
  | .str _ => true
noncomputable def pureDs : List Dat → Bool
  | [] => true
  | x :: xs => pureD x && pureDs xs
end
theorem sqT_av {K : PySem.W.Frag} {H : Hp} {A : AS} {a : Addr} {vs : List V} (mu : MuOk A H) (h : SqT K H a vs) : SqT K (av H A) a vs := by
  rcases h with h | h
  · left
    have hA : A a = false := by
      cases q : A a with
      | false => rfl
      | true =>
        have := mu a q
        rcases h with h | ⟨o, h⟩ <;> rw [h] at this <;> exact this.elim
    rcases h with h | ⟨o, h⟩
    · exact .inl (av_at h hA)
    · exact .inr ⟨o, av_at h hA⟩
  · exact .inr h
mutual
theorem Rp.pure {K : PySem.W.Frag} {H : Hp} {A : AS} (mu : MuOk A H) : ∀ {d : Dat} {v : V}, pureD d = true → Rp K H d v → Rp K (av H A) d v
  | .non, v, _, r => by rw [of_non r]; exact rp_non
  | .bl b, v, _, r => by rw [of_bl r]; exact rp_bl
  | .int b, v, _, r => by rw [of_int r]; exact rp_int
  | .str b, v, _, r => by obtain ⟨e, h⟩ := of_str r; rw [e]; exact rp_str h
  | .lst _, v, h, _ => by cases h
  | .dct _, v, h, _ => by cases h
  | .exc _ _, v, h, _ => by cases h
  | .tup xs, v, h, r => by
    obtain ⟨a, vs, e, h1, h2⟩ := of_tup r
    subst e
    exact rp_tup (len_tup r) (sqT_av mu h1) (Rps.pure mu (by simpa [pureD] using h) h2)
theorem Rps.pure {K : PySem.W.Frag} {H : Hp} {A : AS} (mu : MuOk A H) : ∀ {ds : List Dat} {vs : List V}, pureDs ds = true → Rps K H ds vs → Rps K (av H A) ds vs
  | [], vs, _, r => by rw [rps_of_nil r]; exact rps_nil
  | d :: ds, vs, h, r => by
    obtain ⟨v, us, e, r1, r2⟩ := rps_of_cons r
    subst e
    rw [pureDs, Bool.and_eq_true] at h
    exact rps_cons (Rp.pure mu h.1 r1) (Rps.pure mu h.2 r2)
end
noncomputable def dCalP (F : List Dat → Rs) (fs : Ev → Option (List Dat)) : Ev → Option Dat := fun env => (fs env).bind fun ds => (okR (F ds)).bind fun d => if pureD d = true then some d else none
theorem xcalP (C : CalD X.prog X.w X.K X.mg X.base k x ps fr F) (hr : Room k X.A) (ha : PAd true X (e :: es) fs) (hg : Gl X x := by rfl)
    (hdb : (x == ("__debug__" : Str)) = false := by decide) (he : starEach (e :: es) X.env = (false, eval e X.env) :: starEach es X.env := by rfl) (hpl : (backTo pos (starEach es X.env)).any (·.1) = false := by rfl) :
    PXd m X (.Call (.Name x p) (e :: es) [] pos) (dCalP F fs) := PXd.any ((pe_cal C.cal hr ha hg hdb he hpl).weak fun σ H Q zz => by
  obtain ⟨env, R, A, d, k, q1, q2⟩ := zz
  obtain ⟨ds, e1, e2⟩ := bind_some q1
  obtain ⟨d', e3, e4⟩ := bind_some e2
  have e5 := okR_some e3
  split at e4
  · rename_i hpu
    cases e4
    refine ⟨env, R, A, ds, k, e1, fun vs H1 s1 rs => ⟨by rw [rps_len rs.full]; exact C.len ds _ e5, ds, no, d, (fun a h => by cases h), by rw [av_no]; exact rs.full, e5, fun v H' s r _ => q2 v H' (s1.trans s) ?_⟩⟩
    rw [av_no] at r
    exact Rp.pure (k.mu.mono (s1.trans s)) hpu r
  · cases e4)
end
end L2
namespace L2
open PySem PySem.Spec PyProof.Rows
section
variable {X : Cx} {m : Bool}
structure Glo (K : PySem.W.Frag) (mg : Str → Option Value) (x : Str) (d : Dat) : Prop where
  ex : ∃ v u, mg x = some u ∧ RelV v u ∧ ∀ H, Rp K H d v
theorem Glo.x {x : Str} {d : Dat} {p : Pos} (G : Glo X.K X.mg x d) (hg : Gl X x) (hd : (x == ("__debug__" : Str)) = false := by decide) : PXd m X (.Name x p) (dC d) := by
  obtain ⟨v, u, h1, h2, h3⟩ := G.ex
  exact xglob hg h1 h2 h3 hd
end
end L2
namespace L2
open PySem PySem.Spec PyProof.Rows
section
variable {st m : Bool} {X : Cx} {l : Expr} {es : List Expr} {f : Ev → Option Dat} {tk : Nat} {tpos : Pos}
end
end L2
namespace PySem
open Sem (wp)
open AutoSeq1 (wpAny_loadPart')
namespace F
end F
section
variable {prog : Program} {w : World} {A : Around} {E : Value → Shared → Prop} {s : Shared}
end
section
variable {prog : Program} {w : World} {A : Around} {s : Shared} {R : Result → Shared → Prop}
variable {I : Addr} {fp wr : List Addr} {G : Array GenState → Array GenState → Prop} {n : Nat} {P : Nat → Value → Prop} {St : Nat → Shared → Prop}
end
section
variable {prog : Program} {w : World} {A : Around} {E : Value → Shared → Prop} {s : Shared}
variable {I : Addr} {fp wr : List Addr} {n : Nat} {P : Nat → Value → Prop} {St : Nat → Shared → Prop}
end
section
variable {prog : Program} {w : World} {A : Around}
end
end PySem
namespace L2
open PySem PySem.Spec PyProof.Rows
section
variable {X : Cx} {m : Bool} {e : Expr} {f : Ev → Option Dat} {fs : Ev → Option (List Dat)}
theorem push_size (h : Heap) (o : Obj) : (h.push o).objs.size = h.objs.size + 1 := by cases h; exact Array.size_push ..
noncomputable def intD : List Dat → Option Dat
  | [.int i] => some (.int i)
  | [.bl b] => some (.int (if b then 1 else 0))
  | _ => none
theorem c_int : CallD X (.type "int") intD := call_int1.weak fun vs H Q zz => by
  obtain ⟨A, ds, d, mu, e, p, q⟩ := zz
  unfold intD at e
  split at e
  · obtain ⟨v, e1, p1⟩ := p.one
    cases e
    exact .inl ⟨_, by rw [e1, p1.int], q.here rp_int⟩
  · obtain ⟨v, e1, p1⟩ := p.one
    cases e
    exact .inr ⟨_, by rw [e1, p1.bl], q.here rp_int⟩
  · cases e
noncomputable def mulS : Dat → Dat → Option Dat
  | .str x, .int k => if 1 ≤ k ∧ k ≤ 1000 ∧ x.length ≤ 1000 then some (.str (Txt.mul x k)) else none
  | _, _ => none
theorem mem_reps {α : Type} (x : Array α) (c : α) : ∀ (n : Nat) (acc : Array α), c ∈ (List.replicate n x).foldl (· ++ ·) acc → c ∈ acc ∨ c ∈ x
  | 0, acc, h => .inl h
  | n + 1, acc, h => by
    rw [List.replicate_succ, List.foldl_cons] at h
    rcases mem_reps x c n _ h with h | h
    · rcases Array.mem_append.mp h with h | h
      · exact .inl h
      · exact .inr h
    · exact .inr h
theorem strOk_mul {x : Str} {k : Int} (h : PyData.strOk x = true) : PyData.strOk (Txt.mul x k) = true := by
  unfold Txt.mul
  split
  · unfold PyData.strOk Str.empty; simp
  · split
    · exact h
    · unfold PyData.strOk at h ⊢
      rw [Array.all_eq_true'] at h ⊢
      intro c hc
      rcases mem_reps x.cps c _ _ hc with z | z
      · simp at z
      · exact h c z
theorem o_mulS : OpD X (binaryOp .Mult) mulS := fun pins s σ H x y v u Q I rx ry zz => by
  obtain ⟨A, a, b, d, mu, e, p1, p2, q⟩ := zz
  unfold mulS at e
  split at e
  · rename_i z k
    split at e
    · rename_i hz
      cases e
      obtain ⟨e1, k1⟩ := p1.str
      have e2 := p2.int
      subst e1 e2
      obtain ⟨t, rfl⟩ := rx
      obtain ⟨t', rfl⟩ := ry
      have hl : (Txt.mul z k).length ≤ 1000 * 1000 := len_mul_leN hz.2.2 hz.2.1
      refine SB.mul (mulOk_of 1000 1000 hz.2.2 hz.2.1 (by omega) (by decide) (by decide)) fun t' k' => ⟨.str (Txt.mul z k), H, I.tok _, ⟨_, rfl⟩, q.here (rp_str (SOk.of (strOk_mul k1.ok) (Nat.le_trans hl (by decide))))⟩
    · cases e
  · cases e
noncomputable def mulE : Dat → Dat → Option Dat
  | .int i, .int j => mulI (.int i) (.int j)
  | .str x, .int k => mulS (.str x) (.int k)
  | _, _ => none
theorem o_mulE : OpD X (binaryOp .Mult) mulE := OpD.or o_mulI o_mulS fun x y d e => by
  unfold mulE at e
  split at e
  · exact .inl e
  · exact .inr e
  · cases e
end
end L2
namespace L2
open PySem
section
variable {prog : Program} {w : World} {A : Around} {E : Value → Shared → Prop} {h : Heap} {g : Array GenState} {d : Drawn} {t : Nat} {os : OsState}
variable {nm q : Str} {C N : Addr} {bs bm bmB : List Value} {hdct : Bool} {sn : List Str} {sub : List Value} {ab : Bool} {col : Option Bool} {dd : Option Addr} {k0 k1 k2 k3 k5 : Option Value} {B Bn newId nid initId inN : String} {bmN : List Value}
end
end L2
namespace L2
open PySem
section
variable {M : Model} {A : Around} {E : Value → Shared → Prop} {env : Env}
variable {nm q : Str} {C N : Addr} {bs bm : List Value} {hdct : Bool} {sn : List Str} {sub : List Value} {ab : Bool} {col : Option Bool} {dd : Option Addr} {k0 k1 k2 k3 k5 : Option Value} {newId : String}
end
end L2
namespace L2
open PySem
section
variable {prog : Program} {w : World} {A : Around} {E : Value → Shared → Prop} {h : Heap} {g : Array GenState} {d : Drawn} {t : Nat} {os : OsState}
variable {nm q : Str} {C N : Addr} {bs bm bmB : List Value} {hdct : Bool} {sn : List Str} {sub : List Value} {ab : Bool} {col : Option Bool} {dd : Option Addr} {k0 k1 k2 k3 k5 : Option Value} {newId nid : String}
end
end L2
namespace L2
open PySem PySem.Spec PyProof.Rows PySem.W
open PySem.Builtin PySem.Builtin.ObjectAttr
section
variable {prog : Program} {w : World} {A : Around} {E : Value → Shared → Prop} {s : Shared} {K : Frag} {x C a b : Addr} {cd : ClassData} {R : Result → Shared → Prop} {v : Value} {name : Str}
end
section
variable {prog : Program} {w : World} {A : Around} {E : Value → Shared → Prop} {h : Heap} {g : Array GenState} {d : Drawn} {t : Nat} {os : OsState} {x C : Addr} {v : Value} {name : Str} {oC : Obj} {cd : ClassData}
end
end L2
namespace L2
open PySem PySem.Spec PyProof.Rows PySem.W
open PySem.Builtin PySem.Builtin.ObjectAttr
section
variable {prog : Program} {w : World} {A : Around} {E : Value → Shared → Prop} {h : Heap} {g : Array GenState} {d : Drawn} {t : Nat} {os : OsState} {x C dx : Addr} {v : Value} {name : Str} {oC o : Obj} {cd : ClassData} {K : Frag} {mA : Str → Option Value}
end
end L2
namespace L2
open PySem PySem.Spec PyProof.Rows PySem.W
open PySem.Builtin PySem.Builtin.ObjectAttr
section
variable {prog : Program} {w : World} {A : Around} {E : Value → Shared → Prop} {h : Heap} {g : Array GenState} {d : Drawn} {t : Nat} {os : OsState} {x C : Addr} {o : Obj} {K : Frag}
end
end L2
namespace L2
open PySem PySem.Spec PyProof.Rows
end L2
namespace L2
open PySem PySem.Spec PyProof.Rows
section
variable {P : Program} {w : World} {K : PySem.W.Frag} {mg : Str → Option Value} {base : Heap}
end
section
variable {X : Cx} {m fr fr' : Bool} {F : List Dat → Rs} {k : Nat} {x : Str} {ps : List Str} {e : Expr} {es : List Expr} {fs : Ev → Option (List Dat)} {p pos : Pos}
end
end L2
namespace L2
open PySem PySem.Spec PyProof.Rows
section
variable {X : Cx}
end
end L2
namespace L2
open PySem PySem.Spec PyProof.Rows PySem.W
section
variable {X : Cx} {e : Expr} {es : List Expr} {t : TA} {p apos pos pos' : Pos} {D : Addr}
end
end L2
namespace L2
open PySem PySem.Spec PyProof.Rows PySem.W
section
variable {X : Cx} {fr : Bool} {e : Expr} {es : List Expr} {fs : Ev → Option (List Dat)} {p pos cpos : Pos} {k n : Nat} {c : Str} {G : List Dat → Option (List (Str × XD))}
end
end L2
namespace L2
open PySem PySem.Spec PyProof.Rows PySem.W
section
variable {P : Program} {w : World} {K : Frag} {mg : Str → Option Value} {base : Heap}
end
end L2
namespace L2
open PySem PySem.Spec PyProof.Rows PySem.W
section
variable {X : Cx} {pins : List (Addr × Obj)} {σ : St} {H : Hp} {s : Shared}
end
end L2
namespace L2
open PySem PySem.Spec PyProof.Rows PySem.W
section
variable {X : Cx} {fr : Bool} {g h : Ev → Fl} {body : List Stmt} {b₀ : Stmt} {suite : List Stmt} {T n : Str} {np hpos pos : Pos} {i : Nat} {sub : Str → Bool} {DT : Addr}
end
end L2
namespace L2
open PySem PySem.Spec PyProof.Rows PySem.W
section
variable {X : Cx} {m : Bool} {e : Expr} {f : Ev → Option Dat} {p p2 pos : Pos}
end
end L2
namespace L2
open PySem
noncomputable def Ris (xs : Array Nat) : Prop := ∀ i k (h1 : i < k) (h2 : k < xs.size), xs[i] < xs[k]
theorem below_go (xs : Array Nat) (j : Nat) (hr : Ris xs) : ∀ (fuel lo hi : Nat), hi - lo ≤ fuel → lo ≤ hi → hi ≤ xs.size → (∀ k (h : k < xs.size), k < lo → xs[k] < j) → (∀ k (h : k < xs.size), hi ≤ k → j ≤ xs[k]) →
    SetTable.below.go xs j fuel lo hi ≤ xs.size ∧ (∀ k (h : k < xs.size), k < SetTable.below.go xs j fuel lo hi → xs[k] < j) ∧ (∀ k (h : k < xs.size), SetTable.below.go xs j fuel lo hi ≤ k → j ≤ xs[k])
  | 0, lo, hi, hf, hl, hh, h1, h2 => by
    have : lo = hi := by omega
    subst this
    exact ⟨hh, h1, h2⟩
  | fuel + 1, lo, hi, hf, hl, hh, h1, h2 => by
    rw [SetTable.below.go]
    split
    · rename_i hlt
      dsimp only
      have hm : (lo + hi) / 2 < xs.size := by omega
      have hg : xs.getD ((lo + hi) / 2) j = xs[(lo + hi) / 2] := by simp [Array.getD, hm]
      rw [hg]
      split
      · rename_i hx
        refine below_go xs j hr fuel _ _ (by omega) (by omega) hh (fun k h hk => ?_) h2
        rcases Nat.lt_or_ge k ((lo + hi) / 2) with h3 | h3
        · exact Nat.lt_trans (hr k _ h3 hm) hx
        · have : k = (lo + hi) / 2 := by omega
          subst this; exact hx
      · rename_i hx
        refine below_go xs j hr fuel _ _ (by omega) (by omega) (by omega) h1 (fun k h hk => ?_)
        rcases Nat.lt_or_ge ((lo + hi) / 2) k with h3 | h3
        · exact Nat.le_of_lt (Nat.lt_of_le_of_lt (Nat.le_of_not_lt hx) (hr _ k h3 h))
        · have : k = (lo + hi) / 2 := by omega
          subst this; exact Nat.le_of_not_lt hx
    · have : lo = hi := by omega
      subst this
      exact ⟨hh, h1, h2⟩
theorem below_spec {xs : Array Nat} (hr : Ris xs) (j : Nat) : SetTable.below xs j ≤ xs.size ∧ (∀ k (h : k < xs.size), k < SetTable.below xs j → xs[k] < j) ∧ (∀ k (h : k < xs.size), SetTable.below xs j ≤ k → j ≤ xs[k]) :=
  below_go xs j hr xs.size 0 xs.size (by omega) (Nat.zero_le _) (Nat.le_refl _) (fun k h hk => by omega) (fun k h hk => by omega)
theorem below_eq {xs : Array Nat} (hr : Ris xs) {i j : Nat} (hi : i ≤ xs.size) (h1 : ∀ k (h : k < xs.size), k < i → xs[k] < j) (h2 : ∀ k (h : k < xs.size), i ≤ k → j ≤ xs[k]) : SetTable.below xs j = i := by
  obtain ⟨a, b, c⟩ := below_spec hr j
  rcases Nat.lt_trichotomy (SetTable.below xs j) i with h | h | h
  · have hk : SetTable.below xs j < xs.size := by omega
    have := c _ hk (Nat.le_refl _)
    have := h1 _ hk h
    omega
  · exact h
  · have hk : i < xs.size := by omega
    have := b _ hk h
    have := h2 _ hk (Nat.le_refl _)
    omega
theorem below_next {xs : Array Nat} (hr : Ris xs) (i : Nat) (hi : i < xs.size) : SetTable.below xs (xs[i] + 1) = i + 1 :=
  below_eq hr (by omega) (fun k h hk => by
    rcases Nat.lt_or_ge k i with h3 | h3
    · exact Nat.lt_succ_of_lt (hr k i h3 hi)
    · have : k = i := by omega
      subst this; exact Nat.lt_succ_self _) (fun k h hk => hr i k (by omega) h)
theorem below_zero {xs : Array Nat} (hr : Ris xs) : SetTable.below xs 0 = 0 := below_eq hr (Nat.zero_le _) (fun k h hk => by omega) (fun k h hk => Nat.zero_le _)
theorem ris_list {xs : Array Nat} : Ris xs ↔ xs.toList.Pairwise (· < ·) := by
  rw [List.pairwise_iff_getElem]
  constructor
  · intro h i j hi hj hij
    have := h i j hij (by simpa using hj)
    simpa using this
  · intro h i j hij hj
    have := h i j (by simp; omega) (by simpa using hj) hij
    simpa using this
theorem insert_list {α : Type} (xs : Array α) (p : Nat) (x : α) (hp : p ≤ xs.size) : (SetTable.insertAt xs p x).toList = xs.toList.take p ++ x :: xs.toList.drop p := by
  unfold SetTable.insertAt
  simp
  rw [List.take_of_length_le (by rw [List.length_drop, Array.length_toList]; exact Nat.le_refl _)]
theorem insert_ris {xs : Array Nat} (hr : Ris xs) {j : Nat} (hn : ¬ xs[SetTable.below xs j]? = some j) : Ris (SetTable.insertAt xs (SetTable.below xs j) j) := by
  obtain ⟨a, b, c⟩ := below_spec hr j
  rw [ris_list, insert_list _ _ _ a, List.pairwise_append]
  have hp := ris_list.mp hr
  refine ⟨hp.sublist (List.take_sublist _ _), List.pairwise_cons.mpr ⟨fun y hy => ?_, hp.sublist (List.drop_sublist _ _)⟩, fun y hy z hz => ?_⟩
  · obtain ⟨k, hk, rfl⟩ := List.mem_iff_getElem.mp hy
    rw [List.length_drop, Array.length_toList] at hk
    have hk2 : SetTable.below xs j + k < xs.size := by omega
    have h1 := c _ hk2 (by omega)
    rw [List.getElem_drop, Array.getElem_toList]
    rcases Nat.eq_or_lt_of_le h1 with h2 | h2
    · exfalso
      apply hn
      have hb : SetTable.below xs j < xs.size := by omega
      rw [Array.getElem?_eq_getElem hb]
      congr 1
      have h3 := c _ hb (Nat.le_refl _)
      rcases Nat.eq_zero_or_pos k with h0 | h0
      · subst h0; simpa using h2.symm
      · have := hr (SetTable.below xs j) (SetTable.below xs j + k) (by omega) hk2
        omega
    · exact h2
  · obtain ⟨k, hk, rfl⟩ := List.mem_iff_getElem.mp hy
    rw [List.length_take, Array.length_toList] at hk
    have hk2 : k < xs.size := by omega
    rw [List.getElem_take, Array.getElem_toList]
    have h1 := b k hk2 (by omega)
    rcases List.mem_cons.mp hz with rfl | hz
    · exact h1
    · obtain ⟨m, hm, rfl⟩ := List.mem_iff_getElem.mp hz
      rw [List.length_drop, Array.length_toList] at hm
      have h2 := c (SetTable.below xs j + m) (by omega) (by omega)
      rw [List.getElem_drop, Array.getElem_toList]
      omega
structure TOk (t : SetTable) : Prop where
  ris : Ris t.place
  dum : t.dummies = #[]
theorem range_ris (n : Nat) : Ris (Array.range n) := fun i k h1 h2 => by simpa using h1
theorem empty_ris : Ris #[] := fun i k h1 h2 => by simp at h2
theorem TOk.fresh (a b : Nat) (led : Bool) : TOk (SetTable.fresh a b led) := ⟨empty_ris, rfl⟩
theorem TOk.standIn (t : SetTable) (n : Nat) : TOk (t.standIn n) := ⟨range_ris n, rfl⟩
theorem has_none (j : Nat) : SetTable.has #[] j = false := by unfold SetTable.has; simp
theorem slot_empty {t : SetTable} (h : TOk t) {j : Nat} (e : t.slot j = .empty) : ¬ t.place[SetTable.below t.place j]? = some j := by
  unfold SetTable.slot at e
  dsimp only at e
  split at e
  · cases e
  · rename_i hn; intro z; apply hn; rw [z]; simp
theorem slot_nodummy {t : SetTable} (h : TOk t) (j : Nat) : t.slot j ≠ .dummy := by
  unfold SetTable.slot
  dsimp only
  rw [h.dum, has_none]
  split
  · simp
  · simp
theorem probe_go {t : SetTable} (h : TOk t) (hashAt : Nat → Int) (hs : Int) (hne : ∀ i, hashAt i ≠ hs) : ∀ (fuel : Nat) (p : SetTable.Probe), p.dummy = none → ∀ m, SetTable.probe.go t hashAt hs fuel p = some m → ∃ j, m = .empty j none ∧ t.slot j = .empty
  | 0, p, hd, m, e => by rw [SetTable.probe.go] at e; cases e
  | fuel + 1, p, hd, m, e => by
    rw [SetTable.probe.go] at e
    have adv : ∀ p : SetTable.Probe, p.dummy = none → (t.advance p).dummy = none := fun p hp => by
      unfold SetTable.advance
      split
      · exact hp
      · exact hp
    split at e
    · rename_i es
      cases e
      exact ⟨p.j, by rw [hd], es⟩
    · rename_i es
      exact absurd es (slot_nodummy h _)
    · split at e
      · rename_i hq
        exact absurd (by simpa using hq) (hne _)
      · exact probe_go h hashAt hs hne fuel _ (adv p hd) m e
theorem freeSlot_ok {t : SetTable} (h : TOk t) {hs : Int} {j : Nat} {d : Bool} (e : t.freeSlot hs = some (j, d)) : d = false ∧ t.slot j = .empty := by
  unfold SetTable.freeSlot at e
  split at e
  · rename_i j' dm hp
    obtain ⟨j2, e1, e2⟩ := probe_go h (fun _ => hs + 1) hs (fun i => by omega) _ _ rfl _ hp
    cases e1
    cases e
    exact ⟨rfl, e2⟩
  · cases e
theorem TOk.put {t : SetTable} (h : TOk t) {j : Nat} (e : t.slot j = .empty) : TOk (t.put j).1 := by
  unfold SetTable.put
  exact ⟨insert_ris h.ris (slot_empty h e), by dsimp only; rw [h.dum, has_none, if_neg (by decide)]⟩
theorem TOk.orStandIn {t : SetTable} (h : TOk t) (n : Nat) : TOk (t.orStandIn n) := by
  unfold SetTable.orStandIn
  split
  · exact h
  · exact TOk.standIn t n
theorem orStandIn_led (t : SetTable) (n : Nat) : (t.orStandIn n).led = t.led := by unfold SetTable.orStandIn SetTable.standIn; split <;> rfl
theorem layNew_ok {t : SetTable} (h : TOk t) (es : Array (Int × Value)) (hs : Int) (x : Value) : TOk (layNew t es hs x).2.1 ∧ (layNew t es hs x).2.1.led = t.led ∧ List.Perm (layNew t es hs x).1.toList (es.push (hs, x)).toList := by
  unfold layNew
  split
  · rename_i slot wd e
    obtain ⟨_, e2⟩ := freeSlot_ok h e
    dsimp only
    exact ⟨(h.put e2).orStandIn _, by rw [orStandIn_led]; rfl, SetTable.insertAt_perm es _ _⟩
  · exact ⟨TOk.standIn _ _, rfl, List.Perm.refl _⟩
theorem filterMap_ris (f : Nat → Option (Nat × Nat)) (hf : ∀ j p, f j = some p → p.1 = j) : ∀ n, (((List.range n).filterMap f).map (·.1)).Pairwise (· < ·) ∧ ∀ x ∈ ((List.range n).filterMap f).map (·.1), x < n
  | 0 => by simp
  | n + 1 => by
    obtain ⟨a, b⟩ := filterMap_ris f hf n
    rw [List.range_succ, List.filterMap_append, List.map_append]
    cases e : f n with
    | none =>
      simp only [List.filterMap_cons, e, List.filterMap_nil, List.map_nil, List.append_nil]
      exact ⟨a, fun x hx => Nat.lt_succ_of_lt (b x hx)⟩
    | some p =>
      have hp := hf n p e
      simp only [List.filterMap_cons, e, List.filterMap_nil, List.map_cons, List.map_nil]
      refine ⟨List.pairwise_append.mpr ⟨a, List.pairwise_singleton _ _, fun x hx y hy => ?_⟩, fun x hx => ?_⟩
      · rw [List.mem_singleton.mp hy, hp]; exact b x hx
      · rcases List.mem_append.mp hx with h | h
        · exact Nat.lt_succ_of_lt (b x h)
        · rw [List.mem_singleton.mp h, hp]; exact Nat.lt_succ_self _
theorem laid_ok {mask finger moves : Nat} {led plain : Bool} {hashes : Array Int} {t : SetTable} {order : Array Nat} (e : SetTable.laid mask finger moves led plain hashes = some (t, order)) : TOk t ∧ t.led = led := by
  unfold SetTable.laid at e
  cases ho : SetTable.layClean mask hashes with
  | none => rw [ho] at e; cases e
  | some owner =>
    rw [ho] at e
    cases e
    refine ⟨⟨?_, rfl⟩, rfl⟩
    rw [ris_list]
    dsimp only
    exact (filterMap_ris (fun j => (owner.getD j none).map (j, ·)) (fun j p hp => by
      cases h : owner.getD j none with
      | none => rw [h] at hp; cases hp
      | some q => rw [h] at hp; cases hp; rfl) (mask + 1)).1
theorem filterMap_get {α : Type} (xs : List α) : ∀ (n : Nat), n ≤ xs.length → (List.range n).filterMap (xs[·]?) = xs.take n
  | 0, _ => by simp
  | n + 1, h => by
    rw [List.range_succ, List.filterMap_append, filterMap_get xs n (by omega), List.take_succ, List.getElem?_eq_getElem (by omega)]
    simp [List.getElem?_eq_getElem (show n < xs.length by omega)]
theorem relayAll_ok {t : SetTable} (h : TOk t) (es : Array (Int × Value)) (wanted : Nat) : TOk (relayAll t es wanted).2.1 ∧ (relayAll t es wanted).2.1.led = t.led ∧ List.Perm (relayAll t es wanted).1.toList es.toList := by
  unfold relayAll
  split
  · rename_i t' order e
    dsimp only
    split
    · rename_i hc
      rw [Bool.and_eq_true] at hc
      obtain ⟨a, b⟩ := laid_ok e
      refine ⟨a, b, ?_⟩
      have hp : List.Perm order.toList (List.range es.size) := by
        have := hc.1
        unfold coversAll at this
        exact List.isPerm_iff.mp this
      rw [Array.toList_filterMap]
      have h2 := hp.filterMap (es[·]?)
      refine h2.trans ?_
      have h3 := filterMap_get es.toList es.size (by simp)
      simp only [Array.getElem?_toList] at h3
      rw [h3]
      rw [List.take_of_length_le (by simp)]
    · exact ⟨TOk.standIn _ _, rfl, List.Perm.refl _⟩
  · exact ⟨TOk.standIn _ _, rfl, List.Perm.refl _⟩
end L2
namespace L2
open PySem PySem.Spec PyProof.Rows
noncomputable def ival : Value → Int
  | .int i _ => i
  | _ => 0
noncomputable def ivals (es : Array (Int × Value)) : List Int := es.toList.map fun e => ival e.2
noncomputable def setObj (es : Array (Int × Value)) (ep : Nat) (t : SetTable) : Obj := { cls := .type "set", dict := none, data := .set es ep t, slots := #[] }
noncomputable def SK (P : Program) (w : World) (h : Heap) (a : Addr) (led : Bool) (ks : List Int) : Prop :=
  ∃ es ep t, h.get? a = some (setObj es ep t) ∧ ElemsOf (intKind P w) es.toList ∧ (ivals es).Perm ks ∧ es.size < scanBound ∧ t.fits es.size = true ∧ TOk t ∧ t.led = led
theorem isInt_at {k : Int} {v : Value} (h : Value.isInt k v = true) : ∃ t, v = .int k t := Value.isInt_shape h
theorem find_int {P : Program} {w : World} {es : Array (Int × Value)} (hel : ElemsOf (intKind P w) es.toList) (k : Int) : (es.toList.findIdx? fun e => (intKind P w).is k e.2).isSome = decide (k ∈ ivals es) := by
  rw [Bool.eq_iff_iff, List.findIdx?_isSome, List.any_eq_true, decide_eq_true_eq]
  unfold ivals
  rw [List.mem_map]
  constructor
  · rintro ⟨e, he, hk⟩
    obtain ⟨t, ht⟩ := isInt_at hk
    exact ⟨e, he, by rw [ht]; rfl⟩
  · rintro ⟨e, he, hk⟩
    obtain ⟨⟨k', hk', _⟩, _⟩ := hel e he
    refine ⟨e, he, ?_⟩
    obtain ⟨t, ht⟩ := isInt_at hk'
    rw [ht] at hk
    cases hk
    exact hk'
section
variable {P : Program} {w : World} {A : Around} {E : Value → Shared → Prop} {s : Shared}
theorem sk_store {h : Heap} {a : Addr} {es : Array (Int × Value)} {ep : Nat} {t : SetTable} (ho : h.get? a = some (setObj es ep t)) (es' : Array (Int × Value)) (t' : SetTable) : (h.update a (Obj.putSet es' t')).get? a = some (setObj es' (ep + 1) t') := by
  have := Heap.get?_update_self (Obj.putSet es' t') ho rfl
  exact this
noncomputable def addK (ks : List Int) (k : Int) : List Int := if k ∈ ks then ks else ks ++ [k]
theorem sk_add {a : Addr} {led : Bool} {ks : List Int} {k : Int} {tk : Tok} {Q : Bool → Shared → Prop} (hS : SK P w s.heap a led ks) (hroom : ks.length + 1 < scanBound)
    (h : ∀ b h', Heap.SameBut a s.heap h' → SK P w h' a led (addK ks k) → Q b { s with heap := h' }) :
    wpAny (model P w) A (setAddHashed a (.int k tk) (hashInt k)) Q E s := by
  obtain ⟨es, ep, t, ho, hel, hp, hb, hf, hT, hled⟩ := hS
  have hkey : (intKind P w).is k (.int k tk) = true := intKind_is _ _ _ _
  have hlen : es.size = ks.length := by rw [← Array.length_toList, ← hp.length_eq]; unfold ivals; rw [List.length_map]
  unfold setAddHashed setAddHashedIn
  refine wpAny_holding (wpAny_bind (wpAny_setState_of ho rfl hf ?_))
  dsimp only
  rw [byScan_of (knd := intKind P w) rfl hb hel]
  simp only [↓reduceIte]
  unfold setAddByScan
  refine wpAny_bind ?_
  refine wpAny_bind (wpAny_rule ?_)
  refine wpAny_bind (wpAny_setScan_of (knd := intKind P w) hkey ho rfl hf hel ?_)
  have hfi := find_int hel k
  cases hr : List.findIdx? (fun e => (intKind P w).is k e.2) es.toList with
  | some j =>
    rw [hr] at hfi
    have hk : k ∈ ks := hp.mem_iff.mp (of_decide_eq_true hfi.symm)
    dsimp only
    refine wpAny_pure (wpAny_pure ?_)
    have := h false s.heap (Heap.SameBut.refl a s.heap) ⟨es, ep, t, ho, hel, by unfold addK; rw [if_pos hk]; exact hp, hb, hf, hT, hled⟩
    cases s; exact this
  | none =>
    rw [hr] at hfi
    have hk : k ∉ ks := fun hm => by have := of_decide_eq_false hfi.symm; exact this (hp.mem_iff.mpr hm)
    dsimp only
    obtain ⟨l1, l2, l3⟩ := layNew_ok hT es (hashInt k) (.int k tk)
    have hfits := layNew_fits t es (hashInt k) (.int k tk)
    show wpAny _ _ (match layNew t es (hashInt k) (.int k tk) with | (es, t, wasDummy, gave) => _) _ _ _
    generalize hL : layNew t es (hashInt k) (.int k tk) = L at l1 l2 l3 hfits ⊢
    obtain ⟨es1, t1, wd, gave⟩ := L
    dsimp only at l1 l2 l3 hfits ⊢
    rw [Array.toList_push] at l3
    have hel1 : ElemsOf (intKind P w) es1.toList := (hel.push (knd := intKind P w) hkey rfl).perm l3
    have hsz1 : es1.size = es.size + 1 := by rw [← Array.length_toList, l3.length_eq, List.length_append, Array.length_toList]; rfl
    have hb1 : es1.size < scanBound := by omega
    have hp1 : (ivals es1).Perm (ks ++ [k]) := by
      have := l3.map fun e : Int × Value => ival e.2
      rw [List.map_append] at this
      exact this.trans (hp.append (List.Perm.refl _))
    have ead : addK ks k = ks ++ [k] := by unfold addK; rw [if_neg hk]
    have fin : ∀ h' es2 ep2 t2, Heap.SameBut a s.heap h' → h'.get? a = some (setObj es2 ep2 t2) → List.Perm es2.toList es1.toList → t2.fits es2.size = true → TOk t2 → t2.led = led → Q true { s with heap := h' } := fun h' es2 ep2 t2 hsb ho2 hpp hf2 hT2 hl2 =>
      h true h' hsb ⟨es2, ep2, t2, ho2, hel1.perm hpp, by rw [ead]; exact (hpp.map _).trans hp1, by rw [← Array.length_toList, hpp.length_eq, Array.length_toList]; exact hb1, hf2, hT2, hl2⟩
    have gw : ∀ (b : Bool) (f : Bool → Sem Unit) {s1 : Shared} {Q' : Unit → Shared → Prop}, (f true = rule "set.scan.the-table-gave-way") → (f false = pure ()) → Q' () s1 → wpAny (model P w) A (f b) Q' E s1 := fun b f s1 Q' h1 h2 hq => by
      cases b with
      | true => rw [h1]; exact wpAny_rule hq
      | false => rw [h2]; exact wpAny_pure hq
    refine wpAny_bind (gw _ _ rfl rfl ?_)
    split
    · refine wpAny_bind ?_
      rw [hashByValue_scannable 8 rfl]
      refine wpAny_pure ?_
      simp only [plainKind, ↓reduceIte]
      refine wpAny_bind (wpAny_storeSet_of ho rfl ?_ (fits_of_scanBound hb1))
      have ho1 := sk_store ho es1 t1
      have sb1 := Heap.SameBut.update s.heap a (Obj.putSet es1 t1)
      split
      · obtain ⟨r1, r2, r3⟩ := relayAll_ok l1 es1 (SetTable.grown es1.size)
        have hfr := relayAll_fits t1 es1 (SetTable.grown es1.size)
        refine wpAny_bind (gw _ _ rfl rfl ?_)
        refine wpAny_bind (wpAny_storeSet_of ho1 rfl ?_ (fits_of_scanBound (by rw [← Array.length_toList, r3.length_eq, Array.length_toList]; exact hb1)))
        exact wpAny_pure (wpAny_pure (fin _ _ _ _ (sb1.trans (Heap.SameBut.update _ a _)) (sk_store ho1 _ _) r3 hfr r1 (by rw [r2, l2, hled])))
      · exact wpAny_pure (wpAny_pure (fin _ _ _ _ sb1 ho1 (List.Perm.refl _) hfits l1 (by rw [l2, hled])))
    · refine wpAny_bind (wpAny_pure ?_)
      simp only [↓reduceIte]
      refine wpAny_bind (wpAny_storeSet_of ho rfl ?_ (fits_of_scanBound hb1))
      have ho1 := sk_store ho es1 t1
      have sb1 := Heap.SameBut.update s.heap a (Obj.putSet es1 t1)
      split
      · obtain ⟨r1, r2, r3⟩ := relayAll_ok l1 es1 (SetTable.grown es1.size)
        have hfr := relayAll_fits t1 es1 (SetTable.grown es1.size)
        refine wpAny_bind (gw _ _ rfl rfl ?_)
        refine wpAny_bind (wpAny_storeSet_of ho1 rfl ?_ (fits_of_scanBound (by rw [← Array.length_toList, r3.length_eq, Array.length_toList]; exact hb1)))
        exact wpAny_pure (wpAny_pure (fin _ _ _ _ (sb1.trans (Heap.SameBut.update _ a _)) (sk_store ho1 _ _) r3 hfr r1 (by rw [r2, l2, hled])))
      · exact wpAny_pure (wpAny_pure (fin _ _ _ _ sb1 ho1 (List.Perm.refl _) hfits l1 (by rw [l2, hled])))
end
end L2
namespace L2
open PySem PySem.Spec PyProof.Rows
noncomputable def fm (val : Nat → Int) (i : Nat) : List Int := ((List.range i).map val).foldl addK []
theorem fm_succ (val : Nat → Int) (i : Nat) : fm val (i + 1) = addK (fm val i) (val i) := by unfold fm; rw [List.range_succ, List.map_append, List.foldl_append]; rfl
theorem addK_len (ks : List Int) (k : Int) : (addK ks k).length ≤ ks.length + 1 := by unfold addK; split <;> simp
theorem fm_len (val : Nat → Int) : ∀ i, (fm val i).length ≤ i
  | 0 => Nat.le_refl _
  | i + 1 => by rw [fm_succ]; have := addK_len (fm val i) (val i); have := fm_len val i; omega
theorem SK.heap {P : Program} {w : World} {h h' : Heap} {a : Addr} {led : Bool} {ks : List Int} (hS : SK P w h a led ks) (e : ∀ o, h.get? a = some o → h'.get? a = some o) : SK P w h' a led ks := by
  obtain ⟨es, ep, t, ho, r⟩ := hS
  exact ⟨es, ep, t, e _ ho, r⟩
section
variable {P : Program} {w : World} {A : Around} {R : Result → Shared → Prop} {I : Addr} {fp wr : List Addr} {G : Array GenState → Array GenState → Prop} {n : Nat} {Pv : Nat → Value → Prop} {St : Nat → Shared → Prop}
theorem sk_loop {led : Bool} (W : WalksS P w A.in1 I fp wr G n Pv St) (S : Addr) (hSf : S ∉ fp) (val : Nat → Int) (hval : ∀ i v, Pv i v → ∃ t, v = .int (val i) t) (hb : n + 1 < scanBound) :
    ∀ (k i : Nat) (s : Shared), n - i = k → i ≤ n → St i s → SK P w s.heap S led (fm val i) →
      (∀ s', Moved (S :: wr) G s s' → SK P w s'.heap S led (fm val n) → R (.ok (.ret .none)) s') →
      codeAny (model P w) A (.builtin "set.update.loop" ⟨[.ref S, .ref I], []⟩) R s := by
  have hw : S ∉ wr := fun h => hSf (W.sub _ h)
  have up : ∀ b ∈ wr, b ∈ S :: wr := fun b h => List.mem_cons_of_mem _ h
  intro k
  induction k with
  | zero =>
    intro i s hk hi hst hS hR
    obtain rfl : i = n := by omega
    refine codeAny_builtin F.entry_set_update_loop ?_
    rw [Around.under_plainId F.plain_set_update_loop _]
    show wpAny _ A.in1 (pyNext (.ref I) >>= _) _ _ s
    refine wpAny_bind (W.done s _ _ hst fun s' hm => ?_)
    exact wpAny_pure (hR s' (hm.mono up) (hS.heap fun o e => hm.heap S o hw e))
  | succ k ih =>
    intro i s hk hi hst hS hR
    have hlt : i < n := by omega
    refine codeAny_builtin F.entry_set_update_loop ?_
    rw [Around.under_plainId F.plain_set_update_loop _]
    show wpAny _ A.in1 (pyNext (.ref I) >>= _) _ _ s
    refine wpAny_bind (W.item i s _ _ hlt hst fun v s' hP hst' hm => ?_)
    obtain ⟨t, rfl⟩ := hval i v hP
    have hS' := hS.heap (h' := s'.heap) fun o e => hm.heap S o hw e
    show wpAny _ A.in1 (holding [Value.int (val i) t] (setAdd S (.int (val i) t)) >>= _) _ _ s'
    refine wpAny_bind (wpAny_holding ?_)
    unfold setAdd
    refine wpAny_holding (wpAny_bind ((intKind P w).pyHash (k := val i) (intKind_is _ _ _ _) ?_))
    refine sk_add (s := { s' with toks := s'.toks + 1 }) hS' (by have := fm_len val i; omega) fun b h' sb hS2 => ?_
    rw [← fm_succ] at hS2
    refine wpAny_pure ⟨plainId_quiet F.plain_set_update_loop _, ih (i + 1) _ (by omega) hlt (W.frame _ s' _ _ hst' (Nat.le_succ _) fun b hb o e => ?_) hS2 fun s'' hm'' hS'' => ?_⟩
    · rw [sb.2 b fun h => hSf (h ▸ hb)]; exact e
    · refine hR s'' (Moved.trans W.gtrans ((hm.mono up).then_heap (Nat.le_succ _) fun b o hb e => ?_) hm'') hS''
      rw [sb.2 b fun h => hb (by rw [h]; exact List.mem_cons_self)]; exact e
end
end L2
namespace L2
open PySem PySem.Spec PyProof.Rows
noncomputable abbrev ledOf (w : World) : Bool := !w.params.followText "set-order"
noncomputable abbrev newSetObj (w : World) : Obj := setObj #[] 0 (.fresh 0 0 (ledOf w))
section
variable {P : Program} {w : World} {A : Around} {E : Value → Shared → Prop} {s : Shared}
theorem set_new_k (a : Value) {Q₁ : Value → Shared → Prop} (h : Q₁ (.ref s.heap.objs.size) { s with heap := s.heap.push (newSetObj w) }) :
    codeAny (model P w) A (.call (.builtin "set.__new__") ⟨[.type "set", a], []⟩) (wants Q₁ E) s := by
  refine codeAny_of_tree ?_
  show wpAny _ A.in1 (do checkBuiltinCall "set.__new__" ⟨[.type "set", a], []⟩; again (.builtin "set.__new__" ⟨[.type "set", a], []⟩)) _ _ s
  refine wpAny_bind (wpAny_of_eq (F.newCall_set_1 a) (wpAny_pure ⟨plainId_quiet F.plain_set_new _, codeAny_builtin F.entry_set_new ?_⟩))
  rw [Around.under_plainId F.plain_set_new _]
  unfold Builtin.«set.__new__» Builtin.Frozenset.newClass
  have hsub := sub_set_self
  obtain ⟨hp, g, d, tk, os⟩ := s
  dsimp only
  wp_walk
  refine wpAny_askSetting (wpAny_pure ?_)
  dsimp only
  simp only [newObj]
  exact wpAny_bind (wpAny_alloc (wpAny_pure (wpAny_pure h)))
theorem sk_new (h : Heap) : SK P w (h.push (newSetObj w)) h.objs.size (ledOf w) [] := ⟨#[], 0, _, Heap.get?_push_size _ rfl, fun e he => by simp at he, List.Perm.refl _, by decide, by rfl, TOk.fresh _ _ _, rfl⟩
set_option maxHeartbeats 3200000 in
theorem call_set_k {l : Addr} {items : Array Value} {ns : List Int} {Q : Value → Shared → Prop}
    (hh : A.handled = none) (hl : s.heap.IsList l items) (hi : IntsAre items.toList ns) (hb : items.size + 1 < scanBound)
    (h : ∀ (h' : Heap) (tk : Nat), SK P w h' s.heap.objs.size (ledOf w) (fm (fun i => ns.getD i 0) items.size) → (∀ b o, s.heap.get? b = some o → h'.get? b = some o) → Q (.ref s.heap.objs.size) { s with heap := h', toks := tk }) :
    wpAny (model P w) A (call (.type "set") [.ref l]) Q E s := by
  obtain ⟨c, tl, hmro⟩ := F.called_set.mro
  have hmade := F.called_set.made
  have hsub := F.called_set.sub
  refine wpAny_call (codeAny_of_tree ?_)
  show wpAny _ _ (callAny (.type "set") _) _ _ _
  refine wpAny_pure ⟨Code.quiet_builtin _ (by decide +kernel), codeAny_builtin F.entry_type_call ?_⟩
  rw [Around.under_plain (weight_type_call_type "set" [.ref l] []) rfl]
  have h1 := F.called_set.notType
  have h2 := F.called_set.canCreate
  have hct := F.typeCall_set_1 (.ref l)
  repeat (any_goals (first | assumption | wp_step))
  refine codeAny_mono (set_new_k (.ref l) (E := E) (Q₁ := fun obj s₁ => obj = .ref s.heap.objs.size ∧ s₁ = { s with heap := s.heap.push (newSetObj w) }) ⟨rfl, rfl⟩) fun r s₁ hr => ?_
  cases r with
  | error e => exact hr
  | ok fl =>
    cases fl with
    | ret obj =>
      obtain ⟨rfl, rfl⟩ := hr
      have hS : (s.heap.push (newSetObj w)).get? s.heap.objs.size = some (newSetObj w) := Heap.get?_push_size _ rfl
      have hT : Shared.TypeIs { s with heap := s.heap.push (newSetObj w) } (.ref s.heap.objs.size) "set" := ⟨_, hS, rfl⟩
      have hli := F.called_set.init.lookup
      have hbi := F.called_set.init.bind (.ref s.heap.objs.size)
      repeat (any_goals (first | assumption | wp_step))
      refine codeAny_mono (codeAny_call_builtin (R := wants (fun r s₂ => r = .none ∧ ∃ h' tk, s₂ = { s with heap := h', toks := tk } ∧ SK P w h' s.heap.objs.size (ledOf w) (fm (fun i => ns.getD i 0) items.size) ∧ (∀ b o, s.heap.get? b = some o → h'.get? b = some o)) E) F.called_set.init.plain F.entry_set_init (check_set_init_1 hT ?_)) fun r₂ s₂ hr₂ => ?_
      · obtain ⟨ol, hol, hcl, nl, hdl⟩ := hl
        obtain ⟨ocls, odict, odata, oslots⟩ := ol
        simp only at hcl hdl
        subst hcl; subst hdl
        have hol' : (s.heap.push (newSetObj w)).get? l = some { cls := .type "list", dict := odict, data := .seq items nl, slots := oslots } := Heap.get?_push_of_some _ hol
        have hsls := F.sub_list_set
        have hslf := F.sub_list_frozenset
        have hne : (Value.type "list" == Value.type "dict") = false := by decide
        have hl1 : (s.heap.push (newSetObj w)).IsList l items := ⟨_, hol', rfl, nl, rfl⟩
        unfold Builtin.«set.__init__» noKeywords Builtin.Frozenset.updateFrom
        generalize hPI : pyIter = PI
        wp_walk
        subst hPI
        refine wpAny_pyIter_list hl1 ?_
        refine wpAny_bind (wpAny_runValue ?_)
        have hlS : l < s.heap.objs.size := Heap.lt_size hol
        have hne2 : l ≠ (s.heap.push (newSetObj w)).objs.size := by rw [push_size]; exact Nat.ne_of_lt (Nat.lt_succ_of_lt hlS)
        have hSf : s.heap.objs.size ∉ [(s.heap.push (newSetObj w)).objs.size, l] := by
          rw [push_size]
          intro hm
          rcases List.mem_cons.mp hm with e | e
          · exact Nat.ne_of_lt (Nat.lt_succ_self _) e
          · exact Nat.ne_of_gt hlS (List.mem_singleton.mp e)
        have hval : ∀ (i : Nat) (v : Value), items[i]? = some v → ∃ t, v = .int ((fun i => ns.getD i 0) i) t := fun i v hv => IntsAre.int_at hi i v (by rw [Array.getElem?_toList]; exact hv)
        refine sk_loop ((Walks.list (show A.in1.in1.in1.handled = none from hh) _ l hne2 items).toS) s.heap.objs.size hSf (fun i => ns.getD i 0) hval hb (items.size - 0) 0 _ (by omega) (Nat.zero_le _)
          ⟨⟨_, Heap.get?_push_size _ rfl, rfl, rfl⟩, (hl1.push _)⟩ ((sk_new s.heap).heap fun o e => Heap.get?_push_of_some _ e) ?hR
        case hR =>
          intro s' hm hS'
          rw [Moved.eq_with hm]
          show wpAny _ _ _ _ _ _
          refine wpAny_pure ?_
          show wpAny _ _ (ret Value.none) _ _ _
          refine wpAny_pure ⟨rfl, _, _, rfl, hS', fun b o e => hm.heap b o (fun hmem => ?_) (Heap.get?_push_of_some _ (Heap.get?_push_of_some _ e))⟩
          have hlt := Heap.lt_size e
          rcases List.mem_cons.mp hmem with e' | hmem
          · exact Nat.ne_of_lt hlt e'
          · exact Nat.ne_of_lt (Nat.lt_succ_of_lt hlt) (by have h9 := List.mem_singleton.mp hmem; rw [push_size] at h9; exact h9)
      · cases r₂ with
        | error e => exact hr₂
        | ok fl₂ =>
          cases fl₂ with
          | ret r =>
            obtain ⟨rfl, h', tk, rfl, hS', hk'⟩ := hr₂
            repeat (any_goals (first | assumption | wp_step))
            exact h _ _ hS' hk'
          | _ => exact hr₂.elim
    | _ => exact hr.elim
end
end L2
namespace PySem
namespace F
theorem owner_sit : Manifest.owners.lookup (String.ofList ['r', 'o', 't', 'a', 'r', 'e', 't', 'i', '_', 't', 'e', 's'].reverse) = some Manifest.sig_set_iterator := by kernel_rfl
theorem slot_sit_next : Slot "set_iterator" "__next__" "set_iterator.__next__" :=
  .of (owner := "set_iterator") (n := "__next__") (by rw [typeLookup_type, builtinLookup_eq_fast]; kernel_rfl) (by decide +kernel) (by decide +kernel) (by decide +kernel)
    (by first | exact .inl (by decide +kernel) | exact .inr (by decide +kernel)) (by rw [isSubtype_type]; kernel_rfl)
theorem entry_sit_next : entryFor table "set_iterator.__next__" = some Builtin.«set_iterator.__next__» := entryFor_of_tree (by kernel_rfl)
theorem args_sit_next_1 (a : Value) : argsOk "set_iterator.__next__" ⟨[a], []⟩ := by
  unfold argsOk; rw [signature?_of (id := "set_iterator.__next__") (n := ['_', '_', 't', 'x', 'e', 'n', '_', '_']) (o := ['r', 'o', 't', 'a', 'r', 'e', 't', 'i', '_', 't', 'e', 's']) (by kernel_rfl) owner_sit]; kernel_rfl
theorem slot_sit_iter : Slot "set_iterator" "__iter__" "set_iterator.__iter__" :=
  .of (owner := "set_iterator") (n := "__iter__") (by rw [typeLookup_type, builtinLookup_eq_fast]; kernel_rfl) (by decide +kernel) (by decide +kernel) (by decide +kernel)
    (by first | exact .inl (by decide +kernel) | exact .inr (by decide +kernel)) (by rw [isSubtype_type]; kernel_rfl)
theorem args_sit_iter_1 (a : Value) : argsOk "set_iterator.__iter__" ⟨[a], []⟩ := by
  unfold argsOk; rw [signature?_of (id := "set_iterator.__iter__") (n := ['_', '_', 'r', 'e', 't', 'i', '_', '_']) (o := ['r', 'o', 't', 'a', 'r', 'e', 't', 'i', '_', 't', 'e', 's']) (by kernel_rfl) owner_sit]; kernel_rfl
theorem entry_sit_iter : entryFor table "set_iterator.__iter__" = some Builtin.«dict_keyiterator.__iter__» :=
  entryFor_alias (id' := "dict_keyiterator.__iter__") (by kernel_rfl) (by first | rfl | decide +kernel | (unfold String.splitOn; simp +decide [String.splitOnAux])) (by decide +kernel) (by kernel_rfl)
end F
end PySem
namespace L2
open PySem PySem.Spec PyProof.Rows
theorem choose_ok {P : Program} {w : World} {A : Around} {E : Value → Shared → Prop} {s : Shared} {src : Source} {n : Nat} {Q : Nat → Shared → Prop} (hn : n ≠ 0) (h : ∀ i d, i < n → Q i { s with drawn := d }) : wpAny (model P w) A (choose src n) Q E s := fun Γ p hΓ => ⟨hn, h _ _ (Nat.mod_lt _ (Nat.pos_of_ne_zero hn))⟩
theorem erase_perm {α : Type} {xs : List α} {i : Nat} (hi : i < xs.length) : (xs[i] :: xs.eraseIdx i).Perm xs := by
  rw [List.eraseIdx_eq_take_drop_succ]
  have h1 := (List.perm_middle (a := xs[i]) (l₁ := xs.take i) (l₂ := xs.drop (i + 1))).symm
  rw [List.getElem_cons_drop, List.take_append_drop] at h1
  exact h1
theorem draw_ok {P : Program} {w : World} {A : Around} {E : Value → Shared → Prop} {α : Type} : ∀ (n : Nat) (xs : List α) (s : Shared) (Q : List α → Shared → Prop), xs.length = n → (∀ ys d, ys.Perm xs → Q ys { s with drawn := d }) → wpAny (model P w) A (drawOrder n xs) Q E s
  | 0, xs, s, Q, hl, h => by
    have : xs = [] := List.eq_nil_of_length_eq_zero hl
    subst this
    unfold drawOrder
    have := h [] s.drawn (List.Perm.refl _)
    exact wpAny_pure (by cases s; exact this)
  | n + 1, [], s, Q, hl, h => by simp at hl
  | n + 1, x :: xs, s, Q, hl, h => by
    unfold drawOrder
    refine wpAny_bind (choose_ok (by simp) fun i d hi => ?_)
    have hg : (x :: xs)[i]? = some ((x :: xs)[i]) := List.getElem?_eq_getElem hi
    rw [hg]
    dsimp only
    refine wpAny_bind (draw_ok n ((x :: xs).eraseIdx i) _ _ (by rw [List.length_eraseIdx_of_lt hi]; omega) fun ys d' hp => ?_)
    refine wpAny_pure (h _ d' ?_)
    exact (List.Perm.cons _ hp).trans (erase_perm hi)
theorem pick_go {α : Type} (next : Nat → Nat) : ∀ (fuel k : Nat) (left : List α) (out : Array α), left.length = fuel → (pickOrder.go next fuel k left out).toList.Perm (out.toList ++ left)
  | 0, k, left, out, hl => by
    have : left = [] := List.eq_nil_of_length_eq_zero hl
    subst this
    rw [pickOrder.go]; simp
  | fuel + 1, k, left, out, hl => by
    rw [pickOrder.go]
    have hi : next k % left.length < left.length := Nat.mod_lt _ (by omega)
    rw [List.getElem?_eq_getElem hi]
    dsimp only
    refine (pick_go next fuel (k + 1) _ _ (by rw [List.length_eraseIdx_of_lt hi]; omega)).trans ?_
    rw [Array.toList_push, List.append_assoc]
    exact List.Perm.append_left _ (erase_perm hi)
theorem pick_ok {α : Type} (next : Nat → Nat) (xs : Array α) : (pickOrder next xs).toList.Perm xs.toList := by
  have := pick_go next xs.size 0 xs.toList #[] (by simp)
  unfold pickOrder
  simpa using this
end L2
namespace L2
open PySem PySem.Spec PyProof.Rows
noncomputable def sitObj (first : Value) (i : Nat) (S : Addr) (n ep : Nat) : Obj := { cls := .type "set_iterator", data := .fields #[first, rawInt i, .ref S, rawInt n, rawInt ep] }
noncomputable def IsSit (h : Heap) (I : Addr) (first : Value) (i : Nat) (S : Addr) (n ep : Nat) : Prop := ∃ o, h.get? I = some o ∧ o.cls = .type "set_iterator" ∧ o.data = .fields #[first, rawInt i, .ref S, rawInt n, rawInt ep]
section
variable {P : Program} {w : World} {A : Around} {E : Value → Shared → Prop} {s : Shared}
theorem next_slot {I S : Addr} {es : Array (Int × Value)} {ep i sl sl' : Nat} {t : SetTable} {x : Value} {Q : Option Value → Shared → Prop} (hit : IsSit s.heap I (rawInt sl) i S es.size ep) (hS : s.heap.get? S = some (setObj es ep t)) (hf : t.fits es.size = true)
    (hnx : ∀ (A : Around) (E : Value → Shared → Prop) (Q : Option (Value × Nat) → Shared → Prop), Q (some (x, sl')) s → wpAny (model P w) A (setNext S sl i ep) Q E s)
    (hQ : ∀ h', IsSit h' I (rawInt sl') (i + 1) S es.size ep → Heap.SameBut I s.heap h' → Q (some x) { s with heap := h' }) : wpAny (model P w) A (pyNext (.ref I)) Q E s := by
  obtain ⟨o, ho, hc, hd⟩ := id hit
  have hT : s.TypeIs (.ref I) "set_iterator" := ⟨o, ho, hc⟩
  unfold pyNext
  refine wpAny_bind (wpAny_attempt (wpAny_callSpecial?_slot (name := Str.ofString "__next__") hT F.slot_sit_next
    (wpAny_call_entry F.slot_sit_next hT F.entry_sit_next ?_ (F.args_sit_next_1 _))))
  unfold Builtin.«set_iterator.__next__»
  refine wpAny_bind (wpAny_of_eq (a := (Value.ref I, [])) rfl ?_)
  dsimp only
  refine wpAny_bind (wpAny_fieldsOf ho hd ?_)
  dsimp only [rawInt]
  refine wpAny_bind (wpAny_setEntries_of hS rfl hf ?_)
  rw [if_neg (by simp)]
  refine wpAny_bind (hnx _ _ _ ?_)
  dsimp only
  refine wpAny_bind (wpAny_setField ho hd (by simp) ?_)
  have ho1 := Heap.get?_update_self (Obj.mapFields (·.setIfInBounds 0 (Value.int sl' 0))) ho (Obj.isFreed_of_fields (Obj.data_mapFields hd _))
  have hd1 := Obj.data_mapFields hd (·.setIfInBounds 0 (Value.int sl' 0))
  refine wpAny_bind (wpAny_setField ho1 hd1 (by simp) ?_)
  have ho2 := Heap.get?_update_self (Obj.mapFields (·.setIfInBounds 1 (Value.int ((i : Int) + 1) 0))) ho1 (Obj.isFreed_of_fields (Obj.data_mapFields hd1 _))
  have hd2 := Obj.data_mapFields hd1 (·.setIfInBounds 1 (Value.int ((i : Int) + 1) 0))
  refine wpAny_pure ⟨x, rfl, wpAny_pure (hQ _ ⟨_, ho2, ?_, ?_⟩ ((Heap.SameBut.update ..).trans (Heap.SameBut.update ..)))⟩
  · rw [Obj.cls_mapFields, Obj.cls_mapFields]; exact hc
  · rw [hd2]; simp [rawInt]
theorem stop_it {I : Addr} {o : Obj} {vs : Array Value} {Q : Option Value → Shared → Prop} (hh : A.handled = none) (ho : s.heap.get? I = some o) (hd : o.data = .fields vs) (hz : 2 < vs.size) (hQ : ∀ h', Heap.ExtBut I s.heap h' → Q none { s with heap := h' }) :
    wpAny (model P w) A.in1 (do setField (.ref I) 2 .none; let e ← newExc (.type "StopIteration") []; raiseNew e) (fun fin s' => ∃ v, fin = Fin.done (Flow.ret v) ∧ wpAny (model P w) A (pure (some v)) Q E s')
      (fun e s' => wpAny (model P w) A (do let b ← isInstance e (.type "StopIteration"); if b = true then pure none else throw e) Q E s') s := by
  refine wpAny_bind (wpAny_setField ho hd hz ?_)
  refine wpAny_bind ?_
  simp only [newExc, newTuple]
  refine wpAny_bind (wpAny_newObj_type ?_ (by size_fits))
  refine wpAny_bind (m := firstArgMember _ _) (wpAny_of_eq (a := Value.none) (by first | rfl | (simp only [firstArgMember]; rfl)) ?_)
  refine wpAny_newObj_type ?_ (by size_fits)
  simp only [raiseNew]
  refine wpAny_bind (wpAny_handled ?_)
  first | rw [show A.in1.handled = none from hh] | rw [hh]
  refine wpAny_bind (wpAny_pure (wpAny_throw ?_))
  refine wpAny_bind (wpAny_isInstance (T := "StopIteration") (b := true) ⟨_, Heap.get?_push_size _ rfl, rfl⟩ isSubtype_stop ?_)
  exact wpAny_pure (hQ _ (((Heap.SameBut.update ..).extBut.push _).push _))
theorem end_slot {I S : Addr} {es : Array (Int × Value)} {ep i sl : Nat} {t : SetTable} {Q : Option Value → Shared → Prop} (hh : A.handled = none) (hit : IsSit s.heap I (rawInt sl) i S es.size ep) (hS : s.heap.get? S = some (setObj es ep t)) (hf : t.fits es.size = true)
    (hnx : ∀ (A : Around) (E : Value → Shared → Prop) (Q : Option (Value × Nat) → Shared → Prop), Q none s → wpAny (model P w) A (setNext S sl i ep) Q E s)
    (hQ : ∀ h', Heap.ExtBut I s.heap h' → Q none { s with heap := h' }) : wpAny (model P w) A (pyNext (.ref I)) Q E s := by
  obtain ⟨o, ho, hc, hd⟩ := id hit
  have hT : s.TypeIs (.ref I) "set_iterator" := ⟨o, ho, hc⟩
  unfold pyNext
  refine wpAny_bind (wpAny_attempt (wpAny_callSpecial?_slot (name := Str.ofString "__next__") hT F.slot_sit_next
    (wpAny_call_entry F.slot_sit_next hT F.entry_sit_next ?_ (F.args_sit_next_1 _))))
  unfold Builtin.«set_iterator.__next__»
  refine wpAny_bind (wpAny_of_eq (a := (Value.ref I, [])) rfl ?_)
  dsimp only
  refine wpAny_bind (wpAny_fieldsOf ho hd ?_)
  dsimp only [rawInt]
  refine wpAny_bind (wpAny_setEntries_of hS rfl hf ?_)
  rw [if_neg (by simp)]
  refine wpAny_bind (hnx _ _ _ ?_)
  dsimp only
  exact stop_it hh ho hd (by simp) hQ
theorem next_drawn {I S D : Addr} {es : Array (Int × Value)} {ep i : Nat} {t : SetTable} {ps : List Nat} {q : Nat} {x : Int × Value} {Q : Option Value → Shared → Prop} (hit : IsSit s.heap I (.ref D) i S es.size ep) (hS : s.heap.get? S = some (setObj es ep t)) (hf : t.fits es.size = true)
    (hD : s.heap.IsTuple D (ps.map fun p : Nat => rawInt p).toArray) (hq : ps[i]? = some q) (hx : es[q]? = some x)
    (hQ : ∀ h', IsSit h' I (.ref D) (i + 1) S es.size ep → Heap.SameBut I s.heap h' → Q (some x.2) { s with heap := h' }) : wpAny (model P w) A (pyNext (.ref I)) Q E s := by
  obtain ⟨o, ho, hc, hd⟩ := id hit
  obtain ⟨od, hod, hcd, nd, hdd⟩ := hD
  have hT : s.TypeIs (.ref I) "set_iterator" := ⟨o, ho, hc⟩
  unfold pyNext
  refine wpAny_bind (wpAny_attempt (wpAny_callSpecial?_slot (name := Str.ofString "__next__") hT F.slot_sit_next
    (wpAny_call_entry F.slot_sit_next hT F.entry_sit_next ?_ (F.args_sit_next_1 _))))
  unfold Builtin.«set_iterator.__next__»
  refine wpAny_bind (wpAny_of_eq (a := (Value.ref I, [])) rfl ?_)
  dsimp only
  refine wpAny_bind (wpAny_fieldsOf ho hd ?_)
  dsimp only [rawInt]
  refine wpAny_bind (wpAny_setEntries_of hS rfl hf ?_)
  rw [if_neg (by simp)]
  refine wpAny_bind (wpAny_seqItems hod hdd ?_)
  have hg : ((ps.map fun p : Nat => rawInt p).toArray)[((i : Int)).toNat]? = some (rawInt q) := by simp [hq]
  dsimp only
  rw [hg]
  dsimp only [rawInt]
  unfold setNextDrawn
  refine wpAny_bind (wpAny_bind (wpAny_setState_of hS rfl hf ?_))
  dsimp only
  simp only [Int.toNat_natCast, bne_self_eq_false, Bool.false_eq_true, if_false, hx]
  refine wpAny_pure ?_
  refine wpAny_bind (wpAny_setField ho hd (by simp) ?_)
  have ho2 := Heap.get?_update_self (Obj.mapFields (·.setIfInBounds 1 (Value.int ((i : Int) + 1) 0))) ho (Obj.isFreed_of_fields (Obj.data_mapFields hd _))
  have hd2 := Obj.data_mapFields hd (·.setIfInBounds 1 (Value.int ((i : Int) + 1) 0))
  refine wpAny_pure ⟨x.2, rfl, wpAny_pure (hQ _ ⟨_, ho2, ?_, ?_⟩ (Heap.SameBut.update ..))⟩
  · rw [Obj.cls_mapFields]; exact hc
  · rw [hd2]; simp [rawInt]
end
end L2
namespace L2
open PySem PySem.Spec PyProof.Rows
section
variable {P : Program} {w : World} {A : Around} {E : Value → Shared → Prop} {s : Shared}
theorem end_drawn {I S D : Addr} {es : Array (Int × Value)} {ep i : Nat} {t : SetTable} {ps : List Nat} {Q : Option Value → Shared → Prop} (hh : A.handled = none) (hit : IsSit s.heap I (.ref D) i S es.size ep) (hS : s.heap.get? S = some (setObj es ep t)) (hf : t.fits es.size = true)
    (hD : s.heap.IsTuple D (ps.map fun p : Nat => rawInt p).toArray) (hq : ps[i]? = none)
    (hQ : ∀ h', Heap.ExtBut I s.heap h' → Q none { s with heap := h' }) : wpAny (model P w) A (pyNext (.ref I)) Q E s := by
  obtain ⟨o, ho, hc, hd⟩ := id hit
  obtain ⟨od, hod, hcd, nd, hdd⟩ := hD
  have hT : s.TypeIs (.ref I) "set_iterator" := ⟨o, ho, hc⟩
  unfold pyNext
  refine wpAny_bind (wpAny_attempt (wpAny_callSpecial?_slot (name := Str.ofString "__next__") hT F.slot_sit_next
    (wpAny_call_entry F.slot_sit_next hT F.entry_sit_next ?_ (F.args_sit_next_1 _))))
  unfold Builtin.«set_iterator.__next__»
  refine wpAny_bind (wpAny_of_eq (a := (Value.ref I, [])) rfl ?_)
  dsimp only
  refine wpAny_bind (wpAny_fieldsOf ho hd ?_)
  dsimp only [rawInt]
  refine wpAny_bind (wpAny_setEntries_of hS rfl hf ?_)
  rw [if_neg (by simp)]
  refine wpAny_bind (wpAny_seqItems hod hdd ?_)
  have hg : ((ps.map fun p : Nat => rawInt p).toArray)[((i : Int)).toNat]? = none := by simpa using hq
  dsimp only
  rw [hg]
  dsimp only
  refine wpAny_bind (wpAny_setField ho hd (by simp) ?_)
  have ho1 := Heap.get?_update_self (Obj.mapFields (·.setIfInBounds 0 (Value.int 0 0))) ho (Obj.isFreed_of_fields (Obj.data_mapFields hd _))
  have hd1 := Obj.data_mapFields hd (·.setIfInBounds 0 (Value.int 0 0))
  exact stop_it hh ho1 hd1 (by simp) fun h' he => hQ h' fun b o hb e => he b o hb ((Heap.SameBut.update s.heap I (Obj.mapFields (·.setIfInBounds 0 (Value.int 0 0)))).extBut b o hb e)
theorem byText_eq {Q : Bool → Shared → Prop} (h : Q (w.params.followText "set-order") s) : wpAny (model P w) A setsByText Q E s := by
  unfold setsByText
  exact wpAny_bind (wpAny_askSetting (wpAny_pure h))
theorem next_text {S : Addr} {es : Array (Int × Value)} {ep sl i : Nat} {t : SetTable} {Q : Option (Value × Nat) → Shared → Prop} (hb : w.params.followText "set-order" = true) (hS : s.heap.get? S = some (setObj es ep t)) (hf : t.fits es.size = true)
    (h : Q (((pickOrder (w.params.setOrder S ep) es)[i]?).map fun e => (e.2, sl)) s) : wpAny (model P w) A (setNext S sl i ep) Q E s := by
  unfold setNext
  refine wpAny_bind (wpAny_setState_of hS rfl hf ?_)
  dsimp only
  refine wpAny_bind (byText_eq ?_)
  rw [hb, if_pos rfl, if_neg (by simp)]
  unfold setWalk
  refine wpAny_bind (wpAny_bind (wpAny_setState_of hS rfl hf ?_))
  dsimp only
  refine wpAny_bind (byText_eq ?_)
  rw [hb, if_pos rfl]
  refine wpAny_bind (wpAny_askSetting (wpAny_pure ?_))
  exact wpAny_pure h
theorem next_place {S : Addr} {es : Array (Int × Value)} {ep sl i : Nat} {t : SetTable} {Q : Option (Value × Nat) → Shared → Prop} (hb : w.params.followText "set-order" = false) (hS : s.heap.get? S = some (setObj es ep t)) (hf : t.fits es.size = true) (hpl : (!t.plain && decide (es.size > 1)) = false) (hled : t.led = true)
    (h : Q (match es[SetTable.below t.place sl]?, t.place[SetTable.below t.place sl]? with | some (_, x), some j => some (x, j + 1) | _, _ => none) s) : wpAny (model P w) A (setNext S sl i ep) Q E s := by
  unfold setNext
  refine wpAny_bind (wpAny_setState_of hS rfl hf ?_)
  dsimp only
  refine wpAny_bind (byText_eq ?_)
  rw [hb, if_neg (by decide)]
  refine wpAny_ite_split (fun hab => absurd hab (by show ¬ ((!t.plain && decide (es.size > 1)) = true); rw [hpl]; decide)) (fun _ => ?_)
  refine wpAny_bind ?_
  show wpAny _ _ (if (!t.led && !es.isEmpty) = true then unsupported "set:maker-not-led" else pure ()) _ _ _
  rw [hled, if_neg (by simp)]
  exact wpAny_pure (wpAny_pure h)
noncomputable def slotAt (t : SetTable) : Nat → Nat
  | 0 => 0
  | i + 1 => t.place.getD i 0 + 1
theorem below_at {t : SetTable} (hT : TOk t) {i : Nat} (hi : i ≤ t.place.size) : SetTable.below t.place (slotAt t i) = i := by
  cases i with
  | zero => exact below_zero hT.ris
  | succ i =>
    have hi' : i < t.place.size := hi
    show SetTable.below t.place (t.place.getD i 0 + 1) = i + 1
    rw [show t.place.getD i 0 = t.place[i] by simp [Array.getD, hi']]
    exact below_next hT.ris i hi'
theorem walk_place {I S : Addr} {es : Array (Int × Value)} {ep : Nat} {t : SetTable} (hh : A.handled = none) (hne : S ≠ I) (hb : w.params.followText "set-order" = false) (hf : t.fits es.size = true) (hpl : (!t.plain && decide (es.size > 1)) = false) (hled : t.led = true) (hT : TOk t) :
    Walks P w A I [I, S] [I] es.size (fun i v => (es[i]?).map (·.2) = some v) (fun i h => i ≤ es.size ∧ IsSit h I (rawInt (slotAt t i)) i S es.size ep ∧ h.get? S = some (setObj es ep t)) where
  sub := fun b hb => by simp at hb; simp [hb]
  frame := fun i h h' st hk => ⟨st.1, (by obtain ⟨o, a, b⟩ := st.2.1; exact ⟨o, hk I (by simp) o a, b⟩), hk S (by simp) _ st.2.2⟩
  item := fun i s Q E hi st hQ => by
    have hps : t.place.size = es.size := by unfold SetTable.fits at hf; simp at hf; exact hf.1
    have hx : es[i]? = some es[i] := Array.getElem?_eq_getElem hi
    have hp : t.place[i]? = some t.place[i] := Array.getElem?_eq_getElem (by omega)
    refine next_slot (sl' := slotAt t (i + 1)) (x := es[i].2) st.2.1 st.2.2 hf (fun A E Q q => next_place hb st.2.2 hf hpl hled ?_) fun h' h1 h2 => ?_
    · rw [below_at hT (by omega), hx, hp]
      have : slotAt t (i + 1) = t.place[i] + 1 := by show t.place.getD i 0 + 1 = _; simp [Array.getD, show i < t.place.size by omega]
      rw [this] at q; exact q
    · exact hQ _ h' s.toks (by rw [hx]; rfl) ⟨hi, h1, by rw [h2.2 S hne]; exact st.2.2⟩ fun b o hb e => by rw [h2.2 b (fun z => hb (by simp [z]))]; exact e
  done := fun s Q E st hQ => by
    have hps : t.place.size = es.size := by unfold SetTable.fits at hf; simp at hf; exact hf.1
    refine end_slot hh st.2.1 st.2.2 hf (fun A E Q q => next_place hb st.2.2 hf hpl hled ?_) fun h' h1 => hQ h' s.toks fun b o hb e => h1 b o (fun z => hb (by simp [z])) e
    rw [below_at hT (by omega), Array.getElem?_eq_none (by omega)]
    exact q
  self := fun i s Q E st hQ => by
    obtain ⟨o, ho, hc, hd⟩ := st.2.1
    have hTy : s.TypeIs (.ref I) "set_iterator" := ⟨o, ho, hc⟩
    refine wpAny_pyIter_slot hTy F.slot_sit_iter (wpAny_call_entry F.slot_sit_iter hTy F.entry_sit_iter ?_ (F.args_sit_iter_1 _))
    show wpAny _ _ (ret (.ref I)) _ _ s
    exact wpAny_pure ⟨_, rfl, "set_iterator", _, hTy, F.slot_sit_next.lookup, hQ⟩
theorem walk_text {I S : Addr} {es : Array (Int × Value)} {ep : Nat} {t : SetTable} (hh : A.handled = none) (hne : S ≠ I) (hb : w.params.followText "set-order" = true) (hf : t.fits es.size = true) :
    Walks P w A I [I, S] [I] es.size (fun i v => ((pickOrder (w.params.setOrder S ep) es)[i]?).map (·.2) = some v) (fun i h => i ≤ es.size ∧ IsSit h I (rawInt (0 : Nat)) i S es.size ep ∧ h.get? S = some (setObj es ep t)) where
  sub := fun b hb => by simp at hb; simp [hb]
  frame := fun i h h' st hk => ⟨st.1, (by obtain ⟨o, a, b⟩ := st.2.1; exact ⟨o, hk I (by simp) o a, b⟩), hk S (by simp) _ st.2.2⟩
  item := fun i s Q E hi st hQ => by
    have hsz : (pickOrder (w.params.setOrder S ep) es).size = es.size := by have := (pick_ok (w.params.setOrder S ep) es).length_eq; simpa using this
    have hx : (pickOrder (w.params.setOrder S ep) es)[i]? = some ((pickOrder (w.params.setOrder S ep) es)[i]) := Array.getElem?_eq_getElem (by omega)
    refine next_slot (sl' := 0) (x := ((pickOrder (w.params.setOrder S ep) es)[i]).2) st.2.1 st.2.2 hf (fun A E Q q => next_text hb st.2.2 hf ?_) fun h' h1 h2 => ?_
    · rw [hx]; exact q
    · exact hQ _ h' s.toks (by rw [hx]; rfl) ⟨hi, h1, by rw [h2.2 S hne]; exact st.2.2⟩ fun b o hb e => by rw [h2.2 b (fun z => hb (by simp [z]))]; exact e
  done := fun s Q E st hQ => by
    have hsz : (pickOrder (w.params.setOrder S ep) es).size = es.size := by have := (pick_ok (w.params.setOrder S ep) es).length_eq; simpa using this
    refine end_slot hh st.2.1 st.2.2 hf (fun A E Q q => next_text hb st.2.2 hf ?_) fun h' h1 => hQ h' s.toks fun b o hb e => h1 b o (fun z => hb (by simp [z])) e
    rw [Array.getElem?_eq_none (by omega)]
    exact q
  self := fun i s Q E st hQ => by
    obtain ⟨o, ho, hc, hd⟩ := st.2.1
    have hTy : s.TypeIs (.ref I) "set_iterator" := ⟨o, ho, hc⟩
    refine wpAny_pyIter_slot hTy F.slot_sit_iter (wpAny_call_entry F.slot_sit_iter hTy F.entry_sit_iter ?_ (F.args_sit_iter_1 _))
    show wpAny _ _ (ret (.ref I)) _ _ s
    exact wpAny_pure ⟨_, rfl, "set_iterator", _, hTy, F.slot_sit_next.lookup, hQ⟩
theorem walk_drawn {I S D : Addr} {es : Array (Int × Value)} {ep : Nat} {t : SetTable} {ps : List Nat} (hh : A.handled = none) (hne : S ≠ I) (hnd : D ≠ I) (hf : t.fits es.size = true) (hps : ps.Perm (List.range es.size)) :
    Walks P w A I [I, S, D] [I] es.size (fun i v => (ps[i]?).bind (fun q => (es[q]?).map (·.2)) = some v) (fun i h => i ≤ es.size ∧ IsSit h I (.ref D) i S es.size ep ∧ h.get? S = some (setObj es ep t) ∧ h.IsTuple D (ps.map fun p : Nat => rawInt p).toArray) where
  sub := fun b hb => by simp at hb; simp [hb]
  frame := fun i h h' st hk => ⟨st.1, (by obtain ⟨o, a, b⟩ := st.2.1; exact ⟨o, hk I (by simp) o a, b⟩), hk S (by simp) _ st.2.2.1, st.2.2.2.at fun o e => hk D (by simp) o e⟩
  item := fun i s Q E hi st hQ => by
    have hl : ps.length = es.size := by have := hps.length_eq; simpa using this
    have hq : ps[i]? = some (ps[i]'(by omega)) := List.getElem?_eq_getElem (by omega)
    have hlt : ps[i]'(by omega) < es.size := List.mem_range.mp (hps.mem_iff.mp (List.getElem_mem _))
    refine next_drawn st.2.1 st.2.2.1 hf st.2.2.2 hq (Array.getElem?_eq_getElem hlt) fun h' h1 h2 => ?_
    exact hQ _ h' s.toks (by rw [hq]; show Option.map _ _ = _; rw [Array.getElem?_eq_getElem hlt]; rfl) ⟨hi, h1, by rw [h2.2 S hne]; exact st.2.2.1, st.2.2.2.at fun o e => by rw [h2.2 D hnd]; exact e⟩ fun b o hb e => by rw [h2.2 b (fun z => hb (by simp [z]))]; exact e
  done := fun s Q E st hQ => by
    have hl : ps.length = es.size := by have := hps.length_eq; simpa using this
    exact end_drawn hh st.2.1 st.2.2.1 hf st.2.2.2 (List.getElem?_eq_none (by omega)) fun h' h1 => hQ h' s.toks fun b o hb e => h1 b o (fun z => hb (by simp [z])) e
  self := fun i s Q E st hQ => by
    obtain ⟨o, ho, hc, hd⟩ := st.2.1
    have hTy : s.TypeIs (.ref I) "set_iterator" := ⟨o, ho, hc⟩
    refine wpAny_pyIter_slot hTy F.slot_sit_iter (wpAny_call_entry F.slot_sit_iter hTy F.entry_sit_iter ?_ (F.args_sit_iter_1 _))
    show wpAny _ _ (ret (.ref I)) _ _ s
    exact wpAny_pure ⟨_, rfl, "set_iterator", _, hTy, F.slot_sit_next.lookup, hQ⟩
end
end L2
namespace PySem.F
theorem entry_set_iter : entryFor table "set.__iter__" = some Builtin.«frozenset.__iter__» :=
  entryFor_alias (id' := "frozenset.__iter__") (by kernel_rfl) (by first | rfl | decide +kernel | (unfold String.splitOn; simp +decide [String.splitOnAux])) (by decide +kernel) (by kernel_rfl)
end PySem.F
namespace L2
open PySem PySem.Spec PyProof.Rows
section
variable {P : Program} {w : World} {A : Around} {E : Value → Shared → Prop} {s : Shared}
noncomputable def SW (P : Program) (w : World) (h' : Heap) (I S old : Nat) (es : Array (Int × Value)) : Prop :=
  ∃ (fp : List Addr) (vs : List Value) (Pv : Nat → Value → Prop) (St : Nat → Heap → Prop), (∀ A : Around, A.handled = none → Walks P w A I fp [I] es.size Pv St) ∧ St 0 h' ∧ (∀ i v, Pv i v → vs[i]? = some v) ∧ vs.Perm (es.toList.map (·.2)) ∧ I ∈ fp ∧ (∀ b ∈ fp, b < h'.objs.size) ∧ (∀ b ∈ fp, b = S ∨ old ≤ b) ∧ old ≤ I
theorem iter_set {S : Addr} {es : Array (Int × Value)} {ep : Nat} {t : SetTable} {Q : Value → Shared → Prop} (hS : s.heap.get? S = some (setObj es ep t)) (hf : t.fits es.size = true) (hT : TOk t) (hled : t.led = ledOf w) (hb : es.size < scanBound)
    (hQ : ∀ I h' d, SW P w h' I S s.heap.objs.size es → (∀ b o, s.heap.get? b = some o → h'.get? b = some o) → Q (.ref I) { s with heap := h', drawn := d }) : wpAny (model P w) A (pyIter (.ref S)) Q E s := by
  have hTy : s.TypeIs (.ref S) "set" := ⟨_, hS, rfl⟩
  refine wpAny_pyIter_slot hTy F.slot_set_iter (wpAny_call_entry F.slot_set_iter hTy F.entry_set_iter ?_ (F.args_set_iter_1 _))
  unfold Builtin.«frozenset.__iter__»
  refine wpAny_bind (wpAny_of_eq (a := S) (by first | rfl | kernel_rfl) ?_)
  unfold Builtin.Frozenset.sizeOf
  refine wpAny_bind (wpAny_bind (wpAny_setEntries_of hS rfl hf (wpAny_pure ?_)))
  unfold setDrawn
  refine wpAny_bind (wpAny_bind (wpAny_setState_of hS rfl hf ?_))
  dsimp only
  refine wpAny_bind (byText_eq (wpAny_pure ?_))
  have hSlt : S < s.heap.objs.size := Heap.lt_size hS
  refine wpAny_ite_split (fun hab => ?_) (fun hab => ?_)
  · refine wpAny_bind (draw_ok es.size (List.range es.size) _ _ (by simp) fun ps d hps => ?_)
    simp only [newTuple]
    have hpl : ps.length = es.size := by have := hps.length_eq; simpa using this
    refine wpAny_bind (wpAny_newObj_type ?_ (by show (ps.map fun i : Nat => rawInt i).toArray.size ≤ sizeLine; rw [List.size_toArray, List.length_map, hpl]; exact fits_of_scanBound hb))
    have hS1 := Heap.get?_push_of_some { cls := Value.type "tuple", data := Data.seq (ps.map fun i : Nat => rawInt i).toArray } hS
    refine wpAny_bind (wpAny_setEpoch_of (s := { s with heap := s.heap.push _, drawn := d }) hS1 rfl hf ?_)
    simp only [newFields]
    refine wpAny_bind (wpAny_newObj_type ?_ (by size_fits))
    refine wpAny_pure ⟨_, rfl, "set_iterator", _, ⟨_, Heap.get?_push_size _ rfl, rfl⟩, F.slot_sit_next.lookup, hQ _ _ d ?_ fun b o e => Heap.get?_push_of_some _ (Heap.get?_push_of_some _ e)⟩
    refine ⟨[(s.heap.push _).objs.size, S, s.heap.objs.size], ps.map (fun q => ((es[q]?).map (·.2)).getD .none), _, _, fun A hh => walk_drawn (es := es) (ep := ep) (t := t) (ps := ps) hh (by rw [push_size]; exact Nat.ne_of_lt (Nat.lt_succ_of_lt hSlt)) (by rw [push_size]; exact Nat.ne_of_lt (Nat.lt_succ_self _)) hf hps, ?_, ?_, ?_, by simp, ?_, ?_, ?_⟩
    · exact ⟨Nat.zero_le _, ⟨_, Heap.get?_push_size _ rfl, rfl, rfl⟩, Heap.get?_push_of_some _ hS1, ⟨_, Heap.get?_push_of_some _ (Heap.get?_push_size _ rfl), rfl, 0, rfl⟩⟩
    · intro i v hv
      cases hq : ps[i]? with
      | none => rw [hq] at hv; cases hv
      | some q =>
        rw [hq] at hv
        rw [List.getElem?_map, hq]
        show some (((es[q]?).map (·.2)).getD .none) = _
        rw [show (es[q]?).map (·.2) = some v from hv]; rfl
    · refine (hps.map _).trans ?_
      rw [show (List.range es.size).map (fun q => ((es[q]?).map (·.2)).getD .none) = es.toList.map (·.2) from ?_]
      apply List.ext_getElem
      · simp
      · intro k h1 h2
        have hk : k < es.size := by simpa using h1
        simp [hk]
    · intro b hb'
      rw [push_size]
      show b < (Heap.push _ _).objs.size + 1
      rw [push_size]
      rcases List.mem_cons.mp hb' with e | e
      · rw [e, push_size]; exact Nat.lt_succ_self _
      · rcases List.mem_cons.mp e with e | e
        · rw [e]; exact Nat.lt_succ_of_lt (Nat.lt_succ_of_lt hSlt)
        · rw [List.mem_singleton.mp e]; exact Nat.lt_succ_of_lt (Nat.lt_succ_self _)
    · intro b hb'
      rcases List.mem_cons.mp hb' with e | e
      · rw [e, push_size]; exact .inr (Nat.le_succ _)
      · rcases List.mem_cons.mp e with e | e
        · exact .inl e
        · rw [List.mem_singleton.mp e]; exact .inr (Nat.le_refl _)
    · show _ ≤ (Heap.push _ _).objs.size
      rw [push_size]; exact Nat.le_succ _
  · refine wpAny_bind (wpAny_pure ?_)
    refine wpAny_bind (wpAny_setEpoch_of hS rfl hf ?_)
    simp only [newFields]
    refine wpAny_bind (wpAny_newObj_type ?_ (by size_fits))
    refine wpAny_pure ⟨_, rfl, "set_iterator", _, ⟨_, Heap.get?_push_size _ rfl, rfl⟩, F.slot_sit_next.lookup, hQ _ _ s.drawn ?_ fun b o e => Heap.get?_push_of_some _ e⟩
    have hfp : ∀ b ∈ [s.heap.objs.size, S], b < (s.heap.push (sitObj (rawInt (0 : Nat)) 0 S es.size ep)).objs.size := fun b hb => by
      rw [push_size]
      rcases List.mem_cons.mp hb with e | e
      · rw [e]; exact Nat.lt_succ_self _
      · rw [List.mem_singleton.mp e]; exact Nat.lt_succ_of_lt hSlt
    have hfo : ∀ b ∈ [s.heap.objs.size, S], b = S ∨ s.heap.objs.size ≤ b := fun b hb => by
      rcases List.mem_cons.mp hb with e | e
      · rw [e]; exact .inr (Nat.le_refl _)
      · exact .inl (List.mem_singleton.mp e)
    have hsit : IsSit (s.heap.push (sitObj (rawInt (0 : Nat)) 0 S es.size ep)) s.heap.objs.size (rawInt (0 : Nat)) 0 S es.size ep := ⟨_, Heap.get?_push_size _ rfl, rfl, rfl⟩
    cases hbt : w.params.followText "set-order" with
    | true =>
      refine ⟨[s.heap.objs.size, S], (pickOrder (w.params.setOrder S ep) es).toList.map (·.2), _, _, fun A hh => walk_text (t := t) hh (Nat.ne_of_lt hSlt) hbt hf, ⟨Nat.zero_le _, hsit, Heap.get?_push_of_some _ hS⟩, fun i v hv => ?_, (pick_ok _ es).map _, by simp, hfp, hfo, Nat.le_refl _⟩
      rw [List.getElem?_map, Array.getElem?_toList]; exact hv
    | false =>
      have hpl : (!t.plain && decide (es.size > 1)) = false := by
        rw [hbt] at hab
        have : ¬ ((!t.plain && decide (es.size > 1)) = true) := fun z => hab (show (!false && (!t.plain && decide (es.size > 1))) = true by rw [z]; rfl)
        simpa using this
      refine ⟨[s.heap.objs.size, S], es.toList.map (·.2), _, _, fun A hh => walk_place (t := t) (ep := ep) hh (Nat.ne_of_lt hSlt) hbt hf hpl (by rw [hled]; unfold ledOf; rw [hbt]; rfl) hT, ⟨Nat.zero_le _, hsit, Heap.get?_push_of_some _ hS⟩, fun i v hv => ?_, List.Perm.refl _, by simp, hfp, hfo, Nat.le_refl _⟩
      rw [List.getElem?_map, Array.getElem?_toList]; exact hv
end
end L2
namespace L2
open PySem PySem.Spec PyProof.Rows
theorem slot_set_len' : typeLookup (.type "set") "__len__" = pure (some (.builtin "set.__len__")) := by rw [typeLookup_type, builtinLookup_eq_fast]; kernel_rfl
section
variable {P : Program} {w : World} {A : Around} {E : Value → Shared → Prop} {s : Shared}
theorem hint_set {S : Addr} {Q : Bool → Shared → Prop} (hT : s.TypeIs (.ref S) "set") (h : Q false s) : wpAny (model P w) A (Builtin.List.listLengthHint (.ref S)) Q E s := by
  unfold Builtin.List.listLengthHint
  refine wpAny_bind (wpAny_specialOf hT slot_set_len' ?_)
  (generalize hid : ("set.__len__" : String) = id0; (fail_if_success (clear hid id0)); wp_delta; rw [show splitId id0 = some ("set", "__len__") from by subst hid; decide +kernel]; subst hid)
  refine wpAny_bind (wpAny_isInstance (b := true) hT (by rw [isSubtype_type]; kernel_rfl) ?_)
  refine wpAny_ite_split (fun hab => absurd hab (by decide)) (fun _ => ?_)
  refine wpAny_ite_split (fun _ => ?_) (fun hab => absurd (by decide +kernel) hab)
  refine wpAny_bind (wpAny_typeOf hT ?_)
  exact wpAny_pure h
theorem items_list {Pv : Nat → Value → Prop} {vs : List Value} {acc : Array Value} {n : Nat} (h : ItemsOf Pv acc n) (hp : ∀ i v, Pv i v → vs[i]? = some v) (hn : vs.length = n) : acc.toList = vs := by
  apply List.ext_getElem?
  intro i
  by_cases hi : i < acc.size
  · rw [Array.getElem?_toList, Array.getElem?_eq_getElem hi]
    exact (hp i _ (h.2 i _ (Array.getElem?_eq_getElem hi))).symm
  · rw [List.getElem?_eq_none (by rw [Array.length_toList]; omega), List.getElem?_eq_none (by rw [hn, ← h.1]; omega)]
theorem collect_set {S : Addr} {ks : List Int} {Q : List Value → Shared → Prop} (hh : A.handled = none) (hS : SK P w s.heap S (ledOf w) ks)
    (hQ : ∀ vs h' tk d, (∃ ns, IntsAre vs ns ∧ ns.Perm ks) → (∀ b o, s.heap.get? b = some o → h'.get? b = some o) → s.heap.objs.size ≤ h'.objs.size → Q vs { s with heap := h', toks := tk, drawn := d }) : wpAny (model P w) A (collect (.ref S)) Q E s := by
  obtain ⟨es, ep, t, ho, hel, hp, hb, hf, hT, hled⟩ := hS
  unfold collect
  refine wpAny_bind (wpAny_runValue (codeAny_builtin F.entry_proto_collect ?_))
  rw [Around.under_plainId F.plain_proto_collect _]
  show wpAny _ A.in1 (newList [] >>= fun l => again (.builtin "list.__iadd__" ⟨[l, .ref S], []⟩)) _ _ s
  refine wpAny_bind (wpAny_newObj_type ?_)
  refine wpAny_pure ⟨plainId_quiet F.plain_list_iadd _, codeAny_builtin F.entry_list_iadd ?_⟩
  rw [Around.under_plainId F.plain_list_iadd _]
  show wpAny _ A.in1 (Builtin.List.listExtendWith (.ref s.heap.objs.size) (.ref S) (.ref s.heap.objs.size)) _ _ _
  unfold Builtin.List.listExtendWith
  have hSlt : S < s.heap.objs.size := Heap.lt_size ho
  have ho1 := Heap.get?_push_of_some { cls := Value.type "list", data := Data.seq ([] : List Value).toArray } ho
  refine wpAny_bind (wpAny_typeOf (T := "set") ⟨_, ho1, rfl⟩ ?_)
  have g1 : Builtin.List.listSameRef (.ref s.heap.objs.size) (.ref S) = false := by simp [Builtin.List.listSameRef, Nat.ne_of_gt hSlt]
  have g2 : (Value.type "set" == Value.type "list") = false := by decide
  have g3 : (Value.type "set" == Value.type "tuple") = false := by decide
  simp only [g1, g2, g3, Bool.or_false, Bool.false_eq_true, if_false]
  refine wpAny_bind (iter_set ho1 hf hT hled hb fun I h' d sw kp => ?_)
  have ho2 := kp _ _ ho1
  refine wpAny_bind (wpAny_holding (hint_set ⟨_, ho2, rfl⟩ ?_))
  refine wpAny_ite_split (fun _ => ?_) (fun hab => absurd (by decide +kernel) hab)
  refine wpAny_bind (wpAny_rule ?_)
  obtain ⟨fp, vs, Pv, St, W, st, hpv, hperm, hI, hlt, hold, hIo⟩ := sw
  rw [push_size] at hold hIo
  have hL : (s.heap.push { cls := Value.type "list", data := Data.seq ([] : List Value).toArray }).get? s.heap.objs.size = some { cls := Value.type "list", data := Data.seq ([] : List Value).toArray } := Heap.get?_push_size _ rfl
  have hL2 := kp _ _ hL
  have hSf : s.heap.objs.size ∉ fp := fun hm => by
    rcases hold _ hm with e | e
    · exact Nat.ne_of_gt hSlt e
    · exact Nat.not_succ_le_self _ e
  refine wpAny_bind ?_
  show wpAny _ _ (updateSeq s.heap.objs.size (·.push .none) >>= fun _ => updateSeq s.heap.objs.size (·.pop)) _ _ _
  refine wpAny_bind (wpAny_updateSeq hL2 rfl ?_)
  have hL3 := Heap.get?_update_self (Obj.mapSeq (·.push Value.none)) hL2 rfl
  refine wpAny_updateSeq (hz := by seq_fits) hL3 rfl ?_
  have hL4 := Heap.get?_update_self (Obj.mapSeq (·.pop)) hL3 rfl
  have oth : ∀ b o, b ≠ s.heap.objs.size → h'.get? b = some o → ((h'.update s.heap.objs.size (Obj.mapSeq (·.push Value.none))).update s.heap.objs.size (Obj.mapSeq (·.pop))).get? b = some o := fun b o hb e => (Heap.get?_update_other _ _ (Ne.symm hb)).trans ((Heap.get?_update_other _ _ (Ne.symm hb)).trans e)
  have W1 := W A.in1 hh
  have hlen : vs.length = es.size := by have := hperm.length_eq; simpa using this
  refine wpAny_pure ⟨plainId_quiet F.plain_extend_loop _, codeAny_extend_loopS (W1.toS) (fits_of_scanBound hb) _ hSf _ es.size 0 _ _ _ rfl (Nat.zero_le _) (W1.frame 0 _ _ st fun b hb o e => oth b o (fun z => hSf (z ▸ hb)) e) hL4 (ItemsOf.nil _) fun s' acc c hm hA hacc => ?_⟩
  show wpAny _ A (load s.heap.objs.size >>= _) _ _ s'
  refine wpAny_bind (wpAny_load hA ?_)
  rw [Moved.eq_with hm]
  refine wpAny_pure (hQ _ _ _ _ ?_ (fun b o e => hm.heap b o (fun hmem => ?_) (oth b o (Nat.ne_of_lt (Heap.lt_size e)) (kp _ _ (Heap.get?_push_of_some _ e)))) (Nat.le_of_lt (Heap.lt_size hA)))
  · have e := items_list hacc hpv hlen
    show ∃ ns, IntsAre acc.toList ns ∧ _
    rw [e]
    refine ⟨vs.map ival, ?_, ?_⟩
    · have hall : ∀ v ∈ vs, ∃ k t, v = Value.int k t := fun v hv => by
        obtain ⟨e, he, rfl⟩ := List.mem_map.mp (hperm.mem_iff.mp hv)
        obtain ⟨⟨k, hk, _⟩, _⟩ := hel e he
        obtain ⟨t, ht⟩ := isInt_at hk
        exact ⟨k, t, ht⟩
      clear hperm e hpv hlen
      induction vs with
      | nil => exact .nil
      | cons v vs ih =>
        obtain ⟨k, t, rfl⟩ := hall v List.mem_cons_self
        exact .cons k t (ih fun v hv => hall v (List.mem_cons_of_mem _ hv))
    · refine (hperm.map ival).trans ?_
      rw [List.map_map]
      exact hp
  · have hlt' := Heap.lt_size e
    rcases List.mem_cons.mp hmem with z | z
    · exact Nat.ne_of_lt hlt' z
    · rw [List.mem_singleton.mp z] at hlt'
      exact Nat.lt_irrefl _ (Nat.lt_of_lt_of_le hlt' (Nat.le_of_succ_le hIo))
end
end L2
namespace Sq
open PySem PyProof PyProof.Rows
structure Bse (a₀ : Array Keyed) (p : Array (Nat × Nat × Nat)) (st : SortSt) : Prop where
  perm : (arrOf st).Perm a₀
  kind : kindOf st = oneType'
  fail : failedOf st = none
  pend : pendingOf st = p
noncomputable def IntK (x : Keyed) : Prop := ∃ n t, x.1 = .int n t
noncomputable abbrev ky (x : Keyed) : Int := numOf x.1
noncomputable def Dis (xs : Array Keyed) : Prop := (xs.toList.map ky).Nodup
section
variable {prog : Program} {w : World} {A : Around} {E : Value → Shared → Prop} {s : Shared} {a₀ : Array Keyed} {p : Array (Nat × Nat × Nat)}
theorem Bse.size {st : SortSt} (h : Bse a₀ p st) : (arrOf st).size = a₀.size := h.perm.size_eq
theorem Bse.set {st : SortSt} (h : Bse a₀ p st) {xs : Array Keyed} (q : xs.Perm (arrOf st)) : Bse a₀ p (setArr st xs) := ⟨q.trans h.perm, h.kind, h.fail, h.pend⟩
theorem Bse.dis {st : SortSt} (h : Bse a₀ p st) (d : Dis a₀) : Dis (arrOf st) := (((Array.perm_iff_toList_perm.mp h.perm).map ky).nodup_iff).mpr d
theorem Bse.int {st : SortSt} (h : Bse a₀ p st) (h0 : IntKeys a₀) : IntKeys (arrOf st) := fun q hq => h0 q ((Array.perm_iff_toList_perm.mp h.perm).mem_iff.mp hq)
theorem at_int {xs : Array Keyed} (h0 : IntKeys xs) {i : Nat} (hi : i < xs.size) : IntK xs[i] := h0 _ (by simp)
theorem K_ne {xs : Array Keyed} (d : Dis xs) {i j : Nat} (hi : i < xs.size) (hj : j < xs.size) (hne : i ≠ j) : K xs i ≠ K xs j := by
  rw [K_eq hi, K_eq hj]
  intro e
  have hl : (xs.toList.map ky).length = xs.size := by simp
  have key : ∀ i j : Nat, ∀ (hi : i < xs.size) (hj : j < xs.size), i < j → numOf xs[i].1 ≠ numOf xs[j].1 := fun i j hi hj hij => by
    have := List.pairwise_iff_getElem.mp d i j (by omega) (by omega) hij
    simpa using this
  rcases Nat.lt_or_ge i j with q | q
  · exact key i j hi hj q e
  · exact key j i hj hi (by omega) e.symm
theorem wp_lt {st : SortSt} {x y : Keyed} {Q : Option Bool → SortSt → Prop} (hk : kindOf st = oneType') (hx : IntK x) (hy : IntK y) (h : Q (some (decide (ky x < ky y))) st) : wpS (model prog w) A E s (lt' x y) Q st := by
  obtain ⟨x1, x2⟩ := x
  obtain ⟨y1, y2⟩ := y
  obtain ⟨a, t, rfl⟩ := hx
  obtain ⟨b, u, rfl⟩ := hy
  rw [lt'_eq]
  refine wpS_bind (wpS_get ?_)
  rw [hk, keyLt'_oneType]
  exact wpS_bind (wpS_lift (wpAny_attempt (oneLt_int ⟨rfl, wpS_pure h⟩)))
theorem wp_el {st : SortSt} {xs : Array Keyed} {i : Nat} {Q : Keyed → SortSt → Prop} (hi : i < xs.size) (h : Q xs[i] st) : wpS (model prog w) A E s (elem' xs i) Q st := by
  rw [elem'_eq, getElem?_pos xs i hi]
  exact wpS_pure h
theorem wp_at {st : SortSt} {i j : Nat} {Q : Option Bool → SortSt → Prop} (hB : Bse a₀ p st) (h0 : IntKeys a₀) (hi : i < a₀.size) (hj : j < a₀.size) (h : Q (some (decide (K (arrOf st) i < K (arrOf st) j))) st) : wpS (model prog w) A E s (ltAt' i j) Q st := by
  have hi' : i < (arrOf st).size := by rw [hB.size]; exact hi
  have hj' : j < (arrOf st).size := by rw [hB.size]; exact hj
  rw [K_eq hi', K_eq hj'] at h
  rw [ltAt'_eq]
  refine wpS_bind (wpS_get (wpS_bind (wp_el hi' (wpS_bind (wp_el hj' ?_)))))
  exact wp_lt hB.kind (at_int (hB.int h0) hi') (at_int (hB.int h0) hj') h
noncomputable def Asc (xs : Array Keyed) (lo n : Nat) : Prop := ∀ i j, lo ≤ i → i ≤ j → j < lo + n → K xs i ≤ K xs j
noncomputable def Dsc (xs : Array Keyed) (lo n : Nat) : Prop := ∀ i j, lo ≤ i → i ≤ j → j < lo + n → K xs j ≤ K xs i
noncomputable def Pre (xs ys : Array Keyed) (lo : Nat) : Prop := ∀ i, i < lo → K ys i = K xs i
theorem asc_one (xs : Array Keyed) (lo : Nat) : Asc xs lo 1 := fun i j h1 h2 h3 => by
  have : i = j := by omega
  subst this; exact Int.le_refl _
theorem asc_succ {xs : Array Keyed} {lo x : Nat} (h : Asc xs lo x) (hx : 1 ≤ x) (hl : ¬ K xs (lo + x) < K xs (lo + x - 1)) : Asc xs lo (x + 1) := fun i j h1 h2 h3 => by
  by_cases hj : j < lo + x
  · exact h i j h1 h2 hj
  · have ej : j = lo + x := by omega
    subst ej
    by_cases hi : i = lo + x
    · subst hi; exact Int.le_refl _
    · exact Int.le_trans (h i (lo + x - 1) h1 (by omega) (by omega)) (Int.not_lt.mp hl)
theorem dsc_succ {xs : Array Keyed} {lo x : Nat} (h : Dsc xs lo x) (hx : 1 ≤ x) (hl : K xs (lo + x) < K xs (lo + x - 1)) : Dsc xs lo (x + 1) := fun i j h1 h2 h3 => by
  by_cases hj : j < lo + x
  · exact h i j h1 h2 hj
  · have ej : j = lo + x := by omega
    subst ej
    by_cases hi : i = lo + x
    · subst hi; exact Int.le_refl _
    · exact Int.le_trans (Int.le_of_lt hl) (h i (lo + x - 1) h1 (by omega) (by omega))
noncomputable abbrev Up1 := Option (Option Nat) × Nat
noncomputable def up1 (lo a nrem : Nat) : StateT SortSt Sem Up1 :=
  forIn [a:nrem] ((none, a) : Up1) fun _ z => do
    match ← ltAt' (lo + z.2) (lo + z.2 - 1) with
    | some b => if b = true then pure (.done (none, z.2)) else pure (.yield (none, z.2 + 1))
    | _ => pure (.done (some none, z.2))
theorem wp_up1 {st : SortSt} {lo a nrem : Nat} {Q : Up1 → SortSt → Prop} (h0 : IntKeys a₀) (hn : lo + nrem ≤ a₀.size) (ha : 1 ≤ a) (han : a ≤ nrem) (hB : Bse a₀ p st) (hs : Asc (arrOf st) lo a)
    (h : ∀ n, a ≤ n → n ≤ nrem → Asc (arrOf st) lo n → (n = nrem ∨ K (arrOf st) (lo + n) < K (arrOf st) (lo + n - 1)) → Q (none, n) st) : wpS (model prog w) A E s (up1 lo a nrem) Q st := by
  unfold up1
  refine wpS_forRange (fun x c st' => st' = st ∧ c = (none, x) ∧ Asc (arrOf st) lo x) ?_ ?_ ⟨rfl, rfl, hs⟩
  · rintro x c st' h1 h2 ⟨rfl, rfl, hs'⟩
    refine wpS_bind (wp_at hB h0 (by omega) (by omega) ?_)
    by_cases q : K (arrOf st') (lo + x) < K (arrOf st') (lo + x - 1)
    · simp only [q, decide_true, if_true]
      exact wpS_pure (h x h1 (by omega) hs' (.inr q))
    · simp only [q, decide_false, Bool.false_eq_true, if_false]
      exact wpS_pure ⟨rfl, rfl, asc_succ hs' (by omega) q⟩
  · rintro c st' ⟨rfl, rfl, hs'⟩
    have e : max a nrem = nrem := by omega
    rw [e] at hs' ⊢
    exact h nrem han (Nat.le_refl _) hs' (.inl rfl)
end
end Sq
namespace Sq
open PySem PyProof PyProof.Rows
noncomputable abbrev Dn1 := Option (Option Nat) × Nat × Nat
noncomputable def dn1 (lo n nrem : Nat) : StateT SortSt Sem Dn1 :=
  forIn [n:nrem] ((none, n, 0) : Dn1) fun _ z => do
    match ← ltAt' (lo + z.2.1) (lo + z.2.1 - 1) with
    | some b =>
      if b = true then
        if z.2.2 > 0 then do
          reverseSlice' (lo + z.2.1 - (z.2.2 + 1)) (lo + z.2.1)
          pure (.yield (none, z.2.1 + 1, 0))
        else pure (.yield (none, z.2.1 + 1, 0))
      else do
        match ← ltAt' (lo + z.2.1 - 1) (lo + z.2.1) with
        | some c => if c = true then pure (.done (none, z.2.1, z.2.2)) else pure (.yield (none, z.2.1 + 1, z.2.2 + 1))
        | _ => pure (.done (some none, z.2.1, z.2.2))
    | _ => pure (.done (some none, z.2.1, z.2.2))
noncomputable def tl1 (lo n nrem : Nat) : StateT SortSt Sem (Option Nat) := do
  reverseSlice' lo (lo + n)
  let z ← up1 lo n nrem
  match z.1 with
  | some r => pure r
  | none => pure (some z.2)
noncomputable def ds1 (lo n nrem : Nat) : StateT SortSt Sem (Option Nat) := do
  liftM (rule "list.sort.descending-run")
  let z ← dn1 lo (n + 1) nrem
  match z.1 with
  | some r => pure r
  | none =>
    if z.2.2 > 0 then do
      reverseSlice' (lo + z.2.1 - (z.2.2 + 1)) (lo + z.2.1)
      tl1 lo z.2.1 nrem
    else tl1 lo z.2.1 nrem
theorem cr_eq (lo nrem : Nat) : countRun' lo nrem = (do
    let z ← up1 lo 1 nrem
    match z.1 with
    | some r => pure r
    | none =>
      if (z.2 == nrem) = true then pure (some z.2)
      else if z.2 > 1 then do
        match ← ltAt' lo (lo + z.2 - 1) with
        | some b => if b = true then pure (some z.2) else do
            reverseSlice' lo (lo + z.2)
            ds1 lo z.2 nrem
        | _ => pure none
      else ds1 lo z.2 nrem) := by
  rw [countRun'_eq]
  have t1 : ∀ (n : Nat) (x : StateT SortSt Sem Up1) (y : StateT SortSt Sem Up1) (f : Up1 → StateT SortSt Sem (Option Nat)), x = y → (∀ r, f r = match r.1 with | some q => pure q | none => pure (some r.2)) → (do reverseSlice' lo (lo + n); let z ← x; f z) = (do reverseSlice' lo (lo + n); let z ← y; match z.1 with | some r => pure r | none => pure (some z.2)) := fun n x y f e h => by
    subst e
    have : f = fun r => match r.1 with | some q => pure q | none => pure (some r.2) := funext h
    subst this
    rfl
  have t2 : ∀ (n : Nat) (x y : StateT SortSt Sem Dn1) (f : Dn1 → StateT SortSt Sem (Option Nat)), x = y → (∀ r, f r = match r.1 with | some q => pure q | none => if r.2.2 > 0 then (do reverseSlice' (lo + r.2.1 - (r.2.2 + 1)) (lo + r.2.1); tl1 lo r.2.1 nrem) else tl1 lo r.2.1 nrem) → (do liftM (rule "list.sort.descending-run"); let z ← x; f z) = (do liftM (rule "list.sort.descending-run"); let z ← y; match z.1 with | some q => pure q | none => if z.2.2 > 0 then (do reverseSlice' (lo + z.2.1 - (z.2.2 + 1)) (lo + z.2.1); tl1 lo z.2.1 nrem) else tl1 lo z.2.1 nrem) := fun n x y f e h => by
    subst e
    have : f = fun r => match r.1 with | some q => pure q | none => if r.2.2 > 0 then (do reverseSlice' (lo + r.2.1 - (r.2.2 + 1)) (lo + r.2.1); tl1 lo r.2.1 nrem) else tl1 lo r.2.1 nrem := funext h
    subst this
    rfl
  refine congr (congrArg bind ?_) ?_
  · rfl
  funext z
  obtain ⟨r, n⟩ := z
  cases r with
  | some r => rfl
  | none =>
    dsimp only
    split
    · rfl
    · split
      · refine congr (congrArg bind rfl) ?_
        funext x
        cases x with
        | none => rfl
        | some b =>
          dsimp only
          split
          · rfl
          · refine congr (congrArg bind rfl) ?_
            funext u
            refine t2 n _ _ _ rfl ?_
            rintro ⟨r2, n2, q2⟩
            cases r2 with
            | some r2 => rfl
            | none =>
              dsimp only
              split
              · refine congr (congrArg bind rfl) (funext fun v => ?_)
                exact t1 n2 _ _ _ rfl (by rintro ⟨r3, n3⟩; cases r3 <;> rfl)
              · exact t1 n2 _ _ _ rfl (by rintro ⟨r3, n3⟩; cases r3 <;> rfl)
      · refine t2 n _ _ _ rfl ?_
        rintro ⟨r2, n2, q2⟩
        cases r2 with
        | some r2 => rfl
        | none =>
          dsimp only
          split
          · refine congr (congrArg bind rfl) (funext fun v => ?_)
            exact t1 n2 _ _ _ rfl (by rintro ⟨r3, n3⟩; cases r3 <;> rfl)
          · exact t1 n2 _ _ _ rfl (by rintro ⟨r3, n3⟩; cases r3 <;> rfl)
section
variable {prog : Program} {w : World} {A : Around} {E : Value → Shared → Prop} {s : Shared} {a₀ : Array Keyed} {p : Array (Nat × Nat × Nat)}
theorem wp_rev {st : SortSt} {i j : Nat} {Q : Unit → SortSt → Prop} (h : Q () (setArr st (mirror (arrOf st) i j ((j - i) / 2)))) : wpS (model prog w) A E s (reverseSlice' i j) Q st := by
  rw [reverseSlice'_eq]; exact wpS_modify h
theorem wp_tl {st : SortSt} {lo n nrem : Nat} {Q : Option Nat → SortSt → Prop} (h0 : IntKeys a₀) (hn : lo + nrem ≤ a₀.size) (h1 : 1 ≤ n) (hnn : n ≤ nrem) (hB : Bse a₀ p st) (hs : Dsc (arrOf st) lo n)
    (h : ∀ m st', Bse a₀ p st' → Pre (arrOf st) (arrOf st') lo → 1 ≤ m → m ≤ nrem → Asc (arrOf st') lo m → Q (some m) st') : wpS (model prog w) A E s (tl1 lo n nrem) Q st := by
  unfold tl1
  have hsz : lo + n ≤ (arrOf st).size := by rw [hB.size]; omega
  have hB' : Bse a₀ p (setArr st (mirror (arrOf st) lo (lo + n) ((lo + n - lo) / 2))) := hB.set (mirror_perm _ _ _ _)
  have hK := fun k => K_mirror (i := lo) hsz k
  refine wpS_bind (wp_rev (wpS_bind (wp_up1 h0 hn h1 hnn hB' ?_ fun m q1 q2 q3 _ => wpS_pure (h m _ hB' (fun i hi => ?_) (by omega) q2 q3))))
  · intro i j a1 a2 a3
    show K (mirror (arrOf st) lo (lo + n) ((lo + n - lo) / 2)) i ≤ K (mirror (arrOf st) lo (lo + n) ((lo + n - lo) / 2)) j
    rw [hK, hK, if_pos (by omega), if_pos (by omega)]
    exact hs _ _ (by omega) (by omega) (by omega)
  · show K (mirror (arrOf st) lo (lo + n) ((lo + n - lo) / 2)) i = _
    rw [hK, if_neg (by omega)]
theorem wp_ds {st : SortSt} {lo n nrem : Nat} {Q : Option Nat → SortSt → Prop} (h0 : IntKeys a₀) (hd : Dis a₀) (hn : lo + nrem ≤ a₀.size) (hnn : n + 1 ≤ nrem) (hB : Bse a₀ p st) (hs : Dsc (arrOf st) lo (n + 1))
    (h : ∀ m st', Bse a₀ p st' → Pre (arrOf st) (arrOf st') lo → 1 ≤ m → m ≤ nrem → Asc (arrOf st') lo m → Q (some m) st') : wpS (model prog w) A E s (ds1 lo n nrem) Q st := by
  unfold ds1 dn1
  refine wpS_bind (wpS_lift (wpAny_rule ⟨rfl, ?_⟩))
  refine wpS_bind (wpS_mono (wpS_forRange (fun x c st' => st' = st ∧ c = (none, x, 0) ∧ Dsc (arrOf st) lo x) (Q := fun c st' => st' = st ∧ ∃ x, c = (none, x, 0) ∧ n + 1 ≤ x ∧ x ≤ nrem ∧ Dsc (arrOf st) lo x) ?_ ?_ ⟨rfl, rfl, hs⟩) ?_)
  · rintro x c st' h1 h2 ⟨rfl, rfl, hs'⟩
    dsimp only
    refine wpS_bind (wp_at hB h0 (by omega) (by omega) ?_)
    by_cases q : K (arrOf st') (lo + x) < K (arrOf st') (lo + x - 1)
    · simp only [q, decide_true, if_true]
      rw [if_neg (by omega)]
      exact wpS_pure ⟨rfl, rfl, dsc_succ hs' (by omega) q⟩
    · simp only [q, decide_false, Bool.false_eq_true, if_false]
      have hne := K_ne (hB.dis hd) (i := lo + x) (j := lo + x - 1) (by rw [hB.size]; omega) (by rw [hB.size]; omega) (by omega)
      have q2 : K (arrOf st') (lo + x - 1) < K (arrOf st') (lo + x) := by omega
      refine wpS_bind (wp_at hB h0 (by omega) (by omega) ?_)
      simp only [q2, decide_true, if_true]
      exact wpS_pure ⟨rfl, x, rfl, h1, by omega, hs'⟩
  · rintro c st' ⟨rfl, rfl, hs'⟩
    exact ⟨rfl, _, rfl, by omega, by omega, hs'⟩
  · rintro c st' ⟨rfl, x, rfl, x1, x2, hs'⟩
    dsimp only
    rw [if_neg (by omega)]
    exact wp_tl h0 hn (by omega) x2 hB hs' h
theorem wp_cr {st : SortSt} {lo nrem : Nat} {Q : Option Nat → SortSt → Prop} (h0 : IntKeys a₀) (hd : Dis a₀) (hn : lo + nrem ≤ a₀.size) (h1 : 1 ≤ nrem) (hB : Bse a₀ p st)
    (h : ∀ m st', Bse a₀ p st' → Pre (arrOf st) (arrOf st') lo → 1 ≤ m → m ≤ nrem → Asc (arrOf st') lo m → Q (some m) st') : wpS (model prog w) A E s (countRun' lo nrem) Q st := by
  rw [cr_eq]
  refine wpS_bind (wp_up1 h0 hn (Nat.le_refl 1) h1 hB (asc_one _ _) fun n n1 n2 hs hor => ?_)
  dsimp only
  by_cases hnn : n = nrem
  · rw [if_pos (by simpa using hnn)]
    exact wpS_pure (h n st hB (fun _ _ => rfl) n1 n2 hs)
  · rw [if_neg (by simpa using hnn)]
    have hlt := hor.resolve_left hnn
    by_cases hgt : n > 1
    · rw [if_pos hgt]
      refine wpS_bind (wp_at hB h0 (by omega) (by omega) ?_)
      have hle := hs lo (lo + n - 1) (Nat.le_refl _) (by omega) (by omega)
      have hne := K_ne (hB.dis hd) (i := lo) (j := lo + n - 1) (by rw [hB.size]; omega) (by rw [hB.size]; omega) (by omega)
      have q : K (arrOf st) lo < K (arrOf st) (lo + n - 1) := by omega
      simp only [q, decide_true, if_true]
      exact wpS_pure (h n st hB (fun _ _ => rfl) n1 n2 hs)
    · rw [if_neg hgt]
      have e : n = 1 := by omega
      subst e
      refine wp_ds h0 hd hn (by omega) hB ?_ h
      intro i j a1 a2 a3
      by_cases hi : i = j
      · subst hi; exact Int.le_refl _
      · have e1 : i = lo := by omega
        have e2 : j = lo + 1 := by omega
        subst e1; subst e2
        exact Int.le_of_lt hlt
theorem wp_bs {st : SortSt} {lo n ok : Nat} {Q : Bool → SortSt → Prop} (h0 : IntKeys a₀) (hn : lo + n ≤ a₀.size) (hok1 : 1 ≤ ok) (hok : ok ≤ n) (hB : Bse a₀ p st) (hs : Asc (arrOf st) lo ok)
    (h : ∀ st', Bse a₀ p st' → Pre (arrOf st) (arrOf st') lo → Asc (arrOf st') lo n → Q true st') : wpS (model prog w) A E s (binarySort' lo n ok) Q st := by
  rw [binarySort'_eq]
  refine wpS_bind (wpS_mono (wpS_forRange (fun k c st' => c = (none, ()) ∧ Bse a₀ p st' ∧ Pre (arrOf st) (arrOf st') lo ∧ Asc (arrOf st') lo k) (Q := fun c st' => c = (none, ()) ∧ Bse a₀ p st' ∧ Pre (arrOf st) (arrOf st') lo ∧ Asc (arrOf st') lo n) ?_ ?_ ⟨rfl, hB, fun _ _ => rfl, ?_⟩) ?_)
  · rintro k c st1 k1 k2 ⟨rfl, hB1, hp1, hs1⟩
    refine wpS_bind (wpS_mono (wpS_forRange (fun x c st2 => st2 = st1 ∧ ∃ l r, c = (none, l, r) ∧ l ≤ r ∧ r ≤ k ∧ r - l ≤ k - x ∧ (∀ i, lo ≤ i → i < lo + l → K (arrOf st1) i ≤ K (arrOf st1) (lo + k)) ∧ (∀ i, lo + r ≤ i → i < lo + k → K (arrOf st1) (lo + k) < K (arrOf st1) i)) (Q := fun c st2 => st2 = st1 ∧ ∃ l r, c = (none, l, r) ∧ l ≤ k ∧ (∀ i, lo ≤ i → i < lo + l → K (arrOf st1) i ≤ K (arrOf st1) (lo + k)) ∧ (∀ i, lo + l ≤ i → i < lo + k → K (arrOf st1) (lo + k) < K (arrOf st1) i)) ?_ ?_ ⟨rfl, 0, k, rfl, by omega, by omega, by omega, fun i a1 a2 => by omega, fun i a1 a2 => by omega⟩) ?_)
    · rintro x c st2 _ hx ⟨rfl, l, r, rfl, b1, b2, b3, b4, b5⟩
      dsimp only
      by_cases hge : l ≥ r
      · rw [if_pos hge]
        have e : l = r := by omega
        subst e
        exact wpS_pure ⟨rfl, l, l, rfl, b2, b4, b5⟩
      · rw [if_neg hge]
        refine wpS_bind (wp_at hB1 h0 (by omega) (by omega) ?_)
        by_cases q : K (arrOf st2) (lo + k) < K (arrOf st2) (lo + (l + r) / 2)
        · simp only [q, decide_true, if_true]
          exact wpS_pure ⟨rfl, l, (l + r) / 2, rfl, by omega, by omega, by omega, b4, fun i a1 a2 => Int.lt_of_lt_of_le q (hs1 _ _ (by omega) a1 a2)⟩
        · simp only [q, decide_false, Bool.false_eq_true, if_false]
          exact wpS_pure ⟨rfl, (l + r) / 2 + 1, r, rfl, by omega, by omega, by omega, fun i a1 a2 => Int.le_trans (hs1 i (lo + (l + r) / 2) a1 (by omega) (by omega)) (Int.not_lt.mp q), b5⟩
    · rintro c st2 ⟨rfl, l, r, rfl, b1, b2, b3, b4, b5⟩
      have e : l = r := by omega
      subst e
      exact ⟨rfl, l, l, rfl, b2, b4, b5⟩
    · rintro c st2 ⟨rfl, l, r, rfl, b2, b4, b5⟩
      show wpS _ _ _ _ (do moveDown' (lo + k) (lo + l); pure (ForInStep.yield (none, ()))) _ _
      rw [moveDown'_eq]
      have hks : lo + k < (arrOf st2).size := by rw [hB1.size]; omega
      have hK := fun z => K_bubble (src := lo + k) (d := lo + k - (lo + l)) hks (by omega) z
      refine wpS_bind (wpS_modify (wpS_pure ⟨rfl, hB1.set (bubble_perm _ _ _), fun i hi => ?_, ?_⟩))
      · show K (bubble (arrOf st2) (lo + k) (lo + k - (lo + l))) i = _
        rw [hK, if_neg (by omega), if_neg (by omega)]
        exact hp1 i hi
      · intro i j a1 a2 a3
        show K (bubble (arrOf st2) (lo + k) (lo + k - (lo + l))) i ≤ K (bubble (arrOf st2) (lo + k) (lo + k - (lo + l))) j
        rw [hK, hK]
        have e : lo + k - (lo + k - (lo + l)) = lo + l := by omega
        rw [e]
        by_cases i1 : i = lo + l
        · rw [if_pos i1]
          by_cases j1 : j = lo + l
          · rw [if_pos j1]; exact Int.le_refl _
          · rw [if_neg j1, if_pos (by omega)]
            exact Int.le_of_lt (b5 _ (by omega) (by omega))
        · rw [if_neg i1]
          by_cases i2 : lo + l < i ∧ i ≤ lo + k
          · rw [if_pos i2, if_neg (by omega), if_pos (by omega)]
            exact hs1 _ _ (by omega) (by omega) (by omega)
          · rw [if_neg i2]
            by_cases j1 : j = lo + l
            · rw [if_pos j1]; exact b4 i a1 (by omega)
            · rw [if_neg j1]
              by_cases j2 : lo + l < j ∧ j ≤ lo + k
              · rw [if_pos j2]; exact hs1 _ _ a1 (by omega) (by omega)
              · rw [if_neg j2]; exact hs1 _ _ a1 a2 (by omega)
  · rintro c st1 ⟨hc, hB1, hp1, hs1⟩
    rw [show max (max ok 1) n = n by omega] at hs1
    exact ⟨hc, hB1, hp1, hs1⟩
  · rw [show max ok 1 = ok by omega]
    exact hs
  · rintro c st1 ⟨rfl, hB1, hp1, hs1⟩
    exact wpS_pure (h st1 hB1 hp1 hs1)
end
end Sq
namespace Sq
open PySem PyProof PyProof.Rows
noncomputable def gal : Bool → Keyed → Array Keyed → Nat → Nat → Nat → StateT SortSt Sem (Option Nat) := sortPriv% PySem.Builtin.gallop
noncomputable def byd (left : Bool) (key : Keyed) (arr : Array Keyed) (base i : Nat) : StateT SortSt Sem (Option Bool) := do
  let x ← elem' arr (base + i)
  if left then lt' x key
  else
    return (← lt' key x).map (!·)
theorem gal_eq (left : Bool) (key : Keyed) (arr : Array Keyed) (base n hint : Nat) : gal left key arr base n hint = (do
  let mut lastofs := 0; let mut ofs := 1; let mut lo := 0; let mut hi := 0
  let some right ← byd left key arr base hint | return none
  if right then
    let maxofs := n - hint
    for _ in [0:n] do
      if ofs ≥ maxofs then break
      let some more ← byd left key arr base (hint + ofs) | return none
      if !more then break
      lastofs := ofs; ofs := 2 * ofs + 1
    lo := hint + lastofs + 1; hi := hint + min ofs maxofs
  else
    let maxofs := hint + 1
    for _ in [0:n] do
      if ofs ≥ maxofs then break
      let some found ← byd left key arr base (hint - ofs) | return none
      if found then break
      lastofs := ofs; ofs := 2 * ofs + 1
    lo := hint + 1 - min ofs maxofs; hi := hint - lastofs
  for _ in [0:n] do
    if lo ≥ hi then break
    let m := lo + (hi - lo) / 2
    let some more ← byd left key arr base m | return none
    if more then lo := m + 1 else hi := m
  return some hi) := rfl
section
variable {prog : Program} {w : World} {A : Around} {E : Value → Shared → Prop} {s : Shared}
noncomputable def bB (left : Bool) (key : Keyed) (arr : Array Keyed) (base i : Nat) : Bool := if left then decide (K arr (base + i) < ky key) else !decide (ky key < K arr (base + i))
theorem wp_byd {st : SortSt} {left : Bool} {key : Keyed} {arr : Array Keyed} {base i : Nat} {Q : Option Bool → SortSt → Prop} (hk : kindOf st = oneType') (hkey : IntK key) (h0 : IntKeys arr) (hi : base + i < arr.size) (h : Q (some (bB left key arr base i)) st) : wpS (model prog w) A E s (byd left key arr base i) Q st := by
  unfold byd
  unfold bB at h
  rw [K_eq hi] at h
  refine wpS_bind (wp_el hi ?_)
  cases left with
  | true => exact wp_lt hk (at_int h0 hi) hkey h
  | false => exact wpS_bind (wp_lt hk hkey (at_int h0 hi) (wpS_pure h))
theorem wp_gal {st : SortSt} {left : Bool} {key : Keyed} {arr : Array Keyed} {base n hint : Nat} {Q : Option Nat → SortSt → Prop} (hk : kindOf st = oneType') (hkey : IntK key) (h0 : IntKeys arr) (hn : base + n ≤ arr.size)
    (anti : ∀ i j, i ≤ j → j < n → bB left key arr base j = true → bB left key arr base i = true) (hh : hint < n)
    (h : ∀ r, r ≤ n → (∀ j, j < r → bB left key arr base j = true) → (∀ j, r ≤ j → j < n → bB left key arr base j = false) → Q (some r) st) : wpS (model prog w) A E s (gal left key arr base n hint) Q st := by
  have antf : ∀ i j, i ≤ j → j < n → bB left key arr base i = false → bB left key arr base j = false := fun i j h1 h2 h3 => by
    cases q : bB left key arr base j with
    | false => rfl
    | true => rw [anti i j h1 h2 q] at h3; cases h3
  rw [gal_eq]
  dsimp only
  refine wpS_bind (wp_byd hk hkey h0 (by omega) ?_)
  cases hb : bB left key arr base hint with
  | true =>
    simp only [if_true]
    refine wpS_bind (wpS_mono (wpS_forRange (fun x c st' => st' = st ∧ ∃ l r, c = (none, l, r) ∧ l < r ∧ x + 1 ≤ r ∧ hint + l < n ∧ bB left key arr base (hint + l) = true) (Q := fun c st' => st' = st ∧ ∃ l r, c = (none, l, r) ∧ l < r ∧ hint + l < n ∧ bB left key arr base (hint + l) = true ∧ (r ≥ n - hint ∨ bB left key arr base (hint + r) = false)) ?_ ?_ ⟨rfl, 0, 1, rfl, by omega, by omega, by omega, hb⟩) ?_)
    · rintro x c st' _ hx ⟨rfl, l, r, rfl, b1, b2, b3, b4⟩
      dsimp only
      by_cases q : r ≥ n - hint
      · rw [if_pos q]
        exact wpS_pure ⟨rfl, l, r, rfl, b1, b3, b4, .inl q⟩
      · rw [if_neg q]
        refine wpS_bind (wp_byd hk hkey h0 (by omega) ?_)
        cases hb2 : bB left key arr base (hint + r) with
        | true =>
          simp only [Bool.not_true, Bool.false_eq_true, if_false]
          exact wpS_pure ⟨rfl, r, 2 * r + 1, rfl, by omega, by omega, by omega, hb2⟩
        | false =>
          simp only [Bool.not_false, if_true]
          exact wpS_pure ⟨rfl, l, r, rfl, b1, b3, b4, .inr hb2⟩
    · rintro c st' ⟨rfl, l, r, rfl, b1, b2, b3, b4⟩
      exact ⟨rfl, l, r, rfl, b1, b3, b4, .inl (by omega)⟩
    · rintro c st' ⟨rfl, l, r, rfl, b1, b3, b4, b5⟩
      dsimp only
      have a3 : ∀ j, j < hint + l + 1 → bB left key arr base j = true := fun j hj => anti j _ (by omega) b3 b4
      have a4 : ∀ j, hint + min r (n - hint) ≤ j → j < n → bB left key arr base j = false := fun j h1 h2 => by
        rcases b5 with b5 | b5
        · omega
        · by_cases q : r ≥ n - hint
          · omega
          · exact antf _ j (by omega) h2 b5
      clear b4 b5
      refine wpS_bind (wpS_mono (wpS_forRange (fun x c st2 => st2 = st' ∧ ∃ l r, c = (none, l, r) ∧ l ≤ r ∧ r ≤ n ∧ r - l ≤ n - x ∧ (∀ j, j < l → bB left key arr base j = true) ∧ (∀ j, r ≤ j → j < n → bB left key arr base j = false)) (Q := fun c st2 => st2 = st' ∧ ∃ r, c = (none, r, r) ∧ r ≤ n ∧ (∀ j, j < r → bB left key arr base j = true) ∧ (∀ j, r ≤ j → j < n → bB left key arr base j = false)) ?_ ?_ ⟨rfl, hint + l + 1, hint + min r (n - hint), rfl, by omega, by omega, by omega, a3, a4⟩) ?_)
      · rintro x c st' _ hx ⟨rfl, l, r, rfl, b1, b2, b3, b4, b5⟩
        dsimp only
        by_cases q : l ≥ r
        · rw [if_pos q]
          have e : l = r := by omega
          subst e
          exact wpS_pure ⟨rfl, l, rfl, b2, b4, b5⟩
        · rw [if_neg q]
          refine wpS_bind (wp_byd hk hkey h0 (by omega) ?_)
          cases hb : bB left key arr base (l + (r - l) / 2) with
          | true =>
            simp only [if_true]
            exact wpS_pure ⟨rfl, l + (r - l) / 2 + 1, r, rfl, by omega, b2, by omega, fun j hj => anti j _ (by omega) (by omega) hb, b5⟩
          | false =>
            simp only [Bool.false_eq_true, if_false]
            exact wpS_pure ⟨rfl, l, l + (r - l) / 2, rfl, by omega, by omega, by omega, b4, fun j h1 h2 => antf _ j h1 h2 hb⟩
      · rintro c st' ⟨rfl, l, r, rfl, b1, b2, b3, b4, b5⟩
        have e : l = r := by omega
        subst e
        exact ⟨rfl, l, rfl, b2, b4, b5⟩
      · rintro c st2 ⟨rfl, r, rfl, b2, b4, b5⟩
        exact wpS_pure (h r b2 b4 b5)
  | false =>
    simp only [Bool.false_eq_true, if_false]
    refine wpS_bind (wpS_mono (wpS_forRange (fun x c st' => st' = st ∧ ∃ l r, c = (none, l, r) ∧ l < r ∧ x + 1 ≤ r ∧ l ≤ hint ∧ bB left key arr base (hint - l) = false) (Q := fun c st' => st' = st ∧ ∃ l r, c = (none, l, r) ∧ l < r ∧ l ≤ hint ∧ bB left key arr base (hint - l) = false ∧ (r ≥ hint + 1 ∨ bB left key arr base (hint - r) = true)) ?_ ?_ ⟨rfl, 0, 1, rfl, by omega, by omega, by omega, hb⟩) ?_)
    · rintro x c st' _ hx ⟨rfl, l, r, rfl, b1, b2, b3, b4⟩
      dsimp only
      by_cases q : r ≥ hint + 1
      · rw [if_pos q]
        exact wpS_pure ⟨rfl, l, r, rfl, b1, b3, b4, .inl q⟩
      · rw [if_neg q]
        refine wpS_bind (wp_byd hk hkey h0 (by omega) ?_)
        cases hb2 : bB left key arr base (hint - r) with
        | false =>
          simp only [Bool.false_eq_true, if_false]
          exact wpS_pure ⟨rfl, r, 2 * r + 1, rfl, by omega, by omega, by omega, hb2⟩
        | true =>
          simp only [if_true]
          exact wpS_pure ⟨rfl, l, r, rfl, b1, b3, b4, .inr hb2⟩
    · rintro c st' ⟨rfl, l, r, rfl, b1, b2, b3, b4⟩
      exact ⟨rfl, l, r, rfl, b1, b3, b4, .inl (by omega)⟩
    · rintro c st' ⟨rfl, l, r, rfl, b1, b3, b4, b5⟩
      dsimp only
      have a3 : ∀ j, j < hint + 1 - min r (hint + 1) → bB left key arr base j = true := fun j hj => by
        rcases b5 with b5 | b5
        · omega
        · by_cases q : r ≥ hint + 1
          · omega
          · exact anti j _ (by omega) (by omega) b5
      have a4 : ∀ j, hint - l ≤ j → j < n → bB left key arr base j = false := fun j h1 h2 => antf _ j h1 h2 b4
      clear b4 b5
      refine wpS_bind (wpS_mono (wpS_forRange (fun x c st2 => st2 = st' ∧ ∃ l r, c = (none, l, r) ∧ l ≤ r ∧ r ≤ n ∧ r - l ≤ n - x ∧ (∀ j, j < l → bB left key arr base j = true) ∧ (∀ j, r ≤ j → j < n → bB left key arr base j = false)) (Q := fun c st2 => st2 = st' ∧ ∃ r, c = (none, r, r) ∧ r ≤ n ∧ (∀ j, j < r → bB left key arr base j = true) ∧ (∀ j, r ≤ j → j < n → bB left key arr base j = false)) ?_ ?_ ⟨rfl, hint + 1 - min r (hint + 1), hint - l, rfl, by omega, by omega, by omega, a3, a4⟩) ?_)
      · rintro x c st' _ hx ⟨rfl, l, r, rfl, b1, b2, b3, b4, b5⟩
        dsimp only
        by_cases q : l ≥ r
        · rw [if_pos q]
          have e : l = r := by omega
          subst e
          exact wpS_pure ⟨rfl, l, rfl, b2, b4, b5⟩
        · rw [if_neg q]
          refine wpS_bind (wp_byd hk hkey h0 (by omega) ?_)
          cases hb : bB left key arr base (l + (r - l) / 2) with
          | true =>
            simp only [if_true]
            exact wpS_pure ⟨rfl, l + (r - l) / 2 + 1, r, rfl, by omega, b2, by omega, fun j hj => anti j _ (by omega) (by omega) hb, b5⟩
          | false =>
            simp only [Bool.false_eq_true, if_false]
            exact wpS_pure ⟨rfl, l, l + (r - l) / 2, rfl, by omega, by omega, by omega, b4, fun j h1 h2 => antf _ j h1 h2 hb⟩
      · rintro c st' ⟨rfl, l, r, rfl, b1, b2, b3, b4, b5⟩
        have e : l = r := by omega
        subst e
        exact ⟨rfl, l, rfl, b2, b4, b5⟩
      · rintro c st2 ⟨rfl, r, rfl, b2, b4, b5⟩
        exact wpS_pure (h r b2 b4 b5)
end
end Sq
namespace Sq
open PySem PyProof PyProof.Rows
noncomputable def Srt (r : Int → Int → Prop) (l : List Keyed) : Prop := l.Pairwise fun x y => r (ky x) (ky y)
structure Mg (r : Int → Int → Prop) (a b out : List Keyed) (ia ib : Nat) : Prop where
  perm : (out ++ (a.drop ia ++ b.drop ib)).Perm (a ++ b)
  srt : Srt r out
  le : ∀ x ∈ out, ∀ y, y ∈ a.drop ia ∨ y ∈ b.drop ib → r (ky x) (ky y)
section
variable {r : Int → Int → Prop} {a b out : List Keyed} {ia ib : Nat}
theorem srt_drop {l : List Keyed} (h : Srt r l) (i : Nat) : Srt r (l.drop i) := List.Pairwise.sublist (List.drop_sublist i l) h
theorem srt_head {l : List Keyed} (h : Srt r l) {i : Nat} (hi : i < l.length) : ∀ y ∈ l.drop (i + 1), r (ky l[i]) (ky y) := by
  have h2 := srt_drop h i
  rw [List.drop_eq_getElem_cons hi] at h2
  exact (List.pairwise_cons.mp h2).1
theorem Mg.start (hb : 0 < b.length) (h1 : ∀ y ∈ a, r (ky b[0]) (ky y)) (hs : Srt r b) : Mg r a b [b[0]] 0 1 where
  perm := by
    have e : b = b[0] :: b.drop 1 := by rw [← List.drop_eq_getElem_cons hb, List.drop_zero]
    have : ([b[0]] ++ (a.drop 0 ++ b.drop 1)).Perm (a ++ (b[0] :: b.drop 1)) := by
      rw [List.drop_zero]
      exact (List.perm_middle (a := b[0]) (l₁ := a) (l₂ := b.drop 1)).symm
    rw [← e] at this
    exact this
  srt := List.pairwise_singleton _ _
  le := fun x hx y hy => by
    rw [List.mem_singleton.mp hx]
    rcases hy with hy | hy
    · rw [List.drop_zero] at hy; exact h1 y hy
    · exact srt_head hs hb y hy
theorem Mg.pushA (m : Mg r a b out ia ib) (hi : ia < a.length) (hs : Srt r a) (h : ∀ y ∈ b.drop ib, r (ky a[ia]) (ky y)) : Mg r a b (out ++ [a[ia]]) (ia + 1) ib where
  perm := by
    refine List.Perm.trans ?_ m.perm
    rw [List.drop_eq_getElem_cons hi, List.append_assoc]
    exact List.Perm.append_left _ (List.Perm.refl _)
  srt := List.pairwise_append.mpr ⟨m.srt, List.pairwise_singleton _ _, fun x hx y hy => by
    rw [List.mem_singleton.mp hy]
    exact m.le x hx _ (.inl (by rw [List.drop_eq_getElem_cons hi]; exact List.mem_cons_self))⟩
  le := fun x hx y hy => by
    rcases List.mem_append.mp hx with hx | hx
    · refine m.le x hx y ?_
      rcases hy with hy | hy
      · left; rw [List.drop_eq_getElem_cons hi]; exact List.mem_cons_of_mem _ hy
      · exact .inr hy
    · rw [List.mem_singleton.mp hx]
      rcases hy with hy | hy
      · exact srt_head hs hi y hy
      · exact h y hy
theorem Mg.flip (m : Mg r a b out ia ib) : Mg r b a out ib ia where
  perm := (List.Perm.append_left out List.perm_append_comm).trans (m.perm.trans List.perm_append_comm)
  srt := m.srt
  le := fun x hx y hy => m.le x hx y hy.symm
theorem Mg.pushB (m : Mg r a b out ia ib) (hi : ib < b.length) (hs : Srt r b) (h : ∀ y ∈ a.drop ia, r (ky b[ib]) (ky y)) : Mg r a b (out ++ [b[ib]]) ia (ib + 1) := (m.flip.pushA hi hs h).flip
theorem Mg.manyA (m : Mg r a b out ia ib) (hs : Srt r a) : ∀ (k : Nat) (hk : ia + k ≤ a.length), (∀ j, j < k → ∀ (hj : ia + j < a.length), ∀ y ∈ b.drop ib, r (ky a[ia + j]) (ky y)) → Mg r a b (out ++ (a.drop ia).take k) (ia + k) ib
  | 0, _, _ => by rw [List.take_zero, List.append_nil]; exact m
  | k + 1, hk, h => by
    have ih := Mg.manyA m hs k (by omega) fun j hj => h j (by omega)
    have := ih.pushA (by omega) hs (h k (by omega) (by omega))
    have e : (a.drop ia).take (k + 1) = (a.drop ia).take k ++ [a[ia + k]] := by
      rw [List.take_succ, List.getElem?_drop, List.getElem?_eq_getElem (by omega)]
      rfl
    rw [e, ← List.append_assoc]
    exact this
theorem Mg.manyB (m : Mg r a b out ia ib) (hs : Srt r b) (k : Nat) (hk : ib + k ≤ b.length) (h : ∀ j, j < k → ∀ (hj : ib + j < b.length), ∀ y ∈ a.drop ia, r (ky b[ib + j]) (ky y)) : Mg r a b (out ++ (b.drop ib).take k) ia (ib + k) := (m.flip.manyA hs k hk h).flip
theorem Mg.doneA (m : Mg r a b out ia ib) (hb : b.length ≤ ib) (hs : Srt r a) : Srt r (out ++ a.drop ia ++ b.drop ib) ∧ (out ++ a.drop ia ++ b.drop ib).Perm (a ++ b) := by
  have e : b.drop ib = [] := List.drop_eq_nil_of_le hb
  constructor
  · rw [e, List.append_nil]
    exact List.pairwise_append.mpr ⟨m.srt, srt_drop hs ia, fun x hx y hy => m.le x hx y (.inl hy)⟩
  · rw [List.append_assoc]; exact m.perm
theorem Mg.doneB (m : Mg r a b out ia ib) (ha : a.length ≤ ia) (hs : Srt r b) : Srt r (out ++ a.drop ia ++ b.drop ib) ∧ (out ++ a.drop ia ++ b.drop ib).Perm (a ++ b) := by
  have e : a.drop ia = [] := List.drop_eq_nil_of_le ha
  constructor
  · rw [e, List.append_nil]
    exact List.pairwise_append.mpr ⟨m.srt, srt_drop hs ib, fun x hx y hy => m.le x hx y (.inr hy)⟩
  · rw [List.append_assoc]; exact m.perm
theorem Mg.last (m : Mg r a b out ia ib) (ha : ia + 1 = a.length) (hs : Srt r b) (h : ∀ y ∈ b, ∀ (hi : ia < a.length), r (ky y) (ky a[ia])) : Srt r (out ++ b.drop ib ++ a.drop ia) ∧ (out ++ b.drop ib ++ a.drop ia).Perm (a ++ b) := by
  have hi : ia < a.length := by omega
  have e : a.drop ia = [a[ia]] := by rw [List.drop_eq_getElem_cons hi, List.drop_eq_nil_of_le (by omega)]
  constructor
  · refine List.pairwise_append.mpr ⟨List.pairwise_append.mpr ⟨m.srt, srt_drop hs ib, fun x hx y hy => m.le x hx y (.inr hy)⟩, ?_, fun x hx y hy => ?_⟩
    · rw [e]; exact List.pairwise_singleton _ _
    · rcases List.mem_append.mp hx with hx | hx
      · exact m.le x hx y (.inl hy)
      · rw [e] at hy
        rw [List.mem_singleton.mp hy]
        exact h x (List.mem_of_mem_drop hx) hi
  · rw [List.append_assoc]
    exact (List.Perm.append_left out List.perm_append_comm).trans m.perm
end
end Sq
namespace Sq
open PySem PyProof PyProof.Rows
noncomputable def sGal (g : Nat) : StateT SortSt Sem Unit := modify fun st => SortSt.mk' (kindOf st) (arrOf st) (pendingOf st) g (failedOf st)
noncomputable def mLo : Array Keyed → Array Keyed → StateT SortSt Sem (Array Keyed) := sortPriv% PySem.Builtin.mergeLo
noncomputable abbrev endA (a b out : Array Keyed) (ia ib : Nat) : Array Keyed := out ++ a.extract ia a.size ++ b.extract ib b.size
noncomputable abbrev endB (a b out : Array Keyed) (ia ib : Nat) : Array Keyed := out ++ b.extract ib b.size ++ a.extract ia a.size
noncomputable abbrev SM := StateT SortSt Sem
noncomputable abbrev S4 := Option (Array Keyed) × Array Keyed × Nat × Nat × Nat
noncomputable abbrev S5 := Option (Array Keyed) × Array Keyed × Nat × Nat × Nat × Nat
noncomputable abbrev S6 := Option (Array Keyed) × Array Keyed × Nat × Nat × Nat × Nat × Nat
noncomputable def g3 (a b out : Array Keyed) (ia ib mg ac bc : Nat) : SM (ForInStep S6) := do
  let x ← elem' a ia
  if (ia + 1 + 1 == a.size) = true then pure (.done (some (endB a b (out.push x) (ia + 1) ib), out.push x, ia + 1, ib, mg, ac, bc))
  else if (decide (ac < 7) && decide (bc < 7)) = true then pure (.done (none, out.push x, ia + 1, ib, mg, ac, bc))
  else pure (.yield (none, out.push x, ia + 1, ib, mg, ac, bc))
noncomputable def g2 (a b out : Array Keyed) (ia ib mg ac bc : Nat) : SM (ForInStep S6) := do
  let x ← elem' b ib
  if (ib + 1 == b.size) = true then pure (.done (some (endA a b (out.push x) ia (ib + 1)), out.push x, ia, ib + 1, mg, ac, bc))
  else do
    let y ← elem' a ia
    match ← gal true y b (ib + 1) (b.size - (ib + 1)) 0 with
    | some k =>
      if k > 0 then
        if (ib + 1 + k == b.size) = true then pure (.done (some (endA a b (out.push x ++ b.extract (ib + 1) (ib + 1 + k)) ia (ib + 1 + k)), out.push x ++ b.extract (ib + 1) (ib + 1 + k), ia, ib + 1 + k, mg, ac, k))
        else g3 a b (out.push x ++ b.extract (ib + 1) (ib + 1 + k)) ia (ib + 1 + k) mg ac k
      else g3 a b (out.push x) ia (ib + 1) mg ac k
    | _ => pure (.done (some (endA a b (out.push x) ia (ib + 1)), out.push x, ia, ib + 1, mg, ac, bc))
noncomputable def g1 (a b out : Array Keyed) (ia ib mg ac bc : Nat) : SM (ForInStep S6) := do
  sGal mg
  let x ← elem' b ib
  match ← gal false x a ia (a.size - ia) 0 with
  | some k =>
    if k > 0 then
      if (ia + k + 1 == a.size) = true then pure (.done (some (endB a b (out ++ a.extract ia (ia + k)) (ia + k) ib), out ++ a.extract ia (ia + k), ia + k, ib, mg, k, bc))
      else if (ia + k == a.size) = true then pure (.done (some (endA a b (out ++ a.extract ia (ia + k)) (ia + k) ib), out ++ a.extract ia (ia + k), ia + k, ib, mg, k, bc))
      else g2 a b (out ++ a.extract ia (ia + k)) (ia + k) ib mg k bc
    else g2 a b out ia ib mg k bc
  | _ => pure (.done (some (endA a b out ia ib), out, ia, ib, mg, ac, bc))
noncomputable def gB (a b : Array Keyed) (z : S6) : SM (ForInStep S6) :=
  if z.2.2.2.2.1 > 1 then g1 a b z.2.1 z.2.2.1 z.2.2.2.1 (z.2.2.2.2.1 - 1) z.2.2.2.2.2.1 z.2.2.2.2.2.2
  else g1 a b z.2.1 z.2.2.1 z.2.2.2.1 z.2.2.2.2.1 z.2.2.2.2.2.1 z.2.2.2.2.2.2
noncomputable def f1 (a b : Array Keyed) (mg : Nat) (z : S5) : SM (ForInStep S5) := do
  let x ← elem' b z.2.2.2.1
  let y ← elem' a z.2.2.1
  match ← lt' x y with
  | some c =>
    if c = true then do
      let x ← elem' b z.2.2.2.1
      if (z.2.2.2.1 + 1 == b.size) = true then pure (.done (some (endA a b (z.2.1.push x) z.2.2.1 (z.2.2.2.1 + 1)), z.2.1.push x, z.2.2.1, z.2.2.2.1 + 1, 0, z.2.2.2.2.2 + 1))
      else if z.2.2.2.2.2 + 1 ≥ mg then pure (.done (none, z.2.1.push x, z.2.2.1, z.2.2.2.1 + 1, 0, z.2.2.2.2.2 + 1))
      else pure (.yield (none, z.2.1.push x, z.2.2.1, z.2.2.2.1 + 1, 0, z.2.2.2.2.2 + 1))
    else do
      let y ← elem' a z.2.2.1
      if (z.2.2.1 + 1 + 1 == a.size) = true then pure (.done (some (endB a b (z.2.1.push y) (z.2.2.1 + 1) z.2.2.2.1), z.2.1.push y, z.2.2.1 + 1, z.2.2.2.1, z.2.2.2.2.1 + 1, 0))
      else if z.2.2.2.2.1 + 1 ≥ mg then pure (.done (none, z.2.1.push y, z.2.2.1 + 1, z.2.2.2.1, z.2.2.2.2.1 + 1, 0))
      else pure (.yield (none, z.2.1.push y, z.2.2.1 + 1, z.2.2.2.1, z.2.2.2.2.1 + 1, 0))
  | _ => pure (.done (some (endA a b z.2.1 z.2.2.1 z.2.2.2.1), z.2.1, z.2.2.1, z.2.2.2.1, z.2.2.2.2.1, z.2.2.2.2.2))
noncomputable def oB (a b : Array Keyed) (z : S4) : SM (ForInStep S4) := do
  let u ← forIn [0:a.size + b.size] ((none, z.2.1, z.2.2.1, z.2.2.2.1, 0, 0) : S5) fun _ u => f1 a b z.2.2.2.2 u
  match u.1 with
  | some r => pure (.done (some r, u.2.1, u.2.2.1, u.2.2.2.1, z.2.2.2.2))
  | none => do
    liftM (rule "list.sort.gallop")
    let v ← forIn [0:a.size + b.size] ((none, u.2.1, u.2.2.1, u.2.2.2.1, z.2.2.2.2 + 1, u.2.2.2.2.1, u.2.2.2.2.2) : S6) fun _ v => gB a b v
    match v.1 with
    | some r => pure (.done (some r, v.2.1, v.2.2.1, v.2.2.2.1, v.2.2.2.2.1))
    | none => do
      sGal (v.2.2.2.2.1 + 1)
      pure (.yield (none, v.2.1, v.2.2.1, v.2.2.2.1, v.2.2.2.2.1 + 1))
theorem mLo_eq0 (a b : Array Keyed) : mLo a b = (do
  rule "list.sort.merge-lo"
  let mut out : Array Keyed := #[← elem' b 0]
  let mut ia := 0; let mut ib := 1
  if ib == b.size then return endA a b out ia ib
  if ia + 1 == a.size then return endB a b out ia ib
  let mut minGallop := gallopOf (← get)
  for _ in [0:a.size + b.size] do
    let mut acount := 0; let mut bcount := 0
    for _ in [0:a.size + b.size] do
      let some bWins ← lt' (← elem' b ib) (← elem' a ia) | return endA a b out ia ib
      if bWins then
        out := out.push (← elem' b ib)
        ib := ib + 1; bcount := bcount + 1; acount := 0
        if ib == b.size then return endA a b out ia ib
        if bcount ≥ minGallop then break
      else
        out := out.push (← elem' a ia)
        ia := ia + 1; acount := acount + 1; bcount := 0
        if ia + 1 == a.size then return endB a b out ia ib
        if acount ≥ minGallop then break
    rule "list.sort.gallop"
    minGallop := minGallop + 1
    for _ in [0:a.size + b.size] do
      if minGallop > 1 then minGallop := minGallop - 1
      sGal minGallop
      let some k ← gal false (← elem' b ib) a ia (a.size - ia) 0 | return endA a b out ia ib
      acount := k
      if k > 0 then
        out := out ++ a.extract ia (ia + k)
        ia := ia + k
        if ia + 1 == a.size then return endB a b out ia ib
        if ia == a.size then return endA a b out ia ib
      out := out.push (← elem' b ib)
      ib := ib + 1
      if ib == b.size then return endA a b out ia ib
      let some k ← gal true (← elem' a ia) b ib (b.size - ib) 0 | return endA a b out ia ib
      bcount := k
      if k > 0 then
        out := out ++ b.extract ib (ib + k)
        ib := ib + k
        if ib == b.size then return endA a b out ia ib
      out := out.push (← elem' a ia)
      ia := ia + 1
      if ia + 1 == a.size then return endB a b out ia ib
      if acount < 7 && bcount < 7 then break
    minGallop := minGallop + 1
    sGal minGallop
  unsupported "internal:list.sort.merge-bound") := rfl
theorem mLo_eq (a b : Array Keyed) : mLo a b = (do
  liftM (rule "list.sort.merge-lo")
  let x ← elem' b 0
  if (1 == b.size) = true then pure (endA a b #[x] 0 1)
  else if (0 + 1 == a.size) = true then pure (endB a b #[x] 0 1)
  else do
    let st ← get
    let z ← forIn [0:a.size + b.size] ((none, #[x], 0, 1, gallopOf st) : S4) fun _ z => oB a b z
    match z.1 with
    | some r => pure r
    | none => liftM (unsupported "internal:list.sort.merge-bound")) := by
  rw [mLo_eq0]
  refine congr (congrArg bind rfl) (funext fun u => ?_)
  refine congr (congrArg bind rfl) (funext fun x => ?_)
  dsimp only
  by_cases q : (1 == b.size) = true
  · rw [if_pos q, if_pos q]
  rw [if_neg q, if_neg q]
  by_cases q2 : (0 + 1 == a.size) = true
  · rw [if_pos q2, if_pos q2]
  rw [if_neg q2, if_neg q2]
  refine congr (congrArg bind rfl) (funext fun st => ?_)
  refine congr (congrArg bind ?_) ?_
  · refine congrArg (forIn _ _) (funext fun i => funext fun z => ?_)
    unfold oB
    refine congr (congrArg bind ?_) ?_
    · refine congrArg (forIn _ _) (funext fun i => funext fun z1 => ?_)
      rfl
    · funext u
      obtain ⟨r, u⟩ := u
      cases r with
      | some r => rfl
      | none =>
        dsimp only
        refine congr (congrArg bind rfl) (funext fun _ => ?_)
        refine congr (congrArg bind ?_) ?_
        · refine congrArg (forIn _ _) (funext fun i => funext fun z1 => ?_)
          unfold gB
          by_cases q3 : z1.2.2.2.2.1 > 1
          · rw [if_pos q3, if_pos q3]; rfl
          · rw [if_neg q3, if_neg q3]; rfl
        · funext v
          obtain ⟨r, v⟩ := v
          cases r <;> rfl
  · funext v
    obtain ⟨r, v⟩ := v
    cases r <;> rfl
structure Cxm (a b : Array Keyed) : Prop where
  ia : IntKeys a
  ib : IntKeys b
  sa : Srt (· ≤ ·) a.toList
  sb : Srt (· ≤ ·) b.toList
  lst : ∀ y ∈ b.toList, ∀ i, ∀ (hi : i < a.toList.length), i + 1 = a.toList.length → ky y ≤ ky a.toList[i]
structure Okm (a b out : Array Keyed) (ia ib : Nat) : Prop where
  mg : Mg (· ≤ ·) a.toList b.toList out.toList ia ib
  ha : ia + 1 < a.size
  hb : ib < b.size
noncomputable def Res (a b x : Array Keyed) : Prop := Srt (· ≤ ·) x.toList ∧ x.toList.Perm (a.toList ++ b.toList)
structure Sm (st st' : SortSt) : Prop where
  k : kindOf st' = kindOf st
  a : arrOf st' = arrOf st
  p : pendingOf st' = pendingOf st
  f : failedOf st' = failedOf st
theorem Sm.refl (st : SortSt) : Sm st st := ⟨rfl, rfl, rfl, rfl⟩
theorem Sm.trans {s1 s2 s3 : SortSt} (h : Sm s1 s2) (k : Sm s2 s3) : Sm s1 s3 := ⟨k.k.trans h.k, k.a.trans h.a, k.p.trans h.p, k.f.trans h.f⟩
theorem push_l (out : Array Keyed) (x : Keyed) : (out.push x).toList = out.toList ++ [x] := by simp
theorem ext_l (out a : Array Keyed) (i k : Nat) : (out ++ a.extract i (i + k)).toList = out.toList ++ (a.toList.drop i).take k := by
  rw [Array.toList_append, Array.toList_extract]
  congr 1
  unfold List.extract
  rw [show i + k - i = k by omega]
theorem rest_l (a : Array Keyed) (i : Nat) : (a.extract i a.size).toList = a.toList.drop i := by
  rw [Array.toList_extract]
  unfold List.extract
  exact List.take_of_length_le (by simp)
theorem endA_l (a b out : Array Keyed) (ia ib : Nat) : (endA a b out ia ib).toList = out.toList ++ a.toList.drop ia ++ b.toList.drop ib := by
  unfold endA; rw [Array.toList_append, Array.toList_append, rest_l, rest_l]
theorem endB_l (a b out : Array Keyed) (ia ib : Nat) : (endB a b out ia ib).toList = out.toList ++ b.toList.drop ib ++ a.toList.drop ia := by
  unfold endB; rw [Array.toList_append, Array.toList_append, rest_l, rest_l]
theorem srtK {a : Array Keyed} (h : Srt (· ≤ ·) a.toList) {i j : Nat} (hij : i ≤ j) (hj : j < a.size) : K a i ≤ K a j := by
  rw [K_eq (by omega : i < a.size), K_eq hj]
  by_cases e : i = j
  · subst e; exact Int.le_refl _
  · have := List.pairwise_iff_getElem.mp h i j (by simpa using (by omega : i < a.size)) (by simpa using hj) (by omega)
    simpa using this
theorem ge_drop {l : List Keyed} (h : Srt (· ≤ ·) l) {i : Nat} (hi : i < l.length) {y : Keyed} (hy : y ∈ l.drop i) : ky l[i] ≤ ky y := by
  rw [List.drop_eq_getElem_cons hi] at hy
  rcases List.mem_cons.mp hy with e | e
  · rw [e]; exact Int.le_refl _
  · exact srt_head h hi y e
theorem kl {a : Array Keyed} {i : Nat} (hi : i < a.size) : K a i = ky (a.toList[i]'(by simpa using hi)) := by rw [K_eq hi]; simp
section
variable {prog : Program} {w : World} {A : Around} {E : Value → Shared → Prop} {s : Shared} {a b : Array Keyed} {n0 : Nat}
noncomputable def Qd (a b : Array Keyed) (n0 : Nat) (st : SortSt) (r : Option (Array Keyed)) (out : Array Keyed) (ia ib : Nat) (st' : SortSt) : Prop := Sm st st' ∧ ((∃ R, r = some R ∧ Res a b R) ∨ (r = none ∧ Okm a b out ia ib ∧ n0 ≤ ia + ib))
theorem wp_g3 (C : Cxm a b) {st : SortSt} {out : Array Keyed} {ia ib mg ac bc : Nat} {Q : ForInStep S6 → SortSt → Prop} (o : Okm a b out ia ib) (hn : n0 ≤ ia + ib + 1) (hle : ∀ (hi : ia < a.toList.length), ∀ y ∈ b.toList.drop ib, ky a.toList[ia] ≤ ky y)
    (hd : ∀ z : S6, Qd a b n0 st z.1 z.2.1 z.2.2.1 z.2.2.2.1 st → Q (.done z) st) (hy : ∀ z : S6, z.1 = none → Okm a b z.2.1 z.2.2.1 z.2.2.2.1 → n0 ≤ z.2.2.1 + z.2.2.2.1 → Q (.yield z) st) : wpS (model prog w) A E s (g3 a b out ia ib mg ac bc) Q st := by
  unfold g3
  have h1 := o.ha
  have hal : a.toList.length = a.size := by simp
  have hia : ia < a.toList.length := by omega
  refine wpS_bind (wp_el (by omega) ?_)
  have ex : a[ia] = a.toList[ia] := by simp
  have m := o.mg.pushA hia C.sa (hle hia)
  rw [← ex, ← push_l] at m
  by_cases q : ia + 1 + 1 = a.size
  · rw [if_pos (by simpa using q)]
    refine wpS_pure (hd _ ⟨Sm.refl _, .inl ⟨_, rfl, ?_⟩⟩)
    have := m.last (by omega) C.sb fun y hy hi => C.lst y hy _ hi (by omega)
    unfold Res
    rw [endB_l]
    exact this
  · rw [if_neg (by simpa using q)]
    have o' : Okm a b (out.push a[ia]) (ia + 1) ib := ⟨m, by omega, o.hb⟩
    split
    · exact wpS_pure (hd _ ⟨Sm.refl _, .inr ⟨rfl, o', by show n0 ≤ ia + 1 + ib; omega⟩⟩)
    · exact wpS_pure (hy _ rfl o' (by show n0 ≤ ia + 1 + ib; omega))
theorem wp_g2 (C : Cxm a b) {st : SortSt} {out : Array Keyed} {ia ib mg ac bc : Nat} {Q : ForInStep S6 → SortSt → Prop} (hk : kindOf st = oneType') (o : Okm a b out ia ib) (hn : n0 ≤ ia + ib + 1) (hle : ∀ (hi : ib < b.toList.length), ∀ y ∈ a.toList.drop ia, ky b.toList[ib] ≤ ky y)
    (hd : ∀ z : S6, Qd a b n0 st z.1 z.2.1 z.2.2.1 z.2.2.2.1 st → Q (.done z) st) (hy : ∀ z : S6, z.1 = none → Okm a b z.2.1 z.2.2.1 z.2.2.2.1 → n0 ≤ z.2.2.1 + z.2.2.2.1 → Q (.yield z) st) : wpS (model prog w) A E s (g2 a b out ia ib mg ac bc) Q st := by
  unfold g2
  have h1 := o.ha
  have h2 := o.hb
  have hal : a.toList.length = a.size := by simp
  have hbl : b.toList.length = b.size := by simp
  have hib : ib < b.toList.length := by omega
  refine wpS_bind (wp_el (by omega) ?_)
  have ex : b[ib] = b.toList[ib] := by simp
  have m := o.mg.pushB hib C.sb (hle hib)
  rw [← ex, ← push_l] at m
  by_cases q : ib + 1 = b.size
  · rw [if_pos (by simpa using q)]
    refine wpS_pure (hd _ ⟨Sm.refl _, .inl ⟨_, rfl, ?_⟩⟩)
    unfold Res
    rw [endA_l]
    exact m.doneA (by omega) C.sa
  · rw [if_neg (by simpa using q)]
    have hia : ia < a.toList.length := by omega
    refine wpS_bind (wp_el (by omega) ?_)
    have ea : a[ia] = a.toList[ia] := by simp
    refine wpS_bind (wp_gal hk (at_int C.ia (by omega)) C.ib (by omega) ?_ (by omega) fun k k1 k2 k3 => ?_)
    · intro i j hij hj hb
      unfold bB at hb ⊢
      simp only [if_true] at hb ⊢
      have hb := of_decide_eq_true hb
      exact decide_eq_true (Int.lt_of_le_of_lt (srtK C.sb (by omega) (by omega)) hb)
    · have k2' : ∀ j, j < k → K b (ib + 1 + j) < ky a[ia] := fun j hj => by
        have := k2 j hj
        unfold bB at this
        simpa using this
      have k3' : ∀ j, k ≤ j → j < b.size - (ib + 1) → ky a[ia] ≤ K b (ib + 1 + j) := fun j h1 h2 => by
        have := k3 j h1 h2
        unfold bB at this
        simpa using this
      have m2 := m.manyB C.sb k (by omega) fun j hj hjl y hy => by
        have h3 := k2' j hj
        rw [kl (by omega), ea] at h3
        exact Int.le_trans (Int.le_of_lt h3) (ge_drop C.sa hia hy)
      have hle3 : ∀ (hi : ia < a.toList.length), ∀ y ∈ b.toList.drop (ib + 1 + k), ky a.toList[ia] ≤ ky y := fun hi y hy => by
        obtain ⟨j, hj, e⟩ := List.getElem_of_mem hy
        rw [List.length_drop] at hj
        rw [List.getElem_drop] at e
        have h3 := k3' (k + j) (by omega) (by omega)
        rw [kl (by omega), ea] at h3
        rw [← e]
        have e2 : ib + 1 + (k + j) = ib + 1 + k + j := by omega
        simp only [e2] at h3
        exact h3
      dsimp only
      by_cases hk0 : k > 0
      · rw [if_pos hk0]
        rw [← ext_l] at m2
        by_cases q2 : ib + 1 + k = b.size
        · rw [if_pos (by simpa using q2)]
          refine wpS_pure (hd _ ⟨Sm.refl _, .inl ⟨_, rfl, ?_⟩⟩)
          unfold Res
          rw [endA_l]
          exact m2.doneA (by omega) C.sa
        · rw [if_neg (by simpa using q2)]
          exact wp_g3 C ⟨m2, h1, by omega⟩ (by omega) hle3 hd hy
      · rw [if_neg hk0]
        have e0 : k = 0 := by omega
        subst e0
        exact wp_g3 C ⟨m, h1, by omega⟩ (by omega) hle3 hd hy
end
end Sq
namespace Sq
open PySem PyProof PyProof.Rows
section
variable {prog : Program} {w : World} {A : Around} {E : Value → Shared → Prop} {s : Shared} {a b : Array Keyed} {n0 : Nat}
theorem wp_sGal {st : SortSt} {g : Nat} {Q : Unit → SortSt → Prop} (h : ∀ st', Sm st st' → Q () st') : wpS (model prog w) A E s (sGal g) Q st := by
  unfold sGal
  exact wpS_modify (h _ ⟨rfl, rfl, rfl, rfl⟩)
theorem wp_g1 (C : Cxm a b) {st : SortSt} {out : Array Keyed} {ia ib mg ac bc : Nat} {Q : ForInStep S6 → SortSt → Prop} (hk : kindOf st = oneType') (o : Okm a b out ia ib) (hn : n0 ≤ ia + ib)
    (hd : ∀ (z : S6) st', Qd a b n0 st z.1 z.2.1 z.2.2.1 z.2.2.2.1 st' → Q (.done z) st') (hy : ∀ (z : S6) st', Sm st st' → z.1 = none → Okm a b z.2.1 z.2.2.1 z.2.2.2.1 → n0 ≤ z.2.2.1 + z.2.2.2.1 → Q (.yield z) st') : wpS (model prog w) A E s (g1 a b out ia ib mg ac bc) Q st := by
  unfold g1
  have h1 := o.ha
  have h2 := o.hb
  have hal : a.toList.length = a.size := by simp
  have hbl : b.toList.length = b.size := by simp
  have hib : ib < b.toList.length := by omega
  refine wpS_bind (wp_sGal fun st1 e1 => ?_)
  have hk1 : kindOf st1 = oneType' := e1.k.trans hk
  refine wpS_bind (wp_el (by omega) ?_)
  have eb : b[ib] = b.toList[ib] := by simp
  refine wpS_bind (wp_gal hk1 (at_int C.ib (by omega)) C.ia (by omega) ?_ (by omega) fun k k1 k2 k3 => ?_)
  · intro i j hij hj hb
    unfold bB at hb ⊢
    simp only [Bool.false_eq_true, if_false, Bool.not_eq_true', decide_eq_false_iff_not, Int.not_lt] at hb ⊢
    exact Int.le_trans (srtK C.sa (by omega) (by omega)) hb
  · have k2' : ∀ j, j < k → K a (ia + j) ≤ ky b[ib] := fun j hj => by
      have := k2 j hj
      unfold bB at this
      simpa using this
    have k3' : ∀ j, k ≤ j → j < a.size - ia → ky b[ib] < K a (ia + j) := fun j h1 h2 => by
      have := k3 j h1 h2
      unfold bB at this
      simpa using this
    have m2 := o.mg.manyA C.sa k (by omega) fun j hj hjl y hy => by
      have h3 := k2' j hj
      rw [kl (by omega), eb] at h3
      exact Int.le_trans h3 (ge_drop C.sb hib hy)
    have hle3 : ∀ (hi : ib < b.toList.length), ∀ y ∈ a.toList.drop (ia + k), ky b.toList[ib] ≤ ky y := fun hi y hy => by
      obtain ⟨j, hj, e⟩ := List.getElem_of_mem hy
      rw [List.length_drop] at hj
      rw [List.getElem_drop] at e
      have h3 := k3' (k + j) (by omega) (by omega)
      rw [kl (by omega), eb] at h3
      rw [← e]
      have e2 : ia + (k + j) = ia + k + j := by omega
      simp only [e2] at h3
      exact Int.le_of_lt h3
    have hd2 : ∀ (z : S6), Qd a b n0 st1 z.1 z.2.1 z.2.2.1 z.2.2.2.1 st1 → Q (.done z) st1 := fun z hz => hd z st1 ⟨e1, hz.2⟩
    have hy2 : ∀ z : S6, z.1 = none → Okm a b z.2.1 z.2.2.1 z.2.2.2.1 → n0 ≤ z.2.2.1 + z.2.2.2.1 → Q (.yield z) st1 := fun z => hy z st1 e1
    dsimp only
    by_cases hk0 : k > 0
    · rw [if_pos hk0]
      rw [← ext_l] at m2
      by_cases q2 : ia + k + 1 = a.size
      · rw [if_pos (by simpa using q2)]
        refine wpS_pure (hd2 _ ⟨Sm.refl _, .inl ⟨_, rfl, ?_⟩⟩)
        unfold Res
        rw [endB_l]
        exact m2.last (by omega) C.sb fun y hy hi => C.lst y hy _ hi (by omega)
      · rw [if_neg (by simpa using q2)]
        by_cases q3 : ia + k = a.size
        · rw [if_pos (by simpa using q3)]
          refine wpS_pure (hd2 _ ⟨Sm.refl _, .inl ⟨_, rfl, ?_⟩⟩)
          unfold Res
          rw [endA_l]
          exact m2.doneB (by omega) C.sb
        · rw [if_neg (by simpa using q3)]
          exact wp_g2 C hk1 ⟨m2, by omega, h2⟩ (by omega) hle3 hd2 hy2
    · rw [if_neg hk0]
      have e0 : k = 0 := by omega
      subst e0
      exact wp_g2 C hk1 o (by omega) hle3 hd2 hy2
theorem wp_f1 (C : Cxm a b) {st : SortSt} {mg : Nat} {z : S5} {Q : ForInStep S5 → SortSt → Prop} (hk : kindOf st = oneType') (o : Okm a b z.2.1 z.2.2.1 z.2.2.2.1) (hn : n0 ≤ z.2.2.1 + z.2.2.2.1 + 1)
    (hd : ∀ z' : S5, Qd a b n0 st z'.1 z'.2.1 z'.2.2.1 z'.2.2.2.1 st → Q (.done z') st) (hy : ∀ z' : S5, z'.1 = none → Okm a b z'.2.1 z'.2.2.1 z'.2.2.2.1 → n0 ≤ z'.2.2.1 + z'.2.2.2.1 → Q (.yield z') st) : wpS (model prog w) A E s (f1 a b mg z) Q st := by
  obtain ⟨r0, out, ia, ib, ac, bc⟩ := z
  unfold f1
  dsimp only at o hn ⊢
  have h1 := o.ha
  have h2 := o.hb
  have hal : a.toList.length = a.size := by simp
  have hbl : b.toList.length = b.size := by simp
  have hia : ia < a.toList.length := by omega
  have hib : ib < b.toList.length := by omega
  have ea : a[ia] = a.toList[ia] := by simp
  have eb : b[ib] = b.toList[ib] := by simp
  refine wpS_bind (wp_el (by omega) (wpS_bind (wp_el (by omega) ?_)))
  refine wpS_bind (wp_lt hk (at_int C.ib (by omega)) (at_int C.ia (by omega)) ?_)
  by_cases q : ky b[ib] < ky a[ia]
  · simp only [q, decide_true, if_true]
    refine wpS_bind (wp_el (by omega) ?_)
    have m := o.mg.pushB hib C.sb fun y hy => by
      have := ge_drop C.sa hia hy
      rw [ea, eb] at q
      omega
    rw [← eb, ← push_l] at m
    by_cases q2 : ib + 1 = b.size
    · rw [if_pos (by simpa using q2)]
      refine wpS_pure (hd _ ⟨Sm.refl _, .inl ⟨_, rfl, ?_⟩⟩)
      unfold Res
      rw [endA_l]
      exact m.doneA (by omega) C.sa
    · rw [if_neg (by simpa using q2)]
      have o' : Okm a b (out.push b[ib]) ia (ib + 1) := ⟨m, h1, by omega⟩
      split
      · exact wpS_pure (hd _ ⟨Sm.refl _, .inr ⟨rfl, o', by show n0 ≤ ia + (ib + 1); omega⟩⟩)
      · exact wpS_pure (hy _ rfl o' (by show n0 ≤ ia + (ib + 1); omega))
  · simp only [q, decide_false, Bool.false_eq_true, if_false]
    refine wpS_bind (wp_el (by omega) ?_)
    have m := o.mg.pushA hia C.sa fun y hy => by
      have := ge_drop C.sb hib hy
      rw [ea, eb] at q
      omega
    rw [← ea, ← push_l] at m
    by_cases q2 : ia + 1 + 1 = a.size
    · rw [if_pos (by simpa using q2)]
      refine wpS_pure (hd _ ⟨Sm.refl _, .inl ⟨_, rfl, ?_⟩⟩)
      unfold Res
      rw [endB_l]
      exact m.last (by omega) C.sb fun y hy hi => C.lst y hy _ hi (by omega)
    · rw [if_neg (by simpa using q2)]
      have o' : Okm a b (out.push a[ia]) (ia + 1) ib := ⟨m, by omega, h2⟩
      split
      · exact wpS_pure (hd _ ⟨Sm.refl _, .inr ⟨rfl, o', by show n0 ≤ ia + 1 + ib; omega⟩⟩)
      · exact wpS_pure (hy _ rfl o' (by show n0 ≤ ia + 1 + ib; omega))
theorem wp_oB (C : Cxm a b) {st : SortSt} {z : S4} {Q : ForInStep S4 → SortSt → Prop} (hk : kindOf st = oneType') (o : Okm a b z.2.1 z.2.2.1 z.2.2.2.1) (hn : n0 ≤ z.2.2.1 + z.2.2.2.1 + 1)
    (hd : ∀ (z' : S4) st', Sm st st' → (∃ R, z'.1 = some R ∧ Res a b R) → Q (.done z') st') (hy : ∀ (z' : S4) st', Sm st st' → z'.1 = none → Okm a b z'.2.1 z'.2.2.1 z'.2.2.2.1 → n0 ≤ z'.2.2.1 + z'.2.2.2.1 → Q (.yield z') st') : wpS (model prog w) A E s (oB a b z) Q st := by
  obtain ⟨r0, out, ia, ib, mg⟩ := z
  unfold oB
  dsimp only at o hn ⊢
  have h1 := o.ha
  have h2 := o.hb
  refine wpS_bind (wpS_mono (wpS_forRange (fun x (c : S5) st' => st' = st ∧ c.1 = none ∧ Okm a b c.2.1 c.2.2.1 c.2.2.2.1 ∧ (x = 0 → n0 ≤ c.2.2.1 + c.2.2.2.1 + 1) ∧ (0 < x → n0 ≤ c.2.2.1 + c.2.2.2.1)) (Q := fun (c : S5) st' => Qd a b n0 st c.1 c.2.1 c.2.2.1 c.2.2.2.1 st') ?_ ?_ ⟨rfl, rfl, o, fun _ => hn, fun h => absurd h (Nat.lt_irrefl 0)⟩) ?_)
  · rintro x c st' _ hx ⟨rfl, c1, oc, n1, n2⟩
    refine wp_f1 C hk oc (n0 := n0) ?_ (fun z' hz => hz) fun z' y1 y2 y3 => ⟨rfl, y1, y2, fun h => by omega, fun _ => y3⟩
    rcases Nat.eq_zero_or_pos x with h | h
    · exact n1 h
    · have := n2 h; omega
  · rintro c st' ⟨rfl, c1, oc, n1, n2⟩
    exact ⟨Sm.refl _, .inr ⟨c1, oc, n2 (by omega)⟩⟩
  · rintro ⟨r1, out1, ia1, ib1, ac1, bc1⟩ st1 ⟨e1, hor⟩
    dsimp only at hor ⊢
    rcases hor with ⟨R, hR, hres⟩ | ⟨hr, o1, hn1⟩
    · subst hR
      exact wpS_pure (hd _ _ e1 ⟨R, rfl, hres⟩)
    · subst hr
      dsimp only
      have hk1 : kindOf st1 = oneType' := e1.k.trans hk
      refine wpS_bind (wpS_lift (wpAny_rule ⟨rfl, ?_⟩))
      refine wpS_bind (wpS_mono (wpS_forRange (fun x (c : S6) st' => Sm st1 st' ∧ c.1 = none ∧ Okm a b c.2.1 c.2.2.1 c.2.2.2.1 ∧ n0 ≤ c.2.2.1 + c.2.2.2.1) (Q := fun (c : S6) st' => Qd a b n0 st1 c.1 c.2.1 c.2.2.1 c.2.2.2.1 st') ?_ ?_ ⟨Sm.refl _, rfl, o1, hn1⟩) ?_)
      · rintro x c st' _ hx ⟨e2, c1, oc, n1⟩
        have hk2 : kindOf st' = oneType' := e2.k.trans hk1
        unfold gB
        by_cases q : c.2.2.2.2.1 > 1
        · rw [if_pos q]
          exact wp_g1 C hk2 oc n1 (fun z' st2 hz => ⟨e2.trans hz.1, hz.2⟩) fun z' st2 y0 y1 y2 y3 => ⟨e2.trans y0, y1, y2, y3⟩
        · rw [if_neg q]
          exact wp_g1 C hk2 oc n1 (fun z' st2 hz => ⟨e2.trans hz.1, hz.2⟩) fun z' st2 y0 y1 y2 y3 => ⟨e2.trans y0, y1, y2, y3⟩
      · rintro c st' ⟨e2, c1, oc, n1⟩
        exact ⟨e2, .inr ⟨c1, oc, n1⟩⟩
      · rintro ⟨r2, out2, ia2, ib2, mg2, ac2, bc2⟩ st2 ⟨e2, hor⟩
        dsimp only at hor ⊢
        rcases hor with ⟨R, hR, hres⟩ | ⟨hr, o2, hn2⟩
        · subst hR
          exact wpS_pure (hd _ _ (e1.trans e2) ⟨R, rfl, hres⟩)
        · subst hr
          dsimp only
          exact wpS_bind (wp_sGal fun st3 e3 => wpS_pure (hy _ _ ((e1.trans e2).trans e3) rfl o2 hn2))
theorem wp_mLo (C : Cxm a b) {st : SortSt} {Q : Array Keyed → SortSt → Prop} (hk : kindOf st = oneType') (ha : 0 < a.size) (hb : 0 < b.size) (h0 : ∀ y ∈ a.toList, K b 0 ≤ ky y)
    (h : ∀ R st', Sm st st' → Res a b R → Q R st') : wpS (model prog w) A E s (mLo a b) Q st := by
  rw [mLo_eq]
  have hal : a.toList.length = a.size := by simp
  have hbl : b.toList.length = b.size := by simp
  have hb0 : 0 < b.toList.length := by omega
  have eb : b[0] = b.toList[0] := by simp
  refine wpS_bind (wpS_lift (wpAny_rule ⟨rfl, ?_⟩))
  refine wpS_bind (wp_el hb ?_)
  have m := Mg.start (r := (· ≤ ·)) (a := a.toList) hb0 (fun y hy => by have := h0 y hy; rw [kl hb] at this; exact this) C.sb
  have el : (#[b[0]] : Array Keyed).toList = [b.toList[0]] := by simp
  rw [← el] at m
  by_cases q : 1 = b.size
  · rw [if_pos (by simpa using q)]
    refine wpS_pure (h _ _ (Sm.refl _) ?_)
    unfold Res
    rw [endA_l]
    exact m.doneA (by omega) C.sa
  rw [if_neg (by simpa using q)]
  by_cases q2 : 0 + 1 = a.size
  · rw [if_pos (by simpa using q2)]
    refine wpS_pure (h _ _ (Sm.refl _) ?_)
    unfold Res
    rw [endB_l]
    exact m.last (by omega) C.sb fun y hy hi => C.lst y hy _ hi (by omega)
  rw [if_neg (by simpa using q2)]
  refine wpS_bind (wpS_get ?_)
  refine wpS_bind (wpS_mono (wpS_forRange (fun x (c : S4) st' => Sm st st' ∧ c.1 = none ∧ Okm a b c.2.1 c.2.2.1 c.2.2.2.1 ∧ x + 1 ≤ c.2.2.1 + c.2.2.2.1) (Q := fun (c : S4) st' => Sm st st' ∧ ∃ R, c.1 = some R ∧ Res a b R) ?_ ?_ ⟨Sm.refl _, rfl, ⟨m, by show 0 + 1 < a.size; omega, by show 1 < b.size; omega⟩, by show 0 + 1 ≤ 0 + 1; omega⟩) ?_)
  · rintro x c st' _ hx ⟨e1, c1, oc, n1⟩
    exact wp_oB C (e1.k.trans hk) oc (n0 := x + 1 + 1) (by omega) (fun z' st2 e2 hz => ⟨e1.trans e2, hz⟩) fun z' st2 e2 y1 y2 y3 => ⟨e1.trans e2, y1, y2, y3⟩
  · rintro c st' ⟨e1, c1, oc, n1⟩
    have := oc.ha
    have := oc.hb
    omega
  · rintro ⟨r1, c⟩ st' ⟨e1, R, hR, hres⟩
    dsimp only at hR
    subst hR
    exact wpS_pure (h _ _ e1 hres)
end
end Sq
namespace Sq
open PySem PyProof PyProof.Rows
noncomputable def mHi : Array Keyed → Array Keyed → StateT SortSt Sem (Array Keyed) := sortPriv% PySem.Builtin.mergeHi
noncomputable abbrev enA (a b out : Array Keyed) (na nb : Nat) : Array Keyed := a.extract 0 na ++ b.extract 0 nb ++ out.reverse
noncomputable abbrev enB (a b out : Array Keyed) (na nb : Nat) : Array Keyed := b.extract 0 nb ++ a.extract 0 na ++ out.reverse
theorem mHi_eq0 (a b : Array Keyed) : mHi a b = (do
  rule "list.sort.merge-hi"
  let mut na := a.size - 1; let mut nb := b.size
  let mut out : Array Keyed := #[← elem' a na]
  if na == 0 then return enA a b out na nb
  if nb == 1 then return enB a b out na nb
  let mut minGallop := gallopOf (← get)
  for _ in [0:a.size + b.size] do
    let mut acount := 0; let mut bcount := 0
    for _ in [0:a.size + b.size] do
      let some aWins ← lt' (← elem' b (nb - 1)) (← elem' a (na - 1)) | return enA a b out na nb
      if aWins then
        na := na - 1
        out := out.push (← elem' a na)
        acount := acount + 1; bcount := 0
        if na == 0 then return enA a b out na nb
        if acount ≥ minGallop then break
      else
        nb := nb - 1
        out := out.push (← elem' b nb)
        bcount := bcount + 1; acount := 0
        if nb == 1 then return enB a b out na nb
        if bcount ≥ minGallop then break
    rule "list.sort.gallop"
    minGallop := minGallop + 1
    for _ in [0:a.size + b.size] do
      if minGallop > 1 then minGallop := minGallop - 1
      sGal minGallop
      let some at_ ← gal false (← elem' b (nb - 1)) a 0 na (na - 1) | return enA a b out na nb
      let k := na - at_
      acount := k
      if k > 0 then
        out := out ++ (a.extract at_ na).reverse
        na := at_
        if na == 0 then return enA a b out na nb
      nb := nb - 1
      out := out.push (← elem' b nb)
      if nb == 1 then return enB a b out na nb
      let some at_ ← gal true (← elem' a (na - 1)) b 0 nb (nb - 1) | return enA a b out na nb
      let k := nb - at_
      bcount := k
      if k > 0 then
        out := out ++ (b.extract at_ nb).reverse
        nb := at_
        if nb == 1 then return enB a b out na nb
        if nb == 0 then return enA a b out na nb
      na := na - 1
      out := out.push (← elem' a na)
      if na == 0 then return enA a b out na nb
      if acount < 7 && bcount < 7 then break
    minGallop := minGallop + 1
    sGal minGallop
  unsupported "internal:list.sort.merge-bound") := rfl
noncomputable abbrev T4 := Option (Array Keyed) × Nat × Nat × Array Keyed × Nat
noncomputable abbrev T5 := Option (Array Keyed) × Nat × Nat × Array Keyed × Nat × Nat
noncomputable abbrev T6 := Option (Array Keyed) × Nat × Nat × Array Keyed × Nat × Nat × Nat
noncomputable def h3 (a b : Array Keyed) (na nb : Nat) (out : Array Keyed) (mg ac bc : Nat) : SM (ForInStep T6) := do
  let x ← elem' a (na - 1)
  if (na - 1 == 0) = true then pure (.done (some (enA a b (out.push x) (na - 1) nb), na - 1, nb, out.push x, mg, ac, bc))
  else if (decide (ac < 7) && decide (bc < 7)) = true then pure (.done (none, na - 1, nb, out.push x, mg, ac, bc))
  else pure (.yield (none, na - 1, nb, out.push x, mg, ac, bc))
noncomputable def h2 (a b : Array Keyed) (na nb : Nat) (out : Array Keyed) (mg ac bc : Nat) : SM (ForInStep T6) := do
  let x ← elem' b (nb - 1)
  if (nb - 1 == 1) = true then pure (.done (some (enB a b (out.push x) na (nb - 1)), na, nb - 1, out.push x, mg, ac, bc))
  else do
    let y ← elem' a (na - 1)
    match ← gal true y b 0 (nb - 1) (nb - 1 - 1) with
    | some t =>
      if nb - 1 - t > 0 then
        if (t == 1) = true then pure (.done (some (enB a b (out.push x ++ (b.extract t (nb - 1)).reverse) na t), na, t, out.push x ++ (b.extract t (nb - 1)).reverse, mg, ac, nb - 1 - t))
        else if (t == 0) = true then pure (.done (some (enA a b (out.push x ++ (b.extract t (nb - 1)).reverse) na t), na, t, out.push x ++ (b.extract t (nb - 1)).reverse, mg, ac, nb - 1 - t))
        else h3 a b na t (out.push x ++ (b.extract t (nb - 1)).reverse) mg ac (nb - 1 - t)
      else h3 a b na (nb - 1) (out.push x) mg ac (nb - 1 - t)
    | _ => pure (.done (some (enA a b (out.push x) na (nb - 1)), na, nb - 1, out.push x, mg, ac, bc))
noncomputable def h1 (a b : Array Keyed) (na nb : Nat) (out : Array Keyed) (mg ac bc : Nat) : SM (ForInStep T6) := do
  sGal mg
  let x ← elem' b (nb - 1)
  match ← gal false x a 0 na (na - 1) with
  | some t =>
    if na - t > 0 then
      if (t == 0) = true then pure (.done (some (enA a b (out ++ (a.extract t na).reverse) t nb), t, nb, out ++ (a.extract t na).reverse, mg, na - t, bc))
      else h2 a b t nb (out ++ (a.extract t na).reverse) mg (na - t) bc
    else h2 a b na nb out mg (na - t) bc
  | _ => pure (.done (some (enA a b out na nb), na, nb, out, mg, ac, bc))
noncomputable def hB (a b : Array Keyed) (z : T6) : SM (ForInStep T6) :=
  if z.2.2.2.2.1 > 1 then h1 a b z.2.1 z.2.2.1 z.2.2.2.1 (z.2.2.2.2.1 - 1) z.2.2.2.2.2.1 z.2.2.2.2.2.2
  else h1 a b z.2.1 z.2.2.1 z.2.2.2.1 z.2.2.2.2.1 z.2.2.2.2.2.1 z.2.2.2.2.2.2
noncomputable def k1 (a b : Array Keyed) (mg : Nat) (z : T5) : SM (ForInStep T5) := do
  let x ← elem' b (z.2.2.1 - 1)
  let y ← elem' a (z.2.1 - 1)
  match ← lt' x y with
  | some c =>
    if c = true then do
      let y ← elem' a (z.2.1 - 1)
      if (z.2.1 - 1 == 0) = true then pure (.done (some (enA a b (z.2.2.2.1.push y) (z.2.1 - 1) z.2.2.1), z.2.1 - 1, z.2.2.1, z.2.2.2.1.push y, z.2.2.2.2.1 + 1, 0))
      else if z.2.2.2.2.1 + 1 ≥ mg then pure (.done (none, z.2.1 - 1, z.2.2.1, z.2.2.2.1.push y, z.2.2.2.2.1 + 1, 0))
      else pure (.yield (none, z.2.1 - 1, z.2.2.1, z.2.2.2.1.push y, z.2.2.2.2.1 + 1, 0))
    else do
      let x ← elem' b (z.2.2.1 - 1)
      if (z.2.2.1 - 1 == 1) = true then pure (.done (some (enB a b (z.2.2.2.1.push x) z.2.1 (z.2.2.1 - 1)), z.2.1, z.2.2.1 - 1, z.2.2.2.1.push x, 0, z.2.2.2.2.2 + 1))
      else if z.2.2.2.2.2 + 1 ≥ mg then pure (.done (none, z.2.1, z.2.2.1 - 1, z.2.2.2.1.push x, 0, z.2.2.2.2.2 + 1))
      else pure (.yield (none, z.2.1, z.2.2.1 - 1, z.2.2.2.1.push x, 0, z.2.2.2.2.2 + 1))
  | _ => pure (.done (some (enA a b z.2.2.2.1 z.2.1 z.2.2.1), z.2.1, z.2.2.1, z.2.2.2.1, z.2.2.2.2.1, z.2.2.2.2.2))
noncomputable def oH (a b : Array Keyed) (z : T4) : SM (ForInStep T4) := do
  let u ← forIn [0:a.size + b.size] ((none, z.2.1, z.2.2.1, z.2.2.2.1, 0, 0) : T5) fun _ u => k1 a b z.2.2.2.2 u
  match u.1 with
  | some r => pure (.done (some r, u.2.1, u.2.2.1, u.2.2.2.1, z.2.2.2.2))
  | none => do
    liftM (rule "list.sort.gallop")
    let v ← forIn [0:a.size + b.size] ((none, u.2.1, u.2.2.1, u.2.2.2.1, z.2.2.2.2 + 1, u.2.2.2.2.1, u.2.2.2.2.2) : T6) fun _ v => hB a b v
    match v.1 with
    | some r => pure (.done (some r, v.2.1, v.2.2.1, v.2.2.2.1, v.2.2.2.2.1))
    | none => do
      sGal (v.2.2.2.2.1 + 1)
      pure (.yield (none, v.2.1, v.2.2.1, v.2.2.2.1, v.2.2.2.2.1 + 1))
theorem mHi_eq (a b : Array Keyed) : mHi a b = (do
  liftM (rule "list.sort.merge-hi")
  let x ← elem' a (a.size - 1)
  if (a.size - 1 == 0) = true then pure (enA a b #[x] (a.size - 1) b.size)
  else if (b.size == 1) = true then pure (enB a b #[x] (a.size - 1) b.size)
  else do
    let st ← get
    let z ← forIn [0:a.size + b.size] ((none, a.size - 1, b.size, #[x], gallopOf st) : T4) fun _ z => oH a b z
    match z.1 with
    | some r => pure r
    | none => liftM (unsupported "internal:list.sort.merge-bound")) := by
  rw [mHi_eq0]
  refine congr (congrArg bind rfl) (funext fun u => ?_)
  dsimp only
  refine congr (congrArg bind rfl) (funext fun x => ?_)
  by_cases q : (a.size - 1 == 0) = true
  · rw [if_pos q, if_pos q]
  rw [if_neg q, if_neg q]
  by_cases q2 : (b.size == 1) = true
  · rw [if_pos q2, if_pos q2]
  rw [if_neg q2, if_neg q2]
  refine congr (congrArg bind rfl) (funext fun st => ?_)
  refine congr (congrArg bind ?_) ?_
  · refine congrArg (forIn _ _) (funext fun i => funext fun z => ?_)
    unfold oH
    refine congr (congrArg bind ?_) ?_
    · refine congrArg (forIn _ _) (funext fun i => funext fun z1 => ?_)
      rfl
    · funext u
      obtain ⟨r, u⟩ := u
      cases r with
      | some r => rfl
      | none =>
        dsimp only
        refine congr (congrArg bind rfl) (funext fun _ => ?_)
        refine congr (congrArg bind ?_) ?_
        · refine congrArg (forIn _ _) (funext fun i => funext fun z1 => ?_)
          unfold hB
          by_cases q3 : z1.2.2.2.2.1 > 1
          · rw [if_pos q3, if_pos q3]; rfl
          · rw [if_neg q3, if_neg q3]; rfl
        · funext v
          obtain ⟨r, v⟩ := v
          cases r <;> rfl
  · funext v
    obtain ⟨r, v⟩ := v
    cases r <;> rfl
noncomputable def gE (x y : Int) : Prop := y ≤ x
noncomputable abbrev Mh (a b out : Array Keyed) (na nb : Nat) : Prop := Mg gE b.toList.reverse a.toList.reverse out.toList (b.size - nb) (a.size - na)
structure Cxh (a b : Array Keyed) : Prop where
  ia : IntKeys a
  ib : IntKeys b
  sa : Srt (· ≤ ·) a.toList
  sb : Srt (· ≤ ·) b.toList
  fst : ∀ y ∈ a.toList, K b 0 ≤ ky y
theorem srt_rev {l : List Keyed} (h : Srt (· ≤ ·) l) : Srt gE l.reverse := List.pairwise_reverse.mpr h
theorem rev_get {l : Array Keyed} {n : Nat} (h : 0 < n) (h2 : n ≤ l.size) (hi : l.size - n < l.toList.reverse.length) : l.toList.reverse[l.size - n] = l[n - 1]'(by omega) := by
  rw [List.getElem_reverse]
  simp only [Array.length_toList, Array.getElem_toList]
  congr 1
  omega
theorem rev_mem {l : Array Keyed} {n : Nat} (h2 : n ≤ l.size) {y : Keyed} (hy : y ∈ l.toList.reverse.drop (l.size - n)) : ∃ j, j < n ∧ ky y = K l j := by
  rw [List.drop_reverse, List.mem_reverse] at hy
  have e : l.toList.length - (l.size - n) = n := by simp; omega
  rw [e] at hy
  obtain ⟨j, hj, e2⟩ := List.getElem_of_mem hy
  rw [List.length_take] at hj
  have hl : l.toList.length = l.size := by simp
  refine ⟨j, by omega, ?_⟩
  rw [← e2, List.getElem_take, kl (by omega)]
theorem pushA_h {a b out : Array Keyed} {na nb : Nat} (m : Mh a b out na nb) (hs : Srt (· ≤ ·) a.toList) (h1 : 0 < na) (h2 : na ≤ a.size) (h3 : nb ≤ b.size) (h : ∀ j, j < nb → K b j ≤ K a (na - 1)) : Mh a b (out.push (a[na - 1]'(by omega))) (na - 1) nb := by
  have hl : a.toList.reverse.length = a.size := by simp
  have hi : a.size - na < a.toList.reverse.length := by omega
  have := m.pushB hi (srt_rev hs) fun y hy => by
    obtain ⟨j, hj, e⟩ := rev_mem h3 hy
    unfold gE
    rw [e, rev_get h1 h2 hi]
    have := h j hj
    rw [K_eq (i := na - 1) (by omega)] at this
    exact this
  rw [rev_get h1 h2 hi, ← push_l] at this
  unfold Mh
  rw [show a.size - (na - 1) = a.size - na + 1 by omega]
  exact this
theorem pushB_h {a b out : Array Keyed} {na nb : Nat} (m : Mh a b out na nb) (hs : Srt (· ≤ ·) b.toList) (h1 : 0 < nb) (h2 : nb ≤ b.size) (h3 : na ≤ a.size) (h : ∀ j, j < na → K a j ≤ K b (nb - 1)) : Mh a b (out.push (b[nb - 1]'(by omega))) na (nb - 1) := (pushA_h (a := b) (b := a) m.flip hs h1 h2 h3 h).flip
theorem rev_ext (l : Array Keyed) {t n : Nat} (h1 : t ≤ n) (h2 : n ≤ l.size) : ((l.extract t n).reverse).toList = (l.toList.reverse.drop (l.size - n)).take (n - t) := by
  rw [Array.toList_reverse, Array.toList_extract]
  unfold List.extract
  rw [List.drop_reverse]
  have e : l.toList.length - (l.size - n) = n := by simp; omega
  rw [e, List.take_reverse]
  congr 1
  rw [List.length_take, List.drop_take]
  have hl : l.toList.length = l.size := by simp
  rw [hl, show min n l.size - (n - t) = t by omega]
theorem manyA_h {a b out : Array Keyed} {na nb : Nat} (m : Mh a b out na nb) (hs : Srt (· ≤ ·) a.toList) {t : Nat} (ht : t ≤ na) (h2 : na ≤ a.size) (h3 : nb ≤ b.size) (h : ∀ i, t ≤ i → i < na → ∀ j, j < nb → K b j ≤ K a i) : Mh a b (out ++ (a.extract t na).reverse) t nb := by
  have hl : a.toList.reverse.length = a.size := by simp
  have := m.manyB (srt_rev hs) (na - t) (by omega) fun j hj hjl y hy => by
    obtain ⟨i, hi, e⟩ := rev_mem h3 hy
    unfold gE
    have e2 : a.size - na + j = a.size - (na - j) := by omega
    have e3 : a.toList.reverse[a.size - na + j] = a[na - j - 1]'(by omega) := by
      simp only [e2]
      exact rev_get (by omega) (by omega) (by omega)
    rw [e, e3]
    have := h (na - j - 1) (by omega) (by omega) i hi
    rw [K_eq (i := na - j - 1) (by omega)] at this
    exact this
  unfold Mh
  rw [Array.toList_append, rev_ext a ht h2, show a.size - t = a.size - na + (na - t) by omega]
  exact this
theorem manyB_h {a b out : Array Keyed} {na nb : Nat} (m : Mh a b out na nb) (hs : Srt (· ≤ ·) b.toList) {t : Nat} (ht : t ≤ nb) (h2 : nb ≤ b.size) (h3 : na ≤ a.size) (h : ∀ i, t ≤ i → i < nb → ∀ j, j < na → K a j ≤ K b i) : Mh a b (out ++ (b.extract t nb).reverse) na t := (manyA_h (a := b) (b := a) m.flip hs ht h2 h3 h).flip
theorem take_l (a : Array Keyed) {n : Nat} (h : n ≤ a.size) : (a.extract 0 n).toList.reverse = a.toList.reverse.drop (a.size - n) := by
  rw [Array.toList_extract, List.drop_reverse]
  unfold List.extract
  have e : a.toList.length - (a.size - n) = n := by simp; omega
  rw [e, List.drop_zero, Nat.sub_zero]
theorem enA_l {a b out : Array Keyed} {na nb : Nat} (h1 : na ≤ a.size) (h2 : nb ≤ b.size) : (enA a b out na nb).toList.reverse = out.toList ++ b.toList.reverse.drop (b.size - nb) ++ a.toList.reverse.drop (a.size - na) := by
  unfold enA
  rw [Array.toList_append, Array.toList_append, List.reverse_append, List.reverse_append, take_l a h1, take_l b h2, Array.toList_reverse, List.reverse_reverse, List.append_assoc]
theorem enB_l {a b out : Array Keyed} {na nb : Nat} (h1 : na ≤ a.size) (h2 : nb ≤ b.size) : (enB a b out na nb).toList.reverse = out.toList ++ a.toList.reverse.drop (a.size - na) ++ b.toList.reverse.drop (b.size - nb) := by
  unfold enB
  rw [Array.toList_append, Array.toList_append, List.reverse_append, List.reverse_append, take_l a h1, take_l b h2, Array.toList_reverse, List.reverse_reverse, List.append_assoc]
theorem res_of {a b R : Array Keyed} {l : List Keyed} (e : R.toList.reverse = l) (h : Srt gE l ∧ l.Perm (b.toList.reverse ++ a.toList.reverse)) : Res a b R := by
  rw [← e] at h
  refine ⟨List.pairwise_reverse.mp h.1, ?_⟩
  refine (List.reverse_perm R.toList).symm.trans (h.2.trans ?_)
  rw [← List.reverse_append]
  exact List.reverse_perm _
theorem resA0 {a b out : Array Keyed} {na nb : Nat} (C : Cxh a b) (m : Mh a b out na nb) (h0 : na = 0) (h2 : nb ≤ b.size) : Res a b (enA a b out na nb) := res_of (enA_l (by omega) h2) (m.doneA (by simp; omega) (srt_rev C.sb))
theorem resB0 {a b out : Array Keyed} {na nb : Nat} (C : Cxh a b) (m : Mh a b out na nb) (h0 : nb = 0) (h2 : na ≤ a.size) : Res a b (enA a b out na nb) := res_of (enA_l h2 (by omega)) (m.doneB (by simp; omega) (srt_rev C.sa))
theorem resB1 {a b out : Array Keyed} {na nb : Nat} (C : Cxh a b) (m : Mh a b out na nb) (h0 : nb = 1) (hb : nb ≤ b.size) (h2 : na ≤ a.size) : Res a b (enB a b out na nb) := by
  subst h0
  refine res_of (enB_l h2 hb) (m.last (by simp; omega) (srt_rev C.sa) fun y hy hi => ?_)
  unfold gE
  rw [rev_get (by omega) hb hi]
  have := C.fst y (List.mem_reverse.mp hy)
  rw [K_eq (i := 0) (by omega)] at this
  exact this
end Sq
namespace Sq
open PySem PyProof PyProof.Rows
structure Okh (a b out : Array Keyed) (na nb : Nat) : Prop where
  mg : Mh a b out na nb
  a1 : 0 < na
  a2 : na ≤ a.size
  b1 : 1 < nb
  b2 : nb ≤ b.size
section
variable {prog : Program} {w : World} {A : Around} {E : Value → Shared → Prop} {s : Shared} {a b : Array Keyed} {n0 : Nat}
noncomputable def Qh (a b : Array Keyed) (n0 : Nat) (st : SortSt) (r : Option (Array Keyed)) (na nb : Nat) (out : Array Keyed) (st' : SortSt) : Prop := Sm st st' ∧ ((∃ R, r = some R ∧ Res a b R) ∨ (r = none ∧ Okh a b out na nb ∧ n0 + na + nb ≤ a.size + b.size))
theorem wp_h3 (C : Cxh a b) {st : SortSt} {out : Array Keyed} {na nb mg ac bc : Nat} {Q : ForInStep T6 → SortSt → Prop} (o : Okh a b out na nb) (hn : n0 + na + nb ≤ a.size + b.size + 1) (hle : ∀ j, j < nb → K b j ≤ K a (na - 1))
    (hd : ∀ z : T6, Qh a b n0 st z.1 z.2.1 z.2.2.1 z.2.2.2.1 st → Q (.done z) st) (hy : ∀ z : T6, z.1 = none → Okh a b z.2.2.2.1 z.2.1 z.2.2.1 → n0 + z.2.1 + z.2.2.1 ≤ a.size + b.size → Q (.yield z) st) : wpS (model prog w) A E s (h3 a b na nb out mg ac bc) Q st := by
  unfold h3
  obtain ⟨m0, a1, a2, b1, b2⟩ := o
  refine wpS_bind (wp_el (by omega) ?_)
  have m := pushA_h m0 C.sa a1 a2 b2 hle
  by_cases q : na - 1 = 0
  · rw [if_pos (by simpa using q)]
    exact wpS_pure (hd _ ⟨Sm.refl _, .inl ⟨_, rfl, resA0 C m q b2⟩⟩)
  · rw [if_neg (by simpa using q)]
    have o' : Okh a b (out.push (a[na - 1]'(by omega))) (na - 1) nb := ⟨m, by omega, by omega, b1, b2⟩
    split
    · exact wpS_pure (hd _ ⟨Sm.refl _, .inr ⟨rfl, o', by show n0 + (na - 1) + nb ≤ _; omega⟩⟩)
    · exact wpS_pure (hy _ rfl o' (by show n0 + (na - 1) + nb ≤ _; omega))
theorem wp_h2 (C : Cxh a b) {st : SortSt} {out : Array Keyed} {na nb mg ac bc : Nat} {Q : ForInStep T6 → SortSt → Prop} (hk : kindOf st = oneType') (o : Okh a b out na nb) (hn : n0 + na + nb ≤ a.size + b.size + 1) (hle : ∀ j, j < na → K a j ≤ K b (nb - 1))
    (hd : ∀ z : T6, Qh a b n0 st z.1 z.2.1 z.2.2.1 z.2.2.2.1 st → Q (.done z) st) (hy : ∀ z : T6, z.1 = none → Okh a b z.2.2.2.1 z.2.1 z.2.2.1 → n0 + z.2.1 + z.2.2.1 ≤ a.size + b.size → Q (.yield z) st) : wpS (model prog w) A E s (h2 a b na nb out mg ac bc) Q st := by
  unfold h2
  obtain ⟨m0, a1, a2, b1, b2⟩ := o
  refine wpS_bind (wp_el (by omega) ?_)
  have m := pushB_h m0 C.sb (by omega) b2 a2 hle
  by_cases q : nb - 1 = 1
  · rw [if_pos (by simpa using q)]
    exact wpS_pure (hd _ ⟨Sm.refl _, .inl ⟨_, rfl, resB1 C m q (by omega) a2⟩⟩)
  · rw [if_neg (by simpa using q)]
    refine wpS_bind (wp_el (by omega) ?_)
    refine wpS_bind (wp_gal hk (at_int C.ia (by omega)) C.ib (by omega) ?_ (by omega) fun t t1 t2 t3 => ?_)
    · intro i j hij hj hb
      unfold bB at hb ⊢
      simp only [if_true] at hb ⊢
      have hb := of_decide_eq_true hb
      exact decide_eq_true (Int.lt_of_le_of_lt (srtK C.sb (by omega) (by omega)) hb)
    · have e1 : ky (a[na - 1]'(by omega)) = K a (na - 1) := (K_eq (by omega)).symm
      have t2' : ∀ j, j < t → K b j < K a (na - 1) := fun j hj => by
        have := t2 j hj
        unfold bB at this
        rw [← e1]
        simpa using this
      have t3' : ∀ j, t ≤ j → j < nb - 1 → K a (na - 1) ≤ K b j := fun j h1 h2 => by
        have := t3 j h1 h2
        unfold bB at this
        rw [← e1]
        simpa using this
      have m2 := manyB_h m C.sb t1 (by omega) a2 fun i h1 h2 j hj => Int.le_trans (srtK C.sa (by omega) (by omega)) (t3' i h1 h2)
      have hle3 : ∀ j, j < t → K b j ≤ K a (na - 1) := fun j hj => Int.le_of_lt (t2' j hj)
      dsimp only
      by_cases hk0 : nb - 1 - t > 0
      · rw [if_pos hk0]
        by_cases q2 : t = 1
        · rw [if_pos (by simpa using q2)]
          exact wpS_pure (hd _ ⟨Sm.refl _, .inl ⟨_, rfl, resB1 C m2 q2 (by omega) a2⟩⟩)
        · rw [if_neg (by simpa using q2)]
          by_cases q3 : t = 0
          · rw [if_pos (by simpa using q3)]
            exact wpS_pure (hd _ ⟨Sm.refl _, .inl ⟨_, rfl, resB0 C m2 q3 a2⟩⟩)
          · rw [if_neg (by simpa using q3)]
            exact wp_h3 C ⟨m2, a1, a2, by omega, by omega⟩ (by omega) hle3 hd hy
      · rw [if_neg hk0]
        have e0 : t = nb - 1 := by omega
        subst e0
        exact wp_h3 C ⟨m, a1, a2, by omega, by omega⟩ (by omega) hle3 hd hy
theorem wp_h1 (C : Cxh a b) {st : SortSt} {out : Array Keyed} {na nb mg ac bc : Nat} {Q : ForInStep T6 → SortSt → Prop} (hk : kindOf st = oneType') (o : Okh a b out na nb) (hn : n0 + na + nb ≤ a.size + b.size)
    (hd : ∀ (z : T6) st', Qh a b n0 st z.1 z.2.1 z.2.2.1 z.2.2.2.1 st' → Q (.done z) st') (hy : ∀ (z : T6) st', Sm st st' → z.1 = none → Okh a b z.2.2.2.1 z.2.1 z.2.2.1 → n0 + z.2.1 + z.2.2.1 ≤ a.size + b.size → Q (.yield z) st') : wpS (model prog w) A E s (h1 a b na nb out mg ac bc) Q st := by
  unfold h1
  obtain ⟨m0, a1, a2, b1, b2⟩ := o
  refine wpS_bind (wp_sGal fun st1 e1 => ?_)
  have hk1 : kindOf st1 = oneType' := e1.k.trans hk
  refine wpS_bind (wp_el (by omega) ?_)
  refine wpS_bind (wp_gal hk1 (at_int C.ib (by omega)) C.ia (by omega) ?_ (by omega) fun t t1 t2 t3 => ?_)
  · intro i j hij hj hb
    unfold bB at hb ⊢
    simp only [Bool.false_eq_true, if_false, Bool.not_eq_true', decide_eq_false_iff_not, Int.not_lt] at hb ⊢
    exact Int.le_trans (srtK C.sa (by omega) (by omega)) hb
  · have e2 : ky (b[nb - 1]'(by omega)) = K b (nb - 1) := (K_eq (by omega)).symm
    have t2' : ∀ j, j < t → K a j ≤ K b (nb - 1) := fun j hj => by
      have := t2 j hj
      unfold bB at this
      rw [← e2]
      simpa using this
    have t3' : ∀ j, t ≤ j → j < na → K b (nb - 1) < K a j := fun j h1 h2 => by
      have := t3 j h1 h2
      unfold bB at this
      rw [← e2]
      simpa using this
    have m2 := manyA_h m0 C.sa t1 a2 b2 fun i h1 h2 j hj => Int.le_trans (srtK C.sb (by omega) (by omega)) (Int.le_of_lt (t3' i h1 h2))
    have hd2 : ∀ (z : T6), Qh a b n0 st1 z.1 z.2.1 z.2.2.1 z.2.2.2.1 st1 → Q (.done z) st1 := fun z hz => hd z st1 ⟨e1, hz.2⟩
    have hy2 : ∀ z : T6, z.1 = none → Okh a b z.2.2.2.1 z.2.1 z.2.2.1 → n0 + z.2.1 + z.2.2.1 ≤ a.size + b.size → Q (.yield z) st1 := fun z => hy z st1 e1
    dsimp only
    by_cases hk0 : na - t > 0
    · rw [if_pos hk0]
      by_cases q2 : t = 0
      · rw [if_pos (by simpa using q2)]
        exact wpS_pure (hd2 _ ⟨Sm.refl _, .inl ⟨_, rfl, resA0 C m2 q2 b2⟩⟩)
      · rw [if_neg (by simpa using q2)]
        exact wp_h2 C hk1 ⟨m2, by omega, by omega, b1, b2⟩ (by omega) t2' hd2 hy2
    · rw [if_neg hk0]
      have e0 : t = na := by omega
      subst e0
      exact wp_h2 C hk1 ⟨m0, a1, a2, b1, b2⟩ (by omega) t2' hd2 hy2
theorem wp_k1 (C : Cxh a b) {st : SortSt} {mg : Nat} {z : T5} {Q : ForInStep T5 → SortSt → Prop} (hk : kindOf st = oneType') (o : Okh a b z.2.2.2.1 z.2.1 z.2.2.1) (hn : n0 + z.2.1 + z.2.2.1 ≤ a.size + b.size + 1)
    (hd : ∀ z' : T5, Qh a b n0 st z'.1 z'.2.1 z'.2.2.1 z'.2.2.2.1 st → Q (.done z') st) (hy : ∀ z' : T5, z'.1 = none → Okh a b z'.2.2.2.1 z'.2.1 z'.2.2.1 → n0 + z'.2.1 + z'.2.2.1 ≤ a.size + b.size → Q (.yield z') st) : wpS (model prog w) A E s (k1 a b mg z) Q st := by
  obtain ⟨r0, na, nb, out, ac, bc⟩ := z
  unfold k1
  dsimp only at o hn ⊢
  obtain ⟨m0, a1, a2, b1, b2⟩ := o
  have e1 : ky (a[na - 1]'(by omega)) = K a (na - 1) := (K_eq (by omega)).symm
  have e2 : ky (b[nb - 1]'(by omega)) = K b (nb - 1) := (K_eq (by omega)).symm
  refine wpS_bind (wp_el (by omega) (wpS_bind (wp_el (by omega) ?_)))
  refine wpS_bind (wp_lt hk (at_int C.ib (by omega)) (at_int C.ia (by omega)) ?_)
  by_cases q : ky (b[nb - 1]'(by omega)) < ky (a[na - 1]'(by omega))
  · simp only [q, decide_true, if_true]
    rw [e1, e2] at q
    refine wpS_bind (wp_el (by omega) ?_)
    have m := pushA_h m0 C.sa a1 a2 b2 fun j hj => Int.le_trans (srtK C.sb (by omega) (by omega)) (Int.le_of_lt q)
    by_cases q2 : na - 1 = 0
    · rw [if_pos (by simpa using q2)]
      exact wpS_pure (hd _ ⟨Sm.refl _, .inl ⟨_, rfl, resA0 C m q2 b2⟩⟩)
    · rw [if_neg (by simpa using q2)]
      have o' : Okh a b (out.push (a[na - 1]'(by omega))) (na - 1) nb := ⟨m, by omega, by omega, b1, b2⟩
      split
      · exact wpS_pure (hd _ ⟨Sm.refl _, .inr ⟨rfl, o', by show n0 + (na - 1) + nb ≤ _; omega⟩⟩)
      · exact wpS_pure (hy _ rfl o' (by show n0 + (na - 1) + nb ≤ _; omega))
  · simp only [q, decide_false, Bool.false_eq_true, if_false]
    rw [e1, e2] at q
    refine wpS_bind (wp_el (by omega) ?_)
    have m := pushB_h m0 C.sb (by omega) b2 a2 fun j hj => Int.le_trans (srtK C.sa (by omega) (by omega)) (Int.not_lt.mp q)
    by_cases q2 : nb - 1 = 1
    · rw [if_pos (by simpa using q2)]
      exact wpS_pure (hd _ ⟨Sm.refl _, .inl ⟨_, rfl, resB1 C m q2 (by omega) a2⟩⟩)
    · rw [if_neg (by simpa using q2)]
      have o' : Okh a b (out.push (b[nb - 1]'(by omega))) na (nb - 1) := ⟨m, a1, a2, by omega, by omega⟩
      split
      · exact wpS_pure (hd _ ⟨Sm.refl _, .inr ⟨rfl, o', by show n0 + na + (nb - 1) ≤ _; omega⟩⟩)
      · exact wpS_pure (hy _ rfl o' (by show n0 + na + (nb - 1) ≤ _; omega))
theorem wp_oH (C : Cxh a b) {st : SortSt} {z : T4} {Q : ForInStep T4 → SortSt → Prop} (hk : kindOf st = oneType') (o : Okh a b z.2.2.2.1 z.2.1 z.2.2.1) (hn : n0 + z.2.1 + z.2.2.1 ≤ a.size + b.size + 1)
    (hd : ∀ (z' : T4) st', Sm st st' → (∃ R, z'.1 = some R ∧ Res a b R) → Q (.done z') st') (hy : ∀ (z' : T4) st', Sm st st' → z'.1 = none → Okh a b z'.2.2.2.1 z'.2.1 z'.2.2.1 → n0 + z'.2.1 + z'.2.2.1 ≤ a.size + b.size → Q (.yield z') st') : wpS (model prog w) A E s (oH a b z) Q st := by
  obtain ⟨r0, na, nb, out, mg⟩ := z
  unfold oH
  dsimp only at o hn ⊢
  have hsz : 0 < a.size + b.size := by have := o.a1; have := o.a2; omega
  refine wpS_bind (wpS_mono (wpS_forRange (fun x (c : T5) st' => st' = st ∧ c.1 = none ∧ Okh a b c.2.2.2.1 c.2.1 c.2.2.1 ∧ (x = 0 → n0 + c.2.1 + c.2.2.1 ≤ a.size + b.size + 1) ∧ (0 < x → n0 + c.2.1 + c.2.2.1 ≤ a.size + b.size)) (Q := fun (c : T5) st' => Qh a b n0 st c.1 c.2.1 c.2.2.1 c.2.2.2.1 st') ?_ ?_ ⟨rfl, rfl, o, fun _ => hn, fun h => absurd h (Nat.lt_irrefl 0)⟩) ?_)
  · rintro x c st' _ hx ⟨rfl, c1, oc, n1, n2⟩
    refine wp_k1 C hk oc (n0 := n0) ?_ (fun z' hz => hz) fun z' y1 y2 y3 => ⟨rfl, y1, y2, fun h => by omega, fun _ => y3⟩
    rcases Nat.eq_zero_or_pos x with h | h
    · exact n1 h
    · have := n2 h; omega
  · rintro c st' ⟨rfl, c1, oc, n1, n2⟩
    exact ⟨Sm.refl _, .inr ⟨c1, oc, n2 (by omega)⟩⟩
  · rintro ⟨r1, na1, nb1, out1, ac1, bc1⟩ st1 ⟨e1, hor⟩
    dsimp only at hor ⊢
    rcases hor with ⟨R, hR, hres⟩ | ⟨hr, o1, hn1⟩
    · subst hR
      exact wpS_pure (hd _ _ e1 ⟨R, rfl, hres⟩)
    · subst hr
      dsimp only
      have hk1 : kindOf st1 = oneType' := e1.k.trans hk
      refine wpS_bind (wpS_lift (wpAny_rule ⟨rfl, ?_⟩))
      refine wpS_bind (wpS_mono (wpS_forRange (fun x (c : T6) st' => Sm st1 st' ∧ c.1 = none ∧ Okh a b c.2.2.2.1 c.2.1 c.2.2.1 ∧ n0 + c.2.1 + c.2.2.1 ≤ a.size + b.size) (Q := fun (c : T6) st' => Qh a b n0 st1 c.1 c.2.1 c.2.2.1 c.2.2.2.1 st') ?_ ?_ ⟨Sm.refl _, rfl, o1, hn1⟩) ?_)
      · rintro x c st' _ hx ⟨e2, c1, oc, n1⟩
        have hk2 : kindOf st' = oneType' := e2.k.trans hk1
        unfold hB
        by_cases q : c.2.2.2.2.1 > 1
        · rw [if_pos q]
          exact wp_h1 C hk2 oc n1 (fun z' st2 hz => ⟨e2.trans hz.1, hz.2⟩) fun z' st2 y0 y1 y2 y3 => ⟨e2.trans y0, y1, y2, y3⟩
        · rw [if_neg q]
          exact wp_h1 C hk2 oc n1 (fun z' st2 hz => ⟨e2.trans hz.1, hz.2⟩) fun z' st2 y0 y1 y2 y3 => ⟨e2.trans y0, y1, y2, y3⟩
      · rintro c st' ⟨e2, c1, oc, n1⟩
        exact ⟨e2, .inr ⟨c1, oc, n1⟩⟩
      · rintro ⟨r2, na2, nb2, out2, mg2, ac2, bc2⟩ st2 ⟨e2, hor⟩
        dsimp only at hor ⊢
        rcases hor with ⟨R, hR, hres⟩ | ⟨hr, o2, hn2⟩
        · subst hR
          exact wpS_pure (hd _ _ (e1.trans e2) ⟨R, rfl, hres⟩)
        · subst hr
          dsimp only
          exact wpS_bind (wp_sGal fun st3 e3 => wpS_pure (hy _ _ ((e1.trans e2).trans e3) rfl o2 hn2))
theorem wp_mHi (C : Cxh a b) {st : SortSt} {Q : Array Keyed → SortSt → Prop} (hk : kindOf st = oneType') (ha : 0 < a.size) (hb : 0 < b.size) (h0 : ∀ y ∈ b.toList, ky y ≤ K a (a.size - 1))
    (h : ∀ R st', Sm st st' → Res a b R → Q R st') : wpS (model prog w) A E s (mHi a b) Q st := by
  rw [mHi_eq]
  refine wpS_bind (wpS_lift (wpAny_rule ⟨rfl, ?_⟩))
  refine wpS_bind (wp_el (by omega) ?_)
  have hl : a.toList.reverse.length = a.size := by simp
  have m0 := Mg.start (r := gE) (a := b.toList.reverse) (b := a.toList.reverse) (by omega) (fun y hy => by
    have := h0 y (List.mem_reverse.mp hy)
    rw [K_eq (by omega)] at this
    unfold gE
    simpa using this) (srt_rev C.sa)
  have ea : a.toList.reverse[0] = a[a.size - 1]'(by omega) := by simp
  have m : Mh a b #[a[a.size - 1]'(by omega)] (a.size - 1) b.size := by
    unfold Mh
    rw [show b.size - b.size = 0 by omega, show a.size - (a.size - 1) = 1 by omega, ← ea]
    exact m0
  by_cases q : a.size - 1 = 0
  · rw [if_pos (by simpa using q)]
    exact wpS_pure (h _ _ (Sm.refl _) (resA0 C m q (Nat.le_refl _)))
  rw [if_neg (by simpa using q)]
  by_cases q2 : b.size = 1
  · rw [if_pos (by simpa using q2)]
    exact wpS_pure (h _ _ (Sm.refl _) (resB1 C m q2 (Nat.le_refl _) (by omega)))
  rw [if_neg (by simpa using q2)]
  refine wpS_bind (wpS_get ?_)
  refine wpS_bind (wpS_mono (wpS_forRange (fun x (c : T4) st' => Sm st st' ∧ c.1 = none ∧ Okh a b c.2.2.2.1 c.2.1 c.2.2.1 ∧ x + 1 + c.2.1 + c.2.2.1 ≤ a.size + b.size) (Q := fun (c : T4) st' => Sm st st' ∧ ∃ R, c.1 = some R ∧ Res a b R) ?_ ?_ ⟨Sm.refl _, rfl, ⟨m, by show 0 < a.size - 1; omega, by show a.size - 1 ≤ a.size; omega, by show 1 < b.size; omega, Nat.le_refl _⟩, by show 0 + 1 + (a.size - 1) + b.size ≤ _; omega⟩) ?_)
  · rintro x c st' _ hx ⟨e1, c1, oc, n1⟩
    exact wp_oH C (e1.k.trans hk) oc (n0 := x + 1 + 1) (by omega) (fun z' st2 e2 hz => ⟨e1.trans e2, hz⟩) fun z' st2 e2 y1 y2 y3 => ⟨e1.trans e2, y1, y2, y3⟩
  · rintro c st' ⟨e1, c1, oc, n1⟩
    have := oc.a1
    have := oc.b1
    omega
  · rintro ⟨r1, c⟩ st' ⟨e1, R, hR, hres⟩
    dsimp only at hR
    subst hR
    exact wpS_pure (h _ _ e1 hres)
end
end Sq
namespace Sq
open PySem PyProof PyProof.Rows
noncomputable abbrev putAll (R : List Keyed) (sa : Nat) (xs : Array Keyed) : Array Keyed := R.zipIdx.foldl (fun a (p, j) => a.setIfInBounds (sa + j) p) xs
theorem mAt_eq (i : Nat) : mergeAt' i = (do
  let s ← get
  let (some (sa, na, power), some (sb, nb, _)) := ((pendingOf s)[i]?, (pendingOf s)[i + 1]?)
    | unsupported "internal:list.sort.pending"
  set (setPending s (((pendingOf s).setIfInBounds i (sa, na + nb, power)).eraseIdxIfInBounds (i + 1)))
  let some k ← gal false (← elem' (arrOf s) sb) (arrOf s) sa na 0 | return false
  let (sa, na) := (sa + k, na - k)
  if na == 0 then
    return true
  let some nb ← gal true (← elem' (arrOf s) (sa + na - 1)) (arrOf s) sb nb (nb - 1) | return false
  if nb == 0 then
    return true
  let merged ← if na ≤ nb then mLo ((arrOf s).extract sa sb) ((arrOf s).extract sb (sb + nb)) else mHi ((arrOf s).extract sa sb) ((arrOf s).extract sb (sb + nb))
  modify fun s => setArr s (putAll merged.toList sa (arrOf s))
  return (failedOf (← get)).isNone) := rfl
theorem put_l : ∀ (R : List Keyed) (sa j0 : Nat) (xs : Array Keyed), sa + j0 + R.length ≤ xs.size → ((R.zipIdx j0).foldl (fun (a : Array Keyed) (q : Keyed × Nat) => a.setIfInBounds (sa + q.2) q.1) xs).toList = xs.toList.take (sa + j0) ++ R ++ xs.toList.drop (sa + j0 + R.length)
  | [], sa, j0, xs, _ => by simp
  | x :: R, sa, j0, xs, h => by
    rw [List.length_cons] at h
    have hl : xs.toList.length = xs.size := by simp
    rw [List.zipIdx_cons, List.foldl_cons, put_l R sa (j0 + 1) _ (by rw [Array.size_setIfInBounds]; omega), Array.toList_setIfInBounds]
    dsimp only
    rw [List.length_cons, show sa + (j0 + 1) = sa + j0 + 1 by omega, List.take_set, List.drop_set, if_pos (by omega), List.take_add_one, List.getElem?_eq_getElem (by omega)]
    have e : (xs.toList.take (sa + j0) ++ [xs.toList[sa + j0]]).set (sa + j0) x = xs.toList.take (sa + j0) ++ [x] := by
      rw [List.set_append_right _ _ (by rw [List.length_take]; omega)]
      congr 1
      rw [List.length_take, show sa + j0 - min (sa + j0) xs.toList.length = 0 by omega]
      rfl
    show (xs.toList.take (sa + j0) ++ [xs.toList[sa + j0]]).set (sa + j0) x ++ R ++ _ = _
    rw [e, show sa + j0 + 1 + R.length = sa + j0 + (R.length + 1) by omega]
    simp
theorem asc_of {xs : Array Keyed} (h : Srt (· ≤ ·) xs.toList) : Asc xs 0 xs.size := fun i j _ hij hj => srtK h hij (by omega)
theorem srt_of {xs : Array Keyed} {lo n : Nat} (h : Asc xs lo n) (hn : lo + n ≤ xs.size) : Srt (· ≤ ·) ((xs.toList.drop lo).take n) := by
  refine List.pairwise_iff_getElem.mpr fun i j hi hj hij => ?_
  rw [List.length_take, List.length_drop] at hi hj
  have hl : xs.toList.length = xs.size := by simp
  have := h (lo + i) (lo + j) (by omega) (by omega) (by omega)
  rw [kl (by omega), kl (by omega)] at this
  rw [List.getElem_take, List.getElem_take, List.getElem_drop, List.getElem_drop]
  exact this
theorem mem_seg {xs : Array Keyed} {lo n : Nat} (hn : lo + n ≤ xs.size) {y : Keyed} (hy : y ∈ (xs.toList.drop lo).take n) : ∃ j, lo ≤ j ∧ j < lo + n ∧ ky y = K xs j := by
  obtain ⟨j, hj, e⟩ := List.getElem_of_mem hy
  rw [List.length_take, List.length_drop] at hj
  have hl : xs.toList.length = xs.size := by simp
  refine ⟨lo + j, by omega, by omega, ?_⟩
  rw [← e, List.getElem_take, List.getElem_drop, kl (by omega)]
theorem ext_seg (xs : Array Keyed) (lo n : Nat) : (xs.extract lo (lo + n)).toList = (xs.toList.drop lo).take n := by
  rw [Array.toList_extract]
  unfold List.extract
  rw [show lo + n - lo = n by omega]
theorem int_ext {xs : Array Keyed} (h : IntKeys xs) (lo hi : Nat) : IntKeys (xs.extract lo hi) := fun q hq => by
  rw [Array.toList_extract] at hq
  unfold List.extract at hq
  exact h q (List.mem_of_mem_drop (List.mem_of_mem_take hq))
section
variable {prog : Program} {w : World} {A : Around} {E : Value → Shared → Prop} {s : Shared} {a₀ : Array Keyed}
theorem wpS_set {st st' : SortSt} {Q : Unit → SortSt → Prop} {M : Model} (h : Q () st') : wpS M A E s (set st' : StateT SortSt Sem Unit) Q st := by
  have : (set st' : StateT SortSt Sem Unit) = modify fun _ => st' := rfl
  rw [this]
  exact wpS_modify h
theorem wp_mAt {st : SortSt} {n m pw : Nat} {Q : Bool → SortSt → Prop} (h0 : IntKeys a₀) (hB : Bse a₀ #[(0, n, pw), (n, m, 0)] st) (hn : 0 < n) (hm : 0 < m) (hnm : n + m = a₀.size) (s1 : Asc (arrOf st) 0 n) (s2 : Asc (arrOf st) n m)
    (h : ∀ st', Bse a₀ #[(0, n + m, pw)] st' → Asc (arrOf st') 0 (n + m) → Q true st') : wpS (model prog w) A E s (mergeAt' 0) Q st := by
  rw [mAt_eq]
  have hi := hB.int h0
  have hsz := hB.size
  refine wpS_bind (wpS_get ?_)
  have p0 : (pendingOf st)[0]? = some (0, n, pw) := by rw [hB.pend]; rfl
  have p1 : (pendingOf st)[0 + 1]? = some (n, m, 0) := by rw [hB.pend]; rfl
  rw [p0, p1]
  dsimp only
  have pe : ((pendingOf st).setIfInBounds 0 (0, n + m, pw)).eraseIdxIfInBounds (0 + 1) = #[(0, n + m, pw)] := by
    rw [hB.pend]
    apply Array.toList_inj.mp
    simp [Array.eraseIdxIfInBounds]
  rw [pe]
  refine wpS_bind (wpS_set ?_)
  generalize hst1 : setPending st #[(0, n + m, pw)] = st1
  have B1 : Bse a₀ #[(0, n + m, pw)] st1 := by rw [← hst1]; exact ⟨hB.perm, hB.kind, hB.fail, rfl⟩
  have ea : arrOf st1 = arrOf st := by rw [← hst1]
  generalize hxs : arrOf st = xs at *
  have hl : xs.toList.length = xs.size := by simp
  refine wpS_bind (wp_el (by omega) ?_)
  have e1 : ky (xs[n]'(by omega)) = K xs n := (K_eq (by omega)).symm
  refine wpS_bind (wp_gal B1.kind (at_int hi (by omega)) hi (by omega) ?_ (by omega) fun k k1 k2 k3 => ?_)
  · intro i j hij hj hb
    unfold bB at hb ⊢
    simp only [Bool.false_eq_true, if_false, Bool.not_eq_true', decide_eq_false_iff_not, Int.not_lt] at hb ⊢
    exact Int.le_trans (s1 _ _ (by omega) (by omega) (by omega)) hb
  have k2' : ∀ j, j < k → K xs j ≤ K xs n := fun j hj => by
    have := k2 j hj
    unfold bB at this
    rw [e1, Nat.zero_add] at this
    simpa using this
  have k3' : ∀ j, k ≤ j → j < n → K xs n < K xs j := fun j q1 q2 => by
    have := k3 j q1 q2
    unfold bB at this
    rw [e1, Nat.zero_add] at this
    simpa using this
  dsimp only
  by_cases q : n - k = 0
  · rw [if_pos (by simpa using q)]
    refine wpS_pure (h st1 B1 ?_)
    rw [ea]
    intro i j _ hij hj
    by_cases q1 : j < n
    · exact s1 i j (by omega) hij (by omega)
    · by_cases q2 : i < n
      · exact Int.le_trans (k2' i (by omega)) (s2 n j (by omega) (by omega) (by omega))
      · exact s2 i j (by omega) hij (by omega)
  rw [if_neg (by simpa using q)]
  have en : 0 + k + (n - k) - 1 = n - 1 := by omega
  refine wpS_bind (wp_el (by omega) ?_)
  simp only [en]
  have e2 : ky (xs[n - 1]'(by omega)) = K xs (n - 1) := (K_eq (by omega)).symm
  refine wpS_bind (wp_gal B1.kind (at_int hi (by omega)) hi (by omega) ?_ (by omega) fun t t1 t2 t3 => ?_)
  · intro i j hij hj hb
    unfold bB at hb ⊢
    simp only [if_true] at hb ⊢
    have hb := of_decide_eq_true hb
    exact decide_eq_true (Int.lt_of_le_of_lt (s2 _ _ (by omega) (by omega) (by omega)) hb)
  have t2' : ∀ j, j < t → K xs (n + j) < K xs (n - 1) := fun j hj => by
    have := t2 j hj
    unfold bB at this
    rw [e2] at this
    simpa using this
  have t3' : ∀ j, t ≤ j → j < m → K xs (n - 1) ≤ K xs (n + j) := fun j q1 q2 => by
    have := t3 j q1 q2
    unfold bB at this
    rw [e2] at this
    simpa using this
  dsimp only
  by_cases q2 : t = 0
  · rw [if_pos (by simpa using q2)]
    refine wpS_pure (h st1 B1 ?_)
    rw [ea]
    intro i j _ hij hj
    by_cases q3 : j < n
    · exact s1 i j (by omega) hij (by omega)
    · by_cases q4 : i < n
      · have h5 := t3' 0 (by omega) hm
        have h6 := s1 i (n - 1) (by omega) (by omega) (by omega)
        have h7 := s2 n j (by omega) (by omega) (by omega)
        rw [Nat.add_zero] at h5
        omega
      · exact s2 i j (by omega) hij (by omega)
  rw [if_neg (by simpa using q2)]
  have ex : (xs.extract (0 + k) n).toList = (xs.toList.drop k).take (n - k) := by
    have := ext_seg xs k (n - k)
    rw [show k + (n - k) = n by omega] at this
    rw [Nat.zero_add]; exact this
  have ey : (xs.extract n (n + t)).toList = (xs.toList.drop n).take t := ext_seg xs n t
  have szx : (xs.extract (0 + k) n).size = n - k := by rw [Array.size_extract]; omega
  have szy : (xs.extract n (n + t)).size = t := by rw [Array.size_extract]; omega
  have sx : Srt (· ≤ ·) (xs.extract (0 + k) n).toList := by
    rw [ex]
    exact srt_of (fun i j q1 q2 q3 => s1 i j (by omega) q2 (by omega)) (by omega)
  have sy : Srt (· ≤ ·) (xs.extract n (n + t)).toList := by
    rw [ey]
    exact srt_of (fun i j q1 q2 q3 => s2 i j q1 q2 (by omega)) (by omega)
  have mx : ∀ y ∈ (xs.extract (0 + k) n).toList, ∃ j, k ≤ j ∧ j < n ∧ ky y = K xs j := fun y hy => by
    rw [ex] at hy
    obtain ⟨j, q1, q2, q3⟩ := mem_seg (by omega) hy
    exact ⟨j, q1, by omega, q3⟩
  have my : ∀ y ∈ (xs.extract n (n + t)).toList, ∃ j, j < t ∧ ky y = K xs (n + j) := fun y hy => by
    rw [ey] at hy
    obtain ⟨j, q1, q2, q3⟩ := mem_seg (by omega) hy
    exact ⟨j - n, by omega, by rw [q3]; congr 1; omega⟩
  have ky0 : K (xs.extract n (n + t)) 0 = K xs n := by
    rw [K_eq (by omega : 0 < (xs.extract n (n + t)).size), K_eq (by omega : n < xs.size)]
    simp
  have kxl : ∀ i (hi : i < (xs.extract (0 + k) n).toList.length), i + 1 = (xs.extract (0 + k) n).toList.length → ky (xs.extract (0 + k) n).toList[i] = K xs (n - 1) := fun i hi e => by
    have hle : (xs.extract (0 + k) n).toList.length = n - k := by rw [Array.length_toList, szx]
    rw [K_eq (by omega : n - 1 < xs.size)]
    simp only [Array.getElem_toList, Array.getElem_extract]
    congr 2
    congr 1
    omega
  have hfst : ∀ y ∈ (xs.extract (0 + k) n).toList, K (xs.extract n (n + t)) 0 ≤ ky y := fun y hy => by
    obtain ⟨j, q1, q2, q3⟩ := mx y hy
    rw [ky0, q3]
    exact Int.le_of_lt (k3' j q1 q2)
  have fin : ∀ (R : Array Keyed) (st2 : SortSt), Sm st1 st2 → Res (xs.extract (0 + k) n) (xs.extract n (n + t)) R → wpS (model prog w) A E s (do
      modify fun s => setArr s (putAll R.toList (0 + k) (arrOf s))
      return (failedOf (← get)).isNone) Q st2 := fun R st2 e3 hR => by
    refine wpS_bind (wpS_modify (wpS_bind (wpS_get ?_)))
    have hfl : failedOf st2 = none := e3.f.trans B1.fail
    have hf : (failedOf (setArr st2 (putAll R.toList (0 + k) (arrOf st2)))).isNone = true := by
      show (failedOf st2).isNone = true
      rw [hfl]; rfl
    rw [hf]
    have ha2 : arrOf st2 = xs := e3.a.trans ea
    have hRl : R.toList.length = (n - k) + t := by
      rw [hR.2.length_eq, List.length_append, Array.length_toList, Array.length_toList, szx, szy]
    have hput : (putAll R.toList (0 + k) (arrOf st2)).toList = xs.toList.take k ++ R.toList ++ xs.toList.drop (n + t) := by
      have := put_l R.toList (0 + k) 0 xs (by omega)
      rw [ha2]
      rw [show 0 + k + 0 = k by omega, show k + R.toList.length = n + t by omega] at this
      exact this
    have hperm : (putAll R.toList (0 + k) (arrOf st2)).Perm xs := by
      refine Array.perm_iff_toList_perm.mpr ?_
      rw [hput]
      have e5 : xs.toList = xs.toList.take k ++ ((xs.extract (0 + k) n).toList ++ (xs.extract n (n + t)).toList) ++ xs.toList.drop (n + t) := by
        rw [ex, ey]
        have f1 : xs.toList = xs.toList.take k ++ xs.toList.drop k := (List.take_append_drop k _).symm
        have f2 : xs.toList.drop k = (xs.toList.drop k).take (n - k) ++ xs.toList.drop n := by
          have := (List.take_append_drop (n - k) (xs.toList.drop k)).symm
          rw [List.drop_drop, show k + (n - k) = n by omega] at this
          exact this
        have f3 : xs.toList.drop n = (xs.toList.drop n).take t ++ xs.toList.drop (n + t) := by
          have := (List.take_append_drop t (xs.toList.drop n)).symm
          rw [List.drop_drop] at this
          exact this
        calc xs.toList = xs.toList.take k ++ xs.toList.drop k := f1
          _ = xs.toList.take k ++ ((xs.toList.drop k).take (n - k) ++ xs.toList.drop n) := by rw [← f2]
          _ = xs.toList.take k ++ ((xs.toList.drop k).take (n - k) ++ ((xs.toList.drop n).take t ++ xs.toList.drop (n + t))) := by rw [← f3]
          _ = _ := by simp only [List.append_assoc]
      have p5 : (xs.toList.take k ++ R.toList ++ xs.toList.drop (n + t)).Perm (xs.toList.take k ++ ((xs.extract (0 + k) n).toList ++ (xs.extract n (n + t)).toList) ++ xs.toList.drop (n + t)) := List.Perm.append_right _ (List.Perm.append_left _ hR.2)
      rw [← e5] at p5
      exact p5
    have B2 : Bse a₀ #[(0, n + m, pw)] (setArr st2 (putAll R.toList (0 + k) (arrOf st2))) := ⟨hperm.trans (by rw [← ea]; exact B1.perm), e3.k.trans B1.kind, hfl, e3.p.trans B1.pend⟩
    refine wpS_pure (h _ B2 ?_)
    show Asc (putAll R.toList (0 + k) (arrOf st2)) 0 (n + m)
    have hsrt : Srt (· ≤ ·) (putAll R.toList (0 + k) (arrOf st2)).toList := by
      rw [hput]
      have memR : ∀ y ∈ R.toList, (∃ j, k ≤ j ∧ j < n ∧ ky y = K xs j) ∨ ∃ j, j < t ∧ ky y = K xs (n + j) := fun y hy => by
        rcases List.mem_append.mp (hR.2.mem_iff.mp hy) with q | q
        · exact .inl (mx y q)
        · exact .inr (my y q)
      have memP : ∀ y ∈ xs.toList.take k, ∃ j, j < k ∧ ky y = K xs j := fun y hy => by
        have hy' : y ∈ (xs.toList.drop 0).take k := by rw [List.drop_zero]; exact hy
        obtain ⟨j, q1, q2, q3⟩ := mem_seg (by omega) hy'
        exact ⟨j, by omega, q3⟩
      have memS : ∀ y ∈ xs.toList.drop (n + t), ∃ j, t ≤ j ∧ j < m ∧ ky y = K xs (n + j) := fun y hy => by
        have hy' : y ∈ (xs.toList.drop (n + t)).take (m - t) := by
          rw [List.take_of_length_le (by rw [List.length_drop]; omega)]; exact hy
        obtain ⟨j, q1, q2, q3⟩ := mem_seg (by omega) hy'
        exact ⟨j - n, by omega, by omega, by rw [q3]; congr 1; omega⟩
      have sP : Srt (· ≤ ·) (xs.toList.take k) := by
        have := srt_of (xs := xs) (lo := 0) (n := k) (fun i j q1 q2 q3 => s1 i j q1 q2 (by omega)) (by omega)
        rwa [List.drop_zero] at this
      have sS : Srt (· ≤ ·) (xs.toList.drop (n + t)) := by
        have := srt_of (xs := xs) (lo := n + t) (n := m - t) (fun i j q1 q2 q3 => s2 i j (by omega) q2 (by omega)) (by omega)
        rwa [List.take_of_length_le (by rw [List.length_drop]; omega)] at this
      refine List.pairwise_append.mpr ⟨List.pairwise_append.mpr ⟨sP, hR.1, fun x hx y hy => ?_⟩, sS, fun x hx y hy => ?_⟩
      · obtain ⟨i, i1, i2⟩ := memP x hx
        rw [i2]
        rcases memR y hy with ⟨j, j1, j2, j3⟩ | ⟨j, j1, j3⟩
        · rw [j3]; exact s1 i j (by omega) (by omega) (by omega)
        · rw [j3]; exact Int.le_trans (k2' i i1) (s2 n (n + j) (by omega) (by omega) (by omega))
      · obtain ⟨j, j1, j2, j3⟩ := memS y hy
        rw [j3]
        rcases List.mem_append.mp hx with hx | hx
        · obtain ⟨i, i1, i2⟩ := memP x hx
          rw [i2]
          exact Int.le_trans (k2' i i1) (s2 n (n + j) (by omega) (by omega) (by omega))
        · rcases memR x hx with ⟨i, i1, i2, i3⟩ | ⟨i, i1, i3⟩
          · rw [i3]
            exact Int.le_trans (s1 i (n - 1) (by omega) (by omega) (by omega)) (t3' j j1 j2)
          · rw [i3]; exact s2 (n + i) (n + j) (by omega) (by omega) (by omega)
    have hps : (putAll R.toList (0 + k) (arrOf st2)).size = n + m := by rw [hperm.size_eq, hsz]; omega
    rw [← hps]
    exact asc_of hsrt
  have ix := int_ext hi (0 + k) n
  have iy := int_ext hi n (n + t)
  by_cases q3 : n - k ≤ t
  · rw [if_pos q3]
    refine wpS_bind (wp_mLo ⟨ix, iy, sx, sy, fun y hy i hi e => ?_⟩ B1.kind (by omega) (by omega) hfst fin)
    obtain ⟨j, j1, j3⟩ := my y hy
    rw [kxl i hi e, j3]
    exact Int.le_of_lt (t2' j j1)
  · rw [if_neg q3]
    refine wpS_bind (wp_mHi ⟨ix, iy, sx, sy, hfst⟩ B1.kind (by omega) (by omega) (fun y hy => ?_) fin)
    obtain ⟨j, j1, j3⟩ := my y hy
    have e9 : K (xs.extract (0 + k) n) ((xs.extract (0 + k) n).size - 1) = K xs (n - 1) := by
      rw [kl (by omega)]
      exact kxl _ _ (by rw [Array.length_toList, szx]; omega)
    rw [e9, j3]
    exact Int.le_of_lt (t2' j j1)
end
end Sq
namespace Sq
open PySem PyProof PyProof.Rows
theorem min64 : minRun' 64 64 0 = 32 := by decide +kernel
section
variable {prog : Program} {w : World} {A : Around} {E : Value → Shared → Prop} {s : Shared} {a₀ : Array Keyed}
noncomputable def Two (a₀ : Array Keyed) (st : SortSt) : Prop := ∃ n pw, 0 < n ∧ n < 64 ∧ Bse a₀ #[(0, n, pw), (n, 64 - n, 0)] st ∧ Asc (arrOf st) 0 n ∧ Asc (arrOf st) n (64 - n)
noncomputable def One (a₀ : Array Keyed) (st : SortSt) : Prop := ∃ pw, Bse a₀ #[(0, 64, pw)] st ∧ Asc (arrOf st) 0 64
theorem wp_runs {st : SortSt} {Q : Unit → SortSt → Prop} (h0 : IntKeys a₀) (hd : Dis a₀) (h64 : a₀.size = 64) (hB : Bse a₀ #[] st)
    (h : ∀ st', (arrOf st').Perm a₀ → failedOf st' = none → SortedTo (arrOf st') a₀.size → Q () st') : wpS (model prog w) A E s sortRuns' Q st := by
  rw [sortRuns'_eq]
  refine wpS_bind (wpS_get ?_)
  have hsz : (arrOf st).size = 64 := hB.size.trans h64
  dsimp only
  rw [hsz]
  simp only [min64]
  refine wpS_bind (wpS_mono (wpS_forRange (fun x c st' => (x = 0 ∧ c = (none, 0) ∧ Bse a₀ #[] st') ∨ (x = 1 ∧ ∃ n, 32 ≤ n ∧ n < 64 ∧ c = (none, n) ∧ Bse a₀ #[(0, n, 0)] st' ∧ Asc (arrOf st') 0 n) ∨ (1 ≤ x ∧ c = (none, 64) ∧ (One a₀ st' ∨ Two a₀ st'))) (Q := fun c st' => c = (none, 64) ∧ (One a₀ st' ∨ Two a₀ st')) ?_ ?_ (.inl ⟨rfl, rfl, hB⟩)) ?_)
  · rintro x c st1 _ hx (⟨rfl, rfl, B1⟩ | ⟨rfl, n, n1, n2, rfl, B1, s1⟩ | ⟨hx1, rfl, hD⟩)
    · dsimp only
      rw [if_neg (by omega)]
      refine wpS_bind (wp_cr h0 hd (by omega) (by omega) B1 fun m st2 B2 _ m1 m2 s2 => ?_)
      dsimp only
      have fin : ∀ (n : Nat) (st3 : SortSt), 32 ≤ n → n ≤ 64 → Bse a₀ #[] st3 → Asc (arrOf st3) 0 n → (n = 64 ∧ One a₀ (setPending st3 ((pendingOf st3).push (0, n, 0)))) ∨ (n < 64 ∧ Bse a₀ #[(0, n, 0)] (setPending st3 ((pendingOf st3).push (0, n, 0))) ∧ Asc (arrOf (setPending st3 ((pendingOf st3).push (0, n, 0)))) 0 n) := fun n st3 a1 a2 B3 s3 => by
        have B4 : Bse a₀ #[(0, n, 0)] (setPending st3 ((pendingOf st3).push (0, n, 0))) := ⟨B3.perm, B3.kind, B3.fail, by show (pendingOf st3).push _ = _; rw [B3.pend]; rfl⟩
        by_cases q : n = 64
        · subst q
          exact .inl ⟨rfl, 0, B4, s3⟩
        · exact .inr ⟨by omega, B4, s3⟩
      by_cases hlt : m < 32
      · rw [if_pos hlt]
        refine wpS_bind (wpS_lift (wpAny_rule ⟨rfl, ?_⟩))
        rw [show min (64 - 0) 32 = 32 by omega]
        refine wpS_bind (wp_bs h0 (by omega) m1 (by omega) B2 s2 fun st3 B3 _ s3 => ?_)
        simp only [Bool.not_true, Bool.false_eq_true, if_false]
        refine wpS_bind (wpS_get ?_)
        have hb : (pendingOf st3).back? = none := by rw [B3.pend]; rfl
        rw [hb]
        dsimp only
        refine wpS_bind (wpS_modify (wpS_pure ?_))
        rcases fin 32 st3 (by omega) (by omega) B3 s3 with ⟨q, _⟩ | ⟨q1, q2, q3⟩
        · omega
        · exact .inr (.inl ⟨by simp, 32, by omega, q1, by simp, q2, q3⟩)
      · rw [if_neg hlt]
        refine wpS_bind (wpS_get ?_)
        have hb : (pendingOf st2).back? = none := by rw [B2.pend]; rfl
        rw [hb]
        dsimp only
        refine wpS_bind (wpS_modify (wpS_pure ?_))
        rcases fin m st2 (by omega) (by omega) B2 s2 with ⟨q, q1⟩ | ⟨q1, q2, q3⟩
        · exact .inr (.inr ⟨by omega, by rw [q], .inl q1⟩)
        · exact .inr (.inl ⟨by simp, m, by omega, q1, by simp, q2, q3⟩)
    · dsimp only
      rw [if_neg (by omega)]
      refine wpS_bind (wp_cr h0 hd (by omega) (by omega) B1 fun m st2 B2 p2 m1 m2 s2 => ?_)
      dsimp only
      have s12 : Asc (arrOf st2) 0 n := fun i j q1 q2 q3 => by rw [p2 i (by omega), p2 j (by omega)]; exact s1 i j q1 q2 q3
      have fin : ∀ (pw : Nat) (st3 : SortSt), Bse a₀ #[(0, n, 0)] st3 → Asc (arrOf st3) 0 n → Asc (arrOf st3) n (64 - n) → ∀ (st4 : SortSt), st4 = setPending st3 ((pendingOf st3).modify ((pendingOf st3).size - 1) fun (a, b, _) => (a, b, pw)) → Two a₀ (setPending st4 ((pendingOf st4).push (n, 64 - n, 0))) := fun pw st3 B3 a1 a2 st4 e4 => by
        refine ⟨n, pw, by omega, n2, ⟨?_, ?_, ?_, ?_⟩, ?_, ?_⟩
        · rw [e4]; exact B3.perm
        · rw [e4]; exact B3.kind
        · rw [e4]; exact B3.fail
        · show (pendingOf st4).push _ = _
          rw [e4]
          show ((pendingOf st3).modify ((pendingOf st3).size - 1) fun (a, b, _) => (a, b, pw)).push _ = _
          rw [B3.pend]
          apply Array.toList_inj.mp
          simp
        · rw [e4]; exact a1
        · rw [e4]; exact a2
      have brk : ∀ (st3 : SortSt) (g : Nat → Option Unit × Unit → StateT SortSt Sem (ForInStep (Option Unit × Unit))) (Q' : Option Unit × Unit → SortSt → Prop), (∀ x, wpS (model prog w) A E s (g x (none, ())) (fun r st' => r = .done (none, ()) ∧ st' = st3) st3) → Q' (none, ()) st3 → wpS (model prog w) A E s (forIn [0:64] (none, ()) g) Q' st3 := fun st3 g Q' hg hq => by
        refine wpS_mono (wpS_forRange (fun x c st' => x = 0 ∧ c = (none, ()) ∧ st' = st3) (Q := fun c st' => c = (none, ()) ∧ st' = st3) ?_ ?_ ⟨rfl, rfl, rfl⟩) ?_
        · rintro x c st' _ _ ⟨rfl, rfl, rfl⟩
          refine wpS_mono (hg 0) ?_
          rintro r st' ⟨rfl, rfl⟩
          exact ⟨rfl, rfl⟩
        · rintro c st' ⟨hx, _, _⟩
          omega
        · rintro c st' ⟨rfl, rfl⟩
          exact hq
      have rest : ∀ (st3 : SortSt), Bse a₀ #[(0, n, 0)] st3 → Asc (arrOf st3) 0 n → Asc (arrOf st3) n (64 - n) → (pendingOf st3).back? = some (0, n, 0) := fun st3 B3 _ _ => by rw [B3.pend]; rfl
      by_cases hlt : m < 32
      · rw [if_pos hlt]
        refine wpS_bind (wpS_lift (wpAny_rule ⟨rfl, ?_⟩))
        rw [show min (64 - n) 32 = 64 - n by omega]
        refine wpS_bind (wp_bs h0 (by omega) m1 m2 B2 s2 fun st3 B3 p3 s3 => ?_)
        simp only [Bool.not_true, Bool.false_eq_true, if_false]
        have s13 : Asc (arrOf st3) 0 n := fun i j q1 q2 q3 => by rw [p3 i (by omega), p3 j (by omega)]; exact s12 i j q1 q2 q3
        refine wpS_bind (wpS_get ?_)
        rw [rest st3 B3 s13 s3]
        dsimp only
        refine wpS_bind (brk st3 _ _ (fun x => ?_) ?_)
        · refine wpS_bind (wpS_get ?_)
          have hb2 : (pendingOf st3).size = 1 := by rw [B3.pend]; rfl
          rw [if_neg (by omega)]
          exact wpS_pure ⟨rfl, rfl⟩
        · dsimp only
          refine wpS_bind (wpS_modify (wpS_bind (wpS_modify (wpS_pure (.inr (.inr ⟨by omega, by rw [show n + (64 - n) = 64 by omega], .inr (fin _ st3 B3 s13 s3 _ rfl)⟩))))))
      · rw [if_neg hlt]
        have em : m = 64 - n := by omega
        subst em
        refine wpS_bind (wpS_get ?_)
        rw [rest st2 B2 s12 s2]
        dsimp only
        refine wpS_bind (brk st2 _ _ (fun x => ?_) ?_)
        · refine wpS_bind (wpS_get ?_)
          have hb2 : (pendingOf st2).size = 1 := by rw [B2.pend]; rfl
          rw [if_neg (by omega)]
          exact wpS_pure ⟨rfl, rfl⟩
        · dsimp only
          refine wpS_bind (wpS_modify (wpS_bind (wpS_modify (wpS_pure (.inr (.inr ⟨by omega, by rw [show n + (64 - n) = 64 by omega], .inr (fin _ st2 B2 s12 s2 _ rfl)⟩))))))
    · dsimp only
      rw [if_pos (by omega)]
      exact wpS_pure ⟨rfl, hD⟩
  · rintro c st1 (⟨hx, _, _⟩ | ⟨hx, _⟩ | ⟨_, hc, hD⟩)
    · omega
    · omega
    · exact ⟨hc, hD⟩
  · rintro c st1 ⟨rfl, hD⟩
    dsimp only
    refine wpS_bind (wpS_mono (wpS_forRange (fun x c st' => c = (none, ()) ∧ (One a₀ st' ∨ (x = 0 ∧ Two a₀ st'))) (Q := fun c st' => c = (none, ()) ∧ One a₀ st') ?_ ?_ ⟨rfl, hD.imp id fun q => ⟨rfl, q⟩⟩) ?_)
    · rintro x c st2 _ hx ⟨rfl, hO | ⟨rfl, n, pw, n1, n2, B2, a1, a2⟩⟩
      · refine wpS_bind (wpS_get ?_)
        obtain ⟨pw, B2, s2⟩ := id hO
        rw [if_pos (by rw [B2.pend]; exact Nat.le_refl 1)]
        exact wpS_pure ⟨rfl, hO⟩
      · refine wpS_bind (wpS_get ?_)
        have hs2 : (pendingOf st2).size = 2 := by rw [B2.pend]; rfl
        rw [if_neg (by omega)]
        rw [hs2]
        simp only [Nat.sub_self, Nat.lt_irrefl, gt_iff_lt, if_false, Option.any_none, Bool.false_eq_true]
        refine wpS_bind (wp_mAt h0 B2 n1 (by omega) (by omega) a1 a2 fun st3 B3 s3 => ?_)
        rw [show n + (64 - n) = 64 by omega] at B3 s3
        simp only [Bool.not_true, Bool.false_eq_true, if_false]
        exact wpS_pure ⟨rfl, .inl ⟨pw, B3, s3⟩⟩
    · rintro c st2 ⟨hc, hO | ⟨hx, _⟩⟩
      · exact ⟨hc, hO⟩
      · omega
    · rintro c st2 ⟨rfl, pw, B2, s2⟩
      exact wpS_pure (h st2 B2.perm B2.fail fun i j hij hj => s2 i j (by omega) hij (by omega))
end
end Sq
namespace Sq
open PySem PyProof PyProof.Rows
section
variable {prog : Program} {w : World} {A : Around} {E : Value → Shared → Prop} {s : Shared}
theorem dis_pairs {vs : List Value} {ns : List Int} (hI : IntsAre vs ns) (hn : ns.Nodup) : Dis (pairsOf vs) := by
  unfold Dis
  rw [pairsOf_toList]
  have : (vs.zip vs).map ky = vs.map numOf := by
    have h2 : ∀ l : List Value, (l.zip l).map ky = l.map numOf := fun l => by
      induction l with
      | nil => rfl
      | cons v l ih => rw [List.zip_cons_cons, List.map_cons, ih, List.map_cons]
    exact h2 vs
  rw [this, hI.nums]
  exact hn
theorem sort64 {a : Addr} {vs : List Value} {ns : List Int} {n : Nat} {P : Fin → Shared → Prop} (ho : s.heap.get? a = some (seqObj "list" vs.toArray n)) (hI : IntsAre vs ns) (hn : ns.Nodup) (h64 : vs.length = 64)
    (h : ∀ (out : Array Value) (ns' : List Int), IntsAre out.toList ns' → ns'.Perm ns → ns'.Pairwise (· ≤ ·) → P (.done (.ret .none)) { s with heap := sortedHeap s.heap a vs out }) : wpAny (model prog w) A (Builtin.«list.sort» ⟨[.ref a], []⟩) P E s := by
  rw [list_sort_plain]
  have ha := Heap.lt_size ho
  refine wpAny_bind (listItems_at ho rfl (wpAny_bind (listUpdate_at ho rfl ?_)))
  have ⟨ep, ho1⟩ : ∃ ep, (s.heap.update a (Obj.mapSeq fun _ => #[])).get? a = some (seqObj "list" #[] ep) := ⟨_, get?_update_seq ho fun _ => #[]⟩
  refine wpAny_bind (seqEpoch_at ho1 rfl (wpAny_bind (wpAny_newTuple (wpAny_bind (wpAny_newList (wpAny_holding ?_))))))
  generalize hh1 : s.heap.update a (Obj.mapSeq fun _ => #[]) = H1 at ho1
  have sz1 : a < H1.objs.size := Heap.lt_size ho1
  have ho6 : ((H1.push (seqObj "tuple" vs.toArray 0)).push (seqObj "list" #[] 0)).get? a = some (seqObj "list" #[] ep) := by
    have n1 : a ≠ (H1.push (seqObj "tuple" vs.toArray 0)).objs.size := by rw [size_push']; exact Nat.ne_of_lt (Nat.lt_succ_of_lt sz1)
    rw [Heap.get?_push_ne _ _ _ n1, Heap.get?_push_ne _ _ _ (Nat.ne_of_lt sz1)]
    exact ho1
  show wpAny (model prog w) A _ P E { s with heap := (H1.push (seqObj "tuple" vs.toArray 0)).push (seqObj "list" #[] 0) }
  have e64 : vs.toArray.size = 64 := by simpa using h64
  have nlt : ¬ vs.toArray.size < 2 := by omega
  dsimp only
  rw [if_neg nlt, if_neg nlt]
  obtain ⟨u, u', r, rfl⟩ : ∃ u u' r, vs = u :: u' :: r := by
    match vs, h64 with
    | u :: u' :: r, _ => exact ⟨u, u', r, rfl⟩
  generalize hvs : u :: u' :: r = vs at *
  have hkk : keyKind' vs.toArray = pure oneType' := by subst hvs; exact keyKind_ints hI
  rw [hkk]
  refine wpAny_bind (wpAny_pure ?_)
  refine wpAny_bind (wpAny_mono (wp_runs (a₀ := pairsOf vs) (st := SortSt.mk' oneType' (vs.toArray.zip vs.toArray) #[] 7 none) (Q := fun _ st' => (arrOf st').Perm (pairsOf vs) ∧ failedOf st' = none ∧ SortedTo (arrOf st') (pairsOf vs).size) hI.intKeys (dis_pairs hI hn) (by rw [pairsOf_size]; exact h64) ⟨Array.Perm.refl _, rfl, rfl, rfl⟩ fun st' q1 q2 q3 => ⟨q1, q2, q3⟩) ?_ fun _ _ e => e)
  rintro ⟨⟨⟩, st'⟩ s' ⟨rfl, hp, hf, hs⟩
  dsimp only
  refine wpAny_bind (seqEpoch_at ho6 rfl ?_)
  have szo : ((arrOf st').map (·.2)).size = 64 := by rw [Array.size_map, hp.size_eq, pairsOf_size]; exact h64
  refine wpAny_bind (listUpdate_at ho6 rfl ?_ (hsz2 := by show ((arrOf st').map (·.2)).size ≤ _; rw [szo, sizeLine_eq]; omega))
  rw [hf]
  simp only [bne_self_eq_false, Bool.false_eq_true, if_false]
  obtain ⟨ms, m1, m2, m3⟩ := sorted_out hI hp hs
  have := h _ ms m1 m2 m3
  unfold sortedHeap at this
  rw [hh1] at this
  exact wpAny_pure this
theorem sort_le {a : Addr} {vs : List Value} {ns : List Int} {n : Nat} {P : Fin → Shared → Prop} (ho : s.heap.get? a = some (seqObj "list" vs.toArray n)) (hI : IntsAre vs ns) (hn : ns.Nodup) (h64 : vs.length ≤ 64)
    (h : ∀ (out : Array Value) (ns' : List Int), IntsAre out.toList ns' → ns'.Perm ns → ns'.Pairwise (· ≤ ·) → P (.done (.ret .none)) { s with heap := sortedHeap s.heap a vs out }) : wpAny (model prog w) A (Builtin.«list.sort» ⟨[.ref a], []⟩) P E s := by
  by_cases q : vs.length = 64
  · exact sort64 ho hI hn q h
  · exact list_sort_tree ho hI (by omega) h
end
end Sq
namespace L2
open PySem PySem.Spec PyProof.Rows
theorem fm_eq (ns : List Int) : fm (fun i => ns.getD i 0) ns.length = ns.foldl addK [] := by
  unfold fm
  congr 1
  apply List.ext_getElem
  · simp
  · intro i h1 h2
    simp [List.getD_eq_getElem?_getD, List.getElem?_eq_getElem h2]
section
variable {P : Program} {w : World} {A : Around} {E : Value → Shared → Prop} {s : Shared}
theorem sorted_set {S : Addr} {ks : List Int} {Q : Value → Shared → Prop} (hh : A.handled = none) (hS : SK P w s.heap S (ledOf w) ks) (h64 : ks.length ≤ 64) (hnd : ks.Nodup)
    (h : ∀ (out : Array Value) (ms : List Int) (h' : Heap) (tk : Nat) (d : Drawn) (L : Addr) (e : Nat), IntsAre out.toList ms → ms.Perm ks → ms.Pairwise (· ≤ ·) → (∀ b o, s.heap.get? b = some o → h'.get? b = some o) → s.heap.objs.size ≤ L → h'.get? L = some (seqObj "list" out e) → Q (.ref L) { s with heap := h', toks := tk, drawn := d }) :
    wpAny (model P w) A (call (.builtin "sorted") [.ref S]) Q E s := by
  refine Calls.call_function_entry kind_sorted plain_sorted entry_sorted (args_sorted1 _) ?_
  unfold Builtin.«sorted»
  refine wpAny_bind (m := checkCount "sorted" 1 1 _) (wpAny_pure ?_)
  refine wpAny_bind (collect_set (A := A.in1) hh hS fun vs h' tk d hv kp hge => ?_)
  obtain ⟨ns, hI, hp⟩ := hv
  have hlen : vs.length = ns.length := by
    clear hp
    induction hI with
    | nil => rfl
    | cons n t hr ih => simp [ih]
  refine wpAny_bind (wpAny_newList (hsz := by have := hp.length_eq; rw [sizeLine_eq]; simp; omega) ?_)
  have hoL : (h'.push (seqObj "list" vs.toArray 0)).get? h'.objs.size = some (seqObj "list" vs.toArray 0) := Heap.get?_push_size _ rfl
  refine wpAny_bind (wpAny_holding (wpAny_call_entry slot_list_sort ⟨_, hoL, rfl⟩ entry_list_sort (Sq.sort_le hoL hI (hp.nodup_iff.mpr hnd) (by rw [hlen, hp.length_eq]; exact h64) fun out ms a1 a2 a3 => ⟨_, rfl, ?_⟩) (args_list_sort _)))
  obtain ⟨e, he⟩ := sortedHeap_at (out := out) hoL
  refine wpAny_pure ⟨_, rfl, h out ms _ tk d h'.objs.size e a1 (a2.trans hp) a3 (fun b o eb => ?_) hge he⟩
  have hb := kp b o eb
  have hlt := Heap.lt_size hb
  rw [sortedHeap_old (Nat.ne_of_lt hlt) (by rw [push_size]; exact Nat.lt_succ_of_lt hlt)]
  exact Heap.get?_push_of_some _ hb
end
section
variable {X : Cx} {e : Expr} {fs : Ev → Option (List Dat)}
theorem Inv.drawn {pins : List (Addr × Obj)} {σ : St} {H : Hp} {s : Shared} (d : Drawn) (I : Inv X pins σ H s) : Inv X pins σ H { s with drawn := d } := ⟨I.ok, I.os, I.bare, I.base, I.loc, I.cell, I.free, I.freeC, I.pin, I.hok, I.len⟩
noncomputable def dSS (fs : Ev → Option (List Dat)) : Ev → Option (List Dat) := fun env => match fs env with
  | some [.lst xs] => (intsD xs).bind fun ns => if ns.length ≤ 64 then some ((sortI (ns.foldl addK [])).map .int) else none
  | _ => none
theorem addK_nd {ks : List Int} (h : ks.Nodup) (k : Int) : (addK ks k).Nodup := by
  unfold addK
  split
  · exact h
  · rename_i hk
    exact List.nodup_append.mpr ⟨h, List.nodup_cons.mpr ⟨by simp, List.nodup_nil⟩, fun a ha b hb => by
      rw [List.mem_singleton.mp hb]; intro e; exact hk (e ▸ ha)⟩
theorem foldl_addK_nd : ∀ (ns ks : List Int), ks.Nodup → (ns.foldl addK ks).Nodup
  | [], _, h => h
  | n :: ns, ks, h => foldl_addK_nd ns _ (addK_nd h n)
theorem foldl_addK_len (ns : List Int) : (ns.foldl addK []).length ≤ ns.length := by rw [← fm_eq]; exact fm_len _ _
theorem n_sortedset {p1 p2 q1 q2 : Pos} (hgL : Gl X "sorted") (hmL : X.mg "sorted" = none) (hgR : Gl X "set") (hmR : X.mg "set" = none) (ha : PAd true X [e] fs) (hc : X.calm = true := by rfl)
    (hvL : bootBuiltins "sorted" = some (.builtin "sorted") := by decide +kernel) (hvR : bootBuiltins "set" = some (.type "set") := by decide +kernel)
    (hs1 : starEach [.Call (.Name "set" p2) [e] [] q2] X.env = [(false, eval (.Call (.Name "set" p2) [e] [] q2) X.env)] := by rfl)
    (hs3 : starEach [e] X.env = [(false, eval e X.env)] := by rfl) :
    PNd X (.Call (.Name "sorted" p1) [.Call (.Name "set" p2) [e] [] q2] [] q1) (dSS fs) := by
  intro pins s σ H Q I ⟨env, R, A, ds, k, e1, q⟩
  unfold dSS at e1
  split at e1
  case h_2 => cases e1
  rename_i xs en
  obtain ⟨ns, hn, e1⟩ := bind_some e1
  split at e1
  case isFalse => cases e1
  rename_i h64
  cases e1
  refine wpAny_Call_Name_kw (ld_blt I hgL hmL hvL (callWith_builtin1 ?_ hs1 rfl))
  rw [hs1]
  refine Calls.spliced_cons ?_
  refine Call_ (ld_blt I hgR hmR hvR (callWith_type1 (thn (ha q2 pins s σ H (fun vs H1 => ∃ v, Same H H1 ∧ vs = [v] ∧ Pk X.K A H1 (.lst xs) v) I ⟨env, R, A, [.lst xs], k, en, fun vs H1 s1 r1 => ?_⟩) fun us s1 ⟨vs, H1, I1, r1, v, sm, ev, pv⟩ => ?_) hs3 rfl))
  · obtain ⟨v, e3, p1⟩ := r1.one
    exact ⟨v, s1, e3, p1⟩
  subst ev
  obtain ⟨a, ys, ea, h1, r2⟩ := pv.lst
  subst ea
  obtain ⟨u, rfl, ru⟩ := vals1 r1
  cases ru
  rw [intsD_eq hn] at r2
  have eu := rps_of_ints r2
  subst eu
  obtain ⟨its, rv0, pl, hz⟩ := I1.list h1.sq
  have hlen := rv0.length
  rw [List.length_map] at hlen
  have hsz : its.toArray.size = ns.length := by rw [List.size_toArray]; exact hlen.symm
  refine call_set_k (I1.ok.hd hc) pl.isList (intsAre_of rv0) (by rw [hsz]; unfold scanBound; omega) fun h' tk hS kp => ?_
  refine Calls.spliced_nil ?_
  rw [hsz, fm_eq] at hS
  have hk := foldl_addK_len ns
  refine sorted_set (s := { s1 with heap := h', toks := tk }) (I1.ok.hd hc) hS (by omega) (foldl_addK_nd ns [] List.nodup_nil) fun out ms h2 tk2 d L c a1 a2 a3 kp2 hL he => ?_
  have hLs : s1.heap.objs.size ≤ L := by
    rcases Nat.lt_or_ge L s1.heap.objs.size with hlt | hge
    · exfalso
      obtain ⟨es, ep, t, ho, _⟩ := hS
      have := Heap.lt_size ho
      exact Nat.lt_irrefl _ (Nat.lt_of_le_of_lt hL (Nat.lt_trans hlt this))
    · exact hge
  have hml : ms.length ≤ ns.length := by rw [a2.length_eq]; exact hk
  have h0 : (64 : Nat) ≤ sizeLine := by decide
  have I2 : Inv X pins σ (upd H1 L (.lst (ms.map V.int))) { s1 with heap := h2, toks := tk2 } := I1.laid (fun b o eb => kp2 b o (kp b o eb)) hLs (show ObjOk X.prog X.w _ h2 _ (.lst (ms.map V.int)) from ⟨by rw [List.length_map]; omega, out.toList, c, vals_of_ints a1, he⟩)
  have em : ms = sortI (ns.foldl addK []) := sorted_unique (a2.trans (sortI_perm _).symm) a3 (sortI_sorted _)
  subst em
  exact ⟨.ref L, _, I2.drawn d, rfl, (q.mono sm).at (by rw [List.length_map]; omega) (rps_ints _) _ (I1.hok.fresh hLs)⟩
end
end L2
set_option maxHeartbeats 4000000
namespace L2
open PySem PySem.Spec PyProof.Rows
section
variable {X : Cx}
end
end L2
namespace L2
open PySem PySem.Spec PyProof.Rows PySem.W
section
variable {X : Cx} {m fr : Bool} {e : Expr} {f : Ev → Option Dat} {g h : Ev → Fl} {p p2 pos : Pos} {body : List Stmt} {b₀ : Stmt} {suite : List Stmt} {T n tx : Str} {np hpos : Pos} {i : Nat} {sub : Str → Bool} {sb : Str → Option Bool}
end
section
variable {K : Frag} {mg : Str → Option Value}
end
end L2
namespace L2
open PySem PySem.Spec PyProof.Rows PySem.W
section
variable {X : Cx}
theorem mt_extendS : MtR X "list.extend" (fun x vs H Q => ∃ l b xs zs, x = .ref l ∧ vs = [.ref b] ∧ H l = some (.lst xs) ∧ SL X.K H b zs ∧ xs.length + zs.length ≤ sizeLine ∧ Q .non (upd H l (.lst (xs ++ zs)))) := by
  intro pins s σ H x vs v us Q I rx rv h
  obtain ⟨l, b, xs, zs, rfl, rfl, hH, hB, hz, q⟩ := h
  cases rx
  obtain ⟨u, rfl, ru⟩ := rv.one
  cases ru
  obtain ⟨z, its, n, r, hl, e⟩ := I.lstM hH
  obtain ⟨its2, n2, r2, e2, hz2⟩ := hB.get I
  have hl2 := r2.length
  have hsz : its.toArray.size + its2.toArray.size ≤ sizeLine := by rw [List.size_toArray, List.size_toArray]; omega
  have hlong : ¬ (!its.toArray.isEmpty && Builtin.List.listTooLong (its.toArray.size + its2.toArray.size)) = true := by
    rw [notLongL hsz, Bool.and_false]
    exact Bool.false_ne_true
  refine call_meets PySem.F.slot_list_extend ⟨_, e, rfl⟩ PySem.F.entry_list_extend (PySem.F.args_list_extend_2 _ _)
    (AutoSeq1.list_extend_list_list_0 l its.toArray n b its2.toArray n2 hlong (by rw [List.size_toArray]; omega) (by omega)) ⟨e, e2, ?_⟩
  refine ⟨.non, _, I.lset (its' := its ++ its2) hH e (by simp) (r.append r2) ?_, rfl, q⟩
  rw [List.length_append]
  omega
noncomputable def extendF : List Dat → List Dat → Option (List Dat)
  | ds, [.lst es] => if ds.length + es.length ≤ sizeLine then some (ds ++ es) else none
  | _, _ => none
theorem m_extend : MtU X "list.extend" extendF := MtR.weak (id := "list.extend") mt_extendS fun v us H Q zz => by
  obtain ⟨A, a, vs, ds, as, ds', mu, e1, h1, r1, r2, e2, q⟩ := zz
  unfold extendF at e2
  split at e2
  · rename_i es
    split at e2
    · rename_i hl
      cases e2
      obtain ⟨w, us', e3, r3, e4⟩ := r2
      obtain ⟨b, zs, e5, hS, r5⟩ := of_lst r3
      subst e5
      have l1 := rps_len r1
      have l2 := rps_len r5
      refine ⟨a, b, vs, zs, e1, by rw [e3, show us' = [] from e4], h1, av_same.sl hS, by omega, q _ _ (by rw [List.length_append]; exact hl) (rps_append r1 r5)⟩
    · cases e2
  · cases e2
end
noncomputable def jdNil : Ev → Str → Option Str := fun _ acc => some acc
noncomputable def jdLit (c : Str) (r : Ev → Str → Option Str) : Ev → Str → Option Str := fun env acc => if (acc ++ c).length ≤ sizeLine then r env (acc ++ c) else none
noncomputable def jdFmt (f : Ev → Option Dat) (r : Ev → Str → Option Str) : Ev → Str → Option Str := fun env acc => (f env).bind fun d => match d with
  | .str y => if (acc ++ y).length ≤ sizeLine then r env (acc ++ y) else none
  | .int i => if i.natAbs.log2 < 1920 ∧ (acc ++ strI i).length ≤ sizeLine then r env (acc ++ strI i) else none
  | _ => none
noncomputable def dJ (r : Ev → Str → Option Str) : Ev → Option Dat := fun env => (r env Str.empty).bind fun z => if SOk z then some (.str z) else none
noncomputable def PJd (X : Cx) (vs : List Expr) (r : Ev → Str → Option Str) : Prop := PJ X vs fun σ H acc Q => ∃ env R A z, EnvOk X.K R A H σ env ∧ r env acc = some z ∧ ∀ H', Same H H' → Q (.str z) H'
theorem PJ.weak {X : Cx} {e : List Expr} {t t' : TJ} (h : PJ X e t) (w : ∀ σ H acc Q, t' σ H acc Q → t σ H acc Q) : PJ X e t' := fun pins s σ H acc Q I hz q => h pins s σ H acc Q I hz (w σ H acc Q q)
section
variable {X : Cx} {m : Bool} {e : Expr} {f : Ev → Option Dat} {pos : Pos} {vs : List Expr} {r : Ev → Str → Option Str}
theorem j_nil : PJd X [] jdNil := PJ.weak pj_nil fun σ H acc Q zz => by
  obtain ⟨env, R, A, z, k, e, q⟩ := zz
  cases e
  exact q H (Same.refl H)
theorem j_lit {c : Str} {j : Nat} (hr : PJd X vs r) : PJd X (.Constant (.str c) j pos :: vs) (jdLit c r) := PJ.weak (pj_lit hr) fun σ H acc Q zz => by
  obtain ⟨env, R, A, z, k, e, q⟩ := zz
  unfold jdLit at e
  split at e
  · rename_i h
    exact ⟨h, env, R, A, z, k, e, q⟩
  · cases e
theorem j_fmt (he : PXd true X e f) (hr : PJd X vs r) : PJd X (.FormattedValue e (-1) none pos :: vs) (jdFmt f r) := PJ.weak (pj_fmt he hr) fun σ H acc Q zz => by
  obtain ⟨env, R, A, z, k, e, q⟩ := zz
  unfold jdFmt at e
  obtain ⟨d, e1, e2⟩ := bind_some e
  refine ⟨env, R, A, d, k, e1, fun v H1 s1 p1 => ?_⟩
  cases d with
  | str y =>
    dsimp only at e2
    split at e2
    · rename_i h
      have p2 := p1.str
      exact ⟨y, .inl ⟨p2.1, p2.2.le⟩, h, env, R, A, z, k.mono s1, e2, fun H' s' => q H' (s1.trans s')⟩
    · cases e2
  | int i =>
    dsimp only at e2
    split at e2
    · rename_i h
      exact ⟨strI i, .inr ⟨i, p1.int, h.1, rfl⟩, h.2, env, R, A, z, k.mono s1, e2, fun H' s' => q H' (s1.trans s')⟩
    · cases e2
  | _ => cases e2
theorem xjoined {v1 v2 : Expr} {rest : List Expr} (h : PJd X (v1 :: v2 :: rest) r) : PXd m X (.JoinedStr (v1 :: v2 :: rest) pos) (dJ r) := PXd.any ((pe_joined h).weak fun σ H Q zz => by
  obtain ⟨env, R, A, d, k, q1, q2⟩ := zz
  unfold dJ at q1
  obtain ⟨z, e1, e2⟩ := bind_some q1
  split at e2
  · rename_i hz
    cases e2
    exact ⟨env, R, A, z, k, e1, fun H' s' => q2 _ H' s' (Rm.any (rp_str hz))⟩
  · cases e2)
end
end L2
namespace L2
open PySem PySem.Spec PyProof.Rows PySem.W PySem.Builtin PySem.Builtin.Str
section
variable {X : Cx}
theorem mt_splitS : MtR X "str.split" (fun x vs H Q => ∃ z y, x = .str z ∧ vs = [.str y] ∧ (y.length == 0) = false ∧ z.length + 2 ≤ sizeLine ∧ ∀ l, H l = none → Q (.ref l) (upd H l (.lst ((Txt.split z y).map V.str)))) := by
  intro pins s σ H x vs v us Q I rx rv h
  obtain ⟨z, y, rfl, rfl, hy, hsz, q⟩ := h
  obtain ⟨t, rfl⟩ := rx
  obtain ⟨u', rfl, ru⟩ := vals1 rv
  obtain ⟨u, rfl⟩ := ru
  have hn : (partsBetween z (occurrences z y 0 z.length (z.length + 1)) y.length).length ≤ sizeLine := by
    have e1 := StrLaws.occ_length_le z y 0 z.length (z.length + 1)
    rw [length_partsBetween]; omega
  have fin : ∀ (l : List (PySem.Str × Tok)) (k : Nat), l.map (·.1) = Txt.split z y → EP X pins σ Q (.ref s.heap.objs.size) { s with heap := s.heap.push { cls := .type "list", data := .seq (strValues l).toArray }, toks := k } := fun l k e => by
    have hl : (Txt.split z y).length ≤ sizeLine := Nat.le_trans (split_le z y) hsz
    refine ⟨.ref s.heap.objs.size, _, I.laid (t' := k) (fun b o e => Heap.get?_push_of_some _ e) (Nat.le_refl _) (show ObjOk X.prog X.w _ _ _ (.lst ((Txt.split z y).map V.str)) from ⟨by rw [List.length_map]; exact hl, strValues l, _, by rw [← e]; exact vals_strs l, Heap.get?_push_size _ rfl⟩), rfl, q _ (I.hok.fresh (Nat.le_refl _))⟩
  cases h1 : (decide (z.length < y.length) || decide (strKind z < strKind y))
  · cases hf : (occurrences z y 0 z.length (z.length + 1)).isEmpty
    · refine call_meets PySem.F.slot_str_split (typeIs_str _ _ _) PySem.F.entry_str_split (PySem.F.args_str_split_2 _ _) (meets_str_split_sep z y t u h1 hy hf (by omega) hn) ?_
      show wants (EP X pins σ Q) X.xe _ { s with toks := _, heap := s.heap.push { cls := .type "list", data := .seq (strsFrom s.toks (partsBetween z (occurrences z y 0 z.length (z.length + 1)) y.length)).toArray } }
      rw [strsFrom_eq]
      exact fin (numbered s.toks _) _ ((numbered_texts _ _).trans ((if_neg (ne_true_of_eq_false h1)).trans (if_neg (ne_true_of_eq_false hf))).symm)
    · exact call_meets PySem.F.slot_str_split (typeIs_str _ _ _) PySem.F.entry_str_split (PySem.F.args_str_split_2 _ _) (meets_str_split_not_found z y t u h1 hy hf)
        (fin [(z, t)] s.toks ((if_neg (ne_true_of_eq_false h1)).trans (if_pos hf)).symm)
  · exact call_meets PySem.F.slot_str_split (typeIs_str _ _ _) PySem.F.entry_str_split (PySem.F.args_str_split_2 _ _) (meets_str_split_cannot_occur z y t u h1)
      (fin [(z, t)] s.toks (if_pos h1).symm)
noncomputable def splitN : Dat → List Dat → Option (List Dat)
  | .str z, [.str y] => if (y.length == 0) = false ∧ z.length + 2 ≤ sizeLine ∧ ((Txt.split z y).all fun p => decide (SOk p)) = true then some ((Txt.split z y).map .str) else none
  | _, _ => none
theorem rps_strsS {K : Frag} {H : Hp} : ∀ {ws : List PySem.Str}, (∀ w ∈ ws, SOk w) → Rps K H (ws.map Dat.str) (ws.map V.str)
  | [], _ => rps_nil
  | w :: ws, h => rps_cons (rp_str (h w List.mem_cons_self)) (rps_strsS fun z hz => h z (List.mem_cons_of_mem _ hz))
theorem m_split : MtN X "str.split" splitN := mt_splitS.weak fun v vs H Q zz => by
  obtain ⟨A, x, ds, d, mu, e, p, ps, q⟩ := zz
  unfold splitN at e
  split at e
  · rename_i z y
    split at e
    · rename_i hc
      cases e
      obtain ⟨v', e1, p1⟩ := ps.one
      refine ⟨z, y, p.str.1, by rw [e1, p1.str.1], hc.1, hc.2.1, fun l hl => q.at (by rw [List.length_map]; exact Nat.le_trans (split_le z y) hc.2.1) (rps_strsS fun w hw => ?_) l hl⟩
      have := List.all_eq_true.mp hc.2.2 w hw
      exact of_decide_eq_true this
    · cases e
  · cases e
noncomputable def isSt (c : PySem.Str) : Value → Bool
  | .str z _ => z == c
  | _ => false
theorem eqAt_st {pins : List (Addr × Obj)} {σ : St} {H : Hp} {s : Shared} (I : Inv X pins σ H s) (hu : X.A.units + 64 < cLine) {b c : PySem.Str} (hb : SOk b) (hc : SOk c) (t u : Tok) : SeqAt.EqAt X.A.in1 s (.str b t) (.str c u) (b == c) := by
  have := Rp.eqAt (n := 20) (m := 20) (A := X.A.in1) I (d := .str b) (e := .str c) (v := .str b) (w := .str c) (u := .str b t) (u' := .str c u) rfl rfl (by decide) (by show X.A.units + 1 + 60 < cLine; omega) (rp_str hb) (rp_str hc) ⟨_, rfl⟩ ⟨_, rfl⟩
  have e : eqD (.str b) (.str c) = (b == c) := by unfold eqD; rfl
  rw [e] at this
  exact this
theorem st_get : ∀ {ns : List PySem.Str} {us : List Value}, Vals (ns.map V.str) us → ∀ (j : Nat) (h : j < us.length) (h' : j < ns.length), ∃ t, us[j] = .str ns[j] t
  | [], us, r, j, h, h' => by simp at h'
  | n :: ns, us, r, j, h, h' => by
    rw [List.map_cons] at r
    cases r with
    | cons r1 r2 =>
      obtain ⟨t, e⟩ := r1
      subst e
      cases j with
      | zero => exact ⟨t, rfl⟩
      | succ j => exact st_get r2 j (by simpa using h) (by simpa using h')
theorem st_mem {ns : List PySem.Str} {us : List Value} (r : Vals (ns.map V.str) us) {y : Value} (h : y ∈ us) : ∃ z t, z ∈ ns ∧ y = .str z t := by
  obtain ⟨j, hj, rfl⟩ := List.getElem_of_mem h
  have hl := r.length
  rw [List.length_map] at hl
  obtain ⟨t, e⟩ := st_get r j hj (by omega)
  exact ⟨_, t, List.getElem_mem (by omega), e⟩
theorem mt_indexT (hu : X.A.units + 64 < cLine) : MtR X "list.index" (fun x vs H Q => ∃ (p : Addr) (zs : List PySem.Str) (c : PySem.Str), x = .ref p ∧ vs = [.str c] ∧ SqL X.K H p (zs.map V.str) ∧ (∀ z ∈ zs, SOk z) ∧ SOk c ∧ c ∈ zs ∧ Q (.int ((zs.idxOf c : Nat) : Int)) H) := by
  intro pins s σ H x vs v us Q I rx rs h
  obtain ⟨p, zs, c, rfl, rfl, hq, hok, hc', hm, q⟩ := h
  cases rx
  obtain ⟨u', rfl, ru⟩ := vals1 rs
  obtain ⟨u, rfl⟩ := ru
  obtain ⟨its, r', pl, hz⟩ := I.list hq
  obtain ⟨⟨cls, dd, data, sl⟩, ho, hc, n, hd⟩ := pl.isList
  simp only at hc hd
  subst hc hd
  have hlen' := r'.length
  rw [List.length_map] at hlen' hz
  have hj : zs.idxOf c < zs.length := List.idxOf_lt_length_iff.mpr hm
  have hsl : sizeLine < 2 ^ 63 - 1 := by decide
  refine call_meets PySem.F.slot_list_index ⟨_, ho, rfl⟩ PySem.F.entry_list_index (PySem.F.args_list_index_2 _ _) (SeqAt.list_indexAt p _ n dd sl (.str c u) (isSt c) (zs.idxOf c) (by simpa [← hlen'] using hj) (by omega) ?_ ?_) ⟨ho, fun y hy => ?_, ⟨.int _, H, I.tok _, ⟨_, rfl⟩, q⟩⟩
  · obtain ⟨t, e⟩ := st_get r' (zs.idxOf c) (by omega) hj
    show isSt c (its[zs.idxOf c]'(by omega)) = true
    rw [e]
    show (zs[zs.idxOf c] == c) = true
    simpa using List.getElem_idxOf hj
  · intro j hjs hlt
    have hjb : j < zs.length := by omega
    obtain ⟨t, e⟩ := st_get r' j (by omega) hjb
    show isSt c (its[j]'(by omega)) = false
    rw [e]
    show (zs[j] == c) = false
    have := List.not_of_lt_findIdx (xs := zs) (p := (· == c)) (i := j) (by simpa [List.idxOf] using hlt)
    simpa using this
  · obtain ⟨z, t, hz1, rfl⟩ := st_mem r' (by simpa using hy)
    exact eqAt_st I hu (hok z hz1) hc' t u
noncomputable def indexT : Dat → List Dat → Option Dat
  | .lst xs, [.str c] => (strsD xs).bind fun zs => if c ∈ zs then some (.int ((zs.idxOf c : Nat) : Int)) else none
  | _, _ => none
theorem m_indexT (hu : X.A.units + 64 < cLine) : MtD X "list.index" indexT := (mt_indexT hu).weak fun v vs H Q zz => by
  obtain ⟨A, x, ds, d, mu, e, p, ps, q⟩ := zz
  unfold indexT at e
  split at e
  · rename_i xs c
    obtain ⟨l, us, e2, h1, r1⟩ := p.lst
    obtain ⟨v1, e3, p1⟩ := ps.one
    obtain ⟨zs, hy, e⟩ := bind_some e
    split at e
    · rename_i hc
      cases e
      rw [strsD_eq hy] at r1
      obtain ⟨eu, ok⟩ := rps_of_strs r1
      subst eu
      exact ⟨l, zs, c, e2, by rw [e3, p1.str.1], h1.sq, ok, p1.str.2, hc, q.here rp_int⟩
    · cases e
  · cases e
noncomputable def intE : List Dat → Option Dat
  | [.int i] => some (.int i)
  | [.bl b] => some (.int (if b then 1 else 0))
  | [.str z] => if z.length ≤ 640 then (PySem.intText? z).map .int else none
  | _ => none
theorem call_intE : CallR X (.type "int") (fun xs H Q => (∃ i, xs = [.int i] ∧ Q (.int i) H) ∨ (∃ k, xs = [.bl k] ∧ Q (.int (if k then 1 else 0)) H) ∨ ∃ z n, xs = [.str z] ∧ z.length ≤ 640 ∧ PySem.intText? z = some n ∧ Q (.int n) H) := by
  intro pins s σ H xs us Q I r h
  rcases h with h | h | ⟨z, n, rfl, hz, hn, q⟩
  · exact call_int1 pins s σ H xs us Q I r (.inl h)
  · exact call_int1 pins s σ H xs us Q I r (.inr h)
  · obtain ⟨u, rfl, r1⟩ := vals1 r
    obtain ⟨t, rfl⟩ := r1
    exact KIN.call_text hn hz ⟨.int n, H, I.tok _, ⟨_, rfl⟩, q⟩
theorem c_intE : CallD X (.type "int") intE := call_intE.weak fun vs H Q zz => by
  obtain ⟨A, ds, d, mu, e, p, q⟩ := zz
  unfold intE at e
  split at e
  · obtain ⟨v, e1, p1⟩ := p.one
    cases e
    exact .inl ⟨_, by rw [e1, p1.int], q.here rp_int⟩
  · obtain ⟨v, e1, p1⟩ := p.one
    cases e
    exact .inr (.inl ⟨_, by rw [e1, p1.bl], q.here rp_int⟩)
  · obtain ⟨v, e1, p1⟩ := p.one
    split at e
    · rename_i hz
      obtain ⟨n, hn, e⟩ := map_some e
      subst e
      exact .inr (.inr ⟨_, n, by rw [e1, p1.str.1], hz, hn, q.here rp_int⟩)
    · cases e
  · cases e
end
end L2
namespace L2
open PySem PySem.Spec PyProof.Rows PySem.W
noncomputable def sNo : Ev → Fl := fun _ => .no
theorem s_no {X : Cx} {fr : Bool} {st : Stmt} : PSd fr X st sNo := fun pins s σ H D I ⟨env, B, A, k, hst, q⟩ => q.elim
end L2
namespace L2
open PySem PySem.Spec PyProof.Rows PySem.W
section
variable {X : Cx} {fr : Bool} {p pos cpos : Pos} {k n : Nat} {c : Str} {G : List Dat → Option (List (Str × XD))}
end
section
variable {P : Program} {w : World} {K : Frag} {mg : Str → Option Value} {base : Heap}
end
end L2
namespace L2
open PySem PySem.Spec PyProof.Rows PySem.W
section
variable {X : Cx} {pos pos' : Pos}
end
end L2
namespace L2
open PySem PySem.Spec PyProof.Rows PySem.W
section
variable {P : Program} {w : World} {K : Frag} {mg : Str → Option Value} {base : Heap}
end
end L2
namespace L2
open PySem PySem.Spec PyProof.Rows PySem.W
end L2
namespace L2
open PySem PySem.Spec PyProof.Rows PySem.W
section
variable {M : Model} {A : Around} {E : Value → Shared → Prop} {s : Shared}
end
end L2
namespace L2
open PySem PySem.Spec PyProof.Rows PySem.W
section
variable {M : Model} {A : Around} {E : Value → Shared → Prop} {s : Shared}
end
end L2
namespace L2
open PySem PySem.Spec PyProof.Rows
section
variable {P : Program} {w : World} {K : PySem.W.Frag} {mg : Str → Option Value} {base : Heap}
end
end L2
namespace K14
open PySem PySem.Spec PyProof.Rows L2
noncomputable def c_DIRECTIONS : Dat := .tup [.str "up", .str "down"]
noncomputable def c_FIGURES : Dat := .str "0123456789"
noncomputable def c_KINDS : Dat := .tup [.str "given", .str "made"]
noncomputable def c_LAST_SPOT : Dat := .int 63
noncomputable def c_LETTERS : Dat := .str "abcdefghijklmnopqrstuvwxyz"
noncomputable def c_LONGEST_NAME : Dat := .int 8
noncomputable def c_MOST_STEPS : Dat := .int 24
noncomputable def c_MOST_WIRES : Dat := .int 10
noncomputable def c_WORDS : Dat := .tup [.str "given", .str "made", .str "up", .str "down", .str "start"]
noncomputable def g_is_name : Ev → Fl := (bCons (sIf (tOrD (dB (dO ltD (dF lenD (aCons (dV 0) aNil)) (dC (.int 1)))) (tOrD (dB (dO gtD (dF lenD (aCons (dV 0) aNil)) (dC c_LONGEST_NAME))) (dB (dO inF (dV 0) (dC c_WORDS))))) (sRet (dC (.bl false))) bNil)
      (sRet (dF allD (aCons (dL (dComp (srcC (dV 0)) [none] (gset 0) tTrue (dO inF (dV 0) (dC c_LETTERS)))) aNil))))
noncomputable def F_is_name : List Dat → Rs := runD 1 1 g_is_name
noncomputable def g_names : Ev → Fl := (sRet (dL (dComp (srcL (dO ixD (dV 0) (dC (.int 0)))) [none, none] (gtup 2 (gsCons (gset 0) (gsCons (gset 1) gsNil))) tTrue (dV 0))))
noncomputable def F_names : List Dat → Rs := runD 1 1 g_names
noncomputable def g_bits : Ev → Fl := (bCons (sSet 1 (dC (.int 0)))
      (bCons (sFor (srcL (dV 0)) (gset 2) (sSet 1 (dO orD (dV 1) (dO shlD (dC (.int 1)) (dV 2)))))
      (sRet (dV 1))))
noncomputable def F_bits : List Dat → Rs := runD 3 1 g_bits
noncomputable def g_has_one : Ev → Fl := (sRet (dO eqF (dO andD (dO shrD (dV 0) (dV 1)) (dC (.int 1))) (dC (.int 1))))
noncomputable def F_has_one : List Dat → Rs := runD 2 2 g_has_one
noncomputable def g_ones : Ev → Fl := (sRet (dL (dComp (srcR1 (aCons (dM0 "int" bitlenD (dV 0)) aNil)) [none, some 0] (gset 0) (dT (dCal F_has_one (aCons (dV 1) (aCons (dV 0) aNil)))) (dV 0))))
noncomputable def F_ones : List Dat → Rs := runD 1 1 g_ones
noncomputable def g_written : Ev → Fl := (sRet (dL (dComp (srcL (dV 0)) [none] (gset 0) tTrue (dF strD (aCons (dV 0) aNil)))))
noncomputable def F_written : List Dat → Rs := runD 1 1 g_written
noncomputable def g_start_row : Ev → Fl := (bCons (sSet 3 (dL (dComp (srcL (dCal F_ones (aCons (dV 1) aNil))) [none, some 2] (gset 0) tTrue (dO ixD (dV 1) (dV 0)))))
      (sRet (dM "str" joinD (dC (.str " ")) (aCons (dO addD (dO addD (dO addD (dL (aLst (aCons (dC (.str "start")) aNil))) (dCal F_written (aCons (dCal F_ones (aCons (dV 0) aNil)) aNil))) (dL (aLst (aCons (dC (.str ":")) aNil)))) (dV 3)) aNil))))
noncomputable def F_start_row : List Dat → Rs := runD 4 3 g_start_row
noncomputable def g_step_row : Ev → Fl := (bCons (sSet 2 (dL (aLst (aCons (dIf (dT (dO ixD (dV 0) (dC (.int 1)))) (dC (.str "up")) (dC (.str "down"))) (aCons (dO ixD (dV 1) (dO ixD (dV 0) (dC (.int 0)))) (aCons (dC (.str ":")) aNil))))))
      (sRet (dM "str" joinD (dC (.str " ")) (aCons (dO addD (dO addD (dO addD (dV 2) (dCal F_written (aCons (dO ixD (dV 0) (dC (.int 2))) aNil))) (dL (aLst (aCons (dC (.str "->")) aNil)))) (dCal F_written (aCons (dO ixD (dV 0) (dC (.int 3))) aNil))) aNil))))
noncomputable def F_step_row : List Dat → Rs := runD 3 2 g_step_row
noncomputable def g_shown : Ev → Fl := (bCons (sSet 1 (dCal F_names (aCons (dV 0) aNil)))
      (bCons (sOwn 2 (dComp (srcL (dO ixD (dV 0) (dC (.int 0)))) [none, none] (gtup 2 (gsCons (gset 0) (gsCons (gset 1) gsNil))) tTrue (dJ (jdFmt (dV 1) (jdLit " " (jdFmt (dV 0) jdNil))))))
      (bCons (sMeth 2 extendF (aCons (dL (dComp (srcL (dO ixD (dV 0) (dC (.int 1)))) [none, some 1] (gset 0) tTrue (dCal F_step_row (aCons (dV 0) (aCons (dV 1) aNil))))) aNil))
      (bCons (sMeth 2 appendF (aCons (dCal F_start_row (aCons (dO ixD (dV 0) (dC (.int 2))) (aCons (dO ixD (dV 0) (dC (.int 3))) (aCons (dV 1) aNil)))) aNil))
      (sRet (dM "str" joinD (dC (.str "\n")) (aCons (dP 2) aNil)))))))
noncomputable def F_shown : List Dat → Rs := runD 3 1 g_shown
noncomputable def g_read_wire : Ev → Fl := (bCons (sSet 2 (dL (dM "str" splitN (dV 0) (aCons (dC (.str " ")) aNil))))
      (bCons (sIf (tOrD (dB (dO neF (dF lenD (aCons (dV 2) aNil)) (dC (.int 2)))) (dB (dO ninF (dO ixD (dV 2) (dC (.int 0))) (dC c_KINDS)))) (sRet (dC .non)) bNil)
      (bCons (sIf (tOrD (tNotD (dT (dCal F_is_name (aCons (dO ixD (dV 2) (dC (.int 1))) aNil)))) (dB (dO inF (dO ixD (dV 2) (dC (.int 1))) (dV 1)))) (sRet (dC .non)) bNil)
      (sRet (aTup (aCons (dO ixD (dV 2) (dC (.int 1))) (aCons (dO ixD (dV 2) (dC (.int 0))) aNil)))))))
noncomputable def F_read_wire : List Dat → Rs := runD 3 2 g_read_wire
noncomputable def g_read_wires : Ev → Fl := (bCons (sOwn 1 (aLst aNil))
      (bCons (sOwn 2 (aLst aNil))
      (bCons (sFor (srcL (dS slD (dV 0) oNone (oSome (dC c_MOST_WIRES)))) (gset 3) (bCons (sSet 4 (dCalP F_read_wire (aCons (dV 3) (aCons (dP 2) aNil))))
      (bCons (sIf (dB (dO isF (dV 4) (dC .non))) (sRetO 1) bNil)
      (bCons (sMeth 1 appendF (aCons (dV 4) aNil))
      (sMeth 2 appendF (aCons (dO ixD (dV 4) (dC (.int 0))) aNil))))))
      (sRetO 1))))
noncomputable def F_read_wires : List Dat → Rs := runD 5 1 g_read_wires
noncomputable def g_rising : Ev → Fl := (sRet (dIf (dB (dO eqF (dV 0) (dL (dSS (aCons (dV 0) aNil))))) (dV 0) (dC .non)))
noncomputable def F_rising : List Dat → Rs := runD 1 1 g_rising
noncomputable def g_is_spot : Ev → Fl := (bCons (sIf (tOrD (dB (dO ninF (dF lenD (aCons (dV 0) aNil)) (aTup (aCons (dC (.int 1)) (aCons (dC (.int 2)) aNil))))) (tNotD (dT (dF allD (aCons (dL (dComp (srcC (dV 0)) [none] (gset 0) tTrue (dO inF (dV 0) (dC c_FIGURES)))) aNil))))) (sRet (dC (.bl false))) bNil)
      (sRet (dAnd (dO eqF (dF strD (aCons (dF intE (aCons (dV 0) aNil)) aNil)) (dV 0)) (dO leD (dF intE (aCons (dV 0) aNil)) (dC c_LAST_SPOT)))))
noncomputable def F_is_spot : List Dat → Rs := runD 1 1 g_is_spot
noncomputable def g_read_spots : Ev → Fl := (bCons (sIf (tNotD (dT (dF allD (aCons (dL (dComp (srcL (dV 0)) [none] (gset 0) tTrue (dCal F_is_spot (aCons (dV 0) aNil)))) aNil)))) (sRet (dC .non)) bNil)
      (sRet (dCal F_rising (aCons (dL (dComp (srcL (dV 0)) [none] (gset 0) tTrue (dF intE (aCons (dV 0) aNil)))) aNil))))
noncomputable def F_read_spots : List Dat → Rs := runD 1 1 g_read_spots
noncomputable def g_read_step : Ev → Fl := (bCons (sSet 2 (dL (dM "str" splitN (dV 0) (aCons (dC (.str " ")) aNil))))
      (bCons (sIf (tOrD (dB (dO ltD (dF lenD (aCons (dV 2) aNil)) (dC (.int 3)))) (tOrD (dB (dO ninF (dO ixD (dV 2) (dC (.int 0))) (dC c_DIRECTIONS))) (dB (dO ninF (dO ixD (dV 2) (dC (.int 1))) (dV 1))))) (sRet (dC .non)) bNil)
      (bCons (sIf (tOrD (dB (dO neF (dO ixD (dV 2) (dC (.int 2))) (dC (.str ":")))) (dB (dO ninF (dC (.str "->")) (dV 2)))) (sRet (dC .non)) bNil)
      (bCons (sSet 3 (dM "list" indexT (dV 2) (aCons (dC (.str "->")) aNil)))
      (bCons (sSet 4 (dCal F_read_spots (aCons (dS slD (dV 2) (oSome (dC (.int 3))) (oSome (dV 3))) aNil)))
      (bCons (sSet 5 (dCal F_read_spots (aCons (dS slD (dV 2) (oSome (dO addD (dV 3) (dC (.int 1)))) oNone) aNil)))
      (bCons (sIf (tOrD (dB (dO isF (dV 4) (dC .non))) (tOrD (dB (dO isF (dV 5) (dC .non))) (tOrD (dB (dO eqF (dF lenD (aCons (dV 4) aNil)) (dC (.int 0)))) (dB (dO eqF (dF lenD (aCons (dV 5) aNil)) (dC (.int 0))))))) (sRet (dC .non)) bNil)
      (sRet (aTup (aCons (dM "list" indexT (dV 1) (aCons (dO ixD (dV 2) (dC (.int 1))) aNil)) (aCons (dO eqF (dO ixD (dV 2) (dC (.int 0))) (dC (.str "up"))) (aCons (dF tupleD (aCons (dV 4) aNil)) (aCons (dF tupleD (aCons (dV 5) aNil)) aNil)))))))))))))
noncomputable def F_read_step : List Dat → Rs := runD 6 2 g_read_step
noncomputable def g_read_steps : Ev → Fl := (bCons (sOwn 2 (aLst aNil))
      (bCons (sFor (srcL (dS slD (dV 0) oNone (oSome (dC c_MOST_STEPS)))) (gset 3) (bCons (sSet 4 (dCal F_read_step (aCons (dV 3) (aCons (dV 1) aNil))))
      (bCons (sIf (dB (dO isF (dV 4) (dC .non))) (sRetO 2) bNil)
      (sMeth 2 appendF (aCons (dV 4) aNil)))))
      (sRetO 2)))
noncomputable def F_read_steps : List Dat → Rs := runD 5 2 g_read_steps
noncomputable def g_read_up : Ev → Fl := (bCons (sIf (tNotD (dT (dF allD (aCons (dL (dComp (srcL (dV 0)) [none, some 1] (gset 0) tTrue (dO inF (dV 0) (dV 1)))) aNil)))) (sRet (dC .non)) bNil)
      (sRet (dCal F_rising (aCons (dL (dComp (srcL (dV 0)) [none, some 1] (gset 0) tTrue (dM "list" indexT (dV 1) (aCons (dV 0) aNil)))) aNil))))
noncomputable def F_read_up : List Dat → Rs := runD 2 2 g_read_up
noncomputable def g_read_start : Ev → Fl := (bCons (sSet 2 (dL (dM "str" splitN (dV 0) (aCons (dC (.str " ")) aNil))))
      (bCons (sIf (tOrD (dB (dO neF (dO ixD (dV 2) (dC (.int 0))) (dC (.str "start")))) (dB (dO ninF (dC (.str ":")) (dV 2)))) (sRet (dC .non)) bNil)
      (bCons (sSet 3 (dM "list" indexT (dV 2) (aCons (dC (.str ":")) aNil)))
      (bCons (sSet 4 (dCal F_read_spots (aCons (dS slD (dV 2) (oSome (dC (.int 1))) (oSome (dV 3))) aNil)))
      (bCons (sSet 5 (dCal F_read_up (aCons (dS slD (dV 2) (oSome (dO addD (dV 3) (dC (.int 1)))) oNone) (aCons (dV 1) aNil))))
      (bCons (sIf (tOrD (dB (dO isF (dV 4) (dC .non))) (dB (dO isF (dV 5) (dC .non)))) (sRet (dC .non)) bNil)
      (sRet (aTup (aCons (dCal F_bits (aCons (dV 4) aNil)) (aCons (dCal F_bits (aCons (dV 5) aNil)) aNil))))))))))
noncomputable def F_read_start : List Dat → Rs := runD 6 2 g_read_start
noncomputable def g_read : Ev → Fl := (bCons (sSet 1 (dL (dM "str" splitN (dV 0) (aCons (dC (.str "\n")) aNil))))
      (bCons (sSet 2 (dCal F_read_wires (aCons (dV 1) aNil)))
      (bCons (sSet 3 (dL (dComp (srcL (dV 2)) [none, none] (gtup 2 (gsCons (gset 0) (gsCons (gset 1) gsNil))) tTrue (dV 0))))
      (bCons (sSet 4 (dCal F_read_steps (aCons (dS slD (dV 1) (oSome (dF lenD (aCons (dV 2) aNil))) oNone) (aCons (dV 3) aNil))))
      (bCons (sSet 5 (dO addD (dF lenD (aCons (dV 2) aNil)) (dF lenD (aCons (dV 4) aNil))))
      (bCons (sIf (tOrD (dB (dO eqF (dF lenD (aCons (dV 4) aNil)) (dC (.int 0)))) (dB (dO eqF (dV 5) (dF lenD (aCons (dV 1) aNil))))) sNo bNil)
      (bCons (sSet 6 (dCal F_read_start (aCons (dO ixD (dV 1) (dV 5)) (aCons (dV 3) aNil))))
      (bCons (sIf (dB (dO isF (dV 6) (dC .non))) sNo bNil)
      (bCons (sIf (dB (dO gtD (dF lenD (aCons (dV 1) aNil)) (dO addD (dV 5) (dC (.int 1))))) sNo bNil)
      (sRet (aTup (aCons (dF tupleD (aCons (dV 2) aNil)) (aCons (dF tupleD (aCons (dV 4) aNil)) (aCons (dO ixD (dV 6) (dC (.int 0))) (aCons (dO ixD (dV 6) (dC (.int 1))) aNil)))))))))))))))
noncomputable def F_read : List Dat → Rs := runD 7 1 g_read
noncomputable def F__law_alike : Nat → List Dat → Rs
  | 0 => fun _ => .no
  | fl + 1 => runD 3 2 ((bCons (sIf (dT (dI "bool" (dV 1))) (sRet (dAnd (dI "bool" (dV 0)) (dO eqF (dV 0) (dV 1)))) bNil)
      (bCons (sIf (dT (dI "int" (dV 1))) (sRet (dAnd (dI "int" (dV 0)) (dAnd (dNot (dI "bool" (dV 0))) (dO eqF (dV 0) (dV 1))))) bNil)
      (bCons (sIf (dT (dI "str" (dV 1))) (sRet (dAnd (dI "str" (dV 0)) (dO eqF (dV 0) (dV 1)))) bNil)
      (bCons (sIf (dT (dI "tuple" (dV 1))) (sIf (tNotD (dT (dI "tuple" (dV 0)))) (sRet (dC (.bl false))) bNil) (sIf (tNotD (dT (dI "list" (dV 0)))) (sRet (dC (.bl false))) bNil))
      (bCons (sIf (dB (dO neF (dF lenD (aCons (dV 0) aNil)) (dF lenD (aCons (dV 1) aNil)))) (sRet (dC (.bl false))) bNil)
      (bCons (sFor (srcR1 (aCons (dF lenD (aCons (dV 1) aNil)) aNil)) (gset 2) (sIf (tNotD (dT (dCal (F__law_alike fl) (aCons (dO ixD (dV 0) (dV 2)) (aCons (dO ixD (dV 1) (dV 2)) aNil))))) (sRet (dC (.bl false))) bNil))
      (sRet (dC (.bl true))))))))))
noncomputable def g__law_mix : Ev → Fl := (bCons (sSet 2 (dO addD (dO mulE (dC (.int 7919)) (dV 1)) (dC (.int 12345))))
      (bCons (sIf (dB (dO gtD (dF lenD (aCons (dV 0) aNil)) (dC (.int 0)))) (bCons (sSet 2 (dO addD (dV 2) (dO fdivD (dV 1) (dF lenD (aCons (dV 0) aNil)))))
      (sSet 2 (dO addD (dV 2) (dO mulE (dO ixD (dV 0) (dO modD (dV 1) (dF lenD (aCons (dV 0) aNil)))) (dC (.int 6364136223846793005)))))) bNil)
      (sRet (dO modD (dO mulE (dV 2) (dC (.int 48271))) (dC (.int 1000000000039))))))
noncomputable def F__law_mix : List Dat → Rs := runD 3 2 g__law_mix
noncomputable def g__law_name : Ev → Fl := (bCons (sSet 1 (dC (.str "")))
      (bCons (sSet 2 (dO fdivD (dV 0) (dC (.int 8))))
      (bCons (sFor (srcR1 (aCons (dO addD (dC (.int 1)) (dO modD (dV 0) (dC (.int 8)))) aNil)) (gset 3) (bCons (sSet 1 (dO addD (dV 1) (dO ixD (dC (.str "abcdefghijklmnopqrstuvwxyz")) (dO modD (dV 2) (dC (.int 26))))))
      (sSet 2 (dO fdivD (dV 2) (dC (.int 26))))))
      (sRet (dV 1)))))
noncomputable def F__law_name : List Dat → Rs := runD 4 1 g__law_name
noncomputable def g__law_wire_names : Ev → Fl := (bCons (sOwn 3 (aLst aNil))
      (bCons (sSet 4 (dC (.str "abcdefghijklmnopqrstuvwxyz")))
      (bCons (sFor (srcR1 (aCons (dV 2) aNil)) (gset 5) (bCons (sSet 6 (dCal F__law_mix (aCons (dV 0) (aCons (dO addD (dV 1) (dV 5)) aNil))))
      (bCons (sSet 7 (dCal F__law_name (aCons (dV 6) aNil)))
      (bCons (sIf (tAndD (dB (dO gtD (dV 5) (dC (.int 0)))) (dB (dO eqF (dO modD (dO fdivD (dV 6) (dC (.int 8))) (dC (.int 2))) (dC (.int 0))))) (bCons (sSet 8 (dO modD (dO fdivD (dV 6) (dC (.int 16))) (dF lenD (aCons (dO ixD (dP 3) (dC (.int 0))) aNil))))
      (bCons (sSet 7 (dO ixD (dP 3) (dC (.int 0))))
      (sSet 7 (dO addD (dO addD (dS slD (dV 7) oNone (oSome (dV 8))) (dO ixD (dV 4) (dO modD (dO fdivD (dV 6) (dC (.int 128))) (dC (.int 26))))) (dS slD (dV 7) (oSome (dO addD (dV 8) (dC (.int 1)))) oNone))))) bNil)
      (bCons (sWhile (tOrD (dB (dO inF (dV 7) (dP 3))) (dB (dO inF (dV 7) (dL (aLst (aCons (dC (.str "given")) (aCons (dC (.str "made")) (aCons (dC (.str "up")) (aCons (dC (.str "down")) (aCons (dC (.str "start")) aNil)))))))))) (sSet 7 (dO addD (dS slD (dV 7) oNone (oSome (dU negD (dC (.int 1))))) (dO ixD (dV 4) (dO modD (dO addD (dM "str" sindexD (dV 4) (aCons (dO ixD (dV 7) (dU negD (dC (.int 1)))) aNil)) (dC (.int 1))) (dC (.int 26)))))))
      (sMeth 3 appendF (aCons (dV 7) aNil)))))))
      (sRetO 3))))
noncomputable def F__law_wire_names : List Dat → Rs := runD 9 3 g__law_wire_names
noncomputable def g__law_spots : Ev → Fl := (bCons (sSet 1 (dO ixD (dL (aLst (aCons (dO addD (dC (.int 1)) (dO modD (dO fdivD (dV 0) (dC (.int 8))) (dC (.int 4)))) (aCons (dO addD (dC (.int 1)) (dO modD (dO fdivD (dV 0) (dC (.int 8))) (dC (.int 30)))) aNil)))) (dF intD (aCons (dO eqF (dO modD (dV 0) (dC (.int 8))) (dC (.int 3))) aNil))))
      (bCons (sSet 2 (dO addD (dC (.int 1)) (dO mulE (dC (.int 2)) (dO modD (dO fdivD (dV 0) (dC (.int 16384))) (dC (.int 32))))))
      (sRet (dF tupleD (aCons (dL (dF sortedN (aCons (dL (dComp (srcR1 (aCons (dV 1) aNil)) [none, some 0, some 2] (gset 0) tTrue (dO modD (dO addD (dO fdivD (dV 1) (dC (.int 256))) (dO mulE (dV 0) (dV 2))) (dC (.int 64))))) aNil))) aNil)))))
noncomputable def F__law_spots : List Dat → Rs := runD 3 1 g__law_spots
noncomputable def g__law_graph : Ev → Fl := (bCons (sSet 2 (dCal F__law_mix (aCons (dV 0) (aCons (dV 1) aNil))))
      (bCons (sSet 3 (dO ixD (dL (aLst (aCons (dO addD (dC (.int 1)) (dO modD (dO fdivD (dV 2) (dC (.int 4))) (dC (.int 10)))) (aCons (dC (.int 10)) aNil)))) (dF intD (aCons (dO eqF (dO modD (dV 2) (dC (.int 4))) (dC (.int 1))) aNil))))
      (bCons (sSet 4 (dCal F__law_wire_names (aCons (dV 0) (aCons (dO addD (dV 1) (dC (.int 1))) (aCons (dV 3) aNil)))))
      (bCons (sSet 5 (dCal F__law_mix (aCons (dV 0) (aCons (dO addD (dV 1) (dC (.int 11))) aNil))))
      (bCons (sOwn 6 (aLst aNil))
      (bCons (sFor (srcR1 (aCons (dV 3) aNil)) (gset 7) (sMeth 6 appendF (aCons (aTup (aCons (dO ixD (dV 4) (dV 7)) (aCons (dO ixD (dL (aLst (aCons (dC (.str "given")) (aCons (dC (.str "made")) aNil)))) (dO modD (dO fdivD (dV 5) (dO addD (dC (.int 1)) (dO mulE (dC (.int 7)) (dV 7)))) (dC (.int 2)))) aNil))) aNil)))
      (bCons (sOwn 8 (aLst aNil))
      (bCons (sFor (srcR1 (aCons (dO ixD (dL (aLst (aCons (dO addD (dC (.int 1)) (dO modD (dO fdivD (dV 2) (dC (.int 64))) (dC (.int 24)))) (aCons (dC (.int 24)) aNil)))) (dF intD (aCons (dO eqF (dO modD (dO fdivD (dV 2) (dC (.int 4096))) (dC (.int 4))) (dC (.int 1))) aNil))) aNil)) (gset 7) (bCons (sSet 9 (dCal F__law_mix (aCons (dV 0) (aCons (dO addD (dO addD (dV 1) (dC (.int 15))) (dO mulE (dC (.int 2)) (dV 7))) aNil))))
      (bCons (sSet 10 (dCal F__law_spots (aCons (dO fdivD (dV 9) (dC (.int 64))) aNil)))
      (bCons (sSet 11 (dCal F__law_spots (aCons (dCal F__law_mix (aCons (dV 0) (aCons (dO addD (dO addD (dV 1) (dC (.int 16))) (dO mulE (dC (.int 2)) (dV 7))) aNil))) aNil)))
      (sMeth 8 appendF (aCons (aTup (aCons (dO modD (dV 9) (dV 3)) (aCons (dO eqF (dO modD (dO fdivD (dV 9) (dC (.int 16))) (dC (.int 2))) (dC (.int 1))) (aCons (dV 11) (aCons (dV 10) aNil))))) aNil))))))
      (bCons (sSet 12 (dO modD (dCal F__law_mix (aCons (dV 0) (aCons (dO addD (dV 1) (dC (.int 12))) aNil))) (dO powD (dC (.int 2)) (dC (.int 32)))))
      (bCons (sSet 13 (dO addD (dO mulE (dO modD (dCal F__law_mix (aCons (dV 0) (aCons (dO addD (dV 1) (dC (.int 13))) aNil))) (dO powD (dC (.int 2)) (dC (.int 32)))) (dO powD (dC (.int 2)) (dC (.int 32)))) (dV 12)))
      (sRet (aTup (aCons (dF tupleD (aCons (dP 6) aNil)) (aCons (dF tupleD (aCons (dP 8) aNil)) (aCons (dV 13) (aCons (dO modD (dO modD (dCal F__law_mix (aCons (dV 0) (aCons (dO addD (dV 1) (dC (.int 14))) aNil))) (dO powD (dC (.int 2)) (dC (.int 10)))) (dO shlD (dC (.int 1)) (dV 3))) aNil))))))))))))))))
noncomputable def F__law_graph : List Dat → Rs := runD 14 2 g__law_graph
noncomputable def g__law_places : Ev → Fl := (bCons (sOwn 1 (aLst aNil))
      (bCons (sSet 2 (dC (.int 0)))
      (bCons (sWhile (dB (dO gtD (dV 0) (dC (.int 0)))) (bCons (sIf (dB (dO eqF (dO modD (dV 0) (dC (.int 2))) (dC (.int 1)))) (sMeth 1 appendF (aCons (dV 2) aNil)) bNil)
      (bCons (sSet 0 (dO fdivD (dV 0) (dC (.int 2))))
      (sSet 2 (dO addD (dV 2) (dC (.int 1)))))))
      (sRetO 1))))
noncomputable def F__law_places : List Dat → Rs := runD 3 1 g__law_places
noncomputable def g__law_step_words : Ev → Fl := (bCons (sAsg (dV 1) (gtup 4 (gsCons (gset 2) (gsCons (gset 3) (gsCons (gset 4) (gsCons (gset 5) gsNil))))))
      (bCons (sSet 6 (dL (aLst (aCons (dO ixD (dL (aLst (aCons (dC (.str "down")) (aCons (dC (.str "up")) aNil)))) (dF intD (aCons (dV 3) aNil))) (aCons (dO ixD (dO ixD (dV 0) (dV 2)) (dC (.int 0))) (aCons (dC (.str ":")) aNil))))))
      (sRet (dO addD (dO addD (dO addD (dV 6) (dL (dComp (srcL (dV 4)) [none] (gset 0) tTrue (dF strD (aCons (dV 0) aNil))))) (dL (aLst (aCons (dC (.str "->")) aNil)))) (dL (dComp (srcL (dV 5)) [none] (gset 0) tTrue (dF strD (aCons (dV 0) aNil))))))))
noncomputable def F__law_step_words : List Dat → Rs := runD 7 2 g__law_step_words
noncomputable def g__law_rows : Ev → Fl := (bCons (sAsg (dV 0) (gtup 4 (gsCons (gset 1) (gsCons (gset 2) (gsCons (gset 3) (gsCons (gset 4) gsNil))))))
      (bCons (sOwn 5 (dComp (srcL (dV 1)) [none, none] (gtup 2 (gsCons (gset 0) (gsCons (gset 1) gsNil))) tTrue (dO addD (dO addD (dV 1) (dC (.str " "))) (dV 0))))
      (bCons (sFor (srcL (dV 2)) (gset 6) (sMeth 5 appendF (aCons (dM "str" joinD (dC (.str " ")) (aCons (dCal F__law_step_words (aCons (dV 1) (aCons (dV 6) aNil))) aNil)) aNil)))
      (bCons (sSet 7 (dO addD (dO addD (dL (aLst (aCons (dC (.str "start")) aNil))) (dL (dComp (srcL (dCal F__law_places (aCons (dV 3) aNil))) [none] (gset 0) tTrue (dF strD (aCons (dV 0) aNil))))) (dL (aLst (aCons (dC (.str ":")) aNil)))))
      (bCons (sMeth 5 appendF (aCons (dM "str" joinD (dC (.str " ")) (aCons (dO addD (dV 7) (dL (dComp (srcL (dCal F__law_places (aCons (dV 4) aNil))) [none, some 1] (gset 0) tTrue (dO ixD (dO ixD (dV 1) (dV 0)) (dC (.int 0)))))) aNil)) aNil))
      (sRetO 5))))))
noncomputable def F__law_rows : List Dat → Rs := runD 8 1 g__law_rows
noncomputable def g_law : Ev → Fl := (bCons (sSet 1 (dCal F__law_graph (aCons (dV 0) (aCons (dC (.int 0)) aNil))))
      (bCons (sSet 2 (dCal F__law_graph (aCons (dV 0) (aCons (dC (.int 80)) aNil))))
      (bCons (sSet 3 (dM "str" joinD (dC (.str "\n")) (aCons (dCal F__law_rows (aCons (dV 1) aNil)) aNil)))
      (bCons (sSet 4 (dCal F_read (aCons (dV 3) aNil)))
      (bCons (sIf (tOrD (tNotD (dT (dCal (F__law_alike 5) (aCons (dV 4) (aCons (dV 1) aNil))))) (tNotD (dT (dCal (F__law_alike 5) (aCons (dCal F_read (aCons (dCal F_shown (aCons (dV 2) aNil)) aNil)) (aCons (dV 2) aNil)))))) (sRet (dC (.bl false))) bNil)
      (sRet (dAnd (dCal (F__law_alike 5) (aCons (dCal F_read (aCons (dV 3) aNil)) (aCons (dV 1) aNil))) (dCal (F__law_alike 5) (aCons (dCal F_shown (aCons (dV 4) aNil)) (aCons (dV 3) aNil))))))))))
noncomputable def F_law : List Dat → Rs := runD 5 1 g_law
end K14
namespace K14
open PySem PySem.Spec PyProof.Rows L2
noncomputable def top (i : Nat) : Stmt := PySem.Challenge.pw_calmwires_k14_texts_read_back.main.body.getD i (.Pass ⟨0, 0, 0, 0⟩)
noncomputable abbrev s_is_name : Stmt := top 7
theorem sc_is_name : FnScope ["text"] ["text"] (defScope s_is_name) := ⟨rfl, rfl, rfl, by decide +kernel, rfl, by decide +kernel, by decide +kernel⟩
noncomputable abbrev s_names : Stmt := top 8
theorem sc_names : FnScope ["graph"] ["graph"] (defScope s_names) := ⟨rfl, rfl, rfl, by decide +kernel, rfl, by decide +kernel, by decide +kernel⟩
noncomputable abbrev s_bits : Stmt := top 9
theorem sc_bits : FnScope ["some", "number", "place"] ["some"] (defScope s_bits) := ⟨rfl, rfl, rfl, by decide +kernel, rfl, by decide +kernel, by decide +kernel⟩
noncomputable abbrev s_has_one : Stmt := top 11
theorem sc_has_one : FnScope ["number", "place"] ["number", "place"] (defScope s_has_one) := ⟨rfl, rfl, rfl, by decide +kernel, rfl, by decide +kernel, by decide +kernel⟩
noncomputable abbrev s_ones : Stmt := top 10
theorem sc_ones : FnScope ["number"] ["number"] (defScope s_ones) := ⟨rfl, rfl, rfl, by decide +kernel, rfl, by decide +kernel, by decide +kernel⟩
noncomputable abbrev s_written : Stmt := top 22
theorem sc_written : FnScope ["spots"] ["spots"] (defScope s_written) := ⟨rfl, rfl, rfl, by decide +kernel, rfl, by decide +kernel, by decide +kernel⟩
noncomputable abbrev s_start_row : Stmt := top 21
theorem sc_start_row : FnScope ["marks", "code", "known", "up"] ["marks", "code", "known"] (defScope s_start_row) := ⟨rfl, rfl, rfl, by decide +kernel, rfl, by decide +kernel, by decide +kernel⟩
noncomputable abbrev s_step_row : Stmt := top 20
theorem sc_step_row : FnScope ["step", "known", "ahead"] ["step", "known"] (defScope s_step_row) := ⟨rfl, rfl, rfl, by decide +kernel, rfl, by decide +kernel, by decide +kernel⟩
noncomputable abbrev s_shown : Stmt := top 19
theorem sc_shown : FnScope ["graph", "known", "rows"] ["graph"] (defScope s_shown) := ⟨rfl, rfl, rfl, by decide +kernel, rfl, by decide +kernel, by decide +kernel⟩
noncomputable abbrev s_read_wire : Stmt := top 25
theorem sc_read_wire : FnScope ["row", "known", "words"] ["row", "known"] (defScope s_read_wire) := ⟨rfl, rfl, rfl, by decide +kernel, rfl, by decide +kernel, by decide +kernel⟩
noncomputable abbrev s_read_wires : Stmt := top 24
theorem sc_read_wires : FnScope ["rows", "wires", "known", "row", "wire"] ["rows"] (defScope s_read_wires) := ⟨rfl, rfl, rfl, by decide +kernel, rfl, by decide +kernel, by decide +kernel⟩
noncomputable abbrev s_rising : Stmt := top 32
theorem sc_rising : FnScope ["numbers"] ["numbers"] (defScope s_rising) := ⟨rfl, rfl, rfl, by decide +kernel, rfl, by decide +kernel, by decide +kernel⟩
noncomputable abbrev s_is_spot : Stmt := top 30
theorem sc_is_spot : FnScope ["word"] ["word"] (defScope s_is_spot) := ⟨rfl, rfl, rfl, by decide +kernel, rfl, by decide +kernel, by decide +kernel⟩
noncomputable abbrev s_read_spots : Stmt := top 29
theorem sc_read_spots : FnScope ["words"] ["words"] (defScope s_read_spots) := ⟨rfl, rfl, rfl, by decide +kernel, rfl, by decide +kernel, by decide +kernel⟩
noncomputable abbrev s_read_step : Stmt := top 27
theorem sc_read_step : FnScope ["row", "known", "words", "arrow", "takes", "fills"] ["row", "known"] (defScope s_read_step) := ⟨rfl, rfl, rfl, by decide +kernel, rfl, by decide +kernel, by decide +kernel⟩
noncomputable abbrev s_read_steps : Stmt := top 26
theorem sc_read_steps : FnScope ["rows", "known", "steps", "row", "step"] ["rows", "known"] (defScope s_read_steps) := ⟨rfl, rfl, rfl, by decide +kernel, rfl, by decide +kernel, by decide +kernel⟩
noncomputable abbrev s_read_up : Stmt := top 31
theorem sc_read_up : FnScope ["words", "known"] ["words", "known"] (defScope s_read_up) := ⟨rfl, rfl, rfl, by decide +kernel, rfl, by decide +kernel, by decide +kernel⟩
noncomputable abbrev s_read_start : Stmt := top 28
theorem sc_read_start : FnScope ["row", "known", "words", "colon", "spots", "up"] ["row", "known"] (defScope s_read_start) := ⟨rfl, rfl, rfl, by decide +kernel, rfl, by decide +kernel, by decide +kernel⟩
noncomputable abbrev s_read : Stmt := top 23
theorem sc_read : FnScope ["text", "rows", "wires", "known", "steps", "at", "start"] ["text"] (defScope s_read) := ⟨rfl, rfl, rfl, by decide +kernel, rfl, by decide +kernel, by decide +kernel⟩
noncomputable abbrev s__law_alike : Stmt := top 34
theorem sc__law_alike : FnScope ["_law_got", "_law_due", "_law_k"] ["_law_got", "_law_due"] (defScope s__law_alike) := ⟨rfl, rfl, rfl, by decide +kernel, rfl, by decide +kernel, by decide +kernel⟩
noncomputable abbrev s__law_mix : Stmt := top 35
theorem sc__law_mix : FnScope ["_law_script", "_law_k", "_law_number"] ["_law_script", "_law_k"] (defScope s__law_mix) := ⟨rfl, rfl, rfl, by decide +kernel, rfl, by decide +kernel, by decide +kernel⟩
noncomputable abbrev s__law_name : Stmt := top 36
theorem sc__law_name : FnScope ["_law_cell", "_law_word", "_law_rest", "_law_k"] ["_law_cell"] (defScope s__law_name) := ⟨rfl, rfl, rfl, by decide +kernel, rfl, by decide +kernel, by decide +kernel⟩
noncomputable abbrev s__law_wire_names : Stmt := top 37
theorem sc__law_wire_names : FnScope ["_law_script", "_law_first", "_law_many", "_law_words", "_law_letters", "_law_k", "_law_cell", "_law_word", "_law_at"] ["_law_script", "_law_first", "_law_many"] (defScope s__law_wire_names) := ⟨rfl, rfl, rfl, by decide +kernel, rfl, by decide +kernel, by decide +kernel⟩
noncomputable abbrev s__law_spots : Stmt := top 38
theorem sc__law_spots : FnScope ["_law_cell", "_law_many", "_law_far"] ["_law_cell"] (defScope s__law_spots) := ⟨rfl, rfl, rfl, by decide +kernel, rfl, by decide +kernel, by decide +kernel⟩
noncomputable abbrev s__law_graph : Stmt := top 39
theorem sc__law_graph : FnScope ["_law_script", "_law_first", "_law_cell", "_law_many", "_law_words", "_law_kinds", "_law_wires", "_law_k", "_law_steps", "_law_more", "_law_fills", "_law_takes", "_law_low", "_law_marks"] ["_law_script", "_law_first"] (defScope s__law_graph) := ⟨rfl, rfl, rfl, by decide +kernel, rfl, by decide +kernel, by decide +kernel⟩
noncomputable abbrev s__law_places : Stmt := top 40
theorem sc__law_places : FnScope ["_law_number", "_law_some", "_law_place"] ["_law_number"] (defScope s__law_places) := ⟨rfl, rfl, rfl, by decide +kernel, rfl, by decide +kernel, by decide +kernel⟩
noncomputable abbrev s__law_step_words : Stmt := top 41
theorem sc__law_step_words : FnScope ["_law_wires", "_law_step", "_law_wire", "_law_up", "_law_takes", "_law_fills", "_law_words"] ["_law_wires", "_law_step"] (defScope s__law_step_words) := ⟨rfl, rfl, rfl, by decide +kernel, rfl, by decide +kernel, by decide +kernel⟩
noncomputable abbrev s__law_rows : Stmt := top 42
theorem sc__law_rows : FnScope ["_law_graph_here", "_law_wires", "_law_steps", "_law_marks", "_law_code", "_law_rows_here", "_law_step", "_law_words"] ["_law_graph_here"] (defScope s__law_rows) := ⟨rfl, rfl, rfl, by decide +kernel, rfl, by decide +kernel, by decide +kernel⟩
noncomputable abbrev s_law : Stmt := top 43
theorem sc_law : FnScope ["_law_script", "_law_graph_here", "_law_other", "_law_text", "_law_got"] ["_law_script"] (defScope s_law) := ⟨rfl, rfl, rfl, by decide +kernel, rfl, by decide +kernel, by decide +kernel⟩
structure Txt (K : PySem.W.Frag) (mg : Str → Option Value) : Prop where
  b_all : mg "all" = none
  b_bool : mg "bool" = none
  b_int : mg "int" = none
  b_isinstance : mg "isinstance" = none
  b_len : mg "len" = none
  b_list : mg "list" = none
  b_range : mg "range" = none
  b_set : mg "set" = none
  b_sorted : mg "sorted" = none
  b_str : mg "str" = none
  b_tuple : mg "tuple" = none
  c_DIRECTIONS : Glo K mg "DIRECTIONS" c_DIRECTIONS
  c_FIGURES : Glo K mg "FIGURES" c_FIGURES
  c_KINDS : Glo K mg "KINDS" c_KINDS
  c_LAST_SPOT : Glo K mg "LAST_SPOT" c_LAST_SPOT
  c_LETTERS : Glo K mg "LETTERS" c_LETTERS
  c_LONGEST_NAME : Glo K mg "LONGEST_NAME" c_LONGEST_NAME
  c_MOST_STEPS : Glo K mg "MOST_STEPS" c_MOST_STEPS
  c_MOST_WIRES : Glo K mg "MOST_WIRES" c_MOST_WIRES
  c_WORDS : Glo K mg "WORDS" c_WORDS
section
variable {P : Program} {w : World} {K : PySem.W.Frag} {mg : Str → Option Value} {base : Heap}
theorem g_DIRECTIONS {X : Cx} {m : Bool} {p : Pos} (T : Txt X.K X.mg) (hg : Gl X "DIRECTIONS" := by rfl) : PXd m X (.Name "DIRECTIONS" p) (dC c_DIRECTIONS) := T.c_DIRECTIONS.x hg
theorem g_FIGURES {X : Cx} {m : Bool} {p : Pos} (T : Txt X.K X.mg) (hg : Gl X "FIGURES" := by rfl) : PXd m X (.Name "FIGURES" p) (dC c_FIGURES) := T.c_FIGURES.x hg
theorem g_KINDS {X : Cx} {m : Bool} {p : Pos} (T : Txt X.K X.mg) (hg : Gl X "KINDS" := by rfl) : PXd m X (.Name "KINDS" p) (dC c_KINDS) := T.c_KINDS.x hg
theorem g_LAST_SPOT {X : Cx} {m : Bool} {p : Pos} (T : Txt X.K X.mg) (hg : Gl X "LAST_SPOT" := by rfl) : PXd m X (.Name "LAST_SPOT" p) (dC c_LAST_SPOT) := T.c_LAST_SPOT.x hg
theorem g_LETTERS {X : Cx} {m : Bool} {p : Pos} (T : Txt X.K X.mg) (hg : Gl X "LETTERS" := by rfl) : PXd m X (.Name "LETTERS" p) (dC c_LETTERS) := T.c_LETTERS.x hg
theorem g_LONGEST_NAME {X : Cx} {m : Bool} {p : Pos} (T : Txt X.K X.mg) (hg : Gl X "LONGEST_NAME" := by rfl) : PXd m X (.Name "LONGEST_NAME" p) (dC c_LONGEST_NAME) := T.c_LONGEST_NAME.x hg
theorem g_MOST_STEPS {X : Cx} {m : Bool} {p : Pos} (T : Txt X.K X.mg) (hg : Gl X "MOST_STEPS" := by rfl) : PXd m X (.Name "MOST_STEPS" p) (dC c_MOST_STEPS) := T.c_MOST_STEPS.x hg
theorem g_MOST_WIRES {X : Cx} {m : Bool} {p : Pos} (T : Txt X.K X.mg) (hg : Gl X "MOST_WIRES" := by rfl) : PXd m X (.Name "MOST_WIRES" p) (dC c_MOST_WIRES) := T.c_MOST_WIRES.x hg
theorem g_WORDS {X : Cx} {m : Bool} {p : Pos} (T : Txt X.K X.mg) (hg : Gl X "WORDS" := by rfl) : PXd m X (.Name "WORDS" p) (dC c_WORDS) := T.c_WORDS.x hg
end
end K14
namespace K14
open PySem PySem.Spec PyProof.Rows L2
section
variable {P : Program} {w : World} {K : PySem.W.Frag} {mg : Str → Option Value} {base : Heap}
theorem c_is_name (Df : Def K mg "is_name" s_is_name) (T : Txt K mg)   : CalD P w K mg base 1 "is_name" ["text"] false F_is_name :=
  cal_d (N := ["text"]) (ps := ["text"]) (st := s_is_name) (k := 0) (g := g_is_name) Df sc_is_name (fun _ _ _ _ _ _ us hl => ar1 us hl fun _ => rfl) (fun f cdv A outer s H E hr => (by
      unfold g_is_name
      refine (b_cons (s_if (PWd.pt (w_or (tcmp o_lt (xcallB (m := true) c_len (by rfl) T.b_len (by decide +kernel) (a_cons (xv (m := true) 0) a_nil)) (xint (m := true)) (nomark _)) (w_or (tcmp o_gt (xcallB (m := true) c_len (by rfl) T.b_len (by decide +kernel) (a_cons (xv (m := true) 0) a_nil)) (g_LONGEST_NAME (m := true) T) (nomark _)) (w_or1 (tcmp (o_in hr.units) (xv (m := true) 0) (g_WORDS (m := true) T) (by rfl)))))) (b_one (s_ret (xbl (m := false)))) b_nil)
      (b_one (s_ret (xcallB (m := false) (c_all rfl) (by rfl) T.b_all (by decide +kernel) (a_cons (PNd.x (m := true) ?c0) a_nil)))))
      case c0 => exact n_comp (defScope s_is_name) [none] ["sign"] rfl (show CompOk (defScope s_is_name) _ ["text"] ["sign"] [none] from CompOk.of (by decide +kernel)) rfl (i_str (xv (m := true) 0)) (fun _ _ _ _ => ⟨(g_name 0 (show (["sign"] : List Str).Nodup from by decide +kernel) rfl (Or.inl rfl)), f_nil, (xcmp (m := false) (o_in hr.units) (xv (m := true) 0) (g_LETTERS (m := true) T) (by rfl))⟩) (by decide)))
end
end K14
namespace K14
open PySem PySem.Spec PyProof.Rows L2
section
variable {P : Program} {w : World} {K : PySem.W.Frag} {mg : Str → Option Value} {base : Heap}
theorem c_names (Df : Def K mg "names" s_names) (T : Txt K mg)   : CalD P w K mg base 1 "names" ["graph"] true F_names :=
  cal_d (N := ["graph"]) (ps := ["graph"]) (st := s_names) (k := 0) (g := g_names) Df sc_names (fun _ _ _ _ _ _ us hl => ar1 us hl fun _ => rfl) (fun f cdv A outer s H E hr => (by
      unfold g_names
      refine (b_one (s_retN ?c0))
      case c0 => exact n_comp (defScope s_names) [none, none] ["name", "kind"] rfl (show CompOk (defScope s_names) _ ["graph"] ["name", "kind"] [none, none] from CompOk.of (by decide +kernel)) rfl (i_seqP (xix (m := true) o_ix (xv (m := true) 0) (xint (m := true)) (fun _ _ => rfl))) (fun _ _ _ _ => ⟨(g_tup (n := 2) rfl (gs_cons (g_name 0 (show (["name", "kind"] : List Str).Nodup from by decide +kernel) rfl (Or.inl rfl)) (gs_cons (g_name 1 (show (["name", "kind"] : List Str).Nodup from by decide +kernel) rfl (Or.inl rfl)) gs_nil))), f_nil, (xv (m := false) 0)⟩) (by decide)))
end
end K14
namespace K14
open PySem PySem.Spec PyProof.Rows L2
section
variable {P : Program} {w : World} {K : PySem.W.Frag} {mg : Str → Option Value} {base : Heap}
theorem c_bits (Df : Def K mg "bits" s_bits) (T : Txt K mg)   : CalD P w K mg base 1 "bits" ["some"] false F_bits :=
  cal_d (N := ["some", "number", "place"]) (ps := ["some"]) (st := s_bits) (k := 0) (g := g_bits) Df sc_bits (fun _ _ _ _ _ _ us hl => ar1 us hl fun _ => rfl) (fun f cdv A outer s H E hr => (by
      unfold g_bits
      exact (b_cons (s_set 1 sc_bits.nd rfl (Or.inl rfl) (xint (m := false)))
      (b_cons (s_for PassesOwn.never rfl (i_seq (xv (m := false) 0)) (g_name 2 sc_bits.nd rfl (Or.inl rfl)) (b_one (s_set 1 sc_bits.nd rfl (Or.inl rfl) (xop (m := false) o_or (xv (m := true) 1) (xop (m := true) o_shl (xint (m := true)) (xv (m := true) 2))))))
      (b_one (s_ret (xv (m := false) 1)))))))
end
end K14
namespace K14
open PySem PySem.Spec PyProof.Rows L2
section
variable {P : Program} {w : World} {K : PySem.W.Frag} {mg : Str → Option Value} {base : Heap}
theorem c_has_one (Df : Def K mg "has_one" s_has_one) (T : Txt K mg)   : CalD P w K mg base 1 "has_one" ["number", "place"] false F_has_one :=
  cal_d (N := ["number", "place"]) (ps := ["number", "place"]) (st := s_has_one) (k := 0) (g := g_has_one) Df sc_has_one (fun _ _ _ _ _ _ us hl => ar2 us hl fun _ _ => rfl) (fun f cdv A outer s H E hr => (by
      unfold g_has_one
      exact (b_one (s_ret (xcmp (m := false) (o_eq hr.units) (xop (m := true) o_and (xop (m := true) o_shr (xv (m := true) 0) (xv (m := true) 1)) (xint (m := true))) (xint (m := true)) (nomark _))))))
end
end K14
namespace K14
open PySem PySem.Spec PyProof.Rows L2
section
variable {P : Program} {w : World} {K : PySem.W.Frag} {mg : Str → Option Value} {base : Heap}
theorem c_ones (Df : Def K mg "ones" s_ones) (T : Txt K mg)  (C_has_one : CalD P w K mg base 1 "has_one" ["number", "place"] false F_has_one) : CalD P w K mg base 2 "ones" ["number"] true F_ones :=
  cal_d (N := ["number"]) (ps := ["number"]) (st := s_ones) (k := 1) (g := g_ones) Df sc_ones (fun _ _ _ _ _ _ us hl => ar1 us hl fun _ => rfl) (fun f cdv A outer s H E hr => (by
      unfold g_ones
      refine (b_one (s_retN ?c0))
      case c0 => exact n_comp (defScope s_ones) [none, some 0] ["place", "number"] rfl (show CompOk (defScope s_ones) _ ["number"] ["place", "number"] [none, some 0] from CompOk.of (by decide +kernel)) rfl (i_range1 (by rfl) T.b_range (a_cons (xbm0 (m := true) PySem.F.plainAttrs_int PySem.F.slot_int_bit_length PySem.F.type_int_bit_length m_bitlen (xv (m := true) 0)) a_nil)) (fun _ _ _ _ => ⟨(g_name 0 (show (["place", "number"] : List Str).Nodup from by decide +kernel) rfl (Or.inl rfl)), (f_one (tval (xcal (m := true) C_has_one (hr.mono (by omega)) (a_cons (xv (m := false) 1) (a_cons (xv (m := false) 0) a_nil))))), (xv (m := false) 0)⟩) (by decide)))
end
end K14
namespace K14
open PySem PySem.Spec PyProof.Rows L2
section
variable {P : Program} {w : World} {K : PySem.W.Frag} {mg : Str → Option Value} {base : Heap}
theorem c_written (Df : Def K mg "written" s_written) (T : Txt K mg)   : CalD P w K mg base 1 "written" ["spots"] true F_written :=
  cal_d (N := ["spots"]) (ps := ["spots"]) (st := s_written) (k := 0) (g := g_written) Df sc_written (fun _ _ _ _ _ _ us hl => ar1 us hl fun _ => rfl) (fun f cdv A outer s H E hr => (by
      unfold g_written
      refine (b_one (s_retN ?c0))
      case c0 => exact n_comp (defScope s_written) [none] ["spot"] rfl (show CompOk (defScope s_written) _ ["spots"] ["spot"] [none] from CompOk.of (by decide +kernel)) rfl (i_seqP (xv (m := true) 0)) (fun _ _ _ _ => ⟨(g_name 0 (show (["spot"] : List Str).Nodup from by decide +kernel) rfl (Or.inl rfl)), f_nil, (xcallT (m := false) c_str (by rfl) T.b_str (by decide +kernel) (a_cons (xv (m := true) 0) a_nil))⟩) (by decide)))
end
end K14
namespace K14
open PySem PySem.Spec PyProof.Rows L2
section
variable {P : Program} {w : World} {K : PySem.W.Frag} {mg : Str → Option Value} {base : Heap}
theorem c_start_row (Df : Def K mg "start_row" s_start_row) (T : Txt K mg)  (C_ones : CalD P w K mg base 2 "ones" ["number"] true F_ones) (C_written : CalD P w K mg base 1 "written" ["spots"] true F_written) : CalD P w K mg base 3 "start_row" ["marks", "code", "known"] false F_start_row :=
  cal_d (N := ["marks", "code", "known", "up"]) (ps := ["marks", "code", "known"]) (st := s_start_row) (k := 2) (g := g_start_row) Df sc_start_row (fun _ _ _ _ _ _ us hl => ar3 us hl fun _ _ _ => rfl) (fun f cdv A outer s H E hr => (by
      unfold g_start_row
      exact (b_cons (s_setC 3 sc_start_row.nd rfl (Or.inl rfl) (defScope s_start_row) [none, some 2] ["wire", "known"] rfl (show CompOk (defScope s_start_row) _ ["marks", "code", "known", "up"] ["wire", "known"] [none, some 2] from CompOk.of (by decide +kernel)) rfl (i_seqP (xcal (m := true) C_ones (hr.mono (by omega)) (a_cons (xv (m := false) 1) a_nil))) (fun _ _ _ _ => ⟨(g_name 0 (show (["wire", "known"] : List Str).Nodup from by decide +kernel) rfl (Or.inl rfl)), f_nil, (xix (m := false) o_ix (xv (m := true) 1) (xv (m := true) 0) (fun _ _ => rfl))⟩) (by decide))
      (b_one (s_ret (xbm (m := false) PySem.F.plainAttrs_str PySem.F.slot_str_join PySem.F.type_str_join m_join (xstr (m := true)) (a_cons (xop (m := true) o_add (xop (m := true) o_add (xop (m := true) o_add (PNd.x (m := true) (nlst (a_cons (xstr (m := false)) a_nil))) (xcal (m := true) C_written (hr.mono (by omega)) (a_cons (xcal (m := false) C_ones (hr.mono (by omega)) (a_cons (xv (m := false) 0) a_nil)) a_nil))) (PNd.x (m := true) (nlst (a_cons (xstr (m := false)) a_nil)))) (xv (m := true) 3)) a_nil)))))))
end
end K14
namespace K14
open PySem PySem.Spec PyProof.Rows L2
section
variable {P : Program} {w : World} {K : PySem.W.Frag} {mg : Str → Option Value} {base : Heap}
theorem c_step_row (Df : Def K mg "step_row" s_step_row) (T : Txt K mg)  (C_written : CalD P w K mg base 1 "written" ["spots"] true F_written) : CalD P w K mg base 2 "step_row" ["step", "known"] false F_step_row :=
  cal_d (N := ["step", "known", "ahead"]) (ps := ["step", "known"]) (st := s_step_row) (k := 1) (g := g_step_row) Df sc_step_row (fun _ _ _ _ _ _ us hl => ar2 us hl fun _ _ => rfl) (fun f cdv A outer s H E hr => (by
      unfold g_step_row
      exact (b_cons (s_set 2 sc_step_row.nd rfl (Or.inl rfl) (PNd.x (m := false) (nlst (a_cons (xif (m := false) (tval (xix (m := true) o_ix (xv (m := true) 0) (xint (m := true)) (fun _ _ => rfl))) (xstr (m := false)) (xstr (m := false))) (a_cons (xix (m := false) o_ix (xv (m := true) 1) (xix (m := true) o_ix (xv (m := true) 0) (xint (m := true)) (fun _ _ => rfl)) (fun _ _ => rfl)) (a_cons (xstr (m := false)) a_nil))))))
      (b_one (s_ret (xbm (m := false) PySem.F.plainAttrs_str PySem.F.slot_str_join PySem.F.type_str_join m_join (xstr (m := true)) (a_cons (xop (m := true) o_add (xop (m := true) o_add (xop (m := true) o_add (xv (m := true) 2) (xcal (m := true) C_written (hr.mono (by omega)) (a_cons (xix (m := false) o_ix (xv (m := true) 0) (xint (m := true)) (fun _ _ => rfl)) a_nil))) (PNd.x (m := true) (nlst (a_cons (xstr (m := false)) a_nil)))) (xcal (m := true) C_written (hr.mono (by omega)) (a_cons (xix (m := false) o_ix (xv (m := true) 0) (xint (m := true)) (fun _ _ => rfl)) a_nil))) a_nil)))))))
end
end K14
namespace K14
open PySem PySem.Spec PyProof.Rows L2
section
variable {P : Program} {w : World} {K : PySem.W.Frag} {mg : Str → Option Value} {base : Heap}
theorem c_shown (Df : Def K mg "shown" s_shown) (T : Txt K mg)  (C_names : CalD P w K mg base 1 "names" ["graph"] true F_names) (C_start_row : CalD P w K mg base 3 "start_row" ["marks", "code", "known"] false F_start_row) (C_step_row : CalD P w K mg base 2 "step_row" ["step", "known"] false F_step_row) : CalD P w K mg base 4 "shown" ["graph"] false F_shown :=
  cal_d (N := ["graph", "known", "rows"]) (ps := ["graph"]) (st := s_shown) (k := 3) (g := g_shown) Df sc_shown (fun _ _ _ _ _ _ us hl => ar1 us hl fun _ => rfl) (fun f cdv A outer s H E hr => (by
      unfold g_shown
      refine (b_cons (s_set 1 sc_shown.nd rfl (Or.inr rfl) (xcal (m := false) C_names (hr.mono (by omega)) (a_cons (xv (m := false) 0) a_nil)))
      (b_cons (s_ownC 2 sc_shown.nd rfl (Or.inl rfl) (defScope s_shown) [none, none] ["name", "kind"] rfl (show CompOk (defScope s_shown) _ ["graph", "known", "rows"] ["name", "kind"] [none, none] from CompOk.of (by decide +kernel)) rfl (i_seqP (xix (m := true) o_ix (xv (m := true) 0) (xint (m := true)) (fun _ _ => rfl))) (fun _ _ _ _ => ⟨(g_tup (n := 2) rfl (gs_cons (g_name 0 (show (["name", "kind"] : List Str).Nodup from by decide +kernel) rfl (Or.inl rfl)) (gs_cons (g_name 1 (show (["name", "kind"] : List Str).Nodup from by decide +kernel) rfl (Or.inl rfl)) gs_nil))), f_nil, (xjoined (j_fmt (xv (m := true) 1) (j_lit (j_fmt (xv (m := true) 0) j_nil))))⟩) (by decide))
      (b_cons (s_meth 2 PySem.F.slot_list_extend PySem.F.type_list_extend m_extend (a_cons (PNd.x (m := false) ?c0) a_nil))
      (b_cons (s_meth 2 PySem.F.slot_list_append PySem.F.type_list_append m_append (a_cons (xcal (m := false) C_start_row (hr.mono (by omega)) (a_cons (xix (m := false) o_ix (xv (m := true) 0) (xint (m := true)) (fun _ _ => rfl)) (a_cons (xix (m := false) o_ix (xv (m := true) 0) (xint (m := true)) (fun _ _ => rfl)) (a_cons (xv (m := false) 1) a_nil)))) a_nil))
      (b_one (s_ret (xbm (m := false) PySem.F.plainAttrs_str PySem.F.slot_str_join PySem.F.type_str_join m_join (xstr (m := true)) (a_cons (xo 2) a_nil))))))))
      case c0 => exact n_comp (defScope s_shown) [none, some 1] ["step", "known"] rfl (show CompOk (defScope s_shown) _ ["graph", "known", "rows"] ["step", "known"] [none, some 1] from CompOk.of (by decide +kernel)) rfl (i_seqP (xix (m := true) o_ix (xv (m := true) 0) (xint (m := true)) (fun _ _ => rfl))) (fun _ _ _ _ => ⟨(g_name 0 (show (["step", "known"] : List Str).Nodup from by decide +kernel) rfl (Or.inl rfl)), f_nil, (xcal (m := false) C_step_row (hr.mono (by omega)) (a_cons (xv (m := false) 0) (a_cons (xv (m := false) 1) a_nil)))⟩) (by decide)))
end
end K14
namespace K14
open PySem PySem.Spec PyProof.Rows L2
section
variable {P : Program} {w : World} {K : PySem.W.Frag} {mg : Str → Option Value} {base : Heap}
theorem c_read_wire (Df : Def K mg "read_wire" s_read_wire) (T : Txt K mg)  (C_is_name : CalD P w K mg base 1 "is_name" ["text"] false F_is_name) : CalD P w K mg base 2 "read_wire" ["row", "known"] false F_read_wire :=
  cal_d (N := ["row", "known", "words"]) (ps := ["row", "known"]) (st := s_read_wire) (k := 1) (g := g_read_wire) Df sc_read_wire (fun _ _ _ _ _ _ us hl => ar2 us hl fun _ _ => rfl) (fun f cdv A outer s H E hr => (by
      unfold g_read_wire
      exact (b_cons (s_set 2 sc_read_wire.nd rfl (Or.inl rfl) (PNd.x (m := false) (nbm PySem.F.plainAttrs_str PySem.F.slot_str_split PySem.F.type_str_split m_split (xv (m := true) 0) (a_cons (xstr (m := true)) a_nil))))
      (b_cons (s_if (PWd.pt (w_or (tcmp (o_ne hr.units) (xcallB (m := true) c_len (by rfl) T.b_len (by decide +kernel) (a_cons (xv (m := true) 2) a_nil)) (xint (m := true)) (nomark _)) (w_or1 (tcmp (o_nin hr.units) (xix (m := true) o_ix (xv (m := true) 2) (xint (m := true)) (fun _ _ => rfl)) (g_KINDS (m := true) T) (by rfl))))) (b_one (s_ret (xnon (m := false)))) b_nil)
      (b_cons (s_if (PWd.pt (w_or (tnot (tval (xcal (m := true) C_is_name (hr.mono (by omega)) (a_cons (xix (m := false) o_ix (xv (m := true) 2) (xint (m := true)) (fun _ _ => rfl)) a_nil)))) (w_or1 (tcmp (o_in hr.units) (xix (m := true) o_ix (xv (m := true) 2) (xint (m := true)) (fun _ _ => rfl)) (xv (m := true) 1) (by rfl))))) (b_one (s_ret (xnon (m := false)))) b_nil)
      (b_one (s_ret (xtup (m := false) (a_cons (xix (m := false) o_ix (xv (m := true) 2) (xint (m := true)) (fun _ _ => rfl)) (a_cons (xix (m := false) o_ix (xv (m := true) 2) (xint (m := true)) (fun _ _ => rfl)) a_nil))))))))))
end
end K14
namespace K14
open PySem PySem.Spec PyProof.Rows L2
section
variable {P : Program} {w : World} {K : PySem.W.Frag} {mg : Str → Option Value} {base : Heap}
theorem c_read_wires (Df : Def K mg "read_wires" s_read_wires) (T : Txt K mg)  (C_read_wire : CalD P w K mg base 2 "read_wire" ["row", "known"] false F_read_wire) : CalD P w K mg base 3 "read_wires" ["rows"] true F_read_wires :=
  cal_d (N := ["rows", "wires", "known", "row", "wire"]) (ps := ["rows"]) (st := s_read_wires) (k := 2) (g := g_read_wires) Df sc_read_wires (fun _ _ _ _ _ _ us hl => ar1 us hl fun _ => rfl) (fun f cdv A outer s H E hr => (by
      unfold g_read_wires
      exact (b_cons (s_own 1 sc_read_wires.nd rfl (Or.inl rfl) (nlst a_nil))
      (b_cons (s_own 2 sc_read_wires.nd rfl (Or.inl rfl) (nlst a_nil))
      (b_cons (s_for PassesOwn.never rfl (i_seq (xslice (m := false) o_sl (xv (m := true) 0) o_none (o_some (g_MOST_WIRES (m := true) T)))) (g_name 3 sc_read_wires.nd rfl (Or.inl rfl)) (b_cons (s_set 4 sc_read_wires.nd rfl (Or.inl rfl) (xcalP (m := false) C_read_wire (hr.mono (by omega)) (a_cons (xv (m := true) 3) (a_cons (xo 2) a_nil))))
      (b_cons (s_if (tcmp o_is (xv (m := true) 4) (xnon (m := true)) (nomark _)) (b_one (s_retO 1)) b_nil)
      (b_cons (s_meth 1 PySem.F.slot_list_append PySem.F.type_list_append m_append (a_cons (xv (m := false) 4) a_nil))
      (b_one (s_meth 2 PySem.F.slot_list_append PySem.F.type_list_append m_append (a_cons (xix (m := false) o_ix (xv (m := true) 4) (xint (m := true)) (fun _ _ => rfl)) a_nil)))))))
      (b_one (s_retO 1)))))))
end
end K14
namespace K14
open PySem PySem.Spec PyProof.Rows L2
section
variable {P : Program} {w : World} {K : PySem.W.Frag} {mg : Str → Option Value} {base : Heap}
theorem c_rising (Df : Def K mg "rising" s_rising) (T : Txt K mg)   : CalD P w K mg base 1 "rising" ["numbers"] false F_rising :=
  cal_d (N := ["numbers"]) (ps := ["numbers"]) (st := s_rising) (k := 0) (g := g_rising) Df sc_rising (fun _ _ _ _ _ _ us hl => ar1 us hl fun _ => rfl) (fun f cdv A outer s H E hr => (by
      unfold g_rising
      exact (b_one (s_ret (xif (m := false) (tcmp (o_eq hr.units) (xv (m := true) 0) (PNd.x (m := true) (n_sortedset (by rfl) T.b_sorted (by rfl) T.b_set (a_cons (xv (m := true) 0) a_nil))) (nomark _)) (xv (m := false) 0) (xnon (m := false)))))))
end
end K14
namespace K14
open PySem PySem.Spec PyProof.Rows L2
section
variable {P : Program} {w : World} {K : PySem.W.Frag} {mg : Str → Option Value} {base : Heap}
theorem c_is_spot (Df : Def K mg "is_spot" s_is_spot) (T : Txt K mg)   : CalD P w K mg base 1 "is_spot" ["word"] false F_is_spot :=
  cal_d (N := ["word"]) (ps := ["word"]) (st := s_is_spot) (k := 0) (g := g_is_spot) Df sc_is_spot (fun _ _ _ _ _ _ us hl => ar1 us hl fun _ => rfl) (fun f cdv A outer s H E hr => (by
      unfold g_is_spot
      refine (b_cons (s_if (PWd.pt (w_or (tcmp (o_nin hr.units) (xcallB (m := true) c_len (by rfl) T.b_len (by decide +kernel) (a_cons (xv (m := true) 0) a_nil)) (xtup (m := true) (a_cons (xint (m := false)) (a_cons (xint (m := false)) a_nil))) (by rfl)) (w_or1 (tnot (tval (xcallB (m := true) (c_all rfl) (by rfl) T.b_all (by decide +kernel) (a_cons (PNd.x (m := true) ?c0) a_nil))))))) (b_one (s_ret (xbl (m := false)))) b_nil)
      (b_one (s_ret (xand (m := false) (xcmp (m := true) (o_eq hr.units) (xcallT (m := true) c_str (by rfl) T.b_str (by decide +kernel) (a_cons (xcallT (m := true) c_intE (by rfl) T.b_int (by decide +kernel) (a_cons (xv (m := true) 0) a_nil)) a_nil)) (xv (m := true) 0) (nomark _)) (xone (xcmp (m := false) o_le (xcallT (m := true) c_intE (by rfl) T.b_int (by decide +kernel) (a_cons (xv (m := true) 0) a_nil)) (g_LAST_SPOT (m := true) T) (nomark _)))))))
      case c0 => exact n_comp (defScope s_is_spot) [none] ["sign"] rfl (show CompOk (defScope s_is_spot) _ ["word"] ["sign"] [none] from CompOk.of (by decide +kernel)) rfl (i_str (xv (m := true) 0)) (fun _ _ _ _ => ⟨(g_name 0 (show (["sign"] : List Str).Nodup from by decide +kernel) rfl (Or.inl rfl)), f_nil, (xcmp (m := false) (o_in hr.units) (xv (m := true) 0) (g_FIGURES (m := true) T) (by rfl))⟩) (by decide)))
end
end K14
namespace K14
open PySem PySem.Spec PyProof.Rows L2
section
variable {P : Program} {w : World} {K : PySem.W.Frag} {mg : Str → Option Value} {base : Heap}
theorem c_read_spots (Df : Def K mg "read_spots" s_read_spots) (T : Txt K mg)  (C_rising : CalD P w K mg base 1 "rising" ["numbers"] false F_rising) (C_is_spot : CalD P w K mg base 1 "is_spot" ["word"] false F_is_spot) : CalD P w K mg base 2 "read_spots" ["words"] false F_read_spots :=
  cal_d (N := ["words"]) (ps := ["words"]) (st := s_read_spots) (k := 1) (g := g_read_spots) Df sc_read_spots (fun _ _ _ _ _ _ us hl => ar1 us hl fun _ => rfl) (fun f cdv A outer s H E hr => (by
      unfold g_read_spots
      refine (b_cons (s_if (tnot (tval (xcallB (m := true) (c_all rfl) (by rfl) T.b_all (by decide +kernel) (a_cons (PNd.x (m := true) ?c0) a_nil)))) (b_one (s_ret (xnon (m := false)))) b_nil)
      (b_one (s_ret (xcal (m := false) C_rising (hr.mono (by omega)) (a_cons (PNd.x (m := false) ?c1) a_nil)))))
      case c0 => exact n_comp (defScope s_read_spots) [none] ["word"] rfl (show CompOk (defScope s_read_spots) _ ["words"] ["word"] [none] from CompOk.of (by decide +kernel)) rfl (i_seqP (xv (m := true) 0)) (fun _ _ _ _ => ⟨(g_name 0 (show (["word"] : List Str).Nodup from by decide +kernel) rfl (Or.inl rfl)), f_nil, (xcal (m := false) C_is_spot (hr.mono (by omega)) (a_cons (xv (m := false) 0) a_nil))⟩) (by decide)
      case c1 => exact n_comp (defScope s_read_spots) [none] ["word"] rfl (show CompOk (defScope s_read_spots) _ ["words"] ["word"] [none] from CompOk.of (by decide +kernel)) rfl (i_seqP (xv (m := true) 0)) (fun _ _ _ _ => ⟨(g_name 0 (show (["word"] : List Str).Nodup from by decide +kernel) rfl (Or.inl rfl)), f_nil, (xcallT (m := false) c_intE (by rfl) T.b_int (by decide +kernel) (a_cons (xv (m := true) 0) a_nil))⟩) (by decide)))
end
end K14
namespace K14
open PySem PySem.Spec PyProof.Rows L2
section
variable {P : Program} {w : World} {K : PySem.W.Frag} {mg : Str → Option Value} {base : Heap}
theorem c_read_step (Df : Def K mg "read_step" s_read_step) (T : Txt K mg)  (C_read_spots : CalD P w K mg base 2 "read_spots" ["words"] false F_read_spots) : CalD P w K mg base 3 "read_step" ["row", "known"] false F_read_step :=
  cal_d (N := ["row", "known", "words", "arrow", "takes", "fills"]) (ps := ["row", "known"]) (st := s_read_step) (k := 2) (g := g_read_step) Df sc_read_step (fun _ _ _ _ _ _ us hl => ar2 us hl fun _ _ => rfl) (fun f cdv A outer s H E hr => (by
      unfold g_read_step
      exact (b_cons (s_set 2 sc_read_step.nd rfl (Or.inl rfl) (PNd.x (m := false) (nbm PySem.F.plainAttrs_str PySem.F.slot_str_split PySem.F.type_str_split m_split (xv (m := true) 0) (a_cons (xstr (m := true)) a_nil))))
      (b_cons (s_if (PWd.pt (w_or (tcmp o_lt (xcallB (m := true) c_len (by rfl) T.b_len (by decide +kernel) (a_cons (xv (m := true) 2) a_nil)) (xint (m := true)) (nomark _)) (w_or (tcmp (o_nin hr.units) (xix (m := true) o_ix (xv (m := true) 2) (xint (m := true)) (fun _ _ => rfl)) (g_DIRECTIONS (m := true) T) (by rfl)) (w_or1 (tcmp (o_nin hr.units) (xix (m := true) o_ix (xv (m := true) 2) (xint (m := true)) (fun _ _ => rfl)) (xv (m := true) 1) (by rfl)))))) (b_one (s_ret (xnon (m := false)))) b_nil)
      (b_cons (s_if (PWd.pt (w_or (tcmp (o_ne hr.units) (xix (m := true) o_ix (xv (m := true) 2) (xint (m := true)) (fun _ _ => rfl)) (xstr (m := true)) (nomark _)) (w_or1 (tcmp (o_nin hr.units) (xstr (m := true)) (xv (m := true) 2) (by rfl))))) (b_one (s_ret (xnon (m := false)))) b_nil)
      (b_cons (s_set 3 sc_read_step.nd rfl (Or.inl rfl) (xbm (m := false) PySem.F.plainAttrs_list PySem.F.slot_list_index PySem.F.type_list_index (m_indexT hr.units) (xv (m := true) 2) (a_cons (xstr (m := true)) a_nil)))
      (b_cons (s_set 4 sc_read_step.nd rfl (Or.inl rfl) (xcal (m := false) C_read_spots (hr.mono (by omega)) (a_cons (xslice (m := false) o_sl (xv (m := true) 2) (o_some (xint (m := true))) (o_some (xv (m := true) 3))) a_nil)))
      (b_cons (s_set 5 sc_read_step.nd rfl (Or.inl rfl) (xcal (m := false) C_read_spots (hr.mono (by omega)) (a_cons (xslice (m := false) o_sl (xv (m := true) 2) (o_some (xop (m := true) o_add (xv (m := true) 3) (xint (m := true)))) o_none) a_nil)))
      (b_cons (s_if (PWd.pt (w_or (tcmp o_is (xv (m := true) 4) (xnon (m := true)) (nomark _)) (w_or (tcmp o_is (xv (m := true) 5) (xnon (m := true)) (nomark _)) (w_or (tcmp (o_eq hr.units) (xcallB (m := true) c_len (by rfl) T.b_len (by decide +kernel) (a_cons (xv (m := true) 4) a_nil)) (xint (m := true)) (nomark _)) (w_or1 (tcmp (o_eq hr.units) (xcallB (m := true) c_len (by rfl) T.b_len (by decide +kernel) (a_cons (xv (m := true) 5) a_nil)) (xint (m := true)) (nomark _))))))) (b_one (s_ret (xnon (m := false)))) b_nil)
      (b_one (s_ret (xtup (m := false) (a_cons (xbm (m := false) PySem.F.plainAttrs_list PySem.F.slot_list_index PySem.F.type_list_index (m_indexT hr.units) (xv (m := true) 1) (a_cons (xix (m := true) o_ix (xv (m := true) 2) (xint (m := true)) (fun _ _ => rfl)) a_nil)) (a_cons (xcmp (m := false) (o_eq hr.units) (xix (m := true) o_ix (xv (m := true) 2) (xint (m := true)) (fun _ _ => rfl)) (xstr (m := true)) (nomark _)) (a_cons (xcallT (m := false) c_tuple (by rfl) T.b_tuple (by decide +kernel) (a_cons (xv (m := true) 4) a_nil)) (a_cons (xcallT (m := false) c_tuple (by rfl) T.b_tuple (by decide +kernel) (a_cons (xv (m := true) 5) a_nil)) a_nil))))))))))))))))
end
end K14
namespace K14
open PySem PySem.Spec PyProof.Rows L2
section
variable {P : Program} {w : World} {K : PySem.W.Frag} {mg : Str → Option Value} {base : Heap}
theorem c_read_steps (Df : Def K mg "read_steps" s_read_steps) (T : Txt K mg)  (C_read_step : CalD P w K mg base 3 "read_step" ["row", "known"] false F_read_step) : CalD P w K mg base 4 "read_steps" ["rows", "known"] true F_read_steps :=
  cal_d (N := ["rows", "known", "steps", "row", "step"]) (ps := ["rows", "known"]) (st := s_read_steps) (k := 3) (g := g_read_steps) Df sc_read_steps (fun _ _ _ _ _ _ us hl => ar2 us hl fun _ _ => rfl) (fun f cdv A outer s H E hr => (by
      unfold g_read_steps
      exact (b_cons (s_own 2 sc_read_steps.nd rfl (Or.inl rfl) (nlst a_nil))
      (b_cons (s_for PassesOwn.never rfl (i_seq (xslice (m := false) o_sl (xv (m := true) 0) o_none (o_some (g_MOST_STEPS (m := true) T)))) (g_name 3 sc_read_steps.nd rfl (Or.inl rfl)) (b_cons (s_set 4 sc_read_steps.nd rfl (Or.inl rfl) (xcal (m := false) C_read_step (hr.mono (by omega)) (a_cons (xv (m := false) 3) (a_cons (xv (m := false) 1) a_nil))))
      (b_cons (s_if (tcmp o_is (xv (m := true) 4) (xnon (m := true)) (nomark _)) (b_one (s_retO 2)) b_nil)
      (b_one (s_meth 2 PySem.F.slot_list_append PySem.F.type_list_append m_append (a_cons (xv (m := false) 4) a_nil))))))
      (b_one (s_retO 2))))))
end
end K14
namespace K14
open PySem PySem.Spec PyProof.Rows L2
section
variable {P : Program} {w : World} {K : PySem.W.Frag} {mg : Str → Option Value} {base : Heap}
theorem c_read_up (Df : Def K mg "read_up" s_read_up) (T : Txt K mg)  (C_rising : CalD P w K mg base 1 "rising" ["numbers"] false F_rising) : CalD P w K mg base 2 "read_up" ["words", "known"] false F_read_up :=
  cal_d (N := ["words", "known"]) (ps := ["words", "known"]) (st := s_read_up) (k := 1) (g := g_read_up) Df sc_read_up (fun _ _ _ _ _ _ us hl => ar2 us hl fun _ _ => rfl) (fun f cdv A outer s H E hr => (by
      unfold g_read_up
      refine (b_cons (s_if (tnot (tval (xcallB (m := true) (c_all rfl) (by rfl) T.b_all (by decide +kernel) (a_cons (PNd.x (m := true) ?c0) a_nil)))) (b_one (s_ret (xnon (m := false)))) b_nil)
      (b_one (s_ret (xcal (m := false) C_rising (hr.mono (by omega)) (a_cons (PNd.x (m := false) ?c1) a_nil)))))
      case c0 => exact n_comp (defScope s_read_up) [none, some 1] ["word", "known"] rfl (show CompOk (defScope s_read_up) _ ["words", "known"] ["word", "known"] [none, some 1] from CompOk.of (by decide +kernel)) rfl (i_seqP (xv (m := true) 0)) (fun _ _ _ _ => ⟨(g_name 0 (show (["word", "known"] : List Str).Nodup from by decide +kernel) rfl (Or.inl rfl)), f_nil, (xcmp (m := false) (o_in hr.units) (xv (m := true) 0) (xv (m := true) 1) (by rfl))⟩) (by decide)
      case c1 => exact n_comp (defScope s_read_up) [none, some 1] ["word", "known"] rfl (show CompOk (defScope s_read_up) _ ["words", "known"] ["word", "known"] [none, some 1] from CompOk.of (by decide +kernel)) rfl (i_seqP (xv (m := true) 0)) (fun _ _ _ _ => ⟨(g_name 0 (show (["word", "known"] : List Str).Nodup from by decide +kernel) rfl (Or.inl rfl)), f_nil, (xbm (m := false) PySem.F.plainAttrs_list PySem.F.slot_list_index PySem.F.type_list_index (m_indexT hr.units) (xv (m := true) 1) (a_cons (xv (m := true) 0) a_nil))⟩) (by decide)))
end
end K14
namespace K14
open PySem PySem.Spec PyProof.Rows L2
section
variable {P : Program} {w : World} {K : PySem.W.Frag} {mg : Str → Option Value} {base : Heap}
theorem c_read_start (Df : Def K mg "read_start" s_read_start) (T : Txt K mg)  (C_read_spots : CalD P w K mg base 2 "read_spots" ["words"] false F_read_spots) (C_read_up : CalD P w K mg base 2 "read_up" ["words", "known"] false F_read_up) (C_bits : CalD P w K mg base 1 "bits" ["some"] false F_bits) : CalD P w K mg base 3 "read_start" ["row", "known"] false F_read_start :=
  cal_d (N := ["row", "known", "words", "colon", "spots", "up"]) (ps := ["row", "known"]) (st := s_read_start) (k := 2) (g := g_read_start) Df sc_read_start (fun _ _ _ _ _ _ us hl => ar2 us hl fun _ _ => rfl) (fun f cdv A outer s H E hr => (by
      unfold g_read_start
      exact (b_cons (s_set 2 sc_read_start.nd rfl (Or.inl rfl) (PNd.x (m := false) (nbm PySem.F.plainAttrs_str PySem.F.slot_str_split PySem.F.type_str_split m_split (xv (m := true) 0) (a_cons (xstr (m := true)) a_nil))))
      (b_cons (s_if (PWd.pt (w_or (tcmp (o_ne hr.units) (xix (m := true) o_ix (xv (m := true) 2) (xint (m := true)) (fun _ _ => rfl)) (xstr (m := true)) (nomark _)) (w_or1 (tcmp (o_nin hr.units) (xstr (m := true)) (xv (m := true) 2) (by rfl))))) (b_one (s_ret (xnon (m := false)))) b_nil)
      (b_cons (s_set 3 sc_read_start.nd rfl (Or.inl rfl) (xbm (m := false) PySem.F.plainAttrs_list PySem.F.slot_list_index PySem.F.type_list_index (m_indexT hr.units) (xv (m := true) 2) (a_cons (xstr (m := true)) a_nil)))
      (b_cons (s_set 4 sc_read_start.nd rfl (Or.inl rfl) (xcal (m := false) C_read_spots (hr.mono (by omega)) (a_cons (xslice (m := false) o_sl (xv (m := true) 2) (o_some (xint (m := true))) (o_some (xv (m := true) 3))) a_nil)))
      (b_cons (s_set 5 sc_read_start.nd rfl (Or.inl rfl) (xcal (m := false) C_read_up (hr.mono (by omega)) (a_cons (xslice (m := false) o_sl (xv (m := true) 2) (o_some (xop (m := true) o_add (xv (m := true) 3) (xint (m := true)))) o_none) (a_cons (xv (m := false) 1) a_nil))))
      (b_cons (s_if (PWd.pt (w_or (tcmp o_is (xv (m := true) 4) (xnon (m := true)) (nomark _)) (w_or1 (tcmp o_is (xv (m := true) 5) (xnon (m := true)) (nomark _))))) (b_one (s_ret (xnon (m := false)))) b_nil)
      (b_one (s_ret (xtup (m := false) (a_cons (xcal (m := false) C_bits (hr.mono (by omega)) (a_cons (xv (m := false) 4) a_nil)) (a_cons (xcal (m := false) C_bits (hr.mono (by omega)) (a_cons (xv (m := false) 5) a_nil)) a_nil)))))))))))))
end
end K14
namespace K14
open PySem PySem.Spec PyProof.Rows L2
section
variable {P : Program} {w : World} {K : PySem.W.Frag} {mg : Str → Option Value} {base : Heap}
theorem c_read (Df : Def K mg "read" s_read) (T : Txt K mg)  (C_read_wires : CalD P w K mg base 3 "read_wires" ["rows"] true F_read_wires) (C_read_steps : CalD P w K mg base 4 "read_steps" ["rows", "known"] true F_read_steps) (C_read_start : CalD P w K mg base 3 "read_start" ["row", "known"] false F_read_start) : CalD P w K mg base 5 "read" ["text"] false F_read :=
  cal_d (N := ["text", "rows", "wires", "known", "steps", "at", "start"]) (ps := ["text"]) (st := s_read) (k := 4) (g := g_read) Df sc_read (fun _ _ _ _ _ _ us hl => ar1 us hl fun _ => rfl) (fun f cdv A outer s H E hr => (by
      unfold g_read
      exact (b_cons (s_set 1 sc_read.nd rfl (Or.inl rfl) (PNd.x (m := false) (nbm PySem.F.plainAttrs_str PySem.F.slot_str_split PySem.F.type_str_split m_split (xv (m := true) 0) (a_cons (xstr (m := true)) a_nil))))
      (b_cons (s_set 2 sc_read.nd rfl (Or.inl rfl) (xcal (m := false) C_read_wires (hr.mono (by omega)) (a_cons (xv (m := false) 1) a_nil)))
      (b_cons (s_setC 3 sc_read.nd rfl (Or.inl rfl) (defScope s_read) [none, none] ["name", "kind"] rfl (show CompOk (defScope s_read) _ ["text", "rows", "wires", "known", "steps", "at", "start"] ["name", "kind"] [none, none] from CompOk.of (by decide +kernel)) rfl (i_seqP (xv (m := true) 2)) (fun _ _ _ _ => ⟨(g_tup (n := 2) rfl (gs_cons (g_name 0 (show (["name", "kind"] : List Str).Nodup from by decide +kernel) rfl (Or.inl rfl)) (gs_cons (g_name 1 (show (["name", "kind"] : List Str).Nodup from by decide +kernel) rfl (Or.inl rfl)) gs_nil))), f_nil, (xv (m := false) 0)⟩) (by decide))
      (b_cons (s_set 4 sc_read.nd rfl (Or.inl rfl) (xcal (m := false) C_read_steps (hr.mono (by omega)) (a_cons (xslice (m := false) o_sl (xv (m := true) 1) (o_some (xcallB (m := true) c_len (by rfl) T.b_len (by decide +kernel) (a_cons (xv (m := true) 2) a_nil))) o_none) (a_cons (xv (m := false) 3) a_nil))))
      (b_cons (s_set 5 sc_read.nd rfl (Or.inl rfl) (xop (m := false) o_add (xcallB (m := true) c_len (by rfl) T.b_len (by decide +kernel) (a_cons (xv (m := true) 2) a_nil)) (xcallB (m := true) c_len (by rfl) T.b_len (by decide +kernel) (a_cons (xv (m := true) 4) a_nil))))
      (b_cons (s_if (PWd.pt (w_or (tcmp (o_eq hr.units) (xcallB (m := true) c_len (by rfl) T.b_len (by decide +kernel) (a_cons (xv (m := true) 4) a_nil)) (xint (m := true)) (nomark _)) (w_or1 (tcmp (o_eq hr.units) (xv (m := true) 5) (xcallB (m := true) c_len (by rfl) T.b_len (by decide +kernel) (a_cons (xv (m := true) 1) a_nil)) (nomark _))))) (b_one s_no) b_nil)
      (b_cons (s_set 6 sc_read.nd rfl (Or.inl rfl) (xcal (m := false) C_read_start (hr.mono (by omega)) (a_cons (xix (m := false) o_ix (xv (m := true) 1) (xv (m := true) 5) (fun _ _ => rfl)) (a_cons (xv (m := false) 3) a_nil))))
      (b_cons (s_if (tcmp o_is (xv (m := true) 6) (xnon (m := true)) (nomark _)) (b_one s_no) b_nil)
      (b_cons (s_if (tcmp o_gt (xcallB (m := true) c_len (by rfl) T.b_len (by decide +kernel) (a_cons (xv (m := true) 1) a_nil)) (xop (m := true) o_add (xv (m := true) 5) (xint (m := true))) (nomark _)) (b_one s_no) b_nil)
      (b_one (s_ret (xtup (m := false) (a_cons (xcallT (m := false) c_tuple (by rfl) T.b_tuple (by decide +kernel) (a_cons (xv (m := true) 2) a_nil)) (a_cons (xcallT (m := false) c_tuple (by rfl) T.b_tuple (by decide +kernel) (a_cons (xv (m := true) 4) a_nil)) (a_cons (xix (m := false) o_ix (xv (m := true) 6) (xint (m := true)) (fun _ _ => rfl)) (a_cons (xix (m := false) o_ix (xv (m := true) 6) (xint (m := true)) (fun _ _ => rfl)) a_nil))))))))))))))))))
end
end K14
namespace K14
open PySem PySem.Spec PyProof.Rows L2
section
variable {P : Program} {w : World} {K : PySem.W.Frag} {mg : Str → Option Value} {base : Heap}
theorem c__law_alike (Df : Def K mg "_law_alike" s__law_alike) (T : Txt K mg)   : ∀ fl, CalD P w K mg base (fl + 0) "_law_alike" ["_law_got", "_law_due"] false (F__law_alike fl)
  | 0 => ⟨(cal_none Df (fun _ _ _ _ _ _ us hl => match us, hl with | [_, _], _ => rfl)).mono (Nat.zero_le _) |>.imp (fun vs H Q E h => by obtain ⟨_, _, _, _, _, _, z, _⟩ := h; cases z), fun _ _ z => by cases z⟩
  | fl + 1 => by
    have C__law_alike := c__law_alike Df T  fl
    have := cal_d (N := ["_law_got", "_law_due", "_law_k"]) (ps := ["_law_got", "_law_due"]) (st := s__law_alike) (k := fl + 0) (fr := false) (g := (bCons (sIf (dT (dI "bool" (dV 1))) (sRet (dAnd (dI "bool" (dV 0)) (dO eqF (dV 0) (dV 1)))) bNil)
      (bCons (sIf (dT (dI "int" (dV 1))) (sRet (dAnd (dI "int" (dV 0)) (dAnd (dNot (dI "bool" (dV 0))) (dO eqF (dV 0) (dV 1))))) bNil)
      (bCons (sIf (dT (dI "str" (dV 1))) (sRet (dAnd (dI "str" (dV 0)) (dO eqF (dV 0) (dV 1)))) bNil)
      (bCons (sIf (dT (dI "tuple" (dV 1))) (sIf (tNotD (dT (dI "tuple" (dV 0)))) (sRet (dC (.bl false))) bNil) (sIf (tNotD (dT (dI "list" (dV 0)))) (sRet (dC (.bl false))) bNil))
      (bCons (sIf (dB (dO neF (dF lenD (aCons (dV 0) aNil)) (dF lenD (aCons (dV 1) aNil)))) (sRet (dC (.bl false))) bNil)
      (bCons (sFor (srcR1 (aCons (dF lenD (aCons (dV 1) aNil)) aNil)) (gset 2) (sIf (tNotD (dT (dCal (F__law_alike fl) (aCons (dO ixD (dV 0) (dV 2)) (aCons (dO ixD (dV 1) (dV 2)) aNil))))) (sRet (dC (.bl false))) bNil))
      (sRet (dC (.bl true)))))))))) Df sc__law_alike (fun _ _ _ _ _ _ us hl => ar2 us hl fun _ _ => rfl) (fun f cdv A outer s H E hr => by
      exact (b_cons (s_if (tval (xisi (m := true) (T := "bool") (xv (m := true) 1) (by rfl) T.b_isinstance (by decide +kernel) (by rfl) T.b_bool (by decide +kernel))) (b_one (s_ret (xand (m := false) (xisi (m := true) (T := "bool") (xv (m := true) 0) (by rfl) T.b_isinstance (by decide +kernel) (by rfl) T.b_bool (by decide +kernel)) (xone (xcmp (m := false) (o_eq hr.units) (xv (m := true) 0) (xv (m := true) 1) (nomark _)))))) b_nil)
      (b_cons (s_if (tval (xisi (m := true) (T := "int") (xv (m := true) 1) (by rfl) T.b_isinstance (by decide +kernel) (by rfl) T.b_int (by decide +kernel))) (b_one (s_ret (xand (m := false) (xisi (m := true) (T := "int") (xv (m := true) 0) (by rfl) T.b_isinstance (by decide +kernel) (by rfl) T.b_int (by decide +kernel)) (xand (xnot (m := true) (xisi (m := true) (T := "bool") (xv (m := true) 0) (by rfl) T.b_isinstance (by decide +kernel) (by rfl) T.b_bool (by decide +kernel))) (xone (xcmp (m := false) (o_eq hr.units) (xv (m := true) 0) (xv (m := true) 1) (nomark _))))))) b_nil)
      (b_cons (s_if (tval (xisi (m := true) (T := "str") (xv (m := true) 1) (by rfl) T.b_isinstance (by decide +kernel) (by rfl) T.b_str (by decide +kernel))) (b_one (s_ret (xand (m := false) (xisi (m := true) (T := "str") (xv (m := true) 0) (by rfl) T.b_isinstance (by decide +kernel) (by rfl) T.b_str (by decide +kernel)) (xone (xcmp (m := false) (o_eq hr.units) (xv (m := true) 0) (xv (m := true) 1) (nomark _)))))) b_nil)
      (b_cons (s_if (tval (xisi (m := true) (T := "tuple") (xv (m := true) 1) (by rfl) T.b_isinstance (by decide +kernel) (by rfl) T.b_tuple (by decide +kernel))) (b_one (s_if (tnot (tval (xisi (m := true) (T := "tuple") (xv (m := true) 0) (by rfl) T.b_isinstance (by decide +kernel) (by rfl) T.b_tuple (by decide +kernel)))) (b_one (s_ret (xbl (m := false)))) b_nil)) (b_one (s_if (tnot (tval (xisi (m := true) (T := "list") (xv (m := true) 0) (by rfl) T.b_isinstance (by decide +kernel) (by rfl) T.b_list (by decide +kernel)))) (b_one (s_ret (xbl (m := false)))) b_nil)))
      (b_cons (s_if (tcmp (o_ne hr.units) (xcallB (m := true) c_len (by rfl) T.b_len (by decide +kernel) (a_cons (xv (m := true) 0) a_nil)) (xcallB (m := true) c_len (by rfl) T.b_len (by decide +kernel) (a_cons (xv (m := true) 1) a_nil)) (nomark _)) (b_one (s_ret (xbl (m := false)))) b_nil)
      (b_cons (s_for PassesOwn.never rfl (i_range1 (by rfl) T.b_range (a_cons (xcallB (m := true) c_len (by rfl) T.b_len (by decide +kernel) (a_cons (xv (m := true) 1) a_nil)) a_nil)) (g_name 2 sc__law_alike.nd rfl (Or.inl rfl)) (b_one (s_if (tnot (tval (xcal (m := true) C__law_alike (hr.mono (by omega)) (a_cons (xix (m := false) o_ix (xv (m := true) 0) (xv (m := true) 2) (fun _ _ => rfl)) (a_cons (xix (m := false) o_ix (xv (m := true) 1) (xv (m := true) 2) (fun _ _ => rfl)) a_nil))))) (b_one (s_ret (xbl (m := false)))) b_nil)))
      (b_one (s_ret (xbl (m := false)))))))))))
    rw [show fl + 1 + 0 = fl + 0 + 1 by omega]
    exact this
end
end K14
namespace K14
open PySem PySem.Spec PyProof.Rows L2
section
variable {P : Program} {w : World} {K : PySem.W.Frag} {mg : Str → Option Value} {base : Heap}
theorem c__law_mix (Df : Def K mg "_law_mix" s__law_mix) (T : Txt K mg)   : CalD P w K mg base 1 "_law_mix" ["_law_script", "_law_k"] false F__law_mix :=
  cal_d (N := ["_law_script", "_law_k", "_law_number"]) (ps := ["_law_script", "_law_k"]) (st := s__law_mix) (k := 0) (g := g__law_mix) Df sc__law_mix (fun _ _ _ _ _ _ us hl => ar2 us hl fun _ _ => rfl) (fun f cdv A outer s H E hr => (by
      unfold g__law_mix
      exact (b_cons (s_set 2 sc__law_mix.nd rfl (Or.inl rfl) (xop (m := false) o_add (xop (m := true) o_mulE (xint (m := true)) (xv (m := true) 1)) (xint (m := true))))
      (b_cons (s_if (tcmp o_gt (xcallB (m := true) c_len (by rfl) T.b_len (by decide +kernel) (a_cons (xv (m := true) 0) a_nil)) (xint (m := true)) (nomark _)) (b_cons (s_set 2 sc__law_mix.nd rfl (Or.inl rfl) (xop (m := false) o_add (xv (m := true) 2) (xop (m := true) o_fdiv (xv (m := true) 1) (xcallB (m := true) c_len (by rfl) T.b_len (by decide +kernel) (a_cons (xv (m := true) 0) a_nil)))))
      (b_one (s_set 2 sc__law_mix.nd rfl (Or.inl rfl) (xop (m := false) o_add (xv (m := true) 2) (xop (m := true) o_mulE (xix (m := true) o_ix (xv (m := true) 0) (xop (m := true) o_mod (xv (m := true) 1) (xcallB (m := true) c_len (by rfl) T.b_len (by decide +kernel) (a_cons (xv (m := true) 0) a_nil))) (fun _ _ => rfl)) (xint (m := true))))))) b_nil)
      (b_one (s_ret (xop (m := false) o_mod (xop (m := true) o_mulE (xv (m := true) 2) (xint (m := true))) (xint (m := true)))))))))
end
end K14
namespace K14
open PySem PySem.Spec PyProof.Rows L2
section
variable {P : Program} {w : World} {K : PySem.W.Frag} {mg : Str → Option Value} {base : Heap}
theorem c__law_name (Df : Def K mg "_law_name" s__law_name) (T : Txt K mg)   : CalD P w K mg base 1 "_law_name" ["_law_cell"] false F__law_name :=
  cal_d (N := ["_law_cell", "_law_word", "_law_rest", "_law_k"]) (ps := ["_law_cell"]) (st := s__law_name) (k := 0) (g := g__law_name) Df sc__law_name (fun _ _ _ _ _ _ us hl => ar1 us hl fun _ => rfl) (fun f cdv A outer s H E hr => (by
      unfold g__law_name
      exact (b_cons (s_set 1 sc__law_name.nd rfl (Or.inl rfl) (xstr (m := false)))
      (b_cons (s_set 2 sc__law_name.nd rfl (Or.inl rfl) (xop (m := false) o_fdiv (xv (m := true) 0) (xint (m := true))))
      (b_cons (s_for PassesOwn.never rfl (i_range1 (by rfl) T.b_range (a_cons (xop (m := true) o_add (xint (m := true)) (xop (m := true) o_mod (xv (m := true) 0) (xint (m := true)))) a_nil)) (g_name 3 sc__law_name.nd rfl (Or.inl rfl)) (b_cons (s_set 1 sc__law_name.nd rfl (Or.inl rfl) (xop (m := false) o_add (xv (m := true) 1) (xix (m := true) o_ix (xstr (m := true)) (xop (m := true) o_mod (xv (m := true) 2) (xint (m := true))) (fun _ _ => rfl))))
      (b_one (s_set 2 sc__law_name.nd rfl (Or.inl rfl) (xop (m := false) o_fdiv (xv (m := true) 2) (xint (m := true)))))))
      (b_one (s_ret (xv (m := false) 1))))))))
end
end K14
namespace K14
open PySem PySem.Spec PyProof.Rows L2
section
variable {P : Program} {w : World} {K : PySem.W.Frag} {mg : Str → Option Value} {base : Heap}
theorem c__law_wire_names (Df : Def K mg "_law_wire_names" s__law_wire_names) (T : Txt K mg)  (C__law_mix : CalD P w K mg base 1 "_law_mix" ["_law_script", "_law_k"] false F__law_mix) (C__law_name : CalD P w K mg base 1 "_law_name" ["_law_cell"] false F__law_name) : CalD P w K mg base 2 "_law_wire_names" ["_law_script", "_law_first", "_law_many"] true F__law_wire_names :=
  cal_d (N := ["_law_script", "_law_first", "_law_many", "_law_words", "_law_letters", "_law_k", "_law_cell", "_law_word", "_law_at"]) (ps := ["_law_script", "_law_first", "_law_many"]) (st := s__law_wire_names) (k := 1) (g := g__law_wire_names) Df sc__law_wire_names (fun _ _ _ _ _ _ us hl => ar3 us hl fun _ _ _ => rfl) (fun f cdv A outer s H E hr => (by
      unfold g__law_wire_names
      exact (b_cons (s_own 3 sc__law_wire_names.nd rfl (Or.inl rfl) (nlst a_nil))
      (b_cons (s_set 4 sc__law_wire_names.nd rfl (Or.inl rfl) (xstr (m := false)))
      (b_cons (s_for PassesOwn.never rfl (i_range1 (by rfl) T.b_range (a_cons (xv (m := true) 2) a_nil)) (g_name 5 sc__law_wire_names.nd rfl (Or.inl rfl)) (b_cons (s_set 6 sc__law_wire_names.nd rfl (Or.inl rfl) (xcal (m := false) C__law_mix (hr.mono (by omega)) (a_cons (xv (m := false) 0) (a_cons (xop (m := false) o_add (xv (m := true) 1) (xv (m := true) 5)) a_nil))))
      (b_cons (s_set 7 sc__law_wire_names.nd rfl (Or.inl rfl) (xcal (m := false) C__law_name (hr.mono (by omega)) (a_cons (xv (m := false) 6) a_nil)))
      (b_cons (s_if (PWd.pt (w_and (tcmp o_gt (xv (m := true) 5) (xint (m := true)) (nomark _)) (w_and1 (tcmp (o_eq hr.units) (xop (m := true) o_mod (xop (m := true) o_fdiv (xv (m := true) 6) (xint (m := true))) (xint (m := true))) (xint (m := true)) (nomark _))))) (b_cons (s_set 8 sc__law_wire_names.nd rfl (Or.inl rfl) (xop (m := false) o_mod (xop (m := true) o_fdiv (xv (m := true) 6) (xint (m := true))) (xcallB (m := true) c_len (by rfl) T.b_len (by decide +kernel) (a_cons (xix (m := true) o_ix (xo 3) (xint (m := true)) (fun _ _ => rfl)) a_nil))))
      (b_cons (s_set 7 sc__law_wire_names.nd rfl (Or.inl rfl) (xix (m := false) o_ix (xo 3) (xint (m := true)) (fun _ _ => rfl)))
      (b_one (s_set 7 sc__law_wire_names.nd rfl (Or.inl rfl) (xop (m := false) o_add (xop (m := true) o_add (xslice (m := true) o_sl (xv (m := true) 7) o_none (o_some (xv (m := true) 8))) (xix (m := true) o_ix (xv (m := true) 4) (xop (m := true) o_mod (xop (m := true) o_fdiv (xv (m := true) 6) (xint (m := true))) (xint (m := true))) (fun _ _ => rfl))) (xslice (m := true) o_sl (xv (m := true) 7) (o_some (xop (m := true) o_add (xv (m := true) 8) (xint (m := true)))) o_none)))))) b_nil)
      (b_cons (s_while PassesOwn.never (PWd.pt (w_or (tcmp (o_in hr.units) (xv (m := true) 7) (xo 3) (by rfl)) (w_or1 (tcmp (o_in hr.units) (xv (m := true) 7) (PNd.x (m := true) (nlst (a_cons (xstr (m := false)) (a_cons (xstr (m := false)) (a_cons (xstr (m := false)) (a_cons (xstr (m := false)) (a_cons (xstr (m := false)) a_nil))))))) (by rfl))))) (b_one (s_set 7 sc__law_wire_names.nd rfl (Or.inl rfl) (xop (m := false) o_add (xslice (m := true) o_sl (xv (m := true) 7) o_none (o_some (xun (m := true) u_neg (xint (m := true))))) (xix (m := true) o_ix (xv (m := true) 4) (xop (m := true) o_mod (xop (m := true) o_add (xbm (m := true) PySem.F.plainAttrs_str PySem.F.slot_str_index PySem.F.type_str_index (m_sindex rfl) (xv (m := true) 4) (a_cons (xix (m := true) o_ix (xv (m := true) 7) (xun (m := true) u_neg (xint (m := true))) (fun _ _ => rfl)) a_nil)) (xint (m := true))) (xint (m := true))) (fun _ _ => rfl))))))
      (b_one (s_meth 3 PySem.F.slot_list_append PySem.F.type_list_append m_append (a_cons (xv (m := false) 7) a_nil))))))))
      (b_one (s_retO 3)))))))
end
end K14
namespace K14
open PySem PySem.Spec PyProof.Rows L2
section
variable {P : Program} {w : World} {K : PySem.W.Frag} {mg : Str → Option Value} {base : Heap}
theorem c__law_spots (Df : Def K mg "_law_spots" s__law_spots) (T : Txt K mg)   : CalD P w K mg base 1 "_law_spots" ["_law_cell"] false F__law_spots :=
  cal_d (N := ["_law_cell", "_law_many", "_law_far"]) (ps := ["_law_cell"]) (st := s__law_spots) (k := 0) (g := g__law_spots) Df sc__law_spots (fun _ _ _ _ _ _ us hl => ar1 us hl fun _ => rfl) (fun f cdv A outer s H E hr => (by
      unfold g__law_spots
      refine (b_cons (s_set 1 sc__law_spots.nd rfl (Or.inl rfl) (xix (m := false) o_ix (PNd.x (m := true) (nlst (a_cons (xop (m := false) o_add (xint (m := true)) (xop (m := true) o_mod (xop (m := true) o_fdiv (xv (m := true) 0) (xint (m := true))) (xint (m := true)))) (a_cons (xop (m := false) o_add (xint (m := true)) (xop (m := true) o_mod (xop (m := true) o_fdiv (xv (m := true) 0) (xint (m := true))) (xint (m := true)))) a_nil)))) (xcallT (m := true) c_int (by rfl) T.b_int (by decide +kernel) (a_cons (xcmp (m := true) (o_eq hr.units) (xop (m := true) o_mod (xv (m := true) 0) (xint (m := true))) (xint (m := true)) (nomark _)) a_nil)) (fun _ _ => rfl)))
      (b_cons (s_set 2 sc__law_spots.nd rfl (Or.inr rfl) (xop (m := false) o_add (xint (m := true)) (xop (m := true) o_mulE (xint (m := true)) (xop (m := true) o_mod (xop (m := true) o_fdiv (xv (m := true) 0) (xint (m := true))) (xint (m := true))))))
      (b_one (s_ret (xcallT (m := false) c_tuple (by rfl) T.b_tuple (by decide +kernel) (a_cons (PNd.x (m := true) (ncallB c_sorted (by rfl) T.b_sorted (by decide +kernel) (a_cons (PNd.x (m := true) ?c0) a_nil))) a_nil))))))
      case c0 => exact n_comp (defScope s__law_spots) [none, some 0, some 2] ["_law_k", "_law_cell", "_law_far"] rfl (show CompOk (defScope s__law_spots) _ ["_law_cell", "_law_many", "_law_far"] ["_law_k", "_law_cell", "_law_far"] [none, some 0, some 2] from CompOk.of (by decide +kernel)) rfl (i_range1 (by rfl) T.b_range (a_cons (xv (m := true) 1) a_nil)) (fun _ _ _ _ => ⟨(g_name 0 (show (["_law_k", "_law_cell", "_law_far"] : List Str).Nodup from by decide +kernel) rfl (Or.inl rfl)), f_nil, (xop (m := false) o_mod (xop (m := true) o_add (xop (m := true) o_fdiv (xv (m := true) 1) (xint (m := true))) (xop (m := true) o_mulE (xv (m := true) 0) (xv (m := true) 2))) (xint (m := true)))⟩) (by decide)))
end
end K14
namespace K14
open PySem PySem.Spec PyProof.Rows L2
section
variable {P : Program} {w : World} {K : PySem.W.Frag} {mg : Str → Option Value} {base : Heap}
theorem c__law_graph (Df : Def K mg "_law_graph" s__law_graph) (T : Txt K mg)  (C__law_mix : CalD P w K mg base 1 "_law_mix" ["_law_script", "_law_k"] false F__law_mix) (C__law_wire_names : CalD P w K mg base 2 "_law_wire_names" ["_law_script", "_law_first", "_law_many"] true F__law_wire_names) (C__law_spots : CalD P w K mg base 1 "_law_spots" ["_law_cell"] false F__law_spots) : CalD P w K mg base 3 "_law_graph" ["_law_script", "_law_first"] false F__law_graph :=
  cal_d (N := ["_law_script", "_law_first", "_law_cell", "_law_many", "_law_words", "_law_kinds", "_law_wires", "_law_k", "_law_steps", "_law_more", "_law_fills", "_law_takes", "_law_low", "_law_marks"]) (ps := ["_law_script", "_law_first"]) (st := s__law_graph) (k := 2) (g := g__law_graph) Df sc__law_graph (fun _ _ _ _ _ _ us hl => ar2 us hl fun _ _ => rfl) (fun f cdv A outer s H E hr => (by
      unfold g__law_graph
      exact (b_cons (s_set 2 sc__law_graph.nd rfl (Or.inl rfl) (xcal (m := false) C__law_mix (hr.mono (by omega)) (a_cons (xv (m := false) 0) (a_cons (xv (m := false) 1) a_nil))))
      (b_cons (s_set 3 sc__law_graph.nd rfl (Or.inl rfl) (xix (m := false) o_ix (PNd.x (m := true) (nlst (a_cons (xop (m := false) o_add (xint (m := true)) (xop (m := true) o_mod (xop (m := true) o_fdiv (xv (m := true) 2) (xint (m := true))) (xint (m := true)))) (a_cons (xint (m := false)) a_nil)))) (xcallT (m := true) c_int (by rfl) T.b_int (by decide +kernel) (a_cons (xcmp (m := true) (o_eq hr.units) (xop (m := true) o_mod (xv (m := true) 2) (xint (m := true))) (xint (m := true)) (nomark _)) a_nil)) (fun _ _ => rfl)))
      (b_cons (s_set 4 sc__law_graph.nd rfl (Or.inl rfl) (xcal (m := false) C__law_wire_names (hr.mono (by omega)) (a_cons (xv (m := false) 0) (a_cons (xop (m := false) o_add (xv (m := true) 1) (xint (m := true))) (a_cons (xv (m := false) 3) a_nil)))))
      (b_cons (s_set 5 sc__law_graph.nd rfl (Or.inl rfl) (xcal (m := false) C__law_mix (hr.mono (by omega)) (a_cons (xv (m := false) 0) (a_cons (xop (m := false) o_add (xv (m := true) 1) (xint (m := true))) a_nil))))
      (b_cons (s_own 6 sc__law_graph.nd rfl (Or.inl rfl) (nlst a_nil))
      (b_cons (s_for PassesOwn.never rfl (i_range1 (by rfl) T.b_range (a_cons (xv (m := true) 3) a_nil)) (g_name 7 sc__law_graph.nd rfl (Or.inl rfl)) (b_one (s_meth 6 PySem.F.slot_list_append PySem.F.type_list_append m_append (a_cons (xtup (m := false) (a_cons (xix (m := false) o_ix (xv (m := true) 4) (xv (m := true) 7) (fun _ _ => rfl)) (a_cons (xix (m := false) o_ix (PNd.x (m := true) (nlst (a_cons (xstr (m := false)) (a_cons (xstr (m := false)) a_nil)))) (xop (m := true) o_mod (xop (m := true) o_fdiv (xv (m := true) 5) (xop (m := true) o_add (xint (m := true)) (xop (m := true) o_mulE (xint (m := true)) (xv (m := true) 7)))) (xint (m := true))) (fun _ _ => rfl)) a_nil))) a_nil))))
      (b_cons (s_own 8 sc__law_graph.nd rfl (Or.inl rfl) (nlst a_nil))
      (b_cons (s_for PassesOwn.never rfl (i_range1 (by rfl) T.b_range (a_cons (xix (m := true) o_ix (PNd.x (m := true) (nlst (a_cons (xop (m := false) o_add (xint (m := true)) (xop (m := true) o_mod (xop (m := true) o_fdiv (xv (m := true) 2) (xint (m := true))) (xint (m := true)))) (a_cons (xint (m := false)) a_nil)))) (xcallT (m := true) c_int (by rfl) T.b_int (by decide +kernel) (a_cons (xcmp (m := true) (o_eq hr.units) (xop (m := true) o_mod (xop (m := true) o_fdiv (xv (m := true) 2) (xint (m := true))) (xint (m := true))) (xint (m := true)) (nomark _)) a_nil)) (fun _ _ => rfl)) a_nil)) (g_name 7 sc__law_graph.nd rfl (Or.inl rfl)) (b_cons (s_set 9 sc__law_graph.nd rfl (Or.inl rfl) (xcal (m := false) C__law_mix (hr.mono (by omega)) (a_cons (xv (m := false) 0) (a_cons (xop (m := false) o_add (xop (m := true) o_add (xv (m := true) 1) (xint (m := true))) (xop (m := true) o_mulE (xint (m := true)) (xv (m := true) 7))) a_nil))))
      (b_cons (s_set 10 sc__law_graph.nd rfl (Or.inl rfl) (xcal (m := false) C__law_spots (hr.mono (by omega)) (a_cons (xop (m := false) o_fdiv (xv (m := true) 9) (xint (m := true))) a_nil)))
      (b_cons (s_set 11 sc__law_graph.nd rfl (Or.inl rfl) (xcal (m := false) C__law_spots (hr.mono (by omega)) (a_cons (xcal (m := false) C__law_mix (hr.mono (by omega)) (a_cons (xv (m := false) 0) (a_cons (xop (m := false) o_add (xop (m := true) o_add (xv (m := true) 1) (xint (m := true))) (xop (m := true) o_mulE (xint (m := true)) (xv (m := true) 7))) a_nil))) a_nil)))
      (b_one (s_meth 8 PySem.F.slot_list_append PySem.F.type_list_append m_append (a_cons (xtup (m := false) (a_cons (xop (m := false) o_mod (xv (m := true) 9) (xv (m := true) 3)) (a_cons (xcmp (m := false) (o_eq hr.units) (xop (m := true) o_mod (xop (m := true) o_fdiv (xv (m := true) 9) (xint (m := true))) (xint (m := true))) (xint (m := true)) (nomark _)) (a_cons (xv (m := false) 11) (a_cons (xv (m := false) 10) a_nil))))) a_nil)))))))
      (b_cons (s_set 12 sc__law_graph.nd rfl (Or.inl rfl) (xop (m := false) o_mod (xcal (m := true) C__law_mix (hr.mono (by omega)) (a_cons (xv (m := false) 0) (a_cons (xop (m := false) o_add (xv (m := true) 1) (xint (m := true))) a_nil))) (xop (m := true) o_pow (xint (m := true)) (xint (m := true)))))
      (b_cons (s_set 13 sc__law_graph.nd rfl (Or.inl rfl) (xop (m := false) o_add (xop (m := true) o_mulE (xop (m := true) o_mod (xcal (m := true) C__law_mix (hr.mono (by omega)) (a_cons (xv (m := false) 0) (a_cons (xop (m := false) o_add (xv (m := true) 1) (xint (m := true))) a_nil))) (xop (m := true) o_pow (xint (m := true)) (xint (m := true)))) (xop (m := true) o_pow (xint (m := true)) (xint (m := true)))) (xv (m := true) 12)))
      (b_one (s_ret (xtup (m := false) (a_cons (xcallT (m := false) c_tuple (by rfl) T.b_tuple (by decide +kernel) (a_cons (xo 6) a_nil)) (a_cons (xcallT (m := false) c_tuple (by rfl) T.b_tuple (by decide +kernel) (a_cons (xo 8) a_nil)) (a_cons (xv (m := false) 13) (a_cons (xop (m := false) o_mod (xop (m := true) o_mod (xcal (m := true) C__law_mix (hr.mono (by omega)) (a_cons (xv (m := false) 0) (a_cons (xop (m := false) o_add (xv (m := true) 1) (xint (m := true))) a_nil))) (xop (m := true) o_pow (xint (m := true)) (xint (m := true)))) (xop (m := true) o_shl (xint (m := true)) (xv (m := true) 3))) a_nil)))))))))))))))))))
end
end K14
namespace K14
open PySem PySem.Spec PyProof.Rows L2
section
variable {P : Program} {w : World} {K : PySem.W.Frag} {mg : Str → Option Value} {base : Heap}
theorem c__law_places (Df : Def K mg "_law_places" s__law_places) (T : Txt K mg)   : CalD P w K mg base 1 "_law_places" ["_law_number"] true F__law_places :=
  cal_d (N := ["_law_number", "_law_some", "_law_place"]) (ps := ["_law_number"]) (st := s__law_places) (k := 0) (g := g__law_places) Df sc__law_places (fun _ _ _ _ _ _ us hl => ar1 us hl fun _ => rfl) (fun f cdv A outer s H E hr => (by
      unfold g__law_places
      exact (b_cons (s_own 1 sc__law_places.nd rfl (Or.inl rfl) (nlst a_nil))
      (b_cons (s_set 2 sc__law_places.nd rfl (Or.inl rfl) (xint (m := false)))
      (b_cons (s_while PassesOwn.never (tcmp o_gt (xv (m := true) 0) (xint (m := true)) (nomark _)) (b_cons (s_if (tcmp (o_eq hr.units) (xop (m := true) o_mod (xv (m := true) 0) (xint (m := true))) (xint (m := true)) (nomark _)) (b_one (s_meth 1 PySem.F.slot_list_append PySem.F.type_list_append m_append (a_cons (xv (m := false) 2) a_nil))) b_nil)
      (b_cons (s_set 0 sc__law_places.nd rfl (Or.inl rfl) (xop (m := false) o_fdiv (xv (m := true) 0) (xint (m := true))))
      (b_one (s_set 2 sc__law_places.nd rfl (Or.inl rfl) (xop (m := false) o_add (xv (m := true) 2) (xint (m := true))))))))
      (b_one (s_retO 1)))))))
end
end K14
namespace K14
open PySem PySem.Spec PyProof.Rows L2
section
variable {P : Program} {w : World} {K : PySem.W.Frag} {mg : Str → Option Value} {base : Heap}
theorem c__law_step_words (Df : Def K mg "_law_step_words" s__law_step_words) (T : Txt K mg)   : CalD P w K mg base 1 "_law_step_words" ["_law_wires", "_law_step"] false F__law_step_words :=
  cal_d (N := ["_law_wires", "_law_step", "_law_wire", "_law_up", "_law_takes", "_law_fills", "_law_words"]) (ps := ["_law_wires", "_law_step"]) (st := s__law_step_words) (k := 0) (g := g__law_step_words) Df sc__law_step_words (fun _ _ _ _ _ _ us hl => ar2 us hl fun _ _ => rfl) (fun f cdv A outer s H E hr => (by
      unfold g__law_step_words
      refine (b_cons (s_asg (xv (m := false) 1) (g_tup (n := 4) rfl (gs_cons (g_name 2 sc__law_step_words.nd rfl (Or.inl rfl)) (gs_cons (g_name 3 sc__law_step_words.nd rfl (Or.inl rfl)) (gs_cons (g_name 4 sc__law_step_words.nd rfl (Or.inl rfl)) (gs_cons (g_name 5 sc__law_step_words.nd rfl (Or.inl rfl)) gs_nil))))))
      (b_cons (s_set 6 sc__law_step_words.nd rfl (Or.inl rfl) (PNd.x (m := false) (nlst (a_cons (xix (m := false) o_ix (PNd.x (m := true) (nlst (a_cons (xstr (m := false)) (a_cons (xstr (m := false)) a_nil)))) (xcallT (m := true) c_int (by rfl) T.b_int (by decide +kernel) (a_cons (xv (m := true) 3) a_nil)) (fun _ _ => rfl)) (a_cons (xix (m := false) o_ix (xix (m := true) o_ix (xv (m := true) 0) (xv (m := true) 2) (fun _ _ => rfl)) (xint (m := true)) (fun _ _ => rfl)) (a_cons (xstr (m := false)) a_nil))))))
      (b_one (s_ret (xop (m := false) o_add (xop (m := true) o_add (xop (m := true) o_add (xv (m := true) 6) (PNd.x (m := true) ?c0)) (PNd.x (m := true) (nlst (a_cons (xstr (m := false)) a_nil)))) (PNd.x (m := true) ?c1))))))
      case c0 => exact n_comp (defScope s__law_step_words) [none] ["_law_spot"] rfl (show CompOk (defScope s__law_step_words) _ ["_law_wires", "_law_step", "_law_wire", "_law_up", "_law_takes", "_law_fills", "_law_words"] ["_law_spot"] [none] from CompOk.of (by decide +kernel)) rfl (i_seqP (xv (m := true) 4)) (fun _ _ _ _ => ⟨(g_name 0 (show (["_law_spot"] : List Str).Nodup from by decide +kernel) rfl (Or.inl rfl)), f_nil, (xcallT (m := false) c_str (by rfl) T.b_str (by decide +kernel) (a_cons (xv (m := true) 0) a_nil))⟩) (by decide)
      case c1 => exact n_comp (defScope s__law_step_words) [none] ["_law_spot"] rfl (show CompOk (defScope s__law_step_words) _ ["_law_wires", "_law_step", "_law_wire", "_law_up", "_law_takes", "_law_fills", "_law_words"] ["_law_spot"] [none] from CompOk.of (by decide +kernel)) rfl (i_seqP (xv (m := true) 5)) (fun _ _ _ _ => ⟨(g_name 0 (show (["_law_spot"] : List Str).Nodup from by decide +kernel) rfl (Or.inl rfl)), f_nil, (xcallT (m := false) c_str (by rfl) T.b_str (by decide +kernel) (a_cons (xv (m := true) 0) a_nil))⟩) (by decide)))
end
end K14
namespace K14
open PySem PySem.Spec PyProof.Rows L2
section
variable {P : Program} {w : World} {K : PySem.W.Frag} {mg : Str → Option Value} {base : Heap}
theorem c__law_rows (Df : Def K mg "_law_rows" s__law_rows) (T : Txt K mg)  (C__law_step_words : CalD P w K mg base 1 "_law_step_words" ["_law_wires", "_law_step"] false F__law_step_words) (C__law_places : CalD P w K mg base 1 "_law_places" ["_law_number"] true F__law_places) : CalD P w K mg base 2 "_law_rows" ["_law_graph_here"] true F__law_rows :=
  cal_d (N := ["_law_graph_here", "_law_wires", "_law_steps", "_law_marks", "_law_code", "_law_rows_here", "_law_step", "_law_words"]) (ps := ["_law_graph_here"]) (st := s__law_rows) (k := 1) (g := g__law_rows) Df sc__law_rows (fun _ _ _ _ _ _ us hl => ar1 us hl fun _ => rfl) (fun f cdv A outer s H E hr => (by
      unfold g__law_rows
      refine (b_cons (s_asg (xv (m := false) 0) (g_tup (n := 4) rfl (gs_cons (g_name 1 sc__law_rows.nd rfl (Or.inr rfl)) (gs_cons (g_name 2 sc__law_rows.nd rfl (Or.inl rfl)) (gs_cons (g_name 3 sc__law_rows.nd rfl (Or.inl rfl)) (gs_cons (g_name 4 sc__law_rows.nd rfl (Or.inl rfl)) gs_nil))))))
      (b_cons (s_ownC 5 sc__law_rows.nd rfl (Or.inl rfl) (defScope s__law_rows) [none, none] ["_law_name_here", "_law_kind"] rfl (show CompOk (defScope s__law_rows) _ ["_law_graph_here", "_law_wires", "_law_steps", "_law_marks", "_law_code", "_law_rows_here", "_law_step", "_law_words"] ["_law_name_here", "_law_kind"] [none, none] from CompOk.of (by decide +kernel)) rfl (i_seqP (xv (m := true) 1)) (fun _ _ _ _ => ⟨(g_tup (n := 2) rfl (gs_cons (g_name 0 (show (["_law_name_here", "_law_kind"] : List Str).Nodup from by decide +kernel) rfl (Or.inl rfl)) (gs_cons (g_name 1 (show (["_law_name_here", "_law_kind"] : List Str).Nodup from by decide +kernel) rfl (Or.inl rfl)) gs_nil))), f_nil, (xop (m := false) o_add (xop (m := true) o_add (xv (m := true) 1) (xstr (m := true))) (xv (m := true) 0))⟩) (by decide))
      (b_cons (s_for PassesOwn.never rfl (i_seq (xv (m := false) 2)) (g_name 6 sc__law_rows.nd rfl (Or.inl rfl)) (b_one (s_meth 5 PySem.F.slot_list_append PySem.F.type_list_append m_append (a_cons (xbm (m := false) PySem.F.plainAttrs_str PySem.F.slot_str_join PySem.F.type_str_join m_join (xstr (m := true)) (a_cons (xcal (m := true) C__law_step_words (hr.mono (by omega)) (a_cons (xv (m := false) 1) (a_cons (xv (m := false) 6) a_nil))) a_nil)) a_nil))))
      (b_cons (s_set 7 sc__law_rows.nd rfl (Or.inl rfl) (xop (m := false) o_add (xop (m := true) o_add (PNd.x (m := true) (nlst (a_cons (xstr (m := false)) a_nil))) (PNd.x (m := true) ?c0)) (PNd.x (m := true) (nlst (a_cons (xstr (m := false)) a_nil)))))
      (b_cons (s_meth 5 PySem.F.slot_list_append PySem.F.type_list_append m_append (a_cons (xbm (m := false) PySem.F.plainAttrs_str PySem.F.slot_str_join PySem.F.type_str_join m_join (xstr (m := true)) (a_cons (xop (m := true) o_add (xv (m := true) 7) (PNd.x (m := true) ?c1)) a_nil)) a_nil))
      (b_one (s_retO 5)))))))
      case c0 => exact n_comp (defScope s__law_rows) [none] ["_law_spot"] rfl (show CompOk (defScope s__law_rows) _ ["_law_graph_here", "_law_wires", "_law_steps", "_law_marks", "_law_code", "_law_rows_here", "_law_step", "_law_words"] ["_law_spot"] [none] from CompOk.of (by decide +kernel)) rfl (i_seqP (xcal (m := true) C__law_places (hr.mono (by omega)) (a_cons (xv (m := false) 3) a_nil))) (fun _ _ _ _ => ⟨(g_name 0 (show (["_law_spot"] : List Str).Nodup from by decide +kernel) rfl (Or.inl rfl)), f_nil, (xcallT (m := false) c_str (by rfl) T.b_str (by decide +kernel) (a_cons (xv (m := true) 0) a_nil))⟩) (by decide)
      case c1 => exact n_comp (defScope s__law_rows) [none, some 1] ["_law_wire", "_law_wires"] rfl (show CompOk (defScope s__law_rows) _ ["_law_graph_here", "_law_wires", "_law_steps", "_law_marks", "_law_code", "_law_rows_here", "_law_step", "_law_words"] ["_law_wire", "_law_wires"] [none, some 1] from CompOk.of (by decide +kernel)) rfl (i_seqP (xcal (m := true) C__law_places (hr.mono (by omega)) (a_cons (xv (m := false) 4) a_nil))) (fun _ _ _ _ => ⟨(g_name 0 (show (["_law_wire", "_law_wires"] : List Str).Nodup from by decide +kernel) rfl (Or.inl rfl)), f_nil, (xix (m := false) o_ix (xix (m := true) o_ix (xv (m := true) 1) (xv (m := true) 0) (fun _ _ => rfl)) (xint (m := true)) (fun _ _ => rfl))⟩) (by decide)))
end
end K14
namespace K14
open PySem PySem.Spec PyProof.Rows L2
section
variable {P : Program} {w : World} {K : PySem.W.Frag} {mg : Str → Option Value} {base : Heap}
theorem c_law {f : Addr} {fd : FuncData} (Df : Fun K "law" "law" s_law f fd) (T : Txt K mg)  (C__law_graph : CalD P w K mg base 3 "_law_graph" ["_law_script", "_law_first"] false F__law_graph) (C_read : CalD P w K mg base 5 "read" ["text"] false F_read) (C__law_rows : CalD P w K mg base 2 "_law_rows" ["_law_graph_here"] true F__law_rows) (C__law_alike : CalD P w K mg base 5 "_law_alike" ["_law_got", "_law_due"] false (F__law_alike 5)) (C_shown : CalD P w K mg base 4 "shown" ["graph"] false F_shown) (hl : ∀ ns : List Int, ns.length ≤ 63 → F_law [.lst (ns.map .int)] = .ok (.bl true)) : FnOk P w K mg base CX0 6 f fd ["_law_script"] (spLaw K) :=
  law_d (N := ["_law_script", "_law_graph_here", "_law_other", "_law_text", "_law_got"]) (ps := ["_law_script"]) (st := s_law) (g := g_law) Df sc_law rfl (fun cdv A outer s H E hr => (by
      unfold g_law
      exact (b_cons (s_set 1 sc_law.nd rfl (Or.inl rfl) (xcal (m := false) C__law_graph (hr.mono (by omega)) (a_cons (xv (m := false) 0) (a_cons (xint (m := false)) a_nil))))
      (b_cons (s_set 2 sc_law.nd rfl (Or.inl rfl) (xcal (m := false) C__law_graph (hr.mono (by omega)) (a_cons (xv (m := false) 0) (a_cons (xint (m := false)) a_nil))))
      (b_cons (s_set 3 sc_law.nd rfl (Or.inl rfl) (xbm (m := false) PySem.F.plainAttrs_str PySem.F.slot_str_join PySem.F.type_str_join m_join (xstr (m := true)) (a_cons (xcal (m := true) C__law_rows (hr.mono (by omega)) (a_cons (xv (m := false) 1) a_nil)) a_nil)))
      (b_cons (s_set 4 sc_law.nd rfl (Or.inl rfl) (xcal (m := false) C_read (hr.mono (by omega)) (a_cons (xv (m := false) 3) a_nil)))
      (b_cons (s_if (PWd.pt (w_or (tnot (tval (xcal (m := true) C__law_alike (hr.mono (by omega)) (a_cons (xv (m := false) 4) (a_cons (xv (m := false) 1) a_nil))))) (w_or1 (tnot (tval (xcal (m := true) C__law_alike (hr.mono (by omega)) (a_cons (xcal (m := false) C_read (hr.mono (by omega)) (a_cons (xcal (m := false) C_shown (hr.mono (by omega)) (a_cons (xv (m := false) 2) a_nil)) a_nil)) (a_cons (xv (m := false) 2) a_nil)))))))) (b_one (s_ret (xbl (m := false)))) b_nil)
      (b_one (s_ret (xand (m := false) (xcal (m := true) C__law_alike (hr.mono (by omega)) (a_cons (xcal (m := false) C_read (hr.mono (by omega)) (a_cons (xv (m := false) 3) a_nil)) (a_cons (xv (m := false) 1) a_nil))) (xone (xcal (m := false) C__law_alike (hr.mono (by omega)) (a_cons (xcal (m := false) C_shown (hr.mono (by omega)) (a_cons (xv (m := false) 4) a_nil)) (a_cons (xv (m := false) 3) a_nil)))))))))))))) hl
end
end K14
namespace L2
open PySem PySem.Spec PyProof.Rows
noncomputable def Gd (r : Fl) (N : Ev → Prop) (R : Dat → Prop) : Prop := match r with
  | .next e => N e
  | .ret d => R d
  | _ => False
structure Go (r : Fl) (N : Ev → Prop) (R : Dat → Prop) : Prop where
  of : Gd r N R
section
variable {N : Ev → Prop} {R : Dat → Prop} {g h : Ev → Fl} {f : Ev → Option Dat} {fs : Ev → Option (List Dat)} {t : Ev → Option Bool} {env : Ev} {d : Dat} {ds : List Dat} {i : Nat}
theorem Go.mono {N' : Ev → Prop} {R' : Dat → Prop} {r : Fl} (q : Go r N R) (hN : ∀ e, N e → N' e) (hR : ∀ d, R d → R' d) : Go r N' R' := by
  cases r with
  | next e => exact ⟨hN e q.of⟩
  | ret d => exact ⟨hR d q.of⟩
  | _ => exact q.of.elim
theorem go_nil (q : N env) : Go (bNil env) N R := ⟨q⟩
theorem go_cons (q : Go (g env) (fun e => Go (h e) N R) R) : Go (bCons g h env) N R := by
  unfold bCons
  cases e : g env with
  | next e' => rw [e] at q; exact q.of
  | ret d => rw [e] at q; exact ⟨q.of⟩
  | _ => rw [e] at q; exact q.of.elim
theorem go_set (e : f env = some d) (q : N (env.set i (.fz d))) : Go (sSet i f env) N R := by unfold sSet; rw [e]; exact ⟨q⟩
theorem go_own (e : fs env = some ds) (q : N (env.set i (.ow ds))) : Go (sOwn i fs env) N R := by unfold sOwn; rw [e]; exact ⟨q⟩
theorem go_ret (e : f env = some d) (q : R d) : Go (sRet f env) N R := by unfold sRet; rw [e]; exact ⟨q⟩
theorem go_retO (e : env[i]? = some (.ow ds)) (q : R (.lst ds)) : Go (sRetO i env) N R := by unfold sRetO; rw [e]; exact ⟨q⟩
theorem go_ifT (e : t env = some true) (q : Go (g env) N R) : Go (sIf t g h env) N R := by unfold sIf; rw [e]; exact q
theorem go_ifF (e : t env = some false) (q : Go (h env) N R) : Go (sIf t g h env) N R := by unfold sIf; rw [e]; exact q
theorem go_if {b : Bool} (e : t env = some b) (q1 : b = true → Go (g env) N R) (q2 : b = false → Go (h env) N R) : Go (sIf t g h env) N R := by
  cases b with
  | true => exact go_ifT e (q1 rfl)
  | false => exact go_ifF e (q2 rfl)
theorem go_asg {gg : Dat → Ev → Option Ev} {env' : Ev} (e : f env = some d) (e2 : gg d env = some env') (q : N env') : Go (sAsg f gg env) N R := by
  unfold sAsg; rw [e]; dsimp only [Option.bind]; rw [e2]; exact ⟨q⟩
theorem go_meth {F : List Dat → List Dat → Option (List Dat)} {ds' as : List Dat} (e : env[i]? = some (.ow ds)) (e2 : fs env = some as) (e3 : F ds as = some ds') (q : N (env.set i (.ow ds'))) : Go (sMeth i F fs env) N R := by
  unfold sMeth; rw [e]; dsimp only; rw [e2]; dsimp only [Option.bind]; rw [e3]; exact ⟨q⟩
theorem go_forL {gg : Dat → Ev → Option Ev} (P : Nat → Ev → Prop) : ∀ (ds : List Dat) (k : Nat) (env : Ev), P k env → (∀ i d e, ds[i]? = some d → P (k + i) e → ∃ e1, gg d e = some e1 ∧ Go (g e1) (P (k + i + 1)) R) → (∀ e, P (k + ds.length) e → N e) → Go (forL gg g ds env) N R
  | [], k, env, h0, _, hN => ⟨hN env h0⟩
  | d :: ds, k, env, h0, hs, hN => by
    obtain ⟨e1, a1, a2⟩ := hs 0 d env rfl h0
    rw [forL, a1]
    dsimp only
    cases e : g e1 with
    | next e' =>
      rw [e] at a2
      exact go_forL P ds (k + 1) e' a2.of (fun i d e hi hp => by
        have := hs (i + 1) d e (by simpa using hi) (by rw [show k + (i + 1) = k + 1 + i by omega]; exact hp)
        rw [show k + 1 + i + 1 = k + (i + 1) + 1 by omega]; exact this) (fun e hp => hN e (by rw [List.length_cons, show k + (ds.length + 1) = k + 1 + ds.length by omega]; exact hp))
    | ret d' => rw [e] at a2; exact ⟨a2.of⟩
    | _ => rw [e] at a2; exact a2.of.elim
theorem go_for {src : Ev → Option (List Dat)} {gg : Dat → Ev → Option Ev} (P : Nat → Ev → Prop) (e : src env = some ds) (h0 : P 0 env) (hs : ∀ i d e, ds[i]? = some d → P i e → ∃ e1, gg d e = some e1 ∧ Go (g e1) (P (i + 1)) R) (hN : ∀ e, P ds.length e → N e) : Go (sFor src gg g env) N R := by
  unfold sFor
  rw [e]
  exact go_forL P ds 0 env h0 (fun i d e hi hp => by simpa using hs i d e hi (by simpa using hp)) (fun e hp => hN e (by simpa using hp))
theorem Go.ne {r : Fl} (q : Go r N R) : r ≠ .no := fun z => by rw [z] at q; exact q.of
theorem go_while (W : Nat → Ev → Prop) {n : Nat} (h0 : W n env) (hs : ∀ n e, W n e → (t e = some false ∧ N e) ∨ (t e = some true ∧ Go (g e) (fun e' => ∃ m, m < n ∧ W m e') R)) : Go (sWhile t g env) N R := by
  have key : ∀ n e, W n e → Go (whileN t g (n + 1) e) N R := by
    intro n
    induction n using Nat.strongRecOn with
    | _ n ih =>
      intro e hw
      rcases hs n e hw with ⟨a, b⟩ | ⟨a, b⟩
      · rw [whileN, a]; exact ⟨b⟩
      · rw [whileN, a]
        dsimp only
        cases eg : g e with
        | next e' =>
          rw [eg] at b
          obtain ⟨m, hm, hw'⟩ := b.of
          have q := ih m hm e' hw'
          dsimp only
          have := whileN_mono (n - (m + 1)) q.ne
          rw [show m + 1 + (n - (m + 1)) = n by omega] at this
          rw [this]; exact q
        | ret d => rw [eg] at b; exact ⟨b.of⟩
        | _ => rw [eg] at b; exact b.of.elim
  have q := key n env h0
  rw [sWhile_eq q.ne]; exact q
theorem run_of {n p : Nat} (hp : ds.length = p) (q : Go (g (startD n ds)) (fun _ => R .non) R) : ∃ d, runD n p g ds = .ok d ∧ R d := by
  unfold runD
  rw [if_pos hp]
  cases e : g (startD n ds) with
  | next e' => rw [e] at q; exact ⟨_, rfl, q.of⟩
  | ret d => rw [e] at q; exact ⟨_, rfl, q.of⟩
  | _ => rw [e] at q; exact q.of.elim
end
theorem compL_map {g : Dat → Ev → Option Ev} {t : Ev → Option Bool} {f : Ev → Option Dat} {env : Ev} (p : Dat → Bool) (y : Dat → Dat) : ∀ (xs : List Dat), (∀ x ∈ xs, ∃ e1, g x env = some e1 ∧ t e1 = some (p x) ∧ (p x = true → f e1 = some (y x))) → compL g t f env xs = some ((xs.filter p).map y)
  | [], _ => rfl
  | x :: xs, h => by
    obtain ⟨e1, a1, a2, a3⟩ := h x List.mem_cons_self
    have ih := compL_map p y xs fun z hz => h z (List.mem_cons_of_mem _ hz)
    rw [compL, a1]
    dsimp only [Option.bind]
    rw [a2]
    dsimp only
    cases hp : p x with
    | true => rw [if_pos rfl, a3 hp]; dsimp only; rw [ih, List.filter_cons, hp, if_pos rfl]; rfl
    | false => rw [if_neg (by decide), ih, List.filter_cons, hp, if_neg (by decide)]
theorem rng_get {lo : Int} {n i : Nat} {d : Dat} (h : (rng lo n)[i]? = some d) : i < n ∧ d = .int (lo + i) := by
  unfold rng at h
  rw [List.getElem?_map] at h
  by_cases hi : i < n
  · rw [List.getElem?_range hi] at h
    exact ⟨hi, (Option.some.inj h).symm⟩
  · rw [List.getElem?_eq_none (by simpa using hi)] at h
    cases h
theorem srcR1_eq {fs : Ev → Option (List Dat)} {env : Ev} {n : Nat} (h : fs env = some [.int n]) (hn : n ≤ 100000) : srcR1 fs env = some (rng 0 n) := by
  unfold srcR1
  rw [h]
  dsimp only
  rw [if_pos ⟨by omega, by omega, by rw [sizeLine_eq]; simp; omega⟩, Int.toNat_natCast]
theorem mulI_ok {i j : Int} (h : CMul i j) : mulE (.int i) (.int j) = some (.int (i * j)) := if_pos h
theorem modD_ok {i j : Int} (h : 0 < j) : modD (.int i) (.int j) = some (.int (i % j)) := if_pos h
theorem fdivD_ok {i j : Int} (h : CDiv i j) : fdivD (.int i) (.int j) = some (.int (i / j)) := if_pos h
theorem dO_ok {α : Type} {F : Dat → Dat → Option α} {f g : Ev → Option Dat} {env : Ev} {x y : Dat} {z : α} (h1 : f env = some x) (h2 : g env = some y) (h3 : F x y = some z) : dO F f g env = some z := by unfold dO; rw [h1, h2]; exact h3
theorem dF_ok {α : Type} {F : List Dat → Option α} {fs : Ev → Option (List Dat)} {env : Ev} {xs : List Dat} {z : α} (h1 : fs env = some xs) (h3 : F xs = some z) : dF F fs env = some z := by unfold dF; rw [h1]; exact h3
theorem aCons_ok {f : Ev → Option Dat} {fs : Ev → Option (List Dat)} {env : Ev} {x : Dat} {xs : List Dat} (h1 : f env = some x) (h2 : fs env = some xs) : aCons f fs env = some (x :: xs) := by unfold aCons; rw [h1, h2]; rfl
theorem dCal_ok {F : List Dat → Rs} {fs : Ev → Option (List Dat)} {env : Ev} {xs : List Dat} {d : Dat} (h1 : fs env = some xs) (h2 : F xs = .ok d) : dCal F fs env = some d := by unfold dCal; rw [h1]; show okR (F xs) = _; rw [h2]; rfl
theorem dB_ok {f : Ev → Option Dat} {env : Ev} {b : Bool} (h : f env = some (.bl b)) : dB f env = some b := by unfold dB; rw [h]
end L2
namespace K12
open PySem PySem.Spec PyProof.Rows L2
open K14 (F__law_mix F__law_name g__law_mix g__law_name)
noncomputable abbrev scr (ns : List Int) : Dat := .lst (ns.map .int)
theorem atI_nat' {α : Type} {xs : List α} {j : Nat} {x : α} (h : xs[j]? = some x) : atI xs (j : Int) = some x := atI_nat h
theorem mix_ok (ns : List Int) (k : Int) (hl : ns.length ≤ 63) (h0 : 0 ≤ k) (h1 : k < 100000) : ∃ r : Int, F__law_mix [scr ns, .int k] = .ok (.int r) ∧ 0 ≤ r ∧ r < 1000000000039 := by
  have := run_of (n := 3) (p := 2) (ds := [scr ns, .int k]) (g := g__law_mix) (R := fun d => ∃ r : Int, d = .int r ∧ 0 ≤ r ∧ r < 1000000000039) rfl ?_
  · obtain ⟨d, e, r, rfl, h⟩ := this
    exact ⟨r, e, h⟩
  show Go (g__law_mix [.fz (scr ns), .fz (.int k), .un]) _ _
  unfold g__law_mix
  have fin : ∀ z : Int, Go (sRet (dO modD (dO mulE (dV 2) (dC (.int 48271))) (dC (.int 1000000000039))) [.fz (scr ns), .fz (.int k), .fz (.int z)]) (fun _ => False) (fun d => ∃ r : Int, d = .int r ∧ 0 ≤ r ∧ r < 1000000000039) := fun z => by
    refine go_ret (d := .int (z * 48271 % 1000000000039)) (dO_ok (dO_ok rfl rfl (mulI_ok (.inr (by omega)))) rfl (modD_ok (by omega))) ⟨_, rfl, ?_, ?_⟩
    · exact Int.emod_nonneg _ (by omega)
    · exact Int.emod_lt_of_pos _ (by omega)
  refine go_cons (go_set (d := .int (7919 * k + 12345)) (dO_ok (dO_ok rfl rfl (mulI_ok (.inl (by omega)))) rfl rfl) ?_)
  dsimp only [List.set]
  refine go_cons (go_if (b := decide ((0 : Int) < ((ns.map Dat.int).length : Int))) rfl (fun hb => ?_) (fun hb => ?_))
  · have hp : 0 < ns.length := by have := of_decide_eq_true hb; rw [List.length_map] at this; omega
    have el : ((ns.map Dat.int).length : Int) = ns.length := by rw [List.length_map]
    have e1 : 0 ≤ k % (ns.length : Int) := Int.emod_nonneg _ (by omega)
    have e2 : k % (ns.length : Int) < ns.length := Int.emod_lt_of_pos _ (by omega)
    obtain ⟨j, hj⟩ : ∃ j : Nat, k % (ns.length : Int) = j := ⟨_, (Int.toNat_of_nonneg e1).symm⟩
    have hjl : j < ns.length := by omega
    have hix : atI (ns.map Dat.int) (k % ((ns.map Dat.int).length : Int)) = some (.int ns[j]) := by rw [el, hj]; exact atI_nat' (by simp [hjl])
    refine go_cons (go_set (d := .int (7919 * k + 12345 + k / ((ns.map Dat.int).length : Int))) (dO_ok rfl (dO_ok rfl rfl (fdivD_ok ⟨by omega, by omega⟩)) rfl) ?_)
    dsimp only [List.set]
    refine go_set (d := .int (7919 * k + 12345 + k / ((ns.map Dat.int).length : Int) + ns[j] * 6364136223846793005)) (dO_ok rfl (dO_ok (dO_ok rfl (dO_ok rfl rfl (modD_ok (by omega))) hix) rfl (mulI_ok (.inr (by omega)))) rfl) ?_
    dsimp only [List.set]
    exact (fin _).mono (fun _ h => h.elim) fun _ h => h
  · refine go_nil ?_
    exact (fin _).mono (fun _ h => h.elim) fun _ h => h
noncomputable def Low (z : Str) : Prop := ∀ c ∈ cl z, 97 ≤ c ∧ c ≤ 122
noncomputable abbrev letters : Str := "abcdefghijklmnopqrstuvwxyz"
theorem letters_list : cl letters = List.range' 97 26 := by decide +kernel
theorem letters_at {j : Int} (h0 : 0 ≤ j) (h1 : j < 26) : atI (cl letters) j = some (97 + j.toNat) := by
  obtain ⟨n, rfl⟩ : ∃ n : Nat, j = n := ⟨j.toNat, (Int.toNat_of_nonneg h0).symm⟩
  refine atI_nat ?_
  rw [letters_list, List.getElem?_range' (by omega)]
  simp
theorem low_add {z : Str} {c : Nat} (h : Low z) (h1 : 97 ≤ c) (h2 : c ≤ 122) : Low (z ++ (⟨#[c]⟩ : Str)) := by
  intro d hd
  rw [cl_app, cl_one] at hd
  rcases List.mem_append.mp hd with h' | h'
  · exact h d h'
  · rw [List.mem_singleton.mp h']; exact ⟨h1, h2⟩
theorem low_empty : Low "" := fun d hd => by
  have e : cl ("" : Str) = [] := by decide +kernel
  rw [e] at hd
  cases hd
theorem ix_letters {j : Int} (h0 : 0 ≤ j) (h1 : j < 26) : ixD (.str letters) (.int j) = some (.str ⟨#[97 + j.toNat]⟩) := by
  show (atI (cl letters) j).map _ = _
  rw [letters_at h0 h1]; rfl
theorem addS_ok {x y : Str} (h : x.length + y.length ≤ 1000) : addD (.str x) (.str y) = some (.str (x ++ y)) := if_pos (Nat.le_trans h (by decide))
theorem name_ok (c : Int) (h0 : 0 ≤ c) : ∃ z : Str, F__law_name [.int c] = .ok (.str z) ∧ 1 ≤ z.length ∧ z.length ≤ 8 ∧ Low z := by
  have := run_of (n := 4) (p := 1) (ds := [.int c]) (g := g__law_name) (R := fun d => ∃ z : Str, d = .str z ∧ 1 ≤ z.length ∧ z.length ≤ 8 ∧ Low z) rfl ?_
  · obtain ⟨d, e, r, rfl, h⟩ := this
    exact ⟨r, e, h⟩
  show Go (g__law_name [.fz (.int c), .un, .un, .un]) _ _
  unfold g__law_name
  refine go_cons (go_set (d := .str "") rfl ?_)
  refine go_cons (go_set (d := .int (c / 8)) (dO_ok rfl rfl (fdivD_ok ⟨by omega, by omega⟩)) ?_)
  dsimp only [List.set]
  obtain ⟨m, hm⟩ : ∃ m : Nat, 1 + c % 8 = m := ⟨(1 + c % 8).toNat, by omega⟩
  refine go_cons (go_for (ds := rng 0 m) (fun i e => ∃ (z : Str) (r : Int) (v : Slt), e = [.fz (.int c), .fz (.str z), .fz (.int r), v] ∧ 0 ≤ r ∧ z.length = i ∧ Low z) (srcR1_eq (aCons_ok (by rw [← hm]; exact dO_ok rfl (dO_ok rfl rfl (modD_ok (by omega))) rfl) rfl) (by omega)) ⟨"", c / 8, .un, rfl, by omega, by decide, low_empty⟩ ?_ ?_)
  · rintro i d e hi ⟨z, r, v, rfl, hr, hz, hlow⟩
    obtain ⟨hi1, rfl⟩ := rng_get hi
    refine ⟨_, rfl, ?_⟩
    dsimp only [List.set]
    have hx := ix_letters (j := r % 26) (by omega) (by omega)
    refine go_cons (go_set (dO_ok rfl (dO_ok rfl (dO_ok rfl rfl (modD_ok (by omega))) hx) (addS_ok (by show z.length + 1 ≤ _; omega))) ?_)
    refine go_set (d := .int (r / 26)) (dO_ok rfl rfl (fdivD_ok ⟨by omega, by omega⟩)) ?_
    dsimp only [List.set]
    exact ⟨_, _, _, rfl, by omega, by rw [len_app]; show _ + 1 = _; omega, low_add hlow (by omega) (by omega)⟩
  · rintro e ⟨z, r, v, rfl, hr, hz, hlow⟩
    rw [rng_len] at hz
    exact go_ret (d := .str z) rfl ⟨z, rfl, by omega, by omega, hlow⟩
end K12
namespace K12
open PySem PySem.Spec PyProof.Rows L2
open K14 (F__law_wire_names g__law_wire_names)
theorem nodup_le {α : Type} [BEq α] [LawfulBEq α] : ∀ (l b : List α), l.Nodup → (∀ x ∈ l, x ∈ b) → l.length ≤ b.length
  | [], b, _, _ => Nat.zero_le _
  | x :: l, b, nd, h => by
    have hx := h x List.mem_cons_self
    have h2 := nodup_le l (b.erase x) (List.nodup_cons.mp nd).2 fun y hy => by
      have hne : y ≠ x := fun e => (List.nodup_cons.mp nd).1 (e ▸ hy)
      exact (List.mem_erase_of_ne hne).mpr (h y (List.mem_cons_of_mem _ hy))
    have h3 := List.length_erase_of_mem hx
    have h4 : 0 < b.length := List.length_pos_of_mem hx
    rw [List.length_cons]
    omega
noncomputable def kept5 : List Str := ["given", "made", "up", "down", "start"]
noncomputable def NameOk (z : Str) : Prop := 1 ≤ z.length ∧ z.length ≤ 8 ∧ Low z ∧ z ∉ kept5
noncomputable def turnW (p : List Nat) (c k : Nat) : Str := ⟨(p ++ [97 + (c - 97 + k) % 26]).toArray⟩
theorem cl_turnW (p : List Nat) (c k : Nat) : cl (turnW p c k) = p ++ [97 + (c - 97 + k) % 26] := rfl
theorem turnW_inj {p : List Nat} {c j k : Nat} (hj : j < 26) (hk : k < 26) (h : turnW p c j = turnW p c k) : j = k := by
  have e := congrArg cl h
  rw [cl_turnW, cl_turnW] at e
  have e2 := List.append_cancel_left e
  simp only [List.cons.injEq, and_true] at e2
  omega
theorem turnW_many {p : List Nat} {c n : Nat} {bad : List Str} (hn : n ≤ 26) (h : ∀ j < n, turnW p c j ∈ bad) : n ≤ bad.length := by
  have := nodup_le ((List.range n).map (turnW p c)) bad (by
    rw [List.nodup_iff_pairwise_ne, List.pairwise_map]
    refine List.Pairwise.imp_of_mem ?_ (List.nodup_range (n := n))
    intro a b ha hb hne e
    have h1 := List.mem_range.mp ha
    have h2 := List.mem_range.mp hb
    exact hne (turnW_inj (by omega) (by omega) e)) (fun x hx => by
      obtain ⟨j, hj, rfl⟩ := List.mem_map.mp hx
      exact h j (List.mem_range.mp hj))
  simpa using this
theorem find_letter : ∀ k : Nat, k < 26 → Txt.find letters ⟨#[97 + k]⟩ = (k : Int) := by
  have h : ∀ k ∈ List.range 26, Txt.find letters ⟨#[97 + k]⟩ = (k : Int) := by decide +kernel
  exact fun k hk => h k (List.mem_range.mpr hk)
theorem split_last {z : Str} (h : 1 ≤ z.length) : ∃ p c, cl z = p ++ [c] := by
  have hl : (cl z).length = z.length := cl_len z
  have hne : cl z ≠ [] := fun e => by rw [e] at hl; simp at hl; omega
  exact ⟨(cl z).dropLast, (cl z).getLast hne, (List.dropLast_concat_getLast hne).symm⟩
theorem cut_last {z : Str} {p : List Nat} {c : Nat} (h : cl z = p ++ [c]) : cl (Txt.slice z none (some (-1))) = p := by
  rw [cl_slice, h]
  unfold cutL
  have hn : (p ++ [c]).length = p.length + 1 := by simp
  have e1 : HT.sIx (p ++ [c]).length 0 none = 0 := rfl
  have e2 : HT.sIx (p ++ [c]).length (p ++ [c]).length (some (-1)) = p.length := by
    unfold HT.sIx
    dsimp only
    rw [if_pos (by decide), hn]
    omega
  rw [e1, e2, List.drop_zero, Nat.sub_zero]
  simp
theorem in_strs (z : Str) (ws : List Str) : (ws.map Dat.str).any (fun y => eqD y (.str z)) = decide (z ∈ ws) := by
  induction ws with
  | nil => simp
  | cons w ws ih =>
    rw [List.map_cons, List.any_cons, ih]
    have : eqD (.str w) (.str z) = (w == z) := by unfold eqD; rfl
    rw [this]
    by_cases e : w = z
    · subst e; simp
    · have e' : (w == z) = false := by simpa using e
      have e2 : ¬ z = w := fun q => e q.symm
      rw [e']; simp [e2]
theorem pd_str (n : Nat) (z : Str) : pd n (.str z) = true := by cases n <;> rfl
theorem pd_strs (ws : List Str) : (ws.map Dat.str).all (pd 20) = true := by
  induction ws with
  | nil => rfl
  | cons w ws ih => rw [List.map_cons, List.all_cons, ih, pd_str]; rfl
theorem inB_lst (z : Str) (ws : List Str) : inB (.str z) (.lst (ws.map .str)) = some (decide (z ∈ ws)) := by
  unfold inB
  dsimp only
  rw [pd_strs, pd_str, Bool.and_self, if_pos rfl, in_strs]
theorem inB_tup (z : Str) (ws : List Str) : inB (.str z) (.tup (ws.map .str)) = some (decide (z ∈ ws)) := by
  unfold inB
  dsimp only
  rw [pd_strs, pd_str, Bool.and_self, if_pos rfl, in_strs]
theorem inF_lst (z : Str) (ws : List Str) : inF (.str z) (.lst (ws.map .str)) = some (.bl (decide (z ∈ ws))) := by unfold inF; rw [inB_lst]; rfl
theorem inF_tup (z : Str) (ws : List Str) : inF (.str z) (.tup (ws.map .str)) = some (.bl (decide (z ∈ ws))) := by unfold inF; rw [inB_tup]; rfl
theorem tOr_ok {t u : Ev → Option Bool} {env : Ev} {a b : Bool} (h1 : t env = some a) (h2 : a = false → u env = some b) : tOrD t u env = some (a || b) := by
  unfold tOrD; rw [h1]; cases a with
  | true => rfl
  | false => exact h2 rfl
theorem tAnd_ok {t u : Ev → Option Bool} {env : Ev} {a b : Bool} (h1 : t env = some a) (h2 : a = true → u env = some b) : tAndD t u env = some (a && b) := by
  unfold tAndD; rw [h1]; cases a with
  | false => rfl
  | true => exact h2 rfl
theorem dS_ok {F : Dat → Option Int → Option Int → Option Dat} {f : Ev → Option Dat} {l h : Ev → Option (Option Int)} {env : Ev} {x z : Dat} {a b : Option Int} (h1 : f env = some x) (h2 : l env = some a) (h3 : h env = some b) (h4 : F x a b = some z) : dS F f l h env = some z := by
  unfold dS; rw [h1, h2, h3]; exact h4
theorem oSome_ok {f : Ev → Option Dat} {env : Ev} {i : Int} (h : f env = some (.int i)) : oSome f env = some (some i) := by unfold oSome; rw [h]
theorem slS_ok (z : Str) (a b : Option Int) : slD (.str z) a b = some (.str (Txt.slice z a b)) := rfl
theorem eqI (i j : Int) : eqF (.int i) (.int j) = some (.bl (i == j)) := rfl
theorem ixL_nat {xs : List Dat} {j : Nat} {x : Dat} (h : xs[j]? = some x) : ixD (.lst xs) (.int j) = some x := atI_nat h
theorem ixT_nat {xs : List Dat} {j : Nat} {x : Dat} (h : xs[j]? = some x) : ixD (.tup xs) (.int j) = some x := atI_nat h
theorem slice_to (w0 : Str) {n0 : Nat} (h : n0 ≤ w0.length) : cl (Txt.slice w0 none (some (n0 : Int))) = (cl w0).take n0 := by
  have hcl : (cl w0).length = w0.length := cl_len w0
  rw [cl_slice]; unfold cutL
  rw [HT.sIx_nat]
  show (List.drop 0 (cl w0)).take (min n0 (cl w0).length - 0) = _
  rw [List.drop_zero, Nat.sub_zero, Nat.min_eq_left (by omega)]
theorem slice_from (w0 : Str) {n0 : Nat} (h : n0 ≤ w0.length) : cl (Txt.slice w0 (some (n0 : Int)) none) = (cl w0).drop n0 := by
  have hcl : (cl w0).length = w0.length := cl_len w0
  rw [cl_slice]; unfold cutL
  rw [HT.sIx_nat]
  show (List.drop (min n0 (cl w0).length) (cl w0)).take ((cl w0).length - min n0 (cl w0).length) = _
  rw [Nat.min_eq_left (by omega), List.take_of_length_le (by rw [List.length_drop]; exact Nat.le_refl _)]
noncomputable abbrev wenv (ns : List Int) (first many : Int) (ws : List Str) (v1 v2 v3 v4 : Slt) : Ev := [.fz (scr ns), .fz (.int first), .fz (.int many), .ow (ws.map .str), .fz (.str letters), v1, v2, v3, v4]
theorem wire_names_ok (ns : List Int) (first many : Int) (hl : ns.length ≤ 63) (h0 : 0 ≤ first) (h1 : first < 10000) (h2 : 1 ≤ many) (h3 : many ≤ 10) :
    ∃ ws : List Str, F__law_wire_names [scr ns, .int first, .int many] = .ok (.lst (ws.map .str)) ∧ (ws.length : Int) = many ∧ (∀ z ∈ ws, NameOk z) ∧ ws.Nodup := by
  have := run_of (n := 9) (p := 3) (ds := [scr ns, .int first, .int many]) (g := g__law_wire_names) (R := fun d => ∃ ws : List Str, d = .lst (ws.map .str) ∧ (ws.length : Int) = many ∧ (∀ z ∈ ws, NameOk z) ∧ ws.Nodup) rfl ?_
  · obtain ⟨d, e, r, rfl, h⟩ := this
    exact ⟨r, e, h⟩
  show Go (g__law_wire_names [.fz (scr ns), .fz (.int first), .fz (.int many), .un, .un, .un, .un, .un, .un]) _ _
  unfold g__law_wire_names
  refine go_cons (go_own (ds := []) rfl ?_)
  refine go_cons (go_set (d := .str letters) rfl ?_)
  dsimp only [List.set]
  obtain ⟨m, hm⟩ : ∃ m : Nat, many = m := ⟨many.toNat, by omega⟩
  refine go_cons (go_for (ds := rng 0 m) (fun i e => ∃ (ws : List Str) (v1 v2 v3 v4 : Slt), e = wenv ns first many ws v1 v2 v3 v4 ∧ ws.length = i ∧ (∀ z ∈ ws, NameOk z) ∧ ws.Nodup) (srcR1_eq (aCons_ok (by rw [← hm]; rfl) rfl) (by omega))
    ⟨[], .un, .un, .un, .un, rfl, rfl, by simp, List.nodup_nil⟩ ?_ ?_)
  · rintro i d e hi ⟨ws, v1, v2, v3, v4, rfl, hwl, hok, hnd⟩
    obtain ⟨hi1, rfl⟩ := rng_get hi
    refine ⟨_, rfl, ?_⟩
    dsimp only [List.set]
    obtain ⟨cell, ec, c0, c1⟩ := mix_ok ns (first + (0 + (i : Int))) hl (by omega) (by omega)
    refine go_cons (go_set (dCal_ok (xs := [scr ns, .int (first + (0 + (i : Int)))]) rfl ec) ?_)
    obtain ⟨z0, en, z1, z2, z3⟩ := name_ok cell c0
    refine go_cons (go_set (dCal_ok (xs := [.int cell]) rfl en) ?_)
    dsimp only [List.set]
    refine go_cons (Go.mono (N := fun e => ∃ (z : Str) (v : Slt), e = wenv ns first many ws (.fz (.int (0 + (i : Int)))) (.fz (.int cell)) (.fz (.str z)) v ∧ 1 ≤ z.length ∧ z.length ≤ 8 ∧ Low z) ?_ ?_ fun _ h => h)
    · refine go_if (tAnd_ok (a := decide ((0 : Int) < 0 + (i : Int))) (b := cell / 8 % 2 == 0) rfl fun _ => dB_ok (dO_ok (dO_ok (dO_ok rfl rfl (fdivD_ok ⟨by omega, by omega⟩)) rfl (modD_ok (by omega))) rfl rfl)) (fun hb => ?_) (fun hb => go_nil ⟨z0, v4, rfl, z1, z2, z3⟩)
      have hp' : 0 < i := by
        have := (Bool.and_eq_true _ _ ▸ hb).1
        have := of_decide_eq_true this
        omega
      have hg : (ws.map Dat.str)[0]? = some (.str (ws[0]'(by omega))) := by simp [show 0 < ws.length by omega]
      have hm0 : ws[0]'(by omega) ∈ ws := List.getElem_mem _
      generalize ws[0]'(by omega) = w0 at hg hm0
      obtain ⟨a1, a2, a3, _⟩ := hok w0 hm0
      have b1 : 0 ≤ cell / 16 % (w0.length : Int) := Int.emod_nonneg _ (by omega)
      have b2 : cell / 16 % (w0.length : Int) < w0.length := Int.emod_lt_of_pos _ (by omega)
      refine go_cons (go_set (d := .int (cell / 16 % (w0.length : Int))) (dO_ok (dO_ok rfl rfl (fdivD_ok ⟨by omega, by omega⟩)) (dF_ok (aCons_ok (dO_ok rfl rfl (ixL_nat (j := 0) hg)) rfl) rfl) (modD_ok (by omega))) ?_)
      generalize cell / 16 % (w0.length : Int) = at0 at b1 b2 ⊢
      obtain ⟨n0, rfl⟩ : ∃ n : Nat, at0 = n := ⟨at0.toNat, (Int.toNat_of_nonneg b1).symm⟩
      refine go_cons (go_set (d := .str w0) (dO_ok rfl rfl (ixL_nat (j := 0) hg)) ?_)
      dsimp only [List.set]
      have hx := ix_letters (j := cell / 128 % 26) (by omega) (by omega)
      have hcl : (cl w0).length = w0.length := cl_len w0
      have e1 := slice_to w0 (n0 := n0) (by omega)
      have e2 : cl (Txt.slice w0 (some ((n0 : Int) + 1)) none) = (cl w0).drop (n0 + 1) := by
        rw [show ((n0 : Int) + 1) = ((n0 + 1 : Nat) : Int) by omega]; exact slice_from w0 (by omega)
      have hh1 := cl_len (Txt.slice w0 none (some (n0 : Int)))
      have hh2 := cl_len (Txt.slice w0 (some ((n0 : Int) + 1)) none)
      rw [e1, List.length_take] at hh1
      rw [e2, List.length_drop] at hh2
      refine go_set (dO_ok (dO_ok (dS_ok rfl rfl (oSome_ok rfl) (slS_ok w0 none (some (n0 : Int)))) (dO_ok rfl (dO_ok (dO_ok rfl rfl (fdivD_ok ⟨by omega, by omega⟩)) rfl (modD_ok (by omega))) hx) (addS_ok (by show _ + 1 ≤ _; omega))) (dS_ok rfl (oSome_ok (i := (n0 : Int) + 1) rfl) rfl (slS_ok w0 (some ((n0 : Int) + 1)) none)) (addS_ok (by rw [len_app]; show _ + 1 + _ ≤ _; omega))) ?_
      dsimp only [List.set]
      refine ⟨_, _, rfl, ?_, ?_, ?_⟩
      · rw [len_app, len_app]; show 1 ≤ _ + 1 + _; omega
      · rw [len_app, len_app]; show _ + 1 + _ ≤ 8; omega
      · intro d hd
        rw [cl_app, cl_app, e1, e2, cl_one] at hd
        rcases List.mem_append.mp hd with hd | hd
        · rcases List.mem_append.mp hd with hd | hd
          · exact a3 d (List.mem_of_mem_take hd)
          · rw [List.mem_singleton.mp hd]; omega
        · exact a3 d (List.mem_of_mem_drop hd)
    · rintro e ⟨z, v, rfl, y1, y2, y3⟩
      obtain ⟨p, c, hpc⟩ := split_last y1
      have hc := y3 c (by rw [hpc]; simp)
      have hpl : p.length + 1 = z.length := by rw [← cl_len z, hpc]; simp
      have hpw : ∀ d ∈ p, 97 ≤ d ∧ d ≤ 122 := fun d hd => y3 d (by rw [hpc]; simp [hd])
      have hz0 : z = turnW p c 0 := cl_ext (by rw [cl_turnW, hpc]; congr 2; omega)
      have hbl : (ws ++ kept5).length ≤ 14 := by rw [List.length_append]; show ws.length + 5 ≤ 14; omega
      refine go_cons (go_while (n := (ws ++ kept5).length - 0) (fun m e => ∃ k, m = (ws ++ kept5).length - k ∧ k ≤ (ws ++ kept5).length ∧ (∀ j < k, turnW p c j ∈ ws ++ kept5) ∧ e = wenv ns first many ws (.fz (.int (0 + (i : Int)))) (.fz (.int cell)) (.fz (.str (turnW p c k))) v)
        ⟨0, rfl, Nat.zero_le _, fun j hj => absurd hj (Nat.not_lt_zero _), by rw [← hz0]⟩ ?_)
      rintro m e ⟨k, rfl, hk, hbad, rfl⟩
      have hzl : (turnW p c k).length = z.length := by rw [← cl_len, cl_turnW, List.length_append]; exact hpl
      have ht : ∀ b, decide (turnW p c k ∈ ws ++ kept5) = b → tOrD (dB (dO inF (dV 7) (dP 3))) (dB (dO inF (dV 7) (dL (aLst (aCons (dC (.str "given")) (aCons (dC (.str "made")) (aCons (dC (.str "up")) (aCons (dC (.str "down")) (aCons (dC (.str "start")) aNil))))))))) (wenv ns first many ws (.fz (.int (0 + (i : Int)))) (.fz (.int cell)) (.fz (.str (turnW p c k))) v) = some b := fun b hb => by
        rw [← hb]
        have := tOr_ok (t := dB (dO inF (dV 7) (dP 3))) (u := dB (dO inF (dV 7) (dL (aLst (aCons (dC (.str "given")) (aCons (dC (.str "made")) (aCons (dC (.str "up")) (aCons (dC (.str "down")) (aCons (dC (.str "start")) aNil))))))))) (env := wenv ns first many ws (.fz (.int (0 + (i : Int)))) (.fz (.int cell)) (.fz (.str (turnW p c k))) v) (dB_ok (dO_ok rfl rfl (inF_lst (turnW p c k) ws))) (fun _ => dB_ok (dO_ok rfl rfl (inF_lst (turnW p c k) kept5)))
        rw [this]
        congr 1
        by_cases g1 : turnW p c k ∈ ws <;> by_cases g2 : turnW p c k ∈ kept5 <;> simp [g1, g2]
      by_cases hmem : turnW p c k ∈ ws ++ kept5
      · refine .inr ⟨ht true (decide_eq_true hmem), ?_⟩
        have hk1 : k + 1 ≤ (ws ++ kept5).length := turnW_many (p := p) (c := c) (by omega) fun j hj => by
          rcases Nat.lt_or_ge j k with h | h
          · exact hbad j h
          · have : j = k := by omega
            subst this; exact hmem
        have hf := find_letter ((c - 97 + k) % 26) (by omega)
        have hlast : ixD (.str (turnW p c k)) (.int (-1)) = some (.str ⟨#[97 + (c - 97 + k) % 26]⟩) := by
          show (atI (cl (turnW p c k)) (-1)).map _ = _
          rw [atI_last' _ (by rw [cl_turnW]; simp), cl_turnW]
          simp
        have hsx : sindexD (.str letters) [.str ⟨#[97 + (c - 97 + k) % 26]⟩] = some (.int (((c - 97 + k) % 26 : Nat) : Int)) := by
          unfold sindexD
          dsimp only
          rw [hf, if_pos (by omega)]
        have hx := ix_letters (j := ((((c - 97 + k) % 26 : Nat) : Int) + 1) % 26) (by omega) (by omega)
        have hneg : dU negD (dC (.int 1)) (wenv ns first many ws (.fz (.int (0 + (i : Int)))) (.fz (.int cell)) (.fz (.str (turnW p c k))) v) = some (.int (-1)) := rfl
        have hsi : dM "str" sindexD (dV 4) (aCons (dO ixD (dV 7) (dU negD (dC (.int 1)))) aNil) (wenv ns first many ws (.fz (.int (0 + (i : Int)))) (.fz (.int cell)) (.fz (.str (turnW p c k))) v) = some (.int (((c - 97 + k) % 26 : Nat) : Int)) := by
          have ha : aCons (dO ixD (dV 7) (dU negD (dC (.int 1)))) aNil (wenv ns first many ws (.fz (.int (0 + (i : Int)))) (.fz (.int cell)) (.fz (.str (turnW p c k))) v) = some [.str ⟨#[97 + (c - 97 + k) % 26]⟩] := aCons_ok (dO_ok rfl hneg hlast) rfl
          unfold dM
          rw [ha]
          exact hsx
        have hsl := Txt.slice_le (turnW p c k) none (some (-1))
        refine go_set (dO_ok (dS_ok rfl rfl (oSome_ok hneg) (slS_ok (turnW p c k) none (some (-1)))) (dO_ok rfl (dO_ok (dO_ok hsi rfl rfl) rfl (modD_ok (by omega))) hx) (addS_ok (by show _ + 1 ≤ _; omega))) ?_
        have ew : Txt.slice (turnW p c k) none (some (-1)) ++ (⟨#[97 + (((((c - 97 + k) % 26 : Nat) : Int) + 1) % 26).toNat]⟩ : Str) = turnW p c (k + 1) := by
          refine cl_ext ?_
          rw [cl_app, cut_last (cl_turnW p c k), cl_turnW, cl_one]
          congr 2
          omega
        rw [ew]
        refine ⟨(ws ++ kept5).length - (k + 1), by omega, k + 1, rfl, hk1, fun j hj => ?_, rfl⟩
        rcases Nat.lt_or_ge j k with h | h
        · exact hbad j h
        · have : j = k := by omega
          subst this; exact hmem
      · refine .inl ⟨ht false (decide_eq_false hmem), ?_⟩
        rw [List.mem_append, not_or] at hmem
        refine go_meth (ds := ws.map .str) (as := [.str (turnW p c k)]) (ds' := (ws ++ [turnW p c k]).map .str) rfl rfl (by unfold appendF; dsimp only; rw [if_pos (by rw [List.length_map, sizeLine_eq]; omega), List.map_append]; rfl) ?_
        dsimp only [List.set]
        refine ⟨ws ++ [turnW p c k], _, _, _, _, rfl, by rw [List.length_append, List.length_singleton]; omega, ?_, ?_⟩
        · intro y hy
          rcases List.mem_append.mp hy with hy | hy
          · exact hok y hy
          · rw [List.mem_singleton.mp hy]
            refine ⟨by omega, by omega, fun d hd => ?_, hmem.2⟩
            rw [cl_turnW] at hd
            rcases List.mem_append.mp hd with hd | hd
            · exact hpw d hd
            · rw [List.mem_singleton.mp hd]; omega
        · refine List.nodup_append.mpr ⟨hnd, List.nodup_cons.mpr ⟨by simp, List.nodup_nil⟩, fun a ha b hb => ?_⟩
          rw [List.mem_singleton.mp hb]
          intro e
          exact hmem.1 (e ▸ ha)
  · rintro e ⟨ws, v1, v2, v3, v4, rfl, hwl, hok, hnd⟩
    rw [rng_len] at hwl
    exact go_retO (ds := ws.map .str) rfl ⟨ws, rfl, by omega, hok, hnd⟩
end K12
namespace K12
open PySem PySem.Spec PyProof.Rows L2
open K14 (F__law_graph F__law_spots g__law_graph g__law_spots)
theorem pick (x y : Dat) (b : Bool) : ixD (.lst [x, y]) (.int (if b then 1 else 0)) = some (if b then y else x) := by cases b <;> rfl
theorem pick2 (x y : Dat) {j : Int} (h0 : 0 ≤ j) (h1 : j < 2) : ixD (.lst [x, y]) (.int j) = some (if j = 1 then y else x) := by
  rcases (show j = 0 ∨ j = 1 by omega) with rfl | rfl <;> rfl
theorem int_b (b : Bool) : intD [.bl b] = some (.int (if b then 1 else 0)) := rfl
noncomputable def Spots (ks : List Int) : Prop := 1 ≤ ks.length ∧ ks.length ≤ 30 ∧ (∀ k ∈ ks, 0 ≤ k ∧ k < 64) ∧ ks.Pairwise (· < ·)
theorem far_inj : ∀ t ∈ List.range 32, ∀ i ∈ List.range 30, ∀ j ∈ List.range 30, (i * (1 + 2 * t)) % 64 = (j * (1 + 2 * t)) % 64 → i = j := by decide +kernel
theorem rng_eq (m : Nat) : rng 0 m = ((List.range m).map fun k : Nat => (k : Int)).map Dat.int := by
  unfold rng
  rw [List.map_map]
  apply List.map_congr_left
  intro k _
  show Dat.int (0 + (k : Int)) = Dat.int (k : Int)
  rw [Int.zero_add]
theorem spots_ok (c : Int) (h0 : 0 ≤ c) : ∃ ks : List Int, F__law_spots [.int c] = .ok (.tup (ks.map .int)) ∧ Spots ks := by
  have := run_of (n := 3) (p := 1) (ds := [.int c]) (g := g__law_spots) (R := fun d => ∃ ks : List Int, d = .tup (ks.map .int) ∧ Spots ks) rfl ?_
  · obtain ⟨d, e, r, rfl, h⟩ := this
    exact ⟨r, e, h⟩
  show Go (g__law_spots [.fz (.int c), .un, .un]) _ _
  unfold g__law_spots
  obtain ⟨mz, m, hmz, hm, hm1, hm2⟩ : ∃ (mz : Int) (m : Nat), mz = (m : Int) ∧ (if (c % 8 == 3) = true then Dat.int (1 + c / 8 % 30) else .int (1 + c / 8 % 4)) = .int mz ∧ 1 ≤ m ∧ m ≤ 30 := by
    split
    · exact ⟨1 + c / 8 % 30, (1 + c / 8 % 30).toNat, by omega, rfl, by omega, by omega⟩
    · exact ⟨1 + c / 8 % 4, (1 + c / 8 % 4).toNat, by omega, rfl, by omega, by omega⟩
  refine go_cons (go_set (d := .int mz) (by rw [← hm]; exact dO_ok (x := .lst [.int (1 + c / 8 % 4), .int (1 + c / 8 % 30)]) rfl (dF_ok (aCons_ok (dO_ok (dO_ok rfl rfl (modD_ok (by omega))) rfl (eqI _ _)) rfl) (int_b _)) (pick _ _ _)) ?_)
  dsimp only [List.set]
  refine go_cons (go_set (d := .int (1 + 2 * (c / 16384 % 32))) (dO_ok rfl (dO_ok rfl (dO_ok (dO_ok rfl rfl (fdivD_ok ⟨by omega, by omega⟩)) rfl (modD_ok (by omega))) (mulI_ok (.inl (by omega)))) rfl) ?_)
  dsimp only [List.set]
  generalize hfar : 1 + 2 * (c / 16384 % 32) = far
  have hcomp : compL (gset 0) tTrue (dO modD (dO addD (dO fdivD (dV 1) (dC (.int 256))) (dO mulE (dV 0) (dV 2))) (dC (.int 64))) [.un, .fz (.int c), .fz (.int far)] (rng 0 m) = some ((((List.range m).map fun k : Nat => (c / 256 + (k : Int) * far) % 64)).map .int) := by
    rw [compL_map (fun _ => true) (fun d => match d with | .int k => .int ((c / 256 + k * far) % 64) | d => d)]
    · rw [List.filter_eq_self.mpr (fun _ _ => rfl), rng_eq, List.map_map, List.map_map]
      rw [List.map_map]
      rfl
    · intro x hx
      rw [rng_eq] at hx
      obtain ⟨k, _, rfl⟩ := List.mem_map.mp hx
      refine ⟨[.fz (.int k), .fz (.int c), .fz (.int far)], rfl, rfl, fun _ => ?_⟩
      exact dO_ok (dO_ok (dO_ok rfl rfl (fdivD_ok ⟨by omega, by omega⟩)) (dO_ok rfl rfl (mulI_ok (.inr (by omega)))) rfl) rfl (modD_ok (by omega))
  have hd : dComp (srcR1 (aCons (dV 1) aNil)) [none, some 0, some 2] (gset 0) tTrue (dO modD (dO addD (dO fdivD (dV 1) (dC (.int 256))) (dO mulE (dV 0) (dV 2))) (dC (.int 64))) [.fz (.int c), .fz (.int mz), .fz (.int far)] = some ((((List.range m).map fun k : Nat => (c / 256 + (k : Int) * far) % 64)).map .int) := by
    unfold dComp
    rw [srcR1_eq (n := m) (by rw [← hmz]; rfl) (by omega)]
    exact hcomp
  generalize hks : (List.range m).map (fun k : Nat => (c / 256 + (k : Int) * far) % 64) = ks at hd
  have hlen : ks.length = m := by rw [← hks, List.length_map, List.length_range]
  have hall : ∀ k ∈ ks, 0 ≤ k ∧ k < 64 := fun k hk => by
    rw [← hks] at hk
    obtain ⟨j, _, rfl⟩ := List.mem_map.mp hk
    omega
  have hnd : ks.Nodup := by
    rw [← hks]
    unfold List.Nodup
    rw [List.pairwise_map]
    refine List.Pairwise.imp_of_mem (fun {i j} hi hj hlt => ?_) List.pairwise_lt_range
    have hi := List.mem_range.mp hi
    have hj := List.mem_range.mp hj
    obtain ⟨t, ht, ht1⟩ : ∃ t : Nat, far = ((1 + 2 * t : Nat) : Int) ∧ t < 32 := ⟨(c / 16384 % 32).toNat, by omega, by omega⟩
    rw [ht]
    intro e
    have key := far_inj t (List.mem_range.mpr ht1) i (List.mem_range.mpr (by omega)) j (List.mem_range.mpr (by omega))
    have e1 : (i : Int) * ((1 + 2 * t : Nat) : Int) = ((i * (1 + 2 * t) : Nat) : Int) := by push_cast; rfl
    have e2 : (j : Int) * ((1 + 2 * t : Nat) : Int) = ((j * (1 + 2 * t) : Nat) : Int) := by push_cast; rfl
    rw [e1, e2] at e
    generalize i * (1 + 2 * t) = p at e key
    generalize j * (1 + 2 * t) = q at e key
    have := key (by omega)
    omega
  have hs : sortedN [.lst (ks.map .int)] = some ((sortI ks).map .int) := by
    unfold sortedN
    dsimp only
    rw [intsD_map]
    show (if ks.length < 64 then _ else _) = _
    rw [if_pos (by omega)]
  refine go_ret (d := .tup ((sortI ks).map .int)) (dF_ok (aCons_ok (x := .lst ((sortI ks).map .int)) ?_ rfl) rfl) ⟨sortI ks, rfl, ?_, ?_, ?_, List.Pairwise.imp (fun {a b} h => Int.lt_iff_le_and_ne.mpr h) (List.Pairwise.and (sortI_sorted ks) ((sortI_perm ks).nodup_iff.mpr hnd))⟩
  · unfold dL
    rw [dF_ok (aCons_ok (x := .lst (ks.map .int)) (by show Option.map Dat.lst _ = _; rw [hd]; rfl) rfl) hs]
    rfl
  · rw [(sortI_perm ks).length_eq]; omega
  · rw [(sortI_perm ks).length_eq]; omega
  · exact fun k hk => hall k ((sortI_perm ks).mem_iff.mp hk)
structure Step' where
  w : Int
  up : Bool
  takes : List Int
  fills : List Int
noncomputable def wireD (w : Str × Bool) : Dat := .tup [.str w.1, .str (if w.2 then "made" else "given")]
noncomputable def stepD (s : Step') : Dat := .tup [.int s.w, .bl s.up, .tup (s.takes.map .int), .tup (s.fills.map .int)]
structure Gr where
  wires : List (Str × Bool)
  steps : List Step'
  marks : Int
  code : Int
noncomputable def Gr.d (G : Gr) : Dat := .tup [.tup (G.wires.map wireD), .tup (G.steps.map stepD), .int G.marks, .int G.code]
structure Gr.Ok (G : Gr) : Prop where
  w1 : 1 ≤ G.wires.length
  w2 : G.wires.length ≤ 10
  nm : ∀ w ∈ G.wires, NameOk w.1
  nd : (G.wires.map (·.1)).Nodup
  s1 : 1 ≤ G.steps.length
  s2 : G.steps.length ≤ 24
  sw : ∀ s ∈ G.steps, 0 ≤ s.w ∧ s.w < G.wires.length ∧ Spots s.takes ∧ Spots s.fills
  m0 : 0 ≤ G.marks
  m1 : G.marks < 2 ^ 64
  c0 : 0 ≤ G.code
  c1 : G.code < 2 ^ G.wires.length
theorem aTup_ok {fs : Ev → Option (List Dat)} {env : Ev} {xs : List Dat} (h : fs env = some xs) (hl : xs.length ≤ 1000) : aTup fs env = some (.tup xs) := by unfold aTup; rw [h]; exact if_pos hl
theorem append_ok {ds : List Dat} {d : Dat} (h : ds.length ≤ 1000) : appendF ds [d] = some (ds ++ [d]) := if_pos (Nat.lt_of_le_of_lt h (by decide))
theorem graph_ok (ns : List Int) (first : Int) (hl : ns.length ≤ 63) (h0 : 0 ≤ first) (h1 : first < 1000) : ∃ G : Gr, F__law_graph [scr ns, .int first] = .ok G.d ∧ G.Ok := by
  have := run_of (n := 14) (p := 2) (ds := [scr ns, .int first]) (g := g__law_graph) (R := fun d => ∃ G : Gr, d = G.d ∧ G.Ok) rfl ?_
  · obtain ⟨d, e, r, rfl, h⟩ := this
    exact ⟨r, e, h⟩
  show Go (g__law_graph [.fz (scr ns), .fz (.int first), .un, .un, .un, .un, .un, .un, .un, .un, .un, .un, .un, .un]) _ _
  unfold g__law_graph
  obtain ⟨cell, ec, c0, c1⟩ := mix_ok ns first hl (by omega) (by omega)
  refine go_cons (go_set (dCal_ok (xs := [scr ns, .int first]) rfl ec) ?_)
  obtain ⟨mz, m, hmz, hm, hm1, hm2⟩ : ∃ (mz : Int) (m : Nat), mz = (m : Int) ∧ (if (cell % 4 == 1) = true then Dat.int 10 else .int (1 + cell / 4 % 10)) = .int mz ∧ 1 ≤ m ∧ m ≤ 10 := by
    split
    · exact ⟨10, 10, rfl, rfl, by omega, by omega⟩
    · exact ⟨1 + cell / 4 % 10, (1 + cell / 4 % 10).toNat, by omega, rfl, by omega, by omega⟩
  refine go_cons (go_set (d := .int mz) (by rw [← hm]; exact dO_ok (x := .lst [.int (1 + cell / 4 % 10), .int 10]) rfl (dF_ok (aCons_ok (dO_ok (dO_ok rfl rfl (modD_ok (by omega))) rfl (eqI _ _)) rfl) (int_b _)) (pick _ _ _)) ?_)
  dsimp only [List.set]
  obtain ⟨ws, ews, hwl, hwo, hwn⟩ := wire_names_ok ns (first + 1) mz hl (by omega) (by omega) (by omega) (by omega)
  refine go_cons (go_set (dCal_ok (xs := [scr ns, .int (first + 1), .int mz]) rfl ews) ?_)
  obtain ⟨kinds, ek, k0, k1⟩ := mix_ok ns (first + 11) hl (by omega) (by omega)
  refine go_cons (go_set (dCal_ok (xs := [scr ns, .int (first + 11)]) rfl ek) ?_)
  refine go_cons (go_own (ds := []) rfl ?_)
  dsimp only [List.set]
  refine go_cons (go_for (ds := rng 0 m) (fun i e => ∃ (wr : List (Str × Bool)) (v : Slt), e = [.fz (scr ns), .fz (.int first), .fz (.int cell), .fz (.int mz), .fz (.lst (ws.map .str)), .fz (.int kinds), .ow (wr.map wireD), v, .un, .un, .un, .un, .un, .un] ∧ wr.length = i ∧ wr.map (·.1) = ws.take i)
    (srcR1_eq (aCons_ok (by rw [← hmz]; rfl) rfl) (by omega)) ⟨[], .un, rfl, rfl, by simp⟩ ?_ ?_)
  · rintro i d e hi ⟨wr, v, rfl, hwr, hwt⟩
    obtain ⟨hi1, rfl⟩ := rng_get hi
    rw [Int.zero_add]
    refine ⟨_, rfl, ?_⟩
    have hiw : i < ws.length := by omega
    have hg : (ws.map Dat.str)[i]? = some (.str ws[i]) := by simp [hiw]
    have p1 := pick2 (.str "given") (.str "made") (j := kinds / (1 + 7 * (i : Int)) % 2) (by omega) (by omega)
    refine go_meth (ds := wr.map wireD) (as := [wireD (ws[i], decide (kinds / (1 + 7 * (i : Int)) % 2 = 1))]) (ds' := (wr ++ [(ws[i], decide (kinds / (1 + 7 * (i : Int)) % 2 = 1))]).map wireD) rfl (aCons_ok ?_ rfl) ?_ ?_
    · refine Eq.trans (aTup_ok (aCons_ok (dO_ok rfl rfl (ixL_nat hg)) (aCons_ok (dO_ok (x := .lst [.str "given", .str "made"]) rfl (dO_ok (dO_ok rfl (dO_ok rfl (dO_ok rfl rfl (mulI_ok (.inl (by omega)))) rfl) (fdivD_ok ⟨by omega, by omega⟩)) rfl (modD_ok (by omega))) p1) rfl)) (by simp)) ?_
      unfold wireD
      by_cases hb : kinds / (1 + 7 * (i : Int)) % 2 = 1 <;> simp [hb]
    · rw [append_ok (by rw [List.length_map]; omega), List.map_append]; rfl
    · dsimp only [List.set]
      refine ⟨_, _, rfl, by rw [List.length_append, List.length_singleton]; omega, ?_⟩
      rw [List.map_append, hwt, List.take_succ, List.getElem?_eq_getElem hiw]
      rfl
  rintro e ⟨wr, v, rfl, hwr, hwt⟩
  rw [rng_len] at hwr hwt
  refine go_cons (go_own (ds := []) rfl ?_)
  dsimp only [List.set]
  obtain ⟨qz, q, hqz, hq, hq1, hq2⟩ : ∃ (qz : Int) (q : Nat), qz = (q : Int) ∧ (if (cell / 4096 % 4 == 1) = true then Dat.int 24 else .int (1 + cell / 64 % 24)) = .int qz ∧ 1 ≤ q ∧ q ≤ 24 := by
    split
    · exact ⟨24, 24, rfl, rfl, by omega, by omega⟩
    · exact ⟨1 + cell / 64 % 24, (1 + cell / 64 % 24).toNat, by omega, rfl, by omega, by omega⟩
  refine go_cons (go_for (ds := rng 0 q) (fun i e => ∃ (ss : List Step') (v v1 v2 v3 : Slt), e = [.fz (scr ns), .fz (.int first), .fz (.int cell), .fz (.int mz), .fz (.lst (ws.map .str)), .fz (.int kinds), .ow (wr.map wireD), v, .ow (ss.map stepD), v1, v2, v3, .un, .un] ∧ ss.length = i ∧ ∀ s ∈ ss, 0 ≤ s.w ∧ s.w < mz ∧ Spots s.takes ∧ Spots s.fills)
    (srcR1_eq (aCons_ok (by rw [← hqz, ← hq]; exact dO_ok (x := .lst [.int (1 + cell / 64 % 24), .int 24]) rfl (dF_ok (aCons_ok (dO_ok (dO_ok (dO_ok rfl rfl (fdivD_ok ⟨by omega, by omega⟩)) rfl (modD_ok (by omega))) rfl (eqI _ _)) rfl) (int_b _)) (pick _ _ _)) rfl) (by omega)) ⟨[], v, .un, .un, .un, rfl, rfl, by simp⟩ ?_ ?_)
  · rintro i d e hi ⟨ss, v, v1, v2, v3, rfl, hss, hso⟩
    obtain ⟨hi1, rfl⟩ := rng_get hi
    rw [Int.zero_add]
    refine ⟨_, rfl, ?_⟩
    dsimp only [List.set]
    obtain ⟨more, em, m0, m1⟩ := mix_ok ns (first + 15 + 2 * (i : Int)) hl (by omega) (by omega)
    refine go_cons (go_set (dCal_ok (xs := [scr ns, .int (first + 15 + 2 * (i : Int))]) (aCons_ok rfl (aCons_ok (dO_ok rfl (dO_ok rfl rfl (mulI_ok (.inl (by omega)))) rfl) rfl)) em) ?_)
    obtain ⟨fills, ef, hf⟩ := spots_ok (more / 64) (by omega)
    refine go_cons (go_set (dCal_ok (xs := [.int (more / 64)]) (aCons_ok (dO_ok rfl rfl (fdivD_ok ⟨by omega, by omega⟩)) rfl) ef) ?_)
    obtain ⟨mo2, em2, m20, m21⟩ := mix_ok ns (first + 16 + 2 * (i : Int)) hl (by omega) (by omega)
    obtain ⟨takes, et, ht⟩ := spots_ok mo2 m20
    refine go_cons (go_set (dCal_ok (xs := [.int mo2]) (aCons_ok (dCal_ok (xs := [scr ns, .int (first + 16 + 2 * (i : Int))]) (aCons_ok rfl (aCons_ok (dO_ok rfl (dO_ok rfl rfl (mulI_ok (.inl (by omega)))) rfl) rfl)) em2) rfl) et) ?_)
    dsimp only [List.set]
    refine go_meth (ds := ss.map stepD) (as := [stepD ⟨more % mz, more / 16 % 2 == 1, takes, fills⟩]) (ds' := (ss ++ [(⟨more % mz, more / 16 % 2 == 1, takes, fills⟩ : Step')]).map stepD) rfl (aCons_ok (aTup_ok (aCons_ok (dO_ok rfl rfl (modD_ok (by omega))) (aCons_ok (dO_ok (dO_ok (dO_ok rfl rfl (fdivD_ok ⟨by omega, by omega⟩)) rfl (modD_ok (by omega))) rfl (eqI _ _)) rfl)) (by simp)) rfl) ?_ ?_
    · rw [append_ok (by rw [List.length_map]; omega), List.map_append]; rfl
    · dsimp only [List.set]
      refine ⟨_, _, _, _, _, rfl, by rw [List.length_append, List.length_singleton]; omega, fun s hs => ?_⟩
      rcases List.mem_append.mp hs with hs | hs
      · exact hso s hs
      · rw [List.mem_singleton.mp hs]
        exact ⟨Int.emod_nonneg _ (by omega), Int.emod_lt_of_pos _ (by omega), ht, hf⟩
  rintro e ⟨ss, v, v1, v2, v3, rfl, hss, hso⟩
  rw [rng_len] at hss
  obtain ⟨a1, ea1, a10, a11⟩ := mix_ok ns (first + 12) hl (by omega) (by omega)
  obtain ⟨a2, ea2, a20, a21⟩ := mix_ok ns (first + 13) hl (by omega) (by omega)
  obtain ⟨a3, ea3, a30, a31⟩ := mix_ok ns (first + 14) hl (by omega) (by omega)
  refine go_cons (go_set (d := .int (a1 % 2 ^ 32)) (dO_ok (dCal_ok (xs := [scr ns, .int (first + 12)]) rfl ea1) (y := .int (2 ^ 32)) rfl (modD_ok (by omega))) ?_)
  refine go_cons (go_set (d := .int (a2 % 2 ^ 32 * 2 ^ 32 + a1 % 2 ^ 32)) (dO_ok (dO_ok (dO_ok (dCal_ok (xs := [scr ns, .int (first + 13)]) rfl ea2) (y := .int (2 ^ 32)) rfl (modD_ok (by omega))) (y := .int (2 ^ 32)) rfl (mulI_ok (.inr (by omega)))) rfl rfl) ?_)
  dsimp only [List.set]
  have hpw : (0 : Int) < 1 * 2 ^ ((mz : Int)).toNat := by rw [Int.one_mul]; exact Int.pow_pos (by omega)
  have hsh : shlD (.int 1) (.int mz) = some (.int (1 * 2 ^ ((mz : Int)).toNat)) := if_pos ⟨by omega, by omega, by decide⟩
  refine go_ret (d := Gr.d ⟨wr, ss, a2 % 2 ^ 32 * 2 ^ 32 + a1 % 2 ^ 32, a3 % 2 ^ 10 % (1 * 2 ^ ((mz : Int)).toNat)⟩) (aTup_ok (aCons_ok rfl (aCons_ok rfl (aCons_ok rfl (aCons_ok (dO_ok (dO_ok (dCal_ok (xs := [scr ns, .int (first + 14)]) rfl ea3) (y := .int (2 ^ 10)) rfl (modD_ok (by omega))) (dO_ok rfl rfl hsh) (modD_ok hpw)) rfl)))) (by simp)) ⟨_, rfl, ?_⟩
  have hn : wr.map (·.1) = ws := by rw [hwt, List.take_of_length_le (by omega)]
  exact { w1 := by show 1 ≤ wr.length; omega
          w2 := by show wr.length ≤ 10; omega
          nm := fun w hw => hwo w.1 (by rw [← hn]; exact List.mem_map_of_mem hw)
          nd := by show (wr.map (·.1)).Nodup; rw [hn]; exact hwn
          s1 := by show 1 ≤ ss.length; omega
          s2 := by show ss.length ≤ 24; omega
          sw := fun s hs => by show 0 ≤ s.w ∧ s.w < wr.length ∧ _; rw [hwr, ← hmz]; exact hso s hs
          m0 := by show 0 ≤ a2 % 2 ^ 32 * 2 ^ 32 + a1 % 2 ^ 32; omega
          m1 := by show a2 % 2 ^ 32 * 2 ^ 32 + a1 % 2 ^ 32 < 2 ^ 64; omega
          c0 := Int.emod_nonneg _ (by omega)
          c1 := by
            show a3 % 2 ^ 10 % (1 * 2 ^ ((mz : Int)).toNat) < 2 ^ wr.length
            rw [hwr, hmz, Int.toNat_natCast, Int.one_mul]
            exact Int.emod_lt_of_pos _ (Int.pow_pos (by omega)) }
end K12
namespace K12
open PySem PySem.Spec PyProof.Rows L2
open K14 (F__law_alike F_names g_names)
theorem dT_ok {f : Ev → Option Dat} {env : Ev} {b : Bool} (h : f env = some (.bl b)) : dT f env = some b := by unfold dT; rw [h]; rfl
theorem ok_of {r : Rs} {d0 : Dat} (h : ∃ d, r = .ok d ∧ d = d0) : r = .ok d0 := by obtain ⟨d, e, rfl⟩ := h; exact e
variable {G : Gr}
theorem dL_ok {g : Ev → Option (List Dat)} {env : Ev} {ds : List Dat} (h : g env = some ds) : dL g env = some (.lst ds) := by unfold dL; rw [h]; rfl
theorem dComp_ok {src : Ev → Option (List Dat)} {fs : List (Option Nat)} {g : Dat → Ev → Option Ev} {t : Ev → Option Bool} {f : Ev → Option Dat} {env env' : Ev} {xs ys : List Dat} (h1 : src env = some xs) (h2 : innerD fs env = env') (h3 : compL g t f env' xs = some ys) : dComp src fs g t f env = some ys := by
  unfold dComp; rw [h1, h2]; exact h3
theorem srcT_ok {f : Ev → Option Dat} {env : Ev} {xs : List Dat} (h : f env = some (.tup xs)) : srcL f env = some xs := by unfold srcL; rw [h]
noncomputable def Gr.names (G : Gr) : List Str := G.wires.map (·.1)
theorem compL_all {g : Dat → Ev → Option Ev} {t : Ev → Option Bool} {f : Ev → Option Dat} {env : Ev} {α : Type} (D : α → Dat) (y : α → Dat) : ∀ (xs : List α), (∀ x ∈ xs, ∃ e1, g (D x) env = some e1 ∧ t e1 = some true ∧ f e1 = some (y x)) → compL g t f env (xs.map D) = some (xs.map y)
  | [], _ => rfl
  | x :: xs, h => by
    obtain ⟨e1, a1, a2, a3⟩ := h x List.mem_cons_self
    have ih := compL_all D y xs fun z hz => h z (List.mem_cons_of_mem _ hz)
    rw [List.map_cons, compL, a1]
    dsimp only [Option.bind]
    rw [a2]
    dsimp only
    rw [if_pos rfl, a3]
    dsimp only
    rw [ih]
    rfl
theorem names_ok (G : Gr) : F_names [G.d] = .ok (.lst (G.names.map .str)) := by
  refine ok_of (run_of (n := 1) (p := 1) (ds := [G.d]) (g := g_names) (R := fun d => d = .lst (G.names.map .str)) rfl ?_)
  show Go (g_names [.fz G.d]) _ _
  unfold g_names
  refine go_ret (dL_ok (dComp_ok (xs := G.wires.map wireD) (env' := [.un, .un]) (srcT_ok rfl) rfl (compL_all wireD (fun w => .str w.1) G.wires fun w _ => ⟨_, rfl, rfl, rfl⟩))) ?_
  unfold Gr.names
  rw [List.map_map]; rfl
end K12
namespace K12
open PySem PySem.Spec PyProof.Rows L2
open K14 (F__law_alike F_is_name F_law g_is_name g_law)
noncomputable def nameB (z : Str) : Bool := if (decide ((z.length : Int) < 1) || (decide ((8 : Int) < (z.length : Int)) || decide (z ∈ kept5))) = true then false else (cl z).all fun c => inS ⟨#[c]⟩ letters
theorem bls_map (bs : List Bool) : allD [.lst (bs.map .bl)] = some (.bl (bs.all id)) := by unfold allD; dsimp only; rw [blsD_map]; rfl
theorem is_name_ok (z : Str) : F_is_name [.str z] = .ok (.bl (nameB z)) := by
  refine ok_of (run_of (n := 1) (p := 1) (ds := [.str z]) (g := g_is_name) (R := fun d => d = .bl (nameB z)) rfl ?_)
  show Go (g_is_name [.fz (.str z)]) _ _
  unfold g_is_name
  refine go_cons (go_if (tOr_ok (a := decide ((z.length : Int) < 1)) (b := decide ((8 : Int) < (z.length : Int)) || decide (z ∈ kept5)) rfl fun _ => tOr_ok rfl fun _ => dB_ok (dO_ok rfl rfl (inF_tup z kept5))) (fun hb => ?_) (fun hb => go_nil ?_))
  · exact go_ret rfl (by unfold nameB; rw [if_pos hb])
  · refine go_ret (d := .bl ((cl z).all fun c => inS ⟨#[c]⟩ letters)) (dF_ok (aCons_ok (dL_ok (ds := ((cl z).map fun c => inS ⟨#[c]⟩ letters).map .bl) (dComp_ok (xs := (cl z).map fun c => Dat.str ⟨#[c]⟩) (env' := [.un]) rfl rfl ?_)) rfl) ?_) (by unfold nameB; rw [if_neg (by rw [hb]; decide)])
    · rw [compL_all (fun c => Dat.str ⟨#[c]⟩) (fun c => .bl (inS ⟨#[c]⟩ letters)) (cl z) fun c _ => ⟨[.fz (.str ⟨#[c]⟩)], rfl, rfl, rfl⟩, List.map_map]; rfl
    · rw [bls_map, List.all_map]; rfl
end K12
namespace K11
open PySem PySem.Spec PyProof.Rows L2
theorem bitOr_nat (a b : Nat) : Builtin.bitOr (a : Int) (b : Int) = ((a ||| b : Nat) : Int) := by
  unfold Builtin.bitOr Builtin.bitAnd Builtin.bitNot
  have h1 : decide (0 ≤ -(a : Int) - 1) = false := by simp; omega
  have h2 : decide (0 ≤ -(b : Int) - 1) = false := by simp; omega
  rw [h1, h2]
  dsimp only
  rw [show (-(-(a : Int) - 1) - 1).toNat = a by omega, show (-(-(b : Int) - 1) - 1).toNat = b by omega]
  omega
theorem bitAnd_nat (a b : Nat) : Builtin.bitAnd (a : Int) (b : Int) = ((a &&& b : Nat) : Int) := by
  unfold Builtin.bitAnd
  rw [show decide (0 ≤ (a : Int)) = true by simp, show decide (0 ≤ (b : Int)) = true by simp]
  simp
noncomputable def bitsN (ps : List Nat) : Nat := ps.foldl (fun a p => a ||| 2 ^ p) 0
theorem bits_from (ps : List Nat) : ∀ (a j : Nat), (ps.foldl (fun a p => a ||| 2 ^ p) a).testBit j = (a.testBit j || decide (j ∈ ps)) := by
  induction ps with
  | nil => intro a j; simp
  | cons p ps ih =>
    intro a j
    rw [List.foldl_cons, ih, Nat.testBit_or, Nat.testBit_two_pow]
    by_cases h : j = p
    · subst h; simp
    · have h' : ¬ p = j := fun e => h e.symm
      simp [h, h']
theorem bitsN_at (ps : List Nat) (j : Nat) : (bitsN ps).testBit j = decide (j ∈ ps) := by unfold bitsN; rw [bits_from]; simp
noncomputable def onesN (n k : Nat) : List Nat := (List.range k).filter n.testBit
theorem onesN_mem {n k : Nat} (h : n < 2 ^ k) (j : Nat) : j ∈ onesN n k ↔ n.testBit j = true := by
  unfold onesN
  rw [List.mem_filter, List.mem_range]
  refine ⟨fun q => q.2, fun q => ⟨?_, q⟩⟩
  rcases Nat.lt_or_ge j k with h1 | h1
  · exact h1
  · have := Nat.testBit_lt_two_pow (Nat.lt_of_lt_of_le h (Nat.pow_le_pow_right (by decide) h1))
    rw [this] at q; cases q
theorem bits_ones {n k : Nat} (h : n < 2 ^ k) : bitsN (onesN n k) = n := Nat.eq_of_testBit_eq fun j => by
  rw [bitsN_at, Bool.eq_iff_iff, decide_eq_true_eq]; exact onesN_mem h j
theorem onesN_sorted (n k : Nat) : (onesN n k).Pairwise (· < ·) := List.Pairwise.filter _ List.pairwise_lt_range
theorem onesN_eq {n k m : Nat} (h : n < 2 ^ k) (h' : n < 2 ^ m) : onesN n k = onesN n m := by
  rcases Nat.le_total k m with hle | hle
  · obtain ⟨d, rfl⟩ := Nat.exists_eq_add_of_le hle
    unfold onesN
    rw [List.range_add, List.filter_append]
    rw [show ((List.range d).map (k + ·)).filter n.testBit = [] from ?_, List.append_nil]
    rw [List.filter_eq_nil_iff]
    intro j hj
    obtain ⟨i, _, rfl⟩ := List.mem_map.mp hj
    rw [Nat.testBit_lt_two_pow (Nat.lt_of_lt_of_le h (Nat.pow_le_pow_right (by decide) (Nat.le_add_right _ _)))]
    decide
  · obtain ⟨d, rfl⟩ := Nat.exists_eq_add_of_le hle
    unfold onesN
    rw [List.range_add, List.filter_append]
    rw [show ((List.range d).map (m + ·)).filter n.testBit = [] from ?_, List.append_nil]
    rw [List.filter_eq_nil_iff]
    intro j hj
    obtain ⟨i, _, rfl⟩ := List.mem_map.mp hj
    rw [Nat.testBit_lt_two_pow (Nat.lt_of_lt_of_le h' (Nat.pow_le_pow_right (by decide) (Nat.le_add_right _ _)))]
    decide
end K11
namespace K11
open PySem PySem.Spec PyProof.Rows L2
open K14 (F__law_alike F_bits F_ones g_bits g_has_one g_ones)
open K12 (dT_ok ok_of ixL_nat ixT_nat tOr_ok tAnd_ok dS_ok oSome_ok dL_ok dComp_ok append_ok compL_all rng_eq eqI)
noncomputable abbrev natsD (ps : List Nat) : List Dat := (ps.map fun p : Nat => (p : Int)).map Dat.int
theorem shl1 (p : Nat) (hp : p ≤ 1000) : shlD (.int 1) (.int (p : Int)) = some (.int ((2 ^ p : Nat) : Int)) := by
  have : shlD (.int 1) (.int (p : Int)) = some (.int (1 * 2 ^ ((p : Int)).toNat)) := if_pos ⟨by omega, by omega, by decide⟩
  rw [this, Int.toNat_natCast, Int.one_mul]; congr 2
theorem bits_go (ps : List Nat) (hp : ∀ p ∈ ps, p ≤ 1000) (d : Dat) (hd : srcL (dV 0) [.fz d, .fz (.int 0), .un] = some (natsD ps)) : F_bits [d] = .ok (.int (bitsN ps : Int)) := by
  refine ok_of (run_of (n := 3) (p := 1) (ds := [d]) (g := g_bits) (R := fun d => d = .int (bitsN ps : Int)) rfl ?_)
  show Go (g_bits [.fz d, .un, .un]) _ _
  unfold g_bits
  refine go_cons (go_set (d := .int 0) rfl ?_)
  refine go_cons (go_for (ds := natsD ps) (fun i e => ∃ (z : Int) (v : Slt), e = [.fz d, .fz (.int z), v] ∧ z = (((ps.take i).foldl (fun a p => a ||| 2 ^ p) 0 : Nat) : Int)) hd ⟨0, .un, rfl, rfl⟩ ?_ ?_)
  · rintro i x e hi ⟨z, v, rfl, rfl⟩
    rw [List.getElem?_map, List.getElem?_map] at hi
    obtain ⟨y, hy, rfl⟩ := map_some hi
    obtain ⟨p, hq, rfl⟩ := map_some hy
    have hpp := hp p (List.mem_of_getElem? hq)
    refine ⟨_, rfl, ?_⟩
    refine go_set (d := .int ((((ps.take (i + 1)).foldl (fun a p => a ||| 2 ^ p) 0 : Nat)) : Int)) (dO_ok rfl (dO_ok rfl rfl (shl1 p hpp)) ?_) ⟨_, _, rfl, rfl⟩
    show some (Dat.int (Builtin.bitOr _ _)) = _
    rw [bitOr_nat, List.take_succ, hq, List.foldl_append]; rfl
  · rintro e ⟨z, v, rfl, rfl⟩
    refine go_ret rfl ?_
    rw [List.length_map, List.length_map, List.take_of_length_le (Nat.le_refl _)]; rfl
theorem bits_lst (ps : List Nat) (hp : ∀ p ∈ ps, p ≤ 1000) : F_bits [.lst (natsD ps)] = .ok (.int (bitsN ps : Int)) := bits_go ps hp _ rfl
theorem bitsI (n : Nat) : n < 2 ^ Builtin.Int.intBits (n : Int) := by
  unfold Builtin.Int.intBits
  by_cases h0 : n = 0
  · subst h0; decide
  · have hb : (((n : Int)) == 0) = false := by simpa using h0
    rw [hb]
    simp only [Bool.false_eq_true, if_false, Int.natAbs_natCast]
    exact Nat.lt_log2_self
theorem bits_small {n k : Nat} (h : n < 2 ^ k) : Builtin.Int.intBits (n : Int) ≤ k := by
  unfold Builtin.Int.intBits
  by_cases h0 : n = 0
  · subst h0; simp
  · have hb : (((n : Int)) == 0) = false := by simpa using h0
    rw [hb]
    simp only [Bool.false_eq_true, if_false, Int.natAbs_natCast]
    have := (Nat.log2_lt h0).mpr h
    omega
theorem ones_ok (n k : Nat) (h : n < 2 ^ k) (hk : k ≤ 1000) : F_ones [.int (n : Int)] = .ok (.lst (natsD (onesN n k))) := by
  refine ok_of (run_of (n := 1) (p := 1) (ds := [.int (n : Int)]) (g := g_ones) (R := fun d => d = .lst (natsD (onesN n k))) rfl ?_)
  show Go (g_ones [.fz (.int (n : Int))]) _ _
  unfold g_ones
  have hs := bits_small h
  rw [onesN_eq h (bitsI n)]
  refine go_ret (dL_ok (dComp_ok (xs := rng 0 (Builtin.Int.intBits (n : Int))) (env' := [.un, .fz (.int (n : Int))]) (srcR1_eq (aCons_ok rfl rfl) (by omega)) rfl ?_)) rfl
  rw [compL_map (fun d => match d with | .int j => n.testBit j.toNat | _ => false) (fun d => d)]
  · rw [rng_eq]
    unfold onesN
    rw [List.map_map, List.filter_map, List.map_id', natsD, List.map_map]
    rfl
  · intro x hx
    rw [rng_eq] at hx
    obtain ⟨j, hj, rfl⟩ := List.mem_map.mp hx
    obtain ⟨j, _, rfl⟩ := List.mem_map.mp hj
    refine ⟨[.fz (.int (j : Int)), .fz (.int (n : Int))], rfl, ?_, fun _ => rfl⟩
    have h1 : shrD (.int (n : Int)) (.int (j : Int)) = some (.int ((n / 2 ^ j : Nat) : Int)) := by
      have : shrD (.int (n : Int)) (.int (j : Int)) = some (.int ((n : Int) / 2 ^ ((j : Int)).toNat)) := by unfold shrD iop; dsimp only; rw [if_pos (by omega)]
      rw [this, Int.toNat_natCast]; congr 2
    have h2 : andD (.int ((n / 2 ^ j : Nat) : Int)) (.int 1) = some (.int ((n / 2 ^ j % 2 : Nat) : Int)) := by
      show some (Dat.int (Builtin.bitAnd ((n / 2 ^ j : Nat) : Int) ((1 : Nat) : Int))) = _
      rw [bitAnd_nat, Nat.and_one_is_mod]
    refine dT_ok (dCal_ok (xs := [.int (n : Int), .int (j : Int)]) rfl ?_)
    refine ok_of (run_of (n := 2) (p := 2) (ds := [.int (n : Int), .int (j : Int)]) (g := g_has_one) (R := fun d => d = .bl _) rfl ?_)
    show Go (g_has_one [.fz (.int (n : Int)), .fz (.int (j : Int))]) _ _
    unfold g_has_one
    refine go_ret (d := .bl (n.testBit j)) (dO_ok (dO_ok (dO_ok rfl rfl h1) rfl h2) rfl ?_) rfl
    show some (Dat.bl (((n / 2 ^ j % 2 : Nat) : Int) == 1)) = _
    rw [Nat.testBit_eq_decide_div_mod_eq]
    generalize n / 2 ^ j % 2 = q
    congr 2
    rw [Bool.eq_iff_iff, beq_iff_eq, decide_eq_true_eq]
    omega
end K11
namespace K11
open PySem PySem.Spec PyProof.Rows L2
open K14 (F__law_alike F__law_places F_law g__law_places g_law)
open K12 (dT_ok ok_of ixL_nat ixT_nat tOr_ok tAnd_ok dS_ok oSome_ok dL_ok dComp_ok append_ok compL_all rng_eq eqI)
theorem places_ok (n k : Nat) (h : n < 2 ^ k) (hk : k ≤ 1000) : F__law_places [.int (n : Int)] = .ok (.lst (natsD (onesN n k))) := by
  refine ok_of (run_of (n := 3) (p := 1) (ds := [.int (n : Int)]) (g := g__law_places) (R := fun d => d = .lst (natsD (onesN n k))) rfl ?_)
  show Go (g__law_places [.fz (.int (n : Int)), .un, .un]) _ _
  unfold g__law_places
  refine go_cons (go_own (ds := []) rfl ?_)
  refine go_cons (go_set (d := .int 0) rfl ?_)
  refine go_cons (go_while (n := n) (fun m e => ∃ (i : Nat) (a b : Int), m = n / 2 ^ i ∧ i ≤ k ∧ e = [.fz (.int a), .ow (natsD (onesN n i)), .fz (.int b)] ∧ a = ((n / 2 ^ i : Nat) : Int) ∧ b = (i : Int)) ⟨0, n, 0, by simp, Nat.zero_le _, by simp [onesN], by simp, rfl⟩ ?_)
  rintro m e ⟨i, a, b, rfl, hi, rfl, rfl, rfl⟩
  by_cases hz : n / 2 ^ i = 0
  · refine .inl ⟨dB_ok (b := false) (dO_ok rfl rfl ?_), go_retO (ds := natsD (onesN n k)) ?_ rfl⟩
    · show some (Dat.bl (decide ((0 : Int) < ((n / 2 ^ i : Nat) : Int)))) = _
      rw [hz]; rfl
    · have : n < 2 ^ i := by
        rcases Nat.lt_or_ge n (2 ^ i) with h1 | h1
        · exact h1
        · have := Nat.div_pos h1 (Nat.two_pow_pos i); omega
      rw [onesN_eq h this]; rfl
  · have hpos : 0 < n / 2 ^ i := Nat.pos_of_ne_zero hz
    have hik : i < k := by
      rcases Nat.lt_or_ge i k with h1 | h1
      · exact h1
      · have h2 := Nat.div_eq_of_lt (Nat.lt_of_lt_of_le h (Nat.pow_le_pow_right (by decide) h1))
        omega
    have hol : (onesN n i).length ≤ i := by unfold onesN; exact Nat.le_trans (List.length_filter_le _ _) (by simp)
    refine .inr ⟨dB_ok (b := true) (dO_ok rfl rfl ?_), ?_⟩
    · show some (Dat.bl (decide ((0 : Int) < ((n / 2 ^ i : Nat) : Int)))) = _
      rw [decide_eq_true (by exact_mod_cast hpos)]
    have hsucc : onesN n (i + 1) = onesN n i ++ (if n.testBit i = true then [i] else []) := by
      unfold onesN
      rw [List.range_succ, List.filter_append]
      congr 1
      by_cases hb : n.testBit i = true <;> simp [hb]
    have hdiv : n / 2 ^ (i + 1) = n / 2 ^ i / 2 := by rw [Nat.pow_succ, Nat.div_div_eq_div_mul]
    have htb : n.testBit i = decide (n / 2 ^ i % 2 = 1) := Nat.testBit_eq_decide_div_mod_eq
    refine go_cons (Go.mono (N := fun e => e = [.fz (.int ((n / 2 ^ i : Nat) : Int)), .ow (natsD (onesN n (i + 1))), .fz (.int (i : Int))]) ?_ ?_ fun _ h => h)
    · refine go_if (b := decide (n / 2 ^ i % 2 = 1)) (dB_ok (dO_ok (dO_ok rfl rfl (modD_ok (by omega))) rfl ?_)) (fun hb => ?_) (fun hb => ?_)
      · show some (Dat.bl ((((n / 2 ^ i : Nat) : Int) % 2) == 1)) = _
        generalize n / 2 ^ i = q
        congr 2
        rw [Bool.eq_iff_iff, beq_iff_eq, decide_eq_true_eq]
        omega
      · refine go_meth (ds := natsD (onesN n i)) (as := [.int (i : Int)]) (ds' := natsD (onesN n (i + 1))) rfl rfl ?_ rfl
        rw [append_ok (by rw [List.length_map, List.length_map]; omega), hsucc, htb, hb, if_pos rfl]
        simp [natsD]
      · refine go_nil ?_
        rw [hsucc, htb, hb, if_neg (by decide), List.append_nil]
    · rintro e rfl
      refine go_cons (go_set (d := .int (((n / 2 ^ i : Nat) : Int) / 2)) (dO_ok rfl rfl (fdivD_ok ⟨by omega, by omega⟩)) ?_)
      refine go_set (d := .int ((i : Int) + 1)) rfl ⟨n / 2 ^ (i + 1), ?_, i + 1, _, _, rfl, by omega, rfl, ?_, by push_cast; rfl⟩
      · rw [hdiv]; omega
      · rw [hdiv]; push_cast; rfl
end K11
namespace K13
open PySem PySem.Spec PyProof.Rows L2
open K14 (F__law_graph F__law_places F_ones)
open K12 (Gr Step' wireD stepD graph_ok dT_ok ok_of dL_ok dComp_ok srcT_ok compL_all aTup_ok append_ok ixT_nat ixL_nat NameOk Spots Low)
open K11 (onesN natsD onesN_mem)
theorem o_eq' : F_ones = K14.F_ones := rfl
theorem p_eq : F__law_places = K14.F__law_places := rfl
theorem addL_ok {xs ys : List Dat} (h : xs.length + ys.length ≤ 1000) : addD (.lst xs) (.lst ys) = some (.lst (xs ++ ys)) := if_pos (Nat.le_trans h (by decide))
theorem addS1 {x y : Str} (h : x.length + y.length ≤ 1000) : addD (.str x) (.str y) = some (.str (x ++ y)) := if_pos (Nat.le_trans h (by decide))
theorem extend_ok {xs ys : List Dat} (h : xs.length + ys.length ≤ 1000) : extendF xs [.lst ys] = some (xs ++ ys) := if_pos (Nat.le_trans h (by decide))
theorem aLst_ok {fs : Ev → Option (List Dat)} {env : Ev} {xs : List Dat} (h : fs env = some xs) (hl : xs.length ≤ 1000) : aLst fs env = some xs := by unfold aLst; rw [h]; exact if_pos (Nat.le_trans hl (by decide))
theorem dM_ok {T : String} {F : Dat → List Dat → Option Dat} {f : Ev → Option Dat} {fs : Ev → Option (List Dat)} {env : Ev} {x : Dat} {ds : List Dat} {z : Dat} (h1 : f env = some x) (ht : tyOk T x = true) (h2 : fs env = some ds) (h3 : F x ds = some z) : dM T F f fs env = some z := by unfold dM; rw [h1]; show (if tyOk T x = true then _ else _) = _; rw [if_pos ht, h2]; exact h3
structure Wd (B : Nat) (y : Str) : Prop where
  ok : PyData.strOk y = true
  le : y.length ≤ B
noncomputable def Wds (B : Nat) (ys : List Str) : Prop := ∀ y ∈ ys, Wd B y
theorem Wds.app {B : Nat} {xs ys : List Str} (h : Wds B xs) (k : Wds B ys) : Wds B (xs ++ ys) := fun y hy => by
  rcases List.mem_append.mp hy with z | z
  · exact h y z
  · exact k y z
theorem fold_mem (sep : Str) (c : Nat) : ∀ (r : List Str) (acc : Array Nat), c ∈ r.foldl (fun acc q => acc ++ sep.cps ++ q.cps) acc → c ∈ acc ∨ c ∈ sep.cps ∨ ∃ y ∈ r, c ∈ y.cps
  | [], acc, h => .inl h
  | y :: r, acc, h => by
    rcases fold_mem sep c r _ h with z | z | ⟨w, hw, z⟩
    · rw [Array.mem_append, Array.mem_append] at z
      rcases z with (z | z) | z
      · exact .inl z
      · exact .inr (.inl z)
      · exact .inr (.inr ⟨y, List.mem_cons_self, z⟩)
    · exact .inr (.inl z)
    · exact .inr (.inr ⟨w, List.mem_cons_of_mem _ hw, z⟩)
theorem at_ok {x : Str} (h : PyData.strOk x = true) {c : Nat} (hc : c ∈ x.cps) : decide (c < 0x110000) = true := by
  unfold PyData.strOk at h
  rw [Array.all_eq_true'] at h
  exact h c hc
theorem join_sok {z : Str} (hz : PyData.strOk z = true) : ∀ {ys : List Str}, (∀ y ∈ ys, PyData.strOk y = true) → PyData.strOk (Txt.join z ys) = true
  | [], _ => by show PyData.strOk Str.empty = true; decide +kernel
  | p :: r, h => by
    show PyData.strOk (⟨r.foldl (fun acc q => acc ++ z.cps ++ q.cps) p.cps⟩ : Str) = true
    unfold PyData.strOk
    rw [Array.all_eq_true']
    intro c hc
    rcases fold_mem z c r p.cps hc with k | k | ⟨y, hy, k⟩
    · exact at_ok (h p List.mem_cons_self) k
    · exact at_ok hz k
    · exact at_ok (h y (List.mem_cons_of_mem _ hy)) k
theorem sum_le {B : Nat} : ∀ {ys : List Str}, (∀ y ∈ ys, y.length ≤ B) → (ys.map (·.length)).sum ≤ B * ys.length
  | [], _ => by simp
  | y :: ys, h => by
    have h1 := h y List.mem_cons_self
    have h2 := sum_le (ys := ys) fun z hz => h z (List.mem_cons_of_mem _ hz)
    rw [List.map_cons, List.sum_cons, List.length_cons, Nat.mul_add]
    omega
theorem join_ok {z : Str} {ys : List Str} (hz : z.length = 1) (hk : PyData.strOk z = true) (h : Wds 5000 ys) (hl : ys.length ≤ 200) : joinD (.str z) [.lst (ys.map .str)] = some (.str (Txt.join z ys)) := by
  have h1 := sum_le fun y hy => (h y hy).le
  have h3 : 5000 * ys.length ≤ 5000 * 200 := Nat.mul_le_mul_left _ hl
  have h2 : (Txt.join z ys).length = (ys.map (·.length)).sum + (ys.length - 1) * z.length := size_glued z ys
  unfold joinD
  dsimp only
  rw [strsD_map]
  refine if_pos ⟨by rw [hz]; omega, SOk.of (join_sok hk fun y hy => (h y hy).ok) ?_⟩
  have : (1000000 + 400 : Nat) ≤ sizeLine := by decide
  rw [h2, hz]
  omega
theorem join_wd {z : Str} {ys : List Str} {B n : Nat} (hz : z.length = 1) (hk : PyData.strOk z = true) (h : Wds B ys) (hl : ys.length ≤ n) : Wd (B * n + n) (Txt.join z ys) := by
  have h1 := sum_le fun y hy => (h y hy).le
  have h2 : (Txt.join z ys).length = (ys.map (·.length)).sum + (ys.length - 1) * z.length := size_glued z ys
  have h3 : B * ys.length ≤ B * n := Nat.mul_le_mul_left _ hl
  exact ⟨join_sok hk fun y hy => (h y hy).ok, by rw [h2, hz]; omega⟩
theorem strI_wd {n : Int} (h0 : 0 ≤ n) (h1 : n < 100) : Wd 8 (strI n) := by
  have h : ∀ k ∈ List.range 100, PyData.strOk (strI ((k : Nat) : Int)) = true ∧ (strI ((k : Nat) : Int)).length ≤ 8 := by decide +kernel
  have := h n.toNat (List.mem_range.mpr (by omega))
  rw [Int.toNat_of_nonneg h0] at this
  exact ⟨this.1, this.2⟩
theorem strIs_wd {ns : List Int} (h : ∀ n ∈ ns, 0 ≤ n ∧ n < 100) : Wds 8 (ns.map strI) := fun y hy => by
  obtain ⟨n, hn, rfl⟩ := List.mem_map.mp hy
  exact strI_wd (h n hn).1 (h n hn).2
theorem strD_ok {n : Int} (h0 : 0 ≤ n) (h1 : n < 100) : strD [.int n] = some (.str (strI n)) := by
  have h := strI_wd h0 h1
  refine if_pos ⟨?_, SOk.of h.ok (Nat.le_trans h.le (by decide))⟩
  have hk : ∀ k ∈ List.range 100, (((k : Nat) : Int)).natAbs.log2 < 1920 := by decide +kernel
  have := hk n.toNat (List.mem_range.mpr (by omega))
  rwa [Int.toNat_of_nonneg h0] at this
theorem name_wd {z : Str} (h : NameOk z) : Wd 8 z := ⟨strOk_of fun c hc => by have := h.2.2.1 c hc; omega, h.2.1⟩
noncomputable def dirW (b : Bool) : Str := if b = true then "up" else "down"
noncomputable def stepW (nm : List Str) (s : Step') : List Str := (([dirW s.up, nm.getD s.w.toNat "", ":"] : List Str) ++ s.takes.map strI ++ (["->"] : List Str)) ++ s.fills.map strI
noncomputable def onesI (n : Int) (k : Nat) : List Int := (onesN n.toNat k).map fun p : Nat => (p : Int)
noncomputable def startW (nm : List Str) (m c : Int) : List Str := ((["start"] : List Str) ++ (onesI m 64).map strI ++ ([":"] : List Str)) ++ (onesI c 64).map fun i => nm.getD i.toNat ""
noncomputable def wireW (w : Str × Bool) : Str := (if w.2 then ("made" : Str) else "given") ++ " " ++ w.1
noncomputable def rowsW (G : Gr) : List Str := G.wires.map wireW ++ G.steps.map (fun s => Txt.join " " (stepW G.names s)) ++ [Txt.join " " (startW G.names G.marks G.code)]
theorem blank1 : (" " : Str).length = 1 := by decide +kernel
theorem blankOk : PyData.strOk " " = true := by decide +kernel
theorem dirW_wd (b : Bool) : Wd 8 (dirW b) := by cases b <;> exact ⟨by decide +kernel, by decide +kernel⟩
theorem lit_wd {z : Str} (h1 : PyData.strOk z = true) (h2 : z.length ≤ 8) : Wd 8 z := ⟨h1, h2⟩
theorem wds_cons {B : Nat} {y : Str} {ys : List Str} (h : Wd B y) (k : Wds B ys) : Wds B (y :: ys) := fun z hz => by
  rcases List.mem_cons.mp hz with e | e
  · subst e; exact h
  · exact k z e
theorem wds_nil {B : Nat} : Wds B [] := fun _ h => nomatch h
theorem nm_wd {nm : List Str} (h : Wds 8 nm) (i : Nat) : Wd 8 (nm.getD i "") := by
  by_cases hi : i < nm.length
  · have e : nm.getD i "" = nm[i] := by simp [List.getD, hi]
    rw [e]; exact h _ (List.getElem_mem hi)
  · have e : nm.getD i "" = "" := by simp [List.getD, Nat.not_lt.mp hi]
    rw [e]; exact ⟨by decide +kernel, by decide +kernel⟩
theorem onesI_mem {n : Int} {k : Nat} (h0 : 0 ≤ n) (h1 : n < 2 ^ k) {i : Int} (h : i ∈ onesI n k) : 0 ≤ i ∧ i < k ∧ n.toNat.testBit i.toNat = true := by
  unfold onesI at h
  obtain ⟨p, hp, rfl⟩ := List.mem_map.mp h
  have hr : p < k := List.mem_range.mp (List.mem_filter.mp hp).1
  have ht : n.toNat.testBit p = true := (List.mem_filter.mp hp).2
  exact ⟨by omega, by omega, by rw [Int.toNat_natCast]; exact ht⟩
theorem onesI_len (n : Int) (k : Nat) : (onesI n k).length ≤ k := by
  unfold onesI onesN
  rw [List.length_map]
  exact Nat.le_trans (List.length_filter_le _ _) (by simp)
theorem ones_at {n : Int} (h0 : 0 ≤ n) (h1 : n < 2 ^ 64) : F_ones [.int n] = .ok (.lst ((onesI n 64).map .int)) := by
  have := K11.ones_ok n.toNat 64 (by omega) (by omega)
  rw [o_eq', show (n : Int) = ((n.toNat : Nat) : Int) by omega]
  exact this
theorem places_at {n : Int} (h0 : 0 ≤ n) (h1 : n < 2 ^ 64) : F__law_places [.int n] = .ok (.lst ((onesI n 64).map .int)) := by
  have := K11.places_ok n.toNat 64 (by omega) (by omega)
  rw [p_eq, show (n : Int) = ((n.toNat : Nat) : Int) by omega]
  exact this
end K13
namespace K13
open PySem PySem.Spec PyProof.Rows L2
open K14 (F_start_row F_step_row F_written g_start_row g_step_row g_written)
open K12 (Gr Step' wireD stepD graph_ok dT_ok ok_of dL_ok dComp_ok srcT_ok compL_all aTup_ok append_ok ixT_nat ixL_nat NameOk Spots Low pick int_b)
theorem srcS_ok {f : Ev → Option Dat} {env : Ev} {xs : List Dat} (h : f env = some (.lst xs)) : srcL f env = some xs := by unfold srcL; rw [h]
theorem addStr_ok {xs ys : List Str} (h : xs.length + ys.length ≤ 1000) : addD (.lst (xs.map .str)) (.lst (ys.map .str)) = some (.lst ((xs ++ ys).map .str)) := by
  rw [addL_ok (by rw [List.length_map, List.length_map]; exact h), List.map_append]
theorem dIf_ok {t : Ev → Option Bool} {f g : Ev → Option Dat} {env : Ev} {b : Bool} {x y : Dat} (h : t env = some b) (h1 : f env = some x) (h2 : g env = some y) : dIf t f g env = some (if b = true then x else y) := by
  unfold dIf
  rw [h]
  show (if b = true then f env else g env) = _
  cases b
  · exact h2
  · exact h1
theorem dir_if (b : Bool) : (if b = true then Dat.str "up" else Dat.str "down") = Dat.str (dirW b) := by cases b <;> rfl
theorem nm_ix {nm : List Str} {i : Int} (h0 : 0 ≤ i) (h1 : i < nm.length) : ixD (.lst (nm.map .str)) (.int i) = some (.str (nm.getD i.toNat "")) := by
  obtain ⟨n, rfl⟩ : ∃ n : Nat, i = n := ⟨i.toNat, by omega⟩
  have hn : n < nm.length := by omega
  refine ixL_nat ?_
  rw [Int.toNat_natCast]
  simp [hn, List.getD]
theorem written_ok (is : List Int) (h : ∀ i ∈ is, 0 ≤ i ∧ i < 100) (d : Dat) (hd : srcL (dV 0) [.fz d] = some (is.map .int)) : F_written [d] = .ok (.lst ((is.map strI).map .str)) := by
  refine ok_of (run_of (n := 1) (p := 1) (ds := [d]) (g := g_written) (R := fun e => e = .lst ((is.map strI).map .str)) rfl ?_)
  show Go (g_written [.fz d]) _ _
  unfold g_written
  refine go_ret (dL_ok (dComp_ok (xs := is.map .int) (env' := [.un]) hd rfl (compL_all Dat.int (fun i => .str (strI i)) is fun i hi => ⟨[.fz (.int i)], rfl, rfl, dF_ok (aCons_ok rfl rfl) (strD_ok (h i hi).1 (h i hi).2)⟩))) ?_
  rw [List.map_map]; rfl
structure NmOk (nm : List Str) : Prop where
  l1 : nm.length ≤ 10
  wd : Wds 8 nm
theorem spot_lt {ks : List Int} (h : Spots ks) : ∀ k ∈ ks, 0 ≤ k ∧ k < 100 := fun k hk => by have := h.2.2.1 k hk; omega
theorem stepW_wds {nm : List Str} (hn : NmOk nm) (s : Step') (ht : Spots s.takes) (hf : Spots s.fills) : Wds 8 (stepW nm s) ∧ (stepW nm s).length ≤ 64 := by
  constructor
  · unfold stepW
    exact (((wds_cons (dirW_wd _) (wds_cons (nm_wd hn.wd _) (wds_cons (lit_wd (by decide +kernel) (by decide +kernel)) wds_nil))).app (strIs_wd (spot_lt ht))).app (wds_cons (lit_wd (by decide +kernel) (by decide +kernel)) wds_nil)).app (strIs_wd (spot_lt hf))
  · unfold stepW
    have := ht.2.1
    have := hf.2.1
    simp
    omega
theorem step_row_ok {nm : List Str} (hn : NmOk nm) (s : Step') (h0 : 0 ≤ s.w) (h1 : s.w < nm.length) (ht : Spots s.takes) (hf : Spots s.fills) : F_step_row [stepD s, .lst (nm.map .str)] = .ok (.str (Txt.join " " (stepW nm s))) := by
  refine ok_of (run_of (n := 3) (p := 2) (ds := [stepD s, .lst (nm.map .str)]) (g := g_step_row) (R := fun e => e = .str (Txt.join " " (stepW nm s))) rfl ?_)
  show Go (g_step_row [.fz (stepD s), .fz (.lst (nm.map .str)), .un]) _ _
  unfold g_step_row
  have l1 := ht.2.1
  have l2 := hf.2.1
  have hj := stepW_wds hn s ht hf
  refine go_cons (go_set (d := .lst (([dirW s.up, nm.getD s.w.toNat "", ":"] : List Str).map .str)) (dL_ok (aLst_ok (aCons_ok ((dIf_ok (dT_ok (b := s.up) (dO_ok rfl rfl rfl)) rfl rfl).trans (by rw [dir_if])) (aCons_ok (dO_ok rfl (dO_ok rfl rfl rfl) (nm_ix h0 h1)) (aCons_ok rfl rfl))) (by simp))) ?_)
  refine go_ret (dM_ok rfl rfl (aCons_ok (dO_ok (dO_ok (dO_ok rfl (dCal_ok (xs := [.tup (s.takes.map .int)]) (aCons_ok (dO_ok rfl rfl rfl) rfl) (written_ok s.takes (spot_lt ht) _ rfl)) (addStr_ok (by simp; omega))) (dL_ok (ds := (["->"] : List Str).map .str) rfl) (addStr_ok (by simp; omega))) (dCal_ok (xs := [.tup (s.fills.map .int)]) (aCons_ok (dO_ok rfl rfl rfl) rfl) (written_ok s.fills (spot_lt hf) _ rfl)) (addStr_ok (by simp; omega))) rfl) (join_ok blank1 blankOk (ys := stepW nm s) (fun y hy => ⟨(hj.1 y hy).ok, Nat.le_trans (hj.1 y hy).le (by decide)⟩) (by have := hj.2; omega))) rfl
theorem startW_wds {nm : List Str} (hn : NmOk nm) {m c : Int} (m0 : 0 ≤ m) (m1 : m < 2 ^ 64) : Wds 8 (startW nm m c) ∧ (startW nm m c).length ≤ 130 := by
  constructor
  · unfold startW
    refine (((wds_cons (lit_wd (by decide +kernel) (by decide +kernel)) wds_nil).app (strIs_wd fun i hi => ?_)).app (wds_cons (lit_wd (by decide +kernel) (by decide +kernel)) wds_nil)).app fun y hy => ?_
    · have := onesI_mem (k := 64) m0 m1 hi; omega
    · obtain ⟨i, _, rfl⟩ := List.mem_map.mp hy
      exact nm_wd hn.wd _
  · unfold startW
    have := onesI_len m 64
    have := onesI_len c 64
    simp
    omega
theorem ones_lt {nm : List Str} {c : Int} (c0 : 0 ≤ c) (c1 : c < 2 ^ nm.length) (cle : c < 2 ^ 64) {i : Int} (hi : i ∈ onesI c 64) : 0 ≤ i ∧ i < nm.length := by
    obtain ⟨h1, h2, h3⟩ := onesI_mem (k := 64) c0 cle hi
    refine ⟨h1, ?_⟩
    apply Classical.byContradiction
    intro hno
    have hc : c.toNat < 2 ^ i.toNat := by
      have e1 : c.toNat < 2 ^ nm.length := by
        have : ((c.toNat : Nat) : Int) < ((2 ^ nm.length : Nat) : Int) := by push_cast; omega
        exact_mod_cast this
      exact Nat.lt_of_lt_of_le e1 (Nat.pow_le_pow_right (by omega) (by omega))
    rw [Nat.testBit_lt_two_pow hc] at h3
    cases h3
theorem start_row_ok {nm : List Str} (hn : NmOk nm) {m c : Int} (m0 : 0 ≤ m) (m1 : m < 2 ^ 64) (c0 : 0 ≤ c) (c1 : c < 2 ^ nm.length) : F_start_row [.int m, .int c, .lst (nm.map .str)] = .ok (.str (Txt.join " " (startW nm m c))) := by
  refine ok_of (run_of (n := 4) (p := 3) (ds := [.int m, .int c, .lst (nm.map .str)]) (g := g_start_row) (R := fun e => e = .str (Txt.join " " (startW nm m c))) rfl ?_)
  show Go (g_start_row [.fz (.int m), .fz (.int c), .fz (.lst (nm.map .str)), .un]) _ _
  unfold g_start_row
  have hj := startW_wds (c := c) hn m0 m1
  have hl := hn.l1
  have cle : c < 2 ^ 64 := by
    have : (2 : Int) ^ nm.length ≤ 2 ^ 64 := by
      have := Nat.pow_le_pow_right (n := 2) (by omega) (show nm.length ≤ 64 by omega)
      exact_mod_cast this
    omega
  have hlt : ∀ i ∈ onesI c 64, 0 ≤ i ∧ i < nm.length := fun i hi => by
    obtain ⟨h1, h2, h3⟩ := onesI_mem (k := 64) c0 cle hi
    refine ⟨h1, ?_⟩
    apply Classical.byContradiction
    intro hno
    have hc : c.toNat < 2 ^ i.toNat := by
      have e1 : c.toNat < 2 ^ nm.length := by
        have : ((c.toNat : Nat) : Int) < ((2 ^ nm.length : Nat) : Int) := by push_cast; omega
        exact_mod_cast this
      exact Nat.lt_of_lt_of_le e1 (Nat.pow_le_pow_right (by omega) (by omega))
    rw [Nat.testBit_lt_two_pow hc] at h3
    cases h3
  have l1 := onesI_len m 64
  have l2 := onesI_len c 64
  refine go_cons (go_set (d := .lst (((onesI c 64).map fun i => nm.getD i.toNat "").map .str)) (dL_ok (dComp_ok (xs := (onesI c 64).map .int) (env' := [.un, .fz (.lst (nm.map .str))]) (srcS_ok (dCal_ok (xs := [.int c]) rfl (ones_at c0 cle))) rfl ?_)) ?_)
  · rw [compL_all Dat.int (fun i => .str (nm.getD i.toNat "")) (onesI c 64) fun i hi => ⟨[.fz (.int i), .fz (.lst (nm.map .str))], rfl, rfl, dO_ok rfl rfl (nm_ix (hlt i hi).1 (hlt i hi).2)⟩, List.map_map]
    rfl
  refine go_ret (dM_ok rfl rfl (aCons_ok (dO_ok (dO_ok (dO_ok (dL_ok (ds := (["start"] : List Str).map .str) rfl) (dCal_ok (xs := [.lst ((onesI m 64).map .int)]) (aCons_ok (dCal_ok (xs := [.int m]) rfl (ones_at m0 m1)) rfl) (written_ok (onesI m 64) (fun i hi => by have := onesI_mem (k := 64) m0 m1 hi; omega) _ rfl)) (addStr_ok (by simp; omega))) (dL_ok (ds := ([":"] : List Str).map .str) rfl) (addStr_ok (by simp; omega))) rfl (addStr_ok (by simp; omega))) rfl) (join_ok blank1 blankOk (ys := startW nm m c) (fun y hy => ⟨(hj.1 y hy).ok, Nat.le_trans (hj.1 y hy).le (by decide)⟩) (by have := hj.2; omega))) rfl
end K13
namespace K13
open PySem PySem.Spec PyProof.Rows L2
open K14 (F__law_alike F__law_rows F__law_step_words F_law F_names F_shown g__law_rows g__law_step_words g_law g_shown)
open K12 (Gr Step' wireD stepD graph_ok dT_ok ok_of dL_ok dComp_ok srcT_ok compL_all aTup_ok append_ok ixT_nat ixL_nat NameOk Spots Low pick int_b)
theorem n_eq : F_names = K14.F_names := rfl
theorem nmOk {G : Gr} (hG : G.Ok) : NmOk G.names := ⟨by unfold K12.Gr.names; rw [List.length_map]; exact hG.w2, fun z hz => by
  unfold K12.Gr.names at hz
  obtain ⟨w, hw, rfl⟩ := List.mem_map.mp hz
  exact name_wd (hG.nm w hw)⟩
theorem nmLen (G : Gr) : G.names.length = G.wires.length := by unfold K12.Gr.names; rw [List.length_map]
theorem kindE (b : Bool) : (Str.empty ++ (if b = true then ("made" : Str) else "given")) = (if b = true then ("made" : Str) else "given") := by cases b <;> decide +kernel
theorem kindL (b : Bool) : (if b = true then ("made" : Str) else "given").length ≤ 8 ∧ PyData.strOk (if b = true then ("made" : Str) else "given") = true := by cases b <;> exact ⟨by decide +kernel, by decide +kernel⟩
theorem wireW_wd {w : Str × Bool} (h : NameOk w.1) : Wd 20 (wireW w) := by
  have h1 := kindL w.2
  have h2 := name_wd h
  have h3 := h2.le
  refine ⟨strOk_app (strOk_app h1.2 blankOk) h2.ok, ?_⟩
  unfold wireW
  rw [len_app, len_app, blank1]
  omega
theorem wire_f {w : Str × Bool} (h : NameOk w.1) : dJ (jdFmt (dV 1) (jdLit " " (jdFmt (dV 0) jdNil))) [.fz (.str w.1), .fz (.str (if w.2 = true then "made" else "given"))] = some (.str (wireW w)) := by
  have h1 := kindL w.2
  have h2 := name_wd h
  have hw := wireW_wd h
  have h3 := h2.le
  have sz : (1000 : Nat) ≤ sizeLine := by decide
  have e : jdFmt (dV 1) (jdLit " " (jdFmt (dV 0) jdNil)) [.fz (.str w.1), .fz (.str (if w.2 = true then "made" else "given"))] Str.empty = some (wireW w) := by
    show (if (Str.empty ++ (if w.2 = true then ("made" : Str) else "given")).length ≤ sizeLine then (if ((Str.empty ++ (if w.2 = true then ("made" : Str) else "given")) ++ (" " : Str)).length ≤ sizeLine then (if (((Str.empty ++ (if w.2 = true then ("made" : Str) else "given")) ++ (" " : Str)) ++ w.1).length ≤ sizeLine then some (((Str.empty ++ (if w.2 = true then ("made" : Str) else "given")) ++ (" " : Str)) ++ w.1) else none) else none) else none) = _
    rw [kindE, if_pos (by omega), if_pos (by rw [len_app, blank1]; omega), if_pos (by rw [len_app, len_app, blank1]; omega)]
    rfl
  unfold dJ
  rw [e]
  exact if_pos (SOk.of hw.ok (Nat.le_trans hw.le (by decide)))
theorem rows_wds {G : Gr} (hG : G.Ok) : Wds 5000 (rowsW G) ∧ (rowsW G).length ≤ 35 := by
  have hn := nmOk hG
  constructor
  · intro y hy
    unfold rowsW at hy
    rcases List.mem_append.mp hy with hy | hy
    · rcases List.mem_append.mp hy with hy | hy
      · obtain ⟨w, hw, rfl⟩ := List.mem_map.mp hy
        have := wireW_wd (hG.nm w hw)
        exact ⟨this.ok, Nat.le_trans this.le (by decide)⟩
      · obtain ⟨s, hs, rfl⟩ := List.mem_map.mp hy
        have hk := hG.sw s hs
        have h1 := stepW_wds hn s hk.2.2.1 hk.2.2.2
        have := join_wd blank1 blankOk h1.1 h1.2
        exact ⟨this.ok, Nat.le_trans this.le (by decide)⟩
    · have e : y = _ := List.mem_singleton.mp hy
      have h1 := startW_wds (c := G.code) hn hG.m0 hG.m1
      have := join_wd blank1 blankOk h1.1 h1.2
      rw [e]
      exact ⟨this.ok, Nat.le_trans this.le (by decide)⟩
  · have := hG.w2
    have := hG.s2
    unfold rowsW
    simp
    omega
theorem nl1 : ("\n" : Str).length = 1 := by decide +kernel
theorem nlOk : PyData.strOk "\n" = true := by decide +kernel
theorem shown_ok {G : Gr} (hG : G.Ok) : F_shown [G.d] = .ok (.str (Txt.join "\n" (rowsW G))) := by
  refine ok_of (run_of (n := 3) (p := 1) (ds := [G.d]) (g := g_shown) (R := fun e => e = .str (Txt.join "\n" (rowsW G))) rfl ?_)
  show Go (g_shown [.fz G.d, .un, .un]) _ _
  unfold g_shown
  have hn := nmOk hG
  have w2 := hG.w2
  have s2 := hG.s2
  have hr := rows_wds hG
  have hN : F_names [G.d] = .ok (.lst (G.names.map .str)) := by rw [n_eq]; exact K12.names_ok G
  refine go_cons (go_set (dCal_ok (xs := [G.d]) rfl hN) ?_)
  refine go_cons (go_own (ds := (G.wires.map wireW).map .str) (dComp_ok (xs := G.wires.map wireD) (env' := [.un, .un]) (srcT_ok (dO_ok rfl rfl rfl)) rfl ?_) ?_)
  · rw [compL_all wireD (fun w => .str (wireW w)) G.wires fun w hw => ⟨[.fz (.str w.1), .fz (.str (if w.2 = true then "made" else "given"))], rfl, rfl, wire_f (hG.nm w hw)⟩, List.map_map]
    rfl
  refine go_cons (go_meth (ds := (G.wires.map wireW).map .str) (as := [.lst ((G.steps.map fun s => Txt.join " " (stepW G.names s)).map .str)]) (ds' := (G.wires.map wireW ++ G.steps.map fun s => Txt.join " " (stepW G.names s)).map .str) rfl (aCons_ok (dL_ok (dComp_ok (xs := G.steps.map stepD) (env' := [.un, .fz (.lst (G.names.map .str))]) (srcT_ok (dO_ok rfl rfl rfl)) rfl ?_)) rfl) ?_ ?_)
  · rw [compL_all stepD (fun s => .str (Txt.join " " (stepW G.names s))) G.steps fun s hs => ⟨[.fz (stepD s), .fz (.lst (G.names.map .str))], rfl, rfl, dCal_ok (xs := [stepD s, .lst (G.names.map .str)]) rfl (step_row_ok hn s (hG.sw s hs).1 (by rw [nmLen]; exact (hG.sw s hs).2.1) (hG.sw s hs).2.2.1 (hG.sw s hs).2.2.2)⟩, List.map_map]
    rfl
  · rw [extend_ok (by simp; omega), List.map_append]
  refine go_cons (go_meth (ds := (G.wires.map wireW ++ G.steps.map fun s => Txt.join " " (stepW G.names s)).map .str) (as := [.str (Txt.join " " (startW G.names G.marks G.code))]) (ds' := (rowsW G).map .str) rfl (aCons_ok (dCal_ok (xs := [.int G.marks, .int G.code, .lst (G.names.map .str)]) (aCons_ok (dO_ok rfl rfl rfl) (aCons_ok (dO_ok rfl rfl rfl) rfl)) (start_row_ok hn hG.m0 hG.m1 hG.c0 (by rw [nmLen]; exact hG.c1))) rfl) ?_ ?_)
  · rw [append_ok (by simp; omega)]
    unfold rowsW
    rw [List.map_append (l₁ := G.wires.map wireW ++ _)]
    rfl
  exact go_ret (dM_ok rfl rfl (aCons_ok rfl rfl) (join_ok nl1 nlOk hr.1 (by have := hr.2; omega))) rfl
theorem wir_ix {G : Gr} {i : Int} (h0 : 0 ≤ i) (h1 : i < G.wires.length) : ∃ w, ixD (.tup (G.wires.map wireD)) (.int i) = some (wireD w) ∧ w.1 = G.names.getD i.toNat "" := by
  obtain ⟨n, rfl⟩ : ∃ n : Nat, i = n := ⟨i.toNat, by omega⟩
  have hn : n < G.wires.length := by omega
  refine ⟨G.wires[n], ixT_nat (by simp [hn]), ?_⟩
  unfold K12.Gr.names
  simp [hn, List.getD]
theorem pick_dir (b : Bool) : ixD (.lst [.str "down", .str "up"]) (.int (if b then 1 else 0)) = some (.str (dirW b)) := by rw [pick]; cases b <;> rfl
theorem strs_comp {is : List Int} (h : ∀ i ∈ is, 0 ≤ i ∧ i < 100) : compL (gset 0) tTrue (dF strD (aCons (dV 0) aNil)) [.un] (is.map .int) = some ((is.map strI).map .str) := by
  rw [compL_all Dat.int (fun i => .str (strI i)) is fun i hi => ⟨[.fz (.int i)], rfl, rfl, dF_ok (aCons_ok rfl rfl) (strD_ok (h i hi).1 (h i hi).2)⟩, List.map_map]
  rfl
theorem step_words_ok {G : Gr} (s : Step') (h0 : 0 ≤ s.w) (h1 : s.w < G.wires.length) (ht : Spots s.takes) (hf : Spots s.fills) : F__law_step_words [.tup (G.wires.map wireD), stepD s] = .ok (.lst ((stepW G.names s).map .str)) := by
  refine ok_of (run_of (n := 7) (p := 2) (ds := [.tup (G.wires.map wireD), stepD s]) (g := g__law_step_words) (R := fun e => e = .lst ((stepW G.names s).map .str)) rfl ?_)
  show Go (g__law_step_words [.fz (.tup (G.wires.map wireD)), .fz (stepD s), .un, .un, .un, .un, .un]) _ _
  unfold g__law_step_words
  have l1 := ht.2.1
  have l2 := hf.2.1
  obtain ⟨w, hw, hw1⟩ := wir_ix h0 h1
  refine go_cons (go_asg (d := stepD s) (env' := [.fz (.tup (G.wires.map wireD)), .fz (stepD s), .fz (.int s.w), .fz (.bl s.up), .fz (.tup (s.takes.map .int)), .fz (.tup (s.fills.map .int)), .un]) rfl rfl ?_)
  refine go_cons (go_set (d := .lst (([dirW s.up, G.names.getD s.w.toNat "", ":"] : List Str).map .str)) (dL_ok (aLst_ok (aCons_ok (dO_ok (x := .lst [.str "down", .str "up"]) rfl (dF_ok (aCons_ok rfl rfl) (int_b s.up)) (pick_dir s.up)) (aCons_ok (dO_ok (dO_ok rfl rfl hw) rfl (by rw [← hw1]; rfl)) (aCons_ok rfl rfl))) (by simp))) ?_)
  refine go_ret (dO_ok (dO_ok (dO_ok rfl (dL_ok (dComp_ok (xs := s.takes.map .int) (env' := [.un]) (srcT_ok rfl) rfl (strs_comp (spot_lt ht)))) (addStr_ok (by simp; omega))) (dL_ok (ds := (["->"] : List Str).map .str) rfl) (addStr_ok (by simp; omega))) (dL_ok (dComp_ok (xs := s.fills.map .int) (env' := [.un]) (srcT_ok rfl) rfl (strs_comp (spot_lt hf)))) (addStr_ok (by simp; omega))) rfl
theorem rows_ok {G : Gr} (hG : G.Ok) : F__law_rows [G.d] = .ok (.lst ((rowsW G).map .str)) := by
  refine ok_of (run_of (n := 8) (p := 1) (ds := [G.d]) (g := g__law_rows) (R := fun e => e = .lst ((rowsW G).map .str)) rfl ?_)
  show Go (g__law_rows [.fz G.d, .un, .un, .un, .un, .un, .un, .un]) _ _
  unfold g__law_rows
  have hn := nmOk hG
  have w2 := hG.w2
  have s2 := hG.s2
  have m0 := hG.m0
  have m1 := hG.m1
  have c0 := hG.c0
  have hj := startW_wds (c := G.code) hn m0 m1
  have c1 : G.code < 2 ^ G.names.length := by rw [nmLen]; exact hG.c1
  refine go_cons (go_asg (d := G.d) (env' := [.fz G.d, .fz (.tup (G.wires.map wireD)), .fz (.tup (G.steps.map stepD)), .fz (.int G.marks), .fz (.int G.code), .un, .un, .un]) rfl rfl ?_)
  refine go_cons (go_own (ds := (G.wires.map wireW).map .str) (dComp_ok (xs := G.wires.map wireD) (env' := [.un, .un]) (srcT_ok rfl) rfl ?_) ?_)
  · rw [compL_all wireD (fun w => .str (wireW w)) G.wires fun w hw => ⟨[.fz (.str w.1), .fz (.str (if w.2 = true then "made" else "given"))], rfl, rfl, by
      have h1 := (kindL w.2).1
      have h2 := (name_wd (hG.nm w hw)).le
      exact dO_ok (dO_ok rfl rfl (addS1 (by rw [blank1]; omega))) rfl (addS1 (by rw [len_app, blank1]; omega))⟩, List.map_map]
    rfl
  refine go_cons (go_for (ds := G.steps.map stepD) (fun i e => ∃ v : Slt, e = [.fz G.d, .fz (.tup (G.wires.map wireD)), .fz (.tup (G.steps.map stepD)), .fz (.int G.marks), .fz (.int G.code), .ow ((G.wires.map wireW ++ (G.steps.take i).map fun s => Txt.join " " (stepW G.names s)).map .str), v, .un]) (srcT_ok rfl) ⟨.un, by simp⟩ ?_ ?_)
  · rintro i d e hi ⟨v, rfl⟩
    rw [List.getElem?_map] at hi
    obtain ⟨s, hs, hd⟩ : ∃ s, G.steps[i]? = some s ∧ d = stepD s := by
      cases hq : G.steps[i]? with
      | none => rw [hq] at hi; cases hi
      | some s => rw [hq] at hi; cases hi; exact ⟨s, rfl, rfl⟩
    subst hd
    have hk := hG.sw s (List.mem_of_getElem? hs)
    have hil := (List.getElem?_eq_some_iff.mp hs).1
    have h1 := stepW_wds hn s hk.2.2.1 hk.2.2.2
    refine ⟨_, rfl, ?_⟩
    refine go_meth (ds := (G.wires.map wireW ++ (G.steps.take i).map fun s => Txt.join " " (stepW G.names s)).map .str) (as := [.str (Txt.join " " (stepW G.names s))]) (ds' := (G.wires.map wireW ++ (G.steps.take (i + 1)).map fun s => Txt.join " " (stepW G.names s)).map .str) rfl (aCons_ok (dM_ok rfl rfl (aCons_ok (dCal_ok (xs := [.tup (G.wires.map wireD), stepD s]) rfl (step_words_ok s hk.1 hk.2.1 hk.2.2.1 hk.2.2.2)) rfl) (join_ok blank1 blankOk (fun y hy => ⟨(h1.1 y hy).ok, Nat.le_trans (h1.1 y hy).le (by decide)⟩) (by have := h1.2; omega))) rfl) ?_ ⟨_, rfl⟩
    rw [append_ok (by simp; omega), List.take_succ, hs]
    simp
  · rintro e ⟨v, rfl⟩
    have l1 := onesI_len G.marks 64
    have l2 := onesI_len G.code 64
    have cle : G.code < 2 ^ 64 := by
      have h3 : (2 : Int) ^ G.names.length ≤ 2 ^ 64 := by
        have := Nat.pow_le_pow_right (n := 2) (by omega) (show G.names.length ≤ 64 by rw [nmLen]; omega)
        exact_mod_cast this
      omega
    have hlt := fun i hi => ones_lt (nm := G.names) c0 c1 cle (i := i) hi
    have hm : ∀ i ∈ onesI G.marks 64, 0 ≤ i ∧ i < 100 := fun i hi => by have := onesI_mem (k := 64) m0 m1 hi; omega
    refine go_cons (go_set (dO_ok (dO_ok (dL_ok (ds := (["start"] : List Str).map .str) rfl) (dL_ok (dComp_ok (xs := (onesI G.marks 64).map .int) (env' := [.un]) (srcS_ok (dCal_ok (xs := [.int G.marks]) rfl (places_at m0 m1))) rfl (strs_comp hm))) (addStr_ok (by simp; omega))) (dL_ok (ds := ([":"] : List Str).map .str) rfl) (addStr_ok (by simp; omega))) ?_)
    have hcomp : compL (gset 0) tTrue (dO ixD (dO ixD (dV 1) (dV 0)) (dC (.int 0))) [.un, .fz (.tup (G.wires.map wireD))] ((onesI G.code 64).map .int) = some (((onesI G.code 64).map fun i => G.names.getD i.toNat "").map .str) := by
      rw [compL_all Dat.int (fun i => .str (G.names.getD i.toNat "")) (onesI G.code 64) fun i hi => ⟨[.fz (.int i), .fz (.tup (G.wires.map wireD))], rfl, rfl, by
        obtain ⟨w, hw, hw1⟩ := wir_ix (hlt i hi).1 (by have := (hlt i hi).2; rw [nmLen] at this; exact this)
        exact dO_ok (dO_ok rfl rfl hw) rfl (by rw [← hw1]; rfl)⟩, List.map_map]
      rfl
    refine go_cons (go_meth (ds := (G.wires.map wireW ++ (G.steps.take (G.steps.map stepD).length).map fun s => Txt.join " " (stepW G.names s)).map .str) (as := [.str (Txt.join " " (startW G.names G.marks G.code))]) (ds' := (rowsW G).map .str) rfl (aCons_ok (dM_ok rfl rfl (aCons_ok (dO_ok rfl (dL_ok (dComp_ok (xs := (onesI G.code 64).map .int) (env' := [.un, .fz (.tup (G.wires.map wireD))]) (srcS_ok (dCal_ok (xs := [.int G.code]) rfl (places_at c0 cle))) rfl hcomp)) (addStr_ok (by simp; omega))) rfl) (join_ok blank1 blankOk (ys := startW G.names G.marks G.code) (fun y hy => ⟨(hj.1 y hy).ok, Nat.le_trans (hj.1 y hy).le (by decide)⟩) (by have := hj.2; omega))) rfl) ?_ ?_)
    · rw [append_ok (by simp; omega), List.length_map, List.take_of_length_le (Nat.le_refl _)]
      unfold rowsW
      rw [List.map_append (l₁ := G.wires.map wireW ++ _)]
      rfl
    exact go_retO rfl rfl
end K13
namespace L2
open PySem PySem.Spec PyProof.Rows PySem.W
theorem cut_unique {c : Nat} : ∀ {a a' b b' : List Nat}, c ∉ a → c ∉ a' → a ++ c :: b = a' ++ c :: b' → a = a' ∧ b = b'
  | [], [], b, b', _, _, h => ⟨rfl, by simpa using h⟩
  | [], x :: a', b, b', _, h2, h => by
    have : c = x := by simpa using (List.cons.inj h).1
    exact absurd (by rw [this]; exact List.mem_cons_self) h2
  | x :: a, [], b, b', h1, _, h => by
    have : x = c := by simpa using (List.cons.inj h).1
    exact absurd (by rw [this]; exact List.mem_cons_self) h1
  | x :: a, y :: a', b, b', h1, h2, h => by
    obtain ⟨e1, e2⟩ := List.cons.inj h
    obtain ⟨e3, e4⟩ := cut_unique (fun z => h1 (List.mem_cons_of_mem _ z)) (fun z => h2 (List.mem_cons_of_mem _ z)) e2
    exact ⟨by rw [e1, e3], e4⟩
theorem cl_join2 (c : Nat) (x y : Str) (r : List Str) : (Str.join ⟨#[c]⟩ (x :: y :: r)).cps.toList = x.cps.toList ++ c :: (Str.join ⟨#[c]⟩ (y :: r)).cps.toList := by
  show (x ++ (⟨#[c]⟩ : Str) ++ Str.join ⟨#[c]⟩ (y :: r)).cps.toList = _
  simp [Str.cps_append]
theorem free_unique (c : Nat) : ∀ (xs ys : List Str), xs ≠ [] → ys ≠ [] → (∀ x ∈ xs, c ∉ x.cps.toList) → (∀ y ∈ ys, c ∉ y.cps.toList) → (Str.join ⟨#[c]⟩ xs).cps.toList = (Str.join ⟨#[c]⟩ ys).cps.toList → xs = ys
  | [], _, h, _, _, _, _ => absurd rfl h
  | _, [], _, h, _, _, _ => absurd rfl h
  | [x], [y], _, _, _, _, h => by
    have e : x.cps.toList = y.cps.toList := h
    have : x = y := Str.ext' (Array.toList_inj.mp e)
    rw [this]
  | [x], y :: y2 :: r, _, _, hx, _, h => by
    rw [cl_join2] at h
    have e : x.cps.toList = _ := h
    exact absurd (by rw [e]; simp) (hx x List.mem_cons_self)
  | x :: x2 :: r, [y], _, _, _, hy, h => by
    rw [cl_join2] at h
    have e : _ = y.cps.toList := h
    exact absurd (by rw [← e]; simp) (hy y List.mem_cons_self)
  | x :: x2 :: r, y :: y2 :: q, _, _, hx, hy, h => by
    rw [cl_join2, cl_join2] at h
    obtain ⟨e1, e2⟩ := cut_unique (hx x List.mem_cons_self) (hy y List.mem_cons_self) h
    have : x = y := Str.ext' (Array.toList_inj.mp e1)
    rw [this, free_unique c (x2 :: r) (y2 :: q) (by simp) (by simp) (fun z hz => hx z (List.mem_cons_of_mem _ hz)) (fun z hz => hy z (List.mem_cons_of_mem _ hz)) e2]
theorem split_join (c : Nat) {ys : List Str} (h : ys ≠ []) (hf : ∀ y ∈ ys, c ∉ y.cps.toList) : Txt.split (Txt.join ⟨#[c]⟩ ys) ⟨#[c]⟩ = ys := by
  refine free_unique c _ _ (fun e => ?_) h (StrLaws.split_free _ c) hf ?_
  · have := split_pos (Txt.join ⟨#[c]⟩ ys) ⟨#[c]⟩
    rw [e] at this
    simp at this
  · rw [StrLaws.join_split]
    show (Builtin.Str.glued ⟨#[c]⟩ ys).cps.toList = _
    rw [StrLaws.glued_eq_join]
end L2
namespace L2
open PySem PySem.Spec PyProof.Rows
theorem in_strs (z : Str) (ws : List Str) : (ws.map Dat.str).any (fun y => eqD y (.str z)) = decide (z ∈ ws) := by
  induction ws with
  | nil => simp
  | cons w ws ih =>
    rw [List.map_cons, List.any_cons, ih]
    have : eqD (.str w) (.str z) = (w == z) := by unfold eqD; rfl
    rw [this]
    by_cases e : w = z
    · subst e; simp
    · have e' : (w == z) = false := by simpa using e
      have e2 : ¬ z = w := fun q => e q.symm
      rw [e']; simp [e2]
theorem pd_str (n : Nat) (z : Str) : pd n (.str z) = true := by cases n <;> rfl
theorem pd_strs (ws : List Str) : (ws.map Dat.str).all (pd 20) = true := by
  induction ws with
  | nil => rfl
  | cons w ws ih => rw [List.map_cons, List.all_cons, ih, pd_str]; rfl
theorem inB_lst (z : Str) (ws : List Str) : inB (.str z) (.lst (ws.map .str)) = some (decide (z ∈ ws)) := by
  unfold inB
  dsimp only
  rw [pd_strs, pd_str, Bool.and_self, if_pos rfl, in_strs]
theorem inB_tup (z : Str) (ws : List Str) : inB (.str z) (.tup (ws.map .str)) = some (decide (z ∈ ws)) := by
  unfold inB
  dsimp only
  rw [pd_strs, pd_str, Bool.and_self, if_pos rfl, in_strs]
theorem inF_lst (z : Str) (ws : List Str) : inF (.str z) (.lst (ws.map .str)) = some (.bl (decide (z ∈ ws))) := by unfold inF; rw [inB_lst]; rfl
theorem tOr_ok {t u : Ev → Option Bool} {env : Ev} {a b : Bool} (h1 : t env = some a) (h2 : a = false → u env = some b) : tOrD t u env = some (a || b) := by
  unfold tOrD; rw [h1]; cases a with
  | true => rfl
  | false => exact h2 rfl
theorem dS_ok {F : Dat → Option Int → Option Int → Option Dat} {f : Ev → Option Dat} {l h : Ev → Option (Option Int)} {env : Ev} {x z : Dat} {a b : Option Int} (h1 : f env = some x) (h2 : l env = some a) (h3 : h env = some b) (h4 : F x a b = some z) : dS F f l h env = some z := by
  unfold dS; rw [h1, h2, h3]; exact h4
theorem oSome_ok {f : Ev → Option Dat} {env : Ev} {i : Int} (h : f env = some (.int i)) : oSome f env = some (some i) := by unfold oSome; rw [h]
theorem ixL_nat {xs : List Dat} {j : Nat} {x : Dat} (h : xs[j]? = some x) : ixD (.lst xs) (.int j) = some x := atI_nat h
theorem ixT_nat {xs : List Dat} {j : Nat} {x : Dat} (h : xs[j]? = some x) : ixD (.tup xs) (.int j) = some x := atI_nat h
theorem aTup_ok {fs : Ev → Option (List Dat)} {env : Ev} {xs : List Dat} (h : fs env = some xs) (hl : xs.length ≤ 1000) : aTup fs env = some (.tup xs) := by unfold aTup; rw [h]; exact if_pos hl
theorem append_ok {ds : List Dat} {d : Dat} (h : ds.length ≤ 1000) : appendF ds [d] = some (ds ++ [d]) := if_pos (Nat.lt_of_le_of_lt h (by decide))
theorem k_bb : kitB "bool" "bool" = some true := by decide +kernel
theorem k_ib : kitB "int" "bool" = some false := by decide +kernel
theorem k_ii : kitB "int" "int" = some true := by decide +kernel
theorem k_sb : kitB "str" "bool" = some false := by decide +kernel
theorem k_si : kitB "str" "int" = some false := by decide +kernel
theorem k_ss : kitB "str" "str" = some true := by decide +kernel
theorem dI_ok {f : Ev → Option Dat} {env : Ev} {d : Dat} {t T : String} {b : Bool} (h : f env = some d) (ht : tyN d = some t) (hk : kitB t T = some b) : dI T f env = some (.bl b) := by
  unfold dI; rw [h]; show (isiB T d).map _ = _; unfold isiB; rw [ht]; show Option.map _ (kitB t T) = _; rw [hk]; rfl
theorem dT_ok {f : Ev → Option Dat} {env : Ev} {b : Bool} (h : f env = some (.bl b)) : dT f env = some b := by unfold dT; rw [h]; rfl
theorem dAndT {f g : Ev → Option Dat} {env : Ev} {d : Dat} (h : f env = some (.bl true)) (h2 : g env = some d) : dAnd f g env = some d := by unfold dAnd; rw [dB_ok h]; exact h2
theorem dNot_ok {f : Ev → Option Dat} {env : Ev} {b : Bool} (h : f env = some (.bl b)) : dNot f env = some (.bl (!b)) := by unfold dNot; rw [dB_ok h]; rfl
theorem tNot_ok {t : Ev → Option Bool} {env : Ev} {b : Bool} (h : t env = some b) : tNotD t env = some (!b) := by unfold tNotD; rw [h]; rfl
theorem ok_of {r : Rs} {d0 : Dat} (h : ∃ d, r = .ok d ∧ d = d0) : r = .ok d0 := by obtain ⟨d, e, rfl⟩ := h; exact e
theorem eqF_int (i : Int) : eqF (.int i) (.int i) = some (.bl true) := by unfold eqF; rw [if_pos (by rfl)]; unfold eqD; simp
theorem eqF_str (i : Str) : eqF (.str i) (.str i) = some (.bl true) := by unfold eqF; rw [if_pos (by rfl)]; unfold eqD; simp
theorem eqF_bl (i : Bool) : eqF (.bl i) (.bl i) = some (.bl true) := by unfold eqF; rw [if_pos (by rfl)]; unfold eqD; simp
theorem neF_len (n : Int) : neF (.int n) (.int n) = some (.bl false) := by unfold neF; rw [if_pos (by rfl)]; unfold eqD; simp
theorem dL_ok {g : Ev → Option (List Dat)} {env : Ev} {ds : List Dat} (h : g env = some ds) : dL g env = some (.lst ds) := by unfold dL; rw [h]; rfl
theorem dComp_ok {src : Ev → Option (List Dat)} {fs : List (Option Nat)} {g : Dat → Ev → Option Ev} {t : Ev → Option Bool} {f : Ev → Option Dat} {env env' : Ev} {xs ys : List Dat} (h1 : src env = some xs) (h2 : innerD fs env = env') (h3 : compL g t f env' xs = some ys) : dComp src fs g t f env = some ys := by
  unfold dComp; rw [h1, h2]; exact h3
theorem compL_all {g : Dat → Ev → Option Ev} {t : Ev → Option Bool} {f : Ev → Option Dat} {env : Ev} {α : Type} (D : α → Dat) (y : α → Dat) : ∀ (xs : List α), (∀ x ∈ xs, ∃ e1, g (D x) env = some e1 ∧ t e1 = some true ∧ f e1 = some (y x)) → compL g t f env (xs.map D) = some (xs.map y)
  | [], _ => rfl
  | x :: xs, h => by
    obtain ⟨e1, a1, a2, a3⟩ := h x List.mem_cons_self
    have ih := compL_all D y xs fun z hz => h z (List.mem_cons_of_mem _ hz)
    rw [List.map_cons, compL, a1]
    dsimp only [Option.bind]
    rw [a2]
    dsimp only
    rw [if_pos rfl, a3]
    dsimp only
    rw [ih]
    rfl
theorem dCalP_ok' {F : List Dat → Rs} {fs : Ev → Option (List Dat)} {env : Ev} {xs : List Dat} {d : Dat} (h1 : fs env = some xs) (h2 : F xs = .ok d) (hd : pureD d = true := by rfl) : dCalP F fs env = some d := by unfold dCalP; rw [h1]; show (okR (F xs)).bind _ = _; rw [h2]; show (if pureD d = true then some d else none) = _; rw [if_pos hd]
theorem pd_int (n : Nat) (i : Int) : pd n (.int i) = true := by cases n <;> rfl
theorem bls_map (bs : List Bool) : allD [.lst (bs.map .bl)] = some (.bl (bs.all id)) := by unfold allD; dsimp only; rw [blsD_map]; rfl
theorem eqI2 (i j : Int) : eqF (.int i) (.int j) = some (.bl (i == j)) := rfl
theorem neI2 (i j : Int) : neF (.int i) (.int j) = some (.bl (!(i == j))) := rfl
theorem nodup_take {α : Type} {xs : List α} {i : Nat} {p : α} (h : xs.Nodup) (hp : xs[i]? = some p) : p ∉ xs.take i := by
  obtain ⟨hi, e⟩ := List.getElem?_eq_some_iff.mp hp
  have e1 : xs = xs.take i ++ p :: xs.drop (i + 1) := by
    conv => lhs; rw [← List.take_append_drop i xs, List.drop_eq_getElem_cons hi, e]
  rw [e1] at h
  intro hm
  exact (List.nodup_append.mp h).2.2 p hm p List.mem_cons_self rfl
theorem k_tt : kitB "tuple" "tuple" = some true := by decide +kernel
theorem k_ts : kitB "tuple" "str" = some false := by decide +kernel
theorem k_tb : kitB "tuple" "bool" = some false := by decide +kernel
theorem k_ti : kitB "tuple" "int" = some false := by decide +kernel
end L2
namespace K14
open PySem PySem.Spec PyProof.Rows L2
open K12 (Gr Step' wireD stepD NameOk Spots Low nameB kept5)
open K13 (Wd Wds wds_cons wds_nil name_wd join_sok sum_le nm_wd stepW startW wireW rowsW dirW onesI NmOk stepW_wds startW_wds nmOk nmLen)
noncomputable def Cn (z : Str) : Prop := ∀ c ∈ z.cps.toList, c ≠ 10 ∧ c ≠ 32
theorem cn_lit {z : Str} (h : (z.cps.toList.all fun c => decide (c ≠ 10 ∧ c ≠ 32)) = true) : Cn z := fun c hc => of_decide_eq_true (List.all_eq_true.mp h c hc)
theorem cn_name {z : Str} (h : NameOk z) : Cn z := fun c hc => by
  have := h.2.2.1 c hc
  omega
theorem strI_facts : ∀ k ∈ List.range 64, ((strI ((k : Nat) : Int)).cps.toList.all fun c => decide (c ≠ 10 ∧ c ≠ 32)) = true ∧ ((strI ((k : Nat) : Int)).length = 1 ∨ (strI ((k : Nat) : Int)).length = 2) ∧ (cl (strI ((k : Nat) : Int))).all (fun c => inS ⟨#[c]⟩ "0123456789") = true ∧ strI ((k : Nat) : Int) ≠ "->" ∧ strI ((k : Nat) : Int) ≠ ":" := by decide +kernel
theorem strI_at {i : Int} (h0 : 0 ≤ i) (h1 : i < 64) : ((strI i).cps.toList.all fun c => decide (c ≠ 10 ∧ c ≠ 32)) = true ∧ ((strI i).length = 1 ∨ (strI i).length = 2) ∧ (cl (strI i)).all (fun c => inS ⟨#[c]⟩ "0123456789") = true ∧ strI i ≠ "->" ∧ strI i ≠ ":" := by
  have := strI_facts i.toNat (List.mem_range.mpr (by omega))
  rwa [Int.toNat_of_nonneg h0] at this
theorem cn_strI {i : Int} (h0 : 0 ≤ i) (h1 : i < 64) : Cn (strI i) := cn_lit (strI_at h0 h1).1
theorem cn_dir (b : Bool) : Cn (dirW b) := by cases b <;> exact cn_lit (by decide +kernel)
theorem blankE : (" " : Str) = ⟨#[32]⟩ := by decide +kernel
theorem nlE : ("\n" : Str) = ⟨#[10]⟩ := by decide +kernel
theorem split_ok (c : Nat) (hc : PyData.strOk ⟨#[c]⟩ = true) {ys : List Str} (h : ys ≠ []) (hf : ∀ y ∈ ys, c ∉ y.cps.toList) (hw : Wds 5000 ys) (hl : ys.length ≤ 200) : splitN (.str (Txt.join ⟨#[c]⟩ ys)) [.str ⟨#[c]⟩] = some (ys.map .str) := by
  have h1 := sum_le fun y hy => (hw y hy).le
  have h3 : 5000 * ys.length ≤ 5000 * 200 := Nat.mul_le_mul_left _ hl
  have h2 : (Txt.join ⟨#[c]⟩ ys).length = (ys.map (·.length)).sum + (ys.length - 1) * (⟨#[c]⟩ : Str).length := size_glued _ ys
  have e1 : (⟨#[c]⟩ : Str).length = 1 := rfl
  have : (1000000 + 400 : Nat) ≤ sizeLine := by decide
  unfold splitN
  dsimp only
  rw [split_join c h hf]
  refine if_pos ⟨rfl, by rw [h2, e1]; omega, List.all_eq_true.mpr fun p hp => decide_eq_true (SOk.of (hw p hp).ok (Nat.le_trans (hw p hp).le (by decide)))⟩
theorem split_b {ys : List Str} (h : ys ≠ []) (hf : ∀ y ∈ ys, Cn y) (hw : Wds 8 ys) (hl : ys.length ≤ 200) : splitN (.str (Txt.join " " ys)) [.str " "] = some (ys.map .str) := by
  rw [blankE]
  exact split_ok 32 (by decide +kernel) h (fun y hy hc => (hf y hy 32 hc).2 rfl) (fun y hy => ⟨(hw y hy).ok, Nat.le_trans (hw y hy).le (by decide)⟩) hl
theorem dSS_ok {fs : Ev → Option (List Dat)} {env : Ev} {ns : List Int} (h : fs env = some [.lst (ns.map .int)]) (hl : ns.length ≤ 64) : dSS fs env = some ((sortI (ns.foldl addK [])).map .int) := by
  unfold dSS
  rw [h]
  dsimp only
  rw [intsD_map]
  exact if_pos hl
theorem addK_all : ∀ (ns ks : List Int), (∀ n ∈ ns, n ∉ ks) → ns.Nodup → ns.foldl addK ks = ks ++ ns
  | [], ks, _, _ => by simp
  | n :: ns, ks, h, hn => by
    have h1 : addK ks n = ks ++ [n] := by unfold addK; rw [if_neg (h n List.mem_cons_self)]
    have hn2 := List.nodup_cons.mp hn
    rw [List.foldl_cons, h1, addK_all ns (ks ++ [n]) (fun m hm hq => by
      rcases List.mem_append.mp hq with q | q
      · exact h m (List.mem_cons_of_mem _ hm) q
      · rw [List.mem_singleton.mp q] at hm; exact hn2.1 hm) hn2.2]
    simp
theorem pd_ints (is : List Int) : pd 20 (.lst (is.map .int)) = true := List.all_eq_true.mpr fun x hx => by
  obtain ⟨i, _, rfl⟩ := List.mem_map.mp hx
  exact pd_int 19 i
theorem eqDs_ints : ∀ is : List Int, eqDs (is.map .int) (is.map .int) = true
  | [] => by unfold eqDs; rfl
  | i :: is => by
    rw [List.map_cons]
    unfold eqDs
    rw [eqDs_ints is]
    unfold eqD
    simp
theorem eqF_ints (is : List Int) : eqF (.lst (is.map .int)) (.lst (is.map .int)) = some (.bl true) := by
  unfold eqF
  rw [pd_ints, Bool.and_self, if_pos rfl]
  unfold eqD
  rw [eqDs_ints]
theorem asc_nd {is : List Int} (h : is.Pairwise (· < ·)) : is.Nodup := h.imp fun {a b} q => Int.ne_of_lt q
theorem rising_ok (is : List Int) (hs : is.Pairwise (· < ·)) (hl : is.length ≤ 64) : F_rising [.lst (is.map .int)] = .ok (.lst (is.map .int)) := by
  refine ok_of (run_of (n := 1) (p := 1) (ds := [.lst (is.map .int)]) (g := g_rising) (R := fun d => d = .lst (is.map .int)) rfl ?_)
  show Go (g_rising [.fz (.lst (is.map .int))]) _ _
  unfold g_rising
  have e : sortI (is.foldl addK []) = is := by
    rw [addK_all is [] (fun _ _ q => nomatch q) (asc_nd hs), List.nil_append]
    exact sorted_unique (sortI_perm is) (sortI_sorted is) (hs.imp fun {a b} q => Int.le_of_lt q)
  refine go_ret (K13.dIf_ok (b := true) (y := .non) (dB_ok (dO_ok rfl (dL_ok (dSS_ok (ns := is) rfl hl)) (by rw [e]; exact eqF_ints is))) rfl rfl) rfl
theorem intE_ok {i : Int} (h0 : 0 ≤ i) (h1 : i < 64) : intE [.str (strI i)] = some (.int i) := by
  unfold intE
  dsimp only
  have hr : PySem.intText? (strI i) = some i := PySem.W.KIN.num_reads h0 (by omega)
  have hl := (strI_at h0 h1).2.1
  rw [if_pos (by omega), hr]
  rfl
theorem is_spot_ok {i : Int} (h0 : 0 ≤ i) (h1 : i < 64) : F_is_spot [.str (strI i)] = .ok (.bl true) := by
  refine ok_of (run_of (n := 1) (p := 1) (ds := [.str (strI i)]) (g := g_is_spot) (R := fun d => d = .bl true) rfl ?_)
  show Go (g_is_spot [.fz (.str (strI i))]) _ _
  unfold g_is_spot
  obtain ⟨_, hl, ha, _⟩ := strI_at h0 h1
  have t1 : ninF (.int ((strI i).length : Int)) (.tup [.int 1, .int 2]) = some (.bl false) := by
    rcases hl with q | q <;> rw [q] <;> rfl
  have t2 : dF allD (aCons (dL (dComp (srcC (dV 0)) [none] (gset 0) tTrue (dO inF (dV 0) (dC c_FIGURES)))) aNil) [.fz (.str (strI i))] = some (.bl true) := by
    refine dF_ok (aCons_ok (dL_ok (ds := ((cl (strI i)).map fun c => inS ⟨#[c]⟩ "0123456789").map .bl) (dComp_ok (xs := (cl (strI i)).map fun c => Dat.str ⟨#[c]⟩) (env' := [.un]) rfl rfl ?_)) rfl) ?_
    · rw [compL_all (fun c : Nat => Dat.str ⟨#[c]⟩) (fun c => .bl (inS ⟨#[c]⟩ "0123456789")) (cl (strI i)) fun c _ => ⟨[.fz (.str ⟨#[c]⟩)], rfl, rfl, rfl⟩, List.map_map]
      rfl
    · rw [bls_map]
      congr 2
      rw [List.all_map]
      exact ha
  refine go_cons (go_ifF (tOr_ok (a := false) (b := false) (dB_ok (dO_ok (dF_ok (aCons_ok rfl rfl) rfl) rfl t1)) fun _ => tNot_ok (b := true) (dT_ok t2)) (go_nil ?_))
  refine go_ret (dAndT (dO_ok (dF_ok (aCons_ok (dF_ok (aCons_ok rfl rfl) (intE_ok h0 h1)) rfl) (K13.strD_ok h0 (by omega))) rfl (eqF_str _)) (dO_ok (dF_ok (aCons_ok rfl rfl) (intE_ok h0 h1)) rfl (z := .bl true) ?_)) rfl
  show some (Dat.bl (decide (i ≤ 63))) = _
  rw [decide_eq_true (by omega)]
noncomputable def Sp (is : List Int) : Prop := (∀ i ∈ is, 0 ≤ i ∧ i < 64) ∧ is.Pairwise (· < ·) ∧ is.length ≤ 64
theorem sp_spots {is : List Int} (h : Spots is) : Sp is := ⟨h.2.2.1, h.2.2.2, by have := h.2.1; omega⟩
theorem read_spots_ok {is : List Int} (h : Sp is) : F_read_spots [.lst ((is.map strI).map .str)] = .ok (.lst (is.map .int)) := by
  refine ok_of (run_of (n := 1) (p := 1) (ds := [.lst ((is.map strI).map .str)]) (g := g_read_spots) (R := fun d => d = .lst (is.map .int)) rfl ?_)
  show Go (g_read_spots [.fz (.lst ((is.map strI).map .str))]) _ _
  unfold g_read_spots
  have e : (is.map strI).map Dat.str = is.map fun i => Dat.str (strI i) := by rw [List.map_map]; rfl
  rw [e]
  have t2 : dF allD (aCons (dL (dComp (srcL (dV 0)) [none] (gset 0) tTrue (dCal F_is_spot (aCons (dV 0) aNil)))) aNil) [.fz (.lst (is.map fun i => Dat.str (strI i)))] = some (.bl true) := by
    refine dF_ok (aCons_ok (dL_ok (ds := (is.map fun _ => true).map .bl) (dComp_ok (xs := is.map fun i => Dat.str (strI i)) (env' := [.un]) rfl rfl ?_)) rfl) ?_
    · rw [compL_all (fun i => Dat.str (strI i)) (fun _ => .bl true) is fun i hi => ⟨[.fz (.str (strI i))], rfl, rfl, dCal_ok (xs := [.str (strI i)]) rfl (is_spot_ok (h.1 i hi).1 (h.1 i hi).2)⟩, List.map_map]
      rfl
    · rw [bls_map]
      congr 2
      rw [List.all_map]
      exact List.all_eq_true.mpr fun _ _ => rfl
  refine go_cons (go_ifF (tNot_ok (b := true) (dT_ok t2)) (go_nil ?_))
  refine go_ret (dCal_ok (xs := [.lst (is.map .int)]) (aCons_ok (dL_ok (dComp_ok (xs := is.map fun i => Dat.str (strI i)) (env' := [.un]) rfl rfl (compL_all (fun i => Dat.str (strI i)) (fun i => .int i) is fun i hi => ⟨[.fz (.str (strI i))], rfl, rfl, dF_ok (aCons_ok rfl rfl) (intE_ok (h.1 i hi).1 (h.1 i hi).2)⟩))) rfl) (rising_ok is h.2.1 h.2.2)) rfl
noncomputable def kindW (b : Bool) : Str := if b = true then "made" else "given"
theorem kindW_wd (b : Bool) : Wd 8 (kindW b) := by cases b <;> exact ⟨by decide +kernel, by decide +kernel⟩
theorem cn_kind (b : Bool) : Cn (kindW b) := by cases b <;> exact cn_lit (by decide +kernel)
theorem wireW_eq (w : Str × Bool) : wireW w = Txt.join " " [kindW w.2, w.1] := rfl
theorem in_letters : ∀ k ∈ List.range 26, inS ⟨#[97 + k]⟩ "abcdefghijklmnopqrstuvwxyz" = true := by decide +kernel
theorem name_true {z : Str} (h : NameOk z) : nameB z = true := by
  obtain ⟨h1, h2, h3, h4⟩ := h
  unfold nameB
  rw [if_neg]
  · refine List.all_eq_true.mpr fun c hc => ?_
    have := h3 c hc
    have := in_letters (c - 97) (List.mem_range.mpr (by omega))
    rwa [show 97 + (c - 97) = c by omega] at this
  · simp only [Bool.or_eq_true, decide_eq_true_eq]
    rintro (q | q | q)
    · omega
    · omega
    · exact h4 q
theorem nm_eq : F_is_name = K14.F_is_name := rfl
theorem is_name_ok {z : Str} (h : NameOk z) : F_is_name [.str z] = .ok (.bl true) := by rw [nm_eq, K12.is_name_ok, name_true h]
theorem nin_tup (z : Str) (ws : List Str) : ninF (.str z) (.tup (ws.map .str)) = some (.bl (!decide (z ∈ ws))) := by unfold ninF; rw [inB_tup]; rfl
theorem nin_lst (z : Str) (ws : List Str) : ninF (.str z) (.lst (ws.map .str)) = some (.bl (!decide (z ∈ ws))) := by unfold ninF; rw [inB_lst]; rfl
theorem read_wire_ok {w : Str × Bool} (h : NameOk w.1) {ks : List Str} (hk : w.1 ∉ ks) : F_read_wire [.str (wireW w), .lst (ks.map .str)] = .ok (wireD w) := by
  refine ok_of (run_of (n := 3) (p := 2) (ds := [.str (wireW w), .lst (ks.map .str)]) (g := g_read_wire) (R := fun d => d = wireD w) rfl ?_)
  show Go (g_read_wire [.fz (.str (wireW w)), .fz (.lst (ks.map .str)), .un]) _ _
  unfold g_read_wire
  have hs : splitN (.str (wireW w)) [.str " "] = some ([kindW w.2, w.1].map .str) := by
    rw [wireW_eq]
    exact split_b (by simp) (fun y hy => by
      rcases List.mem_cons.mp hy with e | e
      · rw [e]; exact cn_kind _
      · rw [List.mem_singleton.mp e]; exact cn_name h) (wds_cons (kindW_wd _) (wds_cons (name_wd h) wds_nil)) (by simp)
  refine go_cons (go_set (d := .lst [.str (kindW w.2), .str w.1]) (dL_ok (by unfold dM; exact (show ((some (Dat.str (wireW w))).bind fun x => if tyOk "str" x = true then (some [Dat.str " "]).bind fun ds => splitN x ds else none) = _ from hs))) ?_)
  have t1 : ninF (.str (kindW w.2)) c_KINDS = some (.bl false) := by
    have := nin_tup (kindW w.2) ["given", "made"]
    rw [show decide (kindW w.2 ∈ (["given", "made"] : List Str)) = true by cases w.2 <;> decide +kernel] at this
    exact this
  refine go_cons (go_ifF (tOr_ok (a := false) (b := false) (dB_ok (dO_ok (dF_ok (aCons_ok rfl rfl) rfl) rfl rfl)) fun _ => dB_ok (dO_ok (dO_ok rfl rfl rfl) rfl t1)) (go_nil ?_))
  refine go_cons (go_ifF (tOr_ok (a := false) (b := false) (tNot_ok (b := true) (dT_ok (dCal_ok (xs := [.str w.1]) (aCons_ok (dO_ok rfl rfl rfl) rfl) (is_name_ok h)))) fun _ => dB_ok (dO_ok (dO_ok rfl rfl rfl) rfl (by rw [inF_lst, decide_eq_false hk]))) (go_nil ?_))
  exact go_ret (d := wireD w) (aTup_ok (aCons_ok (dO_ok rfl rfl rfl) (aCons_ok (dO_ok rfl rfl rfl) rfl)) (by simp)) rfl
theorem read_wire_no {ys : List Str} (h : ys ≠ []) (hf : ∀ y ∈ ys, Cn y) (hw : Wds 8 ys) (hl : ys.length ≤ 200) (h2 : ys.length ≠ 2) (ks : List Str) : F_read_wire [.str (Txt.join " " ys), .lst (ks.map .str)] = .ok .non := by
  refine ok_of (run_of (n := 3) (p := 2) (ds := [.str (Txt.join " " ys), .lst (ks.map .str)]) (g := g_read_wire) (R := fun d => d = .non) rfl ?_)
  show Go (g_read_wire [.fz (.str (Txt.join " " ys)), .fz (.lst (ks.map .str)), .un]) _ _
  unfold g_read_wire
  have hs := split_b h hf hw hl
  refine go_cons (go_set (d := .lst (ys.map .str)) (dL_ok (by unfold dM; exact (show ((some (Dat.str (Txt.join " " ys))).bind fun x => if tyOk "str" x = true then (some [Dat.str " "]).bind fun ds => splitN x ds else none) = _ from hs))) ?_)
  refine go_cons (go_ifT ?_ (go_ret rfl rfl))
  have t : dB (dO neF (dF lenD (aCons (dV 2) aNil)) (dC (.int 2))) [.fz (.str (Txt.join " " ys)), .fz (.lst (ks.map .str)), .fz (.lst (ys.map .str))] = some true := dB_ok (dO_ok (dF_ok (aCons_ok rfl rfl) (z := .int (ys.length : Int)) (by show some (Dat.int ((ys.map Dat.str).length : Int)) = _; rw [List.length_map])) rfl (by
    rw [neI2]
    congr 2
    simp
    omega))
  unfold tOrD
  show ((dB (dO neF (dF lenD (aCons (dV 2) aNil)) (dC (.int 2))) [.fz (.str (Txt.join " " ys)), .fz (.lst (ks.map .str)), .fz (.lst (ys.map .str))]).bind _) = _
  rw [t]
  rfl
end K14
namespace K14
open PySem PySem.Spec PyProof.Rows L2
open K12 (Gr Step' wireD stepD NameOk Spots Low nameB kept5)
open K13 (Wd Wds wds_cons wds_nil name_wd join_sok sum_le nm_wd stepW startW wireW rowsW dirW onesI NmOk stepW_wds startW_wds nmOk nmLen)
theorem dMn_ok {F : Dat → List Dat → Option (List Dat)} {f : Ev → Option Dat} {fs : Ev → Option (List Dat)} {env : Ev} {z : Str} {ds ys : List Dat} (h1 : f env = some (.str z)) (h2 : fs env = some ds) (h3 : F (.str z) ds = some ys) : dM "str" F f fs env = some ys := by
  unfold dM; rw [h1]
  show ((fs env).bind fun ds => F (.str z) ds) = _
  rw [h2]; exact h3
theorem dMl_ok {F : Dat → List Dat → Option Dat} {f : Ev → Option Dat} {fs : Ev → Option (List Dat)} {env : Ev} {xs : List Dat} {ds : List Dat} {y : Dat} (h1 : f env = some (.lst xs)) (h2 : fs env = some ds) (h3 : F (.lst xs) ds = some y) : dM "list" F f fs env = some y := by
  unfold dM; rw [h1]
  show ((fs env).bind fun ds => F (.lst xs) ds) = _
  rw [h2]; exact h3
theorem stepW_cn {nm : List Str} (hn : ∀ z ∈ nm, NameOk z) (s : Step') (h0 : 0 ≤ s.w) (h1 : s.w < nm.length) (ht : Spots s.takes) (hf : Spots s.fills) : ∀ y ∈ stepW nm s, Cn y := fun y hy => by
  unfold stepW at hy
  have hsp : ∀ is : List Int, Spots is → y ∈ is.map strI → Cn y := fun is h q => by
    obtain ⟨i, hi, rfl⟩ := List.mem_map.mp q
    exact cn_strI (h.2.2.1 i hi).1 (h.2.2.1 i hi).2
  rcases List.mem_append.mp hy with hy | hy
  · rcases List.mem_append.mp hy with hy | hy
    · rcases List.mem_append.mp hy with hy | hy
      · rcases List.mem_cons.mp hy with e | hy
        · rw [e]; exact cn_dir _
        · rcases List.mem_cons.mp hy with e | hy
          · rw [e]
            have hw : s.w.toNat < nm.length := by omega
            have e2 : nm.getD s.w.toNat "" = nm[s.w.toNat] := by simp [List.getD, hw]
            rw [e2]
            exact cn_name (hn _ (List.getElem_mem hw))
          · rw [List.mem_singleton.mp hy]; exact cn_lit (by decide +kernel)
      · exact hsp _ ht hy
    · rw [List.mem_singleton.mp hy]; exact cn_lit (by decide +kernel)
  · exact hsp _ hf hy
theorem onesI_at {nm : List Str} {c : Int} (c0 : 0 ≤ c) (c1 : c < 2 ^ nm.length) (hl : nm.length ≤ 10) {i : Int} (hi : i ∈ onesI c 64) : 0 ≤ i ∧ i < nm.length := by
  have cle : c < 2 ^ 64 := by
    have h3 : (2 : Int) ^ nm.length ≤ 2 ^ 64 := by
      have := Nat.pow_le_pow_right (n := 2) (by omega) (show nm.length ≤ 64 by omega)
      exact_mod_cast this
    omega
  exact K13.ones_lt c0 c1 cle hi
theorem getD_at {nm : List Str} {i : Nat} (h : i < nm.length) : nm.getD i "" = nm[i] := by simp [List.getD, h]
theorem startW_cn {nm : List Str} (hn : ∀ z ∈ nm, NameOk z) (hl : nm.length ≤ 10) {m c : Int} (m0 : 0 ≤ m) (m1 : m < 2 ^ 64) (c0 : 0 ≤ c) (c1 : c < 2 ^ nm.length) : ∀ y ∈ startW nm m c, Cn y := fun y hy => by
  unfold startW at hy
  rcases List.mem_append.mp hy with hy | hy
  · rcases List.mem_append.mp hy with hy | hy
    · rcases List.mem_append.mp hy with hy | hy
      · rw [List.mem_singleton.mp hy]; exact cn_lit (by decide +kernel)
      · obtain ⟨i, hi, rfl⟩ := List.mem_map.mp hy
        have := K13.onesI_mem (k := 64) m0 m1 hi
        exact cn_strI this.1 (by have := this.2.1; omega)
    · rw [List.mem_singleton.mp hy]; exact cn_lit (by decide +kernel)
  · obtain ⟨i, hi, rfl⟩ := List.mem_map.mp hy
    have h1 := onesI_at c0 c1 hl hi
    rw [getD_at (by omega)]
    exact cn_name (hn _ (List.getElem_mem _))
theorem cut_to {α : Type} (xs : List α) (n : Nat) : cutL xs none (some (n : Int)) = xs.take n := by
  unfold cutL
  have e1 : HT.sIx xs.length 0 none = 0 := rfl
  rw [e1, HT.sIx_nat, List.drop_zero, Nat.sub_zero]
  rcases Nat.le_total n xs.length with h | h
  · rw [Nat.min_eq_left h]
  · rw [Nat.min_eq_right h, List.take_of_length_le (Nat.le_refl _), List.take_of_length_le h]
theorem cut_from {α : Type} (xs : List α) (n : Nat) : cutL xs (some (n : Int)) none = xs.drop n := by
  unfold cutL
  have e1 : HT.sIx xs.length xs.length none = xs.length := rfl
  rw [e1, HT.sIx_nat]
  rcases Nat.le_total n xs.length with h | h
  · rw [Nat.min_eq_left h, List.take_of_length_le (by rw [List.length_drop]; exact Nat.le_refl _)]
  · rw [Nat.min_eq_right h, List.drop_eq_nil_of_le (Nat.le_refl _), List.drop_eq_nil_of_le h]; simp
theorem cut_mid {α : Type} (xs : List α) {a b : Nat} (h1 : a ≤ b) (h2 : b ≤ xs.length) : cutL xs (some (a : Int)) (some (b : Int)) = (xs.drop a).take (b - a) := by
  unfold cutL
  rw [HT.sIx_nat, HT.sIx_nat, Nat.min_eq_left h2, Nat.min_eq_left (by omega)]
theorem slL_to (xs : List Dat) (n : Nat) : slD (.lst xs) none (some (n : Int)) = some (.lst (xs.take n)) := by rw [← cut_to]; rfl
theorem slL_from (xs : List Dat) (n : Nat) : slD (.lst xs) (some (n : Int)) none = some (.lst (xs.drop n)) := by rw [← cut_from]; rfl
theorem slL_mid (xs : List Dat) {a b : Nat} (h1 : a ≤ b) (h2 : b ≤ xs.length) : slD (.lst xs) (some (a : Int)) (some (b : Int)) = some (.lst ((xs.drop a).take (b - a))) := by rw [← cut_mid xs h1 h2]; rfl
theorem isF_tup (xs : List Dat) : isF (.tup xs) .non = some (.bl false) := rfl
theorem read_wires_ok {G : Gr} (hG : G.Ok) {rs : List Str} (hr : G.wires.length = 10 ∨ ∃ y r, rs = y :: r ∧ ∀ ks : List Str, F_read_wire [.str y, .lst (ks.map .str)] = .ok .non) : F_read_wires [.lst ((G.wires.map wireW ++ rs).map .str)] = .ok (.lst (G.wires.map wireD)) := by
  refine ok_of (run_of (n := 5) (p := 1) (ds := [.lst ((G.wires.map wireW ++ rs).map .str)]) (g := g_read_wires) (R := fun d => d = .lst (G.wires.map wireD)) rfl ?_)
  show Go (g_read_wires [.fz (.lst ((G.wires.map wireW ++ rs).map .str)), .un, .un, .un, .un]) _ _
  unfold g_read_wires
  have w2 := hG.w2
  refine go_cons (go_own (ds := []) rfl ?_)
  refine go_cons (go_own (ds := []) rfl ?_)
  generalize hrows : (G.wires.map wireW ++ rs).map Dat.str = rows
  refine go_cons (go_for (ds := rows.take 10) (fun i e => i ≤ G.wires.length ∧ ∃ v3 v4 : Slt, e = [.fz (.lst rows), .ow ((G.wires.take i).map wireD), .ow (((G.wires.take i).map (·.1)).map .str), v3, v4]) (K13.srcS_ok (dS_ok rfl rfl (oSome_ok rfl) (slL_to rows 10))) ⟨Nat.zero_le _, .un, .un, rfl⟩ ?_ ?_)
  · rintro i d e hi ⟨hil, v3, v4, rfl⟩
    have hi10 : i < 10 := by
      have := (List.getElem?_eq_some_iff.mp hi).1
      rw [List.length_take] at this
      omega
    rw [List.getElem?_take_of_lt hi10, ← hrows, List.getElem?_map] at hi
    obtain ⟨y, hy, rfl⟩ := map_some hi
    refine ⟨_, rfl, ?_⟩
    dsimp only [List.set]
    rcases Nat.lt_or_ge i G.wires.length with hlt | hge
    · rw [List.getElem?_append_left (by rw [List.length_map]; exact hlt), List.getElem?_map, List.getElem?_eq_getElem hlt] at hy
      cases hy
      have hmem := List.getElem_mem hlt
      generalize hw : G.wires[i] = w at hmem
      have htk : G.wires.take (i + 1) = G.wires.take i ++ [w] := by rw [List.take_succ, List.getElem?_eq_getElem hlt, hw]; rfl
      have hnin : w.1 ∉ (G.wires.take i).map (·.1) := fun q => by
        have nd := hG.nd
        have : (G.wires.map (·.1))[i]? = some w.1 := by rw [List.getElem?_map, List.getElem?_eq_getElem hlt, hw]; rfl
        have h2 := nodup_take nd this
        rw [← List.map_take] at h2
        exact h2 q
      refine go_cons (go_set (d := wireD w) (dCalP_ok' (xs := [.str (wireW w), .lst (((G.wires.take i).map (·.1)).map .str)]) rfl (read_wire_ok (hG.nm w hmem) hnin)) ?_)
      refine go_cons (go_ifF (dB_ok (dO_ok rfl rfl (isF_tup _))) (go_nil ?_))
      have hlen : (G.wires.take i).length ≤ 10 := by rw [List.length_take]; omega
      refine go_cons (go_meth (ds := (G.wires.take i).map wireD) (as := [wireD w]) (ds' := (G.wires.take (i + 1)).map wireD) rfl rfl (by rw [append_ok (by rw [List.length_map]; omega), htk, List.map_append]; rfl) ?_)
      refine go_meth (ds := ((G.wires.take i).map (·.1)).map .str) (as := [.str w.1]) (ds' := ((G.wires.take (i + 1)).map (·.1)).map .str) rfl (aCons_ok (dO_ok rfl rfl rfl) rfl) (by rw [append_ok (by rw [List.length_map, List.length_map]; omega), htk, List.map_append, List.map_append]; rfl) ⟨by omega, _, _, rfl⟩
    · have ei : i = G.wires.length := by omega
      subst ei
      rcases hr with hr | ⟨y', r, hr, hno⟩
      · omega
      · rw [List.getElem?_append_right (by rw [List.length_map]; exact Nat.le_refl _), List.length_map, Nat.sub_self, hr] at hy
        cases hy
        refine go_cons (go_set (d := .non) (dCalP_ok' (xs := [.str y, .lst (((G.wires.take G.wires.length).map (·.1)).map .str)]) rfl (hno _)) ?_)
        refine go_cons (go_ifT (dB_ok (dO_ok rfl rfl rfl)) (go_retO (ds := (G.wires.take G.wires.length).map wireD) rfl ?_))
        rw [List.take_of_length_le (Nat.le_refl _)]
  · rintro e ⟨hil, v3, v4, rfl⟩
    refine go_retO (ds := (G.wires.take (rows.take 10).length).map wireD) rfl ?_
    have hl : G.wires.length ≤ (rows.take 10).length := by
      rw [List.length_take, ← hrows, List.length_map, List.length_append, List.length_map]
      omega
    rw [List.take_of_length_le hl]
theorem idx_mid {xs ys : List Str} {c : Str} (h : c ∉ xs) : (xs ++ c :: ys).idxOf c = xs.length := by
  rw [List.idxOf_append, if_neg h, List.idxOf_cons_self]
  omega
theorem index_ok {zs : List Str} {c : Str} {n : Nat} (h : c ∈ zs) (he : zs.idxOf c = n) : indexT (.lst (zs.map .str)) [.str c] = some (.int (n : Int)) := by
  unfold indexT
  dsimp only
  rw [strsD_map]
  show (if c ∈ zs then _ else _) = _
  rw [if_pos h, he]
theorem idx_nd {zs : List Str} (h : zs.Nodup) {i : Nat} (hi : i < zs.length) : zs.idxOf zs[i] = i := h.idxOf_getElem i hi
theorem lit_dir (b : Bool) : dirW b ≠ "->" ∧ decide (dirW b ∈ (["up", "down"] : List Str)) = true ∧ (dirW b == "up") = b := by cases b <;> exact ⟨by decide +kernel, by decide +kernel, by decide +kernel⟩
theorem name_lit {z : Str} (h : NameOk z) : z ≠ "->" ∧ z ≠ ":" := by
  constructor
  · rintro rfl
    have := h.2.2.1 45 (by decide +kernel)
    omega
  · rintro rfl
    have := h.2.2.1 58 (by decide +kernel)
    omega
theorem eqS (x y : Str) : eqF (.str x) (.str y) = some (.bl (x == y)) := by unfold eqF; rw [if_pos (by rfl)]; unfold eqD; rfl
theorem lenL (ys : List Str) : lenD [.lst (ys.map .str)] = some (.int (ys.length : Int)) := by show some (Dat.int ((ys.map Dat.str).length : Int)) = _; rw [List.length_map]
theorem lenI (ys : List Int) : lenD [.lst (ys.map .int)] = some (.int (ys.length : Int)) := by show some (Dat.int ((ys.map Dat.int).length : Int)) = _; rw [List.length_map]
theorem read_step_ok {nm : List Str} (hn : ∀ z ∈ nm, NameOk z) (hl : nm.length ≤ 10) (nd : nm.Nodup) (s : Step') (h0 : 0 ≤ s.w) (h1 : s.w < nm.length) (ht : Spots s.takes) (hf : Spots s.fills) : F_read_step [.str (Txt.join " " (stepW nm s)), .lst (nm.map .str)] = .ok (stepD s) := by
  refine ok_of (run_of (n := 6) (p := 2) (ds := [.str (Txt.join " " (stepW nm s)), .lst (nm.map .str)]) (g := g_read_step) (R := fun d => d = stepD s) rfl ?_)
  show Go (g_read_step [.fz (.str (Txt.join " " (stepW nm s))), .fz (.lst (nm.map .str)), .un, .un, .un, .un]) _ _
  unfold g_read_step
  have hnm : NmOk nm := ⟨hl, fun z hz => name_wd (hn z hz)⟩
  have hcn := stepW_cn hn s h0 h1 ht hf
  have hwd := stepW_wds hnm s ht hf
  have hw : s.w.toNat < nm.length := by omega
  have hname := hn _ (List.getElem_mem hw)
  have t1 := ht.1
  have f1 := hf.1
  -- the words
  have ew : stepW nm s = (([dirW s.up, nm[s.w.toNat], ":"] : List Str) ++ s.takes.map strI) ++ ("->" : Str) :: s.fills.map strI := by
    unfold stepW
    rw [getD_at hw]
    simp
  have hlen : (stepW nm s).length = s.takes.length + s.fills.length + 4 := by rw [ew]; simp; omega
  have hsp : splitN (.str (Txt.join " " (stepW nm s))) [.str " "] = some ((stepW nm s).map .str) := split_b (fun e => by rw [e] at hlen; simp at hlen) hcn hwd.1 (by have := hwd.2; omega)
  generalize hws : stepW nm s = ws at *
  have g0 : ws[0]? = some (dirW s.up) := by rw [ew]; rfl
  have g1 : ws[1]? = some nm[s.w.toNat] := by rw [ew]; rfl
  have g2 : ws[2]? = some (":" : Str) := by rw [ew]; rfl
  have ix : ∀ {i : Nat} {z : Str}, ws[i]? = some z → ixD (.lst (ws.map .str)) (.int (i : Int)) = some (.str z) := fun h => ixL_nat (by rw [List.getElem?_map, h]; rfl)
  have harr : ("->" : Str) ∉ ([dirW s.up, nm[s.w.toNat], ":"] : List Str) ++ s.takes.map strI := fun q => by
    rcases List.mem_append.mp q with q | q
    · rcases List.mem_cons.mp q with e | q
      · exact (lit_dir s.up).1 e.symm
      · rcases List.mem_cons.mp q with e | q
        · exact (name_lit hname).1 e.symm
        · exact absurd (List.mem_singleton.mp q) (by decide +kernel)
    · obtain ⟨i, hi, e⟩ := List.mem_map.mp q
      exact (strI_at (ht.2.2.1 i hi).1 (ht.2.2.1 i hi).2).2.2.2.1 e
  have hidx : ws.idxOf ("->" : Str) = 3 + s.takes.length := by rw [ew, idx_mid harr]; simp; omega
  have hmem : ("->" : Str) ∈ ws := by rw [ew]; simp
  refine go_cons (go_set (d := .lst (ws.map .str)) (dL_ok (dMn_ok rfl rfl hsp)) ?_)
  have c1 : ninF (.str (dirW s.up)) c_DIRECTIONS = some (.bl false) := by
    have := nin_tup (dirW s.up) ["up", "down"]
    rw [(lit_dir s.up).2.1] at this
    exact this
  refine go_cons (go_ifF (tOr_ok (a := false) (b := false) (dB_ok (dO_ok (dF_ok (aCons_ok rfl rfl) (lenL ws)) rfl (z := Dat.bl false) ?_)) fun _ => tOr_ok (a := false) (b := false) (dB_ok (dO_ok (dO_ok rfl rfl (ix (i := 0) g0)) rfl c1)) fun _ => dB_ok (dO_ok (dO_ok rfl rfl (ix (i := 1) g1)) rfl (by rw [nin_lst, decide_eq_true (List.getElem_mem hw)]; rfl))) (go_nil ?_))
  · show some (Dat.bl (decide ((ws.length : Int) < 3))) = _
    rw [decide_eq_false (by omega)]
  refine go_cons (go_ifF (tOr_ok (a := false) (b := false) (dB_ok (dO_ok (dO_ok rfl rfl (ix (i := 2) g2)) rfl (z := Dat.bl false) rfl)) fun _ => dB_ok (dO_ok rfl rfl (by rw [nin_lst, decide_eq_true hmem]; rfl))) (go_nil ?_))
  refine go_cons (go_set (d := .int ((3 + s.takes.length : Nat) : Int)) (dMl_ok rfl rfl (index_ok hmem hidx)) ?_)
  have sl1 : slD (.lst (ws.map .str)) (some 3) (some ((3 + s.takes.length : Nat) : Int)) = some (.lst ((s.takes.map strI).map .str)) := by
    have := slL_mid (ws.map Dat.str) (a := 3) (b := 3 + s.takes.length) (by omega) (by rw [List.length_map]; omega)
    rw [show (3 + s.takes.length) - 3 = (s.takes.map strI).length by rw [List.length_map]; omega] at this
    refine Eq.trans this ?_
    rw [← List.map_drop, ← List.map_take]
    congr 3
    rw [ew]
    show List.take _ (s.takes.map strI ++ ("->" : Str) :: s.fills.map strI) = _
    exact List.take_left
  have sl2 : slD (.lst (ws.map .str)) (some (((3 + s.takes.length : Nat) : Int) + 1)) none = some (.lst ((s.fills.map strI).map .str)) := by
    have := slL_from (ws.map Dat.str) (3 + s.takes.length + 1)
    rw [show (((3 + s.takes.length : Nat) : Int) + 1) = ((3 + s.takes.length + 1 : Nat) : Int) by omega]
    refine Eq.trans this ?_
    rw [← List.map_drop]
    congr 3
    rw [ew]
    have e5 : (([dirW s.up, nm[s.w.toNat], ":"] : List Str) ++ s.takes.map strI) ++ ("->" : Str) :: s.fills.map strI = ((([dirW s.up, nm[s.w.toNat], ":"] : List Str) ++ s.takes.map strI) ++ (["->"] : List Str)) ++ s.fills.map strI := by simp
    rw [e5]
    have e6 : 3 + s.takes.length + 1 = ((([dirW s.up, nm[s.w.toNat], ":"] : List Str) ++ s.takes.map strI) ++ (["->"] : List Str)).length := by simp; omega
    rw [e6]
    exact List.drop_left
  refine go_cons (go_set (d := .lst (s.takes.map .int)) (dCal_ok (xs := [.lst ((s.takes.map strI).map .str)]) (aCons_ok (dS_ok rfl (oSome_ok rfl) (oSome_ok rfl) sl1) rfl) (read_spots_ok (sp_spots ht))) ?_)
  refine go_cons (go_set (d := .lst (s.fills.map .int)) (dCal_ok (xs := [.lst ((s.fills.map strI).map .str)]) (aCons_ok (dS_ok rfl (oSome_ok (i := ((3 + s.takes.length : Nat) : Int) + 1) rfl) rfl sl2) rfl) (read_spots_ok (sp_spots hf))) ?_)
  have z1 : ∀ is : List Int, Spots is → eqF (.int (is.length : Int)) (.int 0) = some (.bl false) := fun is h => by
    rw [eqI2]
    congr 2
    have := h.1
    simp
    intro q
    rw [q] at this
    simp at this
  refine go_cons (go_ifF (tOr_ok (a := false) (b := false) (dB_ok (dO_ok rfl rfl rfl)) fun _ => tOr_ok (a := false) (b := false) (dB_ok (dO_ok rfl rfl rfl)) fun _ => tOr_ok (a := false) (b := false) (dB_ok (dO_ok (dF_ok (aCons_ok rfl rfl) (lenI s.takes)) rfl (z1 _ ht))) fun _ => dB_ok (dO_ok (dF_ok (aCons_ok rfl rfl) (lenI s.fills)) rfl (z1 _ hf))) (go_nil ?_))
  refine go_ret (d := stepD s) ?_ rfl
  have hidn : nm.idxOf nm[s.w.toNat] = s.w.toNat := idx_nd nd hw
  refine Eq.trans (aTup_ok (xs := [.int ((s.w.toNat : Nat) : Int), .bl s.up, .tup (s.takes.map .int), .tup (s.fills.map .int)]) (aCons_ok (dMl_ok rfl (aCons_ok (dO_ok rfl rfl (ix (i := 1) g1)) rfl) (index_ok (List.getElem_mem hw) hidn)) (aCons_ok (dO_ok (dO_ok rfl rfl (ix (i := 0) g0)) rfl (by rw [eqS, (lit_dir s.up).2.2])) (aCons_ok (dF_ok (aCons_ok rfl rfl) rfl) (aCons_ok (dF_ok (aCons_ok rfl rfl) rfl) rfl)))) (by simp)) ?_
  unfold stepD
  rw [Int.toNat_of_nonneg h0]
end K14
set_option maxHeartbeats 300000
namespace K14
open PySem PySem.Spec PyProof.Rows L2
open K12 (Gr Step' wireD stepD NameOk Spots Low nameB kept5)
open K13 (Wd Wds wds_cons wds_nil name_wd join_sok sum_le nm_wd stepW startW wireW rowsW dirW onesI NmOk stepW_wds startW_wds nmOk nmLen onesI_len)
theorem onesI_asc (n : Int) (k : Nat) : (onesI n k).Pairwise (· < ·) := by
  unfold onesI
  rw [List.pairwise_map]
  exact (K11.onesN_sorted n.toNat k).imp fun {a b} h => by omega
theorem onesI_sp {m : Int} (m0 : 0 ≤ m) (m1 : m < 2 ^ 64) : Sp (onesI m 64) := ⟨fun i hi => by have := K13.onesI_mem (k := 64) m0 m1 hi; omega, onesI_asc m 64, onesI_len m 64⟩
theorem startW_eq (nm : List Str) (m c : Int) : startW nm m c = ((["start"] : List Str) ++ (onesI m 64).map strI) ++ (":" : Str) :: (onesI c 64).map fun i => nm.getD i.toNat "" := by
  unfold startW
  simp
theorem start_len (nm : List Str) (m c : Int) : (startW nm m c).length = (onesI m 64).length + (onesI c 64).length + 2 := by rw [startW_eq]; simp; omega
theorem read_step_no {nm : List Str} (hn : ∀ z ∈ nm, NameOk z) (hl : nm.length ≤ 10) {m c : Int} (m0 : 0 ≤ m) (m1 : m < 2 ^ 64) (c0 : 0 ≤ c) (c1 : c < 2 ^ nm.length) : F_read_step [.str (Txt.join " " (startW nm m c)), .lst (nm.map .str)] = .ok .non := by
  refine ok_of (run_of (n := 6) (p := 2) (ds := [.str (Txt.join " " (startW nm m c)), .lst (nm.map .str)]) (g := g_read_step) (R := fun d => d = .non) rfl ?_)
  show Go (g_read_step [.fz (.str (Txt.join " " (startW nm m c))), .fz (.lst (nm.map .str)), .un, .un, .un, .un]) _ _
  unfold g_read_step
  have hnm : NmOk nm := ⟨hl, fun z hz => name_wd (hn z hz)⟩
  have hcn := startW_cn hn hl m0 m1 c0 c1
  have hwd := startW_wds (c := c) hnm m0 m1
  have hlen := start_len nm m c
  have hsp := split_b (ys := startW nm m c) (fun e => by rw [e] at hlen; simp at hlen) hcn hwd.1 (by have := hwd.2; omega)
  have g0 : (startW nm m c)[0]? = some ("start" : Str) := by rw [startW_eq]; rfl
  generalize hws : startW nm m c = ws at *
  refine go_cons (go_set (d := .lst (ws.map .str)) (dL_ok (dMn_ok rfl rfl hsp)) ?_)
  have ix0 : ixD (.lst (ws.map .str)) (.int 0) = some (.str "start") := ixL_nat (j := 0) (by rw [List.getElem?_map, g0]; rfl)
  have c1 : ninF (.str "start") c_DIRECTIONS = some (.bl true) := by
    have := nin_tup "start" ["up", "down"]
    rw [show decide (("start" : Str) ∈ (["up", "down"] : List Str)) = false by decide +kernel] at this
    exact this
  refine go_cons (go_ifT ((tOr_ok (a := decide ((ws.length : Int) < 3)) (b := true) (dB_ok (dO_ok (dF_ok (aCons_ok rfl rfl) (lenL ws)) rfl rfl)) fun _ => tOr_ok (a := true) (b := true) (dB_ok (dO_ok (dO_ok rfl rfl ix0) rfl c1)) (fun q => by cases q)).trans (by simp)) (go_ret rfl rfl))
theorem read_steps_ok {G : Gr} (hG : G.Ok) : F_read_steps [.lst ((G.steps.map (fun s => Txt.join " " (stepW G.names s)) ++ [Txt.join " " (startW G.names G.marks G.code)]).map .str), .lst (G.names.map .str)] = .ok (.lst (G.steps.map stepD)) := by
  refine ok_of (run_of (n := 5) (p := 2) (ds := [.lst ((G.steps.map (fun s => Txt.join " " (stepW G.names s)) ++ [Txt.join " " (startW G.names G.marks G.code)]).map .str), .lst (G.names.map .str)]) (g := g_read_steps) (R := fun d => d = .lst (G.steps.map stepD)) rfl ?_)
  show Go (g_read_steps [.fz (.lst ((G.steps.map (fun s => Txt.join " " (stepW G.names s)) ++ [Txt.join " " (startW G.names G.marks G.code)]).map .str)), .fz (.lst (G.names.map .str)), .un, .un, .un]) _ _
  unfold g_read_steps
  have s2 := hG.s2
  have hN : ∀ z ∈ G.names, NameOk z := fun z hz => by
    unfold K12.Gr.names at hz
    obtain ⟨w, hw, rfl⟩ := List.mem_map.mp hz
    exact hG.nm w hw
  have hNl : G.names.length ≤ 10 := by rw [nmLen]; exact hG.w2
  have hNd : G.names.Nodup := hG.nd
  refine go_cons (go_own (ds := []) rfl ?_)
  generalize hrows : (G.steps.map (fun s => Txt.join " " (stepW G.names s)) ++ [Txt.join " " (startW G.names G.marks G.code)]).map Dat.str = rows
  refine go_cons (go_for (ds := rows.take 24) (fun i e => i ≤ G.steps.length ∧ ∃ v3 v4 : Slt, e = [.fz (.lst rows), .fz (.lst (G.names.map .str)), .ow ((G.steps.take i).map stepD), v3, v4]) (K13.srcS_ok (dS_ok rfl rfl (oSome_ok rfl) (slL_to rows 24))) ⟨Nat.zero_le _, .un, .un, rfl⟩ ?_ ?_)
  · rintro i d e hi ⟨hil, v3, v4, rfl⟩
    have hi24 : i < 24 := by
      have := (List.getElem?_eq_some_iff.mp hi).1
      rw [List.length_take] at this
      omega
    rw [List.getElem?_take_of_lt hi24, ← hrows, List.getElem?_map] at hi
    obtain ⟨y, hy, rfl⟩ := map_some hi
    refine ⟨_, rfl, ?_⟩
    dsimp only [List.set]
    rcases Nat.lt_or_ge i G.steps.length with hlt | hge
    · rw [List.getElem?_append_left (by rw [List.length_map]; exact hlt), List.getElem?_map, List.getElem?_eq_getElem hlt] at hy
      cases hy
      have hmem := List.getElem_mem hlt
      generalize hw : G.steps[i] = t at hmem
      have htk : G.steps.take (i + 1) = G.steps.take i ++ [t] := by rw [List.take_succ, List.getElem?_eq_getElem hlt, hw]; rfl
      have hk := hG.sw t hmem
      refine go_cons (go_set (d := stepD t) (dCal_ok (xs := [.str (Txt.join " " (stepW G.names t)), .lst (G.names.map .str)]) rfl (read_step_ok hN hNl hNd t hk.1 (by rw [nmLen]; exact hk.2.1) hk.2.2.1 hk.2.2.2)) ?_)
      refine go_cons (go_ifF (dB_ok (dO_ok rfl rfl (isF_tup _))) (go_nil ?_))
      have hlen : (G.steps.take i).length ≤ 24 := by rw [List.length_take]; omega
      exact go_meth (ds := (G.steps.take i).map stepD) (as := [stepD t]) (ds' := (G.steps.take (i + 1)).map stepD) rfl rfl (by rw [append_ok (by rw [List.length_map]; omega), htk, List.map_append]; rfl) ⟨by omega, _, _, rfl⟩
    · have ei : i = G.steps.length := by omega
      subst ei
      rw [List.getElem?_append_right (by rw [List.length_map]; exact Nat.le_refl _), List.length_map, Nat.sub_self] at hy
      cases hy
      refine go_cons (go_set (d := .non) (dCal_ok (xs := [.str (Txt.join " " (startW G.names G.marks G.code)), .lst (G.names.map .str)]) rfl (read_step_no hN hNl hG.m0 hG.m1 hG.c0 (by rw [nmLen]; exact hG.c1))) ?_)
      refine go_cons (go_ifT (dB_ok (dO_ok rfl rfl rfl)) (go_retO (ds := (G.steps.take G.steps.length).map stepD) rfl ?_))
      rw [List.take_of_length_le (Nat.le_refl _)]
  · rintro e ⟨hil, v3, v4, rfl⟩
    refine go_retO (ds := (G.steps.take (rows.take 24).length).map stepD) rfl ?_
    have hl : G.steps.length ≤ (rows.take 24).length := by
      rw [List.length_take, ← hrows, List.length_map, List.length_append, List.length_map]
      omega
    rw [List.take_of_length_le hl]
theorem read_up_ok {nm : List Str} (nd : nm.Nodup) {is : List Int} {us : List Str} (hu : us = is.map fun i => nm.getD i.toNat "") (hi : ∀ i ∈ is, 0 ≤ i ∧ i < nm.length) (hs : is.Pairwise (· < ·)) (hl : is.length ≤ 64) : F_read_up [.lst (us.map .str), .lst (nm.map .str)] = .ok (.lst (is.map .int)) := by
  refine ok_of (run_of (n := 2) (p := 2) (ds := [.lst (us.map .str), .lst (nm.map .str)]) (g := g_read_up) (R := fun d => d = .lst (is.map .int)) rfl ?_)
  show Go (g_read_up [.fz (.lst (us.map .str)), .fz (.lst (nm.map .str))]) _ _
  unfold g_read_up
  let D : Int → Dat := fun i => Dat.str (nm.getD i.toNat "")
  have e : us.map Dat.str = is.map D := by rw [hu, List.map_map]; rfl
  have hin : ∀ i ∈ is, nm.getD i.toNat "" ∈ nm ∧ nm.idxOf (nm.getD i.toNat "") = i.toNat ∧ 0 ≤ i := fun i hm => by
    have h := hi i hm
    have h2 : i.toNat < nm.length := by omega
    rw [getD_at h2]
    exact ⟨List.getElem_mem h2, idx_nd nd h2, h.1⟩
  have t0 : compL (gset 0) tTrue (dO inF (dV 0) (dV 1)) [.un, .fz (.lst (nm.map .str))] (us.map .str) = some ((is.map fun _ => true).map .bl) := by
    rw [e, compL_all D (fun _ => .bl true) is fun i hm => ⟨[.fz (D i), .fz (.lst (nm.map .str))], rfl, rfl, dO_ok (x := D i) rfl rfl ((inF_lst _ _).trans (by rw [decide_eq_true (hin i hm).1]))⟩, List.map_map]
    rfl
  have t2 : dF allD (aCons (dL (dComp (srcL (dV 0)) [none, some 1] (gset 0) tTrue (dO inF (dV 0) (dV 1)))) aNil) [.fz (.lst (us.map .str)), .fz (.lst (nm.map .str))] = some (.bl true) := by
    refine dF_ok (aCons_ok (dL_ok (ds := (is.map fun _ => true).map .bl) (dComp_ok (xs := us.map .str) (env' := [.un, .fz (.lst (nm.map .str))]) rfl rfl t0)) rfl) ?_
    rw [bls_map]
    congr 2
    rw [List.all_map]
    exact List.all_eq_true.mpr fun _ _ => rfl
  have t1 : compL (gset 0) tTrue (dM "list" indexT (dV 1) (aCons (dV 0) aNil)) [.un, .fz (.lst (nm.map .str))] (us.map .str) = some (is.map .int) := by
    rw [e]
    exact compL_all D (fun i => .int i) is fun i hm => ⟨[.fz (D i), .fz (.lst (nm.map .str))], rfl, rfl, dMl_ok (xs := nm.map .str) (ds := [D i]) rfl rfl ((index_ok (hin i hm).1 (hin i hm).2.1).trans (by rw [Int.toNat_of_nonneg (hin i hm).2.2]))⟩
  refine go_cons (go_ifF (tNot_ok (b := true) (dT_ok t2)) (go_nil ?_))
  exact go_ret (dCal_ok (xs := [.lst (is.map .int)]) (aCons_ok (dL_ok (dComp_ok (xs := us.map .str) (env' := [.un, .fz (.lst (nm.map .str))]) rfl rfl t1)) rfl) (rising_ok _ hs hl)) rfl
theorem b_eq : F_bits = K14.F_bits := rfl
theorem bits_at {n : Int} (h0 : 0 ≤ n) (h1 : n < 2 ^ 64) : F_bits [.lst ((onesI n 64).map .int)] = .ok (.int n) := by
  rw [b_eq]
  have := K11.bits_lst (K11.onesN n.toNat 64) fun p hp => by
    have := List.mem_range.mp (List.mem_filter.mp hp).1
    omega
  rw [K11.bits_ones (by omega), Int.toNat_of_nonneg h0] at this
  exact this
theorem read_start_ok {nm : List Str} (hn : ∀ z ∈ nm, NameOk z) (hl : nm.length ≤ 10) (nd : nm.Nodup) {m c : Int} (m0 : 0 ≤ m) (m1 : m < 2 ^ 64) (c0 : 0 ≤ c) (c1 : c < 2 ^ nm.length) : F_read_start [.str (Txt.join " " (startW nm m c)), .lst (nm.map .str)] = .ok (.tup [.int m, .int c]) := by
  refine ok_of (run_of (n := 6) (p := 2) (ds := [.str (Txt.join " " (startW nm m c)), .lst (nm.map .str)]) (g := g_read_start) (R := fun d => d = .tup [.int m, .int c]) rfl ?_)
  show Go (g_read_start [.fz (.str (Txt.join " " (startW nm m c))), .fz (.lst (nm.map .str)), .un, .un, .un, .un]) _ _
  unfold g_read_start
  have hnm : NmOk nm := ⟨hl, fun z hz => name_wd (hn z hz)⟩
  have hcn := startW_cn hn hl m0 m1 c0 c1
  have hwd := startW_wds (c := c) hnm m0 m1
  have hlen := start_len nm m c
  have cle : c < 2 ^ 64 := by
    have h3 : (2 : Int) ^ nm.length ≤ 2 ^ 64 := by
      have := Nat.pow_le_pow_right (n := 2) (by omega) (show nm.length ≤ 64 by omega)
      exact_mod_cast this
    omega
  have hsp := split_b (ys := startW nm m c) (fun e => by rw [e] at hlen; simp at hlen) hcn hwd.1 (by have := hwd.2; omega)
  have g0 : (startW nm m c)[0]? = some ("start" : Str) := by rw [startW_eq]; rfl
  have ew := startW_eq nm m c
  have hsp2 := onesI_sp m0 m1
  generalize hws : startW nm m c = ws at *
  generalize hS : onesI m 64 = S at *
  generalize hU : (onesI c 64).map (fun i => nm.getD i.toNat "") = U at *
  refine go_cons (go_set (d := .lst (ws.map .str)) (dL_ok (dMn_ok rfl rfl hsp)) ?_)
  have ix0 : ixD (.lst (ws.map .str)) (.int 0) = some (.str "start") := ixL_nat (j := 0) (by rw [List.getElem?_map, g0]; rfl)
  have hmem : (":" : Str) ∈ ws := by rw [ew]; simp
  have hnot : (":" : Str) ∉ (["start"] : List Str) ++ S.map strI := fun q => by
    rcases List.mem_append.mp q with q | q
    · exact absurd (List.mem_singleton.mp q) (by decide +kernel)
    · obtain ⟨i, hi, e⟩ := List.mem_map.mp q
      exact (strI_at (hsp2.1 i hi).1 (hsp2.1 i hi).2).2.2.2.2 e
  have hidx : ws.idxOf (":" : Str) = 1 + S.length := by rw [ew, idx_mid hnot]; simp; omega
  refine go_cons (go_ifF (tOr_ok (a := false) (b := false) (dB_ok (dO_ok (dO_ok rfl rfl ix0) rfl (z := Dat.bl false) rfl)) fun _ => dB_ok (dO_ok rfl rfl (by rw [nin_lst, decide_eq_true hmem]; rfl))) (go_nil ?_))
  refine go_cons (go_set (d := .int ((1 + S.length : Nat) : Int)) (dMl_ok rfl rfl (index_ok hmem hidx)) ?_)
  have hwl : ws.length = S.length + U.length + 2 := by rw [ew]; simp; omega
  have sl1 : slD (.lst (ws.map .str)) (some 1) (some ((1 + S.length : Nat) : Int)) = some (.lst ((S.map strI).map .str)) := by
    have := slL_mid (ws.map Dat.str) (a := 1) (b := 1 + S.length) (by omega) (by rw [List.length_map]; omega)
    rw [show (1 + S.length) - 1 = (S.map strI).length by rw [List.length_map]; omega] at this
    refine Eq.trans this ?_
    rw [← List.map_drop, ← List.map_take]
    congr 3
    rw [ew]
    show List.take _ (S.map strI ++ (":" : Str) :: U) = _
    exact List.take_left
  have sl2 : slD (.lst (ws.map .str)) (some (((1 + S.length : Nat) : Int) + 1)) none = some (.lst (U.map .str)) := by
    have := slL_from (ws.map Dat.str) (1 + S.length + 1)
    rw [show (((1 + S.length : Nat) : Int) + 1) = ((1 + S.length + 1 : Nat) : Int) by omega]
    refine Eq.trans this ?_
    rw [← List.map_drop]
    congr 3
    rw [ew]
    have e5 : ((["start"] : List Str) ++ S.map strI) ++ (":" : Str) :: U = (((["start"] : List Str) ++ S.map strI) ++ ([":"] : List Str)) ++ U := by simp
    rw [e5]
    have e6 : 1 + S.length + 1 = (((["start"] : List Str) ++ S.map strI) ++ ([":"] : List Str)).length := by simp; omega
    rw [e6]
    exact List.drop_left
  refine go_cons (go_set (d := .lst (S.map .int)) (dCal_ok (xs := [.lst ((S.map strI).map .str)]) (aCons_ok (dS_ok rfl (oSome_ok rfl) (oSome_ok rfl) sl1) rfl) (read_spots_ok hsp2)) ?_)
  refine go_cons (go_set (d := .lst ((onesI c 64).map .int)) (dCal_ok (xs := [.lst (U.map .str), .lst (nm.map .str)]) (aCons_ok (dS_ok rfl (oSome_ok (i := ((1 + S.length : Nat) : Int) + 1) rfl) rfl sl2) rfl) (read_up_ok nd hU.symm (fun i hi => onesI_at c0 c1 hl hi) (onesI_asc c 64) (onesI_len c 64))) ?_)
  refine go_cons (go_ifF (tOr_ok (a := false) (b := false) (dB_ok (dO_ok rfl rfl rfl)) fun _ => dB_ok (dO_ok rfl rfl rfl)) (go_nil ?_))
  refine go_ret (aTup_ok (aCons_ok (dCal_ok (xs := [.lst (S.map .int)]) rfl (by rw [← hS]; exact bits_at m0 m1)) (aCons_ok (dCal_ok (xs := [.lst ((onesI c 64).map .int)]) rfl (bits_at c0 cle)) rfl)) (by simp)) rfl
theorem row_free {ys : List Str} (h : ∀ y ∈ ys, Cn y) : 10 ∉ (Txt.join " " ys).cps.toList := fun hc => by
  cases ys with
  | nil =>
    have e : (Txt.join (" " : Str) []).cps.toList = [] := by decide +kernel
    rw [e] at hc
    cases hc
  | cons p r =>
    have hc2 : 10 ∈ r.foldl (fun acc q => acc ++ (" " : Str).cps ++ q.cps) p.cps := Array.mem_def.mpr hc
    rcases K13.fold_mem " " 10 r p.cps hc2 with q | q | ⟨y, hy, q⟩
    · exact (h p List.mem_cons_self 10 (Array.mem_def.mp q)).1 rfl
    · have e : (" " : Str).cps = #[32] := by decide +kernel
      rw [e] at q
      simp at q
    · exact (h y (List.mem_cons_of_mem _ hy) 10 (Array.mem_def.mp q)).1 rfl
theorem gr_names {G : Gr} (hG : G.Ok) : ∀ z ∈ G.names, NameOk z := fun z hz => by
  unfold K12.Gr.names at hz
  obtain ⟨w, hw, rfl⟩ := List.mem_map.mp hz
  exact hG.nm w hw
theorem read_ok {G : Gr} (hG : G.Ok) : F_read [.str (Txt.join "\n" (rowsW G))] = .ok G.d := by
  refine ok_of (run_of (n := 7) (p := 1) (ds := [.str (Txt.join "\n" (rowsW G))]) (g := g_read) (R := fun d => d = G.d) rfl ?_)
  show Go (g_read [.fz (.str (Txt.join "\n" (rowsW G))), .un, .un, .un, .un, .un, .un]) _ _
  unfold g_read
  have hN := gr_names hG
  have hNl : G.names.length ≤ 10 := by rw [nmLen]; exact hG.w2
  have hNd : G.names.Nodup := hG.nd
  have hnm := nmOk hG
  have w1 := hG.w1
  have s1 := hG.s1
  have s2 := hG.s2
  have w2 := hG.w2
  have cS := startW_cn (nm := G.names) hN hNl hG.m0 hG.m1 hG.c0 (by rw [nmLen]; exact hG.c1)
  have cT : ∀ t ∈ G.steps, ∀ y ∈ stepW G.names t, Cn y := fun t ht => by
    have hk := hG.sw t ht
    exact stepW_cn hN t hk.1 (by rw [nmLen]; exact hk.2.1) hk.2.2.1 hk.2.2.2
  have hrw := K13.rows_wds hG
  have hrl : (rowsW G).length = G.wires.length + G.steps.length + 1 := by unfold rowsW; simp; omega
  have hfree : ∀ y ∈ rowsW G, 10 ∉ y.cps.toList := fun y hy => by
    unfold rowsW at hy
    rcases List.mem_append.mp hy with hy | hy
    · rcases List.mem_append.mp hy with hy | hy
      · obtain ⟨w, hw, rfl⟩ := List.mem_map.mp hy
        rw [wireW_eq]
        exact row_free fun y hy => by
          rcases List.mem_cons.mp hy with e | e
          · rw [e]; exact cn_kind _
          · rw [List.mem_singleton.mp e]; exact cn_name (hG.nm w hw)
      · obtain ⟨t, ht, rfl⟩ := List.mem_map.mp hy
        exact row_free (cT t ht)
    · rw [List.mem_singleton.mp hy]
      exact row_free cS
  have hsp : splitN (.str (Txt.join "\n" (rowsW G))) [.str "\n"] = some ((rowsW G).map .str) := by
    rw [nlE]
    exact split_ok 10 (by decide +kernel) (fun e => by rw [e] at hrl; simp at hrl) hfree hrw.1 (by have := hrw.2; omega)
  have erow : rowsW G = G.wires.map wireW ++ (G.steps.map (fun s => Txt.join " " (stepW G.names s)) ++ [Txt.join " " (startW G.names G.marks G.code)]) := by unfold rowsW; rw [List.append_assoc]
  refine go_cons (go_set (d := .lst ((rowsW G).map .str)) (dL_ok (dMn_ok rfl rfl hsp)) ?_)
  have hrw1 : F_read_wires [.lst ((rowsW G).map .str)] = .ok (.lst (G.wires.map wireD)) := by
    rw [erow]
    refine read_wires_ok hG (.inr ?_)
    obtain ⟨t, ts, ht⟩ : ∃ t ts, G.steps = t :: ts := by
      cases hq : G.steps with
      | nil => rw [hq] at s1; simp at s1
      | cons t ts => exact ⟨t, ts, rfl⟩
    have hk := hG.sw t (by rw [ht]; exact List.mem_cons_self)
    have hwd := stepW_wds hnm t hk.2.2.1 hk.2.2.2
    have hlt : (stepW G.names t).length ≠ 2 := by unfold stepW; simp
    refine ⟨Txt.join " " (stepW G.names t), ts.map (fun s => Txt.join " " (stepW G.names s)) ++ [Txt.join " " (startW G.names G.marks G.code)], by rw [ht]; rfl, fun ks => ?_⟩
    exact read_wire_no (fun e => by unfold stepW at e; simp at e) (cT t (by rw [ht]; exact List.mem_cons_self)) hwd.1 (by have := hwd.2; omega) hlt ks
  refine go_cons (go_set (d := .lst (G.wires.map wireD)) (dCal_ok (xs := [.lst ((rowsW G).map .str)]) rfl hrw1) ?_)
  refine go_cons (go_set (d := .lst (G.names.map .str)) (dL_ok (dComp_ok (xs := G.wires.map wireD) (env' := [.un, .un]) rfl rfl ?_)) ?_)
  · rw [compL_all wireD (fun w => .str w.1) G.wires fun w _ => ⟨[.fz (.str w.1), .fz (.str (if w.2 = true then "made" else "given"))], rfl, rfl, rfl⟩]
    unfold K12.Gr.names
    rw [List.map_map]
    rfl
  have lw : lenD [.lst (G.wires.map wireD)] = some (.int (G.wires.length : Int)) := by show some (Dat.int ((G.wires.map wireD).length : Int)) = _; rw [List.length_map]
  have ls : lenD [.lst (G.steps.map stepD)] = some (.int (G.steps.length : Int)) := by show some (Dat.int ((G.steps.map stepD).length : Int)) = _; rw [List.length_map]
  have sl : slD (.lst ((rowsW G).map .str)) (some (G.wires.length : Int)) none = some (.lst ((G.steps.map (fun s => Txt.join " " (stepW G.names s)) ++ [Txt.join " " (startW G.names G.marks G.code)]).map .str)) := by
    rw [slL_from, ← List.map_drop, erow]
    congr 3
    have : G.wires.length = (G.wires.map wireW).length := by rw [List.length_map]
    rw [this]
    exact List.drop_left
  refine go_cons (go_set (d := .lst (G.steps.map stepD)) (dCal_ok (xs := [.lst ((G.steps.map (fun s => Txt.join " " (stepW G.names s)) ++ [Txt.join " " (startW G.names G.marks G.code)]).map .str), .lst (G.names.map .str)]) (aCons_ok (dS_ok rfl (oSome_ok (dF_ok (aCons_ok rfl rfl) lw)) rfl sl) rfl) (read_steps_ok hG)) ?_)
  refine go_cons (go_set (d := .int ((G.wires.length : Int) + (G.steps.length : Int))) (dO_ok (dF_ok (aCons_ok rfl rfl) lw) (dF_ok (aCons_ok rfl rfl) ls) rfl) ?_)
  dsimp only [List.set]
  refine go_cons (go_ifF (tOr_ok (a := false) (b := false) (dB_ok (dO_ok (dF_ok (aCons_ok rfl rfl) ls) rfl ?_)) fun _ => dB_ok (dO_ok rfl (dF_ok (aCons_ok rfl rfl) (lenL (rowsW G))) ?_)) (go_nil ?_))
  · rw [eqI2]
    congr 2
    simp
    intro q
    rw [q] at s1
    simp at s1
  · rw [eqI2]
    congr 2
    simp
    omega
  have ixs : ixD (.lst ((rowsW G).map .str)) (.int ((G.wires.length : Int) + (G.steps.length : Int))) = some (.str (Txt.join " " (startW G.names G.marks G.code))) := by
    rw [show (G.wires.length : Int) + (G.steps.length : Int) = ((G.wires.length + G.steps.length : Nat) : Int) by omega]
    refine ixL_nat ?_
    rw [List.getElem?_map]
    have : (rowsW G)[G.wires.length + G.steps.length]? = some (Txt.join " " (startW G.names G.marks G.code)) := by
      unfold rowsW
      rw [List.getElem?_append_right (by simp)]
      simp
    rw [this]
    rfl
  refine go_cons (go_set (d := .tup [.int G.marks, .int G.code]) (dCal_ok (xs := [.str (Txt.join " " (startW G.names G.marks G.code)), .lst (G.names.map .str)]) (aCons_ok (dO_ok rfl rfl ixs) rfl) (read_start_ok hN hNl hNd hG.m0 hG.m1 hG.c0 (by rw [nmLen]; exact hG.c1))) ?_)
  refine go_cons (go_ifF (dB_ok (dO_ok rfl rfl (isF_tup _))) (go_nil ?_))
  refine go_cons (go_ifF (dB_ok (dO_ok (dF_ok (aCons_ok rfl rfl) (lenL (rowsW G))) (dO_ok rfl rfl rfl) (z := Dat.bl false) ?_)) (go_nil ?_))
  · show some (Dat.bl (decide ((G.wires.length : Int) + (G.steps.length : Int) + 1 < ((rowsW G).length : Int)))) = _
    rw [decide_eq_false (by omega)]
  exact go_ret (d := G.d) (aTup_ok (aCons_ok (dF_ok (aCons_ok rfl rfl) rfl) (aCons_ok (dF_ok (aCons_ok rfl rfl) rfl) (aCons_ok (dO_ok rfl rfl rfl) (aCons_ok (dO_ok rfl rfl rfl) rfl)))) (by simp)) rfl
theorem ali_int (fl : Nat) (i : Int) : F__law_alike (fl + 1) [.int i, .int i] = .ok (.bl true) := by
  refine ok_of (run_of (n := 3) (p := 2) (ds := [.int i, .int i]) (R := fun d => d = .bl true) rfl ?_)
  show Go (bCons _ _ [.fz (.int i), .fz (.int i), .un]) _ _
  refine go_cons (go_ifF (dT_ok (dI_ok rfl rfl k_ib)) (go_nil ?_))
  refine go_cons (go_ifT (dT_ok (dI_ok rfl rfl k_ii)) (go_ret (dAndT (dI_ok rfl rfl k_ii) (dAndT (dNot_ok (dI_ok rfl rfl k_ib)) (dO_ok rfl rfl (eqF_int i)))) rfl))
theorem ali_str (fl : Nat) (i : Str) : F__law_alike (fl + 1) [.str i, .str i] = .ok (.bl true) := by
  refine ok_of (run_of (n := 3) (p := 2) (ds := [.str i, .str i]) (R := fun d => d = .bl true) rfl ?_)
  show Go (bCons _ _ [.fz (.str i), .fz (.str i), .un]) _ _
  refine go_cons (go_ifF (dT_ok (dI_ok rfl rfl k_sb)) (go_nil ?_))
  refine go_cons (go_ifF (dT_ok (dI_ok rfl rfl k_si)) (go_nil ?_))
  refine go_cons (go_ifT (dT_ok (dI_ok rfl rfl k_ss)) (go_ret (dAndT (dI_ok rfl rfl k_ss) (dO_ok rfl rfl (eqF_str i))) rfl))
theorem ali_bl (fl : Nat) (i : Bool) : F__law_alike (fl + 1) [.bl i, .bl i] = .ok (.bl true) := by
  refine ok_of (run_of (n := 3) (p := 2) (ds := [.bl i, .bl i]) (R := fun d => d = .bl true) rfl ?_)
  show Go (bCons _ _ [.fz (.bl i), .fz (.bl i), .un]) _ _
  refine go_cons (go_ifT (dT_ok (dI_ok rfl rfl k_bb)) (go_ret (dAndT (dI_ok rfl rfl k_bb) (dO_ok rfl rfl (eqF_bl i))) rfl))
theorem ali_tup (fl : Nat) (xs : List Dat) (hl : xs.length ≤ 1000) (h : ∀ x ∈ xs, F__law_alike fl [x, x] = .ok (.bl true)) : F__law_alike (fl + 1) [.tup xs, .tup xs] = .ok (.bl true) := by
  refine ok_of (run_of (n := 3) (p := 2) (ds := [.tup xs, .tup xs]) (R := fun d => d = .bl true) rfl ?_)
  show Go (bCons _ _ [.fz (.tup xs), .fz (.tup xs), .un]) _ _
  refine go_cons (go_ifF (dT_ok (dI_ok rfl rfl k_tb)) (go_nil ?_))
  refine go_cons (go_ifF (dT_ok (dI_ok rfl rfl k_ti)) (go_nil ?_))
  refine go_cons (go_ifF (dT_ok (dI_ok rfl rfl k_ts)) (go_nil ?_))
  refine go_cons (go_ifT (dT_ok (dI_ok rfl rfl k_tt)) (go_ifF (tNot_ok (dT_ok (dI_ok rfl rfl k_tt))) (go_nil ?_)))
  refine go_cons (go_ifF (dB_ok (dO_ok rfl rfl (neF_len _))) (go_nil ?_))
  refine go_cons (go_for (ds := rng 0 xs.length) (fun i e => ∃ v, e = [.fz (.tup xs), .fz (.tup xs), v]) (srcR1_eq (aCons_ok rfl rfl) (by omega)) ⟨.un, rfl⟩ ?_ ?_)
  · rintro i d e hi ⟨v, rfl⟩
    obtain ⟨hi1, rfl⟩ := rng_get hi
    rw [Int.zero_add]
    refine ⟨_, rfl, ?_⟩
    dsimp only [List.set]
    have hx : ixD (.tup xs) (.int i) = some xs[i] := ixT_nat (List.getElem?_eq_getElem hi1)
    refine go_ifF (tNot_ok (b := true) (dT_ok (dCal_ok (xs := [xs[i], xs[i]]) (aCons_ok (dO_ok rfl rfl hx) (aCons_ok (dO_ok rfl rfl hx) rfl)) (h _ (List.getElem_mem hi1))))) (go_nil ⟨_, rfl⟩)
  · rintro e ⟨v, rfl⟩
    exact go_ret rfl rfl
theorem ali_gr {G : Gr} (hG : G.Ok) : F__law_alike 5 [G.d, G.d] = .ok (.bl true) := by
  have w2 := hG.w2
  have s2 := hG.s2
  have tI : ∀ (fl : Nat) (is : List Int), is.length ≤ 30 → F__law_alike (fl + 2) [.tup (is.map .int), .tup (is.map .int)] = .ok (.bl true) := fun fl is h => ali_tup (fl + 1) _ (by rw [List.length_map]; omega) fun x hx => by
    obtain ⟨i, _, rfl⟩ := List.mem_map.mp hx
    exact ali_int fl i
  refine ali_tup 4 _ (by simp) fun x hx => ?_
  rcases List.mem_cons.mp hx with rfl | hx
  · refine ali_tup 3 _ (by rw [List.length_map]; omega) fun x hx => ?_
    obtain ⟨w, _, rfl⟩ := List.mem_map.mp hx
    refine ali_tup 2 _ (by simp) fun x hx => ?_
    rcases List.mem_cons.mp hx with rfl | hx
    · exact ali_str 1 _
    · rw [List.mem_singleton.mp hx]; exact ali_str 1 _
  rcases List.mem_cons.mp hx with rfl | hx
  · refine ali_tup 3 _ (by rw [List.length_map]; omega) fun x hx => ?_
    obtain ⟨t, ht, rfl⟩ := List.mem_map.mp hx
    have hk := hG.sw t ht
    refine ali_tup 2 _ (by simp) fun x hx => ?_
    rcases List.mem_cons.mp hx with rfl | hx
    · exact ali_int 1 _
    rcases List.mem_cons.mp hx with rfl | hx
    · exact ali_bl 1 _
    rcases List.mem_cons.mp hx with rfl | hx
    · exact tI 0 _ hk.2.2.1.2.1
    · rw [List.mem_singleton.mp hx]; exact tI 0 _ hk.2.2.2.2.1
  rcases List.mem_cons.mp hx with rfl | hx
  · exact ali_int 3 _
  · rw [List.mem_singleton.mp hx]; exact ali_int 3 _
theorem g_eq : F__law_graph = K14.F__law_graph := rfl
theorem r_eq : F__law_rows = K14.F__law_rows := rfl
theorem s_eq : F_shown = K14.F_shown := rfl
theorem law_ok (ns : List Int) (hl : ns.length ≤ 63) : F_law [.lst (ns.map .int)] = .ok (.bl true) := by
  refine ok_of (run_of (n := 5) (p := 1) (ds := [.lst (ns.map .int)]) (g := g_law) (R := fun d => d = .bl true) rfl ?_)
  show Go (g_law [.fz (.lst (ns.map .int)), .un, .un, .un, .un]) _ _
  unfold g_law
  obtain ⟨G, eG, hG⟩ := K12.graph_ok ns 0 hl (by omega) (by omega)
  obtain ⟨L, eL, hL⟩ := K12.graph_ok ns 80 hl (by omega) (by omega)
  rw [← g_eq] at eG eL
  have r1 := K13.rows_wds hG
  have rG : F__law_rows [G.d] = .ok (.lst ((rowsW G).map .str)) := by rw [r_eq]; exact K13.rows_ok hG
  have sG : F_shown [G.d] = .ok (.str (Txt.join "\n" (rowsW G))) := by rw [s_eq]; exact K13.shown_ok hG
  have sL : F_shown [L.d] = .ok (.str (Txt.join "\n" (rowsW L))) := by rw [s_eq]; exact K13.shown_ok hL
  refine go_cons (go_set (dCal_ok (xs := [.lst (ns.map .int), .int 0]) rfl eG) ?_)
  refine go_cons (go_set (dCal_ok (xs := [.lst (ns.map .int), .int 80]) rfl eL) ?_)
  refine go_cons (go_set (d := .str (Txt.join "\n" (rowsW G))) (K13.dM_ok (x := .str "\n") (ds := [.lst ((rowsW G).map .str)]) rfl rfl (aCons_ok (dCal_ok (xs := [G.d]) rfl rG) rfl) (K13.join_ok K13.nl1 K13.nlOk r1.1 (by have := r1.2; omega))) ?_)
  dsimp only [List.set]
  refine go_cons (go_set (d := G.d) (dCal_ok (xs := [.str (Txt.join "\n" (rowsW G))]) rfl (read_ok hG)) ?_)
  dsimp only [List.set]
  refine go_cons (go_ifF (tOr_ok (a := false) (b := false) (tNot_ok (b := true) (dT_ok (dCal_ok (xs := [G.d, G.d]) rfl (ali_gr hG)))) fun _ => tNot_ok (b := true) (dT_ok (dCal_ok (xs := [L.d, L.d]) (aCons_ok (dCal_ok (xs := [.str (Txt.join "\n" (rowsW L))]) (aCons_ok (dCal_ok (xs := [L.d]) rfl sL) rfl) (read_ok hL)) rfl) (ali_gr hL)))) (go_nil ?_))
  exact go_ret (dAndT (dCal_ok (xs := [G.d, G.d]) (aCons_ok (dCal_ok (xs := [.str (Txt.join "\n" (rowsW G))]) rfl (read_ok hG)) rfl) (ali_gr hG)) (dCal_ok (xs := [.str (Txt.join "\n" (rowsW G)), .str (Txt.join "\n" (rowsW G))]) (aCons_ok (dCal_ok (xs := [G.d]) rfl sG) rfl) (ali_str 4 _))) rfl
end K14
set_option maxHeartbeats 4000000
namespace K14
open PySem PySem.Spec PyProof.Rows L2
theorem rps_strs' {K : PySem.W.Frag} {H : Hp} : ∀ {ws : List Str}, (∀ w ∈ ws, SOk w) → Rps K H (ws.map Dat.str) (ws.map V.str)
  | [], _ => rps_nil
  | w :: ws, h => rps_cons (rp_str (h w List.mem_cons_self)) (rps_strs' fun z hz => h z (List.mem_cons_of_mem _ hz))
theorem glo_strs {K : PySem.W.Frag} {h : Heap} {mg : Str → Option Value} {x : Str} {a : Addr} {od : Option Addr} {its : Array Value} {n : Nat} {sl : Array (Option Value)} (X : K.In h) (G : h.Ns mainGlobals mg) (e : PySem.W.nsIn K mainGlobals x = some (some (.ref a))) (l : K.lookup a = some ⟨.type "tuple", od, .seq its n, sl⟩) (ws : List Str) (hv : Vals (ws.map V.str) its.toList) (ok : ∀ w ∈ ws, SOk w) (hl : ws.length ≤ sizeLine) : Glo K mg x (.tup (ws.map .str)) :=
  ⟨.ref a, .ref a, PySem.W.mg_of X G e, rfl, fun H => rp_tup (by rw [List.length_map]; exact hl) (.inr ⟨_, its, n, l, rfl, rfl, by have h1 := hv.length; have h2 : its.toList.length = its.size := Array.length_toList; rw [List.length_map] at h1; omega, hv⟩) (rps_strs' ok)⟩
theorem all_mk {l : PySem.W.OpenLaw} {w : World} {K : PySem.W.Frag} {h : Heap} {mg : Str → Option Value} {fa : Addr} (X : K.In h) (G : h.Ns mainGlobals mg) (hfa : mg "law" = some (.ref fa))
    {f0 : Addr} {od0 an0 : Option Addr} {sl0 : Array (Option Value)} {oc0 kV0 dc0 pm0 cd0 ct0 : Value}
    {f1 : Addr} {od1 an1 : Option Addr} {sl1 : Array (Option Value)} {oc1 kV1 dc1 pm1 cd1 ct1 : Value}
    {f2 : Addr} {od2 an2 : Option Addr} {sl2 : Array (Option Value)} {oc2 kV2 dc2 pm2 cd2 ct2 : Value}
    {f3 : Addr} {od3 an3 : Option Addr} {sl3 : Array (Option Value)} {oc3 kV3 dc3 pm3 cd3 ct3 : Value}
    {f4 : Addr} {od4 an4 : Option Addr} {sl4 : Array (Option Value)} {oc4 kV4 dc4 pm4 cd4 ct4 : Value}
    {f5 : Addr} {od5 an5 : Option Addr} {sl5 : Array (Option Value)} {oc5 kV5 dc5 pm5 cd5 ct5 : Value}
    {f6 : Addr} {od6 an6 : Option Addr} {sl6 : Array (Option Value)} {oc6 kV6 dc6 pm6 cd6 ct6 : Value}
    {f7 : Addr} {od7 an7 : Option Addr} {sl7 : Array (Option Value)} {oc7 kV7 dc7 pm7 cd7 ct7 : Value}
    {f8 : Addr} {od8 an8 : Option Addr} {sl8 : Array (Option Value)} {oc8 kV8 dc8 pm8 cd8 ct8 : Value}
    {f9 : Addr} {od9 an9 : Option Addr} {sl9 : Array (Option Value)} {oc9 kV9 dc9 pm9 cd9 ct9 : Value}
    {f10 : Addr} {od10 an10 : Option Addr} {sl10 : Array (Option Value)} {oc10 kV10 dc10 pm10 cd10 ct10 : Value}
    {f11 : Addr} {od11 an11 : Option Addr} {sl11 : Array (Option Value)} {oc11 kV11 dc11 pm11 cd11 ct11 : Value}
    {f12 : Addr} {od12 an12 : Option Addr} {sl12 : Array (Option Value)} {oc12 kV12 dc12 pm12 cd12 ct12 : Value}
    {f13 : Addr} {od13 an13 : Option Addr} {sl13 : Array (Option Value)} {oc13 kV13 dc13 pm13 cd13 ct13 : Value}
    {f14 : Addr} {od14 an14 : Option Addr} {sl14 : Array (Option Value)} {oc14 kV14 dc14 pm14 cd14 ct14 : Value}
    {f15 : Addr} {od15 an15 : Option Addr} {sl15 : Array (Option Value)} {oc15 kV15 dc15 pm15 cd15 ct15 : Value}
    {f16 : Addr} {od16 an16 : Option Addr} {sl16 : Array (Option Value)} {oc16 kV16 dc16 pm16 cd16 ct16 : Value}
    {f17 : Addr} {od17 an17 : Option Addr} {sl17 : Array (Option Value)} {oc17 kV17 dc17 pm17 cd17 ct17 : Value}
    {f18 : Addr} {od18 an18 : Option Addr} {sl18 : Array (Option Value)} {oc18 kV18 dc18 pm18 cd18 ct18 : Value}
    {f19 : Addr} {od19 an19 : Option Addr} {sl19 : Array (Option Value)} {oc19 kV19 dc19 pm19 cd19 ct19 : Value}
    {f20 : Addr} {od20 an20 : Option Addr} {sl20 : Array (Option Value)} {oc20 kV20 dc20 pm20 cd20 ct20 : Value}
    {f21 : Addr} {od21 an21 : Option Addr} {sl21 : Array (Option Value)} {oc21 kV21 dc21 pm21 cd21 ct21 : Value}
    {f22 : Addr} {od22 an22 : Option Addr} {sl22 : Array (Option Value)} {oc22 kV22 dc22 pm22 cd22 ct22 : Value}
    {f23 : Addr} {od23 an23 : Option Addr} {sl23 : Array (Option Value)} {oc23 kV23 dc23 pm23 cd23 ct23 : Value}
    {f24 : Addr} {od24 an24 : Option Addr} {sl24 : Array (Option Value)} {oc24 kV24 dc24 pm24 cd24 ct24 : Value}
    {f25 : Addr} {od25 an25 : Option Addr} {sl25 : Array (Option Value)} {oc25 kV25 dc25 pm25 cd25 ct25 : Value}
    {f26 : Addr} {od26 an26 : Option Addr} {sl26 : Array (Option Value)} {oc26 kV26 dc26 pm26 cd26 ct26 : Value}
    {f27 : Addr} {od27 an27 : Option Addr} {sl27 : Array (Option Value)} {oc27 kV27 dc27 pm27 cd27 ct27 : Value}
    {f28 : Addr} {od28 an28 : Option Addr} {sl28 : Array (Option Value)} {oc28 kV28 dc28 pm28 cd28 ct28 : Value}
    {q_DIRECTIONS : Addr} {d_DIRECTIONS : Option Addr} {i_DIRECTIONS : Array Value} {n_DIRECTIONS : Nat} {w_DIRECTIONS : Array (Option Value)} {t_DIRECTIONS0 t_DIRECTIONS1 : Tok}
    {t_FIGURES : Tok}
    {q_KINDS : Addr} {d_KINDS : Option Addr} {i_KINDS : Array Value} {n_KINDS : Nat} {w_KINDS : Array (Option Value)} {t_KINDS0 t_KINDS1 : Tok}
    {t_LAST_SPOT : Tok}
    {t_LETTERS : Tok}
    {t_LONGEST_NAME : Tok}
    {t_MOST_STEPS : Tok}
    {t_MOST_WIRES : Tok}
    {q_WORDS : Addr} {d_WORDS : Option Addr} {i_WORDS : Array Value} {n_WORDS : Nat} {w_WORDS : Array (Option Value)} {t_WORDS0 t_WORDS1 t_WORDS2 t_WORDS3 t_WORDS4 : Tok}
    (a0 : PySem.W.nsIn K mainGlobals "is_name" = some (some (.ref f0))) (l0 : K.lookup f0 = some ⟨oc0, od0, .func (PySem.W.fnOf "is_name" "is_name" (defArgs s_is_name) (defBody s_is_name) (defScope s_is_name) .none kV0 dc0 pm0 an0 cd0 ct0), sl0⟩) (c0 : PySem.W.codeIn K cd0 "is_name" = true) (k0 : PySem.W.keepIn K (.ref f0) = true)
    (a1 : PySem.W.nsIn K mainGlobals "names" = some (some (.ref f1))) (l1 : K.lookup f1 = some ⟨oc1, od1, .func (PySem.W.fnOf "names" "names" (defArgs s_names) (defBody s_names) (defScope s_names) .none kV1 dc1 pm1 an1 cd1 ct1), sl1⟩) (c1 : PySem.W.codeIn K cd1 "names" = true) (k1 : PySem.W.keepIn K (.ref f1) = true)
    (a2 : PySem.W.nsIn K mainGlobals "bits" = some (some (.ref f2))) (l2 : K.lookup f2 = some ⟨oc2, od2, .func (PySem.W.fnOf "bits" "bits" (defArgs s_bits) (defBody s_bits) (defScope s_bits) .none kV2 dc2 pm2 an2 cd2 ct2), sl2⟩) (c2 : PySem.W.codeIn K cd2 "bits" = true) (k2 : PySem.W.keepIn K (.ref f2) = true)
    (a3 : PySem.W.nsIn K mainGlobals "has_one" = some (some (.ref f3))) (l3 : K.lookup f3 = some ⟨oc3, od3, .func (PySem.W.fnOf "has_one" "has_one" (defArgs s_has_one) (defBody s_has_one) (defScope s_has_one) .none kV3 dc3 pm3 an3 cd3 ct3), sl3⟩) (c3 : PySem.W.codeIn K cd3 "has_one" = true) (k3 : PySem.W.keepIn K (.ref f3) = true)
    (a4 : PySem.W.nsIn K mainGlobals "ones" = some (some (.ref f4))) (l4 : K.lookup f4 = some ⟨oc4, od4, .func (PySem.W.fnOf "ones" "ones" (defArgs s_ones) (defBody s_ones) (defScope s_ones) .none kV4 dc4 pm4 an4 cd4 ct4), sl4⟩) (c4 : PySem.W.codeIn K cd4 "ones" = true) (k4 : PySem.W.keepIn K (.ref f4) = true)
    (a5 : PySem.W.nsIn K mainGlobals "written" = some (some (.ref f5))) (l5 : K.lookup f5 = some ⟨oc5, od5, .func (PySem.W.fnOf "written" "written" (defArgs s_written) (defBody s_written) (defScope s_written) .none kV5 dc5 pm5 an5 cd5 ct5), sl5⟩) (c5 : PySem.W.codeIn K cd5 "written" = true) (k5 : PySem.W.keepIn K (.ref f5) = true)
    (a6 : PySem.W.nsIn K mainGlobals "start_row" = some (some (.ref f6))) (l6 : K.lookup f6 = some ⟨oc6, od6, .func (PySem.W.fnOf "start_row" "start_row" (defArgs s_start_row) (defBody s_start_row) (defScope s_start_row) .none kV6 dc6 pm6 an6 cd6 ct6), sl6⟩) (c6 : PySem.W.codeIn K cd6 "start_row" = true) (k6 : PySem.W.keepIn K (.ref f6) = true)
    (a7 : PySem.W.nsIn K mainGlobals "step_row" = some (some (.ref f7))) (l7 : K.lookup f7 = some ⟨oc7, od7, .func (PySem.W.fnOf "step_row" "step_row" (defArgs s_step_row) (defBody s_step_row) (defScope s_step_row) .none kV7 dc7 pm7 an7 cd7 ct7), sl7⟩) (c7 : PySem.W.codeIn K cd7 "step_row" = true) (k7 : PySem.W.keepIn K (.ref f7) = true)
    (a8 : PySem.W.nsIn K mainGlobals "shown" = some (some (.ref f8))) (l8 : K.lookup f8 = some ⟨oc8, od8, .func (PySem.W.fnOf "shown" "shown" (defArgs s_shown) (defBody s_shown) (defScope s_shown) .none kV8 dc8 pm8 an8 cd8 ct8), sl8⟩) (c8 : PySem.W.codeIn K cd8 "shown" = true) (k8 : PySem.W.keepIn K (.ref f8) = true)
    (a9 : PySem.W.nsIn K mainGlobals "read_wire" = some (some (.ref f9))) (l9 : K.lookup f9 = some ⟨oc9, od9, .func (PySem.W.fnOf "read_wire" "read_wire" (defArgs s_read_wire) (defBody s_read_wire) (defScope s_read_wire) .none kV9 dc9 pm9 an9 cd9 ct9), sl9⟩) (c9 : PySem.W.codeIn K cd9 "read_wire" = true) (k9 : PySem.W.keepIn K (.ref f9) = true)
    (a10 : PySem.W.nsIn K mainGlobals "read_wires" = some (some (.ref f10))) (l10 : K.lookup f10 = some ⟨oc10, od10, .func (PySem.W.fnOf "read_wires" "read_wires" (defArgs s_read_wires) (defBody s_read_wires) (defScope s_read_wires) .none kV10 dc10 pm10 an10 cd10 ct10), sl10⟩) (c10 : PySem.W.codeIn K cd10 "read_wires" = true) (k10 : PySem.W.keepIn K (.ref f10) = true)
    (a11 : PySem.W.nsIn K mainGlobals "rising" = some (some (.ref f11))) (l11 : K.lookup f11 = some ⟨oc11, od11, .func (PySem.W.fnOf "rising" "rising" (defArgs s_rising) (defBody s_rising) (defScope s_rising) .none kV11 dc11 pm11 an11 cd11 ct11), sl11⟩) (c11 : PySem.W.codeIn K cd11 "rising" = true) (k11 : PySem.W.keepIn K (.ref f11) = true)
    (a12 : PySem.W.nsIn K mainGlobals "is_spot" = some (some (.ref f12))) (l12 : K.lookup f12 = some ⟨oc12, od12, .func (PySem.W.fnOf "is_spot" "is_spot" (defArgs s_is_spot) (defBody s_is_spot) (defScope s_is_spot) .none kV12 dc12 pm12 an12 cd12 ct12), sl12⟩) (c12 : PySem.W.codeIn K cd12 "is_spot" = true) (k12 : PySem.W.keepIn K (.ref f12) = true)
    (a13 : PySem.W.nsIn K mainGlobals "read_spots" = some (some (.ref f13))) (l13 : K.lookup f13 = some ⟨oc13, od13, .func (PySem.W.fnOf "read_spots" "read_spots" (defArgs s_read_spots) (defBody s_read_spots) (defScope s_read_spots) .none kV13 dc13 pm13 an13 cd13 ct13), sl13⟩) (c13 : PySem.W.codeIn K cd13 "read_spots" = true) (k13 : PySem.W.keepIn K (.ref f13) = true)
    (a14 : PySem.W.nsIn K mainGlobals "read_step" = some (some (.ref f14))) (l14 : K.lookup f14 = some ⟨oc14, od14, .func (PySem.W.fnOf "read_step" "read_step" (defArgs s_read_step) (defBody s_read_step) (defScope s_read_step) .none kV14 dc14 pm14 an14 cd14 ct14), sl14⟩) (c14 : PySem.W.codeIn K cd14 "read_step" = true) (k14 : PySem.W.keepIn K (.ref f14) = true)
    (a15 : PySem.W.nsIn K mainGlobals "read_steps" = some (some (.ref f15))) (l15 : K.lookup f15 = some ⟨oc15, od15, .func (PySem.W.fnOf "read_steps" "read_steps" (defArgs s_read_steps) (defBody s_read_steps) (defScope s_read_steps) .none kV15 dc15 pm15 an15 cd15 ct15), sl15⟩) (c15 : PySem.W.codeIn K cd15 "read_steps" = true) (k15 : PySem.W.keepIn K (.ref f15) = true)
    (a16 : PySem.W.nsIn K mainGlobals "read_up" = some (some (.ref f16))) (l16 : K.lookup f16 = some ⟨oc16, od16, .func (PySem.W.fnOf "read_up" "read_up" (defArgs s_read_up) (defBody s_read_up) (defScope s_read_up) .none kV16 dc16 pm16 an16 cd16 ct16), sl16⟩) (c16 : PySem.W.codeIn K cd16 "read_up" = true) (k16 : PySem.W.keepIn K (.ref f16) = true)
    (a17 : PySem.W.nsIn K mainGlobals "read_start" = some (some (.ref f17))) (l17 : K.lookup f17 = some ⟨oc17, od17, .func (PySem.W.fnOf "read_start" "read_start" (defArgs s_read_start) (defBody s_read_start) (defScope s_read_start) .none kV17 dc17 pm17 an17 cd17 ct17), sl17⟩) (c17 : PySem.W.codeIn K cd17 "read_start" = true) (k17 : PySem.W.keepIn K (.ref f17) = true)
    (a18 : PySem.W.nsIn K mainGlobals "read" = some (some (.ref f18))) (l18 : K.lookup f18 = some ⟨oc18, od18, .func (PySem.W.fnOf "read" "read" (defArgs s_read) (defBody s_read) (defScope s_read) .none kV18 dc18 pm18 an18 cd18 ct18), sl18⟩) (c18 : PySem.W.codeIn K cd18 "read" = true) (k18 : PySem.W.keepIn K (.ref f18) = true)
    (a19 : PySem.W.nsIn K mainGlobals "_law_alike" = some (some (.ref f19))) (l19 : K.lookup f19 = some ⟨oc19, od19, .func (PySem.W.fnOf "_law_alike" "_law_alike" (defArgs s__law_alike) (defBody s__law_alike) (defScope s__law_alike) .none kV19 dc19 pm19 an19 cd19 ct19), sl19⟩) (c19 : PySem.W.codeIn K cd19 "_law_alike" = true) (k19 : PySem.W.keepIn K (.ref f19) = true)
    (a20 : PySem.W.nsIn K mainGlobals "_law_mix" = some (some (.ref f20))) (l20 : K.lookup f20 = some ⟨oc20, od20, .func (PySem.W.fnOf "_law_mix" "_law_mix" (defArgs s__law_mix) (defBody s__law_mix) (defScope s__law_mix) .none kV20 dc20 pm20 an20 cd20 ct20), sl20⟩) (c20 : PySem.W.codeIn K cd20 "_law_mix" = true) (k20 : PySem.W.keepIn K (.ref f20) = true)
    (a21 : PySem.W.nsIn K mainGlobals "_law_name" = some (some (.ref f21))) (l21 : K.lookup f21 = some ⟨oc21, od21, .func (PySem.W.fnOf "_law_name" "_law_name" (defArgs s__law_name) (defBody s__law_name) (defScope s__law_name) .none kV21 dc21 pm21 an21 cd21 ct21), sl21⟩) (c21 : PySem.W.codeIn K cd21 "_law_name" = true) (k21 : PySem.W.keepIn K (.ref f21) = true)
    (a22 : PySem.W.nsIn K mainGlobals "_law_wire_names" = some (some (.ref f22))) (l22 : K.lookup f22 = some ⟨oc22, od22, .func (PySem.W.fnOf "_law_wire_names" "_law_wire_names" (defArgs s__law_wire_names) (defBody s__law_wire_names) (defScope s__law_wire_names) .none kV22 dc22 pm22 an22 cd22 ct22), sl22⟩) (c22 : PySem.W.codeIn K cd22 "_law_wire_names" = true) (k22 : PySem.W.keepIn K (.ref f22) = true)
    (a23 : PySem.W.nsIn K mainGlobals "_law_spots" = some (some (.ref f23))) (l23 : K.lookup f23 = some ⟨oc23, od23, .func (PySem.W.fnOf "_law_spots" "_law_spots" (defArgs s__law_spots) (defBody s__law_spots) (defScope s__law_spots) .none kV23 dc23 pm23 an23 cd23 ct23), sl23⟩) (c23 : PySem.W.codeIn K cd23 "_law_spots" = true) (k23 : PySem.W.keepIn K (.ref f23) = true)
    (a24 : PySem.W.nsIn K mainGlobals "_law_graph" = some (some (.ref f24))) (l24 : K.lookup f24 = some ⟨oc24, od24, .func (PySem.W.fnOf "_law_graph" "_law_graph" (defArgs s__law_graph) (defBody s__law_graph) (defScope s__law_graph) .none kV24 dc24 pm24 an24 cd24 ct24), sl24⟩) (c24 : PySem.W.codeIn K cd24 "_law_graph" = true) (k24 : PySem.W.keepIn K (.ref f24) = true)
    (a25 : PySem.W.nsIn K mainGlobals "_law_places" = some (some (.ref f25))) (l25 : K.lookup f25 = some ⟨oc25, od25, .func (PySem.W.fnOf "_law_places" "_law_places" (defArgs s__law_places) (defBody s__law_places) (defScope s__law_places) .none kV25 dc25 pm25 an25 cd25 ct25), sl25⟩) (c25 : PySem.W.codeIn K cd25 "_law_places" = true) (k25 : PySem.W.keepIn K (.ref f25) = true)
    (a26 : PySem.W.nsIn K mainGlobals "_law_step_words" = some (some (.ref f26))) (l26 : K.lookup f26 = some ⟨oc26, od26, .func (PySem.W.fnOf "_law_step_words" "_law_step_words" (defArgs s__law_step_words) (defBody s__law_step_words) (defScope s__law_step_words) .none kV26 dc26 pm26 an26 cd26 ct26), sl26⟩) (c26 : PySem.W.codeIn K cd26 "_law_step_words" = true) (k26 : PySem.W.keepIn K (.ref f26) = true)
    (a27 : PySem.W.nsIn K mainGlobals "_law_rows" = some (some (.ref f27))) (l27 : K.lookup f27 = some ⟨oc27, od27, .func (PySem.W.fnOf "_law_rows" "_law_rows" (defArgs s__law_rows) (defBody s__law_rows) (defScope s__law_rows) .none kV27 dc27 pm27 an27 cd27 ct27), sl27⟩) (c27 : PySem.W.codeIn K cd27 "_law_rows" = true) (k27 : PySem.W.keepIn K (.ref f27) = true)
    (a28 : PySem.W.nsIn K mainGlobals "law" = some (some (.ref f28))) (l28 : K.lookup f28 = some ⟨oc28, od28, .func (PySem.W.fnOf "law" "law" (defArgs s_law) (defBody s_law) (defScope s_law) .none kV28 dc28 pm28 an28 cd28 ct28), sl28⟩) (c28 : PySem.W.codeIn K cd28 "law" = true) (k28 : PySem.W.keepIn K (.ref f28) = true)
    (z_all : PySem.W.nsIn K mainGlobals "all" = some none)
    (z_bool : PySem.W.nsIn K mainGlobals "bool" = some none)
    (z_int : PySem.W.nsIn K mainGlobals "int" = some none)
    (z_isinstance : PySem.W.nsIn K mainGlobals "isinstance" = some none)
    (z_len : PySem.W.nsIn K mainGlobals "len" = some none)
    (z_list : PySem.W.nsIn K mainGlobals "list" = some none)
    (z_range : PySem.W.nsIn K mainGlobals "range" = some none)
    (z_set : PySem.W.nsIn K mainGlobals "set" = some none)
    (z_sorted : PySem.W.nsIn K mainGlobals "sorted" = some none)
    (z_str : PySem.W.nsIn K mainGlobals "str" = some none)
    (z_tuple : PySem.W.nsIn K mainGlobals "tuple" = some none)
    (v_DIRECTIONS : PySem.W.nsIn K mainGlobals "DIRECTIONS" = some (some (.ref q_DIRECTIONS))) (u_DIRECTIONS : K.lookup q_DIRECTIONS = some ⟨.type "tuple", d_DIRECTIONS, .seq i_DIRECTIONS n_DIRECTIONS, w_DIRECTIONS⟩) (r_DIRECTIONS : i_DIRECTIONS.toList = [.str "up" t_DIRECTIONS0, .str "down" t_DIRECTIONS1])
    (v_FIGURES : PySem.W.nsIn K mainGlobals "FIGURES" = some (some (.str "0123456789" t_FIGURES)))
    (v_KINDS : PySem.W.nsIn K mainGlobals "KINDS" = some (some (.ref q_KINDS))) (u_KINDS : K.lookup q_KINDS = some ⟨.type "tuple", d_KINDS, .seq i_KINDS n_KINDS, w_KINDS⟩) (r_KINDS : i_KINDS.toList = [.str "given" t_KINDS0, .str "made" t_KINDS1])
    (v_LAST_SPOT : PySem.W.nsIn K mainGlobals "LAST_SPOT" = some (some (.int 63 t_LAST_SPOT)))
    (v_LETTERS : PySem.W.nsIn K mainGlobals "LETTERS" = some (some (.str "abcdefghijklmnopqrstuvwxyz" t_LETTERS)))
    (v_LONGEST_NAME : PySem.W.nsIn K mainGlobals "LONGEST_NAME" = some (some (.int 8 t_LONGEST_NAME)))
    (v_MOST_STEPS : PySem.W.nsIn K mainGlobals "MOST_STEPS" = some (some (.int 24 t_MOST_STEPS)))
    (v_MOST_WIRES : PySem.W.nsIn K mainGlobals "MOST_WIRES" = some (some (.int 10 t_MOST_WIRES)))
    (v_WORDS : PySem.W.nsIn K mainGlobals "WORDS" = some (some (.ref q_WORDS))) (u_WORDS : K.lookup q_WORDS = some ⟨.type "tuple", d_WORDS, .seq i_WORDS n_WORDS, w_WORDS⟩) (r_WORDS : i_WORDS.toList = [.str "given" t_WORDS0, .str "made" t_WORDS1, .str "up" t_WORDS2, .str "down" t_WORDS3, .str "start" t_WORDS4]) :
    ∃ fd : FuncData, (∀ (s : Shared) (v : Value), BindsTo s fd ⟨[v], []⟩ [("_law_script", v)]) ∧ ∀ base : Heap, K.In base → base.Ns mainGlobals mg → FnOk l.prog w K mg base CX0 6 fa fd ["_law_script"] (spLaw K) := by
  have e := hfa.symm.trans (PySem.W.mg_of X G a28)
  cases e
  have T : Txt K mg := { b_all := PySem.W.mg_none_of X G z_all, b_bool := PySem.W.mg_none_of X G z_bool, b_int := PySem.W.mg_none_of X G z_int, b_isinstance := PySem.W.mg_none_of X G z_isinstance, b_len := PySem.W.mg_none_of X G z_len, b_list := PySem.W.mg_none_of X G z_list, b_range := PySem.W.mg_none_of X G z_range, b_set := PySem.W.mg_none_of X G z_set, b_sorted := PySem.W.mg_none_of X G z_sorted, b_str := PySem.W.mg_none_of X G z_str, b_tuple := PySem.W.mg_none_of X G z_tuple, c_DIRECTIONS := glo_strs X G v_DIRECTIONS u_DIRECTIONS ["up", "down"] (by rw [r_DIRECTIONS]; exact (.cons ⟨_, rfl⟩ (.cons ⟨_, rfl⟩ .nil))) (by decide +kernel) (by decide +kernel), c_FIGURES := ⟨.str "0123456789", _, PySem.W.mg_of X G v_FIGURES, ⟨_, rfl⟩, fun H => rp_str (SOk.of (by decide +kernel) (by decide +kernel))⟩, c_KINDS := glo_strs X G v_KINDS u_KINDS ["given", "made"] (by rw [r_KINDS]; exact (.cons ⟨_, rfl⟩ (.cons ⟨_, rfl⟩ .nil))) (by decide +kernel) (by decide +kernel), c_LAST_SPOT := ⟨.int 63, _, PySem.W.mg_of X G v_LAST_SPOT, ⟨_, rfl⟩, fun H => rp_int⟩, c_LETTERS := ⟨.str "abcdefghijklmnopqrstuvwxyz", _, PySem.W.mg_of X G v_LETTERS, ⟨_, rfl⟩, fun H => rp_str (SOk.of (by decide +kernel) (by decide +kernel))⟩, c_LONGEST_NAME := ⟨.int 8, _, PySem.W.mg_of X G v_LONGEST_NAME, ⟨_, rfl⟩, fun H => rp_int⟩, c_MOST_STEPS := ⟨.int 24, _, PySem.W.mg_of X G v_MOST_STEPS, ⟨_, rfl⟩, fun H => rp_int⟩, c_MOST_WIRES := ⟨.int 10, _, PySem.W.mg_of X G v_MOST_WIRES, ⟨_, rfl⟩, fun H => rp_int⟩, c_WORDS := glo_strs X G v_WORDS u_WORDS ["given", "made", "up", "down", "start"] (by rw [r_WORDS]; exact (.cons ⟨_, rfl⟩ (.cons ⟨_, rfl⟩ (.cons ⟨_, rfl⟩ (.cons ⟨_, rfl⟩ (.cons ⟨_, rfl⟩ .nil)))))) (by decide +kernel) (by decide +kernel) }
  have F0 := fun_mk (st := s_is_name) l0 c0 k0
  have D_is_name : Def K mg "is_name" s_is_name := ⟨_, _, F0, PySem.W.mg_of X G a0⟩
  have F1 := fun_mk (st := s_names) l1 c1 k1
  have D_names : Def K mg "names" s_names := ⟨_, _, F1, PySem.W.mg_of X G a1⟩
  have F2 := fun_mk (st := s_bits) l2 c2 k2
  have D_bits : Def K mg "bits" s_bits := ⟨_, _, F2, PySem.W.mg_of X G a2⟩
  have F3 := fun_mk (st := s_has_one) l3 c3 k3
  have D_has_one : Def K mg "has_one" s_has_one := ⟨_, _, F3, PySem.W.mg_of X G a3⟩
  have F4 := fun_mk (st := s_ones) l4 c4 k4
  have D_ones : Def K mg "ones" s_ones := ⟨_, _, F4, PySem.W.mg_of X G a4⟩
  have F5 := fun_mk (st := s_written) l5 c5 k5
  have D_written : Def K mg "written" s_written := ⟨_, _, F5, PySem.W.mg_of X G a5⟩
  have F6 := fun_mk (st := s_start_row) l6 c6 k6
  have D_start_row : Def K mg "start_row" s_start_row := ⟨_, _, F6, PySem.W.mg_of X G a6⟩
  have F7 := fun_mk (st := s_step_row) l7 c7 k7
  have D_step_row : Def K mg "step_row" s_step_row := ⟨_, _, F7, PySem.W.mg_of X G a7⟩
  have F8 := fun_mk (st := s_shown) l8 c8 k8
  have D_shown : Def K mg "shown" s_shown := ⟨_, _, F8, PySem.W.mg_of X G a8⟩
  have F9 := fun_mk (st := s_read_wire) l9 c9 k9
  have D_read_wire : Def K mg "read_wire" s_read_wire := ⟨_, _, F9, PySem.W.mg_of X G a9⟩
  have F10 := fun_mk (st := s_read_wires) l10 c10 k10
  have D_read_wires : Def K mg "read_wires" s_read_wires := ⟨_, _, F10, PySem.W.mg_of X G a10⟩
  have F11 := fun_mk (st := s_rising) l11 c11 k11
  have D_rising : Def K mg "rising" s_rising := ⟨_, _, F11, PySem.W.mg_of X G a11⟩
  have F12 := fun_mk (st := s_is_spot) l12 c12 k12
  have D_is_spot : Def K mg "is_spot" s_is_spot := ⟨_, _, F12, PySem.W.mg_of X G a12⟩
  have F13 := fun_mk (st := s_read_spots) l13 c13 k13
  have D_read_spots : Def K mg "read_spots" s_read_spots := ⟨_, _, F13, PySem.W.mg_of X G a13⟩
  have F14 := fun_mk (st := s_read_step) l14 c14 k14
  have D_read_step : Def K mg "read_step" s_read_step := ⟨_, _, F14, PySem.W.mg_of X G a14⟩
  have F15 := fun_mk (st := s_read_steps) l15 c15 k15
  have D_read_steps : Def K mg "read_steps" s_read_steps := ⟨_, _, F15, PySem.W.mg_of X G a15⟩
  have F16 := fun_mk (st := s_read_up) l16 c16 k16
  have D_read_up : Def K mg "read_up" s_read_up := ⟨_, _, F16, PySem.W.mg_of X G a16⟩
  have F17 := fun_mk (st := s_read_start) l17 c17 k17
  have D_read_start : Def K mg "read_start" s_read_start := ⟨_, _, F17, PySem.W.mg_of X G a17⟩
  have F18 := fun_mk (st := s_read) l18 c18 k18
  have D_read : Def K mg "read" s_read := ⟨_, _, F18, PySem.W.mg_of X G a18⟩
  have F19 := fun_mk (st := s__law_alike) l19 c19 k19
  have D__law_alike : Def K mg "_law_alike" s__law_alike := ⟨_, _, F19, PySem.W.mg_of X G a19⟩
  have F20 := fun_mk (st := s__law_mix) l20 c20 k20
  have D__law_mix : Def K mg "_law_mix" s__law_mix := ⟨_, _, F20, PySem.W.mg_of X G a20⟩
  have F21 := fun_mk (st := s__law_name) l21 c21 k21
  have D__law_name : Def K mg "_law_name" s__law_name := ⟨_, _, F21, PySem.W.mg_of X G a21⟩
  have F22 := fun_mk (st := s__law_wire_names) l22 c22 k22
  have D__law_wire_names : Def K mg "_law_wire_names" s__law_wire_names := ⟨_, _, F22, PySem.W.mg_of X G a22⟩
  have F23 := fun_mk (st := s__law_spots) l23 c23 k23
  have D__law_spots : Def K mg "_law_spots" s__law_spots := ⟨_, _, F23, PySem.W.mg_of X G a23⟩
  have F24 := fun_mk (st := s__law_graph) l24 c24 k24
  have D__law_graph : Def K mg "_law_graph" s__law_graph := ⟨_, _, F24, PySem.W.mg_of X G a24⟩
  have F25 := fun_mk (st := s__law_places) l25 c25 k25
  have D__law_places : Def K mg "_law_places" s__law_places := ⟨_, _, F25, PySem.W.mg_of X G a25⟩
  have F26 := fun_mk (st := s__law_step_words) l26 c26 k26
  have D__law_step_words : Def K mg "_law_step_words" s__law_step_words := ⟨_, _, F26, PySem.W.mg_of X G a26⟩
  have F27 := fun_mk (st := s__law_rows) l27 c27 k27
  have D__law_rows : Def K mg "_law_rows" s__law_rows := ⟨_, _, F27, PySem.W.mg_of X G a27⟩
  have F28 := fun_mk (st := s_law) l28 c28 k28
  refine ⟨PySem.W.fnOf "law" "law" (defArgs s_law) (defBody s_law) (defScope s_law) .none kV28 dc28 pm28 an28 cd28 ct28, fun s v => .of_eq rfl, fun base _ _ => ?_⟩
  have C_is_name := c_is_name (P := l.prog) (w := w) (base := base) D_is_name T 
  have C_names := c_names (P := l.prog) (w := w) (base := base) D_names T 
  have C_bits := c_bits (P := l.prog) (w := w) (base := base) D_bits T 
  have C_has_one := c_has_one (P := l.prog) (w := w) (base := base) D_has_one T 
  have C_ones := c_ones (P := l.prog) (w := w) (base := base) D_ones T C_has_one
  have C_written := c_written (P := l.prog) (w := w) (base := base) D_written T 
  have C_start_row := c_start_row (P := l.prog) (w := w) (base := base) D_start_row T C_ones C_written
  have C_step_row := c_step_row (P := l.prog) (w := w) (base := base) D_step_row T C_written
  have C_shown := c_shown (P := l.prog) (w := w) (base := base) D_shown T C_names C_start_row C_step_row
  have C_read_wire := c_read_wire (P := l.prog) (w := w) (base := base) D_read_wire T C_is_name
  have C_read_wires := c_read_wires (P := l.prog) (w := w) (base := base) D_read_wires T C_read_wire
  have C_rising := c_rising (P := l.prog) (w := w) (base := base) D_rising T 
  have C_is_spot := c_is_spot (P := l.prog) (w := w) (base := base) D_is_spot T 
  have C_read_spots := c_read_spots (P := l.prog) (w := w) (base := base) D_read_spots T C_rising C_is_spot
  have C_read_step := c_read_step (P := l.prog) (w := w) (base := base) D_read_step T C_read_spots
  have C_read_steps := c_read_steps (P := l.prog) (w := w) (base := base) D_read_steps T C_read_step
  have C_read_up := c_read_up (P := l.prog) (w := w) (base := base) D_read_up T C_rising
  have C_read_start := c_read_start (P := l.prog) (w := w) (base := base) D_read_start T C_read_spots C_read_up C_bits
  have C_read := c_read (P := l.prog) (w := w) (base := base) D_read T C_read_wires C_read_steps C_read_start
  have C__law_alike := c__law_alike (P := l.prog) (w := w) (base := base) D__law_alike T  5
  have C__law_mix := c__law_mix (P := l.prog) (w := w) (base := base) D__law_mix T 
  have C__law_name := c__law_name (P := l.prog) (w := w) (base := base) D__law_name T 
  have C__law_wire_names := c__law_wire_names (P := l.prog) (w := w) (base := base) D__law_wire_names T C__law_mix C__law_name
  have C__law_spots := c__law_spots (P := l.prog) (w := w) (base := base) D__law_spots T 
  have C__law_graph := c__law_graph (P := l.prog) (w := w) (base := base) D__law_graph T C__law_mix C__law_wire_names C__law_spots
  have C__law_places := c__law_places (P := l.prog) (w := w) (base := base) D__law_places T 
  have C__law_step_words := c__law_step_words (P := l.prog) (w := w) (base := base) D__law_step_words T 
  have C__law_rows := c__law_rows (P := l.prog) (w := w) (base := base) D__law_rows T C__law_step_words C__law_places
  exact c_law F28 T C__law_graph C_read C__law_rows C__law_alike C_shown law_ok
theorem walk {l : PySem.W.OpenLaw} {q : Program} {loose : List Str} {XP : (Str → Option Value) → Heap → Prop} {YP : World → Heap → Prop} {d : DefRec} {K : Params → PySem.W.Frag} (hn : l.most = some 63) (hdf : d.params.defaults = [])
    (hY : ∀ (w : World) (h : Heap), YP w h → (K w.params).In h)
    (F : ∀ (w : World) (mg : Str → Option Value) (fa : Addr) (h : Heap), (K w.params).In h → h.Ns mainGlobals mg → mg d.name = some (.ref fa) →
      ∃ fd : FuncData, (∀ (s : Shared) (u : Value), BindsTo s fd ⟨[u], []⟩ [("_law_script", u)]) ∧ ∀ base : Heap, (K w.params).In base → base.Ns mainGlobals mg → FnOk l.prog w (K w.params) mg base CX0 6 fa fd ["_law_script"] (spLaw (K w.params))) :
    PySem.W.WalkO q loose XP YP l.row.toRowW d [] (fun f vs => PySem.call f vs) :=
  L2.walk_of (n := 63) (k := 6) (x := "_law_script") (CX := fun _ => CX0) (sp := fun w => spLaw (K w.params)) hn (by decide) hdf ⟨rfl, by decide, by decide, rfl⟩ hY F (fun _ _ a ns hl _ hS => ⟨a, ns, rfl, hS, hl, fun _ => rfl⟩) fun _ _ _ _ _ z => z
end K14
open PySem PySem.W PyProof.Rows
set_option maxRecDepth 100000 in
set_option maxHeartbeats 0 in
theorem PySem.Challenge.cw_calmwires_k14_texts_read_back_holds : PySem.Challenge.rw_calmwires_k14_texts_read_back.Holds := by
  w_on; o_law; k_head; (case hw => w_witness2)
  k_fill
  refine K14.walk (l := PySem.Challenge.rw_calmwires_k14_texts_read_back) rfl rfl (fun w h Y => PySem.W.kIn_of Y) ?F
  case F =>
    intro w mg fa h KX G hmg
    refine' K14.all_mk KX G hmg ?a0 ?l0 ?c0 ?k0 ?a1 ?l1 ?c1 ?k1 ?a2 ?l2 ?c2 ?k2 ?a3 ?l3 ?c3 ?k3 ?a4 ?l4 ?c4 ?k4 ?a5 ?l5 ?c5 ?k5 ?a6 ?l6 ?c6 ?k6 ?a7 ?l7 ?c7 ?k7 ?a8 ?l8 ?c8 ?k8 ?a9 ?l9 ?c9 ?k9 ?a10 ?l10 ?c10 ?k10 ?a11 ?l11 ?c11 ?k11 ?a12 ?l12 ?c12 ?k12 ?a13 ?l13 ?c13 ?k13 ?a14 ?l14 ?c14 ?k14 ?a15 ?l15 ?c15 ?k15 ?a16 ?l16 ?c16 ?k16 ?a17 ?l17 ?c17 ?k17 ?a18 ?l18 ?c18 ?k18 ?a19 ?l19 ?c19 ?k19 ?a20 ?l20 ?c20 ?k20 ?a21 ?l21 ?c21 ?k21 ?a22 ?l22 ?c22 ?k22 ?a23 ?l23 ?c23 ?k23 ?a24 ?l24 ?c24 ?k24 ?a25 ?l25 ?c25 ?k25 ?a26 ?l26 ?c26 ?k26 ?a27 ?l27 ?c27 ?k27 ?a28 ?l28 ?c28 ?k28 ?z_all ?z_bool ?z_int ?z_isinstance ?z_len ?z_list ?z_range ?z_set ?z_sorted ?z_str ?z_tuple ?v_DIRECTIONS ?u_DIRECTIONS ?r_DIRECTIONS ?v_FIGURES ?v_KINDS ?u_KINDS ?r_KINDS ?v_LAST_SPOT ?v_LETTERS ?v_LONGEST_NAME ?v_MOST_STEPS ?v_MOST_WIRES ?v_WORDS ?u_WORDS ?r_WORDS
    (case a0 => k_is); (case l0 => k_is); (case c0 => k_is); (case k0 => k_is); (case a1 => k_is); (case l1 => k_is); (case c1 => k_is); (case k1 => k_is); (case a2 => k_is); (case l2 => k_is); (case c2 => k_is); (case k2 => k_is); (case a3 => k_is); (case l3 => k_is); (case c3 => k_is); (case k3 => k_is); (case a4 => k_is); (case l4 => k_is); (case c4 => k_is); (case k4 => k_is); (case a5 => k_is); (case l5 => k_is); (case c5 => k_is); (case k5 => k_is); (case a6 => k_is); (case l6 => k_is); (case c6 => k_is); (case k6 => k_is); (case a7 => k_is); (case l7 => k_is); (case c7 => k_is); (case k7 => k_is); (case a8 => k_is); (case l8 => k_is); (case c8 => k_is); (case k8 => k_is); (case a9 => k_is); (case l9 => k_is); (case c9 => k_is); (case k9 => k_is); (case a10 => k_is); (case l10 => k_is); (case c10 => k_is); (case k10 => k_is); (case a11 => k_is); (case l11 => k_is); (case c11 => k_is); (case k11 => k_is); (case a12 => k_is); (case l12 => k_is); (case c12 => k_is); (case k12 => k_is); (case a13 => k_is); (case l13 => k_is); (case c13 => k_is); (case k13 => k_is); (case a14 => k_is); (case l14 => k_is); (case c14 => k_is); (case k14 => k_is); (case a15 => k_is); (case l15 => k_is); (case c15 => k_is); (case k15 => k_is); (case a16 => k_is); (case l16 => k_is); (case c16 => k_is); (case k16 => k_is); (case a17 => k_is); (case l17 => k_is); (case c17 => k_is); (case k17 => k_is); (case a18 => k_is); (case l18 => k_is); (case c18 => k_is); (case k18 => k_is); (case a19 => k_is); (case l19 => k_is); (case c19 => k_is); (case k19 => k_is); (case a20 => k_is); (case l20 => k_is); (case c20 => k_is); (case k20 => k_is); (case a21 => k_is); (case l21 => k_is); (case c21 => k_is); (case k21 => k_is); (case a22 => k_is); (case l22 => k_is); (case c22 => k_is); (case k22 => k_is); (case a23 => k_is); (case l23 => k_is); (case c23 => k_is); (case k23 => k_is); (case a24 => k_is); (case l24 => k_is); (case c24 => k_is); (case k24 => k_is); (case a25 => k_is); (case l25 => k_is); (case c25 => k_is); (case k25 => k_is); (case a26 => k_is); (case l26 => k_is); (case c26 => k_is); (case k26 => k_is); (case a27 => k_is); (case l27 => k_is); (case c27 => k_is); (case k27 => k_is); (case a28 => k_is); (case l28 => k_is); (case c28 => k_is); (case k28 => k_is); (case z_all => k_is); (case z_bool => k_is); (case z_int => k_is); (case z_isinstance => k_is); (case z_len => k_is); (case z_list => k_is); (case z_range => k_is); (case z_set => k_is); (case z_sorted => k_is); (case z_str => k_is); (case z_tuple => k_is); (case v_DIRECTIONS => k_is); (case u_DIRECTIONS => k_is); (case v_FIGURES => k_is); (case v_KINDS => k_is); (case u_KINDS => k_is); (case v_LAST_SPOT => k_is); (case v_LETTERS => k_is); (case v_LONGEST_NAME => k_is); (case v_MOST_STEPS => k_is); (case v_MOST_WIRES => k_is); (case v_WORDS => k_is); (case u_WORDS => k_is)
    (case r_DIRECTIONS => rfl); (case r_KINDS => rfl); (case r_WORDS => rfl)
