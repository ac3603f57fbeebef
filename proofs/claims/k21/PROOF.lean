import PyProof.Rows.All
import Wide.All
import OpenK.AllK
import Wide.FinOn
import Lean
import PyProof.EqAt
import PyProof.EqKinds
import PyProof.TupleCall
import KE.KRevIter
import PyProof.ListRange
import PyProof.ExcClass3
import PyProof.ExcInit
import PyProof.RulesTry
import PyProof.RulesAs
import PyProof.ExcBaseAll.ValueError
import PyProof.InstStoreFacts
import PyProof.ExcArgsOwn
import KE.KIsAll
import PyProof.IsiBase
import PyProof.ReprRoads
import PyProof.NsDelKeeps
import KE.KTryMore
import KE.RegKIsAll
import KE.RegKTryMore
import PyProof.Rows.KernelRfl
import PySem.Challenge.RW_calmwires_k21_one_step
set_option Elab.async false
set_option linter.all false
set_option maxRecDepth 100000
namespace L2
open PySem PySem.Spec PyProof.Rows
abbrev Key := Sum Int Str
def keyIs : Key → Value → Bool
  | .inl k, v => Value.isInt k v
  | .inr x, v => Value.isStrOf x v
def keyH (w : World) : Key → Int
  | .inl k => hashInt k
  | .inr x => hashStr w x
theorem keyIs_shape : ∀ {k : Key} {v : Value}, keyIs k v = true → (∃ i t, k = Sum.inl i ∧ v = Value.int i t) ∨ (∃ x t, k = Sum.inr x ∧ v = Value.str x t)
  | .inl i, v, h => by
    obtain ⟨t, e⟩ := Value.isInt_shape (k := i) (v := v) h
    exact .inl ⟨i, t, rfl, e⟩
  | .inr x, v, h => by
    obtain ⟨t, e⟩ := Value.isStrOf_shape (x := x) (v := v) h
    exact .inr ⟨x, t, rfl, e⟩
theorem key_ll (a b : Int) : decide ((Sum.inl a : Key) = Sum.inl b) = (a == b) := by
  by_cases e : a = b
  · subst e; simp
  · have h : ¬ (Sum.inl a : Key) = Sum.inl b := fun q => e (Sum.inl.inj q)
    rw [decide_eq_false h]
    exact (beq_eq_false_iff_ne.mpr e).symm
theorem key_rr (a b : Str) : decide ((Sum.inr a : Key) = Sum.inr b) = decide (a = b) := by
  by_cases e : a = b
  · subst e; simp
  · have h : ¬ (Sum.inr a : Key) = Sum.inr b := fun q => e (Sum.inr.inj q)
    rw [decide_eq_false h, decide_eq_false e]
theorem key_lr (a : Int) (b : Str) : decide ((Sum.inl a : Key) = Sum.inr b) = false := decide_eq_false (fun q => nomatch q)
theorem key_rl (a : Str) (b : Int) : decide ((Sum.inr a : Key) = Sum.inl b) = false := decide_eq_false (fun q => nomatch q)
def mixKind (prog : Program) (w : World) : PySem.KeyKind prog w Key where
  is := keyIs
  hash := keyH w
  inj := fun v a b ha hb => by
    rcases keyIs_shape ha with ⟨i, t, rfl, rfl⟩ | ⟨x, t, rfl, rfl⟩
    · rcases keyIs_shape hb with ⟨j, u, rfl, e⟩ | ⟨y, u, rfl, e⟩
      · injection e with e1 _; rw [e1]
      · exact nomatch e
    · rcases keyIs_shape hb with ⟨j, u, rfl, e⟩ | ⟨y, u, rfl, e⟩
      · exact nomatch e
      · injection e with e1 _; rw [e1]
  byValue := fun k v h => by
    rcases keyIs_shape h with ⟨i, t, rfl, rfl⟩ | ⟨x, t, rfl, rfl⟩ <;> rfl
  pyHash := fun hv h => by
    rcases keyIs_shape hv with ⟨i, t, rfl, rfl⟩ | ⟨x, t, rfl, rfl⟩
    · exact wpAny_pyHash_int h
    · exact wpAny_pyHash_str h
  eqBool := fun hu hv h => by
    rcases keyIs_shape hu with ⟨i, t, rfl, rfl⟩ | ⟨x, t, rfl, rfl⟩
    · rcases keyIs_shape hv with ⟨j, u, rfl, rfl⟩ | ⟨y, u, rfl, rfl⟩
      · rw [key_ll] at h; exact wpAny_eqBool_int h
      · rw [key_lr] at h; exact SeqAt.EqAt.int_str i t y u _ _ _ _ h
    · rcases keyIs_shape hv with ⟨j, u, rfl, rfl⟩ | ⟨y, u, rfl, rfl⟩
      · rw [key_rl] at h; exact SeqAt.EqAt.str_int x t j u _ _ _ _ h
      · rw [key_rr] at h; exact wpAny_eqBool_str h
  «strs» := fun k x t v h => by
    rcases keyIs_shape h with ⟨i, u, rfl, e⟩ | ⟨y, u, rfl, e⟩
    · exact nomatch e
    · injection e with e1 _
      subst e1
      cases v <;> rfl
end L2
namespace L2
open PySem PySem.Spec PyProof.Rows
inductive V where
  | non | bl (b : Bool) | int (i : Int) | str (x : Str) | byt (b : Array UInt8) | flt (b : UInt64) | ref (a : Addr) | ty (n : String)
  deriving DecidableEq
def RelV : V → Value → Prop
  | .non, u => u = Value.none
  | .bl b, u => u = Value.bool b
  | .int i, u => ∃ t, u = Value.int i t
  | .str x, u => ∃ t, u = Value.str x t
  | .byt b, u => ∃ t, u = Value.bytes b t
  | .flt b, u => ∃ t, u = Value.float b t
  | .ref a, u => u = Value.ref a
  | .ty n, u => u = Value.type n
abbrev Vals : List V → List Value → Prop := Paired RelV
theorem Vals.length {xs : List V} {us : List Value} (r : Vals xs us) : xs.length = us.length := Paired.length r
theorem Vals.get : ∀ {xs : List V} {us : List Value} {i : Nat} {x : V}, Vals xs us → xs[i]? = some x → ∃ u, us[i]? = some u ∧ RelV x u
  | _, _, _, _, .nil, e => by simp at e
  | _, _, 0, _, .cons r _, e => by simp at e; subst e; exact ⟨_, rfl, r⟩
  | _, _, i + 1, x, .cons _ t, e => by
    obtain ⟨u, h1, h2⟩ := Vals.get (i := i) (x := x) t (by simpa using e)
    exact ⟨u, by simpa using h1, h2⟩
theorem Vals.set {x : V} {u : Value} (r : RelV x u) : ∀ {xs : List V} {us : List Value} (i : Nat), Vals xs us → Vals (xs.set i x) (us.set i u)
  | _, _, _, .nil => .nil
  | _, _, 0, .cons _ t => .cons r t
  | _, _, i + 1, .cons q t => .cons q (Vals.set r i t)
theorem Vals.append : ∀ {xs ys : List V} {us ws : List Value}, Vals xs us → Vals ys ws → Vals (xs ++ ys) (us ++ ws)
  | _, _, _, _, .nil, s => s
  | _, _, _, _, .cons r t, s => .cons r (Vals.append t s)
theorem Vals.take : ∀ {xs : List V} {us : List Value} (n : Nat), Vals xs us → Vals (xs.take n) (us.take n)
  | _, _, 0, _ => .nil
  | _, _, _ + 1, .nil => .nil
  | _, _, n + 1, .cons r t => .cons r (Vals.take n t)
theorem Vals.drop : ∀ {xs : List V} {us : List Value} (n : Nat), Vals xs us → Vals (xs.drop n) (us.drop n)
  | _, _, 0, r => r
  | _, _, _ + 1, .nil => .nil
  | _, _, n + 1, .cons _ t => Vals.drop n t
def RelO : Option V → Option Value → Prop
  | some v, some u => RelV v u
  | none, none => True
  | _, _ => False
def KV {κ : Type} : List (κ × V) → List (κ × Value) → Prop := Paired fun (p : κ × V) (q : κ × Value) => p.1 = q.1 ∧ RelV p.2 q.2
def kV : Key → V
  | .inl i => .int i
  | .inr x => .str x
inductive HO where
  /-- a list -/
  | lst (xs : List V)
  /-- a tuple (never changes) -/
  | tup (xs : List V)
  /-- a dict whose keys are ints and texts; one whose keys are tuples of ints and texts (the empty one is both) -/
  | dK (kvs : List (Key × V)) | dT (kvs : List (List Key × V))
  /-- a set of ints: its members, its size -/
  | set (S : Int → Bool) (n : Nat)
  /-- an instance of the class at C, its dict at dx, its attributes -/
  | ins (C dx : Addr) (fs : List (Str × V))
  /-- the dict of the instance at x -/
  | own (x : Addr)
  /-- the dict of an exception -/
  | xd (fs : List (Str × V))
  /-- a bound method, f of x -/
  | met (f x : Addr)
  /-- a range object lo, lo + 1, .. below hi -/
  | rng (lo hi : Int)
  /-- a thing that is known to the object (the script; a dict while a loop walks it): read, never written while it is so -/
  | frz (o : Obj) (u : HO)
  /-- a code object's table -/
  | tbl (ps : Array Value)
  /-- any other thing, by what is true of its one object (a def of one's own: SetO a S n := HO.ext fun h => ..) -/
  | ext (φ : Heap → Prop)
abbrev Hp := Addr → Option HO
def upd (H : Hp) (a : Addr) (o : HO) : Hp := fun b => if b = a then some o else H b
theorem upd_same {H : Hp} {a : Addr} {o : HO} : upd H a o a = some o := by unfold upd; rw [if_pos rfl]
theorem upd_ne {H : Hp} {a b : Addr} {o : HO} (h : b ≠ a) : upd H a o b = H b := by unfold upd; rw [if_neg h]
theorem ne_of_none {H : Hp} {a b : Addr} {o : HO} (h : H a = some o) (h' : H b = none) : a ≠ b := by
  intro e; subst e; rw [h] at h'; cases h'
section
variable (P : Program) (w : World)
def ObjOk (H : Hp) (h : Heap) (a : Addr) : HO → Prop
  | .lst xs => xs.length ≤ sizeLine ∧ ∃ (its : List Value) (n : Nat), Vals xs its ∧ h.get? a = some { cls := .type "list", data := .seq its.toArray n }
  | .tup xs => xs.length ≤ sizeLine ∧ ∃ its : List Value, Vals xs its ∧ IsTup h a its.toArray
  | .dK kvs => kvs.length ≤ sizeLine ∧ (a == sysModules) = false ∧ ∃ vs, KV kvs vs ∧ h.DictOf (mixKind P w) a vs
  | .dT kvs => kvs.length ≤ sizeLine ∧ (a == sysModules) = false ∧ ∃ xs : List (List Key × Addr × Value),
      Paired (fun (p : List Key × V) (q : List Key × Addr × Value) => p.1 = q.1 ∧ H q.2.1 = some (.tup (p.1.map kV)) ∧ RelV p.2 q.2.2) kvs xs ∧
      ∃ o es ep, h.get? a = some o ∧ o.ExactDict ∧ o.data = .dict es ep ∧ es.toList = xs.map (entryOfKey (tupleKind (mixKind P w))) ∧ (xs.map (·.1)).Nodup
  | .set S n => h.SetOf (intKind P w) a S n
  | .ins C dx fs => H dx = some (.own a) ∧ fs.length ≤ 1000 ∧ dx ≠ a ∧ h.get? a = some (PySem.W.instObj C dx) ∧
      ∃ mA, h.Ns1 dx mA ∧ (∀ f, RelO (fs.lookup f) (mA f)) ∧ PySem.Within mA (fs.map (·.1))
  | .own _ => ∃ o, h.get? a = some o
  | .xd fs => ∃ mA, h.Ns1 a mA ∧ ∀ f, RelO (fs.lookup f) (mA f)
  | .rng lo hi => ∃ t u v, h.get? a = some { cls := .type "range", data := .fields #[.int lo t, .int hi u, .int 1 v] }
  | .frz o u => h.get? a = some o ∧ ObjOk H h a u
  | .tbl ps => h.get? a = some { cls := .none, data := .fields ps }
  | .met f x => h.get? a = some (PySem.W.methodObj (.ref f) (.ref x))
  | .ext φ => φ h ∧ (∃ o, h.get? a = some o) ∧ ∀ h1 h2 : Heap, φ h1 → (∀ o, h1.get? a = some o → h2.get? a = some o) → φ h2
def HOk (H : Hp) (h : Heap) : Prop := ∀ a o, H a = some o → ObjOk P w H h a o
end
section
variable {P : Program} {w : World} {H H' : Hp} {h h' : Heap} {a : Addr} {o : HO}
theorem ObjOk.lt (x : ObjOk P w H h a o) : a < h.objs.size := by
  cases o with
  | lst xs => obtain ⟨_, _, _, _, e⟩ := x; exact Heap.lt_size e
  | tup xs => obtain ⟨_, _, _, p⟩ := x; exact p.lt
  | dK kvs => obtain ⟨_, _, _, _, o, _, _, e, _⟩ := x; exact Heap.lt_size e
  | dT kvs => obtain ⟨_, _, _, _, o, _, _, e, _⟩ := x; exact Heap.lt_size e
  | set S n => obtain ⟨o, _, _, _, e, _⟩ := x; exact Heap.lt_size e
  | ins C dx fs => obtain ⟨_, _, _, e, _⟩ := x; exact Heap.lt_size e
  | own y => obtain ⟨_, e⟩ := x; exact Heap.lt_size e
  | xd fs => obtain ⟨_, ⟨_, _, _, e, _⟩, _⟩ := x; exact Heap.lt_size e
  | rng lo hi => obtain ⟨_, _, _, e⟩ := x; exact Heap.lt_size e
  | frz ob u => obtain ⟨e, _⟩ := x; exact Heap.lt_size e
  | tbl ps => exact Heap.lt_size (show h.get? a = some _ from x)
  | met f y => exact Heap.lt_size (show h.get? a = some _ from x)
  | ext φ => obtain ⟨_, ⟨_, e⟩, _⟩ := x; exact Heap.lt_size e
theorem Paired.mapP {α β : Type} {F G : α → β → Prop} : ∀ {l₁ : List α} {l₂ : List β}, Paired F l₁ l₂ → (∀ a b, F a b → G a b) → Paired G l₁ l₂
  | _, _, .nil, _ => .nil
  | _, _, .cons r t, f => .cons (f _ _ r) (Paired.mapP t f)
theorem ObjOk.stay (x : ObjOk P w H h a o) (k : ∀ b u, (b = a ∨ H b = some (.own a)) → h.get? b = some u → h'.get? b = some u)
    (ho : ∀ b, H b = some (.own a) → H' b = some (.own a)) (ht : ∀ b xs, H b = some (.tup xs) → H' b = some (.tup xs)) : ObjOk P w H' h' a o := by
  induction o with
  | lst xs => obtain ⟨z, its, n, r, e⟩ := x; exact ⟨z, its, n, r, k _ _ (.inl rfl) e⟩
  | tup xs => obtain ⟨z, its, r, ob, e, c⟩ := x; exact ⟨z, its, r, ob, k _ _ (.inl rfl) e, c⟩
  | dK kvs => obtain ⟨z, y, vs, r, ob, es, ep, e, c⟩ := x; exact ⟨z, y, vs, r, ob, es, ep, k _ _ (.inl rfl) e, c⟩
  | dT kvs =>
    obtain ⟨z, y, xs, r, ob, es, ep, e, c⟩ := x
    exact ⟨z, y, xs, Paired.mapP r fun p q z => ⟨z.1, ht _ _ z.2.1, z.2.2⟩, ob, es, ep, k _ _ (.inl rfl) e, c⟩
  | set S n => obtain ⟨ob, es, ep, t, e, c⟩ := x; exact ⟨ob, es, ep, t, k _ _ (.inl rfl) e, c⟩
  | ins C dx fs =>
    obtain ⟨d, z, ne, e, mA, ⟨od, es, ep, e2, c⟩, r⟩ := x
    exact ⟨ho _ d, z, ne, k _ _ (.inl rfl) e, mA, ⟨od, es, ep, k _ _ (.inr d) e2, c⟩, r⟩
  | own y => obtain ⟨ob, e⟩ := x; exact ⟨ob, k _ _ (.inl rfl) e⟩
  | xd fs => obtain ⟨mA, ⟨od, es, ep, e, c⟩, r⟩ := x; exact ⟨mA, ⟨od, es, ep, k _ _ (.inl rfl) e, c⟩, r⟩
  | rng lo hi => obtain ⟨t, u, v, e⟩ := x; exact ⟨t, u, v, k _ _ (.inl rfl) e⟩
  | frz ob u ih => obtain ⟨e, q⟩ := x; exact ⟨k _ _ (.inl rfl) e, ih q⟩
  | tbl ps =>
    have e : h.get? a = some { cls := .none, data := .fields ps } := x
    show h'.get? a = some { cls := .none, data := .fields ps }
    exact k a _ (.inl rfl) e
  | met f y =>
    have e : h.get? a = some (PySem.W.methodObj (.ref f) (.ref y)) := x
    show h'.get? a = some (PySem.W.methodObj (.ref f) (.ref y))
    exact k a _ (.inl rfl) e
  | ext φ => obtain ⟨p, ⟨o, e⟩, st⟩ := x; exact ⟨st _ _ p fun o q => k _ _ (.inl rfl) q, ⟨o, k _ _ (.inl rfl) e⟩, st⟩
theorem HOk.lt (x : HOk P w H h) (e : H a = some o) : a < h.objs.size := (x a o e).lt
theorem HOk.fresh (x : HOk P w H h) (e : h.objs.size ≤ a) : H a = none := by
  cases q : H a with
  | none => rfl
  | some u => exact absurd (Nat.lt_of_lt_of_le (x.lt q) e) (Nat.lt_irrefl _)
theorem HOk.kept (x : HOk P w H h) (k : ∀ b u, h.get? b = some u → h'.get? b = some u) : HOk P w H h' := fun a o e =>
  (x a o e).stay (fun b u _ q => k b u q) (fun _ q => q) fun _ _ q => q
theorem HOk.laid (x : HOk P w H h) (k : ∀ b u, h.get? b = some u → h'.get? b = some u) (hp : h.objs.size ≤ a) (new : ObjOk P w (upd H a o) h' a o) : HOk P w (upd H a o) h' := fun b u e => by
  have hn := x.fresh hp
  by_cases hb : b = a
  · subst hb; rw [upd_same] at e; cases e; exact new
  · rw [upd_ne hb] at e
    exact (x b u e).stay (fun c v _ q => k c v q) (fun c q => by rw [upd_ne (ne_of_none q hn)]; exact q) fun c xs q => by rw [upd_ne (ne_of_none q hn)]; exact q
end
def Rd (H : Hp) (a : Addr) (u : HO) : Prop := H a = some u ∨ ∃ o, H a = some (.frz o u)
theorem Rd.of {H : Hp} {a : Addr} {u : HO} (h : H a = some u) : Rd H a u := .inl h
theorem Rd.ok {P : Program} {w : World} {H : Hp} {h : Heap} {a : Addr} {u : HO} (r : Rd H a u) (x : HOk P w H h) : ObjOk P w H h a u := by
  rcases r with r | ⟨o, r⟩
  · exact x a u r
  · obtain ⟨_, q⟩ := x a _ r
    exact q
def Mut : Option HO → Prop
  | some (.lst _) => True
  | some (.dK _) => True
  | some (.dT _) => True
  | some (.set _ _) => True
  | some (.ins _ _ _) => True
  | some (.ext _) => True
  | _ => False
section
variable {P : Program} {w : World} {H : Hp} {h h' : Heap} {x e : Addr} {o' : HO}
theorem HOk.write (ok : HOk P w H h) (mu : Mut (H x)) (he : e = x ∨ H e = some (.own x)) (k : ∀ b u, b ≠ e → h.get? b = some u → h'.get? b = some u) (heo : ∃ u, h'.get? e = some u)
    (new : ObjOk P w (upd H x o') h' x o') : HOk P w (upd H x o') h' := fun b u q => by
  have nown : ∀ c y, H c = some (.own y) → c ≠ x := fun c y r z => by subst z; rw [r] at mu; exact mu
  have ntup : ∀ c xs, H c = some (.tup xs) → c ≠ x := fun c xs r z => by subst z; rw [r] at mu; exact mu
  by_cases hb : b = x
  · subst hb; rw [upd_same] at q; cases q; exact new
  · rw [upd_ne hb] at q
    by_cases hbe : b = e
    · have q' : H b = some (.own x) := by
        rcases he with z | z
        · exact absurd (hbe.trans z) hb
        · rw [hbe]; exact z
      rw [q] at q'; cases q'
      obtain ⟨v, hv⟩ := heo
      exact ⟨v, by rw [hbe]; exact hv⟩
    · refine (ok b u q).stay (fun c v hc r => k c v ?_ r) (fun c r => by rw [upd_ne (nown c b r)]; exact r) fun c xs r => by rw [upd_ne (ntup c xs r)]; exact r
      rcases hc with rfl | hc
      · exact hbe
      · rintro rfl
        rcases he with z | z
        · exact nown c b hc z
        · rw [hc] at z; cases z; exact hb rfl
end
structure Un (fs ex : List Addr) (H H' : Hp) (h h' : Heap) : Prop where
  keep : ∀ b o, h.get? b = some o → H b = none → b ∉ fs → b ∉ ex → h'.get? b = some o
  slot : ∀ b o, h.get? b = some o → H b = none → b ∈ fs → b ∉ ex → ∃ sl, h'.get? b = some { o with slots := sl }
  free : ∀ b o, h.get? b = some o → H b = none → b ∉ ex → H' b = none
  there : ∀ b o, h.get? b = some o → b ∉ ex → ∃ o', h'.get? b = some o'
  tups : ∀ b xs, H b = some (.tup xs) → H' b = some (.tup xs)
  frzs : ∀ b o u, H b = some (.frz o u) → H' b = some (.frz o u)
  tbls : ∀ b ps, H b = some (.tbl ps) → ∃ more, H' b = some (.tbl (ps ++ more))
section
variable {fs fs' ex ex' : List Addr} {H H1 H2 : Hp} {h h1 h2 h' : Heap} {a x e : Addr} {o : HO}
theorem Un.any (u : Un fs ex H H1 h h1) {b : Addr} {ob : Obj} (q : h.get? b = some ob) (n : H b = none) (hx : b ∉ ex) : ∃ sl, h1.get? b = some { ob with slots := sl } := by
  by_cases hb : b ∈ fs
  · exact u.slot b ob q n hb hx
  · exact ⟨ob.slots, u.keep b ob q n hb hx⟩
theorem Un.trans (a : Un fs ex H H1 h h1) (b : Un fs ex H1 H2 h1 h2) : Un fs ex H H2 h h2 where
  keep := fun c ob q n hc hx => b.keep c ob (a.keep c ob q n hc hx) (a.free c ob q n hx) hc hx
  slot := fun c ob q n hc hx => by
    obtain ⟨sl, e1⟩ := a.slot c ob q n hc hx
    obtain ⟨sl', e2⟩ := b.slot c _ e1 (a.free c ob q n hx) hc hx
    exact ⟨sl', e2⟩
  free := fun c ob q n hx => by
    obtain ⟨o', e1⟩ := a.there c ob q hx
    exact b.free c o' e1 (a.free c ob q n hx) hx
  there := fun c ob q hx => by
    obtain ⟨o', e1⟩ := a.there c ob q hx
    exact b.there c o' e1 hx
  tups := fun c xs q => b.tups c xs (a.tups c xs q)
  frzs := fun c ob xs q => b.frzs c ob xs (a.frzs c ob xs q)
  tbls := fun c ps q => by
    obtain ⟨m1, e1⟩ := a.tbls c ps q
    obtain ⟨m2, e2⟩ := b.tbls c _ e1
    exact ⟨m1 ++ m2, by rw [e2, Array.append_assoc]⟩
theorem Un.kept (k : ∀ b u, h.get? b = some u → h'.get? b = some u) : Un fs ex H H h h' :=
  ⟨fun b ob q _ _ _ => k b ob q, fun b ob q _ _ _ => ⟨ob.slots, k b ob q⟩, fun _ _ _ n _ => n, fun b ob q _ => ⟨ob, k b ob q⟩, fun _ _ q => q, fun _ _ _ q => q, fun _ ps q => ⟨#[], by rw [q]; simp⟩⟩
theorem Un.refl : Un fs ex H H h h := Un.kept fun _ _ q => q
theorem Un.laid (k : ∀ b u, h.get? b = some u → h'.get? b = some u) (hp : h.objs.size ≤ a) (hn : H a = none) : Un fs ex H (upd H a o) h h' where
  keep := fun b u q _ _ _ => k b u q
  slot := fun b u q _ _ _ => ⟨u.slots, k b u q⟩
  free := fun b u q n _ => by rw [upd_ne (Nat.ne_of_lt (Nat.lt_of_lt_of_le (Heap.lt_size q) hp))]; exact n
  there := fun b u q _ => ⟨u, k b u q⟩
  tups := fun b xs q => by rw [upd_ne (ne_of_none q hn)]; exact q
  frzs := fun b u xs q => by rw [upd_ne (ne_of_none q hn)]; exact q
  tbls := fun b ps q => ⟨#[], by rw [upd_ne (ne_of_none q hn), q]; simp⟩
theorem Un.write (mu : Mut (H x)) (he : e = x ∨ H e = some (.own x)) (k : ∀ b u, b ≠ e → h.get? b = some u → h'.get? b = some u) (heo : ∃ u, h'.get? e = some u) : Un fs ex H (upd H x o) h h' := by
  have hx : ∀ b, H b = none → b ≠ x := fun b n z => by subst z; rw [n] at mu; exact mu
  have hb : ∀ b, H b = none → b ≠ e := fun b n z => by
    subst z
    rcases he with r | r
    · exact hx b n r
    · rw [n] at r; cases r
  have hm : ∀ b u, H b = some u → ¬ Mut (some u) → b ≠ x := fun b u q nm z => by subst z; rw [q] at mu; exact nm mu
  refine ⟨fun b u q n _ _ => k b u (hb b n) q, fun b u q n _ _ => ⟨u.slots, k b u (hb b n) q⟩, fun b u q n _ => by rw [upd_ne (hx b n)]; exact n, fun b u q _ => ?_,
    fun b xs q => by rw [upd_ne (hm b _ q fun z => z)]; exact q, fun b u xs q => by rw [upd_ne (hm b _ q fun z => z)]; exact q, fun b ps q => ⟨#[], by rw [upd_ne (hm b _ q fun z => z), q]; simp⟩⟩
  by_cases hbe : b = e
  · subst hbe; exact heo
  · exact ⟨u, k b u hbe q⟩
theorem Un.mono (u : Un fs ex H H1 h h1) (hs : ∀ b ∈ fs, b ∈ fs') (hx : ∀ b ∈ ex, b ∈ ex') : Un fs' ex' H H1 h h1 :=
  ⟨fun b ob q n hb he => u.keep b ob q n (fun z => hb (hs b z)) fun z => he (hx b z), fun _ _ q n _ he => u.any q n fun z => he (hx _ z), fun b ob q n he => u.free b ob q n fun z => he (hx b z), fun b ob q he => u.there b ob q fun z => he (hx b z), u.tups, u.frzs, u.tbls⟩
end
def trk (h : Heap) (H : Hp) : List Addr := (List.range h.objs.size).filter fun a => (H a).isSome
def hidT (h : Heap) (H : Hp) : Heap := PySem.W.hideAll h (trk h H)
theorem hidT_size (h : Heap) (H : Hp) : (hidT h H).objs.size = h.objs.size := PySem.W.hideAll_size _ _
theorem hidT_get {h : Heap} {H : Hp} {b : Addr} {o : Obj} (e : h.get? b = some o) (n : H b = none) : (hidT h H).get? b = some o :=
  PySem.W.hideAll_get _ e fun hm => by
    have q : (H b).isSome = true := (List.mem_filter.mp hm).2
    rw [n] at q; simp at q
theorem of_hidT {h : Heap} {H : Hp} {b : Addr} {o : Obj} (e : (hidT h H).get? b = some o) : h.get? b = some o ∧ H b = none := by
  have e' : h.get? b = some o := PySem.W.of_hideAll (trk h H) e
  refine ⟨e', ?_⟩
  cases q : H b with
  | none => rfl
  | some x =>
    have hm : b ∈ trk h H := List.mem_filter.mpr ⟨List.mem_range.mpr (Heap.lt_size e'), by simp [q]⟩
    have z : (hidT h H).get? b = none := PySem.W.hideAll_none (trk h H) hm
    rw [z] at e; cases e
def allNews (g h : Heap) (L : Addr) : List (Addr × Obj) := (List.range h.objs.size).filterMap fun a => if a = L ∨ (g.get? a).isSome = true then none else (h.get? a).map fun o => (a, o)
def rest (g h : Heap) (L d : Addr) : List (Addr × Obj) := (allNews g h L).filter fun p => decide (p.1 ≠ d)
end L2
namespace L2
open PySem PySem.Spec PyProof.Rows
structure Mod (K : PySem.W.Frag) (mg : Str → Option Value) (base : Heap) : Prop where
  kin : K.In base
  glob : base.Ns mainGlobals mg
  blt : ∃ mb, base.Ns builtinsNs mb ∧ ∀ x : Str, x ≠ "__name__" → mb x = bootBuiltins x
  nolimit : base.NoLimit
structure Cx where
  prog : Program
  w : World
  K : PySem.W.Frag
  mg : Str → Option Value
  base : Heap
  A : Around
  N : List Str
  s₀ : Shared
  H₀ : Hp
  env : Env
  outer : List Env
  stack : List Env
  ex : List Addr
  fn : Str → Bool
  calm : Bool
  pn : List (Addr × Obj)
  xe : Value → Shared → Prop
def frs (l : List Env) : List Addr := l.filterMap (·.frame)
abbrev Cx.fs (X : Cx) : List Addr := frs X.outer
def Vis (sc : Scope) (x : Str) : Prop := sc.names.lookup x = some .local ∨ sc.names.lookup x = some .cell ∨ sc.names.lookup x = some .free
def Loc (sc : Scope) (x : Str) : Prop := sc.names.lookup x = some .local ∨ sc.names.lookup x = some .cell
def Look (env : Env) (h : Heap) (m : Str → Option Value) (x : Str) (u : Value) : Prop :=
  (env.kindOf x = some .local ∧ m x = some u) ∨ ((env.kindOf x = some .cell ∨ env.kindOf x = some .free) ∧ ∃ c, env.cells.lookup x = some c ∧ h.IsCell c (some u))
structure Cx.Ok (X : Cx) : Prop where
  mod : Mod X.K X.mg X.base
  kind : X.env.scope.kind = .function
  glob : X.env.globals = mainGlobals
  blt : X.env.builtins = builtinsNs
  above : X.s₀.heap.objs.size ≤ X.env.locals
  inj : ∀ x y c, X.env.cells.lookup x = some c → X.env.cells.lookup y = some c → x = y
  has : ∀ x, (X.env.kindOf x = some .cell ∨ X.env.kindOf x = some .free) → ∃ c, X.env.cells.lookup x = some c
  cab : ∀ x c, X.fn x = true → X.env.cells.lookup x = some c → X.s₀.heap.objs.size ≤ c
  hd : X.calm = true → X.A.handled = none
  frames : X.A.frames = some X.stack
  stk : X.stack = X.outer ∨ (X.stack = X.env :: X.outer ∧ X.env.frame = some X.env.locals)
  exf : ∀ b ∈ X.ex, b ≠ X.env.locals ∧ ∀ x c, X.env.cells.lookup x = some c → c ≠ b
  bs : ∀ b o, X.base.get? b = some o → X.s₀.heap.get? b = some o ∧ X.H₀ b = none
  bsz : X.base.objs.size ≤ X.s₀.heap.objs.size
  noex : ∀ b o, X.base.get? b = some o → b ∉ X.ex
  exfs : ∀ b ∈ X.ex, b ∉ X.fs
  funs : X.s₀.heap.FunFrames X.base X.outer
  frf : ∀ b ∈ X.fs, X.H₀ b = none
structure Inv (X : Cx) (pins : List (Addr × Obj)) (σ : List (Option V)) (H : Hp) (s : Shared) : Prop where
  ok : X.Ok
  os : s.os = X.s₀.os
  bare : AllBare s.gens
  base : Un X.fs X.ex X.H₀ H X.s₀.heap s.heap
  loc : ∃ m, s.heap.Ns X.env.locals m ∧ ∀ (i : Nat) (x : Str) (v : V), X.N[i]? = some x → σ[i]? = some (some v) → Vis X.env.scope x → ∃ u, RelV v u ∧ Look X.env s.heap m x u
  cell : ∀ x c, X.env.cells.lookup x = some c → ∃ v, s.heap.IsCell c v
  free : H X.env.locals = none
  freeC : ∀ x c, X.env.cells.lookup x = some c → H c = none
  pin : ∀ p ∈ X.pn ++ pins, s.heap.get? p.1 = some p.2 ∧ H p.1 = none ∧ p.1 ≠ X.env.locals ∧ p.1 ∉ X.fs ∧ ∀ v, p.2.data ≠ .cell v
  hok : HOk X.prog X.w H s.heap
  len : σ.length = X.N.length
section
variable {X : Cx} {pins : List (Addr × Obj)} {σ : List (Option V)} {H H' : Hp} {s : Shared} {h' : Heap}
theorem Cx.Ok.nofr (ok : X.Ok) {b : Addr} {o : Obj} (e : X.base.get? b = some o) : b ∉ X.fs := fun hb => by
  have := (ok.funs.mem hb).1
  rw [e] at this; cases this
theorem Inv.bs (I : Inv X pins σ H s) : ∀ b o, X.base.get? b = some o → s.heap.get? b = some o ∧ H b = none := fun b o e =>
  ⟨I.base.keep b o (I.ok.bs b o e).1 (I.ok.bs b o e).2 (I.ok.nofr e) (I.ok.noex b o e), I.base.free b o (I.ok.bs b o e).1 (I.ok.bs b o e).2 (I.ok.noex b o e)⟩
theorem Inv.bk (I : Inv X pins σ H s) : ∀ b o, X.base.get? b = some o → s.heap.get? b = some o := fun b o e => (I.bs b o e).1
theorem Inv.mod (I : Inv X pins σ H s) : Mod X.K X.mg X.base := I.ok.mod
theorem Inv.kIn (I : Inv X pins σ H s) : X.K.In s.heap := I.ok.mod.kin.keeps I.bk
theorem Inv.nolimit (I : Inv X pins σ H s) : s.heap.NoLimit := I.ok.mod.nolimit.keeps I.bk
theorem Inv.fr (I : Inv X pins σ H s) : ∃ m, Fr X.base X.env.locals s.heap m :=
  let ⟨m, hn, _⟩ := I.loc
  ⟨m, hn, I.bk, Nat.le_trans I.ok.bsz I.ok.above⟩
theorem Inv.lt (I : Inv X pins σ H s) : X.env.locals < s.heap.objs.size := let ⟨_, hn, _⟩ := I.loc; hn.lt
theorem Inv.sz (I : Inv X pins σ H s) : X.s₀.heap.objs.size ≤ s.heap.objs.size := Nat.le_trans I.ok.above (Nat.le_of_lt I.lt)
theorem Inv.nofs (I : Inv X pins σ H s) {a : Addr} (h : s.heap.objs.size ≤ a) : a ∉ X.fs := fun hb => by
  obtain ⟨_, o, ho, _⟩ := I.ok.funs.mem hb
  exact absurd (Nat.lt_of_lt_of_le (Heap.lt_size ho) (Nat.le_trans I.sz h)) (Nat.lt_irrefl _)
theorem Inv.cne (I : Inv X pins σ H s) : ∀ x c, X.env.cells.lookup x = some c → c ≠ X.env.locals := fun x c e z => by
  obtain ⟨v, o, ho, hd⟩ := I.cell x c e
  obtain ⟨m, ⟨o', es, ep, ho', hd', _⟩, _⟩ := I.loc
  rw [z, ho'] at ho; cases ho; rw [hd'] at hd; cases hd
theorem Inv.funs (I : Inv X pins σ H s) : s.heap.FunFrames X.base X.outer := by
  have all : ∀ (l : List Env), (∀ b ∈ frs l, b ∈ X.fs) → X.s₀.heap.FunFrames X.base l → s.heap.FunFrames X.base l := by
    intro l
    induction l with
    | nil => intro _ _; trivial
    | cons env r ih =>
      intro hs hl
      obtain ⟨hk, ⟨L, o, hf, hn, ho, hd⟩, hr⟩ := hl
      have hL : L ∈ X.fs := hs L (by unfold frs; rw [List.filterMap_cons, hf]; exact List.mem_cons_self)
      obtain ⟨sl, e⟩ := I.base.slot L o ho (I.ok.frf L hL) hL fun z => I.ok.exfs L z hL
      exact ⟨hk, ⟨L, _, hf, hn, e, hd⟩, ih (fun b hb => hs b (by unfold frs; rw [List.filterMap_cons, hf]; exact List.mem_cons_of_mem _ hb)) hr⟩
  exact all X.outer (fun _ hb => hb) I.ok.funs
theorem Inv.stack (I : Inv X pins σ H s) : s.heap.FunFrames X.base X.stack := by
  rcases I.ok.stk with e | ⟨e, hf⟩
  · rw [e]; exact I.funs
  · rw [e]
    obtain ⟨m, hn, _⟩ := I.loc
    refine .cons (by rw [I.ok.kind]; decide) hf hn ?_ I.funs
    exact Heap.get?_none_of_le (Nat.le_trans I.ok.bsz I.ok.above)
theorem Inv.stkSub (I : Inv X pins σ H s) : ∀ b ∈ frs X.stack, b ∈ X.env.locals :: X.fs := fun b hb => by
  rcases I.ok.stk with e | ⟨e, hf⟩
  · rw [e] at hb; exact List.mem_cons_of_mem _ hb
  · rw [e] at hb
    unfold frs at hb
    rw [List.filterMap_cons, hf] at hb
    exact hb
theorem Inv.stkFree (I : Inv X pins σ H s) : ∀ b ∈ frs X.stack, H b = none := fun b hb => by
  rcases List.mem_cons.mp (I.stkSub b hb) with e | hb
  · rw [e]; exact I.free
  · obtain ⟨_, o, ho, _⟩ := I.ok.funs.mem hb
    exact I.base.free b o ho (I.ok.frf b hb) fun z => I.ok.exfs b z hb
theorem Inv.step {g' : Array GenState} {t' : Nat} {d' : Drawn} {ch : List Addr} (I : Inv X pins σ H s)
    (hch : ∀ b ∈ ch, (b ∈ X.ex ∨ X.s₀.heap.objs.size ≤ b) ∧ b ≠ X.env.locals ∧ (∀ x c, X.env.cells.lookup x = some c → c ≠ b) ∧ ∀ p ∈ X.pn ++ pins, p.1 ≠ b)
    (keep : ∀ b o, b ≠ X.env.locals → b ∉ X.fs → b ∉ ch → s.heap.get? b = some o → H b = none → h'.get? b = some o)
    (slot : ∀ b o, b ≠ X.env.locals → b ∈ X.fs → b ∉ ch → s.heap.get? b = some o → H b = none → ∃ sl, h'.get? b = some { o with slots := sl }) (free : ∀ b o, b ∉ ch → s.heap.get? b = some o → H b = none → H' b = none)
    (there : ∀ b o, b ∉ ch → s.heap.get? b = some o → ∃ o', h'.get? b = some o')
    (tups : ∀ b xs, H b = some (.tup xs) → H' b = some (.tup xs)) (frzs : ∀ b o u, H b = some (.frz o u) → H' b = some (.frz o u)) (tbls : ∀ b ps, H b = some (.tbl ps) → ∃ more, H' b = some (.tbl (ps ++ more)))
    (ns : ∀ m, s.heap.Ns X.env.locals m → h'.Ns X.env.locals m) (hok : HOk X.prog X.w H' h') (hg : AllBare g') :
    Inv X pins σ H' { s with heap := h', gens := g', drawn := d', toks := t' } := by
  have neL : ∀ b o, X.s₀.heap.get? b = some o → b ≠ X.env.locals := fun b o e => Nat.ne_of_lt (Nat.lt_of_lt_of_le (Heap.lt_size e) I.ok.above)
  have neC : ∀ b o, X.s₀.heap.get? b = some o → b ∉ X.ex → b ∉ ch := fun b o e hx hb => by
    rcases (hch b hb).1 with z | z
    · exact hx z
    · exact absurd (Nat.lt_of_lt_of_le (Heap.lt_size e) z) (Nat.lt_irrefl _)
  have cellK : ∀ x c, X.env.cells.lookup x = some c → ∀ v, s.heap.IsCell c v → h'.IsCell c v := fun x c e v ⟨o, ho, hd⟩ => by
    have nch : c ∉ ch := fun z => (hch c z).2.2.1 x c e rfl
    by_cases hc : c ∈ X.fs
    · obtain ⟨sl, q⟩ := slot c o (I.cne x c e) hc nch ho (I.freeC x c e)
      exact ⟨_, q, hd⟩
    · exact ⟨o, keep c o (I.cne x c e) hc nch ho (I.freeC x c e), hd⟩
  refine ⟨I.ok, I.os, hg, ⟨fun b o e n hb hx => ?_, fun b o e n hb hx => ?_, fun b o e n hx => ?_, fun b o e hx => ?_, fun b xs e => tups b xs (I.base.tups b xs e), fun b o xs e => frzs b o xs (I.base.frzs b o xs e), fun b ps e => ?_⟩, ?_, fun x c e => ?_, ?_, fun x c e => ?_, fun p hp => ?_, hok, I.len⟩
  · exact keep b o (neL b o e) hb (neC b o e hx) (I.base.keep b o e n hb hx) (I.base.free b o e n hx)
  · obtain ⟨sl, e1⟩ := I.base.slot b o e n hb hx
    obtain ⟨sl', e2⟩ := slot b _ (neL b o e) hb (neC b o e hx) e1 (I.base.free b o e n hx)
    exact ⟨sl', e2⟩
  · obtain ⟨o', e1⟩ := I.base.there b o e hx
    exact free b o' (neC b o e hx) e1 (I.base.free b o e n hx)
  · obtain ⟨o', e1⟩ := I.base.there b o e hx
    exact there b o' (neC b o e hx) e1
  · obtain ⟨m1, e1⟩ := I.base.tbls b ps e
    obtain ⟨m2, e2⟩ := tbls b _ e1
    exact ⟨m1 ++ m2, by rw [e2, Array.append_assoc]⟩
  · obtain ⟨m, hn, hl⟩ := I.loc
    refine ⟨m, ns m hn, fun i x v e1 e2 e3 => ?_⟩
    obtain ⟨u, r, l⟩ := hl i x v e1 e2 e3
    refine ⟨u, r, ?_⟩
    rcases l with l | ⟨k, c, e, z⟩
    · exact .inl l
    · exact .inr ⟨k, c, e, cellK x c e _ z⟩
  · obtain ⟨v, z⟩ := I.cell x c e
    exact ⟨v, cellK x c e v z⟩
  · obtain ⟨m, ⟨o, _, _, ho, _⟩, _⟩ := I.loc
    exact free _ o (fun z => (hch _ z).2.1 rfl) ho I.free
  · obtain ⟨v, o, ho, hd⟩ := I.cell x c e
    exact free c o (fun z => (hch c z).2.2.1 x c e rfl) ho (I.freeC x c e)
  · obtain ⟨e, n, ne, nf, d⟩ := I.pin p hp
    have nch : p.1 ∉ ch := fun z => (hch p.1 z).2.2.2 p hp rfl
    exact ⟨keep p.1 p.2 ne nf nch e n, free p.1 p.2 nch e n, ne, nf, d⟩
theorem Inv.un {t' : Nat} (I : Inv X pins σ H s) (u : Un X.fs [] H H' s.heap h') (hok : HOk X.prog X.w H' h') : Inv X pins σ H' { s with heap := h', toks := t' } := by
  obtain ⟨m, ⟨o, es, ep, ho, r⟩, _⟩ := id I.loc
  obtain ⟨sl, hL⟩ := u.any ho I.free (by simp)
  exact I.step (g' := s.gens) (d' := s.drawn) (ch := []) (fun _ z => nomatch z) (fun b o _ hb _ e n => u.keep b o e n hb (by simp)) (fun b o _ hb _ e n => u.slot b o e n hb (by simp)) (fun b o _ e n => u.free b o e n (by simp)) (fun b o _ e => u.there b o e (by simp)) u.tups u.frzs u.tbls (fun m' hm => by
    obtain ⟨o', es', ep', ho', r'⟩ := hm
    rw [ho] at ho'; cases ho'
    exact ⟨_, es', ep', hL, r'⟩) hok I.bare
theorem Inv.call {g' : Array GenState} {t' : Nat} {d' : Drawn} {ch : List Addr} (I : Inv X pins σ H s) (u : Un (frs X.stack) ch H H' s.heap h') (hok : HOk X.prog X.w H' h') (hg : AllBare g')
    (hch : ∀ b ∈ ch, (b ∈ X.ex ∨ X.s₀.heap.objs.size ≤ b) ∧ b ≠ X.env.locals ∧ (∀ x c, X.env.cells.lookup x = some c → c ≠ b) ∧ ∀ p ∈ X.pn ++ pins, p.1 ≠ b) :
    Inv X pins σ H' { s with heap := h', gens := g', drawn := d', toks := t' } := by
  obtain ⟨m, ⟨o, es, ep, ho, r⟩, _⟩ := id I.loc
  obtain ⟨sl, hL⟩ := u.any ho I.free fun z => (hch _ z).2.1 rfl
  exact I.step (ch := ch) hch (fun b o hL hb hc e n => u.keep b o e n (fun z => (List.mem_cons.mp (I.stkSub b z)).elim hL hb) hc) (fun b o _ _ hc e n => u.any e n hc) (fun b o hc e n => u.free b o e n hc) (fun b o hc e => u.there b o e hc) u.tups u.frzs u.tbls (fun m' hm => by
    obtain ⟨o', es', ep', ho', r'⟩ := hm
    rw [ho] at ho'; cases ho'
    exact ⟨_, es', ep', hL, r'⟩) hok hg
theorem Inv.turned {t' : Nat} {it : Addr} (I : Inv X pins σ H s) (k : ∀ b o, b ≠ it → s.heap.get? b = some o → h'.get? b = some o) (hn : H it = none) (hL : it ≠ X.env.locals)
    (h1 : it ∈ X.ex ∨ X.s₀.heap.objs.size ≤ it) (h2 : ∀ x c, X.env.cells.lookup x = some c → c ≠ it) (h3 : ∀ p ∈ X.pn ++ pins, p.1 ≠ it) : Inv X pins σ H { s with heap := h', toks := t' } := by
  have nit : ∀ b u, H b = some u → b ≠ it := fun b u e z => by rw [z, hn] at e; cases e
  refine I.step (g' := s.gens) (d' := s.drawn) (ch := [it]) (fun b hb => ?_) (fun b o _ _ hc e _ => k b o (fun z => hc (by simp [z])) e) (fun b o _ _ hc e _ => ⟨o.slots, k b o (fun z => hc (by simp [z])) e⟩) (fun _ _ _ _ n => n)
    (fun b o hc e => ⟨o, k b o (fun z => hc (by simp [z])) e⟩) (fun _ _ e => e) (fun _ _ _ e => e) (fun b ps e => ⟨#[], by rw [e]; simp⟩) (fun m hm => ?_) (fun b u e => ?_) I.bare
  · have e : b = it := by simpa using hb
    subst e
    exact ⟨h1, hL, h2, h3⟩
  · obtain ⟨o, es, ep, ho, r⟩ := hm
    exact ⟨o, es, ep, k _ o (Ne.symm hL) ho, r⟩
  · refine (I.hok b u e).stay (fun c v hc q => k c v ?_ q) (fun _ q => q) fun _ _ q => q
    rcases hc with z | z
    · rw [z]; exact nit b u e
    · exact nit c _ z
theorem Inv.tok (I : Inv X pins σ H s) (t : Nat) : Inv X pins σ H { s with toks := t } := I.un (h' := s.heap) (t' := t) Un.refl I.hok
theorem Inv.kept {t' : Nat} (I : Inv X pins σ H s) (k : ∀ b u, s.heap.get? b = some u → h'.get? b = some u) : Inv X pins σ H { s with heap := h', toks := t' } := I.un (Un.kept k) (I.hok.kept k)
theorem Inv.laid {a : Addr} {o : HO} {t' : Nat} (I : Inv X pins σ H s) (k : ∀ b u, s.heap.get? b = some u → h'.get? b = some u) (hp : s.heap.objs.size ≤ a) (new : ObjOk X.prog X.w (upd H a o) h' a o) :
    Inv X pins σ (upd H a o) { s with heap := h', toks := t' } := I.un (Un.laid k hp (I.hok.fresh hp)) (I.hok.laid k hp new)
theorem Inv.write {x e : Addr} {o : HO} {t' : Nat} (I : Inv X pins σ H s) (mu : Mut (H x)) (he : e = x ∨ H e = some (.own x)) (k : ∀ b u, b ≠ e → s.heap.get? b = some u → h'.get? b = some u) (heo : ∃ u, h'.get? e = some u)
    (new : ObjOk X.prog X.w (upd H x o) h' x o) : Inv X pins σ (upd H x o) { s with heap := h', toks := t' } := I.un (Un.write mu he k heo) (I.hok.write mu he k heo new)
theorem Inv.weak {σ' : List (Option V)} (I : Inv X pins σ H s) (hl : σ'.length = σ.length) (w : ∀ (i : Nat) v, σ'[i]? = some (some v) → σ[i]? = some (some v)) : Inv X pins σ' H s :=
  ⟨I.ok, I.os, I.bare, I.base, let ⟨m, hn, hl'⟩ := I.loc; ⟨m, hn, fun i x v e1 e2 e3 => hl' i x v e1 (w i v e2) e3⟩, I.cell, I.free, I.freeC, I.pin, I.hok, hl.trans I.len⟩
theorem Inv.pins_of {pins' : List (Addr × Obj)} (I : Inv X pins σ H s) (h : ∀ p ∈ pins', s.heap.get? p.1 = some p.2 ∧ H p.1 = none ∧ p.1 ≠ X.env.locals ∧ p.1 ∉ X.fs ∧ ∀ v, p.2.data ≠ .cell v) : Inv X pins' σ H s :=
  ⟨I.ok, I.os, I.bare, I.base, I.loc, I.cell, I.free, I.freeC, fun p hp => (List.mem_append.mp hp).elim (fun z => I.pin p (List.mem_append_left _ z)) (h p), I.hok, I.len⟩
theorem nodup_ix {N : List Str} (hN : N.Nodup) {i j : Nat} {x : Str} (a : N[i]? = some x) (b : N[j]? = some x) : i = j := by
  obtain ⟨h1, e1⟩ := List.getElem?_eq_some_iff.mp a
  obtain ⟨h2, e2⟩ := List.getElem?_eq_some_iff.mp b
  exact (List.getElem_inj hN).mp (e1.trans e2.symm)
theorem store_ok2 {M : Model} {A : Around} {E : Value → Shared → Prop} {i : Nat} {x : Str} {v : V} {u : Value} {Q : Unit → Shared → Prop} (I : Inv X pins σ H s) (hN : X.N.Nodup) (hi : X.N[i]? = some x) (hx : Loc X.env.scope x) (r : RelV v u)
    (h : ∀ s', Inv X pins (σ.set i (some v)) H s' → (∃ a, Heap.SameBut a s.heap s'.heap ∧ (a = X.env.locals ∨ X.env.cells.lookup x = some a)) → Q () s') (hf : X.fn x = true ∨ X.env.scope.names.lookup x = some .local := by first | exact .inl rfl | exact .inr rfl | assumption) : wpAny M A (storeName X.env x u) Q E s := by
  obtain ⟨m, hn, hl⟩ := id I.loc
  have hcls : (X.env.scope.kind == .class || (X.env.scope.kind == .module && X.env.locals != X.env.globals)) = false := by rw [I.ok.kind]; rfl
  have hiσ : i < σ.length := by rw [I.len]; exact (List.getElem?_eq_some_iff.mp hi).1
  have cne := I.cne
  have tracked : ∀ {a : Addr} {h' : Heap}, (∃ o, s.heap.get? a = some o ∧ H a = none) → Heap.SameBut a s.heap h' → HOk X.prog X.w H h' := fun {a h'} ha hs b ob e => by
    obtain ⟨_, _, hfree⟩ := ha
    refine (I.hok b ob e).stay (fun c w' hc q => (hs.2 c ?_).trans q) (fun _ q => q) fun _ _ q => q
    rintro rfl
    rcases hc with rfl | hc
    · rw [hfree] at e; cases e
    · rw [hfree] at hc; cases hc
  rcases hx with hk | hk
  · refine wpAny_storeName_local hk hn (fun h' hn' hs => ?_) hcls
    obtain ⟨oL, _, _, hoL, _⟩ := id hn
    refine h _ ⟨I.ok, I.os, I.bare, ⟨fun b o e n hb hx => ?_, fun b o e n hb hx => ?_, I.base.free, fun b o e hx => ?_, I.base.tups, I.base.frzs, I.base.tbls⟩, ⟨_, hn', fun j y v' e1 e2 e3 => ?_⟩, fun y c e => ?_, I.free, I.freeC, fun p hp => ?_, tracked ⟨oL, hoL, I.free⟩ hs, by simpa using I.len⟩ ⟨_, hs, .inl rfl⟩
    · exact (hs.2 b (Nat.ne_of_lt (Nat.lt_of_lt_of_le (Heap.lt_size e) I.ok.above))).trans (I.base.keep b o e n hb hx)
    · obtain ⟨sl, e1⟩ := I.base.slot b o e n hb hx
      exact ⟨sl, (hs.2 b (Nat.ne_of_lt (Nat.lt_of_lt_of_le (Heap.lt_size e) I.ok.above))).trans e1⟩
    · obtain ⟨o', e1⟩ := I.base.there b o e hx
      exact ⟨o', (hs.2 b (Nat.ne_of_lt (Nat.lt_of_lt_of_le (Heap.lt_size e) I.ok.above))).trans e1⟩
    · by_cases hj : j = i
      · subst hj
        rw [hi] at e1; cases e1
        rw [List.getElem?_set_self hiσ] at e2
        cases e2
        exact ⟨u, r, .inl ⟨hk, by simp⟩⟩
      · rw [List.getElem?_set_ne (Ne.symm hj)] at e2
        obtain ⟨u', r', q⟩ := hl j y v' e1 e2 e3
        refine ⟨u', r', ?_⟩
        rcases q with ⟨k, e⟩ | ⟨k, c, e, z⟩
        · refine .inl ⟨k, ?_⟩
          have : y ≠ x := fun e => hj (nodup_ix hN e1 (e ▸ hi))
          simp [this, e]
        · exact .inr ⟨k, c, e, z.sameBut hs (cne y c e)⟩
    · obtain ⟨w', z⟩ := I.cell y c e
      exact ⟨w', z.sameBut hs (cne y c e)⟩
    · obtain ⟨e, n, ne, nf, d⟩ := I.pin p hp
      exact ⟨(hs.2 p.1 ne).trans e, n, ne, nf, d⟩
  · have hfn : X.fn x = true := by
      rcases hf with z | z
      · exact z
      · rw [z] at hk; cases hk
    obtain ⟨c, hc⟩ := I.ok.has x (.inl hk)
    obtain ⟨w', z⟩ := I.cell x c hc
    refine wpAny_storeName_cell I.ok.kind hk hc z (fun h' hc' hs => ?_)
    obtain ⟨oc, hoc, hocd⟩ := id z
    refine h { s with heap := h' } ⟨I.ok, I.os, I.bare, ⟨fun b o e n hb hx => ?_, fun b o e n hb hx => ?_, I.base.free, fun b o e hx => ?_, I.base.tups, I.base.frzs, I.base.tbls⟩, ⟨m, hn.sameBut hs (Ne.symm (cne x c hc)), fun j y v' e1 e2 e3 => ?_⟩, fun y c' e => ?_, I.free, I.freeC, fun p hp => ?_, tracked ⟨oc, hoc, I.freeC x c hc⟩ hs, by simpa using I.len⟩ ⟨c, hs, .inr hc⟩
    · exact (hs.2 b (Nat.ne_of_lt (Nat.lt_of_lt_of_le (Heap.lt_size e) (I.ok.cab x c hfn hc)))).trans (I.base.keep b o e n hb hx)
    · obtain ⟨sl, e1⟩ := I.base.slot b o e n hb hx
      exact ⟨sl, (hs.2 b (Nat.ne_of_lt (Nat.lt_of_lt_of_le (Heap.lt_size e) (I.ok.cab x c hfn hc)))).trans e1⟩
    · obtain ⟨o', e1⟩ := I.base.there b o e hx
      exact ⟨o', (hs.2 b (Nat.ne_of_lt (Nat.lt_of_lt_of_le (Heap.lt_size e) (I.ok.cab x c hfn hc)))).trans e1⟩
    · by_cases hj : j = i
      · subst hj
        rw [hi] at e1; cases e1
        rw [List.getElem?_set_self hiσ] at e2
        cases e2
        exact ⟨u, r, .inr ⟨.inl hk, c, hc, hc'⟩⟩
      · rw [List.getElem?_set_ne (Ne.symm hj)] at e2
        obtain ⟨u', r', q⟩ := hl j y v' e1 e2 e3
        refine ⟨u', r', ?_⟩
        rcases q with q | ⟨k, c', e, z'⟩
        · exact .inl q
        · refine .inr ⟨k, c', e, z'.sameBut hs ?_⟩
          rintro rfl
          exact hj (nodup_ix hN e1 (I.ok.inj _ _ _ e hc ▸ hi))
    · by_cases hcc : c' = c
      · subst hcc; exact ⟨_, hc'⟩
      · obtain ⟨w2, z2⟩ := I.cell y c' e
        exact ⟨w2, z2.sameBut hs hcc⟩
    · obtain ⟨e, n, ne, nf, d⟩ := I.pin p hp
      refine ⟨(hs.2 p.1 ?_).trans e, n, ne, nf, d⟩
      intro q
      rw [q, hoc] at e
      have q' : oc = p.2 := Option.some.inj e
      exact d w' (by rw [← q']; exact hocd)
theorem store_ok {M : Model} {A : Around} {E : Value → Shared → Prop} {i : Nat} {x : Str} {v : V} {u : Value} {Q : Unit → Shared → Prop} (I : Inv X pins σ H s) (hN : X.N.Nodup) (hi : X.N[i]? = some x) (hx : Loc X.env.scope x) (r : RelV v u)
    (h : ∀ s', Inv X pins (σ.set i (some v)) H s' → Q () s') (hf : X.fn x = true ∨ X.env.scope.names.lookup x = some .local := by first | exact .inl rfl | exact .inr rfl | assumption) : wpAny M A (storeName X.env x u) Q E s :=
  store_ok2 I hN hi hx r (fun s' I' _ => h s' I') hf
theorem Inv.call' {s' : Shared} {ch : List Addr} (I : Inv X pins σ H s) (ho : s'.os = s.os) (u : Un (frs X.stack) ch H H' s.heap s'.heap) (hok : HOk X.prog X.w H' s'.heap) (hg : AllBare s'.gens)
    (hch : ∀ b ∈ ch, (b ∈ X.ex ∨ X.s₀.heap.objs.size ≤ b) ∧ b ≠ X.env.locals ∧ (∀ x c, X.env.cells.lookup x = some c → c ≠ b) ∧ ∀ p ∈ X.pn ++ pins, p.1 ≠ b) : Inv X pins σ H' s' := by
  obtain ⟨h', g', d', t', o'⟩ := s'
  have e : o' = s.os := ho
  subst e
  exact I.call (g' := g') (t' := t') (d' := d') u hok hg hch
end
abbrev XK := Value → Option Addr → Hp → Prop
abbrev St := List (Option V)
abbrev VK := V → Hp → Prop
abbrev TE := St → Hp → VK → Prop
abbrev TT := St → Hp → (Bool → Hp → Prop) → Prop
abbrev TA := St → Hp → (List V → Hp → Prop) → Prop
structure Ends where
  nx : St → Hp → Prop
  rt : VK
  bk : St → Hp → Prop := fun _ _ => False
  ct : St → Hp → Prop := fun _ _ => False
abbrev TS := Ends → St → Hp → Prop
def EP (X : Cx) (pins : List (Addr × Obj)) (σ : St) (Q : VK) (u : Value) (s' : Shared) : Prop := ∃ v H', Inv X pins σ H' s' ∧ RelV v u ∧ Q v H'
def TP (X : Cx) (pins : List (Addr × Obj)) (σ : St) (Q : Bool → Hp → Prop) (b : Bool) (s' : Shared) : Prop := ∃ H', Inv X pins σ H' s' ∧ Q b H'
def AP (X : Cx) (pins : List (Addr × Obj)) (σ : St) (Q : List V → Hp → Prop) (us : List Value) (s' : Shared) : Prop := ∃ vs H', Inv X pins σ H' s' ∧ Vals vs us ∧ Q vs H'
def SP (X : Cx) (pins : List (Addr × Obj)) (D : Ends) (f : Flow) (s' : Shared) : Prop :=
  match f with
  | .next => ∃ σ' H', Inv X pins σ' H' s' ∧ D.nx σ' H'
  | .brk => ∃ σ' H', Inv X pins σ' H' s' ∧ D.bk σ' H'
  | .cont => ∃ σ' H', Inv X pins σ' H' s' ∧ D.ct σ' H'
  | .ret u => ∃ v σ' H', Inv X pins σ' H' s' ∧ RelV v u ∧ D.rt v H'
def PE (X : Cx) (e : Expr) (t : TE) : Prop :=
  ∀ (pins : List (Addr × Obj)) (s : Shared) (σ : St) (H : Hp) (Q : VK), Inv X pins σ H s → t σ H Q → wpAny (model X.prog X.w) X.A (eval e X.env) (EP X pins σ Q) X.xe s
def PT (X : Cx) (e : Expr) (t : TT) : Prop :=
  ∀ (pins : List (Addr × Obj)) (s : Shared) (σ : St) (H : Hp) (Q : Bool → Hp → Prop), Inv X pins σ H s → t σ H Q → wpAny (model X.prog X.w) X.A (isTrue e X.env (eval e X.env)) (TP X pins σ Q) X.xe s
def PW (X : Cx) (e : Expr) (t : TT) : Prop :=
  ∀ (whole : Sem Value) (pins : List (Addr × Obj)) (s : Shared) (σ : St) (H : Hp) (Q : Bool → Hp → Prop), Inv X pins σ H s → t σ H Q → wpAny (model X.prog X.w) X.A (isTrue e X.env whole) (TP X pins σ Q) X.xe s
theorem PW.pt {X : Cx} {e : Expr} {t : TT} (h : PW X e t) : PT X e t := h _
def PA (X : Cx) (es : List Expr) (t : TA) : Prop :=
  ∀ (pos : Pos) (pins : List (Addr × Obj)) (s : Shared) (σ : St) (H : Hp) (Q : List V → Hp → Prop), Inv X pins σ H s → t σ H Q → wpAny (model X.prog X.w) X.A (spliced (backTo pos (starEach es X.env))) (AP X pins σ Q) X.xe s
def PS (X : Cx) (st : Stmt) (t : TS) : Prop :=
  ∀ (pins : List (Addr × Obj)) (s : Shared) (σ : St) (H : Hp) (D : Ends), Inv X pins σ H s → t D σ H → wpAny (model X.prog X.w) X.A (exec st X.env) (SP X pins D) X.xe s
def PSs (X : Cx) (st : List Stmt) (t : TS) : Prop :=
  ∀ (pins : List (Addr × Obj)) (s : Shared) (σ : St) (H : Hp) (D : Ends), Inv X pins σ H s → t D σ H → wpAny (model X.prog X.w) X.A (execs st X.env) (SP X pins D) X.xe s
theorem thn {α : Type} {t : Sem α} {Q Q' : α → Shared → Prop} {M : Model} {A : Around} {E : Value → Shared → Prop} {s : Shared} (h : wpAny M A t Q E s) (hQ : ∀ a s, Q a s → Q' a s) : wpAny M A t Q' E s := wpAny_mono h hQ fun _ _ x => x
end L2
namespace L2
open PySem PySem.Spec PyProof.Rows
section
variable {X : Cx}
def tVar (i : Nat) : TE := fun σ H Q => ∃ v, σ[i]? = some (some v) ∧ Q v H
def tC (v : V) : TE := fun _ H Q => Q v H
theorem pe_var {i : Nat} {x : Str} {pos : Pos} (hN : X.N[i]? = some x) (hv : Vis X.env.scope x) (hd : (x == ("__debug__" : Str)) = false := by decide) (hcd : (x == ("__classdict__" : Str)) = false := by decide) : PE X (.Name x pos) (tVar i) := by
  intro pins s σ H Q I h
  obtain ⟨v, e, h⟩ := h
  obtain ⟨m, hn, hl⟩ := I.loc
  obtain ⟨u, r, l⟩ := hl i x v hN e hv
  have fin : EP X pins σ Q u s := ⟨v, H, I, r, h⟩
  rcases l with ⟨hk, hm⟩ | ⟨hk, c, hc, hcell⟩
  · exact wpAny_Name (wpAny_loadName_local I.ok.kind hk hn hm fin) hd
  · rcases hk with hk | hk
    · exact wpAny_Name (wpAny_loadName_cell I.ok.kind hk hc hcell fin) hd
    · exact wpAny_Name (wpAny_loadName_free I.ok.kind hk hc hcell fin hcd) hd
theorem pe_int {i j pos} : PE X (.Constant (.int i) j pos) (tC (.int i)) := fun _ _ _ H _ I h => wpAny_Constant_int ⟨.int i, H, I.tok _, ⟨_, rfl⟩, h⟩
theorem pe_bl {b j pos} : PE X (.Constant (.bool b) j pos) (tC (.bl b)) := fun _ _ _ H _ I h => Constant_bool ⟨.bl b, H, I, rfl, h⟩
theorem pe_non {j pos} : PE X (.Constant .none j pos) (tC .non) := fun _ _ _ H _ I h => Constant_none ⟨.non, H, I, rfl, h⟩
theorem pe_str {x j pos} : PE X (.Constant (.str x) j pos) (tC (.str x)) := fun _ _ _ H _ I h => Calls.Constant_str ⟨.str x, H, I.tok _, ⟨_, rfl⟩, h⟩
def Gl (X : Cx) (x : Str) : Prop := X.env.kindOf x = some .globalImplicit
theorem ld_glob {E : Value → Shared → Prop} {pins : List (Addr × Obj)} {s : Shared} {σ : St} {H : Hp} {x : Str} {u : Value} {pos : Pos} {Q : Value → Shared → Prop} (I : Inv X pins σ H s) (hg : Gl X x) (hm : X.mg x = some u) (h : Q u s)
    (hd : (x == ("__debug__" : Str)) = false := by decide) : wpAny (model X.prog X.w) X.A (eval (.Name x pos) X.env) Q E s :=
  Calls.Name_function_global I.ok.kind hg (Calls.loadGlobal_global (by rw [I.ok.glob]; exact I.mod.glob.keeps I.bk) hm h) hd
theorem ld_blt {E : Value → Shared → Prop} {pins : List (Addr × Obj)} {s : Shared} {σ : St} {H : Hp} {x : Str} {u : Value} {pos : Pos} {Q : Value → Shared → Prop} (I : Inv X pins σ H s) (hg : Gl X x) (hm : X.mg x = none) (hv : bootBuiltins x = some u) (h : Q u s)
    (hn : x ≠ "__name__" := by decide) (hd : (x == ("__debug__" : Str)) = false := by decide) : wpAny (model X.prog X.w) X.A (eval (.Name x pos) X.env) Q E s := by
  obtain ⟨mb, h1, h2⟩ := I.mod.blt
  exact Calls.Name_function_global I.ok.kind hg (Calls.loadGlobal_builtin (by rw [I.ok.glob]; exact I.mod.glob.keeps I.bk) hm (by rw [I.ok.blt]; exact h1.keeps I.bk) ((h2 x hn).trans hv) h) hd
theorem pe_glob {x : Str} {v : V} {u : Value} {pos : Pos} (hg : Gl X x) (hm : X.mg x = some u) (r : RelV v u) (hd : (x == ("__debug__" : Str)) = false := by decide) : PE X (.Name x pos) (tC v) :=
  fun _ _ _ H _ I h => ld_glob I hg hm ⟨v, H, I, r, h⟩ hd
theorem pe_bltn {x : Str} {v : V} {u : Value} {pos : Pos} (hg : Gl X x) (hm : X.mg x = none) (hv : bootBuiltins x = some u) (r : RelV v u) (hn : x ≠ "__name__" := by decide) (hd : (x == ("__debug__" : Str)) = false := by decide) : PE X (.Name x pos) (tC v) :=
  fun _ _ _ H _ I h => ld_blt I hg hm hv ⟨v, H, I, r, h⟩ hn hd
variable {a b : Expr} {ta tb : TE} {pos : Pos}
variable {tA tB' : TT} {rest : List Expr}
def tAnd (t u : TT) : TT := fun σ H Q => t σ H fun c H1 => if c = true then u σ H1 Q else Q false H1
def tOr (t u : TT) : TT := fun σ H Q => t σ H fun c H1 => if c = true then Q true H1 else u σ H1 Q
def tNot (t : TT) : TT := fun σ H Q => t σ H fun c H1 => Q (!c) H1
theorem pw_and1 (ha : PT X a tA) : PW X (.BoolOp .And [a] pos) tA := by
  intro wh pins s σ H Q I h
  refine isTrue_and (thn (ha pins s σ H Q I h) fun c s1 e => ?_)
  cases c with
  | true => exact isTrue_and_nil e
  | false => exact e
theorem pw_or1 (ha : PT X a tA) : PW X (.BoolOp .Or [a] pos) tA := by
  intro wh pins s σ H Q I h
  refine isTrue_or (thn (ha pins s σ H Q I h) fun c s1 e => ?_)
  cases c with
  | false => exact isTrue_or_nil e
  | true => exact e
theorem pw_and (ha : PT X a tA) (hb : PW X (.BoolOp .And (b :: rest) pos) tB') : PW X (.BoolOp .And (a :: b :: rest) pos) (tAnd tA tB') := by
  intro wh pins s σ H Q I h
  refine isTrue_and (thn (ha pins s σ H _ I h) fun c s1 ⟨H1, I1, q1⟩ => ?_)
  cases c with
  | true => exact hb wh pins s1 σ H1 Q I1 q1
  | false => exact ⟨H1, I1, q1⟩
theorem pw_or (ha : PT X a tA) (hb : PW X (.BoolOp .Or (b :: rest) pos) tB') : PW X (.BoolOp .Or (a :: b :: rest) pos) (tOr tA tB') := by
  intro wh pins s σ H Q I h
  refine isTrue_or (thn (ha pins s σ H _ I h) fun c s1 ⟨H1, I1, q1⟩ => ?_)
  cases c with
  | true => exact ⟨H1, I1, q1⟩
  | false => exact hb wh pins s1 σ H1 Q I1 q1
theorem pt_not (ha : PT X a tA) : PT X (.UnaryOp .Not a pos) (tNot tA) := by
  intro pins s σ H Q I h
  exact isTrue_not (ha pins s σ H (fun c H1 => Q (!c) H1) I h)
def tAndV (ta tb : TE) : TE := fun σ H Q => ta σ H fun x H1 => ∃ c, x = .bl c ∧ if c = true then tb σ H1 Q else Q (.bl false) H1
def tNotV (ta : TE) : TE := fun σ H Q => ta σ H fun x H1 => ∃ c, x = .bl c ∧ Q (.bl (!c)) H1
theorem pe_one {op} {t : TE} (h : PE X a t) : PE X (.BoolOp op [a] pos) t := fun pins s σ H Q I hw => BoolOp_one (h pins s σ H Q I hw)
theorem pe_and (ha : PE X a ta) (hb : PE X (.BoolOp .And (b :: rest) pos) tb) : PE X (.BoolOp .And (a :: b :: rest) pos) (tAndV ta tb) := by
  intro pins s σ H Q I h
  refine BoolOp_and (thn (ha pins s σ H _ I h) fun v s1 ⟨x, H1, I1, r1, q1⟩ => ?_)
  obtain ⟨c, rfl, q1⟩ := q1
  cases r1
  refine wpAny_truthy_bool ?_
  cases c with
  | true => exact hb pins s1 σ H1 Q I1 q1
  | false => exact ⟨.bl false, H1, I1, rfl, q1⟩
theorem pe_not (ha : PE X a ta) : PE X (.UnaryOp .Not a pos) (tNotV ta) := by
  intro pins s σ H Q I h
  refine UnaryOp_ (thn (ha pins s σ H _ I h) fun v s1 ⟨x, H1, I1, r1, q1⟩ => ?_)
  obtain ⟨c, rfl, q1⟩ := q1
  cases r1
  exact not_of (wpAny_truthy_bool ⟨.bl (!c), H1, I1, rfl, q1⟩)
end
end L2
namespace L2
open PySem PySem.Spec PyProof.Rows
def SqL (K : PySem.W.Frag) (H : Hp) (a : Addr) (xs : List V) : Prop :=
  Rd H a (.lst xs) ∨
    ∃ (o : Obj) (its : Array Value) (n : Nat), K.lookup a = some o ∧ o.cls = .type "list" ∧ o.dict = none ∧ o.data = .seq its n ∧ its.size ≤ sizeLine ∧ Vals xs its.toList
def SqT (K : PySem.W.Frag) (H : Hp) (a : Addr) (xs : List V) : Prop :=
  Rd H a (.tup xs) ∨
    ∃ (o : Obj) (its : Array Value) (n : Nat), K.lookup a = some o ∧ o.cls = .type "tuple" ∧ o.data = .seq its n ∧ its.size ≤ sizeLine ∧ Vals xs its.toList
def absV : Value → Option V
  | .none => some .non
  | .bool b => some (.bl b)
  | .int i _ => some (.int i)
  | .str x _ => some (.str x)
  | .bytes b _ => some (.byt b)
  | .float b _ => some (.flt b)
  | .ref a => some (.ref a)
  | .type n => some (.ty n)
  | _ => none
theorem RelV.abs {x : V} {u : Value} (r : RelV x u) : absV u = some x := by
  cases x with
  | non => cases r; rfl
  | bl _ => cases r; rfl
  | int _ => obtain ⟨t, rfl⟩ := r; rfl
  | str _ => obtain ⟨t, rfl⟩ := r; rfl
  | byt _ => obtain ⟨t, rfl⟩ := r; rfl
  | flt _ => obtain ⟨t, rfl⟩ := r; rfl
  | ref _ => cases r; rfl
  | ty _ => cases r; rfl
theorem RelV.inj {x y : V} {u : Value} (r : RelV x u) (q : RelV y u) : x = y := Option.some.inj (r.abs.symm.trans q.abs)
theorem Vals.inj : ∀ {xs ys : List V} {us : List Value}, Vals xs us → Vals ys us → xs = ys
  | _, _, _, .nil, .nil => rfl
  | _, _, _, .cons r t, .cons r' t' => by rw [r.inj r', Vals.inj t t']
section
variable {X : Cx} {pins : List (Addr × Obj)} {σ : St} {H : Hp} {s : Shared} {a : Addr} {xs ys : List V}
theorem SqL.of {K : PySem.W.Frag} (h : H a = some (.lst xs)) : SqL K H a xs := .inl (.inl h)
theorem SqT.of {K : PySem.W.Frag} (h : H a = some (.tup xs)) : SqT K H a xs := .inl (.inl h)
theorem Inv.list (I : Inv X pins σ H s) (h : SqL X.K H a xs) : ∃ its : List Value, Vals xs its ∧ PlainL s.heap a its.toArray ∧ xs.length ≤ sizeLine := by
  rcases h with h | ⟨o, its, n, hk, hc, hd, hs, hz, r⟩
  · obtain ⟨z, its, n, r, e⟩ := h.ok I.hok
    exact ⟨its, r, ⟨_, n, e, rfl, rfl, rfl⟩, z⟩
  · refine ⟨its.toList, r, ⟨o, n, I.kIn a o hk, hc, hd, by simpa using hs⟩, ?_⟩
    have e := r.length
    simp only [Array.length_toList] at e
    omega
theorem Inv.tuple (I : Inv X pins σ H s) (h : SqT X.K H a xs) : ∃ its : List Value, Vals xs its ∧ IsTup s.heap a its.toArray ∧ xs.length ≤ sizeLine := by
  rcases h with h | ⟨o, its, n, hk, hc, hs, hz, r⟩
  · obtain ⟨z, its, r, p⟩ := h.ok I.hok
    exact ⟨its, r, p, z⟩
  · refine ⟨its.toList, r, ⟨o, I.kIn a o hk, hc, n, by simpa using hs⟩, ?_⟩
    have e := r.length
    simp only [Array.length_toList] at e
    omega
theorem Inv.list_inj (I : Inv X pins σ H s) (h : SqL X.K H a xs) (h' : SqL X.K H a ys) : xs = ys := by
  obtain ⟨its, r, ⟨o, n, e, _, _, d⟩, _⟩ := I.list h
  obtain ⟨its', r', ⟨o', n', e', _, _, d'⟩, _⟩ := I.list h'
  rw [e] at e'; cases e'
  rw [d] at d'
  injection d' with d1 _
  have : its = its' := by simpa using congrArg Array.toList d1
  subst this
  exact r.inj r'
theorem Inv.tuple_inj (I : Inv X pins σ H s) (h : SqT X.K H a xs) (h' : SqT X.K H a ys) : xs = ys := by
  obtain ⟨its, r, ⟨o, e, _, n, d⟩, _⟩ := I.tuple h
  obtain ⟨its', r', ⟨o', e', _, n', d'⟩, _⟩ := I.tuple h'
  rw [e] at e'; cases e'
  rw [d] at d'
  injection d' with d1 _
  have : its = its' := by simpa using congrArg Array.toList d1
  subst this
  exact r.inj r'
end
abbrev Cx.wish (X : Cx) (E : Value → Shared → Prop) : Cx := { X with xe := E }
abbrev Cx.nox (X : Cx) : Cx := X.wish fun _ _ => False
theorem Cx.Ok.wish {X : Cx} (ok : X.Ok) (E : Value → Shared → Prop) : (X.wish E).Ok :=
  ⟨ok.mod, ok.kind, ok.glob, ok.blt, ok.above, ok.inj, ok.has, ok.cab, ok.hd, ok.frames, ok.stk, ok.exf, ok.bs, ok.bsz, ok.noex, ok.exfs, ok.funs, ok.frf⟩
theorem Cx.Ok.unwish {X : Cx} {E : Value → Shared → Prop} (ok : (X.wish E).Ok) : X.Ok :=
  ⟨ok.mod, ok.kind, ok.glob, ok.blt, ok.above, ok.inj, ok.has, ok.cab, ok.hd, ok.frames, ok.stk, ok.exf, ok.bs, ok.bsz, ok.noex, ok.exfs, ok.funs, ok.frf⟩
section
variable {X : Cx} {pins : List (Addr × Obj)} {σ : St} {H : Hp} {s : Shared} {E : Value → Shared → Prop}
theorem Inv.wish (I : Inv X pins σ H s) (E : Value → Shared → Prop) : Inv (X.wish E) pins σ H s := ⟨I.ok.wish E, I.os, I.bare, I.base, I.loc, I.cell, I.free, I.freeC, I.pin, I.hok, I.len⟩
theorem Inv.unwish (I : Inv (X.wish E) pins σ H s) : Inv X pins σ H s := ⟨I.ok.unwish, I.os, I.bare, I.base, I.loc, I.cell, I.free, I.freeC, I.pin, I.hok, I.len⟩
theorem SP.unwish {D : Ends} {f : Flow} {s' : Shared} (h : SP (X.wish E) pins D f s') : SP X pins D f s' := by
  cases f with
  | next => obtain ⟨σ', H', I, q⟩ := h; exact ⟨σ', H', I.unwish, q⟩
  | brk => obtain ⟨σ', H', I, q⟩ := h; exact ⟨σ', H', I.unwish, q⟩
  | cont => obtain ⟨σ', H', I, q⟩ := h; exact ⟨σ', H', I.unwish, q⟩
  | ret u => obtain ⟨v, σ', H', I, r, q⟩ := h; exact ⟨v, σ', H', I.unwish, r, q⟩
theorem PE.nox {e : Expr} {t : TE} (h : PE X.nox e t) : PE X e t := fun pins s σ H Q I hw =>
  wpAny_mono (h pins s σ H Q (I.wish _) hw) (fun _ _ ⟨v, H', I', r, q⟩ => ⟨v, H', I'.unwish, r, q⟩) fun _ _ z => False.elim z
theorem PT.nox {e : Expr} {t : TT} (h : PT X.nox e t) : PT X e t := fun pins s σ H Q I hw =>
  wpAny_mono (h pins s σ H Q (I.wish _) hw) (fun _ _ ⟨H', I', q⟩ => ⟨H', I'.unwish, q⟩) fun _ _ z => False.elim z
theorem PSs.nox {st : List Stmt} {t : TS} (h : PSs X.nox st t) : PSs X st t := fun pins s σ H D I hw =>
  wpAny_mono (h pins s σ H D (I.wish _) hw) (fun _ _ q => q.unwish) fun _ _ z => False.elim z
end
section
variable {X : Cx} {st : Stmt} {rest : List Stmt} {t u : TS} {e : Expr} {te : TE} {pos : Pos}
def tNext : TS := fun D σ H => D.nx σ H
def tSeq (t u : TS) : TS := fun D σ H => t { D with nx := u D } σ H
theorem pss_nil : PSs X [] tNext := fun _ _ σ H _ I h => wpAny_execs_nil ⟨σ, H, I, h⟩
theorem pss_cons (h1 : PS X st t) (h2 : PSs X rest u) : PSs X (st :: rest) (tSeq t u) := by
  intro pins s σ H D I h
  refine wpAny_execs_cons (thn (h1 pins s σ H { D with nx := u D } I h) fun f s1 q => ?_)
  cases f with
  | next =>
    obtain ⟨σ', H', I', q⟩ := q
    exact h2 pins s1 σ' H' D I' q
  | ret v => exact q
  | brk => exact q
  | cont => exact q
theorem pss_one (h1 : PS X st t) : PSs X [st] t := by
  intro pins s σ H D I h
  refine wpAny_execs_cons (thn (h1 pins s σ H D I h) fun f s1 q => ?_)
  cases f with
  | next => exact wpAny_execs_nil q
  | ret v => exact q
  | brk => exact q
  | cont => exact q
theorem Inv.quiet {pins : List (Addr × Obj)} {σ : St} {H : Hp} {s : Shared} (I : Inv X pins σ H s) : interactive X.env = false := by simp [interactive, I.ok.kind]
def tDrop (te : TE) : TS := fun D σ H => te σ H fun _ H1 => D.nx σ H1
theorem ps_expr (he : PE X e te) (hs : swapsWith e none pos.line X.env = pure false := by rfl) : PS X (.Expr e pos) (tDrop te) := by
  intro pins s σ H D I h
  exact wpAny_Expr_any (thn (he pins s σ H _ I h) fun v s1 ⟨x, H1, I1, r1, q1⟩ => ⟨σ, H1, I1, q1⟩) I.quiet hs
def tRet (te : TE) : TS := fun D σ H => te σ H D.rt
theorem ps_ret (he : PE X e te) : PS X (.Return (some e) pos) (tRet te) := by
  intro pins s σ H D I h
  exact wpAny_Return_some (thn (he pins s σ H _ I h) fun v s1 ⟨x, H1, I1, r1, q1⟩ => ⟨x, σ, H1, I1, r1, q1⟩)
def tIfS (c : TT) (t u : TS) : TS := fun D σ H => c σ H fun b H1 => if b = true then t D σ H1 else u D σ H1
theorem ps_if {c : Expr} {a b : List Stmt} {tc : TT} (hc : PT X c tc) (ha : PSs X a t) (hb : PSs X b u) : PS X (.If c a b pos) (tIfS tc t u) := by
  intro pins s σ H D I h
  refine wpAny_If (thn (hc pins s σ H _ I h) fun d s1 ⟨H1, I1, q1⟩ => ?_)
  cases d with
  | true => exact ha pins s1 σ H1 D I1 q1
  | false => exact hb pins s1 σ H1 D I1 q1
end
abbrev TG := V → St → Hp → (St → Hp → Prop) → Prop
abbrev TGs := List V → St → Hp → (St → Hp → Prop) → Prop
def PG (X : Cx) (target : Expr) (t : TG) : Prop :=
  ∀ (pins : List (Addr × Obj)) (s : Shared) (σ : St) (H : Hp) (v : V) (u : Value) (Q : St → Hp → Prop), Inv X pins σ H s → RelV v u → t v σ H Q →
    wpAny (model X.prog X.w) X.A (assign target X.env u) (fun _ s' => ∃ σ' H', Inv X pins σ' H' s' ∧ Q σ' H') X.xe s
def PGs (X : Cx) (ts : List Expr) (t : TGs) : Prop :=
  ∀ (pins : List (Addr × Obj)) (s : Shared) (σ : St) (H : Hp) (vs : List V) (us : List Value) (Q : St → Hp → Prop), Inv X pins σ H s → Vals vs us → t vs σ H Q →
    wpAny (model X.prog X.w) X.A (assignInOrder ((assignEach ts X.env).map (·.2)) us) (fun _ s' => ∃ σ' H', Inv X pins σ' H' s' ∧ Q σ' H') X.xe s
section
variable {X : Cx} {pos : Pos}
def gName (i : Nat) : TG := fun v σ H Q => Q (σ.set i (some v)) H
theorem pg_name {i : Nat} {x : Str} (hN : X.N.Nodup) (hi : X.N[i]? = some x) (hx : Loc X.env.scope x) (hf : X.fn x = true ∨ X.env.scope.names.lookup x = some .local := by first | exact .inl rfl | exact .inr rfl | assumption) : PG X (.Name x pos) (gName i) := by
  intro pins s σ H v u Q I r h
  exact wpAny_assign_Name (store_ok I hN hi hx r (fun s' I' => ⟨_, H, I', h⟩) hf)
def gNil : TGs := fun vs σ H Q => vs = [] ∧ Q σ H
def gCons (t : TG) (u : TGs) : TGs := fun vs σ H Q => ∃ v r, vs = v :: r ∧ t v σ H fun σ' H' => u r σ' H' Q
theorem pgs_nil : PGs X [] gNil := by
  intro pins s σ H vs us Q I r h
  obtain ⟨e, h⟩ := h
  subst e
  cases r
  exact assignInOrder_nil ⟨σ, H, I, h⟩
theorem pgs_cons {e : Expr} {es : List Expr} {t : TG} {u : TGs} (h1 : PG X e t) (h2 : PGs X es u)
    (hs : (assignEach (e :: es) X.env).map (·.2) = assign e X.env :: (assignEach es X.env).map (·.2) := by rfl) : PGs X (e :: es) (gCons t u) := by
  intro pins s σ H vs us Q I r h
  obtain ⟨v, vr, e1, h⟩ := h
  subst e1
  cases r with
  | cons r rr =>
    rw [hs]
    refine assignInOrder_cons (thn (h1 pins s σ H _ _ _ I r h) fun _ s1 ⟨σ1, H1, I1, q1⟩ => ?_)
    exact h2 pins s1 σ1 H1 _ _ Q I1 rr q1
def gTup (K : PySem.W.Frag) (n : Nat) (t : TGs) : TG := fun v σ H Q => ∃ a xs, v = .ref a ∧ SqT K H a xs ∧ xs.length = n ∧ t xs σ H Q
theorem pg_tup {es : List Expr} {k : Nat} {t : TGs} {n : Nat} (hc : X.calm = true) (h : PGs X es t)
    (hn : (assignEach es X.env).length = n := by rfl) (hst : (assignEach es X.env).findIdx? (·.1) = none := by rfl) : PG X (.Tuple es k pos) (gTup X.K n t) := by
  intro pins s σ H v u Q I r hw
  obtain ⟨a, xs, e1, hq, hl, hw⟩ := hw
  subst e1
  cases r
  obtain ⟨its, rv, ht, hz⟩ := I.tuple hq
  refine assign_Tuple_tuple (I.ok.hd hc) ht (by simp [hn, ← hl, rv.length]) hst fun h' hx => ?_
  have I1 : Inv X pins σ H { s with heap := h' } := I.kept (t' := s.toks) fun b o e => hx b o (Nat.ne_of_lt (Heap.lt_size e)) e
  exact h pins _ σ H xs _ Q I1 (by simpa using rv) hw
def tAsg (te : TE) (g : TG) : TS := fun D σ H => te σ H fun x H1 => g x σ H1 D.nx
theorem ps_asg {tg e : Expr} {te : TE} {g : TG} (he : PE X e te) (hg : PG X tg g) (hs : swapsWithSole [tg] e pos.line X.env = pure false := by rfl) (hw : swappedStores [tg] e X.env = pure none := by rfl)
    (h1 : (assignEach [tg] X.env).map (·.2) = [assign tg X.env] := by rfl) : PS X (.Assign [tg] e pos) (tAsg te g) := by
  intro pins s σ H D I h
  refine wpAny_Assign_stores (thn (he pins s σ H _ I h) fun v s1 ⟨x, H1, I1, r1, q1⟩ => ?_) hs hw
  rw [h1]
  exact thn (hg pins s1 σ H1 x v _ I1 r1 q1) fun _ s2 q => q
theorem ps_set {i : Nat} {x : Str} {e : Expr} {te : TE} {pos' : Pos} (hN : X.N.Nodup) (hi : X.N[i]? = some x) (hx : Loc X.env.scope x) (he : PE X e te) (hs : swapsWith e (some (.Name x pos')) pos.line X.env = pure false := by rfl) (hf : X.fn x = true ∨ X.env.scope.names.lookup x = some .local := by first | exact .inl rfl | exact .inr rfl | assumption) :
    PS X (.Assign [.Name x pos'] e pos) (tAsg te (gName i)) := by
  intro pins s σ H D I h
  refine wpAny_Assign_Name (thn (he pins s σ H _ I h) fun v s1 ⟨y, H1, I1, r1, q1⟩ => ?_) hs
  exact store_ok I1 hN hi hx r1 (fun s2 I2 => ⟨_, H1, I2, q1⟩) hf
end
section
variable {X : Cx} {pos : Pos}
end
structure It where
  go : Nat → Hp → Prop
  yld : Nat → Hp → V → Hp → Prop
  stop : Nat → Hp → Prop
def FpOk (X : Cx) (pins : List (Addr × Obj)) (H : Hp) (b : Addr) : Prop :=
  H b = none ∧ b ≠ X.env.locals ∧ b ∉ X.fs ∧ (b ∈ X.ex ∨ X.s₀.heap.objs.size ≤ b) ∧ (∀ x c, X.env.cells.lookup x = some c → c ≠ b) ∧ ∀ p ∈ X.pn ++ pins, p.1 ≠ b
theorem Inv.fpOk {X : Cx} {pins : List (Addr × Obj)} {σ : St} {H H' : Hp} {s : Shared} {b : Addr} (I : Inv X pins σ H s) (hb : s.heap.objs.size ≤ b) (hn : H' b = none) : FpOk X pins H' b := by
  refine ⟨hn, Nat.ne_of_gt (Nat.lt_of_lt_of_le I.lt hb), I.nofs hb, .inr (Nat.le_trans I.sz hb), fun x c e z => ?_, fun p hp z => ?_⟩
  · obtain ⟨v, q⟩ := I.cell x c e
    exact absurd (Nat.lt_of_lt_of_le q.lt (by rw [z]; exact hb)) (Nat.lt_irrefl _)
  · exact absurd (Nat.lt_of_lt_of_le (Heap.lt_size (I.pin p hp).1) (by rw [z]; exact hb)) (Nat.lt_irrefl _)
structure Turn (P : Program) (w : World) (K : PySem.W.Frag) (tg : Expr) (J : It) (fp : List Addr) (it : Addr) (tn : Nat → Heap → Prop) : Prop where
  mem : it ∈ fp
  obj : ∀ i h, tn i h → ∀ b ∈ fp, ∃ o, h.get? b = some o ∧ ∀ v, o.data ≠ .cell v
  keep : ∀ i h h', tn i h → (∀ b ∈ fp, ∀ o, h.get? b = some o → h'.get? b = some o) → tn i h'
  item : ∀ (X : Cx), X.prog = P → X.w = w → X.K = K → X.calm = true → ∀ (i : Nat) (pins : List (Addr × Obj)) (s : Shared) (σ : St) (H : Hp) (E : Value → Shared → Prop), Inv X pins σ H s → (∀ b ∈ fp, FpOk X pins H b) → tn i s.heap → J.go i H →
    wpAny (model P w) X.A (pyNext (.ref it)) (fun r s1 => ∃ u, r = some u ∧
      wpAny (model P w) X.A (letOwnedTupleGo tg (.ref it) u) (fun _ s2 => ∃ x H', Inv X pins σ H' s2 ∧ RelV x u ∧ J.yld i H x H' ∧ tn (i + 1) s2.heap ∧ ∀ b ∈ fp, H' b = none) E s1) E s
  done : ∀ (X : Cx), X.prog = P → X.w = w → X.K = K → X.calm = true → ∀ (i : Nat) (pins : List (Addr × Obj)) (s : Shared) (σ : St) (H : Hp) (E : Value → Shared → Prop), Inv X pins σ H s → (∀ b ∈ fp, FpOk X pins H b) → tn i s.heap → J.stop i H →
    wpAny (model P w) X.A (pyNext (.ref it)) (fun r s1 => r = none ∧ Inv X pins σ H s1) E s
  self : ∀ (A : Around) (i : Nat) (s : Shared) (Q : Value → Shared → Prop) (E : Value → Shared → Prop), tn i s.heap → Q (.ref it) s → wpAny (model P w) A (pyIter (.ref it)) Q E s
abbrev TI := St → Hp → (It → Hp → Prop) → Prop
def PIE (X : Cx) (pins : List (Addr × Obj)) (σ : St) (tg : Expr) (R : It → Hp → Prop) (itv : Value) (s2 : Shared) : Prop :=
  ∃ (it : Addr) (fp : List Addr) (tn : Nat → Heap → Prop) (J : It) (H' : Hp), itv = .ref it ∧ Inv X pins σ H' s2 ∧ Turn X.prog X.w X.K tg J fp it tn ∧ tn 0 s2.heap ∧ (∀ b ∈ fp, FpOk X pins H' b) ∧ R J H'
def PI (X : Cx) (tg iter : Expr) (wi : TI) : Prop :=
  ∀ (pins : List (Addr × Obj)) (s : Shared) (σ : St) (H : Hp) (R : It → Hp → Prop), Inv X pins σ H s → wi σ H R →
    wpAny (model X.prog X.w) X.A (eval iter X.env) (fun v s1 => wpAny (model X.prog X.w) X.A (pyIter v) (PIE X pins σ tg R) X.xe s1) X.xe s
theorem go_of {M : Model} {A : Around} {E : Value → Shared → Prop} {s : Shared} {tg : Expr} {it : Addr} {u : Value} {o : Obj} {n : String} {vs : Array Value} {Q : Unit → Shared → Prop} (ho : s.heap.get? it = some o) (hc : o.cls = .type n) (hd : o.data = .fields vs)
    (hn : ["enumerate", "zip", "dict_itemiterator", "dict_reverseitemiterator", "odict_iterator", "itertools.zip_longest", "itertools.pairwise"].contains n = false) (hQ : Q () s) : wpAny M A (letOwnedTupleGo tg (.ref it) u) Q E s := by
  unfold letOwnedTupleGo
  cases tg <;> first
    | exact wpAny_pure hQ
    | (cases u <;> first
        | exact wpAny_pure hQ
        | (refine wpAny_bind (wpAny_load ho ?_)
           rw [hc, hd]
           show wpAny M A (if (["enumerate", "zip", "dict_itemiterator", "dict_reverseitemiterator", "odict_iterator", "itertools.zip_longest", "itertools.pairwise"].contains n && vs[0]? == some (rawInt _)) = true then _ else _) Q E s
           rw [if_neg (by intro h; rw [hn, Bool.false_and] at h; cases h)]
           exact wpAny_pure hQ))
def Itl (K : PySem.W.Frag) (a : Addr) : It :=
  ⟨fun i H => ∃ xs x, SqL K H a xs ∧ xs[i]? = some x, fun i H x H' => H' = H ∧ ∀ xs, SqL K H a xs → xs[i]? = some x, fun i H => ∃ xs, SqL K H a xs ∧ xs.length ≤ i⟩
def Itt (K : PySem.W.Frag) (a : Addr) : It :=
  ⟨fun i H => ∃ xs x, SqT K H a xs ∧ xs[i]? = some x, fun i H x H' => H' = H ∧ ∀ xs, SqT K H a xs → xs[i]? = some x, fun i H => ∃ xs, SqT K H a xs ∧ xs.length ≤ i⟩
def Itr (lo : Int) (n : Nat) : It := ⟨fun i _ => i < n, fun i H x H' => H' = H ∧ x = .int (lo + i), fun i _ => n ≤ i⟩
theorem turn_list {P : Program} {w : World} {K : PySem.W.Frag} {tg : Expr} (a it : Addr) : Turn P w K tg (Itl K a) [it] it (fun i h => h.IsListIter it a i) where
  mem := by simp
  obj := fun i h st b hb => by
    have e : b = it := by simpa using hb
    subst e
    obtain ⟨o, e, c, d⟩ := st
    exact ⟨o, e, fun v z => by rw [d] at z; cases z⟩
  keep := fun i h h' st k => st.at fun o e => k it (by simp) o e
  item := by
    intro X hP hw hK hc i pins s σ H E I hf st hg
    subst hP hw hK
    obtain ⟨xs, x, hq, hx⟩ := hg
    obtain ⟨its, rv, p, hz⟩ := I.list hq
    obtain ⟨u, hu, ru⟩ := rv.get hx
    obtain ⟨f0, f1, f2, f3, f4, f5⟩ := hf it (by simp)
    refine wpAny_pyNext_list_item st p.isList (x := u) (by simpa using hu) fun h' st' sb => ?_
    have I1 : Inv X pins σ H { s with heap := h' } := I.turned (t' := s.toks) (fun b o hb e => (sb.2 b hb).trans e) f0 f1 f3 f4 f5
    obtain ⟨o, e, c, d⟩ := id st'
    exact ⟨u, rfl, go_of (s := { s with heap := h' }) e c d (by decide) ⟨x, H, I1, ru, ⟨rfl, fun ys hy => by rw [I.list_inj hy hq]; exact hx⟩, st', fun b hb => (hf b hb).1⟩⟩
  done := by
    intro X hP hw hK hc i pins s σ H E I hf st hg
    subst hP hw hK
    obtain ⟨xs, hq, hx⟩ := hg
    obtain ⟨its, rv, p, hz⟩ := I.list hq
    obtain ⟨f0, f1, f2, f3, f4, f5⟩ := hf it (by simp)
    have hl := rv.length
    exact wpAny_pyNext_list_end (I.ok.hd hc) st p.isList (by simp; omega) fun h' eb => ⟨rfl, I.turned (t' := s.toks) (fun b o hb e => eb b o hb e) f0 f1 f3 f4 f5⟩
  self := fun _ _ _ _ _ st h => wpAny_pyIter_listiter st h
theorem turn_tuple {P : Program} {w : World} {K : PySem.W.Frag} {tg : Expr} (a it : Addr) : Turn P w K tg (Itt K a) [it] it (fun i h => h.IsTupleIter it a i) where
  mem := by simp
  obj := fun i h st b hb => by
    have e : b = it := by simpa using hb
    subst e
    obtain ⟨o, e, c, d⟩ := st
    exact ⟨o, e, fun v z => by rw [d] at z; cases z⟩
  keep := fun i h h' st k => st.at fun o e => k it (by simp) o e
  item := by
    intro X hP hw hK hc i pins s σ H E I hf st hg
    subst hP hw hK
    obtain ⟨xs, x, hq, hx⟩ := hg
    obtain ⟨its, rv, p, hz⟩ := I.tuple hq
    obtain ⟨u, hu, ru⟩ := rv.get hx
    obtain ⟨f0, f1, f2, f3, f4, f5⟩ := hf it (by simp)
    refine wpAny_pyNext_tuple_item st (show s.heap.IsTuple a its.toArray from p) (x := u) (by simpa using hu) fun h' st' sb => ?_
    have I1 : Inv X pins σ H { s with heap := h' } := I.turned (t' := s.toks) (fun b o hb e => (sb.2 b hb).trans e) f0 f1 f3 f4 f5
    obtain ⟨o, e, c, d⟩ := id st'
    exact ⟨u, rfl, go_of (s := { s with heap := h' }) e c d (by decide) ⟨x, H, I1, ru, ⟨rfl, fun ys hy => by rw [I.tuple_inj hy hq]; exact hx⟩, st', fun b hb => (hf b hb).1⟩⟩
  done := by
    intro X hP hw hK hc i pins s σ H E I hf st hg
    subst hP hw hK
    obtain ⟨xs, hq, hx⟩ := hg
    obtain ⟨its, rv, p, hz⟩ := I.tuple hq
    obtain ⟨f0, f1, f2, f3, f4, f5⟩ := hf it (by simp)
    have hl := rv.length
    exact wpAny_pyNext_tuple_end (I.ok.hd hc) st (show s.heap.IsTuple a its.toArray from p) (by simp; omega) fun h' eb => ⟨rfl, I.turned (t' := s.toks) (fun b o hb e => eb b o hb e) f0 f1 f3 f4 f5⟩
  self := fun _ _ _ _ _ st h => wpAny_pyIter_tupleiter st h
theorem turn_range {P : Program} {w : World} {K : PySem.W.Frag} {tg : Expr} (it : Addr) (lo : Int) (n : Nat) : Turn P w K tg (Itr lo n) [it] it (fun i h => IsRangeIter h it (lo + (i : Nat) * 1) ((n : Int) - (i : Nat)) 1) where
  mem := by simp
  obj := fun i h st b hb => by
    have e : b = it := by simpa using hb
    subst e
    exact ⟨_, st, fun v z => by
      have z' : Data.fields _ = Data.cell v := z
      cases z'⟩
  keep := fun i h h' st k => k it (by simp) _ st
  item := by
    intro X hP hw hK hc i pins s σ H E I hf st hg
    subst hP hw hK
    obtain ⟨f0, f1, f2, f3, f4, f5⟩ := hf it (by simp)
    have W := Walks.range (prog := X.prog) (w := X.w) (I.ok.hd hc) it lo 1 n
    refine W.item i s _ _ hg st fun v h' tk hv st' kk => ?_
    obtain ⟨t, rfl⟩ := hv
    have I1 : Inv X pins σ H { s with heap := h', toks := tk } := I.turned (fun b o hb e => kk b o (by simpa using hb) e) f0 f1 f3 f4 f5
    refine ⟨_, rfl, go_of (s := { s with heap := h', toks := tk }) (n := "range_iterator") st' rfl rfl (by decide) ⟨.int (lo + i), H, I1, ⟨t, ?_⟩, ⟨rfl, rfl⟩, st', fun b hb => (hf b hb).1⟩⟩
    rw [Int.mul_one]
  done := by
    intro X hP hw hK hc i pins s σ H E I hf st hg
    subst hP hw hK
    obtain ⟨f0, f1, f2, f3, f4, f5⟩ := hf it (by simp)
    exact wpAny_pyNext_range_end (I.ok.hd hc) st (by have : n ≤ i := hg; omega) fun h' eb => ⟨rfl, I.turned (t' := s.toks) (fun b o hb e => eb b o hb e) f0 f1 f3 f4 f5⟩
  self := fun _ _ _ _ _ st h => wpAny_pyIter_rangeiter st h
end L2
namespace L2
open PySem PySem.Spec PyProof.Rows
section
variable {X : Cx} {tg : Expr}
def iList (K : PySem.W.Frag) (tl : TE) : TI := fun σ H R => tl σ H fun x H1 => ∃ a, x = .ref a ∧ (∃ xs, SqL K H1 a xs) ∧ R (Itl K a) H1
def iTup (K : PySem.W.Frag) (tl : TE) : TI := fun σ H R => tl σ H fun x H1 => ∃ a, x = .ref a ∧ (∃ xs, SqT K H1 a xs) ∧ R (Itt K a) H1
theorem pi_list {l : Expr} {tl : TE} (hl : PE X l tl) : PI X tg l (iList X.K tl) := by
  intro pins s σ H R I h
  refine thn (hl pins s σ H _ I h) fun v s1 ⟨x, H1, I1, r1, q1⟩ => ?_
  obtain ⟨a, e, ⟨xs, hq⟩, q⟩ := q1
  subst e
  cases r1
  obtain ⟨its, rv, p, hz⟩ := I1.list hq
  refine wpAny_pyIter_list p.isList ?_
  refine ⟨s1.heap.objs.size, [s1.heap.objs.size], _, _, H1, rfl, I1.kept (t' := s1.toks) fun b o e => Heap.get?_push_of_some _ e, turn_list a _, ⟨_, Heap.get?_push_size _ rfl, rfl, rfl⟩, fun b hb => ?_, q⟩
  have e : b = s1.heap.objs.size := by simpa using hb
  subst e
  exact I1.fpOk (Nat.le_refl _) (I1.hok.fresh (Nat.le_refl _))
theorem pi_tup {l : Expr} {tl : TE} (hl : PE X l tl) : PI X tg l (iTup X.K tl) := by
  intro pins s σ H R I h
  refine thn (hl pins s σ H _ I h) fun v s1 ⟨x, H1, I1, r1, q1⟩ => ?_
  obtain ⟨a, e, ⟨xs, hq⟩, q⟩ := q1
  subst e
  cases r1
  obtain ⟨its, rv, p, hz⟩ := I1.tuple hq
  refine wpAny_pyIter_tuple (show s1.heap.IsTuple a its.toArray from p) ?_
  refine ⟨s1.heap.objs.size, [s1.heap.objs.size], _, _, H1, rfl, I1.kept (t' := s1.toks) fun b o e => Heap.get?_push_of_some _ e, turn_tuple a _, ⟨_, Heap.get?_push_size _ rfl, rfl, rfl⟩, fun b hb => ?_, q⟩
  have e : b = s1.heap.objs.size := by simpa using hb
  subst e
  exact I1.fpOk (Nat.le_refl _) (I1.hok.fresh (Nat.le_refl _))
theorem range_it {pins : List (Addr × Obj)} {σ : St} {H : Hp} {s : Shared} {R : It → Hp → Prop} {E : Value → Shared → Prop} {lo hi : Int} {t u v : Tok} {tk : Nat} (I : Inv X pins σ H s) (h1 : -(2 ^ 62) ≤ lo) (h2 : lo < 2 ^ 62) (h3 : -(2 ^ 62) ≤ hi) (h4 : hi < 2 ^ 62)
    (q : R (Itr lo (hi - lo).toNat) H) : wpAny (model X.prog X.w) X.A (pyIter (.ref s.heap.objs.size)) (PIE X pins σ tg R) E { s with heap := s.heap.push { cls := .type "range", data := .fields #[.int lo t, .int hi u, .int 1 v] }, toks := tk } := by
  refine wpAny_pyIter_range (IsRange.new ..) (small_one h1 h2 h3 h4) ?_
  have I1 : Inv X pins σ H { s with heap := s.heap.push { cls := .type "range", data := .fields #[.int lo t, .int hi u, .int 1 v] }, toks := tk } := I.kept fun b o e => Heap.get?_push_of_some _ e
  refine ⟨(s.heap.push { cls := .type "range", data := .fields #[.int lo t, .int hi u, .int 1 v] }).objs.size, [(s.heap.push { cls := .type "range", data := .fields #[.int lo t, .int hi u, .int 1 v] }).objs.size], _, _, H, rfl,
    I1.kept (t' := tk) fun b o e => Heap.get?_push_of_some _ e, turn_range _ lo (hi - lo).toNat, ?_, fun b hb => ?_, q⟩
  · have e1 : lo + ((0 : Nat) : Int) * 1 = lo := by simp
    have e2 : (((hi - lo).toNat : Nat) : Int) - ((0 : Nat) : Int) = Builtin.Range.rangeSize lo hi 1 := by rw [rangeSize_one]; split <;> omega
    show IsRangeIter _ _ (lo + ((0 : Nat) : Int) * 1) ((((hi - lo).toNat : Nat) : Int) - ((0 : Nat) : Int)) 1
    rw [e1, e2]
    exact Heap.get?_push_size _ rfl
  · have e : b = (s.heap.push { cls := .type "range", data := .fields #[.int lo t, .int hi u, .int 1 v] }).objs.size := by simpa using hb
    subst e
    exact I1.fpOk (Nat.le_refl _) (I1.hok.fresh (Nat.le_refl _))
def iRng1 (ta : TA) : TI := fun σ H R => ta σ H fun vs H1 => ∃ j : Int, vs = [.int j] ∧ -(2 ^ 62) ≤ j ∧ j < 2 ^ 62 ∧ R (Itr 0 j.toNat) H1
theorem pi_range1 {a : Expr} {ta : TA} {p pos : Pos} (hg : Gl X "range") (hm : X.mg "range" = none) (ha : PA X [a] ta) (hs : starEach [a] X.env = [(false, eval a X.env)] := by rfl) : PI X tg (.Call (.Name "range" p) [a] [] pos) (iRng1 ta) := by
  intro pins s σ H R I h
  refine Call_ (ld_blt I hg hm boot_range (PyProof.Rows.callWith_type1 (thn (ha pos pins s σ H _ I h) fun us s1 ⟨vs, H1, I1, r1, q1⟩ => ?_) hs rfl))
  obtain ⟨j, e, q1, q2, q⟩ := q1
  subst e
  cases r1 with
  | cons r rr =>
    cases rr
    obtain ⟨t, rfl⟩ := r
    exact call_range_1 (range_it I1 (by omega) (by omega) q1 q2 (by simpa using q))
def tFor (wi : TI) (g : TG) (tb : TS) : TS := fun D σ H => wi σ H fun J H1 => ∃ W : Nat → Nat → St → Hp → Prop, (∃ m, W 0 m σ H1) ∧ ∀ i m σ H, W i m σ H →
  (J.stop i H ∧ D.nx σ H) ∨ (J.go i H ∧ ∃ N : St → Hp → Prop, (∀ σ' H', N σ' H' → ∃ m', m' < m ∧ W (i + 1) m' σ' H') ∧ ∀ x H', J.yld i H x H' → g x σ H' fun σ2 H2 => tb { D with nx := N, ct := N, bk := D.nx } σ2 H2)
def pinsAt (fp : List Addr) (h : Heap) : List (Addr × Obj) := fp.filterMap fun b => (h.get? b).map fun o => (b, o)
theorem mem_pinsAt {fp : List Addr} {h : Heap} {b : Addr} {o : Obj} (hb : b ∈ fp) (e : h.get? b = some o) : (b, o) ∈ pinsAt fp h := List.mem_filterMap.mpr ⟨b, hb, by rw [e]; rfl⟩
theorem of_pinsAt {fp : List Addr} {h : Heap} {p : Addr × Obj} (hp : p ∈ pinsAt fp h) : p.1 ∈ fp ∧ h.get? p.1 = some p.2 := by
  obtain ⟨b, hb, e⟩ := List.mem_filterMap.mp hp
  cases q : h.get? b with
  | none => rw [q] at e; cases e
  | some o =>
    rw [q] at e
    have e' : (b, o) = p := Option.some.inj e
    subst e'
    exact ⟨hb, q⟩
theorem Inv.pinned {pins : List (Addr × Obj)} {σ : St} {H : Hp} {s : Shared} {fp : List Addr} (I : Inv X pins σ H s) (hf : ∀ b ∈ fp, FpOk X pins H b) (ho : ∀ b ∈ fp, ∃ o, s.heap.get? b = some o ∧ ∀ v, o.data ≠ .cell v) : Inv X (pins ++ pinsAt fp s.heap) σ H s :=
  I.pins_of fun p hp => (List.mem_append.mp hp).elim (fun z => I.pin p (List.mem_append_right _ z)) fun z => by
    obtain ⟨hb, e⟩ := of_pinsAt z
    obtain ⟨f0, f1, f2, _⟩ := hf p.1 hb
    obtain ⟨o, e', d⟩ := ho p.1 hb
    rw [e] at e'; cases e'
    exact ⟨e, f0, f1, f2, d⟩
theorem Inv.unpinned {pins pl : List (Addr × Obj)} {σ : St} {H : Hp} {s : Shared} (I : Inv X (pins ++ pl) σ H s) : Inv X pins σ H s := I.pins_of fun p hp => I.pin p (List.mem_append_right _ (List.mem_append_left _ hp))
theorem ps_for {iter : Expr} {body : List Stmt} {wi : TI} {g : TG} {tb : TS} {pos : Pos} (hp : PassesOwn (model X.prog X.w) X.A X.env X.xe) (hc : X.calm = true) (hi : PI X tg iter wi) (hg : PG X tg g) (hb : PSs X body tb)
    (hs : ∀ x, foldedSetIterable iter X.env x = pure x := by intro _; rfl) : PS X (.For tg iter body [] pos) (tFor wi g tb) := by
  intro pins s σ H D I h
  refine wpAny_For (thn (hi pins s σ H _ I h) fun v s1 h1 => thn h1 fun itv s2 h2 => ?_) hs
  obtain ⟨it, fp, tn, J, H2, e, I2, T, st2, f2, W, ⟨m0, w0⟩, turn⟩ := h2
  subst e
  -- what stays true of the iterator's objects through the loop
  have stat : ∀ {H' : Hp}, (∀ b ∈ fp, H' b = none) → ∀ b ∈ fp, FpOk X pins H' b := fun hn b hb => ⟨hn b hb, (f2 b hb).2⟩
  refine codeAny_forLoop_any (fun n s' => ∃ i σ' H', Inv X pins σ' H' s' ∧ tn i s'.heap ∧ (∀ b ∈ fp, H' b = none) ∧ W i n σ' H') ?_ m0 ⟨0, σ, H2, I2, st2, fun b hb => (f2 b hb).1, w0⟩
  rintro n s3 ⟨i, σ3, H3, I3, st3, fr3, w3⟩
  rcases turn i n σ3 H3 w3 with ⟨stop, qn⟩ | ⟨go, N, hN, step⟩
  · refine wpAny_passesOwn hp (thn (T.done X rfl rfl rfl hc i pins s3 σ3 H3 X.xe I3 (stat fr3) st3 stop) fun r s4 ⟨hr, I4⟩ => ?_)
    subst hr
    exact wpAny_execs_nil ⟨σ3, H3, I4, qn⟩
  · refine wpAny_passesOwn hp (thn (T.item X rfl rfl rfl hc i pins s3 σ3 H3 X.xe I3 (stat fr3) st3 go) fun r s4 ⟨u, hr, h4⟩ => ?_)
    subst hr
    refine wpAny_passesOwn hp (thn h4 fun _ s5 ⟨x, H5, I5, r5, y5, st5, fr5⟩ => ?_)
    have I5' := I5.pinned (stat fr5) (T.obj _ _ st5)
    refine wpAny_passesOwn hp (thn (hg _ s5 σ3 H5 x u _ I5' r5 (step x H5 y5)) fun _ s6 ⟨σ6, H6, I6, q6⟩ => ?_)
    refine wpAny_passesOwn hp (thn (hb _ s6 σ6 H6 _ I6 q6) fun f s7 q7 => ?_)
    have again : ∀ {σ7 : St} {H7 : Hp}, Inv X (pins ++ pinsAt fp s5.heap) σ7 H7 s7 → N σ7 H7 → ∃ m, m < n ∧ ∃ i σ' H', Inv X pins σ' H' s7 ∧ tn i s7.heap ∧ (∀ b ∈ fp, H' b = none) ∧ W i m σ' H' := fun {σ7 H7} I7 n7 => by
      obtain ⟨m', hm, w7⟩ := hN σ7 H7 n7
      refine ⟨m', hm, i + 1, σ7, H7, I7.unpinned, T.keep _ _ _ st5 fun b hb o e => (I7.pin (b, o) (List.mem_append_right _ (List.mem_append_right _ (mem_pinsAt hb e)))).1, fun b hb => ?_, w7⟩
      obtain ⟨o, e, d⟩ := T.obj _ _ st5 b hb
      exact (I7.pin (b, o) (List.mem_append_right _ (List.mem_append_right _ (mem_pinsAt hb e)))).2.1
    cases f with
    | next => obtain ⟨σ7, H7, I7, n7⟩ := q7; exact again I7 n7
    | cont => obtain ⟨σ7, H7, I7, n7⟩ := q7; exact again I7 n7
    | brk => obtain ⟨σ7, H7, I7, q7⟩ := q7; exact ⟨σ7, H7, I7.unpinned, q7⟩
    | ret v => obtain ⟨x7, σ7, H7, I7, r7, q7⟩ := q7; exact ⟨x7, σ7, H7, I7.unpinned, r7, q7⟩
end
theorem for_list {K : PySem.W.Frag} {a : Addr} {xs : List V} {g : TG} {tb : TS} {D : Ends} {σ : St} {H : Hp} (Pv : Nat → St → Hp → Prop) (h0 : Pv 0 σ H) (hl : ∀ i σ H, i ≤ xs.length → Pv i σ H → SqL K H a xs)
    (hs : ∀ i x σ H, xs[i]? = some x → Pv i σ H → g x σ H fun σ2 H2 => tb { D with nx := Pv (i + 1), ct := Pv (i + 1), bk := D.nx } σ2 H2) (hd : ∀ σ H, Pv xs.length σ H → D.nx σ H) :
    ∃ W : Nat → Nat → St → Hp → Prop, (∃ m, W 0 m σ H) ∧ ∀ i m σ H, W i m σ H →
      ((Itl K a).stop i H ∧ D.nx σ H) ∨ ((Itl K a).go i H ∧ ∃ N : St → Hp → Prop, (∀ σ' H', N σ' H' → ∃ m', m' < m ∧ W (i + 1) m' σ' H') ∧ ∀ x H', (Itl K a).yld i H x H' → g x σ H' fun σ2 H2 => tb { D with nx := N, ct := N, bk := D.nx } σ2 H2) := by
  refine ⟨fun i m σ H => m = xs.length - i ∧ i ≤ xs.length ∧ Pv i σ H, ⟨xs.length, by simp, Nat.zero_le _, h0⟩, ?_⟩
  rintro i m σ H ⟨rfl, hi, p⟩
  have q := hl i σ H hi p
  by_cases hlt : i < xs.length
  · refine .inr ⟨⟨xs, xs[i], q, by simp [hlt]⟩, Pv (i + 1), fun σ' H' p' => ⟨xs.length - (i + 1), by omega, rfl, hlt, p'⟩, fun x H' y => ?_⟩
    obtain ⟨e, y⟩ := y
    subst e
    exact hs i x σ _ (y xs q) p
  · have e : i = xs.length := by omega
    subst e
    exact .inl ⟨⟨xs, q, Nat.le_refl _⟩, hd σ H p⟩
theorem for_tup {K : PySem.W.Frag} {a : Addr} {xs : List V} {g : TG} {tb : TS} {D : Ends} {σ : St} {H : Hp} (Pv : Nat → St → Hp → Prop) (h0 : Pv 0 σ H) (hl : ∀ i σ H, i ≤ xs.length → Pv i σ H → SqT K H a xs)
    (hs : ∀ i x σ H, xs[i]? = some x → Pv i σ H → g x σ H fun σ2 H2 => tb { D with nx := Pv (i + 1), ct := Pv (i + 1), bk := D.nx } σ2 H2) (hd : ∀ σ H, Pv xs.length σ H → D.nx σ H) :
    ∃ W : Nat → Nat → St → Hp → Prop, (∃ m, W 0 m σ H) ∧ ∀ i m σ H, W i m σ H →
      ((Itt K a).stop i H ∧ D.nx σ H) ∨ ((Itt K a).go i H ∧ ∃ N : St → Hp → Prop, (∀ σ' H', N σ' H' → ∃ m', m' < m ∧ W (i + 1) m' σ' H') ∧ ∀ x H', (Itt K a).yld i H x H' → g x σ H' fun σ2 H2 => tb { D with nx := N, ct := N, bk := D.nx } σ2 H2) := by
  refine ⟨fun i m σ H => m = xs.length - i ∧ i ≤ xs.length ∧ Pv i σ H, ⟨xs.length, by simp, Nat.zero_le _, h0⟩, ?_⟩
  rintro i m σ H ⟨rfl, hi, p⟩
  have q := hl i σ H hi p
  by_cases hlt : i < xs.length
  · refine .inr ⟨⟨xs, xs[i], q, by simp [hlt]⟩, Pv (i + 1), fun σ' H' p' => ⟨xs.length - (i + 1), by omega, rfl, hlt, p'⟩, fun x H' y => ?_⟩
    obtain ⟨e, y⟩ := y
    subst e
    exact hs i x σ _ (y xs q) p
  · have e : i = xs.length := by omega
    subst e
    exact .inl ⟨⟨xs, q, Nat.le_refl _⟩, hd σ H p⟩
theorem for_range {lo : Int} {n : Nat} {g : TG} {tb : TS} {D : Ends} {σ : St} {H : Hp} (Pv : Nat → St → Hp → Prop) (h0 : Pv 0 σ H)
    (hs : ∀ i σ H, i < n → Pv i σ H → g (.int (lo + i)) σ H fun σ2 H2 => tb { D with nx := Pv (i + 1), ct := Pv (i + 1), bk := D.nx } σ2 H2) (hd : ∀ σ H, Pv n σ H → D.nx σ H) :
    ∃ W : Nat → Nat → St → Hp → Prop, (∃ m, W 0 m σ H) ∧ ∀ i m σ H, W i m σ H →
      ((Itr lo n).stop i H ∧ D.nx σ H) ∨ ((Itr lo n).go i H ∧ ∃ N : St → Hp → Prop, (∀ σ' H', N σ' H' → ∃ m', m' < m ∧ W (i + 1) m' σ' H') ∧ ∀ x H', (Itr lo n).yld i H x H' → g x σ H' fun σ2 H2 => tb { D with nx := N, ct := N, bk := D.nx } σ2 H2) := by
  refine ⟨fun i m σ H => m = n - i ∧ i ≤ n ∧ Pv i σ H, ⟨n, by simp, Nat.zero_le _, h0⟩, ?_⟩
  rintro i m σ H ⟨rfl, hi, p⟩
  by_cases hlt : i < n
  · refine .inr ⟨hlt, Pv (i + 1), fun σ' H' p' => ⟨n - (i + 1), by omega, rfl, hlt, p'⟩, fun x H' y => ?_⟩
    obtain ⟨e, y⟩ := y
    subst e y
    exact hs i σ _ hlt p
  · have e : i = n := by omega
    subst e
    exact .inl ⟨Nat.le_refl _, hd σ H p⟩
end L2
namespace L2
open PySem PySem.Spec PyProof.Rows
abbrev R2 := V → V → Hp → VK → Prop
def OpR (X : Cx) (f : Value → Value → Sem Value) (r : R2) : Prop :=
  ∀ (pins : List (Addr × Obj)) (s : Shared) (σ : St) (H : Hp) (x y : V) (v u : Value) (Q : VK), Inv X pins σ H s → RelV x v → RelV y u → r x y H Q →
    wpAny (model X.prog X.w) X.A (f v u) (EP X pins σ Q) X.xe s
def UnR (X : Cx) (f : Value → Sem Value) (r : V → Hp → VK → Prop) : Prop :=
  ∀ (pins : List (Addr × Obj)) (s : Shared) (σ : St) (H : Hp) (x : V) (v : Value) (Q : VK), Inv X pins σ H s → RelV x v → r x H Q →
    wpAny (model X.prog X.w) X.A (f v) (EP X pins σ Q) X.xe s
def CallR (X : Cx) (f : Value) (r : List V → Hp → VK → Prop) : Prop :=
  ∀ (pins : List (Addr × Obj)) (s : Shared) (σ : St) (H : Hp) (xs : List V) (us : List Value) (Q : VK), Inv X pins σ H s → Vals xs us → r xs H Q →
    wpAny (model X.prog X.w) X.A (call f us) (EP X pins σ Q) X.xe s
def TruR (X : Cx) (r : V → Hp → (Bool → Hp → Prop) → Prop) : Prop :=
  ∀ (pins : List (Addr × Obj)) (s : Shared) (σ : St) (H : Hp) (x : V) (v : Value) (Q : Bool → Hp → Prop), Inv X pins σ H s → RelV x v → r x H Q →
    wpAny (model X.prog X.w) X.A (truthy v) (TP X pins σ Q) X.xe s
def tOp (r : R2) (ta tb : TE) : TE := fun σ H Q => ta σ H fun x H1 => tb σ H1 fun y H2 => r x y H2 Q
def tUn (r : V → Hp → VK → Prop) (ta : TE) : TE := fun σ H Q => ta σ H fun x H1 => r x H1 Q
def rI (C : Int → Int → Prop) (g : Int → Int → V) : R2 := fun x y H Q => ∃ i j, x = .int i ∧ y = .int j ∧ C i j ∧ Q (g i j) H
def rI0 (g : Int → Int → V) : R2 := fun x y H Q => ∃ i j, x = .int i ∧ y = .int j ∧ Q (g i j) H
def rU (g : Int → V) : V → Hp → VK → Prop := fun x H Q => ∃ i, x = .int i ∧ Q (g i) H
section
variable {X : Cx} {a b c : Expr} {ta tb tc : TE} {pos : Pos}
theorem binT (ha : PE X a ta) (hb : PE X b tb) {pins : List (Addr × Obj)} {s : Shared} {σ : St} {H : Hp} {R : V → V → Hp → Prop} (I : Inv X pins σ H s)
    (h : ta σ H fun x H1 => tb σ H1 fun y H2 => R x y H2) {Q : Value → Shared → Prop} {f : Value → Value → Sem Value}
    (hf : ∀ v u s2 x y H2, Inv X pins σ H2 s2 → RelV x v → RelV y u → R x y H2 → wpAny (model X.prog X.w) X.A (f v u) Q X.xe s2) :
    wpAny (model X.prog X.w) X.A (eval a X.env) (fun v s₁ => wpAny (model X.prog X.w) X.A (eval b X.env) (fun u s₂ => wpAny (model X.prog X.w) X.A (f v u) Q X.xe s₂) X.xe s₁) X.xe s := by
  refine thn (ha pins s σ H _ I h) fun v s1 ⟨x, H1, I1, r1, q1⟩ => ?_
  refine thn (hb pins s1 σ H1 _ I1 q1) fun u s2 ⟨y, H2, I2, r2, q2⟩ => ?_
  exact hf v u s2 x y H2 I2 r1 r2 q2
theorem pe_op {op : Operator} {r : R2} (ho : OpR X (binaryOp op) r) (ha : PE X a ta) (hb : PE X b tb) : PE X (.BinOp a op b pos) (tOp r ta tb) := by
  intro pins s σ H Q I h
  exact wpAny_BinOp (binT ha hb I h fun v u s2 x y H2 I2 rx ry q => ho pins s2 σ H2 x y v u Q I2 rx ry q)
theorem pe_un {op : UnaryOp} {r : V → Hp → VK → Prop} (ho : UnR X (unaryOp op) r) (ha : PE X a ta) : PE X (.UnaryOp op a pos) (tUn r ta) := by
  intro pins s σ H Q I h
  exact UnaryOp_ (thn (ha pins s σ H _ I h) fun v s1 ⟨x, H1, I1, r1, q1⟩ => ho pins s1 σ H1 x v Q I1 r1 q1)
theorem opI {f : Value → Value → Sem Value} {C : Int → Int → Prop} {g : Int → Int → Int}
    (rule : ∀ (i j : Int) (t u : Tok) (s : Shared) (Q : Value → Shared → Prop) (E : Value → Shared → Prop), C i j → Q (.int (g i j) s.toks) { s with toks := s.toks + 1 } → wpAny (model X.prog X.w) X.A (f (.int i t) (.int j u)) Q E s) :
    OpR X f (rI C fun i j => .int (g i j)) := by
  intro pins s σ H x y v u Q I rx ry h
  obtain ⟨i, j, rfl, rfl, hc, q⟩ := h
  obtain ⟨t, rfl⟩ := rx
  obtain ⟨t', rfl⟩ := ry
  exact rule i j t t' s _ _ hc ⟨.int (g i j), H, I.tok _, ⟨_, rfl⟩, q⟩
theorem opI0 {f : Value → Value → Sem Value} {g : Int → Int → Int}
    (rule : ∀ (i j : Int) (t u : Tok) (s : Shared) (Q : Value → Shared → Prop) (E : Value → Shared → Prop), Q (.int (g i j) s.toks) { s with toks := s.toks + 1 } → wpAny (model X.prog X.w) X.A (f (.int i t) (.int j u)) Q E s) :
    OpR X f (rI0 fun i j => .int (g i j)) := by
  intro pins s σ H x y v u Q I rx ry h
  obtain ⟨i, j, rfl, rfl, q⟩ := h
  obtain ⟨t, rfl⟩ := rx
  obtain ⟨t', rfl⟩ := ry
  exact rule i j t t' s _ _ ⟨.int (g i j), H, I.tok _, ⟨_, rfl⟩, q⟩
theorem opB0 {f : Value → Value → Sem Value} {g : Int → Int → Bool}
    (rule : ∀ (i j : Int) (t u : Tok) (s : Shared) (Q : Value → Shared → Prop) (E : Value → Shared → Prop), Q (.bool (g i j)) s → wpAny (model X.prog X.w) X.A (f (.int i t) (.int j u)) Q E s) :
    OpR X f (rI0 fun i j => .bl (g i j)) := by
  intro pins s σ H x y v u Q I rx ry h
  obtain ⟨i, j, rfl, rfl, q⟩ := h
  obtain ⟨t, rfl⟩ := rx
  obtain ⟨t', rfl⟩ := ry
  exact rule i j t t' s _ _ ⟨.bl (g i j), H, I, rfl, q⟩
def CDiv (i j : Int) : Prop := 0 < j ∧ j < 1073741824
def CPow (i j : Int) : Prop := 0 ≤ j ∧ j ≤ 1000000 ∧ i.natAbs < 2 ^ 64
def CMul (i j : Int) : Prop := (-(2 ^ 64) < i ∧ i < 2 ^ 64) ∨ (-(2 ^ 64) < j ∧ j < 2 ^ 64)
theorem CMul.ok {i j : Int} (h : CMul i j) : IntMulOk i j := by
  rcases h with ⟨h1, h2⟩ | ⟨h1, h2⟩
  · exact .of_left (intBits_le_64 h1 h2)
  · exact .of_right (intBits_le_64 h1 h2)
theorem two_pow_nn (k : Nat) : (0 : Int) ≤ 2 ^ k := by
  rw [two_pow_cast]
  exact Int.natCast_nonneg _
theorem op_add : OpR X (binaryOp .Add) (rI0 fun i j => .int (i + j)) := opI0 fun _ _ _ _ _ _ _ q => add_int q
theorem op_sub : OpR X (binaryOp .Sub) (rI0 fun i j => .int (i - j)) := opI0 fun _ _ _ _ _ _ _ q => sub_int q
theorem op_mul : OpR X (binaryOp .Mult) (rI CMul fun i j => .int (i * j)) := opI fun _ _ _ _ _ _ _ hc q => mul_int q hc.ok
theorem op_fdiv : OpR X (binaryOp .FloorDiv) (rI CDiv fun i j => .int (i / j)) := opI fun i j _ _ _ _ _ hc q => by
  have h1 : (0 : Int) < j := hc.1
  have h2 : j < 1073741824 := hc.2
  exact floordiv_int (by omega) (by rw [Int.fdiv_eq_ediv_of_nonneg i (by omega)]; exact q) (.inl (PyProof.noPylong_small (by omega)))
theorem op_mod : OpR X (binaryOp .Mod) (rI (fun _ j => 0 < j) fun i j => .int (i % j)) := opI fun i j _ _ _ _ _ hc q => by
  have h1 : (0 : Int) < j := hc
  exact mod_int' (by omega) (by rw [Int.fmod_eq_emod_of_nonneg i (by omega)]; exact q)
theorem op_shl : OpR X (binaryOp .LShift) (rI CPow fun i j => .int (i * 2 ^ j.toNat)) := opI fun _ _ _ _ _ _ _ hc q => lshift_int_small hc.1 hc.2.1 hc.2.2 q
theorem op_shr : OpR X (binaryOp .RShift) (rI (fun _ j => 0 ≤ j) fun i j => .int (i / 2 ^ j.toNat)) := opI fun i j _ _ _ _ _ hc q =>
  rshift_int hc (by rw [Int.fdiv_eq_ediv_of_nonneg i (two_pow_nn _)]; exact q)
theorem op_and : OpR X (binaryOp .BitAnd) (rI0 fun i j => .int (Builtin.bitAnd i j)) := opI0 fun _ _ _ _ _ _ _ q => and_int q
theorem op_or : OpR X (binaryOp .BitOr) (rI0 fun i j => .int (Builtin.bitOr i j)) := opI0 fun _ _ _ _ _ _ _ q => or_int q
theorem op_xor : OpR X (binaryOp .BitXor) (rI0 fun i j => .int (Builtin.bitXor i j)) := opI0 fun _ _ _ _ _ _ _ q => xor_int q
theorem unI {f : Value → Sem Value} {g : Int → Int}
    (rule : ∀ (i : Int) (t : Tok) (s : Shared) (Q : Value → Shared → Prop) (E : Value → Shared → Prop), Q (.int (g i) s.toks) { s with toks := s.toks + 1 } → wpAny (model X.prog X.w) X.A (f (.int i t)) Q E s) :
    UnR X f (rU fun i => .int (g i)) := by
  intro pins s σ H x v Q I rx h
  obtain ⟨i, rfl, q⟩ := h
  obtain ⟨t, rfl⟩ := rx
  exact rule i t s _ _ ⟨.int (g i), H, I.tok _, ⟨_, rfl⟩, q⟩
theorem un_inv : UnR X (unaryOp .Invert) (rU fun i => .int (Builtin.bitNot i)) := unI fun _ _ _ _ _ q => invert_int q
end
section
variable {X : Cx} {a b c : Expr} {ta tb tc : TE} {pos : Pos}
theorem fin_bl {pins : List (Addr × Obj)} {σ : St} {H : Hp} {s : Shared} {Q : VK} {k k' : Bool} (I : Inv X pins σ H s) (q : Q (.bl k) H) (e : k = k') : EP X pins σ Q (.bool k') s := by
  subst e
  exact ⟨.bl k, H, I, rfl, q⟩
theorem op_lt : OpR X (compareOp .Lt) (rI0 fun i j => .bl (decide (i < j))) := opB0 fun _ _ _ _ _ _ _ q => lt_int q
theorem op_gt : OpR X (compareOp .Gt) (rI0 fun i j => .bl (decide (j < i))) := opB0 fun _ _ _ _ _ _ _ q => gt_int q
theorem op_in_str : OpR X (compareOp .In) (fun x y H Q => ∃ i j, x = .str i ∧ y = .str j ∧ Q (.bl (!(Builtin.Str.occurrences j i 0 j.length 1).isEmpty)) H) := by
  intro pins s σ H x y v u Q I rx ry h
  obtain ⟨i, j, rfl, rfl, q⟩ := h
  obtain ⟨t, rfl⟩ := rx
  obtain ⟨t', rfl⟩ := ry
  exact in_str (fin_bl I q rfl)
theorem op_isN : OpR X (compareOp .Is) (fun x y H Q => y = .non ∧ Q (.bl (decide (x = .non))) H) := by
  intro pins s σ H x y v u Q I rx ry h
  obtain ⟨rfl, q⟩ := h
  cases ry
  refine is_none_gen (fin_bl I q ?_)
  cases x <;> first
    | (cases rx; rfl)
    | (obtain ⟨t, rfl⟩ := rx; rfl)
theorem OpR.or {f : Value → Value → Sem Value} {r r' : R2} (h : OpR X f r) (h' : OpR X f r') : OpR X f (fun x y H Q => r x y H Q ∨ r' x y H Q) := by
  intro pins s σ H x y v u Q I rx ry q
  rcases q with q | q
  · exact h pins s σ H x y v u Q I rx ry q
  · exact h' pins s σ H x y v u Q I rx ry q
theorem nomark (b : Expr) {op : CmpOp} (h : op ≠ .In := by decide) (h2 : op ≠ .NotIn := by decide) : behindInMarks op b = false := by
  have e1 : (op == CmpOp.In) = false := by cases op <;> first | rfl | exact absurd rfl h
  have e2 : (op == CmpOp.NotIn) = false := by cases op <;> first | rfl | exact absurd rfl h2
  cases b <;> simp [behindInMarks, e1, e2]
theorem pe_cmpR {op : CmpOp} {r : R2} (ho : OpR X (compareOp op) r) (ha : PE X a ta) (hb : PE X b tb) (hm : behindInMarks op b = false) : PE X (.Compare a [op] [b] pos) (tOp r ta tb) := by
  intro pins s σ H Q I h
  exact wpAny_Compare1 (binT ha hb I h fun v u s2 x y H2 I2 rx ry q => ho pins s2 σ H2 x y v u Q I2 rx ry q) hm
def tTest (t : TE) : TT := fun σ H Q => t σ H fun x H' => ∃ k, x = .bl k ∧ Q k H'
theorem pt_cmpR {op : CmpOp} {r : R2} (ho : OpR X (compareOp op) r) (ha : PE X a ta) (hb : PE X b tb) (hm : behindInMarks op b = false) : PT X (.Compare a [op] [b] pos) (tTest (tOp r ta tb)) := by
  intro pins s σ H Q I h
  refine wpAny_isTrue_Compare1 (thn (ha pins s σ H _ I h) fun v s1 ⟨x, H1, I1, r1, q1⟩ => thn (hb pins s1 σ H1 _ I1 q1) fun u s2 ⟨y, H2, I2, r2, q2⟩ =>
    thn (ho pins s2 σ H2 x y v u _ I2 r1 r2 q2) fun c s3 ⟨z, H3, I3, r3, k, e, q3⟩ => ?_) hm
  subst e
  cases r3
  exact wpAny_truthy_bool ⟨H3, I3, q3⟩
def TruV (K : PySem.W.Frag) (x : V) (H : Hp) (k : Bool) : Prop :=
  match x with
  | .non => k = false
  | .bl b => k = b
  | .int i => k = (i != 0)
  | .str y => y.length ≤ sizeLine ∧ k = ((y.length : Int) != 0)
  | .byt y => y.size ≤ sizeLine ∧ k = ((y.size : Int) != 0)
  | .ref p => (∃ xs, SqL K H p xs ∧ k = !xs.isEmpty) ∨ (∃ xs, SqT K H p xs ∧ k = !xs.isEmpty) ∨ ∃ kvs, H p = some (.dK kvs) ∧ k = !kvs.isEmpty
  | _ => False
theorem isEmpty_kv {κ : Type} {kvs : List (κ × V)} {vs : List (κ × Value)} (r : KV kvs vs) : (!vs.isEmpty) = !kvs.isEmpty := by
  cases r <;> rfl
theorem isEmpty_of {xs : List V} {its : List Value} (r : Vals xs its) : (!its.toArray.isEmpty) = !xs.isEmpty := by
  cases r <;> simp
theorem line63 : (sizeLine : Nat) < 2 ^ 63 := by rw [sizeLine_eq]; decide
theorem tru_ok : TruR X (fun x H Q => ∃ k, TruV X.K x H k ∧ Q k H) := by
  intro pins s σ H x v Q I rx h
  obtain ⟨k, e, q⟩ := h
  have hl := line63
  have hs : sizeLine = 16777216 := sizeLine_eq
  cases x with
  | non =>
    cases rx
    have e' : k = false := e
    subst e'
    exact truthy_none ⟨H, I, q⟩
  | bl b =>
    cases rx
    have e' : k = b := e
    subst e'
    exact wpAny_truthy_bool ⟨H, I, q⟩
  | int i =>
    obtain ⟨t, rfl⟩ := rx
    have e' : k = (i != 0) := e
    subst e'
    exact PySem.P.truthy_int ⟨H, I, q⟩
  | str y =>
    obtain ⟨t, rfl⟩ := rx
    obtain ⟨hy, e'⟩ : y.length ≤ sizeLine ∧ k = ((y.length : Int) != 0) := e
    subst e'
    exact PySem.P.truthy_str (by omega) ⟨H, I.tok _, q⟩
  | byt y =>
    obtain ⟨t, rfl⟩ := rx
    obtain ⟨hy, e'⟩ : y.size ≤ sizeLine ∧ k = ((y.size : Int) != 0) := e
    subst e'
    exact PySem.W.truthy_bytes (by omega) ⟨H, I.tok _, q⟩
  | ref p =>
    cases rx
    have e' : (∃ xs, SqL X.K H p xs ∧ k = !xs.isEmpty) ∨ (∃ xs, SqT X.K H p xs ∧ k = !xs.isEmpty) ∨ ∃ kvs, H p = some (.dK kvs) ∧ k = !kvs.isEmpty := e
    rcases e' with ⟨xs, hx, e'⟩ | ⟨xs, hx, e'⟩ | ⟨kvs, hx, e'⟩
    · subst e'
      obtain ⟨its, r, pl, hz⟩ := I.list hx
      have hlen := r.length
      exact wpAny_truthy_list pl.isList (by simp only [List.size_toArray]; omega) ⟨H, I.tok _, by rw [isEmpty_of r]; exact q⟩
    · subst e'
      obtain ⟨its, r, pl, hz⟩ := I.tuple hx
      have hlen := r.length
      exact truthy_tuple pl (by simp only [List.size_toArray]; omega) ⟨H, I.tok _, by rw [isEmpty_of r]; exact q⟩
    · subst e'
      obtain ⟨hz, hS, vs, r, m⟩ : kvs.length ≤ sizeLine ∧ (p == sysModules) = false ∧ ∃ vs, KV kvs vs ∧ s.heap.DictOf (mixKind X.prog X.w) p vs := I.hok p _ hx
      have hlen : kvs.length = vs.length := Paired.length r
      exact wpAny_truthy_dict hS m (by omega) ⟨H, I.tok _, by rw [isEmpty_kv r]; exact q⟩
  | _ => exact (show False from e).elim
theorem pt_truth (ha : PE X a ta) (he : ∀ whole, isTrue a X.env whole = (do let v ← whole; standAt a.pos; holding [v] (truthy v))) :
    PT X a (fun σ H Q => ta σ H fun x H' => ∃ k, TruV X.K x H' k ∧ Q k H') := by
  intro pins s σ H Q I h
  exact isTrue_plain (thn (ha pins s σ H _ I h) fun v s1 ⟨x, H1, I1, r1, q1⟩ => tru_ok pins s1 σ H1 x v Q I1 r1 q1) (he _)
theorem op_add_str : OpR X (binaryOp .Add) (fun x y H Q => ∃ i j, x = .str i ∧ y = .str j ∧ i.length + j.length ≤ sizeLine ∧ Q (.str (i ++ j)) H) := by
  intro pins s σ H x y v u Q I rx ry h
  obtain ⟨i, j, rfl, rfl, hz, q⟩ := h
  obtain ⟨t, rfl⟩ := rx
  obtain ⟨t', rfl⟩ := ry
  exact add_str (fun t' tk => ⟨.str (i ++ j), H, I.tok _, ⟨_, rfl⟩, q⟩) hz
theorem vals1 {x : V} {us : List Value} (r : Vals [x] us) : ∃ u, us = [u] ∧ RelV x u := by
  cases r with
  | cons r1 r2 => cases r2; exact ⟨_, rfl, r1⟩
theorem vals2 {x y : V} {us : List Value} (r : Vals [x, y] us) : ∃ u w', us = [u, w'] ∧ RelV x u ∧ RelV y w' := by
  cases r with
  | cons r1 r2 =>
    cases r2 with
    | cons r3 r4 => cases r4; exact ⟨_, _, rfl, r1, r3⟩
end
end L2
namespace L2
open PySem PySem.Spec PyProof.Rows
structure ObjM (h : Heap) (x dx C : Addr) (mA : Str → Option Value) : Prop where
  obj : h.get? x = some (PySem.W.instObj C dx)
  ns : h.Ns1 dx mA
  ne : dx ≠ x
theorem lookIn_ns {h : Heap} {dx : Addr} {mA : Str → Option Value} (n : h.Ns1 dx mA) : ∃ od, h.get? dx = some od ∧ ∀ name, PySem.W.lookIn name od = some (mA name) := by
  obtain ⟨o, es, ep, ho, hd, hk, _, hm⟩ := n
  refine ⟨o, ho, fun name => ?_⟩
  have e := hm name
  unfold nsFind findBy at e
  rw [← Array.find?_toList] at e
  unfold PySem.W.lookIn
  rw [hd]
  dsimp only
  split
  · rename_i y q
    rw [q] at e
    exact congrArg some e
  · rename_i q
    rw [q] at e
    have a : es.toList.any (·.refKey) = false := by
      rw [List.any_eq_false]
      intro y hy
      obtain ⟨z, t, hkey⟩ := hk y (Array.mem_toList_iff.mp hy)
      simp [DictEntry.refKey, hkey]
    have a' : ¬ es.toList.any (·.refKey) = true := by rw [a]; exact Bool.false_ne_true
    rw [if_neg a']
    exact congrArg some e
theorem ObjM.look {h : Heap} {x dx C : Addr} {mA : Str → Option Value} (I : ObjM h x dx C mA) : ∃ od, PySem.W.InstAt h x (PySem.W.instObj C dx) C (some od) ∧ ∀ name, PySem.W.lookIn name od = some (mA name) :=
  let ⟨od, ho, hl⟩ := lookIn_ns I.ns
  ⟨od, ⟨I.obj, rfl, rfl, ho⟩, hl⟩
section
variable {prog : Program} {w : World} {A : Around} {E : Value → Shared → Prop} {s : Shared} {K : PySem.W.Frag} {x dx C f : Addr} {mA : Str → Option Value} {name : Str} {v : Value}
end
section
variable {P : Program} {w : World} {H H' : Hp} {h h' : Heap} {a C dx : Addr} {fs fs' : List (Str × V)}
theorem ins_get (hok : HOk P w H h) (e : H a = some (.ins C dx fs)) : ∃ mA, ObjM h a dx C mA ∧ (∀ f, RelO (fs.lookup f) (mA f)) ∧ PySem.Within mA (fs.map (·.1)) ∧ fs.length ≤ 1000 ∧ H dx = some (.own a) := by
  obtain ⟨d, z, ne, ob, mA, n, r, q⟩ := (show ObjOk P w H h a (.ins C dx fs) from hok a _ e)
  exact ⟨mA, ⟨ob, n, ne⟩, r, q, z, d⟩
end
structure Cls (K : PySem.W.Frag) (C : Addr) : Prop where
  pg : PySem.W.plainGet K C Str.empty = true
  hd : PySem.W.hasDictIn K C = true
  po : PySem.W.plainOver K C = true
  sa : PySem.W.findIn K (.ref C) "__setattr__" = some (some (.builtin "object.__setattr__"))
theorem Cls.get {K : PySem.W.Frag} {C : Addr} (c : Cls K C) (f : Str) : PySem.W.plainGet K C f = true := c.pg
structure Con (K : PySem.W.Frag) (C : Addr) (f : Str) (v : V) (u : Value) : Prop where
  at_ : PySem.W.findIn K (.ref C) f = some (some u)
  rel : RelV v u
  get : PySem.W.specialIn K u "__get__" = some none
  cp : PySem.W.copiedNames.contains f = false
structure Meth (K : PySem.W.Frag) (C : Addr) (m : Str) (f : Addr) : Prop where
  at_ : PySem.W.findIn K (.ref C) m = some (some (.ref f))
  fn : PySem.W.isFn K (.ref f) = true
  kp : PySem.W.keepIn K (.ref f) = true
section
variable {X : Cx} {pins : List (Addr × Obj)} {σ : St} {H : Hp} {s : Shared} {a C dx : Addr} {fs : List (Str × V)} {f : Str} {v : V} {A : Around} {E : Value → Shared → Prop}
theorem Inv.made (I : Inv X pins σ H s) : Inv X pins σ (upd (upd H s.heap.objs.size (.own (s.heap.objs.size + 1))) (s.heap.objs.size + 1) (.ins C s.heap.objs.size []))
    { s with heap := (s.heap.push PySem.W.emptyDict).push (PySem.W.instObj C s.heap.objs.size) } := by
  have e1 : (s.heap.push PySem.W.emptyDict).get? s.heap.objs.size = some PySem.W.emptyDict := Heap.get?_push_size s.heap rfl
  have e2 : ((s.heap.push PySem.W.emptyDict).push (PySem.W.instObj C s.heap.objs.size)).get? (s.heap.objs.size + 1) = some (PySem.W.instObj C s.heap.objs.size) := by
    have := Heap.get?_push_size (s.heap.push PySem.W.emptyDict) (o := PySem.W.instObj C s.heap.objs.size) rfl
    rwa [Heap.size_push] at this
  have e3 : (s.heap.push PySem.W.emptyDict).Ns s.heap.objs.size (fun _ => none) := ⟨PySem.W.emptyDict, #[], _, e1, rfl, (fun e he => absurd he (by simp)), fun _ => rfl⟩
  have I1 := I.laid (a := s.heap.objs.size) (o := .own (s.heap.objs.size + 1)) (h' := s.heap.push PySem.W.emptyDict) (t' := s.toks) (fun b u q => Heap.get?_push_of_some _ q) (Nat.le_refl _) ⟨_, e1⟩
  refine I1.laid (a := s.heap.objs.size + 1) (o := .ins C s.heap.objs.size []) (t' := s.toks) (fun b u q => Heap.get?_push_of_some _ q) (Nat.le_of_eq (Heap.size_push _ _)) ?_
  have ne : s.heap.objs.size ≠ s.heap.objs.size + 1 := Nat.ne_of_lt (Nat.lt_succ_self _)
  refine ⟨by rw [upd_ne ne, upd_same], Nat.zero_le _, ne, e2, fun _ => none, (Heap.Ns1.of_empty e3).at fun o q => Heap.get?_push_of_some _ q, fun _ => True.intro, fun y hy => absurd rfl hy⟩
theorem attr_of {prog : Program} {w : World} {env : Env} {e : Expr} {f : Str} {pos : Pos} {s : Shared} {Q : Value → Shared → Prop} (hb : attributeBase e f env (eval e env) = eval e env)
    (h : wpAny (model prog w) A (eval e env) (fun o s₁ => wpAny (model prog w) A (getAttr o f true) Q E s₁) E s) : wpAny (model prog w) A (eval (.Attribute e f pos) env) Q E s :=
  Attribute_any_ h (by rw [arm_eval_Attribute, hb])
end
section
variable {X : Cx} {o e value : Expr} {f : Str} {pos pos' tpos : Pos} {ta tv : TE}
end
section
variable {X : Cx} {pins : List (Addr × Obj)} {σ : St} {H : Hp} {s : Shared} {A : Around} {E : Value → Shared → Prop} {Q : Value → Shared → Prop} {c : Value} {b : Bool}
inductive TyOf (K : PySem.W.Frag) (H : Hp) : V → Value → Prop where
  | non : TyOf K H .non (.type "NoneType")
  | bl (x : Bool) : TyOf K H (.bl x) (.type "bool")
  | int (i : Int) : TyOf K H (.int i) (.type "int")
  | str (x : Str) : TyOf K H (.str x) (.type "str")
  | flt (x : UInt64) : TyOf K H (.flt x) (.type "float")
  | lst {a : Addr} {xs : List V} (e : H a = some (.lst xs)) : TyOf K H (.ref a) (.type "list")
  | frz {a : Addr} {o : Obj} {xs : List V} (e : H a = some (.frz o (.lst xs))) : TyOf K H (.ref a) (.type "list")
  | tup {a : Addr} {xs : List V} (e : H a = some (.tup xs)) : TyOf K H (.ref a) (.type "tuple")
  | dK {a : Addr} {kvs : List (Key × V)} (e : H a = some (.dK kvs)) : TyOf K H (.ref a) (.type "dict")
  | dT {a : Addr} {kvs : List (List Key × V)} (e : H a = some (.dT kvs)) : TyOf K H (.ref a) (.type "dict")
  | ins {a C dx : Addr} {fs : List (Str × V)} (e : H a = some (.ins C dx fs)) (cl : Cls K C) (ha : PySem.W.findIn K (.ref C) "__class__" = some (some (.builtin "object.__class__")))
      (hn : PySem.W.specialIn K (.builtin "object.__class__") "__get__" = some (some (.builtin "getset_descriptor.__get__"))) (htk : PySem.W.takesIn K (.builtin "object.__class__") = some true)
      (hm : PySem.W.mroIn K C (.type "object") = some true) : TyOf K H (.ref a) (.ref C)
theorem isinst_ok {x : V} {u t : Value} (I : Inv X pins σ H s) (rx : RelV x u) (ty : TyOf X.K H x t) (e : PySem.W.kitOne X.K t c = some b) (h : ∀ tk, Q (.bool b) { s with toks := tk }) :
    wpAny (model X.prog X.w) A (call (.builtin "isinstance") [u, c]) Q E s := by
  cases ty with
  | non => cases (show u = Value.none from rx); exact PySem.W.kia_one PySem.W.kitx_none I.kIn True.intro e (fun z => nomatch z) h
  | bl y => cases (show u = Value.bool y from rx); exact PySem.W.kia_one PySem.W.kitx_bool I.kIn True.intro e (fun z => nomatch z) h
  | int i => obtain ⟨t, q⟩ := (show ∃ t, u = Value.int i t from rx); cases q; exact PySem.W.kia_one PySem.W.kitx_int I.kIn True.intro e (fun z => nomatch z) h
  | str y => obtain ⟨t, q⟩ := (show ∃ t, u = Value.str y t from rx); cases q; exact PySem.W.kia_one PySem.W.kitx_str I.kIn True.intro e (fun z => nomatch z) h
  | flt y => obtain ⟨t, q⟩ := (show ∃ t, u = Value.float y t from rx); cases q; exact PySem.W.kia_one PySem.W.kitx_float I.kIn True.intro e (fun z => nomatch z) h
  | @lst a xs ea =>
    cases (show u = Value.ref a from rx)
    obtain ⟨_, _, n, _, h1⟩ := (show ObjOk X.prog X.w H s.heap a (.lst xs) from I.hok a _ ea)
    exact PySem.W.kia_one PySem.W.kitx_list I.kIn ⟨_, h1, rfl⟩ e (fun z => nomatch z) h
  | @frz a ob xs ea =>
    cases (show u = Value.ref a from rx)
    obtain ⟨_, _, _, n, _, h1⟩ := (show ObjOk X.prog X.w H s.heap a (.frz ob (.lst xs)) from I.hok a _ ea)
    exact PySem.W.kia_one PySem.W.kitx_list I.kIn ⟨_, h1, rfl⟩ e (fun z => nomatch z) h
  | @tup a xs ea =>
    cases (show u = Value.ref a from rx)
    obtain ⟨_, _, _, p⟩ := (show ObjOk X.prog X.w H s.heap a (.tup xs) from I.hok a _ ea)
    obtain ⟨o, h1, h2, _⟩ := p
    exact PySem.W.kia_one PySem.W.kitx_tuple I.kIn ⟨o, h1, h2⟩ e (fun z => nomatch z) h
  | @dK a kvs ea =>
    cases (show u = Value.ref a from rx)
    obtain ⟨_, _, vs, _, p⟩ := (show ObjOk X.prog X.w H s.heap a (.dK kvs) from I.hok a _ ea)
    obtain ⟨o, es, ep, h1, h2, _⟩ := p
    exact PySem.W.kia_one PySem.W.kitx_dict I.kIn ⟨o, h1, h2.1⟩ e (fun z => nomatch z) h
  | @dT a kvs ea =>
    cases (show u = Value.ref a from rx)
    obtain ⟨_, _, xs, _, o, es, ep, h1, h2, _⟩ := (show ObjOk X.prog X.w H s.heap a (.dT kvs) from I.hok a _ ea)
    exact PySem.W.kia_one PySem.W.kitx_dict I.kIn ⟨o, h1, h2.1⟩ e (fun z => nomatch z) h
  | @ins a C dx fs ea cl ha hn htk hm =>
    cases (show u = Value.ref a from rx)
    obtain ⟨mA, O, _⟩ := ins_get I.hok ea
    obtain ⟨od, J, _⟩ := O.look
    exact PySem.W.kia_one (PySem.W.kitx_own (cl.get _) cl.hd ha hn htk hm) I.kIn J e (fun z => nomatch z) h
end
end L2
namespace L2
open PySem PySem.Spec PyProof.Rows
structure Room (k : Nat) (A : Around) : Prop where
  hd : A.handled = none
  dp : A.depth + 3 * k + 5 < recursionLimit
  un : A.units + 16 * k + 200 < cLine
  gd : A.guards = some []
theorem Room.mono {j k : Nat} {A : Around} (r : Room k A) (h : j ≤ k) : Room j A := ⟨r.hd, by have := r.dp; omega, by have := r.un; omega, r.gd⟩
theorem Room.deeper {k : Nat} {A : Around} (r : Room (k + 1) A) (env : Env) : Room k (A.deeper env) :=
  ⟨r.hd, by have := r.dp; show A.depth + 1 + 3 * k + 5 < _; omega, by have := r.un; show A.units + 3 + 16 * k + 200 < _; omega, r.gd⟩
theorem Room.in1 {k : Nat} {A : Around} (r : Room (k + 1) A) : Room k A.in1 :=
  ⟨r.hd, by have := r.dp; show A.depth + 3 * k + 5 < _; omega, by have := r.un; show A.units + 1 + 16 * k + 200 < _; omega, r.gd⟩
theorem make_depth {A : Around} {C : Addr} {us : List Value} {kw : List (Str × Value)} : (A.under (.builtin "type.__call__" ⟨.ref C :: us, kw⟩)).depth = A.depth + 1 := by
  first | rfl | simp [Around.under, Code.weight, Code.isCreation, Code.isGuard, Code.isCaller, Code.frames, Code.isFrame, guardIds]
theorem make_units {A : Around} {C : Addr} {us : List Value} {kw : List (Str × Value)} : (A.under (.builtin "type.__call__" ⟨.ref C :: us, kw⟩)).units = A.units + 1 := by
  first | rfl | simp [Around.under, Code.cUnits, Code.frames, Code.isFrame]
theorem Room.make {k : Nat} {A : Around} (r : Room (k + 1) A) (C : Addr) (us : List Value) (kw : List (Str × Value)) : Room k (A.under (.builtin "type.__call__" ⟨.ref C :: us, kw⟩)) :=
  ⟨r.hd, by have := r.dp; rw [make_depth]; omega, by have := r.un; rw [make_units]; omega, r.gd⟩
theorem Room.depth {k : Nat} {A : Around} (r : Room k A) : A.depth < recursionLimit := by have := r.dp; omega
theorem Room.units {k : Nat} {A : Around} (r : Room k A) : A.units + 64 < cLine := by have := r.un; omega
def tNil : TA := fun _ H Q => Q [] H
def tCons (ta : TE) (tr : TA) : TA := fun σ H Q => ta σ H fun x H1 => tr σ H1 fun xs H2 => Q (x :: xs) H2
section
variable {X : Cx} {e : Expr} {es : List Expr} {te : TE} {t : TA} {pos : Pos}
theorem pa_nil : PA X [] tNil := fun _ _ _ _ H Q I h => Calls.spliced_nil ⟨[], H, I, .nil, h⟩
theorem pa_cons (ha : PE X e te) (hr : PA X es t) (hs : starEach (e :: es) X.env = (false, eval e X.env) :: starEach es X.env := by rfl) : PA X (e :: es) (tCons te t) := by
  intro pos pins s σ H Q I h
  rw [hs]
  show wpAny _ _ (spliced ((false, eval e X.env) :: backTo pos (starEach es X.env))) _ _ s
  refine Calls.spliced_cons (thn (ha pins s σ H _ I h) fun u s1 ⟨x, H1, I1, r1, q1⟩ => ?_)
  exact thn (hr pos pins s1 σ H1 _ I1 q1) fun us s2 ⟨xs, H2, I2, r2, q2⟩ => ⟨x :: xs, H2, I2, .cons r1 r2, q2⟩
def tTup (t : TA) : TE := fun σ H Q => t σ H fun xs H1 => xs.length ≤ sizeLine ∧ ∀ p, H1 p = none → Q (.ref p) (upd H1 p (.tup xs))
def tLst (t : TA) : TE := fun σ H Q => t σ H fun xs H1 => xs.length ≤ sizeLine ∧ ∀ p, H1 p = none → Q (.ref p) (upd H1 p (.lst xs))
theorem pe_tup {x1} (h : PA X es t) : PE X (.Tuple es x1 pos) (tTup t) := by
  intro pins s σ H Q I hq
  refine wpAny_Tuple_spliced (thn (h pos pins s σ H _ I hq) fun us s1 ⟨xs, H1, I1, r, z, q⟩ => ⟨by rw [← r.length]; exact z, ?_⟩)
  have hf : H1 s1.heap.objs.size = none := I1.hok.fresh (Nat.le_refl _)
  refine ⟨.ref s1.heap.objs.size, upd H1 s1.heap.objs.size (.tup xs), I1.laid (t' := s1.toks) (fun b u e => Heap.get?_push_of_some _ e) (Nat.le_refl _) ?_, rfl, q _ hf⟩
  exact ⟨z, us, r, ⟨_, Heap.get?_push_size _ rfl, rfl, _, rfl⟩⟩
theorem pe_lst (h : PA X es t) : PE X (.List es pos) (tLst t) := by
  intro pins s σ H Q I hq
  refine wpAny_List_spliced (thn (h pos pins s σ H _ I hq) fun us s1 ⟨xs, H1, I1, r, z, q⟩ => ⟨by rw [← r.length]; exact z, ?_⟩)
  have hf : H1 s1.heap.objs.size = none := I1.hok.fresh (Nat.le_refl _)
  refine ⟨.ref s1.heap.objs.size, upd H1 s1.heap.objs.size (.lst xs), I1.laid (t' := s1.toks) (fun b u e => Heap.get?_push_of_some _ e) (Nat.le_refl _) ?_, rfl, q _ hf⟩
  exact ⟨z, us, 0, r, Heap.get?_push_size _ rfl⟩
end
abbrev Sp := List V → Hp → VK → XK → Prop
abbrev CXT := List Env → Hp → Shared → XK → Value → Shared → Prop
structure Env0 (P : Program) (w : World) (K : PySem.W.Frag) (mg : Str → Option Value) (base : Heap) (A : Around) (outer : List Env) (s : Shared) (H : Hp) : Prop where
  frames : A.frames = some outer
  mod : Mod K mg base
  bs : ∀ b o, base.get? b = some o → s.heap.get? b = some o ∧ H b = none
  bsz : base.objs.size ≤ s.heap.objs.size
  funs : s.heap.FunFrames base outer
  frf : ∀ b ∈ frs outer, H b = none
  hok : HOk P w H s.heap
  bare : AllBare s.gens
def CE (outer : List Env) (P : Program) (w : World) (H : Hp) (s : Shared) (Q : VK) (u : Value) (s' : Shared) : Prop :=
  ∃ v H', s'.os = s.os ∧ AllBare s'.gens ∧ Un (frs outer) [] H H' s.heap s'.heap ∧ HOk P w H' s'.heap ∧ RelV v u ∧ Q v H'
def CR (CX : CXT) (outer : List Env) (P : Program) (w : World) (H : Hp) (s : Shared) (Q : VK) (E : XK) (r : Result) (s' : Shared) : Prop :=
  match r with
  | .ok (.ret u) => CE outer P w H s Q u s'
  | .ok _ => False
  | .error e => CX outer H s E e s'
structure FnOk (P : Program) (w : World) (K : PySem.W.Frag) (mg : Str → Option Value) (base : Heap) (CX : CXT) (k : Nat) (f : Addr) (fd : FuncData) (ps : List Str) (sp : Sp) : Prop where
  len : ∀ vs H Q E, sp vs H Q E → vs.length = ps.length
  run : ∀ (A : Around) (outer : List Env) (s : Shared) (H : Hp) (args : Args) (us : List Value) (vs : List V) (Q : VK) (E : XK), Room k A → Env0 P w K mg base A outer s H → BindsTo s fd args (ps.zip us) → Vals vs us → sp vs H Q E →
    codeAny (model P w) A (.call (.ref f) args) (CR CX outer P w H s Q E) s
theorem FnOk.mono {P : Program} {w : World} {K : PySem.W.Frag} {mg : Str → Option Value} {base : Heap} {CX : CXT} {j k : Nat} {f : Addr} {fd : FuncData} {ps : List Str} {sp : Sp} (F : FnOk P w K mg base CX j f fd ps sp) (h : j ≤ k) :
    FnOk P w K mg base CX k f fd ps sp := ⟨F.len, fun A outer s H args us vs Q E hr => F.run A outer s H args us vs Q E (hr.mono h)⟩
theorem FnOk.imp {P : Program} {w : World} {K : PySem.W.Frag} {mg : Str → Option Value} {base : Heap} {CX : CXT} {k : Nat} {f : Addr} {fd : FuncData} {ps : List Str} {sp sp' : Sp} (F : FnOk P w K mg base CX k f fd ps sp)
    (h : ∀ vs H Q E, sp' vs H Q E → sp vs H Q E) : FnOk P w K mg base CX k f fd ps sp' :=
  ⟨fun vs H Q E q => F.len vs H Q E (h _ _ _ _ q), fun A outer s H args us vs Q E hr he hb hv hs => F.run A outer s H args us vs Q E hr he hb hv (h _ _ _ _ hs)⟩
theorem Env0.make {P : Program} {w : World} {K : PySem.W.Frag} {mg : Str → Option Value} {base : Heap} {A : Around} {outer : List Env} {s : Shared} {H : Hp} (e : Env0 P w K mg base A outer s H) (C : Addr) (us : List Value) (kw : List (Str × Value)) :
    Env0 P w K mg base (A.under (.builtin "type.__call__" ⟨.ref C :: us, kw⟩)) outer s H := ⟨by first | exact e.frames | (simpa [Around.under, Code.envs, Code.isFrame, pushEnvs] using e.frames), e.mod, e.bs, e.bsz, e.funs, e.frf, e.hok, e.bare⟩
theorem Env0.in1 {P : Program} {w : World} {K : PySem.W.Frag} {mg : Str → Option Value} {base : Heap} {A : Around} {outer : List Env} {s : Shared} {H : Hp} (e : Env0 P w K mg base A outer s H) :
    Env0 P w K mg base A.in1 outer s H := ⟨e.frames, e.mod, e.bs, e.bsz, e.funs, e.frf, e.hok, e.bare⟩
section
variable {X : Cx} {pins : List (Addr × Obj)} {σ : St} {H : Hp} {s s' : Shared}
theorem Inv.env0 (I : Inv X pins σ H s) : Env0 X.prog X.w X.K X.mg X.base X.A X.stack s H :=
  ⟨I.ok.frames, I.ok.mod, I.bs, Nat.le_trans I.ok.bsz I.sz, I.stack, I.stkFree, I.hok, I.bare⟩
theorem Inv.after {Q : VK} {u : Value} (I : Inv X pins σ H s) (h : CE X.stack X.prog X.w H s Q u s') : EP X pins σ Q u s' := by
  obtain ⟨v, H', os, bare, un, hok, r, q⟩ := h
  obtain ⟨hh, g, d, t, os'⟩ := s'
  obtain rfl : os' = s.os := os
  exact ⟨v, H', I.call (h' := hh) (g' := g) (d' := d) (t' := t) (ch := []) un hok bare (fun b z => absurd z (by simp)), r, q⟩
end
def tCall (sp : Sp) (dvs : List V) (E : XK) (t : TA) : TE := fun σ H Q => t σ H fun vs H1 => sp (vs ++ dvs) H1 Q E
def Binds (K : PySem.W.Frag) (fd : FuncData) (ps : List Str) (ds : List Value) : Prop :=
  ∀ (s : Shared) (us : List Value), K.In s.heap → (us ++ ds).length = ps.length → BindsTo s fd ⟨us, []⟩ (ps.zip (us ++ ds))
theorem Binds.all {K : PySem.W.Frag} {fd : FuncData} {ps : List Str} (h : ∀ us : List Value, us.length = ps.length → bindArgs fd ⟨us, []⟩ = pure (ps.zip us)) : Binds K fd ps [] := fun s us _ hl => by
  rw [List.append_nil] at hl ⊢
  exact .of_eq (h us hl)
def Passes (CX : CXT) (X : Cx) (E : XK) : Prop := ∀ (pins : List (Addr × Obj)) (σ : St) (H : Hp) (s : Shared) (e : Value) (s' : Shared), Inv X pins σ H s → CX X.stack H s E e s' → X.xe e s'
section
variable {X : Cx} {CX : CXT} {k : Nat} {f C : Addr} {fd : FuncData} {ps : List Str} {sp : Sp} {dvs : List V} {ds : List Value} {E : XK} {x m : Str} {p pos apos : Pos} {e o : Expr} {es : List Expr} {ta : TE} {t : TA}
theorem run_fn {pins : List (Addr × Obj)} {σ : St} {H : Hp} {s : Shared} {Q : VK} {us : List Value} {vs : List V} (F : FnOk X.prog X.w X.K X.mg X.base CX k f fd ps sp) (hr : Room k X.A) (hb : Binds X.K fd ps ds) (hd : Vals dvs ds) (hx : Passes CX X E)
    (I : Inv X pins σ H s) (r : Vals vs us) (h : sp (vs ++ dvs) H Q E) : wpAny (model X.prog X.w) X.A (call (.ref f) us) (EP X pins σ Q) X.xe s := by
  have r2 : Vals (vs ++ dvs) (us ++ ds) := r.append hd
  have hl : (us ++ ds).length = ps.length := by rw [← r2.length]; exact F.len _ _ _ _ h
  refine wpAny_call (codeAny_mono (F.run X.A X.stack s H ⟨us, []⟩ (us ++ ds) (vs ++ dvs) Q E hr I.env0 (hb s us I.kIn hl) r2 h) fun r s' hq => ?_)
  cases r with
  | error e => exact hx pins σ H s e s' I hq
  | ok fl =>
    cases fl with
    | ret u => exact I.after hq
    | next => exact False.elim hq
    | brk => exact False.elim hq
    | cont => exact False.elim hq
theorem pe_call (F : FnOk X.prog X.w X.K X.mg X.base CX k f fd ps sp) (hr : Room k X.A) (hg : Gl X x) (hm : X.mg x = some (.ref f)) (hk : PySem.W.keepIn X.K (.ref f) = true) (hb : Binds X.K fd ps ds) (hd : Vals dvs ds) (hx : Passes CX X E)
    (ha : PA X (e :: es) t) (hdb : (x == ("__debug__" : Str)) = false := by decide) (he : starEach (e :: es) X.env = (false, eval e X.env) :: starEach es X.env := by rfl) (hpl : (backTo pos (starEach es X.env)).any (·.1) = false := by rfl) :
    PE X (.Call (.Name x p) (e :: es) [] pos) (tCall sp dvs E t) := by
  intro pins s σ H Q I h
  refine wpAny_Call_Name_kw (ld_glob I hg hm ?_ hdb)
  refine PySem.W.callWith_K (h₀ := X.base) I.ok.mod.kin hk (thn (ha pos pins s σ H _ I h) fun us s1 ⟨vs, H1, I1, r, q⟩ => ⟨I1.kIn, ?_⟩) he hpl
  exact run_fn F hr hb hd hx I1 r q
structure Mk (K : PySem.W.Frag) (C f : Addr) : Prop where
  makes : PySem.W.makesIn K C = true
  init : PySem.W.findIn K (.ref C) "__init__" = some (some (.ref f))
  fn : PySem.W.isFn K (.ref f) = true
  kp : PySem.W.keepIn K (.ref C) = true
end
section
variable {X : Cx} {CX : CXT} {k : Nat} {f C : Addr} {fd : FuncData} {ps ks : List Str} {sp : Sp} {E : XK} {x m : Str} {p pos apos kpos : Pos} {e o : Expr} {es : List Expr} {kws : List Keyword} {te ta : TE} {t tk : TA} {nm : Option Str}
structure KBinds (K : PySem.W.Frag) (fd : FuncData) (ps ks : List Str) (g : List Value → List Value → List Value) (gV : List V → List V → List V) : Prop where
  to : ∀ (s : Shared) (us ws : List Value), K.In s.heap → (g us ws).length = ps.length → BindsTo s fd ⟨us, ks.zip ws⟩ (ps.zip (g us ws))
  rel : ∀ {vs : List V} {us : List Value} {zs : List V} {ws : List Value}, Vals vs us → Vals zs ws → Vals (gV vs zs) (g us ws)
variable {g : List Value → List Value → List Value} {gV : List V → List V → List V}
end
structure FnScope (N P : List Str) (sc : Scope) : Prop where
  kind : sc.kind = .function
  co : sc.isCoroutine = false
  gen : sc.isGenerator = false
  nd : N.Nodup
  pre : N.take P.length = P
  par : ∀ x ∈ P, sc.names.lookup x = some .local ∨ sc.names.lookup x = some .cell
  nofree : ∀ y ∈ sc.names, y.2 ≠ .free
theorem bindL_out {kindOf : Str → Option NameKind} {x : Str} : ∀ {binds : List (Str × Value)} {m : Str → Option Value}, (∀ v, (x, v) ∉ binds) → bindL kindOf binds m x = m x
  | [], _, _ => rfl
  | (n, v) :: r, m, h => by
    unfold bindL
    rw [bindL_out fun w hw => h w (List.mem_cons_of_mem _ hw)]
    split
    · have : x ≠ n := by rintro rfl; exact h v List.mem_cons_self
      simp [this]
    · rfl
theorem bindC_out {kindOf : Str → Option NameKind} {x : Str} : ∀ {binds : List (Str × Value)} {m : Str → Option Value}, (∀ v, (x, v) ∉ binds) → bindC kindOf binds m x = m x
  | [], _, _ => rfl
  | (n, v) :: r, m, h => by
    unfold bindC
    rw [bindC_out fun w hw => h w (List.mem_cons_of_mem _ hw)]
    split
    · rfl
    · have : x ≠ n := by rintro rfl; exact h v List.mem_cons_self
      simp [this]
theorem bindL_get {kindOf : Str → Option NameKind} {x : Str} {v : Value} : ∀ {P : List Str} {vs : List Value} {i : Nat} {m : Str → Option Value}, P.Nodup → P[i]? = some x → vs[i]? = some v → kindOf x = some .local →
    bindL kindOf (P.zip vs) m x = some v
  | [], _, _, _, _, h, _, _ => by simp at h
  | _ :: _, [], _, _, _, _, h, _ => by simp at h
  | p :: P, w :: vs, 0, m, nd, h1, h2, hk => by
    simp at h1 h2; subst h1; subst h2
    show bindL kindOf ((p, w) :: P.zip vs) m p = _
    unfold bindL
    rw [bindL_out fun v hv => (List.nodup_cons.mp nd).1 (List.of_mem_zip hv).1, if_pos hk]
    simp
  | p :: P, w :: vs, i + 1, m, nd, h1, h2, hk => by
    show bindL kindOf ((p, w) :: P.zip vs) m x = _
    unfold bindL
    exact bindL_get (i := i) (List.nodup_cons.mp nd).2 (by simpa using h1) (by simpa using h2) hk
theorem bindC_get {kindOf : Str → Option NameKind} {x : Str} {v : Value} : ∀ {P : List Str} {vs : List Value} {i : Nat} {m : Str → Option Value}, P.Nodup → P[i]? = some x → vs[i]? = some v → kindOf x ≠ some .local →
    bindC kindOf (P.zip vs) m x = some v
  | [], _, _, _, _, h, _, _ => by simp at h
  | _ :: _, [], _, _, _, _, h, _ => by simp at h
  | p :: P, w :: vs, 0, m, nd, h1, h2, hk => by
    simp at h1 h2; subst h1; subst h2
    show bindC kindOf ((p, w) :: P.zip vs) m p = _
    unfold bindC
    rw [bindC_out fun v hv => (List.nodup_cons.mp nd).1 (List.of_mem_zip hv).1, if_neg hk]
    simp
  | p :: P, w :: vs, i + 1, m, nd, h1, h2, hk => by
    show bindC kindOf ((p, w) :: P.zip vs) m x = _
    unfold bindC
    exact bindC_get (i := i) (List.nodup_cons.mp nd).2 (by simpa using h1) (by simpa using h2) hk
def start (N : List Str) (vs : List V) : St := vs.map some ++ List.replicate (N.length - vs.length) none
def cxOf (CX : CXT) (P : Program) (w : World) (K : PySem.W.Frag) (mg : Str → Option Value) (base : Heap) (N : List Str) (qual : Str) (scope : Scope) (f : Addr) (cd : Value) (A : Around) (outer : List Env) (s : Shared) (H : Hp) (E : XK) : Cx where
  prog := P
  w := w
  K := K
  mg := mg
  base := base
  A := A.deeper (envOfC qual scope s.heap.objs.size f cd)
  N := N
  s₀ := s
  H₀ := H
  env := envOfC qual scope s.heap.objs.size f cd
  outer := outer
  stack := envOfC qual scope s.heap.objs.size f cd :: outer
  ex := []
  calm := true
  fn := fun _ => true
  pn := []
  xe := fun e s' => wpAny (model P w) (A.deeper (envOfC qual scope s.heap.objs.size f cd)) (leaving (envOfC qual scope s.heap.objs.size f cd) e) (fun _ s'' => CX outer H s E e s'') (fun e' s'' => CX outer H s E e' s'') s'
theorem cell_has {sc : Scope} {n : Nat} {x : Str} (h : sc.names.lookup x = some .cell) : ∃ c, (cellsFrom n sc.names []).lookup x = some c := by
  have q := PySem.W.cellsFrom_some sc.names n [] (.inl h)
  exact Option.isSome_iff_exists.mp q
theorem inv_start {CX : CXT} {P : Program} {w : World} {K : PySem.W.Frag} {mg : Str → Option Value} {base : Heap} {N ps : List Str} {qual : Str} {scope : Scope} {f : Addr} {cd : Value} {A : Around} {outer : List Env} {s s1 : Shared} {H : Hp} {E : XK} {us : List Value} {vs : List V}
    (S : FnScope N ps scope) (hd : A.handled = none) (e0 : Env0 P w K mg base A outer s H) (hl : vs.length = ps.length) (r : Vals vs us)
    (x : InCallC s s.heap.objs.size (bindL (envOfC qual scope s.heap.objs.size f cd).kindOf (ps.zip us) fun _ => none) (cellsFrom (s.heap.objs.size + 1) scope.names []) (bindC (envOfC qual scope s.heap.objs.size f cd).kindOf (ps.zip us) fun _ => none) s1) :
    Inv (cxOf CX P w K mg base N qual scope f cd A outer s H E) [] (start N vs) H s1 := by
  have hpl : ps.length ≤ N.length := by have := congrArg List.length S.pre; rw [List.length_take] at this; omega
  obtain ⟨h1, tk, rfl, hk⟩ := x.done
  have noA : ∀ b : Addr, b ∉ (cxOf CX P w K mg base N qual scope f cd A outer s H E).ex := fun b z => absurd (show b ∈ ([] : List Addr) from z) (by simp)
  refine ⟨⟨e0.mod, S.kind, rfl, rfl, Nat.le_refl _, fun y z c h1 h2 => ?_, fun y hy => ?_, fun y c _ h => ?_, fun _ => hd, Around.frames_deeper e0.frames, .inr ⟨rfl, rfl⟩, fun b z => absurd z (noA b), e0.bs, e0.bsz, fun b _ _ => noA b, fun b z => absurd z (noA b), e0.funs, e0.frf⟩,
    rfl, e0.bare, Un.kept hk, ⟨_, x.toInCall.ns, fun i y v h1 h2 h3 => ?_⟩, fun y c h => ⟨_, x.cell y c h⟩, e0.hok.fresh (Nat.le_refl _), fun y c h => ?_, fun p hp => absurd (show p ∈ ([] : List (Addr × Obj)) from hp) (by simp), e0.hok.kept hk, ?_⟩
  · exact name_of_addr x.apart (PySem.mem_of_lookup h1) (PySem.mem_of_lookup h2)
  · have hy : scope.names.lookup y = some .cell ∨ scope.names.lookup y = some .free := hy
    rcases hy with hy | hy
    · exact cell_has hy
    · exact absurd rfl (S.nofree _ (PySem.mem_of_lookup hy))
  · exact Nat.le_of_lt (x.above y c (PySem.mem_of_lookup h))
  · have hi : i < vs.length := by
      unfold start at h2
      by_cases hi : i < vs.length
      · exact hi
      · rw [List.getElem?_append_right (by simpa using hi)] at h2
        rw [List.getElem?_replicate] at h2
        split at h2 <;> cases h2
    have ha : vs[i]? = some v := by
      unfold start at h2
      rw [List.getElem?_append_left (by simpa using hi), List.getElem?_map] at h2
      cases e : vs[i]? with
      | none => rw [e] at h2; cases h2
      | some a => rw [e] at h2; cases h2; rfl
    obtain ⟨u, hu, rv⟩ := r.get ha
    have hp : ps[i]? = some y := by
      rw [← S.pre, List.getElem?_take_of_lt (by omega)]; exact h1
    have ndP : ps.Nodup := by rw [← S.pre]; exact S.nd.sublist (List.take_sublist _ _)
    refine ⟨u, rv, ?_⟩
    rcases S.par y (List.mem_of_getElem? hp) with k | k
    · exact .inl ⟨k, bindL_get ndP hp hu k⟩
    · obtain ⟨c, e⟩ := cell_has (n := s.heap.objs.size + 1) k
      refine .inr ⟨.inl k, c, e, ?_⟩
      have q := x.cell y c e
      rw [bindC_get ndP hp hu (by show scope.names.lookup y ≠ _; rw [k]; decide)] at q
      exact q
  · exact e0.hok.fresh (Nat.le_of_lt (x.above y c (PySem.mem_of_lookup h)))
  · unfold start
    show _ = N.length
    rw [List.length_append, List.length_map, List.length_replicate]
    omega
theorem fn_of {CX : CXT} {P : Program} {w : World} {K : PySem.W.Frag} {mg : Str → Option Value} {base : Heap} {k : Nat} {f : Addr} {name qual : Str} {params : Arguments} {body : List Stmt} {scope : Scope} {dV kV doc pm cdv ct oc : Value} {an od : Option Addr}
    {osl : Array (Option Value)} {N ps : List Str} {sp : Sp} (lk : K.lookup f = some ⟨oc, od, .func (PySem.W.fnOf name qual params body scope dV kV doc pm an cdv ct), osl⟩) (hcd : PySem.W.codeIn K cdv qual = true) (S : FnScope N ps scope)
    (len : ∀ vs H Q E, sp vs H Q E → vs.length = ps.length)
    (hbody : ∀ (A : Around) (outer : List Env) (s : Shared) (H : Hp) (vs : List V) (Q : VK) (E : XK), Room k (A.deeper (envOfC qual scope s.heap.objs.size f cdv)) → sp vs H Q E →
      ∃ t, PSs (cxOf CX P w K mg base N qual scope f cdv A outer s H E) body t ∧ t { nx := fun _ H' => Q .non H', rt := Q } (start N vs) H) :
    FnOk P w K mg base CX (k + 1) f (PySem.W.fnOf name qual params body scope dV kV doc pm an cdv ct) ps sp := by
  refine ⟨len, fun A outer s H args us vs Q E hr e0 hb r hsp => ?_⟩
  have hl := len _ _ _ _ hsp
  have KX : K.In s.heap := e0.mod.kin.keeps fun b o e => (e0.bs b o e).1
  have lim : s.heap.NoLimit := e0.mod.nolimit.keeps fun b o e => (e0.bs b o e).1
  have hkind : ∀ y ∈ ps.zip us, scope.names.lookup y.1 = some .local ∨ (scope.names.lookup y.1 = some .cell ∧ ((cellsFrom (s.heap.objs.size + 1) scope.names []).lookup y.1).isSome = true) := fun ⟨n, v⟩ hy => by
    rcases S.par n (List.of_mem_zip hy).1 with q | q
    · exact .inl q
    · exact .inr ⟨q, PySem.W.cellsFrom_some _ _ _ (.inl q)⟩
  refine codeAny_call_function hr.depth (KX _ _ lk) rfl S.co S.gen rfl (PySem.W.codeRec_of KX hcd) (hb _ _ _ _ ?_)
  refine wpAny_newFunctionEnv_cells S.kind hkind fun env he s1 x => ?_
  subst he
  refine ⟨lim.keeps x.toInCall.keep, codeAny_func ?_⟩
  obtain ⟨t, ht, hq⟩ := hbody A outer s H vs Q E (hr.deeper _) hsp
  have I : Inv (cxOf CX P w K mg base N qual scope f cdv A outer s H E) [] (start N vs) H s1 := inv_start S hr.hd e0 hl r x
  refine wpAny_mono (ht [] s1 (start N vs) H _ I hq) (fun fl s' hs => ?_) fun e s' hs => hs
  have fin : ∀ {σ' : St} {H' : Hp} {v : V} {u : Value}, Inv (cxOf CX P w K mg base N qual scope f cdv A outer s H E) [] σ' H' s' → RelV v u → Q v H' → CE outer P w H s Q u s' :=
    fun {σ' H' v u} J rv q => ⟨v, H', J.os, J.bare, J.base, J.hok, rv, q⟩
  cases fl with
  | ret u =>
    obtain ⟨v, σ', H', J, rv, q⟩ := hs
    exact fin J rv q
  | next =>
    obtain ⟨σ', H', J, q⟩ := hs
    exact fin (v := V.non) (u := Value.none) J rfl q
  | brk =>
    obtain ⟨_, _, _, q⟩ := hs
    exact False.elim q
  | cont =>
    obtain ⟨_, _, _, q⟩ := hs
    exact False.elim q
end L2
namespace L2
open PySem PySem.Spec PyProof.Rows
section
variable {X : Cx} {x : Str} {p pos : Pos} {e : Expr} {es : List Expr} {t : TA} {id T : String} {r : List V → Hp → VK → Prop}
def tCB (r : List V → Hp → VK → Prop) (t : TA) : TE := fun σ H Q => t σ H fun vs H1 => r vs H1 Q
theorem pe_callB (hc : CallR X (.builtin id) r) (hg : Gl X x) (hm : X.mg x = none) (hv : bootBuiltins x = some (.builtin id)) (ha : PA X (e :: es) t) (hn : x ≠ "__name__" := by decide) (hdb : (x == ("__debug__" : Str)) = false := by decide)
    (he : starEach (e :: es) X.env = (false, eval e X.env) :: starEach es X.env := by rfl) (hpl : (backTo pos (starEach es X.env)).any (·.1) = false := by rfl) : PE X (.Call (.Name x p) (e :: es) [] pos) (tCB r t) := by
  intro pins s σ H Q I h
  refine wpAny_Call_Name_kw (ld_blt I hg hm hv ?_ hn hdb)
  exact PyProof.Rows.callWith_builtin1 (thn (ha pos pins s σ H _ I h) fun us s1 ⟨vs, H1, I1, r1, q1⟩ => hc pins s1 σ H1 vs us Q I1 r1 q1) he hpl
theorem pe_callTy (hc : CallR X (.type T) r) (hg : Gl X x) (hm : X.mg x = none) (hv : bootBuiltins x = some (.type T)) (ha : PA X (e :: es) t) (hn : x ≠ "__name__" := by decide) (hdb : (x == ("__debug__" : Str)) = false := by decide)
    (he : starEach (e :: es) X.env = (false, eval e X.env) :: starEach es X.env := by rfl) (hpl : (backTo pos (starEach es X.env)).any (·.1) = false := by rfl) : PE X (.Call (.Name x p) (e :: es) [] pos) (tCB r t) := by
  intro pins s σ H Q I h
  refine wpAny_Call_Name_kw (ld_blt I hg hm hv ?_ hn hdb)
  exact PyProof.Rows.callWith_type1 (thn (ha pos pins s σ H _ I h) fun us s1 ⟨vs, H1, I1, r1, q1⟩ => hc pins s1 σ H1 vs us Q I1 r1 q1) he hpl
end
end L2
namespace HT
open PySem PyProof.Rows
section
open PySem.SeqAt
open PySem.AutoSeq1 (wpAny_loadPart')
open PySem.MeetsSeq PySem.MeetsSeq2 PySem.MeetsSeq3
end
section
variable {prog : Program} {w : World} {A : Around} {E : Value → Shared → Prop} {s : Shared}
def sIx (n d : Nat) : Option Int → Nat
  | none => d
  | some v => if v < 0 then (v + (n : Int)).toNat else min v.toNat n
theorem sIx_le (n d : Nat) (hd : d ≤ n) (o : Option Int) : sIx n d o ≤ n := by
  cases o with
  | none => exact hd
  | some v =>
    show (if v < 0 then (v + (n : Int)).toNat else min v.toNat n) ≤ n
    by_cases hv : v < 0
    · rw [if_pos hv]; omega
    · rw [if_neg hv]; exact Nat.min_le_right _ _
theorem clip_eq (v : Int) (n d : Nat) : (if v < 0 then max (v + (n : Int)) 0 else min v (n : Int)) = ((sIx n d (some v) : Nat) : Int) := by
  show (if v < 0 then max (v + (n : Int)) 0 else min v (n : Int)) = (((if v < 0 then (v + (n : Int)).toNat else min v.toNat n) : Nat) : Int)
  by_cases hv : v < 0
  · simp only [if_pos hv]; omega
  · simp only [if_neg hv]; omega
theorem adjust_gen (lo hi : Option Int) (n : Nat) : Builtin.Slice.sliceAdjust lo hi 1 (n : Int) = (((sIx n 0 lo : Nat) : Int), ((sIx n n hi : Nat) : Int)) := by
  have h1 : ¬ ((1 : Int) < 0) := by omega
  unfold Builtin.Slice.sliceAdjust
  simp only [h1, if_false]
  refine Prod.ext ?_ ?_
  · cases lo with
    | none => rfl
    | some v => exact clip_eq v n 0
  · cases hi with
    | none => rfl
    | some v => exact clip_eq v n n
theorem places_gen (i j : Nat) : Builtin.Slice.slicePlaces (i : Int) (j : Int) 1 = j - i := by
  unfold Builtin.Slice.slicePlaces
  have h1 : (1 : Int) > 0 := by omega
  simp only [h1, if_true, Int.ediv_one]
  split <;> omega
theorem slicePart_ {v : Value} {o : Option Int} {Q : Option Int → Shared → Prop} (p : IsPart v o) (h : Q o s) : wpAny (model prog w) A (Builtin.Slice.slicePartIndex v) Q E s := by
  cases p with
  | none => exact slicePart_none h
  | int i t => exact slicePart_int h
theorem sliceApplied_gen {sl : Addr} {vl vu : Value} {lo hi : Option Int} {n : Nat} {Q : Int × Int × Nat → Shared → Prop} (hs : s.heap.IsSliceOf sl vl vu .none) (pl : IsPart vl lo) (pu : IsPart vu hi)
    (h : Q (((sIx n 0 lo : Nat) : Int), 1, sIx n n hi - sIx n 0 lo) s) : wpAny (model prog w) A (Builtin.Slice.sliceApplied (.ref sl) (pure (n : Int))) Q E s := by
  obtain ⟨os, hos, hcs, hds⟩ := id hs
  unfold Builtin.Slice.sliceApplied Builtin.Slice.sliceFields
  refine wpAny_bind (wpAny_bind (wpAny_field hos hds (x := vl) rfl (wpAny_bind (wpAny_field hos hds (x := vu) rfl (wpAny_bind (wpAny_field hos hds (x := .none) rfl (wpAny_pure ?_)))))))
  refine wpAny_bind (slicePart_none ?_)
  show wpAny _ _ (if ((1 : Int) == 0) = true then _ else _) _ _ s
  rw [if_neg (by decide)]
  refine wpAny_bind (slicePart_ pl (wpAny_bind (slicePart_ pu (wpAny_bind (wpAny_pure ?_)))))
  show wpAny _ _ (match Builtin.Slice.sliceAdjust lo hi 1 (n : Int) with | (lo, hi) => pure (lo, (1 : Int), Builtin.Slice.slicePlaces lo hi 1)) _ _ s
  rw [adjust_gen lo hi n]
  show wpAny _ _ (pure (((sIx n 0 lo : Nat) : Int), (1 : Int), Builtin.Slice.slicePlaces ((sIx n 0 lo : Nat) : Int) ((sIx n n hi : Nat) : Int) 1)) _ _ s
  rw [places_gen]
  exact wpAny_pure h
theorem pick_gen (xs : Array Value) (i k : Nat) : ((List.range k).filterMap fun (m : Nat) => xs[((i : Int) + (m : Int) * 1).toNat]?).toArray = ((xs.toList.drop i).take k).toArray := by
  have e : (fun (m : Nat) => xs[((i : Int) + (m : Int) * 1).toNat]?) = fun m => xs[i + m]? := by
    funext m
    have : ((i : Int) + (m : Int) * 1).toNat = i + m := by omega
    rw [this]
  rw [e]
  have := pick_run xs i k
  rw [List.filterMap_map] at this
  have e2 : ((fun x => xs[x]?) ∘ fun x => i + x) = fun m => xs[i + m]? := rfl
  rw [e2] at this
  rw [this]
theorem getItem_tuple_cut {t sl : Addr} {items : Array Value} {vl vu : Value} {lo hi : Option Int} {Q : Value → Shared → Prop} (ht : IsTup s.heap t items) (hs : s.heap.IsSliceOf sl vl vu .none) (pl : IsPart vl lo) (pu : IsPart vu hi)
    (hw : ¬ (sIx items.size 0 lo = 0 ∧ sIx items.size items.size hi = items.size))
    (h : Q (.ref s.heap.objs.size) { s with heap := s.heap.push { cls := .type "tuple", data := .seq ((items.toList.drop (sIx items.size 0 lo)).take (sIx items.size items.size hi - sIx items.size 0 lo)).toArray } })
    (hsz : items.size ≤ sizeLine) : wpAny (model prog w) A (getItem (.ref t) (.ref sl)) Q E s := by
  have htake : sizeOk (.seq ((items.toList.drop (sIx items.size 0 lo)).take (sIx items.size items.size hi - sIx items.size 0 lo)).toArray) := by
    show ((items.toList.drop (sIx items.size 0 lo)).take (sIx items.size items.size hi - sIx items.size 0 lo)).toArray.size ≤ sizeLine
    rw [List.size_toArray, List.length_take, List.length_drop, Array.length_toList]
    omega
  have hj : sIx items.size items.size hi ≤ items.size := sIx_le _ _ (Nat.le_refl _) hi
  obtain ⟨os, hos, hcs, hds⟩ := id hs
  have hTs : s.TypeIs (.ref sl) "slice" := ⟨os, hos, hcs⟩
  unfold getItem
  try with_reducible refine wpAny_holding ?_
  first | refine wpAny_bind (wpAny_pure ?_) | skip
  refine wpAny_bind (wpAny_sequenceKey ht.typeIs (by decide) ?_)
  refine wpAny_bind (wpAny_callSpecial?_slot (name := Str.ofString "__getitem__") ht.typeIs PyProof.Rows.slot_tuple_getitem
    (wpAny_call_entry PyProof.Rows.slot_tuple_getitem ht.typeIs entry_tuple_getitem ?_ (args_tuple_getitem _ _)))
  show wpAny _ _ (Builtin.Tuple.tupleItemsOf (.ref t) >>= _) _ _ s
  refine wpAny_bind (tupleItemsOf_ ht ?_)
  refine wpAny_bind (wpAny_typeOf hTs ?_)
  rw [if_pos (by decide)]
  refine wpAny_bind (sliceApplied_gen hs pl pu ?_)
  have hno : ¬ ((((sIx items.size 0 lo : Nat) : Int) == 0 && (1 : Int) == 1 && (sIx items.size items.size hi - sIx items.size 0 lo) == items.size) = true) := by
    intro q
    rw [Bool.and_eq_true, Bool.and_eq_true] at q
    have q1 : ((sIx items.size 0 lo : Nat) : Int) = 0 := eq_of_beq q.1.1
    have q2 : sIx items.size items.size hi - sIx items.size 0 lo = items.size := eq_of_beq q.2
    exact hw ⟨by omega, by omega⟩
  show wpAny _ _ (if (((sIx items.size 0 lo : Nat) : Int) == 0 && (1 : Int) == 1 && (sIx items.size items.size hi - sIx items.size 0 lo) == items.size) = true then _ else _) _ _ s
  rw [if_neg hno, pick_gen]
  first
    | exact wpAny_bind (m := Builtin.Tuple.tupleExact _) (wpAny_newObj_type (wpAny_pure ⟨_, rfl, wpAny_pure h⟩) htake)
    | exact wpAny_bind (m := Builtin.Tuple.tupleExact _) (wpAny_newObj_type (wpAny_bind (wpAny_pure (wpAny_pure ⟨_, rfl, wpAny_pure h⟩))) htake)
    | exact wpAny_bind (wpAny_bind (m := Builtin.Tuple.tupleExact _) (wpAny_newObj_type (wpAny_pure (wpAny_pure ⟨_, rfl, wpAny_pure h⟩)) htake))
    | exact wpAny_bind (wpAny_bind (m := Builtin.Tuple.tupleExact _) (wpAny_newObj_type (wpAny_pure ⟨_, rfl, wpAny_pure h⟩) htake))
end
end HT
namespace L2
open PySem PySem.Spec PyProof.Rows
abbrev TO := St → Hp → (Option Int → Hp → Prop) → Prop
def PO (X : Cx) (e : Option Expr) (t : TO) : Prop :=
  ∀ (pins : List (Addr × Obj)) (s : Shared) (σ : St) (H : Hp) (Q : Option Int → Hp → Prop), Inv X pins σ H s → t σ H Q →
    wpAny (model X.prog X.w) X.A (evalPart e X.env) (fun u s' => ∃ o H', Inv X pins σ H' s' ∧ IsPart u o ∧ Q o H') X.xe s
def tNoPart : TO := fun _ H Q => Q none H
def tPart (t : TE) : TO := fun σ H Q => t σ H fun x H1 => ∃ i, x = .int i ∧ Q (some i) H1
theorem intsAre_of {ns : List Int} : ∀ {us : List Value}, Vals (ns.map V.int) us → IntsAre us ns := by
  induction ns with
  | nil => intro us r; rw [List.map_nil] at r; cases r; exact .nil
  | cons n ns ih =>
    intro us r
    rw [List.map_cons] at r
    cases r with
    | cons r1 r2 =>
      obtain ⟨t, e⟩ := r1
      subst e
      exact .cons n t (ih r2)
section
variable {X : Cx} {e : Expr} {te : TE} {lo hi : Option Expr} {tl th : TO} {pos p2 : Pos}
theorem po_none : PO X none tNoPart := by
  intro pins s σ H Q I h
  rw [evalPart_none]
  exact wpAny_pure ⟨none, H, I, .none, h⟩
theorem po_some (h : PE X e te) : PO X (some e) (tPart te) := by
  intro pins s σ H Q I hw
  rw [evalPart_some]
  refine thn (h pins s σ H _ I hw) fun u s1 ⟨x, H1, I1, r1, q1⟩ => ?_
  obtain ⟨i, rfl, q⟩ := q1
  obtain ⟨t, rfl⟩ := r1
  exact ⟨some i, H1, I1, .int i t, q⟩
def SlR (X : Cx) (r : V → Option Int → Option Int → Hp → VK → Prop) : Prop :=
  ∀ (pins : List (Addr × Obj)) (s : Shared) (σ : St) (H : Hp) (x : V) (v vl vu : Value) (lo hi : Option Int) (sl : Addr) (Q : VK), Inv X pins σ H s → RelV x v → s.heap.IsSliceOf sl vl vu .none → IsPart vl lo → IsPart vu hi → r x lo hi H Q →
    ∃ T id, typeLookup (.type T) "__getitem__" = pure (some (.builtin id)) ∧ s.TypeIs v T ∧ wpAny (model X.prog X.w) X.A (getItem v (.ref sl)) (EP X pins σ Q) X.xe s
theorem SlR.or {r r' : V → Option Int → Option Int → Hp → VK → Prop} (h : SlR X r) (h' : SlR X r') : SlR X (fun x lo hi H Q => r x lo hi H Q ∨ r' x lo hi H Q) := by
  intro pins s σ H x v vl vu lo hi sl Q I rx hs pl pu q
  rcases q with q | q
  · exact h pins s σ H x v vl vu lo hi sl Q I rx hs pl pu q
  · exact h' pins s σ H x v vl vu lo hi sl Q I rx hs pl pu q
def tSl (r : V → Option Int → Option Int → Hp → VK → Prop) (te : TE) (tl th : TO) : TE := fun σ H Q => te σ H fun x H1 => tl σ H1 fun l H2 => th σ H2 fun u H3 => r x l u H3 Q
theorem pe_slice {r : V → Option Int → Option Int → Hp → VK → Prop} (hr : SlR X r) (he : PE X e te) (hl : PO X lo tl) (hu : PO X hi th) : PE X (.Subscript e (.Slice lo hi none p2) pos) (tSl r te tl th) := by
  intro pins s σ H Q I h
  refine Subscript_ (thn (he pins s σ H _ I h) fun v s1 ⟨x, H1, I1, r1, q1⟩ => ?_)
  refine wpAny_Slice (thn (hl pins s1 σ H1 _ I1 q1) fun vl s2 ⟨l, H2, I2, pl, q2⟩ => thn (hu pins s2 σ H2 _ I2 q2) fun vu s3 ⟨u, H3, I3, pu, q3⟩ => ?_)
  rw [evalPart_none]
  refine wpAny_pure ?_
  have I4 : Inv X pins σ H3 { s3 with heap := s3.heap.push { cls := .type "slice", data := .fields #[vl, vu, .none] } } := I3.kept (t' := s3.toks) fun b ob q => Heap.get?_push_of_some _ q
  obtain ⟨T, id, hT, ht, hg⟩ := hr pins { s3 with heap := s3.heap.push { cls := .type "slice", data := .fields #[vl, vu, .none] } } σ H3 x v vl vu l u s3.heap.objs.size Q I4 r1 (Heap.IsSliceOf.new ..) pl pu q3
  show wpAny (model X.prog X.w) X.A (subscriptTail e (.Slice lo hi none p2) v (.ref s3.heap.objs.size)) (EP X pins σ Q) X.xe { s3 with heap := s3.heap.push { cls := .type "slice", data := .fields #[vl, vu, .none] } }
  exact tail_any (ops := [.ref s3.heap.objs.size, v]) ht hT hg (by with_unfolding_all rfl)
def cutV (xs : List V) (lo hi : Option Int) : List V := (xs.drop (HT.sIx xs.length 0 lo)).take (HT.sIx xs.length xs.length hi - HT.sIx xs.length 0 lo)
theorem cutV_length (xs : List V) (lo hi : Option Int) : (cutV xs lo hi).length ≤ xs.length := by
  unfold cutV
  rw [List.length_take, List.length_drop]
  omega
def rSlT (K : PySem.W.Frag) : V → Option Int → Option Int → Hp → VK → Prop := fun x lo hi H Q => ∃ a xs, x = .ref a ∧ SqT K H a xs ∧
  ¬ (HT.sIx xs.length 0 lo = 0 ∧ HT.sIx xs.length xs.length hi = xs.length) ∧ ∀ p, H p = none → Q (.ref p) (upd H p (.tup (cutV xs lo hi)))
theorem sl_tup : SlR X (rSlT X.K) := by
  intro pins s σ H x v vl vu lo hi sl Q I rx hs pl pu h
  obtain ⟨a, xs, rfl, hx, hw, q⟩ := h
  cases rx
  obtain ⟨its, r, ht, hz⟩ := I.tuple hx
  have hlen : its.toArray.size = xs.length := by rw [List.size_toArray]; exact r.length.symm
  refine ⟨"tuple", _, PyProof.Rows.slot_tuple_getitem.lookup, ht.typeIs, ?_⟩
  refine HT.getItem_tuple_cut ht hs pl pu (by rw [hlen]; exact hw) ?_ (by rw [hlen]; exact hz)
  rw [hlen]
  refine ⟨.ref s.heap.objs.size, _, I.laid (t' := s.toks) (o := .tup (cutV xs lo hi)) (fun b ob q => Heap.get?_push_of_some _ q) (Nat.le_refl _) ?_, rfl, q _ (I.hok.fresh (Nat.le_refl _))⟩
  exact ⟨Nat.le_trans (cutV_length xs lo hi) hz, _, (r.drop (HT.sIx xs.length 0 lo)).take (HT.sIx xs.length xs.length hi - HT.sIx xs.length 0 lo), IsTup.new _ _⟩
end
end L2
namespace L2
open PySem PySem.Spec PyProof.Rows
def ixN (n : Nat) (i : Int) : Option Nat := if 0 ≤ i then (if i < n then some i.toNat else none) else if -(n : Int) ≤ i then some (i + n).toNat else none
def atI {α : Type} (xs : List α) (i : Int) : Option α := (ixN xs.length i).bind fun j => xs[j]?
theorem ixN_seq {n : Nat} {i : Int} {j : Nat} (h : ixN n i = some j) : seqIndex? i n = some j ∧ j < n ∧ -(n : Int) ≤ i ∧ i < n := by
  unfold ixN at h
  by_cases h0 : 0 ≤ i
  · rw [if_pos h0] at h
    by_cases h1 : i < n
    · rw [if_pos h1] at h
      have e : i.toNat = j := Option.some.inj h
      exact ⟨by rw [seqIndex_of h0 h1, e], by omega, by omega, h1⟩
    · rw [if_neg h1] at h; cases h
  · rw [if_neg h0] at h
    by_cases h1 : -(n : Int) ≤ i
    · rw [if_pos h1] at h
      have e : (i + n).toNat = j := Option.some.inj h
      exact ⟨by rw [seqIndex_neg (by omega) h1, e], by omega, h1, by omega⟩
    · rw [if_neg h1] at h; cases h
theorem atI_get {α : Type} {xs : List α} {i : Int} {v : α} (h : atI xs i = some v) : ∃ j, seqIndex? i xs.length = some j ∧ xs[j]? = some v ∧ j < xs.length ∧ -(xs.length : Int) ≤ i ∧ i < xs.length := by
  unfold atI at h
  cases e : ixN xs.length i with
  | none => rw [e] at h; cases h
  | some j =>
    rw [e] at h
    obtain ⟨h1, h2, h3, h4⟩ := ixN_seq e
    exact ⟨j, h1, h, h2, h3, h4⟩
theorem atI_nat {α : Type} {xs : List α} {j : Nat} {v : α} (h : xs[j]? = some v) : atI xs (j : Int) = some v := by
  have hj : j < xs.length := (List.getElem?_eq_some_iff.mp h).1
  have e : ixN xs.length (j : Int) = some j := by
    unfold ixN
    rw [if_pos (by omega), if_pos (by omega)]; simp
  unfold atI; rw [e]; exact h
def PlainIx (b : Expr) : Prop := ∀ o i, subscripted b false o i = operate [o, i] (getItem o i)
def IxR (X : Cx) (r : R2) : Prop :=
  ∀ (value slice : Expr) (pins : List (Addr × Obj)) (s : Shared) (σ : St) (H : Hp) (x y : V) (v u : Value) (Q : VK), Inv X pins σ H s → RelV x v → RelV y u → r x y H Q →
    subscripted slice false v u = operate [v, u] (getItem v u) → wpAny (model X.prog X.w) X.A (subscriptTail value slice v u) (EP X pins σ Q) X.xe s
def MtR (X : Cx) (id : String) (r : V → List V → Hp → VK → Prop) : Prop :=
  ∀ (pins : List (Addr × Obj)) (s : Shared) (σ : St) (H : Hp) (x : V) (xs : List V) (v : Value) (us : List Value) (Q : VK), Inv X pins σ H s → RelV x v → Vals xs us → r x xs H Q →
    wpAny (model X.prog X.w) X.A (call (.builtin id) (v :: us)) (EP X pins σ Q) X.xe s
section
variable {X : Cx} {a b : Expr} {ta tb : TE} {pos : Pos}
theorem IxR.or {r r' : R2} (h : IxR X r) (h' : IxR X r') : IxR X (fun x y H Q => r x y H Q ∨ r' x y H Q) := by
  intro value slice pins s σ H x y v u Q I rx ry q hs
  rcases q with q | q
  · exact h value slice pins s σ H x y v u Q I rx ry q hs
  · exact h' value slice pins s σ H x y v u Q I rx ry q hs
theorem MtR.or {id : String} {r r' : V → List V → Hp → VK → Prop} (h : MtR X id r) (h' : MtR X id r') : MtR X id (fun x xs H Q => r x xs H Q ∨ r' x xs H Q) := by
  intro pins s σ H x xs v us Q I rx rs q
  rcases q with q | q
  · exact h pins s σ H x xs v us Q I rx rs q
  · exact h' pins s σ H x xs v us Q I rx rs q
theorem pe_ix {r : R2} (hr : IxR X r) (ha : PE X a ta) (hb : PE X b tb) (hs : PlainIx b) : PE X (.Subscript a b pos) (tOp r ta tb) := by
  intro pins s σ H Q I h
  exact Subscript_ (binT ha hb I h fun v u s2 x y H2 I2 rx ry q => hr a b pins s2 σ H2 x y v u Q I2 rx ry q (hs _ _))
def rIxL (K : PySem.W.Frag) : R2 := fun x y H Q => ∃ p xs i v, x = .ref p ∧ y = .int i ∧ SqL K H p xs ∧ atI xs i = some v ∧ Q v H
def rIxT (K : PySem.W.Frag) : R2 := fun x y H Q => ∃ p xs i v, x = .ref p ∧ y = .int i ∧ SqT K H p xs ∧ atI xs i = some v ∧ Q v H
def rIxS : R2 := fun x y H Q => ∃ z i c, x = .str z ∧ y = .int i ∧ z.length ≤ sizeLine ∧ atI z.cps.toList i = some c ∧ Q (.str ⟨#[c]⟩) H
theorem ix_list : IxR X (rIxL X.K) := by
  intro value slice pins s σ H x y v u Q I rx ry h hs
  obtain ⟨p, xs, i, z, rfl, rfl, hq, he, q⟩ := h
  cases rx
  obtain ⟨t, rfl⟩ := ry
  obtain ⟨its, r, pl, hz⟩ := I.list hq
  obtain ⟨j, h1, h2, h3, h4, h5⟩ := atI_get he
  obtain ⟨w, ew, rw'⟩ := r.get h2
  have hl := r.length
  have hn := line63
  have fin : EP X pins σ Q w s := ⟨z, H, I, rw', q⟩
  by_cases h0 : 0 ≤ i
  · have hj : i.toNat = j := by
      rw [seqIndex_of h0 h5] at h1
      exact Option.some.inj h1
    exact item_listR pl.isList h0 (by omega) (by rw [hj]; simpa using ew) fin hs
  · have hj : (i + (its.toArray.size : Int)).toNat = j := by
      rw [seqIndex_neg (by omega) h4] at h1
      rw [List.size_toArray, ← hl]
      exact Option.some.inj h1
    exact subscriptTail_builtinR (x := w) pl.isList.typeIs slot_list_getitem.lookup
      (wpAny_getItem_list_neg (Q := fun r s' => r = w ∧ EP X pins σ Q r s') pl.isList (by omega) (by rw [List.size_toArray] <;> omega) (by omega) (by rw [hj]; simpa using ew) ⟨rfl, fin⟩) hs
theorem ix_tup : IxR X (rIxT X.K) := by
  intro value slice pins s σ H x y v u Q I rx ry h hs
  obtain ⟨p, xs, i, z, rfl, rfl, hq, he, q⟩ := h
  cases rx
  obtain ⟨t, rfl⟩ := ry
  obtain ⟨its, r, pl, hz⟩ := I.tuple hq
  obtain ⟨j, h1, h2, h3, h4, h5⟩ := atI_get he
  obtain ⟨w, ew, rw'⟩ := r.get h2
  have hl := r.length
  have hn := line63
  have fin : EP X pins σ Q w s := ⟨z, H, I, rw', q⟩
  exact subscriptTail_builtinR (x := w) pl.typeIs slot_tuple_getitem.lookup
    (getItem_tuple (j := j) (Q := fun r s' => r = w ∧ EP X pins σ Q r s') pl (by omega) (by omega) (by rw [List.size_toArray, ← hl]; exact h1) (by simpa using ew) ⟨rfl, fin⟩) hs
theorem ix_str : IxR X rIxS := by
  intro value slice pins s σ H x y v u Q I rx ry h hs
  obtain ⟨z, i, c, rfl, rfl, hz, he, q⟩ := h
  obtain ⟨t, rfl⟩ := rx
  obtain ⟨t', rfl⟩ := ry
  obtain ⟨j, h1, h2, h3, h4, h5⟩ := atI_get he
  have hl : z.cps.toList.length = z.length := by simp [Str.length]
  rw [hl] at h1 h4 h5
  have hn := line63
  exact tail_any (typeIs_str s z t) slot_str_getitem.lookup (getItem_str (c := c) (by
    have e1 : decide (i < -(2 ^ 63 : Int)) = false := decide_eq_false (by omega)
    have e2 : decide (i ≥ 2 ^ 63) = false := decide_eq_false (by omega)
    rw [e1, e2, Bool.or_false]) (by rw [h1]; simpa using h2) ⟨.str ⟨#[c]⟩, H, I.tok _, ⟨_, rfl⟩, q⟩) hs
def rIx (K : PySem.W.Frag) : R2 := fun x y H Q => rIxL K x y H Q ∨ rIxT K x y H Q ∨ rIxS x y H Q
theorem ix_seq : IxR X (rIx X.K) := ix_list.or (ix_tup.or ix_str)
theorem Inv.lst {pins : List (Addr × Obj)} {σ : St} {H : Hp} {s : Shared} {p : Addr} {xs : List V} (I : Inv X pins σ H s) (h : H p = some (.lst xs)) :
    ∃ (its : List Value) (n : Nat), Vals xs its ∧ s.heap.get? p = some { cls := .type "list", data := .seq its.toArray n } ∧ xs.length ≤ sizeLine := by
  obtain ⟨z, its, n, r, e⟩ := I.hok p _ h
  exact ⟨its, n, r, e, z⟩
theorem slice_bounds (lo hi : Option Int) (n : Nat) : (sliceBounds lo hi none n).1 = ((HT.sIx n 0 lo : Nat) : Int) ∧ (sliceBounds lo hi none n).2.1 = ((HT.sIx n n hi : Nat) : Int) ∧ (sliceBounds lo hi none n).2.2 = 1 := by
  refine ⟨?_, ?_, rfl⟩
  · cases lo with
    | none => simp [sliceBounds, HT.sIx]
    | some i =>
      simp only [sliceBounds, HT.sIx, Option.getD_none, show (1 : Int) > 0 by decide, if_true]
      by_cases h : i < 0
      · simp only [h, if_true] <;> omega
      · simp only [h, if_false] <;> omega
  · cases hi with
    | none => simp [sliceBounds, HT.sIx]
    | some i =>
      simp only [sliceBounds, HT.sIx, Option.getD_none, show (1 : Int) > 0 by decide, if_true]
      by_cases h : i < 0
      · simp only [h, if_true] <;> omega
      · simp only [h, if_false] <;> omega
theorem slicePick_cut (its : List Value) (lo hi : Option Int) : slicePick its.toArray lo hi none = ((its.drop (HT.sIx its.length 0 lo)).take (HT.sIx its.length its.length hi - HT.sIx its.length 0 lo)).toArray := by
  obtain ⟨h1, h2, h3⟩ := slice_bounds lo hi its.toArray.size
  unfold slicePick
  rw [h1, h2, h3]
  simp only [sliceRange_one, pick_run, List.size_toArray] <;> rfl
def rSlL (K : PySem.W.Frag) : V → Option Int → Option Int → Hp → VK → Prop := fun x lo hi H Q => ∃ a xs, x = .ref a ∧ SqL K H a xs ∧ ∀ p, H p = none → Q (.ref p) (upd H p (.lst (cutV xs lo hi)))
theorem sl_list : SlR X (rSlL X.K) := by
  intro pins s σ H x v vl vu lo hi sl Q I rx hs pl pu h
  obtain ⟨a, xs, rfl, hx, q⟩ := h
  cases rx
  obtain ⟨its, r, ht, hz⟩ := I.list hx
  have hlen := r.length
  refine ⟨"list", _, slot_list_getitem.lookup, ht.isList.typeIs, ?_⟩
  refine wpAny_getItem_list_slice ht.isList hs pl pu .none (by simp) ?_ (by rw [List.size_toArray] <;> omega)
  rw [slicePick_cut, ← hlen]
  refine ⟨.ref s.heap.objs.size, _, I.laid (t' := s.toks) (o := .lst (cutV xs lo hi)) (fun b ob q => Heap.get?_push_of_some _ q) (Nat.le_refl _) ?_, rfl, q _ (I.hok.fresh (Nat.le_refl _))⟩
  exact ⟨Nat.le_trans (cutV_length xs lo hi) hz, _, 0, (r.drop (HT.sIx xs.length 0 lo)).take (HT.sIx xs.length xs.length hi - HT.sIx xs.length 0 lo), Heap.get?_push_size _ rfl⟩
theorem op_notIn_str : OpR X (compareOp .NotIn) (fun x y H Q => ∃ i j, x = .str i ∧ y = .str j ∧ Q (.bl (!(!(Builtin.Str.occurrences j i 0 j.length 1).isEmpty))) H) := by
  intro pins s σ H x y v u Q I rx ry h
  obtain ⟨i, j, rfl, rfl, q⟩ := h
  obtain ⟨t, rfl⟩ := rx
  obtain ⟨t', rfl⟩ := ry
  exact notIn_str ⟨.bl _, H, I, rfl, q⟩
theorem call_len_seq : CallR X (.builtin "len") (fun xs H Q => ∃ p ys, xs = [.ref p] ∧ (SqL X.K H p ys ∨ SqT X.K H p ys) ∧ Q (.int ys.length) H) := by
  intro pins s σ H xs us Q I r h
  obtain ⟨p, ys, rfl, hq, q⟩ := h
  obtain ⟨u, rfl, rx⟩ := vals1 r
  cases rx
  have hn := line63
  rcases hq with hq | hq
  · obtain ⟨its, r', pl, hz⟩ := I.list hq
    have hlen := r'.length
    exact Calls.call_len_list pl.isList (by simp only [List.size_toArray] <;> omega) ⟨.int ys.length, H, I.tok _, ⟨s.toks + 1, by rw [List.size_toArray, hlen]⟩, q⟩
  · obtain ⟨its, r', pl, hz⟩ := I.tuple hq
    have hlen := r'.length
    exact len_tuple pl (by simp only [List.size_toArray] <;> omega) ⟨.int ys.length, H, I.tok _, ⟨s.toks + 1, by rw [List.size_toArray, hlen]⟩, q⟩
theorem call_len_str : CallR X (.builtin "len") (fun xs H Q => ∃ z, xs = [.str z] ∧ z.length ≤ sizeLine ∧ Q (.int z.length) H) := by
  intro pins s σ H xs us Q I r h
  obtain ⟨z, rfl, hz, q⟩ := h
  obtain ⟨u, rfl, t, rfl⟩ := vals1 r
  have hn := line63
  exact len_str (by omega) ⟨.int z.length, H, I.tok _, ⟨_, rfl⟩, q⟩
theorem CallR.or {f : Value} {r r' : List V → Hp → VK → Prop} (h : CallR X f r) (h' : CallR X f r') : CallR X f (fun xs H Q => r xs H Q ∨ r' xs H Q) := by
  intro pins s σ H xs us Q I rs q
  rcases q with q | q
  · exact h pins s σ H xs us Q I rs q
  · exact h' pins s σ H xs us Q I rs q
theorem call_list_of : CallR X (.type "list") (fun xs H Q => ∃ p ys, xs = [.ref p] ∧ (SqL X.K H p ys ∨ SqT X.K H p ys) ∧ ∀ l, H l = none → Q (.ref l) (upd H l (.lst ys))) := by
  intro pins s σ H xs us Q I r h
  obtain ⟨p, ys, rfl, hq, q⟩ := h
  obtain ⟨u, rfl, rx⟩ := vals1 r
  cases rx
  have fin : ∀ (its : List Value), Vals ys its → ys.length ≤ sizeLine → ∀ (h' : Heap) (c' : Nat), (∀ b o', s.heap.get? b = some o' → h'.get? b = some o') →
      h'.get? s.heap.objs.size = some { cls := .type "list", dict := none, data := .seq its.toArray c', slots := #[] } → EP X pins σ Q (.ref s.heap.objs.size) { s with heap := h' } := fun its r' hz h' c' kp e =>
    ⟨.ref s.heap.objs.size, _, I.laid (t' := s.toks) kp (Nat.le_refl _) (show ObjOk X.prog X.w _ h' _ (.lst ys) from ⟨hz, its, c', r', e⟩), rfl, q _ (I.hok.fresh (Nat.le_refl _))⟩
  rcases hq with hq | hq
  · obtain ⟨its, r', pl, hz⟩ := I.list hq
    have hlen := r'.length
    obtain ⟨o, ho, hc, n, hd⟩ := pl.isList
    exact call_list_seq p (.inl rfl) ho hc hd (fun h' c' kp e => fin its r' hz h' c' kp e) (by simp only [List.size_toArray] <;> omega)
  · obtain ⟨its, r', pl, hz⟩ := I.tuple hq
    have hlen := r'.length
    obtain ⟨o, ho, hc, n, hd⟩ := pl
    exact call_list_seq p (.inr rfl) ho hc hd (fun h' c' kp e => fin its r' hz h' c' kp e) (by simp only [List.size_toArray] <;> omega)
theorem call_tuple_of : CallR X (.type "tuple") (fun xs H Q => ∃ p ys, xs = [.ref p] ∧ ((SqL X.K H p ys ∧ ∀ l, H l = none → Q (.ref l) (upd H l (.tup ys))) ∨ (SqT X.K H p ys ∧ Q (.ref p) H))) := by
  intro pins s σ H xs us Q I r h
  obtain ⟨p, ys, rfl, h⟩ := h
  obtain ⟨u, rfl, rx⟩ := vals1 r
  cases rx
  rcases h with ⟨hq, q⟩ | ⟨hq, q⟩
  · obtain ⟨its, r', pl, hz⟩ := I.list hq
    have hlen := r'.length
    refine call_tuple_list pl.isList (fun h' kp => ?_) (by simp only [List.size_toArray] <;> omega)
    have I1 : Inv X pins σ H { s with heap := h' } := I.kept (t' := s.toks) kp
    have I2 : Inv X pins σ (upd H h'.objs.size (.tup ys)) { s with heap := h'.push { cls := .type "tuple", data := .seq its.toArray } } :=
      I1.laid (t' := s.toks) (fun b o e => Heap.get?_push_of_some _ e) (Nat.le_refl _) (show ObjOk X.prog X.w _ _ _ (.tup ys) from ⟨hz, its, r', IsTup.new _ _⟩)
    exact ⟨.ref h'.objs.size, _, I2, rfl, q _ (I1.hok.fresh (Nat.le_refl _))⟩
  · obtain ⟨its, r', pl, hz⟩ := I.tuple hq
    exact call_tuple_same pl ⟨.ref p, H, I, rfl, q⟩
def tyV (K : PySem.W.Frag) (T : String) (x : V) (H : Hp) : Prop := match x with
  | .str _ => T = "str"
  | .int _ => T = "int"
  | .ref p => (T = "list" ∧ ∃ xs, SqL K H p xs) ∨ (T = "tuple" ∧ ∃ o, K.lookup p = some o ∧ o.cls = .type "tuple" ∧ o.dict = none) ∨
      (T = "dict" ∧ ((∃ kvs, H p = some (.dK kvs)) ∨ ∃ kvs, H p = some (.dT kvs))) ∨ (T = "set" ∧ ∃ S n, H p = some (.set S n))
  | _ => False
theorem tyV_is {pins : List (Addr × Obj)} {σ : St} {H : Hp} {s : Shared} {T : String} {x : V} {v : Value} (I : Inv X pins σ H s) (r : RelV x v) (ty : tyV X.K T x H) :
    s.TypeIs v T ∧ ∀ a, v = .ref a → ∃ ob, s.heap.get? a = some ob ∧ ob.dict = none := by
  cases x with
  | str z =>
    obtain ⟨t, rfl⟩ := r
    cases (show T = "str" from ty)
    exact ⟨typeIs_str s z t, fun _ e => nomatch e⟩
  | int i =>
    obtain ⟨t, rfl⟩ := r
    cases (show T = "int" from ty)
    exact ⟨typeIs_int s i t, fun _ e => nomatch e⟩
  | ref p =>
    cases r
    rcases ty with ⟨rfl, xs, hq⟩ | ⟨rfl, o, hk, hc, hd⟩ | ⟨rfl, hk⟩ | ⟨rfl, S, n, hk⟩
    · obtain ⟨its, _, pl, _⟩ := I.list hq
      refine ⟨pl.isList.typeIs, fun a e => ?_⟩
      cases e
      obtain ⟨o, n, e, c, hd, _⟩ := pl
      exact ⟨o, e, hd⟩
    · refine ⟨⟨o, I.kIn p o hk, hc⟩, fun a e => ?_⟩
      cases e
      exact ⟨o, I.kIn _ o hk, hd⟩
    · have z : ∃ o, s.heap.get? p = some o ∧ o.ExactDict := by
        rcases hk with ⟨kvs, hk⟩ | ⟨kvs, hk⟩
        · obtain ⟨_, _, _, _, o, _, _, e, ex, _⟩ := I.hok p _ hk
          exact ⟨o, e, ex⟩
        · obtain ⟨_, _, _, _, o, _, _, e, ex, _⟩ := I.hok p _ hk
          exact ⟨o, e, ex⟩
      obtain ⟨o, e, ex⟩ := z
      refine ⟨⟨o, e, ex.1⟩, fun a e2 => ?_⟩
      cases e2
      exact ⟨o, e, ex.2.1⟩
    · obtain ⟨o, _, _, _, e, ex, _⟩ := I.hok p _ hk
      refine ⟨⟨o, e, ex.1⟩, fun a e2 => ?_⟩
      cases e2
      exact ⟨o, e, ex.2.1⟩
  | _ => exact False.elim ty
def tBM (K : PySem.W.Frag) (T : String) (r : V → List V → Hp → VK → Prop) (to : TE) (t : TA) : TE := fun σ H Q => to σ H fun x H1 => tyV K T x H1 ∧ t σ H1 fun xs H2 => r x xs H2 Q
variable {o e : Expr} {es : List Expr} {to : TE} {t : TA} {name : Str} {apos cpos : Pos} {T id : String} {r : V → List V → Hp → VK → Prop}
theorem pe_bm (pa : PlainAttrs T) (slot : Slot T name id) (hty : typeOf (.builtin id) = pure (.type "method_descriptor")) (hm : MtR X id r) (ho : PE X o to) (ha : PA X (e :: es) t)
    (hbase : attributeBase o name X.env (eval o X.env) = eval o X.env := by rfl)
    (hfew : ((backTo cpos (starEach (e :: es) X.env)).all (fun x => !x.1) && (backToKw cpos (keywordEach [] X.env)).all (fun x => x.1.isSome)
      && decide ((e :: es).length + ([] : List Keyword).length + (if ([] : List Keyword).isEmpty then 0 else 1) < 30)) = true := by rfl)
    (hline : (apos.endLine == cpos.line) = true := by rfl) (hs : starEach (e :: es) X.env = (false, eval e X.env) :: starEach es X.env := by rfl) (hplain : (backTo cpos (starEach es X.env)).any (·.1) = false := by rfl) :
    PE X (.Call (.Attribute o name apos) (e :: es) [] cpos) (tBM X.K T r to t) := by
  intro pins s σ H Q I h
  refine wpAny_Call_method_late hbase hfew hline rfl (thn (ho pins s σ H _ I h) fun v s1 ⟨x, H1, I1, r1, ty, q1⟩ => ?_)
  obtain ⟨h1, h2⟩ := tyV_is I1 r1 ty
  refine ⟨T, id, pa, slot, hty, h1, h2, ?_⟩
  have hA := ha cpos pins s1 σ H1 _ I1 q1
  rw [hs] at hA ⊢
  refine Calls.callWith_builtin (by show (false || (backTo cpos (starEach es X.env)).any (·.1)) = false; rw [hplain] <;> rfl) (Calls.evalArgs_plain ?_)
  exact thn hA fun us s2 ⟨vs, H2, I2, r2, q2⟩ => hm pins s2 σ H2 x vs v us Q I2 r1 r2 q2
end
end L2
namespace L2
open PySem PySem.Spec PyProof.Rows
def MtM (X : Cx) (id : String) (r : V → List V → Hp → VK → Prop) : Prop :=
  ∀ (pins : List (Addr × Obj)) (s : Shared) (σ : St) (H : Hp) (x : V) (xs : List V) (v : Value) (us : List Value) (Q : VK), Inv X pins σ H s → RelV x v → Vals xs us → r x xs H Q →
    wpAny (model X.prog X.w) X.A (call (.builtin id) (v :: us)) (EP X pins σ Q) X.xe s
theorem Vals.one : ∀ {x : V} {us : List Value}, Vals [x] us → ∃ u, us = [u] ∧ RelV x u
  | _, _, .cons r .nil => ⟨_, rfl, r⟩
theorem Vals.two : ∀ {x y : V} {us : List Value}, Vals [x, y] us → ∃ u v, us = [u, v] ∧ RelV x u ∧ RelV y v
  | _, _, _, .cons r (.cons q .nil) => ⟨_, _, rfl, r, q⟩
theorem Vals.zero : ∀ {us : List Value}, Vals [] us → us = []
  | _, .nil => rfl
theorem Vals.dropLast {xs : List V} {us : List Value} (h : Vals xs us) : Vals xs.dropLast us.dropLast := by
  induction h with
  | nil => exact .nil
  | cons r t ih =>
    cases t with
    | nil => exact .nil
    | cons q t' => exact .cons r ih
section
variable {X : Cx} {pins : List (Addr × Obj)} {σ : St} {H : Hp} {s : Shared} {l b : Addr} {xs ys zs : List V}
theorem Inv.lset {its its' : List Value} {n : Nat} {f : Array Value → Array Value} {t' : Nat} (I : Inv X pins σ H s) (hH : H l = some (.lst xs))
    (e : s.heap.get? l = some { cls := .type "list", data := .seq its.toArray n }) (hf : f its.toArray = its'.toArray) (hv : Vals ys its') (hz : ys.length ≤ sizeLine) :
    Inv X pins σ (upd H l (.lst ys)) { s with heap := s.heap.update l (Obj.mapSeq f), toks := t' } := by
  have q := PySem.IsL.update e f
  rw [hf] at q
  refine I.write (x := l) (e := l) (by rw [hH]; exact trivial) (.inl rfl) (fun b' u hb hu => (Heap.get?_update_other s.heap (Obj.mapSeq f) (Ne.symm hb)).trans hu) ⟨_, q⟩ ?_
  exact ⟨hz, its', _, hv, q⟩
theorem Inv.lnew {its : List Value} {t' : Nat} (I : Inv X pins σ H s) (hv : Vals ys its) (hz : ys.length ≤ sizeLine) :
    Inv X pins σ (upd H s.heap.objs.size (.lst ys)) { s with heap := s.heap.push { cls := .type "list", data := .seq its.toArray }, toks := t' } :=
  I.laid (fun _ _ q => Heap.get?_push_of_some _ q) (Nat.le_refl _) ⟨hz, its, 0, hv, Heap.get?_push_size _ rfl⟩
theorem Inv.fresh (I : Inv X pins σ H s) : H s.heap.objs.size = none := I.hok.fresh (Nat.le_refl _)
theorem Inv.lstM (I : Inv X pins σ H s) (hH : H l = some (.lst xs)) : xs.length ≤ sizeLine ∧ ∃ (its : List Value) (n : Nat), Vals xs its ∧ xs.length = its.length ∧ s.heap.get? l = some { cls := .type "list", data := .seq its.toArray n } := by
  obtain ⟨z, its, n, r, e⟩ := I.hok l _ hH
  exact ⟨z, its, n, r, r.length, e⟩
end
section
variable {X : Cx}
def rAppend : V → List V → Hp → VK → Prop := fun x vs H Q => ∃ l xs y, x = .ref l ∧ vs = [y] ∧ H l = some (.lst xs) ∧ xs.length < sizeLine ∧ Q .non (upd H l (.lst (xs ++ [y])))
theorem mt_append : MtM X "list.append" rAppend := by
  intro pins s σ H x vs v us Q I rx rv h
  obtain ⟨l, xs, y, rfl, rfl, hH, hz, q⟩ := h
  cases rx
  obtain ⟨u, rfl, ru⟩ := rv.one
  obtain ⟨z, its, n, r, hl, e⟩ := I.lstM hH
  refine call_meets F.slot_list_append ⟨_, e, rfl⟩ F.entry_list_append (F.args_list_append_2 _ _) (PySem.list_append l its.toArray n u (by rw [List.size_toArray]; omega)) ⟨e, ?_⟩
  refine ⟨.non, _, I.lset (its' := its ++ [u]) hH e (by simp) (r.append (.cons ru .nil)) ?_, rfl, q⟩
  rw [List.length_append, List.length_singleton]
  omega
end
section
variable {prog : Program} {w : World} {A : Around} {E : Value → Shared → Prop} {s : Shared}
end
section
variable {X : Cx}
end
end L2
namespace Att
open PySem PySem.W PySem.Calls PyProof.Rows
theorem ints_of_wellAll {P : Params} {h : Heap} : ∀ (ns : List Int) (vs : List Value), WellAll P h vs (ns.map WData.int) → IntsAre vs ns := by
  intro ns
  induction ns with
  | nil =>
    intro vs w
    rw [List.map_nil] at w
    cases w
    exact .nil
  | cons n ns ih =>
    intro vs w
    rw [List.map_cons] at w
    cases w with
    | cons a b =>
      cases a
      exact .cons _ _ (ih _ b)
theorem script_of {l : OpenLaw} {n : Nat} (hn : l.most = some n) {P : Params} {h : Heap} {args : List WData} {vals : List Value}
    (hpre : l.row.toRowW.claim.pre args = true) (hwl : WellAll P h vals args) :
    ∃ a vs ns, vals = [Value.ref a] ∧ args = [WData.list (ns.map WData.int)] ∧ h.get? a = some { cls := .type "list", data := .seq vs.toArray } ∧ IntsAre vs ns ∧ ns.length ≤ n := by
  have hsh : WShape.hasAll [] args [.list .int] = true := (pre_splitW hpre).1
  have hc : l.pre.holds [] { args := args } = true := (pre_splitW hpre).2
  obtain ⟨d, r, rfl, h1, h2⟩ := hasAllW_cons hsh
  obtain rfl := hasAllW_nil h2
  obtain ⟨xs, rfl, h3⟩ := hasW_list h1
  obtain ⟨ns, rfl⟩ := items_int h3
  have hlen : ns.length ≤ n := by
    unfold OpenLaw.pre at hc
    have h4 : (WTm.not (.lt (.lit (.int (n : Int))) (.len (.arg 0)))).holds [] { args := [.list (ns.map .int)] } = true := by
      have h4 := (holds_andW hc).1
      rw [hn] at h4
      exact h4
    have h5 := condW_of h4 (w_not (w_lt w_lit (w_len_list (w_arg rfl))))
    rw [List.length_map] at h5
    refine Nat.le_of_not_lt fun q => ?_
    have q' : (n : Int) < ((ns.length : Nat) : Int) := by omega
    first
      | (rw [decide_eq_true q'] at h5; exact absurd h5 (by decide))
      | (simp at h5; omega)
  cases hwl with
  | cons w1 w2 =>
    cases w2
    cases w1 with
    | list ho hall => exact ⟨_, _, ns, rfl, rfl, ho, ints_of_wellAll ns _ hall, hlen⟩
theorem post_true (l : OpenLaw) (args : List WData) : l.row.toRowW.claim.post args (.bool true) args = true :=
  postW_of (r := l.row.toRowW) (X := (true == true))
    (show WShape.has [] (.bool true) .bool = true by first | rfl | decide | simp [WShape.has, WShape.arms, WShape.armsAll])
    (show (WTm.eq .res (.lit (.bool true))).value [] { args := args, res := some (.bool true), after := args } = some (.bool (true == true)) from w_eq_bool (w_res rfl) w_lit) rfl
theorem attach_call {l : OpenLaw} {n : Nat} {q : Program} {loose : List Str} {XP : (Str → Option Value) → Heap → Prop} {YP : World → Heap → Prop} {d : DefRec}
    (hn : l.most = some n) (hdf : d.params.defaults = [])
    (call : ∀ (w : World) (s₀ s₁ : Shared) (mg mb : Str → Option Value) (fa : Addr) (o : Obj) (pm cd doc : Value) (a : Addr) (vs : List Value) (ns : List Int),
      Ground q loose [] XP w s₀ mg mb s₁.heap → YP w s₁.heap →
      s₁.heap.get? fa = some o → o.data = .func (docDef d.name d.params d.body d.scope pm cd doc) → s₁.heap.CodeRec cd d.name → mg d.name = some (.ref fa) →
      s₁.heap.get? a = some { cls := .type "list", data := .seq vs.toArray } → IntsAre vs ns → ns.length ≤ n → s₁.gens = #[] →
      codeAny (model l.prog w) callerA (.call (.ref fa) ⟨[.ref a], []⟩) (fun r s' => r = .ok (.ret (.bool true)) ∧ OldK s₁.heap s'.heap ∧ s'.os = s₁.os ∧ AllBare s'.gens) s₁) :
    WalkO q loose XP YP l.row.toRowW d [] (fun f vs => PySem.call f vs) := by
  intro w s₀ s₁ mg mb G Y fa o pm cd doc dV kV ho hd hcd hD hmg hg args vals as hpre hlay hrd hwl hlo
  obtain rfl : dV = .none := Dflts.none hD hdf
  obtain rfl : kV = .none := Dflts.noKw hD
  obtain ⟨a, vs, ns, rfl, rfl, hobj, hints, hlen⟩ := script_of hn hpre hwl
  refine enter_call (codeAny_mono (call w s₀ s₁ mg mb fa o pm cd doc a vs ns G Y ho (fd_plain hd) hcd hmg hobj hints hlen hg) fun r s' hq => ?_)
  obtain ⟨rfl, h2, h3, h4⟩ := hq
  exact ⟨.inl ⟨.bool true, .bool true, [], rfl, fun _ => rfl, .bool true, post_true l _, fun _ => ⟨List.Pairwise.nil, fun _ hm => (nomatch hm)⟩⟩, h2, h3, h4⟩
section
variable {prog : Program} {w : World} {A : Around} {E : Value → Shared → Prop} {s : Shared} {K : Frag}
end
end Att
namespace L2
open PySem PySem.Spec PyProof.Rows
theorem vals_ints : ∀ {vs : List Value} {ns : List Int}, IntsAre vs ns → Vals (ns.map V.int) vs
  | _, _, .nil => .nil
  | _, _, .cons n t h => .cons ⟨t, rfl⟩ (vals_ints h)
def SL (K : PySem.W.Frag) (H : Hp) (a : Addr) (xs : List V) : Prop :=
  Rd H a (.lst xs) ∨ ∃ (its : List Value) (n : Nat), K.lookup a = some { cls := .type "list", data := .seq its.toArray n } ∧ xs.length ≤ sizeLine ∧ Vals xs its
def Only (H : Hp) : Prop := ∀ b, H b = none ∨ ∃ o xs, H b = some (.frz o (.lst xs))
theorem law_call {P : Program} {w : World} {K : PySem.W.Frag} {mg mb : Str → Option Value} {CX : CXT} {k : Nat} {fa a : Addr} {fd : FuncData} {x : Str} {sp : Sp} {s₁ : Shared} {vs : List Value} {ns : List Int}
    (KX : K.In s₁.heap) (hns : s₁.heap.Ns mainGlobals mg) (hb : s₁.heap.Ns builtinsNs mb) (hbb : ∀ x : Str, x ≠ "__name__" → mb x = bootBuiltins x) (hlim : s₁.heap.NoLimit) (hg : s₁.gens = #[])
    (ha : s₁.heap.get? a = some { cls := .type "list", data := .seq vs.toArray }) (hi : IntsAre vs ns) (hl : ns.length ≤ sizeLine) (hr : Room k callerA)
    (F : ∀ base : Heap, K.In base → base.Ns mainGlobals mg → FnOk P w K mg base CX k fa fd [x] sp) (hbind : ∀ (s : Shared) (u : Value), BindsTo s fd ⟨[u], []⟩ [(x, u)])
    (hsp : ∀ H : Hp, Only H → SL K H a (ns.map V.int) → sp [.ref a] H (fun v _ => v = .bl true) fun _ _ _ => False)
    (hCX : ∀ H e s', CX [] H s₁ (fun _ _ _ => False) e s' → False) :
    codeAny (model P w) callerA (.call (.ref fa) ⟨[.ref a], []⟩) (fun r s' => r = .ok (.ret (.bool true)) ∧ OldK s₁.heap s'.heap ∧ s'.os = s₁.os ∧ AllBare s'.gens) s₁ := by
  have rv := vals_ints hi
  have lenV := hi.length
  -- from an abstract heap in which nothing but the script may be tracked
  have core : ∀ H : Hp, Only H → SL K H a (ns.map V.int) → HOk P w H s₁.heap → (∀ b, H b ≠ none → b = a) → (H a ≠ none → K.lookup a = none) →
      codeAny (model P w) callerA (.call (.ref fa) ⟨[.ref a], []⟩) (fun r s' => r = .ok (.ret (.bool true)) ∧ OldK s₁.heap s'.heap ∧ s'.os = s₁.os ∧ AllBare s'.gens) s₁ := by
    intro H hO hS hok hA hK
    have base_of : ∀ {b : Addr} {o : Obj}, s₁.heap.get? b = some o → H b = none → (hidT s₁.heap H).get? b = some o := fun e n => hidT_get e n
    have noA : ∀ {b : Addr} {o : Obj} {es : Array DictEntry} {ep : Nat}, s₁.heap.get? b = some o → o.data = .dict es ep → H b = none := fun {b o es ep} e d => by
      cases q : H b with
      | none => rfl
      | some u =>
        have e' : b = a := hA b (by rw [q]; simp)
        subst e'
        rw [ha] at e; cases e
        have d' : Data.seq vs.toArray _ = Data.dict es ep := d
        cases d'
    have nsK : ∀ {b : Addr} {m : Str → Option Value}, s₁.heap.Ns b m → (hidT s₁.heap H).Ns b m := fun {b m} ⟨o, es, ep, e, d, r⟩ => ⟨o, es, ep, base_of e (noA e d), d, r⟩
    have hKb : K.In (hidT s₁.heap H) := fun b o e => base_of (KX b o e) (by
      cases q : H b with
      | none => rfl
      | some u =>
        have e' : b = a := hA b (by rw [q]; simp)
        subst e'
        rw [hK (by rw [q]; simp)] at e; cases e)
    have hM : Mod K mg (hidT s₁.heap H) := ⟨hKb, nsK hns, ⟨mb, nsK hb, hbb⟩, let ⟨mc, h1, h2⟩ := hlim; ⟨mc, nsK h1, h2⟩⟩
    have e0 : Env0 P w K mg (hidT s₁.heap H) callerA [] s₁ H := ⟨rfl, hM, fun b o e => of_hidT e, Nat.le_of_eq (hidT_size _ _), trivial, fun b hb => absurd (show b ∈ ([] : List Addr) from hb) (by simp), hok, .of_eq hg⟩
    refine codeAny_mono ((F _ hKb (nsK hns)).run callerA [] s₁ H ⟨[.ref a], []⟩ [.ref a] [.ref a] _ _ hr e0 (hbind s₁ (.ref a)) (.cons rfl .nil) (hsp H hO hS)) fun r s' h => ?_
    cases r with
    | error e => exact (hCX H e s' h).elim
    | ok fl =>
      cases fl with
      | next => exact False.elim h
      | brk => exact False.elim h
      | cont => exact False.elim h
      | ret u =>
        obtain ⟨v, H', os, bare, un, hok', r', q⟩ := h
        have q' : v = .bl true := q
        subst q'
        obtain rfl : u = Value.bool true := r'
        refine ⟨rfl, OldK.of_keep fun b o e => ?_, os, bare⟩
        cases q : H b with
        | none => exact un.keep b o e q (by intro z; exact absurd (show b ∈ ([] : List Addr) from z) (by simp)) (by simp)
        | some u =>
          rcases hO b with z | ⟨ob, xs, z⟩
          · rw [q] at z; cases z
          · have z2 := un.frzs b ob _ z
            obtain ⟨e1, _⟩ := hok b _ z
            obtain ⟨e2, _⟩ := hok' b _ z2
            rw [e] at e1; cases e1
            exact e2
  cases hk : K.lookup a with
  | some o =>
    -- the script is one of the module's own objects
    have e := KX a o hk
    rw [ha] at e
    cases e
    refine core (fun _ => none) (fun _ => .inl rfl) (.inr ⟨vs, _, hk, by rw [List.length_map]; exact hl, rv⟩) (fun b u z => by have z' : (none : Option HO) = some u := z; cases z') (fun b z => absurd rfl z) fun z => absurd rfl z
  | none =>
    refine core (fun b => if b = a then some (.frz { cls := .type "list", data := .seq vs.toArray } (.lst (ns.map V.int))) else none) (fun b => ?_) (.inl (.inr ⟨{ cls := .type "list", data := .seq vs.toArray }, if_pos rfl⟩)) (fun b u z => ?_) (fun b z => ?_) fun _ => hk
    · by_cases hb : b = a
      · exact .inr ⟨_, _, if_pos hb⟩
      · exact .inl (if_neg hb)
    · by_cases hb : b = a
      · have z' := (if_pos hb).symm.trans z
        cases z'
        subst hb
        exact ⟨ha, by rw [List.length_map]; exact hl, vs, _, rv, ha⟩
      · have z' := (if_neg hb).symm.trans z
        cases z'
    · by_cases hb : b = a
      · exact hb
      · exact absurd (if_neg hb) z
end L2
namespace L2
open PySem PySem.Spec PyProof.Rows
theorem walk_of {l : PySem.W.OpenLaw} {n k : Nat} {q : Program} {loose : List Str} {XP : (Str → Option Value) → Heap → Prop} {YP : World → Heap → Prop} {d : DefRec} {K : Params → PySem.W.Frag} {CX : World → CXT} {sp : World → Sp} {x : Str}
    (hn : l.most = some n) (hn2 : n ≤ sizeLine) (hdf : d.params.defaults = []) (hr : Room k callerA)
    (hY : ∀ (w : World) (h : Heap), YP w h → (K w.params).In h)
    (F : ∀ (w : World) (mg : Str → Option Value) (fa : Addr) (h : Heap), (K w.params).In h → h.Ns mainGlobals mg → mg d.name = some (.ref fa) →
      ∃ fd : FuncData, (∀ (s : Shared) (u : Value), BindsTo s fd ⟨[u], []⟩ [(x, u)]) ∧
        ∀ base : Heap, (K w.params).In base → base.Ns mainGlobals mg → FnOk l.prog w (K w.params) mg base (CX w) k fa fd [x] (sp w))
    (hsp : ∀ (w : World) (H : Hp) (a : Addr) (ns : List Int), ns.length ≤ n → Only H → SL (K w.params) H a (ns.map V.int) → sp w [.ref a] H (fun v _ => v = .bl true) fun _ _ _ => False)
    (hCX : ∀ (w : World) (H : Hp) (s : Shared) (e : Value) (s' : Shared), CX w [] H s (fun _ _ _ => False) e s' → False) :
    PySem.W.WalkO q loose XP YP l.row.toRowW d [] (fun f vs => PySem.call f vs) := by
  refine Att.attach_call hn hdf fun w s₀ s₁ mg mb fa o pm cd doc a vs ns G Y ho hd hcd hmg hobj hints hlen hg => ?_
  have KX := hY w _ Y
  obtain ⟨fd, hb, hF⟩ := F w mg fa _ KX G.T.g hmg
  exact law_call KX G.T.g G.T.b G.T.builtins G.T.nolimit hg hobj hints (Nat.le_trans hlen hn2) hr hF hb (fun H hO hS => hsp w H a ns hlen hO hS) fun H e s' => hCX w H s₁ e s'
end L2
namespace L2
open PySem PySem.Spec PyProof.Rows
def inClass (s : Stmt) (j : Nat) : Stmt := match s with
  | .ClassDef _ _ _ body _ _ _ _ _ _ _ => body.getD j (.Pass ⟨0, 0, 0, 0⟩)
  | _ => .Pass ⟨0, 0, 0, 0⟩
def defArgs (s : Stmt) : Arguments := match s with
  | .FunctionDef _ a _ _ _ _ _ _ _ _ => a
  | _ => { posonlyargs := [], args := [], vararg := none, kwonlyargs := [], kw_defaults := [], kwarg := none, defaults := [] }
def defBody (s : Stmt) : List Stmt := match s with
  | .FunctionDef _ _ b _ _ _ _ _ _ _ => b
  | _ => []
def defScope (s : Stmt) : Scope := match s with
  | .FunctionDef _ _ _ _ _ _ sc _ _ _ => sc
  | _ => { kind := .function, names := [], isGenerator := false, isCoroutine := false }
abbrev CX0 : CXT := fun _ _ _ _ _ _ => False
abbrev E0 : XK := fun _ _ _ => False
theorem pass0 {X : Cx} : Passes CX0 X E0 := fun _ _ _ _ _ _ _ h => h.elim
structure Fun (K : PySem.W.Frag) (x qual : Str) (st : Stmt) (f : Addr) (fd : FuncData) : Prop where
  ex : ∃ (oc : Value) (od : Option Addr) (kV doc pm : Value) (an : Option Addr) (cdv ct : Value) (osl : Array (Option Value)),
    fd = PySem.W.fnOf x qual (defArgs st) (defBody st) (defScope st) .none kV doc pm an cdv ct ∧ K.lookup f = some ⟨oc, od, .func fd, osl⟩ ∧ PySem.W.codeIn K cdv qual = true
  kp : PySem.W.keepIn K (.ref f) = true
section
variable {P : Program} {w : World} {K : PySem.W.Frag} {mg : Str → Option Value} {base : Heap}
theorem Fun.ok {x qual : Str} {st : Stmt} {f : Addr} {fd : FuncData} {N ps : List Str} {k : Nat} {sp : Sp} (F : Fun K x qual st f fd) (S : FnScope N ps (defScope st)) (len : ∀ vs H Q E, sp vs H Q E → vs.length = ps.length)
    (hbody : ∀ (cdv : Value) (A : Around) (outer : List Env) (s : Shared) (H : Hp) (vs : List V) (Q : VK) (E : XK), Room k (A.deeper (envOfC qual (defScope st) s.heap.objs.size f cdv)) → sp vs H Q E →
      ∃ t, PSs (cxOf CX0 P w K mg base N qual (defScope st) f cdv A outer s H E).nox (defBody st) t ∧ t { nx := fun _ H' => Q .non H', rt := Q } (start N vs) H) : FnOk P w K mg base CX0 (k + 1) f fd ps sp := by
  obtain ⟨oc, od, kV, doc, pm, an, cdv, ct, osl, rfl, lk, hcd⟩ := F.ex
  refine fn_of lk hcd S len fun A outer s H vs Q E hr hsp => ?_
  obtain ⟨t, h, q⟩ := hbody cdv A outer s H vs Q E hr hsp
  exact ⟨t, h.nox, q⟩
theorem Fun.binds {x qual : Str} {st : Stmt} {f : Addr} {fd : FuncData} {ps : List Str} (F : Fun K x qual st f fd)
    (h : ∀ (kV doc pm : Value) (an : Option Addr) (cdv ct : Value) (us : List Value), us.length = ps.length → bindArgs (PySem.W.fnOf x qual (defArgs st) (defBody st) (defScope st) .none kV doc pm an cdv ct) ⟨us, []⟩ = pure (ps.zip us)) : Binds K fd ps [] := by
  obtain ⟨oc, od, kV, doc, pm, an, cdv, ct, osl, rfl, lk, hcd⟩ := F.ex
  exact .all (h kV doc pm an cdv ct)
theorem fun_mk {x qual : Str} {st : Stmt} {f : Addr} {oc : Value} {od an : Option Addr} {osl : Array (Option Value)} {kV doc pm cdv ct : Value} (l : K.lookup f = some ⟨oc, od, .func (PySem.W.fnOf x qual (defArgs st) (defBody st) (defScope st) .none kV doc pm an cdv ct), osl⟩)
    (c : PySem.W.codeIn K cdv qual = true) (k : PySem.W.keepIn K (.ref f) = true) : Fun K x qual st f (PySem.W.fnOf x qual (defArgs st) (defBody st) (defScope st) .none kV doc pm an cdv ct) := ⟨⟨oc, od, kV, doc, pm, an, cdv, ct, osl, rfl, l, c⟩, k⟩
end
theorem small1000 {n : Nat} (h : n ≤ 1000) : n < sizeLine := Nat.lt_of_le_of_lt h (by decide)
section
variable {X : Cx}
theorem pv (i : Nat) {x : Str} {pos : Pos} (hN : X.N[i]? = some x := by rfl) (hv : Vis X.env.scope x := by first | exact Or.inl rfl | exact Or.inr (Or.inl rfl) | exact Or.inr (Or.inr rfl)) (hd : (x == ("__debug__" : Str)) = false := by decide)
    (hcd : (x == ("__classdict__" : Str)) = false := by decide) : PE X (.Name x pos) (tVar i) := pe_var hN hv hd hcd
end
theorem iteF {A B : Prop} (h : B) : if false = true then A else B := by
  rw [if_neg Bool.false_ne_true]
  exact h
theorem iteT {A B : Prop} (h : A) : if true = true then A else B := by
  rw [if_pos rfl]
  exact h
def Same (H H' : Hp) : Prop := ∀ b o, H b = some o → H' b = some o
theorem Same.refl (H : Hp) : Same H H := fun _ _ h => h
theorem Same.trans {H H1 H2 : Hp} (a : Same H H1) (b : Same H1 H2) : Same H H2 := fun c o h => b c o (a c o h)
theorem Same.free {H H' : Hp} (e : Same H H') {l : Addr} (h : H' l = Option.none) : H l = Option.none := by
  cases q : H l with
  | none => rfl
  | some o =>
    rw [e l o q] at h
    cases h
theorem Same.seq {K : PySem.W.Frag} {H H' : Hp} {a : Addr} {xs : List V} (e : Same H H') (h : SqL K H a xs) : SqL K H' a xs := by
  rcases h with (h | ⟨o, h⟩) | h
  · exact .inl (.inl (e _ _ h))
  · exact .inl (.inr ⟨o, e _ _ h⟩)
  · exact .inr h
end L2
set_option Elab.async false
set_option linter.all false
set_option maxRecDepth 100000
namespace L2
open PySem PySem.Spec PyProof.Rows
theorem compLoop_go {prog : Program} {w : World} {A : Around} {R : Result → Shared → Prop} {s : Shared} {elt target iter : Expr} {ifs : List Expr} {scope : Scope} {pos : Pos} {it acc : Value} {env : Env} (I : Nat → Shared → Prop)
    (turn : ∀ n s, I n s → wpAny (model prog w) A (pyNext it) (fun r s₁ => match r with
      | none => R (.ok .next) s₁
      | some v => wpAny (model prog w) A (letOwnedTupleGo target it v) (fun _ s₁' => wpAny (model prog w) A (assign target env v) (fun _ s₂ =>
          wpAny (model prog w) A (forIn ifs true fun c r => if r = true then do let ok ← isTrue c env (eval c env); pure (ForInStep.yield ok) else pure (ForInStep.yield r)) (fun ok s₃ =>
            if ok = true then wpAny (model prog w) A (eval elt env) (fun x s₄ =>
              wpAny (model prog w) A (call (.builtin "list.append") [acc, x]) (fun _ s₅ => ∃ m, m < n ∧ I m s₅) (fun _ _ => False) s₄) (fun _ _ => False) s₃
            else ∃ m, m < n ∧ I m s₃) (fun _ _ => False) s₂) (fun _ _ => False) s₁') (fun _ _ => False) s₁) (fun _ _ => False) s)
    (n : Nat) (h : I n s) :
    codeAny (model prog w) A (.compLoop (.ListComp elt [⟨target, iter, ifs, 0⟩] scope pos) 0 it acc env) R s := by
  refine codeAny_loop rfl I (fun n s hI => ?_) n h
  show wpAny _ A ((compTurn (.ListComp elt [⟨target, iter, ifs, 0⟩] scope pos) 0 it acc env).onRaise (fun x => do noteFrame x env; theTreesLotGoes x)) _ _ s
  refine wpAny_noted ?_
  rw [compTurn_list]
  refine wpAny_bind (wpAny_standAt (wpAny_bind (wpAny_mono (turn n s hI) (fun r s₁ h₁ => ?_) fun _ _ h' => h'.elim)))
  cases r with
  | none => exact wpAny_pure h₁
  | some v =>
    refine wpAny_bind (wpAny_mono h₁ (fun _ s₁' h₁' => ?_) fun _ _ h' => h'.elim)
    refine wpAny_bind (wpAny_mono h₁' (fun _ s₂ h₂ => wpAny_bind (wpAny_mono h₂ (fun ok s₃ h₃ => ?_) fun _ _ h' => h'.elim)) fun _ _ h' => h'.elim)
    cases ok with
    | false => exact wpAny_pure ⟨rfl, h₃⟩
    | true =>
      exact wpAny_bind (wpAny_bind (wpAny_mono h₃ (fun x s₄ h₄ => wpAny_bind (wpAny_mono h₄ (fun _ s₅ h₅ => wpAny_pure (wpAny_pure ⟨rfl, h₅⟩)) fun _ _ h' => h'.elim)) fun _ _ h' => h'.elim))
def clOf (cells : List (Str × Addr)) : List (Str × NameKind) → List (Str × Addr) → List (Str × Addr)
  | [], acc => acc
  | (n, k) :: r, acc => clOf cells r (if k == .free then (n, (cells.lookup n).getD 0) :: acc else acc)
theorem closure_ok {sc : Scope} {env : Env} (h : ∀ y ∈ sc.names, y.2 = .free → ∃ c, env.cells.lookup y.1 = some c) : closureFor sc env = pure (clOf env.cells sc.names []) := by
  unfold closureFor
  generalize ([] : List (Str × Addr)) = acc
  generalize hl : sc.names = names at h
  clear hl
  induction names generalizing acc with
  | nil => rfl
  | cons y r ih =>
    obtain ⟨n, k⟩ := y
    have ih' := fun acc => ih acc fun y hy => h y (List.mem_cons_of_mem _ hy)
    dsimp only at ih' ⊢
    rw [List.forIn_cons]
    by_cases hk : k = .free
    · subst hk
      obtain ⟨c, hc⟩ := h (n, .free) List.mem_cons_self rfl
      simp only [cellOf, hc, beq_self_eq_true, if_true, pure_bind, clOf, Option.getD_some]
      exact ih' _
    · have hb : (k == NameKind.free) = false := by simpa using hk
      simp only [hb, Bool.false_eq_true, if_false, pure_bind, clOf]
      exact ih' _
theorem lookup_clOf {cells : List (Str × Addr)} : ∀ (names : List (Str × NameKind)) (acc : List (Str × Addr)), (∀ y ∈ names, y.2 = .free → ∃ c, cells.lookup y.1 = some c) → (∀ x c, acc.lookup x = some c → cells.lookup x = some c) →
    ∀ x c, (clOf cells names acc).lookup x = some c → cells.lookup x = some c
  | [], _, _, ha, x, c, e => ha x c e
  | (n, k) :: r, acc, h, ha, x, c, e => by
    unfold clOf at e
    refine lookup_clOf r _ (fun y hy => h y (List.mem_cons_of_mem _ hy)) (fun x' c' e' => ?_) x c e
    split at e'
    · rename_i hk
      have hk' : k = .free := by simpa using hk
      obtain ⟨c0, hc0⟩ := h (n, k) List.mem_cons_self hk'
      simp only at hc0
      rw [List.lookup_cons] at e'
      split at e'
      · rename_i hx
        have hx' : x' = n := by simpa using hx
        subst hx'
        rw [hc0] at e'
        simp at e'
        rw [hc0, e']
      · exact ha x' c' e'
    · exact ha x' c' e'
theorem clOf_has {cells : List (Str × Addr)} : ∀ (names : List (Str × NameKind)) (acc : List (Str × Addr)) (x : Str), ((x, NameKind.free) ∈ names ∨ (acc.lookup x).isSome = true) → ((clOf cells names acc).lookup x).isSome = true
  | [], acc, x, h => by
    rcases h with h | h
    · simp at h
    · exact h
  | (n, k) :: r, acc, x, h => by
    unfold clOf
    refine clOf_has r _ x ?_
    rcases h with h | h
    · rcases List.mem_cons.mp h with e | h
      · cases e
        right
        simp
      · exact .inl h
    · right
      split
      · rw [List.lookup_cons]
        split
        · rfl
        · exact h
      · exact h
def compCx (X : Cx) (sc : Scope) (N : List Str) (C : Addr) (s : Shared) (H : Hp) (fp : List Addr) : Cx :=
  { X with N := N, s₀ := s, H₀ := H, env := compEnvC sc (clOf X.env.cells sc.names []) C X.env, outer := X.stack, ex := fp, fn := fun _ => false, pn := [], xe := fun _ _ => False }
def compB (psc sc : Scope) (NX N : List Str) (fs : List (Option Nat)) : Bool :=
  N.length == fs.length && (N.zip fs).all (fun p => match p.2 with | none => true | some j => NX[j]? == some p.1 && sc.names.lookup p.1 == some .free) &&
  sc.names.all (fun y => y.2 != .cell && (y.2 != .free || (psc.names.lookup y.1 == some .cell || psc.names.lookup y.1 == some .free)) && (y.2 != .local || sc.names.lookup y.1 == some .local)) && sc.kind == .function
structure CompOk (psc sc : Scope) (NX N : List Str) (fs : List (Option Nat)) : Prop where
  len : N.length = fs.length
  frees : ∀ (i j : Nat), fs[i]? = some (some j) → ∃ x, N[i]? = some x ∧ NX[j]? = some x ∧ sc.names.lookup x = some .free
  nocell : ∀ y ∈ sc.names, y.2 ≠ .cell
  par : ∀ y ∈ sc.names, y.2 = .free → psc.names.lookup y.1 = some .cell ∨ psc.names.lookup y.1 = some .free
  loc : ∀ y ∈ sc.names, y.2 = .local → sc.names.lookup y.1 = some .local
  kind : sc.kind = .function
theorem CompOk.of {psc sc : Scope} {NX N : List Str} {fs : List (Option Nat)} (h : compB psc sc NX N fs = true) : CompOk psc sc NX N fs := by
  unfold compB at h
  simp only [Bool.and_eq_true, beq_iff_eq, List.all_eq_true, bne_iff_ne, ne_eq, Bool.or_eq_true] at h
  obtain ⟨⟨⟨h1, h2⟩, h3⟩, h4⟩ := h
  refine ⟨h1, fun i j e => ?_, fun y hy => (h3 y hy).1.1, fun y hy e => ?_, fun y hy e => ?_, h4⟩
  · have hi : i < fs.length := (List.getElem?_eq_some_iff.mp e).1
    have hN : i < N.length := by omega
    have hz : (N.zip fs)[i]? = some (N[i], some j) := by
      rw [List.getElem?_zip_eq_some]
      exact ⟨by simp [hN], e⟩
    have := h2 _ (List.mem_of_getElem? hz)
    simp only [Bool.and_eq_true, beq_iff_eq] at this
    exact ⟨N[i], by simp [hN], this.1, this.2⟩
  · rcases (h3 y hy).1.2 with z | z
    · exact absurd e z
    · exact z
  · rcases (h3 y hy).2 with z | z
    · exact absurd e z
    · exact z
theorem relabel_kinds {sc : Scope} {env : Env} {x : Str} {k : NameKind} (nc : ∀ y ∈ sc.names, y.2 ≠ .cell) (h : (relabel sc env).names.lookup x = some k) (hk : k = .cell ∨ k = .free) : (x, NameKind.free) ∈ sc.names := by
  have hm := PySem.mem_of_lookup h
  unfold relabel at hm
  simp only [List.mem_map] at hm
  obtain ⟨⟨n, k'⟩, hy, e⟩ := hm
  dsimp only at e
  split at e
  · rename_i hc
    simp only [Bool.and_eq_true, beq_iff_eq] at hc
    cases e
    rw [hc.1.1] at hy
    exact hy
  · cases e
    rcases hk with z | z
    · exact absurd z (nc _ hy)
    · rw [z] at hy; exact hy
theorem relabel_free {sc : Scope} {env : Env} {x : Str} (h : sc.names.lookup x = some .free) : (relabel sc env).names.lookup x = some .cell ∨ (relabel sc env).names.lookup x = some .free := by
  unfold relabel
  dsimp only
  generalize sc.names = names at h
  induction names with
  | nil => simp at h
  | cons y r ih =>
    obtain ⟨n, k⟩ := y
    rw [List.lookup_cons] at h
    rw [List.map_cons]
    split at h
    · rename_i hx
      cases h
      have : x = n := by simpa using hx
      subst this
      dsimp only
      split
      · left; rw [List.lookup_cons]; simp
      · right; rw [List.lookup_cons]; simp
    · rename_i hx
      dsimp only
      split
      · rw [List.lookup_cons, hx]; exact ih h
      · rw [List.lookup_cons, hx]; exact ih h
end L2
set_option Elab.async false
set_option linter.all false
set_option maxRecDepth 100000
namespace L2
open PySem PySem.Spec PyProof.Rows
section
variable {X : Cx} {pins : List (Addr × Obj)} {σ : St} {H : Hp} {s : Shared} {sc psc : Scope} {N : List Str} {fs : List (Option Nat)} {C : Addr} {fp : List Addr}
theorem comp_cells (I : Inv X pins σ H s) (hp : X.env.scope = psc) (S : CompOk psc sc X.N N fs) : ∀ y ∈ sc.names, y.2 = .free → ∃ c, X.env.cells.lookup y.1 = some c := fun y hy e => by
  refine I.ok.has y.1 ?_
  have := S.par y hy e
  rw [← hp] at this
  exact this
theorem comp_cl (I : Inv X pins σ H s) (hp : X.env.scope = psc) (S : CompOk psc sc X.N N fs) : ∀ x c, (clOf X.env.cells sc.names []).lookup x = some c → X.env.cells.lookup x = some c :=
  lookup_clOf sc.names [] (comp_cells I hp S) fun x c e => by simp at e
theorem compCx_ok (I : Inv X pins σ H s) (hp : X.env.scope = psc) (S : CompOk psc sc X.N N fs) (hf : ∀ b ∈ fp, FpOk X pins H b) (hfl : ∀ b ∈ fp, b < s.heap.objs.size) (hC : s.heap.objs.size ≤ C) : (compCx X sc N C s H fp).Ok where
  mod := I.ok.mod
  kind := S.kind
  glob := I.ok.glob
  blt := I.ok.blt
  above := hC
  inj := fun x y c h1 h2 => I.ok.inj x y c (comp_cl I hp S x c h1) (comp_cl I hp S y c h2)
  has := fun x hx => by
    have hm : (x, NameKind.free) ∈ sc.names := by
      rcases hx with hx | hx
      · exact relabel_kinds S.nocell hx (.inl rfl)
      · exact relabel_kinds S.nocell hx (.inr rfl)
    exact Option.isSome_iff_exists.mp (clOf_has sc.names [] x (.inl hm))
  cab := fun x c h _ => by cases h
  hd := I.ok.hd
  frames := I.ok.frames
  stk := .inl rfl
  exf := fun b hb => ⟨Nat.ne_of_lt (Nat.lt_of_lt_of_le (hfl b hb) hC), fun x c e => (hf b hb).2.2.2.2.1 x c (comp_cl I hp S x c e)⟩
  bs := I.bs
  bsz := Nat.le_trans I.ok.bsz I.sz
  noex := fun b o e hb => by
    rcases (hf b hb).2.2.2.1 with z | z
    · exact I.ok.noex b o e z
    · exact absurd (Nat.lt_of_lt_of_le (Heap.lt_size e) (Nat.le_trans I.ok.bsz z)) (Nat.lt_irrefl _)
  exfs := fun b hb hs => by
    rcases List.mem_cons.mp (I.stkSub b hs) with z | z
    · exact (hf b hb).2.1 z
    · exact (hf b hb).2.2.1 z
  funs := I.stack
  frf := I.stkFree
def inner (fs : List (Option Nat)) (σ : St) : St := fs.map fun o => match o with | none => none | some j => (σ[j]?).getD none
theorem comp_start {h₁ : Heap} {tk : Nat} {D : Addr} {oD : Obj} {m₁ : Str → Option Value} (I : Inv X pins σ H s) (hp : X.env.scope = psc) (S : CompOk psc sc X.N N fs) (hf : ∀ b ∈ fp, FpOk X pins H b) (hfl : ∀ b ∈ fp, b < s.heap.objs.size) (hC : s.heap.objs.size ≤ C)
    (old : ∀ b o, s.heap.get? b = some o → h₁.get? b = some o) (hn : h₁.Ns C m₁) (hD : h₁.get? D = some oD) (hDs : s.heap.objs.size ≤ D) (hDC : D ≠ C) (hDd : ∀ v, oD.data ≠ .cell v) :
    Inv (compCx X sc N C s H fp) [(D, oD)] (inner fs σ) H { s with heap := h₁, toks := tk } := by
  refine ⟨compCx_ok I hp S hf hfl hC, rfl, I.bare, Un.kept old, ⟨m₁, hn, fun i x v e1 e2 e3 => ?_⟩, fun x c e => ?_, I.hok.fresh hC, fun x c e => I.freeC x c (comp_cl I hp S x c e), fun p hpn => ?_, I.hok.kept old, ?_⟩
  · unfold inner at e2
    rw [List.getElem?_map] at e2
    cases hfi : fs[i]? with
    | none => rw [hfi] at e2; cases e2
    | some o =>
      rw [hfi] at e2
      cases o with
      | none => simp at e2
      | some j =>
        simp only [Option.map_some, Option.some.injEq] at e2
        obtain ⟨x', ex, ej, el⟩ := S.frees i j hfi
        have : x' = x := by
          have q : N[i]? = some x := e1
          rw [ex] at q; exact Option.some.inj q
        subst this
        have ev : σ[j]? = some (some v) := by
          cases q : σ[j]? with
          | none => rw [q] at e2; simp at e2
          | some z => rw [q] at e2; simp at e2; rw [e2]
        have kk : X.env.scope.names.lookup x' = some .cell ∨ X.env.scope.names.lookup x' = some .free := by
          rw [hp]; exact S.par (x', .free) (PySem.mem_of_lookup el) rfl
        obtain ⟨m, hm, hl⟩ := I.loc
        obtain ⟨u, r, l⟩ := hl j x' v ej ev (by
          rcases kk with k | k
          · exact .inr (.inl k)
          · exact .inr (.inr k))
        refine ⟨u, r, .inr ⟨relabel_free el, ?_⟩⟩
        rcases l with ⟨k, _⟩ | ⟨_, c, hc, hcell⟩
        · have k' : X.env.scope.names.lookup x' = some .local := k
          rcases kk with z | z <;> rw [z] at k' <;> cases k'
        · obtain ⟨c', hc'⟩ := Option.isSome_iff_exists.mp (clOf_has (cells := X.env.cells) sc.names [] x' (.inl (PySem.mem_of_lookup el)))
          have := comp_cl I hp S x' c' hc'
          rw [hc] at this
          cases this
          obtain ⟨oc, ho, hd⟩ := hcell
          exact ⟨c, hc', oc, old _ _ ho, hd⟩
  · obtain ⟨v, oc, ho, hd⟩ := I.cell x c (comp_cl I hp S x c e)
    exact ⟨v, oc, old _ _ ho, hd⟩
  · have hpn' : p = (D, oD) := by
      rcases List.mem_append.mp hpn with z | z
      · exact absurd (show p ∈ ([] : List (Addr × Obj)) from z) (by simp)
      · simpa using z
    subst hpn'
    refine ⟨hD, I.hok.fresh hDs, hDC, fun hs => ?_, hDd⟩
    have hb : D ∈ X.env.locals :: X.fs := I.stkSub D hs
    rcases List.mem_cons.mp hb with z | z
    · exact absurd (Nat.lt_of_lt_of_le I.lt (by rw [← z]; exact hDs)) (Nat.lt_irrefl _)
    · exact I.nofs hDs z
  · show (inner fs σ).length = N.length
    unfold inner
    rw [List.length_map, S.len]
theorem HOk.adopt {P : Program} {w : World} {H : Hp} {h : Heap} {D : Addr} {ys : List V} {its : List Value} {n : Nat} (ok : HOk P w H h) (hD : H D = none) (ho : h.get? D = some { cls := .type "list", data := .seq its.toArray n }) (r : Vals ys its) (hz : ys.length ≤ sizeLine) :
    HOk P w (upd H D (.lst ys)) h := fun b u e => by
  by_cases hb : b = D
  · subst hb
    rw [upd_same] at e
    cases e
    exact ⟨hz, its, n, r, ho⟩
  · rw [upd_ne hb] at e
    refine (ok b u e).stay (fun c v _ q => q) (fun c q => ?_) fun c xs q => ?_
    · rw [upd_ne (ne_of_none q hD)]; exact q
    · rw [upd_ne (ne_of_none q hD)]; exact q
theorem Un.adopt {fs ex : List Addr} {H H' : Hp} {h h' : Heap} {D : Addr} {o : HO} (u : Un fs ex H H' h h') (hD : h.objs.size ≤ D) (hn : H' D = none) : Un fs ex H (upd H' D o) h h' where
  keep := u.keep
  slot := u.slot
  free := fun b ob q n hx => by rw [upd_ne (Nat.ne_of_lt (Nat.lt_of_lt_of_le (Heap.lt_size q) hD))]; exact u.free b ob q n hx
  there := u.there
  tups := fun b xs q => by rw [upd_ne (ne_of_none (u.tups b xs q) hn)]; exact u.tups b xs q
  frzs := fun b ob x q => by rw [upd_ne (ne_of_none (u.frzs b ob x q) hn)]; exact u.frzs b ob x q
  tbls := fun b ps q => by
    obtain ⟨more, e⟩ := u.tbls b ps q
    exact ⟨more, by rw [upd_ne (ne_of_none e hn)]; exact e⟩
def PIf (Y : Cx) (ifs : List Expr) (tt : TT) : Prop :=
  ∀ (pins : List (Addr × Obj)) (s : Shared) (σ : St) (H : Hp) (Q : Bool → Hp → Prop), Inv Y pins σ H s → tt σ H Q →
    wpAny (model Y.prog Y.w) Y.A (forIn ifs true fun c r => if r = true then do let ok ← isTrue c Y.env (eval c Y.env); pure (ForInStep.yield ok) else pure (ForInStep.yield r)) (TP Y pins σ Q) Y.xe s
def tYes : TT := fun _ H Q => Q true H
theorem pif_nil {Y : Cx} : PIf Y [] tYes := fun _ _ _ H _ I h => wpAny_tests_nil ⟨H, I, h⟩
def Ext (σ σ2 : St) : Prop := σ.length = σ2.length ∧ ∀ (i : Nat) v, σ[i]? = some (some v) → σ2[i]? = some (some v)
def tComp (wi : TI) (fs : List (Option Nat)) (g : TG) (tt : TT) (te : TE) : TE := fun σ H Q => wi σ H fun J H1 => ∃ W : Nat → Nat → List V → Hp → Prop, (∃ m, W 0 m [] H1) ∧ ∀ i m ys H, W i m ys H →
  (J.stop i H ∧ ys.length ≤ sizeLine ∧ ∀ p, H p = none → Q (.ref p) (upd H p (.lst ys))) ∨
  (J.go i H ∧ ys.length ≤ sizeLine ∧ ∃ N : List V → Hp → Prop, (∀ ys' H', N ys' H' → ∃ m', m' < m ∧ W (i + 1) m' ys' H') ∧ ∀ x H', J.yld i H x H' → g x (inner fs σ) H' fun σ2 H2 => Ext (inner fs σ) σ2 ∧
    tt σ2 H2 fun b H3 => if b = true then te σ2 H3 fun v H4 => N (ys ++ [v]) H4 else N ys H3)
theorem block_go {elt tg iter : Expr} {ifs : List Expr} {pos : Pos} {it : Addr} {tn : Nat → Heap → Prop} {J : It} {g : TG} {tt : TT} {te : TE} {E : Value → Shared → Prop} {RR : Value → Addr → Result → Shared → Prop}
    (hp : X.env.scope = psc) (S : CompOk psc sc X.N N fs) (hc : X.calm = true)
    (hb : ∀ (C : Addr) (s : Shared) (H : Hp) (fp : List Addr), PG (compCx X sc N C s H fp) tg g ∧ PIf (compCx X sc N C s H fp) ifs tt ∧ PE (compCx X sc N C s H fp) elt te)
    (I : Inv X pins σ H s) (T : Turn X.prog X.w X.K tg J fp it tn) (st : tn 0 s.heap) (hf : ∀ b ∈ fp, FpOk X pins H b) {Q : VK}
    (hW : ∃ W : Nat → Nat → List V → Hp → Prop, (∃ m, W 0 m [] H) ∧ ∀ i m ys H, W i m ys H →
      (J.stop i H ∧ ys.length ≤ sizeLine ∧ ∀ p, H p = none → Q (.ref p) (upd H p (.lst ys))) ∨
      (J.go i H ∧ ys.length ≤ sizeLine ∧ ∃ N : List V → Hp → Prop, (∀ ys' H', N ys' H' → ∃ m', m' < m ∧ W (i + 1) m' ys' H') ∧ ∀ x H', J.yld i H x H' → g x (inner fs σ) H' fun σ2 H2 => Ext (inner fs σ) σ2 ∧
        tt σ2 H2 fun b H3 => if b = true then te σ2 H3 fun v H4 => N (ys ++ [v]) H4 else N ys H3))
    (hRR : ∀ (D C : Addr) (s' : Shared) (H' : Hp), (∃ m, s'.heap.Ns C m) → Inv X pins σ H' s' → FpOk X pins H' C → Q (.ref D) H' → RR (.ref D) C (.ok .next) s') :
    wpAny (model X.prog X.w) X.A (newList []) (fun acc s₃ => wpAny (model X.prog X.w) X.A (newFunctionEnv sc X.env.globals (clOf X.env.cells sc.names []) [] X.env.qual none .none (some X.env)) (fun cenv s₄ =>
      codeAny (model X.prog X.w) X.A (.compStart (.ListComp elt [⟨tg, iter, ifs, 0⟩] sc pos) 0 (.ref it) acc { cenv with scope := relabel sc X.env }) (RR acc cenv.locals) s₄) E s₃) E s := by
  refine wpAny_newObj_type (wpAny_newFunctionEnv S.nocell (by intro y hy; simp at hy) (fun h₁ hns₁ hsb₁ => ?_) S.kind)
  dsimp only at hns₁ hsb₁ ⊢
  generalize hH2 : s.heap.push { cls := .type "list", dict := none, data := .seq ([] : List Value).toArray } = G2 at hns₁ hsb₁ ⊢
  have hC : G2.objs.size = s.heap.objs.size + 1 := by rw [← hH2, Heap.size_push]
  have hDC : s.heap.objs.size ≠ G2.objs.size := by rw [hC]; exact Nat.ne_of_lt (Nat.lt_succ_self _)
  have hCle : s.heap.objs.size ≤ G2.objs.size := by rw [hC]; exact Nat.le_succ _
  have below : ∀ b, b < s.heap.objs.size → b ≠ G2.objs.size ∧ b ≠ s.heap.objs.size := fun b hb => ⟨by rw [hC]; exact Nat.ne_of_lt (Nat.lt_succ_of_lt hb), Nat.ne_of_lt hb⟩
  have hfl : ∀ b ∈ fp, b < s.heap.objs.size := fun b hb => by
    obtain ⟨o, e, _⟩ := T.obj _ _ st b hb
    exact Heap.lt_size e
  have old : ∀ b o, s.heap.get? b = some o → h₁.get? b = some o := fun b o e => hsb₁.extBut b o (below b (Heap.lt_size e)).1 (Heap.get?_push_of_some _ (hH2 ▸ Heap.get?_push_of_some _ e))
  have hacc : h₁.get? s.heap.objs.size = some { cls := .type "list", data := .seq ([] : List Value).toArray 0 } := hsb₁.extBut _ _ hDC (Heap.get?_push_of_some _ (hH2 ▸ Heap.get?_push_size _ rfl))
  have st1 : tn 0 h₁ := T.keep _ _ _ st fun b _ o e => old b o e
  obtain ⟨W, ⟨m0, w0⟩, turn⟩ := hW
  obtain ⟨pg, pif, pe⟩ := hb G2.objs.size s H fp
  generalize hY : compCx X sc N G2.objs.size s H fp = Y at pg pif pe
  have Ye : Y.env = compEnvC sc (clOf X.env.cells sc.names []) G2.objs.size X.env := by rw [← hY]; rfl
  have YA : Y.A = X.A := by rw [← hY]; rfl
  have Yp : Y.prog = X.prog := by rw [← hY]; rfl
  have Yw : Y.w = X.w := by rw [← hY]; rfl
  have YK : Y.K = X.K := by rw [← hY]; rfl
  have Yx : Y.xe = fun _ _ => False := by rw [← hY]; rfl
  have Yc : Y.calm = true := by rw [← hY]; exact hc
  have cellN : ∀ x c, X.env.cells.lookup x = some c → c < s.heap.objs.size := fun x c e => by
    obtain ⟨v, q⟩ := I.cell x c e
    exact q.lt
  have loop : ∀ s₃ : Shared, s₃ = { s with heap := h₁, toks := s.toks + ([] : List (Str × Value)).length } →
      codeAny (model X.prog X.w) X.A (.compLoop (.ListComp elt [⟨tg, iter, ifs, 0⟩] sc pos) 0 (.ref it) (.ref s.heap.objs.size) (compEnvC sc (clOf X.env.cells sc.names []) G2.objs.size X.env)) (RR (.ref s.heap.objs.size) G2.objs.size) s₃ := by
    rintro s₃ rfl
    refine compLoop_go (fun n s' => ∃ (i : Nat) (H' : Hp) (ys : List V) (its : List Value) (k : Nat), Vals ys its ∧ Inv Y [(s.heap.objs.size, { cls := .type "list", data := .seq its.toArray k })] (inner fs σ) H' s' ∧ tn i s'.heap ∧ (∀ b ∈ fp, H' b = none) ∧ W i n ys H') ?_ m0
      ⟨0, H, [], [], 0, .nil, hY ▸ comp_start (D := s.heap.objs.size) I hp S hf hfl hCle old hns₁ hacc (Nat.le_refl _) hDC (fun v z => by cases z), st1, fun b hb => (hf b hb).1, w0⟩
    rintro n s1 ⟨i, H1, ys, its, k, rv, I1, st', fr1, w1⟩
    have stat : ∀ {H' : Hp} {pl : List (Addr × Obj)}, (∀ b ∈ fp, H' b = none) → (∀ p ∈ pl, p.1 = s.heap.objs.size) → ∀ b ∈ fp, FpOk Y pl H' b := fun {H' pl} hn hpl b hb => by
      rw [← hY]
      refine ⟨hn b hb, (below b (hfl b hb)).1, fun z => ?_, .inl hb, fun x c e => (hf b hb).2.2.2.2.1 x c (comp_cl I hp S x c e), fun p hpp => ?_⟩
      · rcases List.mem_cons.mp (I.stkSub b z) with z | z
        · exact (hf b hb).2.1 z
        · exact (hf b hb).2.2.1 z
      · have hpp' : p ∈ pl := by
          rcases List.mem_append.mp hpp with z | z
          · exact absurd (show p ∈ ([] : List (Addr × Obj)) from z) (by simp)
          · exact z
        rw [hpl p hpp']
        exact Ne.symm (below b (hfl b hb)).2
    have one : ∀ {o : Obj} (p : Addr × Obj), p ∈ ([(s.heap.objs.size, o)] : List (Addr × Obj)) → p.1 = s.heap.objs.size := fun {o} p hpp => by
      have : p = _ := List.mem_singleton.mp hpp
      rw [this]
    rcases turn i n ys H1 w1 with ⟨stop, hz, qn⟩ | ⟨go, hz, N', hN, step⟩
    · have := T.done Y Yp Yw YK Yc i _ s1 _ H1 (fun _ _ => False) I1 (stat fr1 one) st' stop
      rw [YA] at this
      refine thn this fun r s4 ⟨hr, I4⟩ => ?_
      subst hr
      have Ib := I4.base
      have pinD := I4.pin (s.heap.objs.size, _) (List.mem_append_right _ List.mem_cons_self)
      obtain ⟨mC, hmC, _⟩ := I4.loc
      have e1 : Y.fs = frs X.stack := by rw [← hY]; rfl
      have e2 : Y.ex = fp := by rw [← hY]; rfl
      have e3 : Y.H₀ = H := by rw [← hY]; rfl
      have e4 : Y.s₀ = s := by rw [← hY]; rfl
      have e5 : Y.env.locals = G2.objs.size := by rw [← hY]; rfl
      rw [e1, e2, e3, e4] at Ib
      rw [e5] at hmC
      have hok4 : HOk X.prog X.w H1 s4.heap := by
        have := I4.hok
        rw [Yp, Yw] at this
        exact this
      have freeC : H1 G2.objs.size = none := by have := I4.free; rw [e5] at this; exact this
      have freeC' : upd H1 s.heap.objs.size (.lst ys) G2.objs.size = none := by rw [upd_ne (Ne.symm hDC)]; exact freeC
      have os4 : s4.os = s.os := by have := I4.os; rw [e4] at this; exact this
      refine hRR _ _ s4 (upd H1 s.heap.objs.size (.lst ys)) ⟨mC, hmC⟩ ?_ (I.fpOk hCle freeC') (qn _ pinD.2.1)
      exact I.call' (s' := s4) (ch := fp) os4 (Ib.adopt (Nat.le_refl _) pinD.2.1) (hok4.adopt pinD.2.1 pinD.1 rv hz) I4.bare fun b hb => ⟨(hf b hb).2.2.2.1, (hf b hb).2.1, (hf b hb).2.2.2.2.1, (hf b hb).2.2.2.2.2⟩
    · have := T.item Y Yp Yw YK Yc i _ s1 _ H1 (fun _ _ => False) I1 (stat fr1 one) st' go
      rw [YA] at this
      refine thn this fun r s4 ⟨u, hr, h4⟩ => ?_
      subst hr
      refine thn h4 fun _ s5 ⟨x, H5, I5, r5, y5, st5, fr5⟩ => ?_
      have I5' := I5.pinned (stat fr5 one) (T.obj _ _ st5)
      have a1 := pg _ s5 _ H5 x u _ I5' r5 (step x H5 y5)
      rw [YA, Yp, Yw, Yx, Ye] at a1
      refine thn a1 fun _ s6 ⟨σ6, H6, I6, ext, q6⟩ => ?_
      have a2 := pif _ s6 σ6 H6 _ I6 q6
      rw [YA, Yp, Yw, Yx, Ye] at a2
      refine thn a2 fun b s7 ⟨H7, I7, q7⟩ => ?_
      have back : ∀ {H8 : Hp} {s8 : Shared}, Inv Y ([(s.heap.objs.size, ({ cls := .type "list", data := .seq its.toArray k } : Obj))] ++ pinsAt fp s5.heap) σ6 H8 s8 → Inv Y [(s.heap.objs.size, { cls := .type "list", data := .seq its.toArray k })] (inner fs σ) H8 s8 ∧ tn (i + 1) s8.heap ∧ ∀ b ∈ fp, H8 b = none := fun {H8 s8} I8 =>
        ⟨I8.unpinned.weak ext.1 ext.2, T.keep _ _ _ st5 fun b hb o e => (I8.pin (b, o) (List.mem_append_right _ (List.mem_append_right _ (mem_pinsAt hb e)))).1, fun b hb => by
          obtain ⟨o, e, d⟩ := T.obj _ _ st5 b hb
          exact (I8.pin (b, o) (List.mem_append_right _ (List.mem_append_right _ (mem_pinsAt hb e)))).2.1⟩
      cases b with
      | false =>
        rw [if_neg Bool.false_ne_true] at q7 ⊢
        obtain ⟨m', hm, w7⟩ := hN _ _ q7
        obtain ⟨I7', st7, fr7⟩ := back I7
        exact ⟨m', hm, i + 1, H7, ys, its, k, rv, I7', st7, fr7, w7⟩
      | true =>
        rw [if_pos rfl] at q7 ⊢
        have a3 := pe _ s7 σ6 H7 _ I7 q7
        rw [YA, Yp, Yw, Yx, Ye] at a3
        refine thn a3 fun y s8 ⟨v, H8, I8, r8, q8⟩ => ?_
        obtain ⟨m', hm, w8⟩ := hN _ _ q8
        obtain ⟨I8', st8, fr8⟩ := back I8
        have pinD := I8'.pin (s.heap.objs.size, _) (List.mem_append_right _ List.mem_cons_self)
        refine append_at (hsz := by show its.toArray.size ≤ sizeLine; rw [List.size_toArray, ← rv.length]; exact hz) pinD.1 fun h9 hs9 hD9 => ?_
        have e5 : Y.env.locals = G2.objs.size := by rw [← hY]; rfl
        have I9 : Inv Y [] (inner fs σ) H8 { s8 with heap := h9 } := by
          have J0 : Inv Y [] (inner fs σ) H8 s8 := I8'.pins_of fun p hp => absurd hp (by simp)
          refine J0.turned (t' := s8.toks) (it := s.heap.objs.size) (fun b o hb e => hs9.extBut b o hb e) pinD.2.1 (by rw [e5]; exact hDC) (.inr ?_) (fun x c e => ?_) fun p hp => ?_
          · rw [← hY]; exact Nat.le_refl _
          · rw [← hY] at e
            exact Nat.ne_of_lt (cellN x c (comp_cl I hp S x c e))
          · rw [← hY] at hp
            exact absurd (show p ∈ ([] : List (Addr × Obj)) from hp) (by simp)
        refine ⟨m', hm, i + 1, H8, ys ++ [v], its ++ [y], k + 1, rv.append (.cons r8 .nil), I9.pins_of fun p hp => ?_, T.keep _ _ _ st8 fun b hb o e => hs9.extBut b o (below b (hfl b hb)).2 e, fr8, w8⟩
        have : p = _ := List.mem_singleton.mp hp
        subst this
        refine ⟨?_, pinD.2.1, pinD.2.2.1, pinD.2.2.2.1, fun v z => by cases z⟩
        have e9 : its.toArray.push y = (its ++ [y]).toArray := by simp
        rw [← e9]
        exact hD9
  exact codeAny_compStart_list (loop _ rfl) (T.self _ 0 _ _ _ st1 (loop _ rfl))
theorem Inv.letGo {H' : Hp} {h' : Heap} (I : Inv X pins σ H s) (f : FpOk X pins H C) (hs : Heap.SameBut C s.heap h') : Inv X pins σ H { s with heap := h' } := by
  obtain ⟨f0, f1, f2, f3, f4, f5⟩ := f
  exact I.turned (t' := s.toks) (fun b o hb e => hs.extBut b o hb e) f0 f1 f3 f4 f5
theorem pe_comp {elt tg iter : Expr} {ifs : List Expr} {pos : Pos} {wi : TI} {g : TG} {tt : TT} {te : TE} (psc : Scope) (fs : List (Option Nat)) (N : List Str) (hp : X.env.scope = psc) (S : CompOk psc sc X.N N fs) (hc : X.calm = true) (hi : PI X tg iter wi)
    (hb : ∀ (C : Addr) (s : Shared) (H : Hp) (fp : List Addr), PG (compCx X sc N C s H fp) tg g ∧ PIf (compCx X sc N C s H fp) ifs tt ∧ PE (compCx X sc N C s H fp) elt te)
    (hs : ∀ x, foldedSetIterable iter X.env x = pure x := by intro _; rfl) : PE X (.ListComp elt [⟨tg, iter, ifs, 0⟩] sc pos) (tComp wi fs g tt te) := by
  intro pins s σ H Q I h
  rw [eval_ListComp]
  refine wpAny_comprehension_free (use := none) rfl hs (closure_ok (comp_cells I hp S)) S.kind S.loc (thn (hi pins s σ H _ I h) fun xv s₁ h₁ => thn h₁ fun itv s₂ h₂ => ?_)
  obtain ⟨it, fp, tn, J, H2, e, I2, T, st2, f2, hW⟩ := h₂
  subst e
  refine block_go (RR := fun acc C => compPost (model X.prog X.w) X.A X.xe none (EP X pins σ Q) acc C) hp S hc hb I2 T st2 f2 hW ?_
  intro D C s' H' ⟨m, hm⟩ I' f q
  exact ⟨m, hm, fun h' hs' => ⟨.ref D, H', I'.letGo (H' := H') f hs', rfl, q⟩⟩
theorem ps_setComp {i : Nat} {x : Str} {elt tg iter : Expr} {ifs : List Expr} {pos pos' spos : Pos} {wi : TI} {g : TG} {tt : TT} {te : TE} (hN : X.N.Nodup) (hi' : X.N[i]? = some x) (hx : Loc X.env.scope x) (psc : Scope) (fs : List (Option Nat)) (N : List Str) (hp : X.env.scope = psc) (S : CompOk psc sc X.N N fs) (hc : X.calm = true) (hi : PI X tg iter wi)
    (hb : ∀ (C : Addr) (s : Shared) (H : Hp) (fp : List Addr), PG (compCx X sc N C s H fp) tg g ∧ PIf (compCx X sc N C s H fp) ifs tt ∧ PE (compCx X sc N C s H fp) elt te)
    (hs : ∀ x, foldedSetIterable iter X.env x = pure x := by intro _; rfl) (hsw : swapsWith (.ListComp elt [⟨tg, iter, ifs, 0⟩] sc pos) (some (.Name x pos')) spos.line X.env = pure true := by rfl)
    (hf : X.fn x = true ∨ X.env.scope.names.lookup x = some .local := by first | exact .inl rfl | exact .inr rfl | assumption) :
    PS X (.Assign [.Name x pos'] (.ListComp elt [⟨tg, iter, ifs, 0⟩] sc pos) spos) (tAsg (tComp wi fs g tt te) (gName i)) := by
  intro pins s σ H D I h
  rw [exec_Assign_Name_used _ _ _ _ hsw]
  refine wpAny_bind (wpAny_standAt (wpAny_bind ?_))
  show wpAny _ X.A (do let _ ← comprehension (.ListComp elt [⟨tg, iter, ifs, 0⟩] sc pos) sc X.env _ (newList []) false (eval iter X.env) (some (assign (.Name x pos') X.env))) _ _ s
  refine wpAny_bind (wpAny_mono (wpAny_comprehension_free (use := some (assign (.Name x pos') X.env)) (Q := fun _ s' => SP X pins D .next s') rfl hs (closure_ok (comp_cells I hp S)) S.kind S.loc
    (thn (hi pins s σ H _ I h) fun xv s₁ h₁ => thn h₁ fun itv s₂ h₂ => ?_)) (fun _ s' hq => wpAny_pure (wpAny_pure hq)) fun _ _ e => e)
  obtain ⟨it, fp, tn, J, H2, e, I2, T, st2, f2, hW⟩ := h₂
  subst e
  refine block_go (Q := fun v H' => gName i v σ H' D.nx) (RR := fun acc C => compPost (model X.prog X.w) X.A X.xe (some (assign (.Name x pos') X.env)) (fun _ s' => SP X pins D .next s') acc C) hp S hc hb I2 T st2 f2 hW ?_
  intro L C s' H' ⟨m, hm⟩ I' f q
  refine wpAny_assign_Name (store_ok2 I' hN hi' hx (show RelV (V.ref L) (Value.ref L) from rfl) (fun s'' I'' ⟨a, hsb, ha⟩ => ?_) hf)
  have hCa : C ≠ a := by
    rintro rfl
    rcases ha with z | z
    · exact f.2.1 z
    · exact f.2.2.2.2.1 x _ z rfl
  refine ⟨m, hm.sameBut hsb hCa, fun h' hs' => ⟨_, H', I''.letGo (H' := H') f hs', q⟩⟩
end
end L2
set_option Elab.async false
set_option linter.all false
set_option maxRecDepth 100000
namespace L2
open PySem PySem.Spec PyProof.Rows
def NewL (xs : List V) (H : Hp) (Q : VK) : Prop := xs.length ≤ sizeLine ∧ ∀ p, H p = none → Q (.ref p) (upd H p (.lst xs))
def NewT (xs : List V) (H : Hp) (Q : VK) : Prop := xs.length ≤ sizeLine ∧ ∀ p, H p = none → Q (.ref p) (upd H p (.tup xs))
section
variable {t u : TS} {a b c : St → Hp → Prop} {r : VK} {σ : St} {H : Hp} {te ta tb : TE} {tc td : TT} {Q : VK} {i : Nat}
end
section
variable {X : Cx}
def rLenA (K : PySem.W.Frag) : List V → Hp → VK → Prop := fun xs H Q => (∃ p ys, xs = [.ref p] ∧ (SqL K H p ys ∨ SqT K H p ys) ∧ (ys.length ≤ sizeLine → Q (.int ys.length) H)) ∨ ∃ z, xs = [.str z] ∧ z.length ≤ sizeLine ∧ Q (.int z.length) H
theorem call_lenA : CallR X (.builtin "len") (rLenA X.K) := by
  intro pins s σ H xs us Q I r h
  rcases h with ⟨p, ys, e, hq, q⟩ | h
  · refine call_len_seq pins s σ H xs us Q I r ⟨p, ys, e, hq, q ?_⟩
    rcases hq with hq | hq
    · exact (I.list hq).choose_spec.2.2
    · exact (I.tuple hq).choose_spec.2.2
  · exact call_len_str pins s σ H xs us Q I r h
theorem PI.or {tg iter : Expr} {w1 w2 : TI} (h1 : PI X tg iter w1) (h2 : PI X tg iter w2) : PI X tg iter (fun σ H R => w1 σ H R ∨ w2 σ H R) := by
  intro pins s σ H R I h
  rcases h with h | h
  · exact h1 pins s σ H R I h
  · exact h2 pins s σ H R I h
def iSeq (K : PySem.W.Frag) (tl : TE) : TI := fun σ H R => iList K tl σ H R ∨ iTup K tl σ H R
theorem pi_seq {tg l : Expr} {tl : TE} (hl : PE X l tl) : PI X tg l (iSeq X.K tl) := (pi_list hl).or (pi_tup hl)
end
section
variable {K : PySem.W.Frag} {tl : TE} {ta : TA} {g : TG} {tb : TS} {D : Ends} {σ : St} {H : Hp} {a b c : St → Hp → Prop} {r : VK}
def LoopW (J : It) (g : TG) (tb : TS) (D : Ends) (σ : St) (H1 : Hp) : Prop := ∃ W : Nat → Nat → St → Hp → Prop, (∃ m, W 0 m σ H1) ∧ ∀ i m σ H, W i m σ H →
  (J.stop i H ∧ D.nx σ H) ∨ (J.go i H ∧ ∃ N : St → Hp → Prop, (∀ σ' H', N σ' H' → ∃ m', m' < m ∧ W (i + 1) m' σ' H') ∧ ∀ x H', J.yld i H x H' → g x σ H' fun σ2 H2 => tb { D with nx := N, ct := N, bk := D.nx } σ2 H2)
def FL (K : PySem.W.Frag) (g : TG) (tb : TS) (D : Ends) (σ : St) (x : V) (H1 : Hp) : Prop := ∃ a, x = .ref a ∧ (∃ xs, SqL K H1 a xs) ∧ LoopW (Itl K a) g tb D σ H1
def FT (K : PySem.W.Frag) (g : TG) (tb : TS) (D : Ends) (σ : St) (x : V) (H1 : Hp) : Prop := ∃ a, x = .ref a ∧ (∃ xs, SqT K H1 a xs) ∧ LoopW (Itt K a) g tb D σ H1
def FR1 (g : TG) (tb : TS) (D : Ends) (σ : St) (vs : List V) (H1 : Hp) : Prop := ∃ j : Int, vs = [.int j] ∧ -(2 ^ 62) ≤ j ∧ j < 2 ^ 62 ∧ LoopW (Itr 0 j.toNat) g tb D σ H1
def FR2 (g : TG) (tb : TS) (D : Ends) (σ : St) (vs : List V) (H1 : Hp) : Prop := ∃ i j : Int, vs = [.int i, .int j] ∧ (-(2 ^ 62) ≤ i ∧ i < 2 ^ 62 ∧ -(2 ^ 62) ≤ j ∧ j < 2 ^ 62) ∧ LoopW (Itr i (j - i).toNat) g tb D σ H1
theorem FL.of {ad : Addr} {xs : List V} (h : SqL K H ad xs) (Pv : Nat → St → Hp → Prop) (h0 : Pv 0 σ H) (hl : ∀ i σ H, i ≤ xs.length → Pv i σ H → SqL K H ad xs)
    (hs : ∀ i x σ H, xs[i]? = some x → Pv i σ H → g x σ H fun σ2 H2 => tb (Ends.mk (Pv (i + 1)) r a (Pv (i + 1))) σ2 H2) (hd : ∀ σ H, Pv xs.length σ H → a σ H) : FL K g tb (Ends.mk a r b c) σ (.ref ad) H :=
  ⟨ad, rfl, ⟨xs, h⟩, for_list Pv h0 hl hs hd⟩
theorem FT.of {ad : Addr} {xs : List V} (h : SqT K H ad xs) (Pv : Nat → St → Hp → Prop) (h0 : Pv 0 σ H) (hl : ∀ i σ H, i ≤ xs.length → Pv i σ H → SqT K H ad xs)
    (hs : ∀ i x σ H, xs[i]? = some x → Pv i σ H → g x σ H fun σ2 H2 => tb (Ends.mk (Pv (i + 1)) r a (Pv (i + 1))) σ2 H2) (hd : ∀ σ H, Pv xs.length σ H → a σ H) : FT K g tb (Ends.mk a r b c) σ (.ref ad) H :=
  ⟨ad, rfl, ⟨xs, h⟩, for_tup Pv h0 hl hs hd⟩
theorem FR1.of {j : Int} (h1 : -(2 ^ 62) ≤ j) (h2 : j < 2 ^ 62) (Pv : Nat → St → Hp → Prop) (h0 : Pv 0 σ H)
    (hs : ∀ i σ H, i < j.toNat → Pv i σ H → g (.int i) σ H fun σ2 H2 => tb (Ends.mk (Pv (i + 1)) r a (Pv (i + 1))) σ2 H2) (hd : ∀ σ H, Pv j.toNat σ H → a σ H) : FR1 g tb (Ends.mk a r b c) σ [.int j] H :=
  ⟨j, rfl, h1, h2, for_range Pv h0 (fun i σ H hi p => by rw [Int.zero_add]; exact hs i σ H hi p) hd⟩
theorem FR2.of {i j : Int} (h1 : -(2 ^ 62) ≤ i ∧ i < 2 ^ 62 ∧ -(2 ^ 62) ≤ j ∧ j < 2 ^ 62) (Pv : Nat → St → Hp → Prop) (h0 : Pv 0 σ H)
    (hs : ∀ n σ H, n < (j - i).toNat → Pv n σ H → g (.int (i + n)) σ H fun σ2 H2 => tb (Ends.mk (Pv (n + 1)) r a (Pv (n + 1))) σ2 H2) (hd : ∀ σ H, Pv (j - i).toNat σ H → a σ H) : FR2 g tb (Ends.mk a r b c) σ [.int i, .int j] H :=
  ⟨i, j, rfl, h1, for_range Pv h0 (fun n σ H hi p => hs n σ H hi p) hd⟩
def WN (W : Nat → St → Hp → Prop) (m : Nat) (tb : TS) (D : Ends) (σ : St) (H1 : Hp) : Prop := ∃ N : St → Hp → Prop, (∀ σ' H', N σ' H' → ∃ m', m' < m ∧ W m' σ' H') ∧ tb { D with nx := N, ct := N, bk := D.nx } σ H1
theorem WN.of {W : Nat → St → Hp → Prop} {m : Nat} (N : St → Hp → Prop) (hN : ∀ σ' H', N σ' H' → ∃ m', m' < m ∧ W m' σ' H') (h : tb (Ends.mk N r a N) σ H) : WN W m tb (Ends.mk a r b c) σ H := ⟨N, hN, h⟩
variable {tt : TT} {te : TE} {fs : List (Option Nat)} {Q : VK}
def CompW (J : It) (fs : List (Option Nat)) (g : TG) (tt : TT) (te : TE) (σ : St) (Q : VK) (H1 : Hp) : Prop := ∃ W : Nat → Nat → List V → Hp → Prop, (∃ m, W 0 m [] H1) ∧ ∀ i m ys H, W i m ys H →
  (J.stop i H ∧ ys.length ≤ sizeLine ∧ ∀ p, H p = none → Q (.ref p) (upd H p (.lst ys))) ∨
  (J.go i H ∧ ys.length ≤ sizeLine ∧ ∃ N : List V → Hp → Prop, (∀ ys' H', N ys' H' → ∃ m', m' < m ∧ W (i + 1) m' ys' H') ∧ ∀ x H', J.yld i H x H' → g x (inner fs σ) H' fun σ2 H2 => Ext (inner fs σ) σ2 ∧
    tt σ2 H2 fun b H3 => if b = true then te σ2 H3 fun v H4 => N (ys ++ [v]) H4 else N ys H3)
def CL (K : PySem.W.Frag) (fs : List (Option Nat)) (g : TG) (tt : TT) (te : TE) (σ : St) (Q : VK) (x : V) (H1 : Hp) : Prop := ∃ a, x = .ref a ∧ (∃ xs, SqL K H1 a xs) ∧ CompW (Itl K a) fs g tt te σ Q H1
def CT (K : PySem.W.Frag) (fs : List (Option Nat)) (g : TG) (tt : TT) (te : TE) (σ : St) (Q : VK) (x : V) (H1 : Hp) : Prop := ∃ a, x = .ref a ∧ (∃ xs, SqT K H1 a xs) ∧ CompW (Itt K a) fs g tt te σ Q H1
def CR1 (fs : List (Option Nat)) (g : TG) (tt : TT) (te : TE) (σ : St) (Q : VK) (vs : List V) (H1 : Hp) : Prop := ∃ j : Int, vs = [.int j] ∧ -(2 ^ 62) ≤ j ∧ j < 2 ^ 62 ∧ CompW (Itr 0 j.toNat) fs g tt te σ Q H1
theorem CL.of {ad : Addr} {xs : List V} (h : SqL K H ad xs) (Pv : Nat → List V → Hp → Prop) (h0 : Pv 0 [] H) (hl : ∀ i ys H, i ≤ xs.length → Pv i ys H → SqL K H ad xs ∧ ys.length ≤ sizeLine)
    (hs : ∀ i x ys H, xs[i]? = some x → Pv i ys H → g x (inner fs σ) H fun σ2 H2 => Ext (inner fs σ) σ2 ∧ tt σ2 H2 fun b H3 => if b = true then te σ2 H3 fun v H4 => Pv (i + 1) (ys ++ [v]) H4 else Pv (i + 1) ys H3)
    (hd : ∀ ys H, Pv xs.length ys H → ∀ p, H p = none → Q (.ref p) (upd H p (.lst ys))) : CL K fs g tt te σ Q (.ref ad) H := by
  refine ⟨ad, rfl, ⟨xs, h⟩, fun i m ys H => m = xs.length - i ∧ i ≤ xs.length ∧ Pv i ys H, ⟨xs.length, by simp, Nat.zero_le _, h0⟩, ?_⟩
  rintro i m ys H ⟨rfl, hi, p⟩
  obtain ⟨q, hz⟩ := hl i ys H hi p
  by_cases hlt : i < xs.length
  · refine .inr ⟨⟨xs, xs[i], q, by simp [hlt]⟩, hz, Pv (i + 1), fun ys' H' p' => ⟨xs.length - (i + 1), by omega, rfl, hlt, p'⟩, fun x H' y => ?_⟩
    obtain ⟨e, y⟩ := y
    subst e
    exact hs i x ys _ (y xs q) p
  · have e : i = xs.length := by omega
    subst e
    exact .inl ⟨⟨xs, q, Nat.le_refl _⟩, hz, hd ys H p⟩
theorem CT.of {ad : Addr} {xs : List V} (h : SqT K H ad xs) (Pv : Nat → List V → Hp → Prop) (h0 : Pv 0 [] H) (hl : ∀ i ys H, i ≤ xs.length → Pv i ys H → SqT K H ad xs ∧ ys.length ≤ sizeLine)
    (hs : ∀ i x ys H, xs[i]? = some x → Pv i ys H → g x (inner fs σ) H fun σ2 H2 => Ext (inner fs σ) σ2 ∧ tt σ2 H2 fun b H3 => if b = true then te σ2 H3 fun v H4 => Pv (i + 1) (ys ++ [v]) H4 else Pv (i + 1) ys H3)
    (hd : ∀ ys H, Pv xs.length ys H → ∀ p, H p = none → Q (.ref p) (upd H p (.lst ys))) : CT K fs g tt te σ Q (.ref ad) H := by
  refine ⟨ad, rfl, ⟨xs, h⟩, fun i m ys H => m = xs.length - i ∧ i ≤ xs.length ∧ Pv i ys H, ⟨xs.length, by simp, Nat.zero_le _, h0⟩, ?_⟩
  rintro i m ys H ⟨rfl, hi, p⟩
  obtain ⟨q, hz⟩ := hl i ys H hi p
  by_cases hlt : i < xs.length
  · refine .inr ⟨⟨xs, xs[i], q, by simp [hlt]⟩, hz, Pv (i + 1), fun ys' H' p' => ⟨xs.length - (i + 1), by omega, rfl, hlt, p'⟩, fun x H' y => ?_⟩
    obtain ⟨e, y⟩ := y
    subst e
    exact hs i x ys _ (y xs q) p
  · have e : i = xs.length := by omega
    subst e
    exact .inl ⟨⟨xs, q, Nat.le_refl _⟩, hz, hd ys H p⟩
theorem CR1.of {j : Int} (h1 : -(2 ^ 62) ≤ j) (h2 : j < 2 ^ 62) (Pv : Nat → List V → Hp → Prop) (h0 : Pv 0 [] H) (hl : ∀ i ys H, i ≤ j.toNat → Pv i ys H → ys.length ≤ sizeLine)
    (hs : ∀ (i : Nat) ys H, i < j.toNat → Pv i ys H → g (.int i) (inner fs σ) H fun σ2 H2 => Ext (inner fs σ) σ2 ∧ tt σ2 H2 fun b H3 => if b = true then te σ2 H3 fun v H4 => Pv (i + 1) (ys ++ [v]) H4 else Pv (i + 1) ys H3)
    (hd : ∀ ys H, Pv j.toNat ys H → ∀ p, H p = none → Q (.ref p) (upd H p (.lst ys))) : CR1 fs g tt te σ Q [.int j] H := by
  refine ⟨j, rfl, h1, h2, fun i m ys H => m = j.toNat - i ∧ i ≤ j.toNat ∧ Pv i ys H, ⟨j.toNat, by simp, Nat.zero_le _, h0⟩, ?_⟩
  rintro i m ys H ⟨rfl, hi, p⟩
  have hz := hl i ys H hi p
  by_cases hlt : i < j.toNat
  · refine .inr ⟨hlt, hz, Pv (i + 1), fun ys' H' p' => ⟨j.toNat - (i + 1), by omega, rfl, hlt, p'⟩, fun x H' y => ?_⟩
    obtain ⟨e, y⟩ := y
    subst e y
    rw [Int.zero_add]
    exact hs i ys _ hlt p
  · have e : i = j.toNat := by omega
    subst e
    exact .inl ⟨Nat.le_refl _, hz, hd ys H p⟩
end
structure Def (K : PySem.W.Frag) (mg : Str → Option Value) (x : Str) (st : Stmt) : Prop where
  ex : ∃ f fd, Fun K x x st f fd ∧ mg x = some (.ref f)
structure Cal (P : Program) (w : World) (K : PySem.W.Frag) (mg : Str → Option Value) (base : Heap) (k : Nat) (x : Str) (ps : List Str) (sp : Sp) : Prop where
  ex : ∃ f fd, FnOk P w K mg base CX0 k f fd ps sp ∧ mg x = some (.ref f) ∧ PySem.W.keepIn K (.ref f) = true ∧ Binds K fd ps []
def tCal (sp : Sp) (t : TA) : TE := fun σ H Q => t σ H fun vs H1 => sp vs H1 Q E0
section
variable {P : Program} {w : World} {K : PySem.W.Frag} {mg : Str → Option Value} {base : Heap}
theorem Cal.mono {j k : Nat} {x : Str} {ps : List Str} {sp : Sp} (C : Cal P w K mg base j x ps sp) (h : j ≤ k) : Cal P w K mg base k x ps sp := by
  obtain ⟨f, fd, F, r⟩ := C.ex
  exact ⟨f, fd, F.mono h, r⟩
theorem Cal.imp {k : Nat} {x : Str} {ps : List Str} {sp sp' : Sp} (C : Cal P w K mg base k x ps sp) (h : ∀ vs H Q E, sp' vs H Q E → sp vs H Q E) : Cal P w K mg base k x ps sp' := by
  obtain ⟨f, fd, F, r⟩ := C.ex
  exact ⟨f, fd, F.imp h, r⟩
theorem pe_cal {X : Cx} {k : Nat} {x : Str} {ps : List Str} {sp : Sp} {p pos : Pos} {e : Expr} {es : List Expr} {t : TA} (C : Cal X.prog X.w X.K X.mg X.base k x ps sp) (hr : Room k X.A) (ha : PA X (e :: es) t) (hg : Gl X x := by rfl)
    (hdb : (x == ("__debug__" : Str)) = false := by decide) (he : starEach (e :: es) X.env = (false, eval e X.env) :: starEach es X.env := by rfl) (hpl : (backTo pos (starEach es X.env)).any (·.1) = false := by rfl) :
    PE X (.Call (.Name x p) (e :: es) [] pos) (tCal sp t) := by
  obtain ⟨f, fd, F, hm, hk, hb⟩ := C.ex
  have := pe_call (dvs := []) (ds := []) (E := E0) F hr hg hm hk hb .nil pass0 ha hdb he hpl (p := p)
  intro pins s σ H Q I h
  refine this pins s σ H Q I ?_
  unfold tCall
  simp only [List.append_nil]
  exact h
theorem cal_of {x : Str} {st : Stmt} {N ps : List Str} {k : Nat} {sp : Sp} (D : Def K mg x st) (S : FnScope N ps (defScope st))
    (hbi : ∀ (kV doc pm : Value) (an : Option Addr) (cdv ct : Value) (us : List Value), us.length = ps.length → bindArgs (PySem.W.fnOf x x (defArgs st) (defBody st) (defScope st) .none kV doc pm an cdv ct) ⟨us, []⟩ = pure (ps.zip us))
    (len : ∀ vs H Q E, sp vs H Q E → vs.length = ps.length)
    (hbody : ∀ (f : Addr) (cdv : Value) (A : Around) (outer : List Env) (s : Shared) (H : Hp) (vs : List V) (Q : VK) (E : XK), Room k (A.deeper (envOfC x (defScope st) s.heap.objs.size f cdv)) → sp vs H Q E →
      ∃ t, PSs (cxOf CX0 P w K mg base N x (defScope st) f cdv A outer s H E).nox (defBody st) t ∧ t (Ends.mk (fun _ H' => Q .non H') Q (fun _ _ => False) (fun _ _ => False)) (start N vs) H) : Cal P w K mg base (k + 1) x ps sp := by
  obtain ⟨f, fd, F, hm⟩ := D.ex
  exact ⟨f, fd, F.ok S len (fun cdv A outer s H vs Q E hr h => hbody f cdv A outer s H vs Q E hr h), hm, F.kp, F.binds hbi⟩
theorem fn_body {x : Str} {st : Stmt} {f : Addr} {fd : FuncData} {N ps : List Str} {k : Nat} {sp : Sp} (F : Fun K x x st f fd) (S : FnScope N ps (defScope st)) (len : ∀ vs H Q E, sp vs H Q E → vs.length = ps.length)
    (hbody : ∀ (cdv : Value) (A : Around) (outer : List Env) (s : Shared) (H : Hp) (vs : List V) (Q : VK) (E : XK), Room k (A.deeper (envOfC x (defScope st) s.heap.objs.size f cdv)) → sp vs H Q E →
      ∃ t, PSs (cxOf CX0 P w K mg base N x (defScope st) f cdv A outer s H E).nox (defBody st) t ∧ t (Ends.mk (fun _ H' => Q .non H') Q (fun _ _ => False) (fun _ _ => False)) (start N vs) H) : FnOk P w K mg base CX0 (k + 1) f fd ps sp :=
  F.ok S len hbody
end
abbrev D := PyData
mutual
def Is (H : Hp) : D → V → Prop
  | .none, v => v = .non
  | .bool b, v => v = .bl b
  | .int i, v => v = .int i
  | .str x, v => v = .str x
  | .tuple ds, v => ∃ a vs, v = .ref a ∧ H a = some (.tup vs) ∧ IsL H ds vs
  | .list ds, v => ∃ a vs, v = .ref a ∧ Rd H a (.lst vs) ∧ IsL H ds vs
  | .dict _, _ => False
def IsL (H : Hp) : List D → List V → Prop
  | [], vs => vs = []
  | d :: ds, vs => ∃ v r, vs = v :: r ∧ Is H d v ∧ IsL H ds r
end
theorem Same.rd {H H' : Hp} (e : Same H H') {a : Addr} {o : HO} (h : Rd H a o) : Rd H' a o := by
  rcases h with h | ⟨o', h⟩
  · exact .inl (e _ _ h)
  · exact .inr ⟨o', e _ _ h⟩
mutual
theorem Is.mono {H H' : Hp} (e : Same H H') : ∀ (d : D) (v : V), Is H d v → Is H' d v
  | .none, v, h => h
  | .bool b, v, h => h
  | .int i, v, h => h
  | .str x, v, h => h
  | .dict _, v, h => h
  | .tuple ds, v, h => by
    unfold Is at h ⊢
    obtain ⟨a, vs, e1, e2, e3⟩ := h
    exact ⟨a, vs, e1, e _ _ e2, IsL.mono e ds vs e3⟩
  | .list ds, v, h => by
    unfold Is at h ⊢
    obtain ⟨a, vs, e1, e2, e3⟩ := h
    exact ⟨a, vs, e1, e.rd e2, IsL.mono e ds vs e3⟩
theorem IsL.mono {H H' : Hp} (e : Same H H') : ∀ (ds : List D) (vs : List V), IsL H ds vs → IsL H' ds vs
  | [], vs, h => by unfold IsL at h ⊢; exact h
  | d :: ds, vs, h => by
    unfold IsL at h ⊢
    obtain ⟨v, r, e1, e2, e3⟩ := h
    exact ⟨v, r, e1, Is.mono e d v e2, IsL.mono e ds r e3⟩
end
theorem Same.new {H : Hp} {l : Addr} {o : HO} (h : H l = none) : Same H (upd H l o) := fun b u e => by rw [upd_ne (ne_of_none e h)]; exact e
theorem Same.upd {H H1 : Hp} {l : Addr} {o : HO} (e : Same H H1) (h : H l = none) : Same H (upd H1 l o) := fun b u q => by rw [upd_ne (ne_of_none q h)]; exact e b u q
theorem Same.seqT {K : PySem.W.Frag} {H H' : Hp} {a : Addr} {xs : List V} (e : Same H H') (h : SqT K H a xs) : SqT K H' a xs := by
  rcases h with (h | ⟨o, h⟩) | h
  · exact .inl (.inl (e _ _ h))
  · exact .inl (.inr ⟨o, e _ _ h⟩)
  · exact .inr h
mutual
theorem Is.reads {P : Program} {w : World} {H : Hp} {h : Heap} (ok : HOk P w H h) : ∀ (d : D) (v : V) (u : Value), Is H d v → RelV v u → ∃ as, Reads h u d as
  | .none, v, u, i, r => by
    unfold Is at i; subst i; cases r; exact ⟨_, .none⟩
  | .bool b, v, u, i, r => by
    unfold Is at i; subst i; cases r; exact ⟨_, .bool b⟩
  | .int n, v, u, i, r => by
    unfold Is at i; subst i; obtain ⟨t, rfl⟩ := r; exact ⟨_, .int n t⟩
  | .str x, v, u, i, r => by
    unfold Is at i; subst i; obtain ⟨t, rfl⟩ := r; exact ⟨_, .str x t⟩
  | .dict _, v, u, i, r => by unfold Is at i; exact i.elim
  | .tuple ds, v, u, i, r => by
    unfold Is at i
    obtain ⟨a, vs, e1, e2, e3⟩ := i
    subst e1; cases r
    obtain ⟨hz, its, rv, o, ho, hc, n, hd⟩ := ok a _ e2
    obtain ⟨as, ra⟩ := IsL.reads ok ds vs its e3 rv
    exact ⟨_, .tuple ho hc hd (by simpa using ra)⟩
  | .list ds, v, u, i, r => by
    unfold Is at i
    obtain ⟨a, vs, e1, e2, e3⟩ := i
    subst e1; cases r
    obtain ⟨hz, its, n, rv, ho⟩ := e2.ok ok
    obtain ⟨as, ra⟩ := IsL.reads ok ds vs its e3 rv
    exact ⟨_, .list ho rfl rfl (by simpa using ra)⟩
theorem IsL.reads {P : Program} {w : World} {H : Hp} {h : Heap} (ok : HOk P w H h) : ∀ (ds : List D) (vs : List V) (us : List Value), IsL H ds vs → Vals vs us → ∃ as, ReadsAll h us ds as
  | [], vs, us, i, r => by
    unfold IsL at i; subst i; cases r; exact ⟨_, .nil⟩
  | d :: ds, vs, us, i, r => by
    unfold IsL at i
    obtain ⟨v, rr, e1, e2, e3⟩ := i
    subst e1
    cases r with
    | cons r1 r2 =>
      obtain ⟨as, h1⟩ := Is.reads ok d v _ e2 r1
      obtain ⟨bs, h2⟩ := IsL.reads ok ds rr _ e3 r2
      exact ⟨_, .cons h1 h2⟩
end
section
variable {X : Cx}
theorem pe_bty {x : Str} {T : String} {pos : Pos} (hg : Gl X x) (hm : X.mg x = none) (hv : bootBuiltins x = some (.type T)) (hn : x ≠ "__name__" := by decide) (hd : (x == ("__debug__" : Str)) = false := by decide) : PE X (.Name x pos) (tC (.ty T)) :=
  pe_bltn (v := .ty T) hg hm hv rfl hn hd
def kitB (T n : String) : Option Bool := if (Value.type T == Value.type n) = true then some true else if PySem.W.kitMeta n = true then (PySem.fastBuiltinMro T).map (·.contains (.type n)) else none
theorem kit_of {K : PySem.W.Frag} {T n : String} {b : Bool} (h : kitB T n = some b) : PySem.W.kitOne K (.type T) (.type n) = some b := h
def tyD : D → String
  | .none => "NoneType" | .bool _ => "bool" | .int _ => "int" | .str _ => "str" | .tuple _ => "tuple" | .list _ => "list" | .dict _ => "dict"
theorem Is.ty {K : PySem.W.Frag} {H : Hp} {d : D} {v : V} (i : Is H d v) : TyOf K H v (.type (tyD d)) := by
  cases d with
  | none => unfold Is at i; subst i; exact .non
  | bool b => unfold Is at i; subst i; exact .bl b
  | int n => unfold Is at i; subst i; exact .int n
  | str x => unfold Is at i; subst i; exact .str x
  | dict _ => unfold Is at i; exact i.elim
  | tuple ds => unfold Is at i; obtain ⟨a, vs, rfl, e, _⟩ := i; exact .tup e
  | list ds =>
    unfold Is at i; obtain ⟨a, vs, rfl, e, _⟩ := i
    rcases e with e | ⟨o, e⟩
    · exact .lst e
    · exact .frz e
end
theorem NewL.of {xs : List V} {H : Hp} {Q : VK} (hz : xs.length ≤ 100) (q : ∀ p H', Same H H' → H p = none → H' p = some (.lst xs) → Q (.ref p) H') : NewL xs H Q := ⟨by rw [sizeLine_eq]; omega, fun p hp => q p _ (Same.new hp) hp upd_same⟩
theorem NewT.of {xs : List V} {H : Hp} {Q : VK} (hz : xs.length ≤ 100) (q : ∀ p H', Same H H' → H p = none → H' p = some (.tup xs) → Q (.ref p) H') : NewT xs H Q := ⟨by rw [sizeLine_eq]; omega, fun p hp => q p _ (Same.new hp) hp upd_same⟩
end L2
set_option Elab.async false
set_option linter.all false
set_option maxRecDepth 100000
namespace L2
open PySem PySem.Spec PyProof.Rows
section
variable {X : Cx}
def rSlS : V → Option Int → Option Int → Hp → VK → Prop := fun x lo hi H Q => ∃ z, x = .str z ∧ z.length ≤ sizeLine ∧ Q (.str (Txt.slice z lo hi)) H
theorem sl_str : SlR X rSlS := by
  intro pins s σ H x v vl vu lo hi sl Q I rx hs pl pu h
  obtain ⟨z, rfl, hz, q⟩ := h
  obtain ⟨t, rfl⟩ := rx
  have fin : ∀ t' k, EP X pins σ Q (.str (Txt.slice z lo hi) t') { s with toks := k } := fun t' k => ⟨.str (Txt.slice z lo hi), H, I.tok _, ⟨_, rfl⟩, q⟩
  refine ⟨"str", _, F.slot_str_getitem.lookup, typeIs_str _ _ _, ?_⟩
  cases pl with
  | none =>
    cases pu with
    | none => exact wpAny_getItem_str_slice (l := none) (u := none) (st := none) hs rfl (post_val_or_str ⟨Nat.le_trans (Txt.slice_le z _ _) hz, fin⟩)
    | int j tj => exact wpAny_getItem_str_slice (l := none) (u := some (j, tj)) (st := none) hs rfl (post_val_or_str ⟨Nat.le_trans (Txt.slice_le z _ _) hz, fin⟩)
  | int i ti =>
    cases pu with
    | none => exact wpAny_getItem_str_slice (l := some (i, ti)) (u := none) (st := none) hs rfl (post_val_or_str ⟨Nat.le_trans (Txt.slice_le z _ _) hz, fin⟩)
    | int j tj => exact wpAny_getItem_str_slice (l := some (i, ti)) (u := some (j, tj)) (st := none) hs rfl (post_val_or_str ⟨Nat.le_trans (Txt.slice_le z _ _) hz, fin⟩)
def rSlA (K : PySem.W.Frag) : V → Option Int → Option Int → Hp → VK → Prop := fun x lo hi H Q => rSlL K x lo hi H Q ∨ rSlT K x lo hi H Q ∨ rSlS x lo hi H Q
theorem sl_A : SlR X (rSlA X.K) := sl_list.or (sl_tup.or sl_str)
theorem vals_of_ints {ns : List Int} : ∀ {us : List Value}, IntsAre us ns → Vals (ns.map V.int) us := by
  intro us h
  induction h with
  | nil => exact .nil
  | cons n t h ih => exact .cons ⟨t, rfl⟩ ih
def rSorted (K : PySem.W.Frag) : List V → Hp → VK → Prop := fun xs H Q => ∃ p ns, xs = [.ref p] ∧ SqL K H p (ns.map V.int) ∧ ns.length < 64 ∧
  ∀ (ms : List Int) (l : Addr), ms.Perm ns → ms.Pairwise (· ≤ ·) → H l = none → Q (.ref l) (upd H l (.lst (ms.map V.int)))
theorem call_sortedL : CallR X (.builtin "sorted") (rSorted X.K) := by
  intro pins s σ H xs us Q I r h
  obtain ⟨p, ns, rfl, hq, h64, q⟩ := h
  obtain ⟨u, rfl, rx⟩ := vals1 r
  cases rx
  obtain ⟨its, r', pl, hz⟩ := I.list hq
  have hlen := r'.length
  rw [List.length_map] at hlen
  refine sorted_ints pl.isList (intsAre_of r') (by omega) fun out ms h1 h2 h3 => ?_
  obtain ⟨e, he⟩ := sortedAll_at s.heap its out
  have hl : ms.length = ns.length := h2.length_eq
  refine ⟨.ref (s.heap.objs.size + 1), upd H (s.heap.objs.size + 1) (.lst (ms.map V.int)), I.laid (t' := s.toks) (fun b o q => sortedAll_old q) (Nat.le_succ _) ?_, rfl, q ms _ h2 h3 (I.hok.fresh (Nat.le_succ _))⟩
  refine ⟨by rw [List.length_map] at hz ⊢; omega, out.toList, e, vals_of_ints h1, ?_⟩
  rw [he]
theorem truth_bools {A : Around} {its : List Value} {bs : List Bool} (r : Vals (bs.map V.bl) its) : TruthOf X.prog X.w A (fun i v => its.toArray[i]? = some v) (fun i => bs.getD i false) := by
  intro i v s Q E hv h
  have hv' : its[i]? = some v := by simpa using hv
  have hi : i < its.length := (List.getElem?_eq_some_iff.mp hv').1
  have hl := r.length
  rw [List.length_map] at hl
  have hb : (bs.map V.bl)[i]? = some (V.bl (bs[i]'(by omega))) := by simp [show i < bs.length by omega]
  obtain ⟨u, hu, ru⟩ := r.get hb
  rw [hv'] at hu
  cases hu
  cases ru
  have : bs.getD i false = bs[i]'(by omega) := by simp [List.getD, show i < bs.length by omega]
  have h' : Q (bs.getD i false) s := h
  rw [this] at h'
  exact wpAny_truthy_bool h'
theorem all_range (bs : List Bool) : (List.range bs.length).all (fun i => bs.getD i false) = bs.all id := by
  induction bs with
  | nil => rfl
  | cons b bs ih =>
    rw [List.length_cons, List.range_succ_eq_map, List.all_cons, List.all_map, List.all_cons]
    have : (fun i => (b :: bs).getD i false) ∘ Nat.succ = fun i => bs.getD i false := by funext i; rfl
    rw [this, ih]
    rfl
theorem any_range (bs : List Bool) : (List.range bs.length).any (fun i => bs.getD i false) = bs.any id := by
  induction bs with
  | nil => rfl
  | cons b bs ih =>
    rw [List.length_cons, List.range_succ_eq_map, List.any_cons, List.any_map, List.any_cons]
    have : (fun i => (b :: bs).getD i false) ∘ Nat.succ = fun i => bs.getD i false := by funext i; rfl
    rw [this, ih]
    rfl
def rAll (K : PySem.W.Frag) : List V → Hp → VK → Prop := fun xs H Q => ∃ (p : Addr) (bs : List Bool), xs = [.ref p] ∧ SqL K H p (bs.map V.bl) ∧ Q (.bl (bs.all id)) H
def rAny (K : PySem.W.Frag) : List V → Hp → VK → Prop := fun xs H Q => ∃ (p : Addr) (bs : List Bool), xs = [.ref p] ∧ SqL K H p (bs.map V.bl) ∧ Q (.bl (bs.any id)) H
theorem call_allA (hc : X.calm = true) : CallR X (.builtin "all") (rAll X.K) := by
  intro pins s σ H xs us Q I r h
  obtain ⟨p, bs, rfl, hq, q⟩ := h
  obtain ⟨u, rfl, rx⟩ := vals1 r
  cases rx
  obtain ⟨its, r', pl, hz⟩ := I.list hq
  have hl := pl.isList
  have hlt : p < s.heap.objs.size := by obtain ⟨o, e, _⟩ := hl; exact Heap.lt_size e
  have hlen := r'.length
  rw [List.length_map] at hlen
  refine call_all_walk (wpAny_pyIter_list hl ⟨s.heap.objs.size, _, _, _, _, _, fun i => bs.getD i false, rfl, Walks.list (A := X.A.in1) (I.ok.hd hc) s.heap.objs.size p (Nat.ne_of_lt hlt) its.toArray, ⟨⟨_, Heap.get?_push_size _ rfl, rfl, rfl⟩, hl.push _⟩, truth_bools r', fun h' tk hk => ?_⟩)
  have e : (List.range its.toArray.size).all (fun i => bs.getD i false) = bs.all id := by rw [List.size_toArray, ← hlen]; exact all_range bs
  rw [e]
  exact ⟨.bl _, H, I.kept (h' := h') (t' := tk) (fun b o e => hk b o (by simpa using Nat.ne_of_lt (Heap.lt_size e)) (Heap.get?_push_of_some _ e)), rfl, q⟩
theorem call_anyA (hc : X.calm = true) : CallR X (.builtin "any") (rAny X.K) := by
  intro pins s σ H xs us Q I r h
  obtain ⟨p, bs, rfl, hq, q⟩ := h
  obtain ⟨u, rfl, rx⟩ := vals1 r
  cases rx
  obtain ⟨its, r', pl, hz⟩ := I.list hq
  have hl := pl.isList
  have hlt : p < s.heap.objs.size := by obtain ⟨o, e, _⟩ := hl; exact Heap.lt_size e
  have hlen := r'.length
  rw [List.length_map] at hlen
  refine call_any_walk (wpAny_pyIter_list hl ⟨s.heap.objs.size, _, _, _, _, _, fun i => bs.getD i false, rfl, Walks.list (A := X.A.in1) (I.ok.hd hc) s.heap.objs.size p (Nat.ne_of_lt hlt) its.toArray, ⟨⟨_, Heap.get?_push_size _ rfl, rfl, rfl⟩, hl.push _⟩, truth_bools r', fun h' tk hk => ?_⟩)
  have e : (List.range its.toArray.size).any (fun i => bs.getD i false) = bs.any id := by rw [List.size_toArray, ← hlen]; exact any_range bs
  rw [e]
  exact ⟨.bl _, H, I.kept (h' := h') (t' := tk) (fun b o e => hk b o (by simpa using Nat.ne_of_lt (Heap.lt_size e)) (Heap.get?_push_of_some _ e)), rfl, q⟩
abbrev TJ := St → Hp → Str → VK → Prop
def PJ (X : Cx) (vs : List Expr) (t : TJ) : Prop :=
  ∀ (pins : List (Addr × Obj)) (s : Shared) (σ : St) (H : Hp) (acc : Str) (Q : VK), Inv X pins σ H s → acc.length ≤ sizeLine → t σ H acc Q → wpAny (model X.prog X.w) X.A (joinParts acc (evalEach vs X.env)) (EP X pins σ Q) X.xe s
def jNil : TJ := fun _ H acc Q => Q (.str acc) H
def jLit (c : Str) (r : TJ) : TJ := fun σ H acc Q => (acc ++ c).length ≤ sizeLine ∧ r σ H (acc ++ c) Q
theorem pj_nil : PJ X [] jNil := fun pins s σ H acc Q I hz h => joinParts_nil ⟨.str acc, H, I.tok _, ⟨_, rfl⟩, h⟩ hz
theorem pj_lit {c : Str} {j : Nat} {pos : Pos} {vs : List Expr} {r : TJ} (hr : PJ X vs r) : PJ X (.Constant (.str c) j pos :: vs) (jLit c r) := by
  intro pins s σ H acc Q I hz h
  refine joinParts_cons (Calls.Constant_str ?_)
  exact ⟨h.1, hr pins _ σ H (acc ++ c) Q (I.tok _) h.1 h.2⟩
def tJoined (r : TJ) : TE := fun σ H Q => r σ H Str.empty Q
theorem pe_joined {v1 v2 : Expr} {rest : List Expr} {pos : Pos} {r : TJ} (h : PJ X (v1 :: v2 :: rest) r) : PE X (.JoinedStr (v1 :: v2 :: rest) pos) (tJoined r) := by
  intro pins s σ H Q I hq
  exact JoinedStr_many (h pins s σ H Str.empty Q I (by decide) hq)
end
end L2
set_option Elab.async false
set_option linter.all false
set_option maxRecDepth 100000
namespace L2
open PySem PySem.Spec PyProof.Rows
abbrev cl (z : Str) : List Nat := z.cps.toList
theorem cl_len (z : Str) : (cl z).length = z.length := by simp [cl, Str.length]
theorem cl_app (x y : Str) : cl (x ++ y) = cl x ++ cl y := by
  show (x.cps ++ y.cps).toList = _
  simp [cl]
def cutL {α : Type} (xs : List α) (lo hi : Option Int) : List α := (xs.drop (HT.sIx xs.length 0 lo)).take (HT.sIx xs.length xs.length hi - HT.sIx xs.length 0 lo)
theorem pick_nat (xs : List Nat) (i k : Nat) : ((List.range k).map fun (m : Nat) => ((i : Int) + 1 * (m : Int)).toNat).filterMap (xs[·]?) = (xs.drop i).take k := by
  rw [List.filterMap_map]
  induction k generalizing i with
  | zero => simp
  | succ k ih =>
    rw [List.range_succ_eq_map, List.filterMap_cons, List.filterMap_map]
    have e0 : ((fun x => xs[x]?) ∘ fun m : Nat => ((i : Int) + 1 * (m : Int)).toNat) 0 = xs[i]? := by simp [Function.comp]
    rw [e0]
    have e1 : (((fun x => xs[x]?) ∘ fun m : Nat => ((i : Int) + 1 * (m : Int)).toNat) ∘ Nat.succ) = ((fun x => xs[x]?) ∘ fun m : Nat => (((i + 1 : Nat) : Int) + 1 * (m : Int)).toNat) := by
      funext m
      simp only [Function.comp, Nat.succ_eq_add_one]
      congr 1
      omega
    rw [e1, ih]
    cases h : xs[i]? with
    | none =>
      have hl : xs.length ≤ i := List.getElem?_eq_none_iff.mp h
      simp [List.drop_eq_nil_of_le hl, List.drop_eq_nil_of_le (Nat.le_succ_of_le hl)]
    | some c =>
      obtain ⟨hi, hc⟩ := List.getElem?_eq_some_iff.mp h
      rw [List.drop_eq_getElem_cons hi, List.take_succ_cons, hc]
theorem idx_eq (lo hi : Option Int) (n : Nat) : Builtin.Str.strSliceIndices lo hi 1 n = (List.range (HT.sIx n n hi - HT.sIx n 0 lo)).map fun (m : Nat) => (((HT.sIx n 0 lo : Nat) : Int) + 1 * (m : Int)).toNat := by
  have c : ∀ (v : Option Int) (d : Nat), (match v with | none => (d : Int) | some i => (let i := if i < 0 then i + (n : Int) else i; if (1 : Int) > 0 then max 0 (min i (n : Int)) else max (-1) (min i ((n : Int) - 1)))) = ((HT.sIx n d v : Nat) : Int) := by
    intro v d
    cases v with
    | none => rfl
    | some i =>
      rw [← HT.clip_eq i n d]
      dsimp only
      rw [if_pos (by decide)]
      by_cases hi : i < 0
      · rw [if_pos hi, if_pos hi]; omega
      · rw [if_neg hi, if_neg hi]; omega
  have key : ∀ (x y : Int) (a b : Nat), x = a → y = b → sliceRange x y 1 = (List.range (b - a)).map fun (m : Nat) => ((a : Int) + 1 * (m : Int)).toNat := by
    rintro x y a b rfl rfl
    unfold sliceRange
    dsimp only
    rw [if_pos (by decide)]
    congr 1
    congr 1
    by_cases h : (a : Int) < (b : Int)
    · rw [if_pos h]; omega
    · rw [if_neg h]; omega
  unfold Builtin.Str.strSliceIndices
  dsimp only
  have e1 := c lo 0
  have e2 := c hi n
  dsimp only at e1 e2
  simp only [show (1 : Int) > 0 by decide, if_true] at e1 e2 ⊢
  exact key _ _ _ _ e1 e2
theorem cl_slice (z : Str) (lo hi : Option Int) : cl (Txt.slice z lo hi) = cutL (cl z) lo hi := by
  have hn : (cl z).length = z.length := cl_len z
  unfold Txt.slice cutL
  rw [hn]
  have hle := HT.sIx_le z.length z.length (Nat.le_refl _) hi
  split
  · rename_i h
    rw [idx_eq, List.length_map, List.length_range] at h
    have h' : HT.sIx z.length z.length hi - HT.sIx z.length 0 lo = z.length := by simpa using h
    have h0 : HT.sIx z.length 0 lo = 0 ∨ z.length = 0 := by omega
    rcases h0 with h0 | h0
    · rw [h', h0, List.drop_zero, List.take_of_length_le (by omega)]
    · have : cl z = [] := List.length_eq_zero_iff.mp (by omega)
      rw [this]; simp
  · show (((Builtin.Str.strSliceIndices lo hi 1 z.length).filterMap (z.cps[·]?)).toArray).toList = _
    rw [idx_eq]
    have e : (fun x : Nat => z.cps[x]?) = fun x => (cl z)[x]? := by funext x; simp [cl]
    rw [e]
    exact pick_nat _ _ _
end L2
set_option Elab.async false
set_option linter.all false
set_option maxRecDepth 100000
namespace L2
open PySem PySem.Spec PyProof.Rows
section
variable {X : Cx} (K : PySem.W.Frag)
def rList (K : PySem.W.Frag) : List V → Hp → VK → Prop := fun xs H Q => ∃ p ys, xs = [.ref p] ∧ (SqL K H p ys ∨ SqT K H p ys) ∧ ∀ l, H l = none → Q (.ref l) (upd H l (.lst ys))
theorem call_listk (h : X.K = K := by rfl) : CallR X (.type "list") (rList K) := by subst h; exact call_list_of
variable {o e : Expr} {es : List Expr} {to : TE} {t : TA} {name : Str} {apos cpos : Pos} {T id : String} {r : V → List V → Hp → VK → Prop}
end
end L2
set_option Elab.async false
set_option linter.all false
set_option maxRecDepth 100000
namespace PySem
open AutoSeq1 (wpAny_loadPart')
section
variable {prog : Program} {w : World} {A : Around} {E : Value → Shared → Prop} {s : Shared}
theorem wpAny_nextOf_tuple_item {it l : Addr} {i : Nat} {items} {x : Value} {Q : Value → Shared → Prop} (hit : s.heap.IsTupleIter it l i)
    (hl : s.heap.IsTuple l items) (hx : items[i]? = some x)
    (hQ : ∀ h', h'.IsTupleIter it l (i + 1) → Heap.SameBut it s.heap h' → Q x { s with heap := h' }) :
    wpAny (model prog w) A (Builtin.SmallTypes.nextOf (.ref it)) Q E s := by
  obtain ⟨o, ho, hc, hd⟩ := id hit
  obtain ⟨ol, hol, _, nl, hdl⟩ := hl
  unfold Builtin.SmallTypes.nextOf
  refine wpAny_bind (wpAny_callSpecial?_slot (name := Str.ofString "__next__") hit.typeIs F.slot_tuple_iterator_next
    (wpAny_call_entry F.slot_tuple_iterator_next hit.typeIs F.entry_tuple_iterator_next ?_ (F.args_tuple_iterator_next_1 _)))
  show wpAny _ _ (field (.ref it) 0 >>= _) _ _ s
  refine wpAny_bind (wpAny_field ho hd (x := .ref l) rfl ?_)
  show wpAny _ _ (if (Value.ref l == Value.none) = true then _ else _) _ _ s
  rw [if_neg (show ¬ ((Value.ref l == Value.none) = true) from Bool.false_ne_true)]
  show wpAny _ _ (field (.ref it) 1 >>= _) _ _ s
  refine wpAny_bind (wpAny_field ho hd (x := .int i 0) rfl ?_)
  show wpAny _ _ (seqItems? (.ref l) >>= _) _ _ s
  refine wpAny_bind (wpAny_seqItems hol hdl ?_)
  simp only [Int.toNat_natCast, hx]
  refine wpAny_bind (wpAny_setField ho hd (by simp) (wpAny_pure ⟨x, rfl, wpAny_pure (hQ _ ?_ (Heap.SameBut.update ..))⟩))
  exact ⟨_, Heap.get?_update_self _ ho (Obj.isFreed_of_fields (Obj.data_mapFields hd _)), (Obj.cls_mapFields ..).trans hc, by
    rw [Obj.data_mapFields hd]; simp [rawInt]⟩
theorem wpAny_nextOf_tuple_end {it l : Addr} {i : Nat} {items} {Q : Value → Shared → Prop} (hh : A.handled = none)
    (hit : s.heap.IsTupleIter it l i) (hl : s.heap.IsTuple l items) (hx : items[i]? = none)
    (hE : ∀ h' e, Heap.ExtBut it s.heap h' → (∃ o, h'.get? e = some o ∧ o.cls = .type "StopIteration") → E (.ref e) { s with heap := h' }) :
    wpAny (model prog w) A (Builtin.SmallTypes.nextOf (.ref it)) Q E s := by
  obtain ⟨o, ho, hc, hd⟩ := id hit
  obtain ⟨ol, hol, _, nl, hdl⟩ := hl
  unfold Builtin.SmallTypes.nextOf
  refine wpAny_bind (wpAny_callSpecial?_slot (name := Str.ofString "__next__") hit.typeIs F.slot_tuple_iterator_next
    (wpAny_call_entry F.slot_tuple_iterator_next hit.typeIs F.entry_tuple_iterator_next ?_ (F.args_tuple_iterator_next_1 _)))
  show wpAny _ _ (field (.ref it) 0 >>= _) _ _ s
  refine wpAny_bind (wpAny_field ho hd (x := .ref l) rfl ?_)
  show wpAny _ _ (if (Value.ref l == Value.none) = true then _ else _) _ _ s
  rw [if_neg (show ¬ ((Value.ref l == Value.none) = true) from Bool.false_ne_true)]
  show wpAny _ _ (field (.ref it) 1 >>= _) _ _ s
  refine wpAny_bind (wpAny_field ho hd (x := .int i 0) rfl ?_)
  show wpAny _ _ (seqItems? (.ref l) >>= _) _ _ s
  refine wpAny_bind (wpAny_seqItems hol hdl ?_)
  simp only [Int.toNat_natCast, hx]
  refine wpAny_bind (wpAny_rule (wpAny_bind (wpAny_setField ho hd (by simp) ?_)))
  show wpAny _ _ (newExc (.type "StopIteration") [] >>= _) _ _ _
  refine wpAny_bind ?_
  simp only [newExc, newTuple]
  refine wpAny_bind (wpAny_newObj_type ?_ (by size_fits))
  refine wpAny_bind (m := firstArgMember _ _) (wpAny_of_eq (a := Value.none) (by first | rfl | (simp only [firstArgMember]; rfl)) ?_)
  refine wpAny_newObj_type ?_ (by size_fits)
  simp only [raiseNew]
  refine wpAny_bind (wpAny_handled ?_)
  first | rw [show A.in1.handled = none from hh] | rw [hh]
  refine wpAny_bind (wpAny_pure (wpAny_throw ?_))
  exact hE _ _ (((Heap.SameBut.update ..).extBut.push _).push _) ⟨_, Heap.get?_push_size _ rfl, rfl⟩
end
theorem Draws.tupleD {prog : Program} {w : World} {A : Around} (hh : A.handled = none) (it l : Addr) (hne : l ≠ it) (items : Array Value) :
    Draws prog w A it [it, l] items.size (fun i v => items[i]? = some v) (fun i h => h.IsTupleIter it l i ∧ h.IsTuple l items) where
  live := fun _ _ st => let ⟨o, ho, _⟩ := st.1; ⟨o, ho⟩
  frame := fun _ _ _ st hk => ⟨st.1.at fun o e => hk it (by simp) o e, let ⟨o, ho, r⟩ := st.2; ⟨o, hk l (by simp) o ho, r⟩⟩
  item := fun i s Q E hi st hQ => by
    refine wpAny_nextOf_tuple_item st.1 st.2 (x := items[i]) (by simp [hi]) fun h' hit' hs' => ?_
    exact hQ _ h' s.toks (by simp [hi]) ⟨hit', st.2.extBut hs'.extBut hne⟩ hs'
  done := fun s Q E st hE => wpAny_nextOf_tuple_end hh st.1 st.2 (by simp) hE
theorem meets_enumerate_newT (l : Addr) (items : Array Value) (n : Nat) (dct : Option Addr) (sl : Array (Option Value)) :
    Meets (Builtin.«enumerate.__new__» ⟨[.type "enumerate", .ref l], []⟩) (fun _ R s => s.heap.get? l = some { cls := .type "tuple", dict := dct, data := .seq items n, slots := sl } ∧
      R (.ok (.ret (.ref (s.heap.push { cls := .type "tuple_iterator", data := .fields #[.ref l, .int 0 0] }).objs.size)))
        { s with heap := (s.heap.push { cls := .type "tuple_iterator", data := .fields #[.ref l, .int 0 0] }).push { cls := .type "enumerate", data := .fields #[.none, .bool false, .ref s.heap.objs.size, rawInt 0, .none, .none] } }) :=
  .of_wp fun prog w A R s h => by
    obtain ⟨hp, g, d, tk, os⟩ := s; obtain ⟨hl, h⟩ := h
    have hsub := sub_enumerate
    have hL : Heap.IsTuple (Shared.heap ⟨hp, g, d, tk, os⟩) l items := ⟨_, hl, rfl, n, rfl⟩
    wp_walk using wpAny_loadPart' hl
    refine wpAny_stack_any fun st => wpAny_pure ?_
    split
    · rename_i c _ _ _ _ _
      cases (c == Value.type "enumerate")
      · wp_walk using wpAny_loadPart' hl, wpAny_pyIter_tuple hL
        exact ⟨_, rfl, h⟩
      · wp_walk using wpAny_loadPart' hl, wpAny_pyIter_tuple hL
        exact ⟨_, rfl, h⟩
    · wp_walk using wpAny_loadPart' hl, wpAny_pyIter_tuple hL
      exact ⟨_, rfl, h⟩
theorem call_enumerate_tuple {prog : Program} {w : World} {A : Around} {E : Value → Shared → Prop} {s : Shared} {l : Addr} {items : Array Value} {Q : Value → Shared → Prop} (hL : s.heap.IsTuple l items)
    (h : ∀ h', IsEnum h' (s.heap.objs.size + 1) s.heap.objs.size 0 .none → h'.IsTupleIter s.heap.objs.size l 0 → h'.objs.size = s.heap.objs.size + 2 →
      (∀ b o, s.heap.get? b = some o → h'.get? b = some o) → Q (.ref (s.heap.objs.size + 1)) { s with heap := h' }) :
    wpAny (model prog w) A (call (.type "enumerate") [.ref l]) Q E s := by
  obtain ⟨⟨c, dct, dt, sl⟩, hl, hc, n, hd⟩ := hL
  replace hc : c = .type "tuple" := hc
  replace hd : dt = .seq items n := hd
  subst hc hd
  refine callType_new F.called_enumerate (by decide) (F.typeCall_enumerate_1 _) (F.newCall_enumerate_1 _) (fun obj => F.args_object_init_2 obj _) F.entry_enumerate_new
    (meets_enumerate_newT l items n dct sl) ⟨hl, ?_⟩
  have hz : (s.heap.push { cls := .type "tuple_iterator", data := .fields #[.ref l, .int 0 0] }).objs.size = s.heap.objs.size + 1 := Heap.size_push ..
  show _ ∧ _
  rw [hz]
  have he : IsEnum ((s.heap.push { cls := .type "tuple_iterator", data := .fields #[.ref l, .int 0 0] }).push
      { cls := .type "enumerate", data := .fields #[.none, .bool false, .ref s.heap.objs.size, rawInt 0, .none, .none] }) (s.heap.objs.size + 1) s.heap.objs.size 0 .none := by
    have := Heap.get?_push_size (s.heap.push { cls := .type "tuple_iterator", data := .fields #[.ref l, .int 0 0] })
      (o := { cls := .type "enumerate", data := .fields #[.none, .bool false, .ref s.heap.objs.size, rawInt 0, .none, .none] }) rfl
    rw [hz] at this; exact this
  refine ⟨⟨_, he, rfl⟩, h _ he ⟨_, Heap.get?_push_of_some _ (Heap.get?_push_size _ rfl), rfl, rfl⟩ (by rw [Heap.size_push, hz]) fun b o x => Heap.get?_push_of_some _ (Heap.get?_push_of_some _ x)⟩
end PySem
set_option Elab.async false
set_option linter.all false
set_option maxRecDepth 100000
namespace L2
open PySem PySem.Spec PyProof.Rows
def TrX (h base : Heap) (e T : Addr) (cls : Value) (dct : Option Addr) (fl : Value) : Prop :=
  ∃ oe vs oT ts, h.get? e = some oe ∧ oe.cls = cls ∧ oe.dict = dct ∧ oe.data = .fields vs ∧ vs[1]? = some (.ref T) ∧ base.get? T = none ∧ T ≠ e ∧ h.get? T = some oT ∧ oT.data = .fields ts ∧ ts[3]? = some fl
def KpX (l : List Env) (ch : List Addr) (h h' : Heap) : Prop := ∀ b o, h.get? b = some o → b ∉ ch → (b ∉ frs l → h'.get? b = some o) ∧ ∃ sl, h'.get? b = some { o with slots := sl }
theorem KpX.trans {l : List Env} {ch : List Addr} {h h1 h2 : Heap} (a : KpX l ch h h1) (b : KpX l ch h1 h2) : KpX l ch h h2 := fun c o q hc => by
  obtain ⟨k1, sl, k2⟩ := a c o q hc
  obtain ⟨k3, sl', k4⟩ := b c _ k2 hc
  refine ⟨fun hl => ?_, sl', k4⟩
  exact (b c o (k1 hl) hc).1 hl
theorem KpX.weak {l : List Env} {ch ch' : List Addr} {h h1 : Heap} (a : KpX l ch h h1) (s : ∀ b ∈ ch, b ∈ ch') : KpX l ch' h h1 := fun c o q hc => a c o q fun z => hc (s c z)
theorem KpX.of {l : List Env} {ch : List Addr} {h h1 : Heap} (a : ∀ b o, h.get? b = some o → b ∉ ch → h1.get? b = some o) : KpX l ch h h1 := fun c o q hc => ⟨fun _ => a c o q hc, o.slots, a c o q hc⟩
theorem dict_mapFields (f : Array Value → Array Value) (o : Obj) : (Obj.mapFields f o).dict = o.dict := by
  unfold Obj.mapFields; split <;> rfl
section
variable {M : Model} {A : Around} {E : Value → Shared → Prop} {s : Shared}
theorem entryX {base : Heap} {env : Env} {outer : List Env} {L e : Addr} {oe : Obj} {vs : Array Value} {head : Value} {hadNext : Bool} {Q : Unit → Shared → Prop}
    (hfr : A.frames = some (env :: outer)) (hl : s.heap.FunFrames base (env :: outer)) (hf : env.frame = some L)
    (he : s.heap.get? e = some oe) (hkb : base.StaysIn s.heap) (hen : base.get? e = none) (hd : oe.data = .fields vs) (hsz : 1 < vs.size)
    (h : ∀ h' T, s.heap.objs.size ≤ T → base.StaysIn h' → h'.FunFrames base (env :: outer) → TrX h' base e T oe.cls oe.dict (rawInt L) → KpX (env :: outer) [e] s.heap h' → s.heap.objs.size ≤ h'.objs.size → Q () { s with heap := h' }) :
    wpAny M A (do let a ← frameOf env; let pl ← entryPlaceOf L hadNext; let b ← EntryCells.newEntry head a .none (rawInt L) .none pl; setField (.ref e) 1 b) Q E s := by
  have hene : e ∉ (env :: outer).filterMap (·.frame) := fun hm => by
    obtain ⟨_, o, ho, hnf⟩ := hl.mem hm
    rw [he] at ho; injection ho with ho; subst ho; exact hnf vs hd
  refine wpAny_bind (wpAny_frameOf_fun hfr hl hf fun h₁ hs₁ => ?_)
  refine wpAny_bind (wpAny_entryPlaceOf fun pl hpl => ?_)
  unfold EntryCells.newEntry newFields
  refine wpAny_bind (wpAny_newObj_type ?_ (hpl.sizeOk5 _ _ _ _ _))
  have he₁ : h₁.get? e = some oe := (hs₁.2.1 e hene).trans he
  have kb₁ : base.StaysIn h₁ := fun b o hbo => (hs₁.2.1 b fun hm => by rw [(hl.mem hm).1] at hbo; cases hbo).trans (hkb b o hbo)
  have he₂ := Heap.get?_push_of_some (h := h₁) { cls := .type "traceback", dict := none, data := .fields ([head, .ref L, .none, rawInt L, .none] ++ (if pl.isEmpty then List.replicate 6 Value.none else pl)).toArray } he₁
  have hlow : s.heap.objs.size ≤ h₁.objs.size := Nat.le_of_eq hs₁.1.symm
  have hTe : h₁.objs.size ≠ e := Nat.ne_of_gt (Heap.lt_size he₁)
  have hd₃ := Obj.data_mapFields hd (·.setIfInBounds 1 (Value.ref h₁.objs.size))
  have he₃ := Heap.get?_update_self (Obj.mapFields (·.setIfInBounds 1 (Value.ref h₁.objs.size))) he₂ (Obj.isFreed_of_fields hd₃)
  have hT₃ := (Heap.get?_update_other (h₁.push { cls := .type "traceback", dict := none, data := .fields ([head, .ref L, .none, rawInt L, .none] ++ (if pl.isEmpty then List.replicate 6 Value.none else pl)).toArray })
    (Obj.mapFields (·.setIfInBounds 1 (Value.ref h₁.objs.size))) (Ne.symm hTe)).trans (Heap.get?_push_size h₁ rfl)
  have keep : ∀ b o, b ≠ e → h₁.get? b = some o →
      ((h₁.push { cls := .type "traceback", dict := none, data := .fields ([head, .ref L, .none, rawInt L, .none] ++ (if pl.isEmpty then List.replicate 6 Value.none else pl)).toArray }).update e (Obj.mapFields (·.setIfInBounds 1 (Value.ref h₁.objs.size)))).get? b = some o :=
    fun b o hbe hb => by
      rw [Heap.get?_update_other _ _ (Ne.symm hbe)]
      exact Heap.get?_push_of_some _ hb
  refine wpAny_setField he₂ hd hsz (h _ h₁.objs.size hlow ?_ ?_ ?_ ?_ ?_)
  · exact fun b o hbo => keep b o (fun q => by rw [q, hen] at hbo; cases hbo) (kb₁ b o hbo)
  · refine hl.of_keeps fun b o hb hnf => ?_
    obtain ⟨sl, hs⟩ := hs₁.2.2 b o hb
    have hbe : b ≠ e := fun q => by rw [q, he] at hb; injection hb with hb; subst hb; exact hnf vs hd
    exact ⟨_, keep b _ hbe hs, rfl⟩
  · exact ⟨_, _, _, _, he₃, Obj.cls_mapFields _ _, dict_mapFields _ _, hd₃, by simp [hsz], kb₁.fresh, hTe, hT₃, rfl, by first | (simp; done) | (rcases hpl with rfl | ⟨_, _, _, _, _, _, _, rfl⟩ <;> simp)⟩
  · intro b o hb hbe
    have hbe' : b ≠ e := fun z => hbe (by simp [z])
    obtain ⟨sl, hs⟩ := hs₁.2.2 b o hb
    exact ⟨fun hfr' => keep b o hbe' ((hs₁.2.1 b hfr').trans hb), sl, keep b _ hbe' hs⟩
  · rw [Heap.size_update, Heap.size_push]; exact Nat.le_succ_of_le hlow
theorem landX {base : Heap} {l : List Env} {e T : Addr} {cls : Value} {dct : Option Addr} {fl : Value} {Q : Unit → Shared → Prop}
    (hkb : base.StaysIn s.heap) (hl : s.heap.FunFrames base l) (ht : TrX s.heap base e T cls dct fl)
    (h : ∀ h', base.StaysIn h' → h'.FunFrames base l → TrX h' base e T cls dct .none → (∀ b o, s.heap.get? b = some o → b ∉ [T] → h'.get? b = some o) → h'.objs.size = s.heap.objs.size → Q () { s with heap := h' }) :
    wpAny M A (setFlight (.ref e) none) Q E s := by
  obtain ⟨oe, vs, oT, ts, he, hcls, hdct, hd, h1, hnT, hTe, hT, hdT, h3⟩ := ht
  have hsz3 : 3 < ts.size := (Array.getElem?_eq_some_iff.mp h3).1
  have other : ∀ b, b ≠ T → (s.heap.update T (Obj.mapFields (·.setIfInBounds 3 ((none : Option Addr).elim Value.none fun f => rawInt f)))).get? b = s.heap.get? b :=
    fun b hb => Heap.get?_update_other _ _ (Ne.symm hb)
  have noRecord : ∀ b o, s.heap.get? b = some o → (∀ vs, o.data ≠ .fields vs) → b ≠ T := fun b o hb hnf q => by
    rw [q, hT] at hb; injection hb with hb; subst hb; exact hnf ts hdT
  unfold setFlight
  refine wpAny_bind (wpAny_field he hd h1 ?_)
  rw [if_pos (show (Value.ref T != Value.none) = true from by simp)]
  refine wpAny_setField hT hdT hsz3 (h _ (fun b o hbo => (other b fun q => by rw [q, hnT] at hbo; cases hbo).trans (hkb b o hbo))
    (hl.of_keeps fun b o hb hnf => ⟨o, (other b (noRecord b o hb hnf)).trans hb, rfl⟩) ?_ (fun b o hb hnf => (other b (fun z => hnf (by simp [z]))).trans hb) (Heap.size_update ..))
  exact ⟨oe, vs, _, _, (other e (Ne.symm hTe)).trans he, hcls, hdct, hd, h1, hnT, hTe, Heap.get?_update_self _ hT (Obj.isFreed_of_fields (Obj.data_mapFields hdT _)), Obj.data_mapFields hdT _, by simp [hsz3]⟩
theorem noteX {base : Heap} {env : Env} {outer : List Env} {L e T : Addr} {cls : Value} {dct : Option Addr} {Q : Unit → Shared → Prop}
    (hfr : A.frames = some (env :: outer)) (hl : s.heap.FunFrames base (env :: outer)) (hf : env.frame = some L) (ht : TrX s.heap base e T cls dct .none) (hkb : base.StaysIn s.heap) (hen : base.get? e = none)
    (h : ∀ h' T', s.heap.objs.size ≤ T' → base.StaysIn h' → h'.FunFrames base (env :: outer) → TrX h' base e T' cls dct (rawInt L) → KpX (env :: outer) [e, T] s.heap h' → s.heap.objs.size ≤ h'.objs.size → Q () { s with heap := h' }) : wpAny M A (noteFrame (.ref e) env) Q E s := by
  obtain ⟨oe, vs, oT, ts, he, hcls, hdct, hd, h1, hnT, hTe, hT, hdT, h3⟩ := ht
  subst hcls hdct
  unfold noteFrame
  simp only [hf]
  refine wpAny_bind (wpAny_field he hd h1 ?_)
  rw [if_pos (show (Value.ref T != Value.none) = true from by simp)]
  refine wpAny_bind (wpAny_field hT hdT h3 ?_)
  rw [if_neg (show ¬ ((Value.none == rawInt L) = true) from by simp [rawInt])]
  refine wpAny_bind (wpAny_setField hT hdT (Array.getElem?_eq_some_iff.mp h3).1 ?_)
  have other : ∀ b, b ≠ T → (s.heap.update T (Obj.mapFields (·.setIfInBounds 3 Value.none))).get? b = s.heap.get? b := fun b hb => Heap.get?_update_other _ _ (Ne.symm hb)
  have noRecord : ∀ b o, s.heap.get? b = some o → (∀ vs, o.data ≠ .fields vs) → b ≠ T := fun b o hb hnf q => by
    rw [q, hT] at hb; injection hb with hb; subst hb; exact hnf ts hdT
  have hsz : (s.heap.update T (Obj.mapFields (·.setIfInBounds 3 Value.none))).objs.size = s.heap.objs.size := Heap.size_update ..
  refine entryX (s := { s with heap := s.heap.update T (Obj.mapFields (·.setIfInBounds 3 Value.none)) }) hfr (hl.of_keeps fun b o hb hnf => ⟨o, (other b (noRecord b o hb hnf)).trans hb, rfl⟩) hf ((other e (Ne.symm hTe)).trans he)
    (fun b o hbo => (other b fun q => by rw [q, hnT] at hbo; cases hbo).trans (hkb b o hbo)) hen hd (Array.getElem?_eq_some_iff.mp h1).1
    fun h' T' x0 x1 x2 x3 x4 x5 => h h' T' (by rw [← hsz]; exact x0) x1 x2 x3 (fun b o hb hc => ?_) (by rw [← hsz]; exact x5)
  have hbT : b ≠ T := fun z => hc (by simp [z])
  exact x4 b o ((other b hbT).trans hb) (fun z => hc (by simp at z; simp [z]))
theorem noteX_first {base : Heap} {env : Env} {outer : List Env} {L e : Addr} {oe : Obj} {vs : Array Value} {Q : Unit → Shared → Prop}
    (hfr : A.frames = some (env :: outer)) (hl : s.heap.FunFrames base (env :: outer)) (hf : env.frame = some L)
    (he : s.heap.get? e = some oe) (hkb : base.StaysIn s.heap) (hen : base.get? e = none) (hd : oe.data = .fields vs) (h1 : vs[1]? = some .none)
    (h : ∀ h' T', s.heap.objs.size ≤ T' → base.StaysIn h' → h'.FunFrames base (env :: outer) → TrX h' base e T' oe.cls oe.dict (rawInt L) → KpX (env :: outer) [e] s.heap h' → s.heap.objs.size ≤ h'.objs.size → Q () { s with heap := h' }) : wpAny M A (noteFrame (.ref e) env) Q E s := by
  unfold noteFrame
  simp only [hf]
  refine wpAny_bind (wpAny_field he hd h1 ?_)
  rw [if_neg (by decide)]
  exact entryX hfr hl hf he hkb hen hd (Array.getElem?_eq_some_iff.mp h1).1 h
theorem leaveX_first {base : Heap} {env : Env} {outer : List Env} {L e : Addr} {oe : Obj} {vs : Array Value} {Q : Unit → Shared → Prop}
    (hfr : A.frames = some (env :: outer)) (hl : s.heap.FunFrames base (env :: outer)) (hf : env.frame = some L)
    (he : s.heap.get? e = some oe) (hkb : base.StaysIn s.heap) (hen : base.get? e = none) (hd : oe.data = .fields vs) (h1 : vs[1]? = some .none)
    (h : ∀ h' T', s.heap.objs.size ≤ T' → base.StaysIn h' → h'.FunFrames base (env :: outer) → TrX h' base e T' oe.cls oe.dict .none → KpX (env :: outer) [e] s.heap h' → Q () { s with heap := h' }) : wpAny M A (leaving env (.ref e)) Q E s := by
  unfold leaving
  refine wpAny_bind (noteX_first hfr hl hf he hkb hen hd h1 fun h' T' x0 x1 x2 x3 x4 x5 => ?_)
  refine landX (s := { s with heap := h' }) x1 x2 x3 fun h2 y1 y2 y3 y4 y5 => h h2 T' x0 y1 y2 y3 (fun b o hb hc => ?_)
  obtain ⟨k1, sl, k2⟩ := x4 b o hb hc
  have hbT : b ∉ [T'] := fun z => by
    have e1 : b = T' := by simpa using z
    have e2 := Heap.lt_size hb
    rw [e1] at e2
    exact absurd (Nat.lt_of_lt_of_le e2 x0) (Nat.lt_irrefl _)
  exact ⟨fun hfr' => y4 b o (k1 hfr') hbT, sl, y4 b _ k2 hbT⟩
theorem leaveX {base : Heap} {env : Env} {outer : List Env} {L e T : Addr} {cls : Value} {dct : Option Addr} {Q : Unit → Shared → Prop}
    (hfr : A.frames = some (env :: outer)) (hl : s.heap.FunFrames base (env :: outer)) (hf : env.frame = some L) (ht : TrX s.heap base e T cls dct .none) (hkb : base.StaysIn s.heap) (hen : base.get? e = none)
    (h : ∀ h' T', s.heap.objs.size ≤ T' → base.StaysIn h' → h'.FunFrames base (env :: outer) → TrX h' base e T' cls dct .none → KpX (env :: outer) [e, T] s.heap h' → Q () { s with heap := h' }) : wpAny M A (leaving env (.ref e)) Q E s := by
  unfold leaving
  refine wpAny_bind (noteX hfr hl hf ht hkb hen fun h' T' x0 x1 x2 x3 x4 x5 => ?_)
  refine landX (s := { s with heap := h' }) x1 x2 x3 fun h2 y1 y2 y3 y4 y5 => h h2 T' x0 y1 y2 y3 (fun b o hb hc => ?_)
  obtain ⟨k1, sl, k2⟩ := x4 b o hb hc
  have hbT : b ∉ [T'] := fun z => by
    have e1 : b = T' := by simpa using z
    have e2 := Heap.lt_size hb
    rw [e1] at e2
    exact absurd (Nat.lt_of_lt_of_le e2 x0) (Nat.lt_irrefl _)
  exact ⟨fun hfr' => y4 b o (k1 hfr') hbT, sl, y4 b _ k2 hbT⟩
end
end L2
set_option Elab.async false
set_option linter.all false
set_option maxRecDepth 100000
namespace L2
open PySem PySem.Spec PyProof.Rows
inductive XD where
  | int (i : Int) | nums (is : List Int)
inductive Dat where
  | non | bl (b : Bool) | int (i : Int) | str (x : Str) | tup (xs : List Dat) | lst (xs : List Dat) | dct (kvs : List (Dat × Dat)) | exc (c : Str) (fs : List (Str × XD))
def clsAt (K : PySem.W.Frag) (c : Str) (C : Addr) : Prop := PySem.W.nsIn K mainGlobals c = some (some (.ref C))
def XIs (e C : Addr) (dct : Option Addr) (h : Heap) : Prop := ∃ o, h.get? e = some o ∧ o.cls = .ref C ∧ o.dict = dct ∧ ∀ c, o.data ≠ .cls c
def XDOk (K : PySem.W.Frag) (H : Hp) : XD → V → Prop
  | .int i, v => v = .int i
  | .nums is, v => ∃ a, v = .ref a ∧ SL K H a (is.map V.int) ∧ is.length ≤ sizeLine
def XFs (K : PySem.W.Frag) (H : Hp) : Option Addr → List (Str × XD) → Prop
  | none, fs => fs = []
  | some dx, fs => ∃ fvs, H dx = some (.xd fvs) ∧ ∀ f, (fs.lookup f = none ∧ fvs.lookup f = none) ∨ ∃ d v, fs.lookup f = some d ∧ fvs.lookup f = some v ∧ XDOk K H d v
def XRp (K : PySem.W.Frag) (H : Hp) (c : Str) (fs : List (Str × XD)) (v : V) : Prop := ∃ e C dct, v = .ref e ∧ H e = some (.ext (XIs e C dct)) ∧ clsAt K c C ∧ XFs K H dct fs
structure SOk (x : Str) : Prop where
  ok : PyData.strOk x = true
  le : x.length ≤ sizeLine
instance (x : Str) : Decidable (SOk x) := decidable_of_iff (PyData.strOk x = true ∧ x.length ≤ sizeLine) ⟨fun h => ⟨h.1, h.2⟩, fun h => ⟨h.ok, h.le⟩⟩
theorem SOk.of {x : Str} (h : PyData.strOk x = true) (h' : x.length ≤ sizeLine) : SOk x := ⟨h, h'⟩
mutual
def Rp (K : PySem.W.Frag) (H : Hp) : Dat → V → Prop
  | .non, v => v = .non
  | .bl b, v => v = .bl b
  | .int i, v => v = .int i
  | .str x, v => v = .str x ∧ SOk x
  | .tup ds, v => ds.length ≤ sizeLine ∧ ∃ a vs, v = .ref a ∧ SqT K H a vs ∧ Rps K H ds vs
  | .lst ds, v => ds.length ≤ sizeLine ∧ ∃ a vs, v = .ref a ∧ SL K H a vs ∧ Rps K H ds vs
  | .dct _, _ => False
  | .exc c fs, v => XRp K H c fs v
def Rps (K : PySem.W.Frag) (H : Hp) : List Dat → List V → Prop
  | [], vs => vs = []
  | d :: ds, vs => ∃ v r, vs = v :: r ∧ Rp K H d v ∧ Rps K H ds r
end
abbrev AS := Addr → Bool
def av (H : Hp) (A : AS) : Hp := fun a => if A a = true then none else H a
theorem av_at {H : Hp} {A : AS} {a : Addr} {o : HO} (h : H a = some o) (hA : A a = false) : av H A a = some o := by unfold av; rw [hA]; exact h
theorem av_of {H : Hp} {A : AS} {a : Addr} {o : HO} (h : av H A a = some o) : A a = false ∧ H a = some o := by
  unfold av at h
  split at h
  · cases h
  · rename_i q; exact ⟨by simpa using q, h⟩
theorem av_same {H : Hp} {A : AS} : Same (av H A) H := fun b o e => (av_of e).2
theorem av_mono {H H' : Hp} {A : AS} (h : Same H H') : Same (av H A) (av H' A) := fun b o e => av_at (h b o (av_of e).2) (av_of e).1
theorem av_less {H : Hp} {A B : AS} (h : ∀ a, B a = true → A a = true) : Same (av H A) (av H B) := fun b o e => by
  obtain ⟨h1, h2⟩ := av_of e
  refine av_at h2 ?_
  cases q : B b with
  | false => rfl
  | true => rw [h b q] at h1; cases h1
def no : AS := fun _ => false
theorem av_no {H : Hp} : av H no = H := by funext a; simp [av, no]
theorem Same.sl {K : PySem.W.Frag} {H H' : Hp} {a : Addr} {xs : List V} (e : Same H H') (h : SL K H a xs) : SL K H' a xs := by
  rcases h with (h | ⟨o, h⟩) | h
  · exact .inl (.inl (e _ _ h))
  · exact .inl (.inr ⟨o, e _ _ h⟩)
  · exact .inr h
theorem SL.sq {K : PySem.W.Frag} {H : Hp} {a : Addr} {xs : List V} (h : SL K H a xs) : SqL K H a xs := by
  rcases h with h | ⟨its, n, h1, h2, h3⟩
  · exact .inl h
  · refine .inr ⟨_, its.toArray, n, h1, rfl, rfl, rfl, ?_, by simpa using h3⟩
    have := h3.length
    simp only [List.size_toArray]; omega
theorem SL.get {X : Cx} {pins : List (Addr × Obj)} {σ : St} {H : Hp} {s : Shared} {a : Addr} {xs : List V} (h : SL X.K H a xs) (I : Inv X pins σ H s) :
    ∃ (its : List Value) (n : Nat), Vals xs its ∧ s.heap.get? a = some { cls := .type "list", data := .seq its.toArray n } ∧ xs.length ≤ sizeLine := by
  rcases h with h | ⟨its, n, h1, h2, h3⟩
  · obtain ⟨z, its, n, r, e⟩ := h.ok I.hok
    exact ⟨its, n, r, e, z⟩
  · exact ⟨its, n, h3, I.kIn _ _ h1, h2⟩
theorem XDOk.mono {K : PySem.W.Frag} {H H' : Hp} (e : Same H H') {d : XD} {v : V} (h : XDOk K H d v) : XDOk K H' d v := by
  cases d with
  | int i => exact h
  | nums is => obtain ⟨a, e1, e2, e3⟩ := h; exact ⟨a, e1, e.sl e2, e3⟩
theorem XFs.mono {K : PySem.W.Frag} {H H' : Hp} (e : Same H H') {dct : Option Addr} {fs : List (Str × XD)} (h : XFs K H dct fs) : XFs K H' dct fs := by
  cases dct with
  | none => exact h
  | some dx =>
    obtain ⟨fvs, e1, e2⟩ := h
    exact ⟨fvs, e _ _ e1, fun f => (e2 f).imp id fun ⟨d, v, a, b, c⟩ => ⟨d, v, a, b, c.mono e⟩⟩
theorem XRp.mono {K : PySem.W.Frag} {H H' : Hp} (e : Same H H') {c : Str} {fs : List (Str × XD)} {v : V} (h : XRp K H c fs v) : XRp K H' c fs v := by
  obtain ⟨x, C, dct, e1, e2, e3, e4⟩ := h
  exact ⟨x, C, dct, e1, e _ _ e2, e3, e4.mono e⟩
mutual
theorem Rp.mono {K : PySem.W.Frag} {H H' : Hp} (e : Same H H') : ∀ {d : Dat} {v : V}, Rp K H d v → Rp K H' d v
  | .non, v, h => by unfold Rp at h ⊢; exact h
  | .bl b, v, h => by unfold Rp at h ⊢; exact h
  | .int i, v, h => by unfold Rp at h ⊢; exact h
  | .str x, v, h => by unfold Rp at h ⊢; exact h
  | .dct _, v, h => by unfold Rp at h; exact h.elim
  | .exc _ _, v, h => by unfold Rp at h ⊢; exact XRp.mono e h
  | .tup ds, v, h => by
    unfold Rp at h ⊢
    obtain ⟨hz, a, vs, e1, e2, e3⟩ := h
    exact ⟨hz, a, vs, e1, e.seqT e2, Rps.mono e e3⟩
  | .lst ds, v, h => by
    unfold Rp at h ⊢
    obtain ⟨hz, a, vs, e1, e2, e3⟩ := h
    exact ⟨hz, a, vs, e1, e.sl e2, Rps.mono e e3⟩
theorem Rps.mono {K : PySem.W.Frag} {H H' : Hp} (e : Same H H') : ∀ {ds : List Dat} {vs : List V}, Rps K H ds vs → Rps K H' ds vs
  | [], vs, h => by unfold Rps at h ⊢; exact h
  | d :: ds, vs, h => by
    unfold Rps at h ⊢
    obtain ⟨v, r, e1, e2, e3⟩ := h
    exact ⟨v, r, e1, Rp.mono e e2, Rps.mono e e3⟩
end
section
variable {K : PySem.W.Frag} {H : Hp}
theorem rps_nil : Rps K H [] [] := by unfold Rps; rfl
theorem rps_cons {d : Dat} {ds : List Dat} {v : V} {vs : List V} (h : Rp K H d v) (t : Rps K H ds vs) : Rps K H (d :: ds) (v :: vs) := by unfold Rps; exact ⟨v, vs, rfl, h, t⟩
theorem rps_of_nil {vs : List V} (h : Rps K H [] vs) : vs = [] := by unfold Rps at h; exact h
theorem rps_of_cons {d : Dat} {ds : List Dat} {vs : List V} (h : Rps K H (d :: ds) vs) : ∃ v r, vs = v :: r ∧ Rp K H d v ∧ Rps K H ds r := by unfold Rps at h; exact h
theorem rps_len : ∀ {ds : List Dat} {vs : List V}, Rps K H ds vs → vs.length = ds.length
  | [], vs, h => by rw [rps_of_nil h]; rfl
  | d :: ds, vs, h => by
    obtain ⟨v, r, e1, e2, e3⟩ := rps_of_cons h
    rw [e1, List.length_cons, List.length_cons, rps_len e3]
theorem rps_get : ∀ {ds : List Dat} {vs : List V} {i : Nat} {d : Dat}, Rps K H ds vs → ds[i]? = some d → ∃ v, vs[i]? = some v ∧ Rp K H d v
  | [], vs, i, d, h, e => by simp at e
  | d' :: ds, vs, 0, d, h, e => by
    obtain ⟨v, r, e1, e2, e3⟩ := rps_of_cons h
    simp at e; subst e
    exact ⟨v, by rw [e1]; rfl, e2⟩
  | d' :: ds, vs, i + 1, d, h, e => by
    obtain ⟨v, r, e1, e2, e3⟩ := rps_of_cons h
    obtain ⟨v', h1, h2⟩ := rps_get (i := i) e3 (by simpa using e)
    exact ⟨v', by rw [e1]; simpa using h1, h2⟩
theorem rps_append : ∀ {ds es : List Dat} {vs us : List V}, Rps K H ds vs → Rps K H es us → Rps K H (ds ++ es) (vs ++ us)
  | [], es, vs, us, h, k => by rw [rps_of_nil h]; exact k
  | d :: ds, es, vs, us, h, k => by
    obtain ⟨v, r, e1, e2, e3⟩ := rps_of_cons h
    subst e1
    exact rps_cons e2 (rps_append e3 k)
theorem rps_take : ∀ (n : Nat) {ds : List Dat} {vs : List V}, Rps K H ds vs → Rps K H (ds.take n) (vs.take n)
  | 0, _, _, _ => by simp only [List.take_zero]; exact rps_nil
  | n + 1, [], vs, h => by rw [rps_of_nil h]; simp only [List.take_nil]; exact rps_nil
  | n + 1, d :: ds, vs, h => by
    obtain ⟨v, r, e1, e2, e3⟩ := rps_of_cons h
    subst e1
    exact rps_cons e2 (rps_take n e3)
theorem rps_drop : ∀ (n : Nat) {ds : List Dat} {vs : List V}, Rps K H ds vs → Rps K H (ds.drop n) (vs.drop n)
  | 0, _, _, h => h
  | n + 1, [], vs, h => by rw [rps_of_nil h]; simp only [List.drop_nil]; exact rps_nil
  | n + 1, d :: ds, vs, h => by
    obtain ⟨v, r, e1, e2, e3⟩ := rps_of_cons h
    subst e1
    exact rps_drop n e3
theorem rps_one {d : Dat} {v : V} (h : Rp K H d v) : Rps K H [d] [v] := rps_cons h rps_nil
theorem rps_ints : ∀ (ns : List Int), Rps K H (ns.map Dat.int) (ns.map V.int)
  | [] => rps_nil
  | n :: ns => rps_cons (by unfold Rp; rfl) (rps_ints ns)
theorem rp_non : Rp K H .non .non := by unfold Rp; rfl
theorem rp_bl {b : Bool} : Rp K H (.bl b) (.bl b) := by unfold Rp; rfl
theorem rp_int {i : Int} : Rp K H (.int i) (.int i) := by unfold Rp; rfl
theorem rp_str {x : Str} (h : SOk x) : Rp K H (.str x) (.str x) := by unfold Rp; exact ⟨rfl, h⟩
theorem rp_tup {a : Addr} {vs : List V} {ds : List Dat} (hz : ds.length ≤ sizeLine) (h : SqT K H a vs) (r : Rps K H ds vs) : Rp K H (.tup ds) (.ref a) := by unfold Rp; exact ⟨hz, a, vs, rfl, h, r⟩
theorem rp_lst {a : Addr} {vs : List V} {ds : List Dat} (hz : ds.length ≤ sizeLine) (h : SL K H a vs) (r : Rps K H ds vs) : Rp K H (.lst ds) (.ref a) := by unfold Rp; exact ⟨hz, a, vs, rfl, h, r⟩
theorem of_non {v : V} (h : Rp K H .non v) : v = .non := by unfold Rp at h; exact h
theorem of_bl {b : Bool} {v : V} (h : Rp K H (.bl b) v) : v = .bl b := by unfold Rp at h; exact h
theorem of_int {i : Int} {v : V} (h : Rp K H (.int i) v) : v = .int i := by unfold Rp at h; exact h
theorem of_str {x : Str} {v : V} (h : Rp K H (.str x) v) : v = .str x ∧ SOk x := by unfold Rp at h; exact h
theorem of_tup {ds : List Dat} {v : V} (h : Rp K H (.tup ds) v) : ∃ a vs, v = .ref a ∧ SqT K H a vs ∧ Rps K H ds vs := by unfold Rp at h; exact h.2
theorem len_tup {ds : List Dat} {v : V} (h : Rp K H (.tup ds) v) : ds.length ≤ sizeLine := by unfold Rp at h; exact h.1
theorem len_lst {ds : List Dat} {v : V} (h : Rp K H (.lst ds) v) : ds.length ≤ sizeLine := by unfold Rp at h; exact h.1
theorem of_lst {ds : List Dat} {v : V} (h : Rp K H (.lst ds) v) : ∃ a vs, v = .ref a ∧ SL K H a vs ∧ Rps K H ds vs := by unfold Rp at h; exact h.2
theorem of_dct {ds : List (Dat × Dat)} {v : V} (h : Rp K H (.dct ds) v) : False := by unfold Rp at h; exact h
theorem of_exc {c : Str} {ds : List (Str × XD)} {v : V} (h : Rp K H (.exc c ds) v) : XRp K H c ds v := by unfold Rp at h; exact h
end
def Pk (K : PySem.W.Frag) (A : AS) (H : Hp) (d : Dat) (v : V) : Prop :=
  Rp K (av H A) d v ∨ ∃ a vs ds, d = .lst ds ∧ v = .ref a ∧ ds.length ≤ sizeLine ∧ H a = some (.lst vs) ∧ Rps K (av H A) ds vs
section
variable {K : PySem.W.Frag} {A : AS} {H H' : Hp} {d : Dat} {v : V}
theorem Pk.mono (e : Same H H') (h : Pk K A H d v) : Pk K A H' d v := by
  rcases h with h | ⟨a, vs, ds, e1, e2, hz, e3, e4⟩
  · exact .inl (h.mono (av_mono e))
  · exact .inr ⟨a, vs, ds, e1, e2, hz, e _ _ e3, e4.mono (av_mono e)⟩
theorem Pk.rp (h : Pk K A H d v) : Rp K H d v := by
  rcases h with h | ⟨a, vs, ds, e1, e2, hz, e3, e4⟩
  · exact h.mono av_same
  · subst e1 e2; exact rp_lst hz (.inl (.inl e3)) (e4.mono av_same)
theorem Pk.lenL {ds : List Dat} (h : Pk K A H (.lst ds) v) : ds.length ≤ sizeLine := len_lst h.rp
theorem Pk.lenT {ds : List Dat} (h : Pk K A H (.tup ds) v) : ds.length ≤ sizeLine := len_tup h.rp
theorem Pk.non (h : Pk K A H .non v) : v = .non := of_non h.rp
theorem Pk.bl {b : Bool} (h : Pk K A H (.bl b) v) : v = .bl b := of_bl h.rp
theorem Pk.int {i : Int} (h : Pk K A H (.int i) v) : v = .int i := of_int h.rp
theorem Pk.str {x : Str} (h : Pk K A H (.str x) v) : v = .str x ∧ SOk x := of_str h.rp
theorem Pk.tup {ds : List Dat} (h : Pk K A H (.tup ds) v) : ∃ a vs, v = .ref a ∧ SqT K H a vs ∧ Rps K (av H A) ds vs := by
  rcases h with h | ⟨a, vs, ds, e1, e2, e3, e4⟩
  · obtain ⟨a, vs, e1, e2, e3⟩ := of_tup h
    exact ⟨a, vs, e1, av_same.seqT e2, e3⟩
  · cases e1
theorem Pk.lst {ds : List Dat} (h : Pk K A H (.lst ds) v) : ∃ a vs, v = .ref a ∧ SL K H a vs ∧ Rps K (av H A) ds vs := by
  rcases h with h | ⟨a, vs, ds', e1, e2, hz, e3, e4⟩
  · obtain ⟨a, vs, e1, e2, e3⟩ := of_lst h
    exact ⟨a, vs, e1, av_same.sl e2, e3⟩
  · cases e1; exact ⟨a, vs, e2, .inl (.inl e3), e4⟩
end
mutual
def eqD : Dat → Dat → Bool
  | .non, .non => true
  | .bl a, .bl b => a == b
  | .bl a, .int j => (if a then 1 else 0) == j
  | .int i, .bl b => i == (if b then 1 else 0)
  | .int i, .int j => i == j
  | .str x, .str y => x == y
  | .lst xs, .lst ys => eqDs xs ys
  | .tup xs, .tup ys => eqDs xs ys
  | _, _ => false
def eqDs : List Dat → List Dat → Bool
  | [], [] => true
  | x :: xs, y :: ys => eqD x y && eqDs xs ys
  | _, _ => false
end
def pd : Nat → Dat → Bool
  | 0, .lst _ => false
  | 0, .tup _ => false
  | n + 1, .lst xs => xs.all (pd n)
  | n + 1, .tup xs => xs.all (pd n)
  | _, .dct _ => false
  | _, .exc _ _ => false
  | _, .non => true
  | _, .bl _ => true
  | _, .int _ => true
  | _, .str _ => true
mutual
def toP : Dat → PyData
  | .non => .none
  | .bl b => .bool b
  | .int i => .int i
  | .str x => .str x
  | .tup xs => .tuple (toPs xs)
  | .lst xs => .list (toPs xs)
  | .dct _ => .none
  | .exc _ _ => .none
def toPs : List Dat → List PyData
  | [] => []
  | x :: xs => toP x :: toPs xs
end
theorem pd_lst {n : Nat} {xs : List Dat} (h : pd n (.lst xs) = true) : ∃ m, n = m + 1 ∧ ∀ x ∈ xs, pd m x = true := by
  cases n with
  | zero => cases h
  | succ n => exact ⟨n, rfl, by simpa [pd] using h⟩
theorem pd_tup {n : Nat} {xs : List Dat} (h : pd n (.tup xs) = true) : ∃ m, n = m + 1 ∧ ∀ x ∈ xs, pd m x = true := by
  cases n with
  | zero => cases h
  | succ n => exact ⟨n, rfl, by simpa [pd] using h⟩
theorem pd_dct {n : Nat} {xs} (h : pd n (.dct xs) = true) : False := by cases n <;> cases h
theorem pd_exc {n : Nat} {c xs} (h : pd n (.exc c xs) = true) : False := by cases n <;> cases h
mutual
theorem eqv_toP : ∀ {n m : Nat} (x y : Dat), pd n x = true → pd m y = true → PyData.eqv (toP x) (toP y) = eqD x y
  | n, m, .dct _, y, h, _ => (pd_dct h).elim
  | n, m, .exc _ _, y, h, _ => (pd_exc h).elim
  | n, m, x, .dct _, _, h => (pd_dct h).elim
  | n, m, x, .exc _ _, _, h => (pd_exc h).elim
  | n, m, .non, .non, _, _ => rfl
  | n, m, .non, .bl _, _, _ => rfl
  | n, m, .non, .int _, _, _ => rfl
  | n, m, .non, .str _, _, _ => rfl
  | n, m, .non, .tup _, _, _ => rfl
  | n, m, .non, .lst _, _, _ => rfl
  | n, m, .bl _, .non, _, _ => rfl
  | n, m, .bl _, .bl _, _, _ => rfl
  | n, m, .bl _, .int _, _, _ => rfl
  | n, m, .bl _, .str _, _, _ => rfl
  | n, m, .bl _, .tup _, _, _ => rfl
  | n, m, .bl _, .lst _, _, _ => rfl
  | n, m, .int _, .non, _, _ => rfl
  | n, m, .int _, .bl _, _, _ => rfl
  | n, m, .int _, .int _, _, _ => rfl
  | n, m, .int _, .str _, _, _ => rfl
  | n, m, .int _, .tup _, _, _ => rfl
  | n, m, .int _, .lst _, _, _ => rfl
  | n, m, .str _, .non, _, _ => rfl
  | n, m, .str _, .bl _, _, _ => rfl
  | n, m, .str _, .int _, _, _ => rfl
  | n, m, .str _, .str _, _, _ => rfl
  | n, m, .str _, .tup _, _, _ => rfl
  | n, m, .str _, .lst _, _, _ => rfl
  | n, m, .lst _, .non, _, _ => rfl
  | n, m, .lst _, .bl _, _, _ => rfl
  | n, m, .lst _, .int _, _, _ => rfl
  | n, m, .lst _, .str _, _, _ => rfl
  | n, m, .lst _, .tup _, _, _ => rfl
  | n, m, .lst xs, .lst ys, h, k => by
    obtain ⟨n', _, hx⟩ := pd_lst h
    obtain ⟨m', _, hy⟩ := pd_lst k
    simp only [toP, PyData.eqv, eqD]
    exact eqvs_toP xs ys hx hy
  | n, m, .tup _, .non, _, _ => rfl
  | n, m, .tup _, .bl _, _, _ => rfl
  | n, m, .tup _, .int _, _, _ => rfl
  | n, m, .tup _, .str _, _, _ => rfl
  | n, m, .tup _, .lst _, _, _ => rfl
  | n, m, .tup xs, .tup ys, h, k => by
    obtain ⟨n', _, hx⟩ := pd_tup h
    obtain ⟨m', _, hy⟩ := pd_tup k
    simp only [toP, PyData.eqv, eqD]
    exact eqvs_toP xs ys hx hy
theorem eqvs_toP : ∀ {n m : Nat} (xs ys : List Dat), (∀ x ∈ xs, pd n x = true) → (∀ y ∈ ys, pd m y = true) → PyData.eqvAll (toPs xs) (toPs ys) = eqDs xs ys
  | n, m, [], [], _, _ => rfl
  | n, m, [], _ :: _, _, _ => rfl
  | n, m, _ :: _, [], _, _ => rfl
  | n, m, x :: xs, y :: ys, hx, hy => by
    simp only [toPs, PyData.eqvAll, eqDs]
    rw [eqv_toP (n := n) (m := m) x y (hx x List.mem_cons_self) (hy y List.mem_cons_self), eqvs_toP (n := n) (m := m) xs ys (fun z hz => hx z (List.mem_cons_of_mem _ hz)) (fun z hz => hy z (List.mem_cons_of_mem _ hz))]
end
mutual
theorem depth_toP : ∀ (n : Nat) (x : Dat), pd n x = true → (toP x).depth ≤ n
  | n, .dct _, h => (pd_dct h).elim
  | n, .exc _ _, h => (pd_exc h).elim
  | n, .non, _ => Nat.zero_le _
  | n, .bl _, _ => Nat.zero_le _
  | n, .int _, _ => Nat.zero_le _
  | n, .str _, _ => Nat.zero_le _
  | n, .lst xs, h => by
    obtain ⟨m, e, hx⟩ := pd_lst h
    subst e
    simp only [toP, PyData.depth]
    exact Nat.succ_le_succ (depths_toP m xs hx)
  | n, .tup xs, h => by
    obtain ⟨m, e, hx⟩ := pd_tup h
    subst e
    simp only [toP, PyData.depth]
    exact Nat.succ_le_succ (depths_toP m xs hx)
theorem depths_toP : ∀ (n : Nat) (xs : List Dat), (∀ x ∈ xs, pd n x = true) → PyData.depthAll (toPs xs) ≤ n
  | n, [], _ => Nat.zero_le _
  | n, x :: xs, h => by
    simp only [toPs, PyData.depthAll]
    exact Nat.max_le.mpr ⟨depth_toP n x (h x List.mem_cons_self), depths_toP n xs fun z hz => h z (List.mem_cons_of_mem _ hz)⟩
end
section
variable {X : Cx} {pins : List (Addr × Obj)} {σ : St} {H : Hp} {s : Shared}
mutual
theorem Rp.reads (I : Inv X pins σ H s) : ∀ {n : Nat} (d : Dat) (v : V) (u : Value), pd n d = true → Rp X.K H d v → RelV v u → ∃ as, Reads s.heap u (toP d) as ∧ (toP d).canLay0 = true
  | n, .dct _, v, u, h, _, _ => (pd_dct h).elim
  | n, .exc _ _, v, u, h, _, _ => (pd_exc h).elim
  | n, .non, v, u, _, i, r => by cases of_non i; cases r; exact ⟨_, .none, rfl⟩
  | n, .bl b, v, u, _, i, r => by cases of_bl i; cases r; exact ⟨_, .bool b, rfl⟩
  | n, .int k, v, u, _, i, r => by cases of_int i; obtain ⟨t, rfl⟩ := r; exact ⟨_, .int k t, rfl⟩
  | n, .str x, v, u, _, i, r => by
    obtain ⟨e, hs⟩ := of_str i
    subst e; obtain ⟨t, rfl⟩ := r
    exact ⟨_, .str x t, hs.ok⟩
  | n, .tup ds, v, u, h, i, r => by
    obtain ⟨m, _, hx⟩ := pd_tup h
    obtain ⟨a, vs, e1, e2, e3⟩ := of_tup i
    subst e1; cases r
    obtain ⟨its, rv, ⟨o, ho, hc, k, hd⟩, _⟩ := I.tuple e2
    obtain ⟨as, ra, hl⟩ := Rps.reads I ds vs its hx e3 rv
    exact ⟨_, .tuple ho hc hd (by simpa using ra), hl⟩
  | n, .lst ds, v, u, h, i, r => by
    obtain ⟨m, _, hx⟩ := pd_lst h
    obtain ⟨a, vs, e1, e2, e3⟩ := of_lst i
    subst e1; cases r
    obtain ⟨its, rv, ⟨o, k, ho, hc, _, hd⟩, _⟩ := I.list e2.sq
    obtain ⟨as, ra, hl⟩ := Rps.reads I ds vs its hx e3 rv
    exact ⟨_, .list ho hc hd (by simpa using ra), hl⟩
theorem Rps.reads (I : Inv X pins σ H s) : ∀ {n : Nat} (ds : List Dat) (vs : List V) (us : List Value), (∀ x ∈ ds, pd n x = true) → Rps X.K H ds vs → Vals vs us → ∃ as, ReadsAll s.heap us (toPs ds) as ∧ PyData.canLayAll0 (toPs ds) = true
  | n, [], vs, us, _, i, r => by
    rw [rps_of_nil i] at r; cases r; exact ⟨_, .nil, rfl⟩
  | n, d :: ds, vs, us, h, i, r => by
    obtain ⟨v, rr, e1, e2, e3⟩ := rps_of_cons i
    subst e1
    cases r with
    | cons r1 r2 =>
      obtain ⟨as, h1, l1⟩ := Rp.reads I d v _ (h d List.mem_cons_self) e2 r1
      obtain ⟨bs, h2, l2⟩ := Rps.reads I ds rr _ (fun z hz => h z (List.mem_cons_of_mem _ hz)) e3 r2
      exact ⟨_, .cons h1 h2, by simp only [toPs, PyData.canLayAll0, l1, l2]; rfl⟩
end
theorem Rp.eqAt (I : Inv X pins σ H s) {A : Around} {n m : Nat} {d e : Dat} {v w : V} {u u' : Value} (hd : pd n d = true) (he : pd m e = true) (hn : n ≤ 60) (hu : A.units + 60 < cLine) (r1 : Rp X.K H d v) (r2 : Rp X.K H e w) (q1 : RelV v u) (q2 : RelV w u') :
    SeqAt.EqAt A s u u' (eqD d e) := by
  obtain ⟨as, a1, a2⟩ := Rp.reads I d v u hd r1 q1
  obtain ⟨bs, b1, b2⟩ := Rp.reads I e w u' he r2 q2
  rw [← eqv_toP d e hd he]
  have := depth_toP n d hd
  exact SeqAt.eqAt_reads _ _ A s u u' as bs a1 b1 a2 b2 (by omega)
end
end L2
set_option Elab.async false
set_option linter.all false
set_option maxRecDepth 100000
namespace L2
open PySem PySem.Spec PyProof.Rows
def Mtb : Option HO → Prop
  | some (.lst _) => True
  | some (.dK _) => True
  | some (.dT _) => True
  | _ => False
def MuOk (A : AS) (H : Hp) : Prop := ∀ a, A a = true → Mtb (H a)
theorem MuOk.new {A : AS} {H : Hp} (m : MuOk A H) {p : Addr} (h : H p = none) : A p = false := by
  cases q : A p with
  | false => rfl
  | true => have := m p q; rw [h] at this; exact this.elim
theorem MuOk.mono {A : AS} {H H' : Hp} (m : MuOk A H) (e : Same H H') : MuOk A H' := fun a h => by
  have := m a h
  cases q : H a with
  | none => rw [q] at this; exact this.elim
  | some o => rw [q] at this; rw [e a o q]; exact this
def ins (A : AS) (p : Addr) : AS := fun a => A a || a == p
theorem ins_self {A : AS} {p : Addr} : ins A p p = true := by simp [ins]
theorem ins_of {A : AS} {p a : Addr} (h : A a = true) : ins A p a = true := by simp [ins, h]
theorem ins_or {A : AS} {p a : Addr} (h : ins A p a = true) : A a = true ∨ a = p := by simpa [ins] using h
theorem ins_ff {A : AS} {p a : Addr} (h : A a = false) (hn : a ≠ p) : ins A p a = false := by simp [ins, h, hn]
structure Step (A : AS) (H : Hp) (A' : AS) (H' : Hp) : Prop where
  keep : ∀ a o, H a = some o → A a = false → H' a = some o
  sub : ∀ a, A' a = true → A a = true ∨ H a = none
theorem Step.refl (A : AS) (H : Hp) : Step A H A H := ⟨fun _ _ h _ => h, fun _ h => .inl h⟩
theorem Step.same {A : AS} {H H' : Hp} (e : Same H H') : Step A H A H' := ⟨fun a o h _ => e a o h, fun _ h => .inl h⟩
theorem Step.trans {A A1 A2 : AS} {H H1 H2 : Hp} (a : Step A H A1 H1) (b : Step A1 H1 A2 H2) : Step A H A2 H2 where
  keep := fun c o h hA => b.keep c o (a.keep c o h hA) (by
    cases q : A1 c with
    | false => rfl
    | true =>
      rcases a.sub c q with z | z
      · rw [z] at hA; cases hA
      · rw [z] at h; cases h)
  sub := fun c h => by
    rcases b.sub c h with z | z
    · exact a.sub c z
    · cases qA : A c with
      | true => exact .inl rfl
      | false =>
        cases q : H c with
        | none => exact .inr rfl
        | some o => rw [a.keep c o q qA] at z; cases z
theorem Step.av {A A' : AS} {H H' : Hp} (s : Step A H A' H') : Same (av H A) (av H' A') := fun b o e => by
  obtain ⟨h1, h2⟩ := av_of e
  refine av_at (s.keep b o h2 h1) ?_
  cases q : A' b with
  | false => rfl
  | true =>
    rcases s.sub b q with z | z
    · rw [z] at h1; cases h1
    · rw [z] at h2; cases h2
inductive Slt where
  | un | fz (d : Dat) | pk (d : Dat) | ow (ds : List Dat)
abbrev Ev := List Slt
def SlotOk (K : PySem.W.Frag) (A : AS) (H : Hp) (o : Addr → Prop) : Slt → Option V → Prop
  | .un, _ => True
  | .fz d, x => ∃ v, x = some v ∧ Rp K (av H A) d v
  | .pk d, x => ∃ v, x = some v ∧ Pk K A H d v
  | .ow ds, x => ∃ a vs, x = some (.ref a) ∧ o a ∧ ds.length ≤ sizeLine ∧ H a = some (.lst vs) ∧ Rps K (av H A) ds vs
structure Bs where
  H₀ : Hp
  R : AS
  st : Bool
structure EnvOk (K : PySem.W.Frag) (B : Bs) (A : AS) (H : Hp) (σ : St) (env : Ev) : Prop where
  h0 : Same B.H₀ H
  r0 : ∀ a, B.R a = true → ∃ o, B.H₀ a = some o
  ra : ∀ a, B.R a = true → A a = true
  ar : ∀ a, A a = true → B.R a = true ∨ B.H₀ a = none
  mu : MuOk A H
  len : σ.length = env.length
  np : B.st = true → ∀ (i : Nat) d, env[i]? ≠ some (.pk d)
  sl : ∃ own : Nat → Addr → Prop, (∀ i j a, own i a → own j a → i = j) ∧ (∀ i a, own i a → A a = true ∧ B.R a = false) ∧
    ∀ (i : Nat) s, env[i]? = some s → ∃ x, σ[i]? = some x ∧ SlotOk K A H (own i) s x
theorem SlotOk.mono {K : PySem.W.Frag} {A : AS} {H H' : Hp} (e : Same H H') {o : Addr → Prop} {s : Slt} {x : Option V} (h : SlotOk K A H o s x) : SlotOk K A H' o s x := by
  cases s with
  | un => trivial
  | fz d => obtain ⟨v, e1, e2⟩ := h; exact ⟨v, e1, e2.mono (av_mono e)⟩
  | pk d => obtain ⟨v, e1, e2⟩ := h; exact ⟨v, e1, e2.mono e⟩
  | ow ds => obtain ⟨a, vs, e1, e2, hz, e3, e4⟩ := h; exact ⟨a, vs, e1, e2, hz, e _ _ e3, e4.mono (av_mono e)⟩
theorem EnvOk.mono {K : PySem.W.Frag} {B : Bs} {A : AS} {H H' : Hp} {σ : St} {env : Ev} (k : EnvOk K B A H σ env) (e : Same H H') : EnvOk K B A H' σ env := by
  obtain ⟨own, h1, h2, h4⟩ := k.sl
  exact ⟨k.h0.trans e, k.r0, k.ra, k.ar, k.mu.mono e, k.len, k.np, own, h1, h2, fun i s q => let ⟨x, q2, q3⟩ := h4 i s q; ⟨x, q2, q3.mono e⟩⟩
def Rm (m : Bool) (K : PySem.W.Frag) (A : AS) (H : Hp) (d : Dat) (v : V) : Prop := match m with
  | true => Pk K A H d v
  | false => Rp K (av H A) d v
theorem Rm.any {m : Bool} {K : PySem.W.Frag} {A : AS} {H : Hp} {d : Dat} {v : V} (h : Rp K (av H A) d v) : Rm m K A H d v := by
  cases m with
  | true => exact .inl h
  | false => exact h
theorem Rm.pk {m : Bool} {K : PySem.W.Frag} {A : AS} {H : Hp} {d : Dat} {v : V} (h : Rm m K A H d v) : Pk K A H d v := by
  cases m with
  | true => exact h
  | false => exact .inl h
theorem Rm.mono {m : Bool} {K : PySem.W.Frag} {A : AS} {H H' : Hp} (e : Same H H') {d : Dat} {v : V} (h : Rm m K A H d v) : Rm m K A H' d v := by
  cases m with
  | true => exact Pk.mono e h
  | false => exact Rp.mono (av_mono e) h
def Rms (m : Bool) (K : PySem.W.Frag) (A : AS) (H : Hp) : List Dat → List V → Prop
  | [], vs => vs = []
  | d :: ds, vs => ∃ v r, vs = v :: r ∧ Rm m K A H d v ∧ Rms m K A H ds r
theorem Rms.mono {m : Bool} {K : PySem.W.Frag} {A : AS} {H H' : Hp} (e : Same H H') : ∀ {ds : List Dat} {vs : List V}, Rms m K A H ds vs → Rms m K A H' ds vs
  | [], _, h => h
  | _ :: _, _, ⟨v, r, e1, e2, e3⟩ => ⟨v, r, e1, e2.mono e, Rms.mono e e3⟩
theorem Rms.rps {K : PySem.W.Frag} {A : AS} {H : Hp} : ∀ {ds : List Dat} {vs : List V}, Rms false K A H ds vs → Rps K (av H A) ds vs
  | [], vs, h => by rw [show vs = [] from h]; exact rps_nil
  | _ :: _, _, ⟨v, r, e1, e2, e3⟩ => by rw [e1]; exact rps_cons e2 (Rms.rps e3)
theorem Rms.one {m : Bool} {K : PySem.W.Frag} {A : AS} {H : Hp} {d : Dat} {vs : List V} (h : Rms m K A H [d] vs) : ∃ v, vs = [v] ∧ Pk K A H d v := by
  obtain ⟨v, r, e1, e2, e3⟩ := h
  exact ⟨v, by rw [e1, show r = [] from e3], e2.pk⟩
theorem Rms.two {m : Bool} {K : PySem.W.Frag} {A : AS} {H : Hp} {d d' : Dat} {vs : List V} (h : Rms m K A H [d, d'] vs) : ∃ v v', vs = [v, v'] ∧ Pk K A H d v ∧ Pk K A H d' v' := by
  obtain ⟨v, r, e1, e2, v', r', e3, e4, e5⟩ := h
  exact ⟨v, v', by rw [e1, e3, show r' = [] from e5], e2.pk, e4.pk⟩
def RegC (m : Bool) (K : PySem.W.Frag) (A : AS) (H : Hp) (d : Dat) (Q : VK) : Prop := ∀ v H', Same H H' → Rm m K A H' d v → Q v H'
def NewC (K : PySem.W.Frag) (A : AS) (H : Hp) (ds : List Dat) (Q : VK) : Prop := ∀ p vs H', ds.length ≤ sizeLine → Same H H' → H p = none → H' p = some (.lst vs) → Rps K (av H' (ins A p)) ds vs → Q (.ref p) H'
section
variable {m : Bool} {K : PySem.W.Frag} {A : AS} {H H' : Hp} {d : Dat} {ds : List Dat} {Q : VK}
theorem RegC.mono (h : RegC m K A H d Q) (e : Same H H') : RegC m K A H' d Q := fun v H2 e2 r => h v H2 (e.trans e2) r
theorem NewC.mono (h : NewC K A H ds Q) (e : Same H H') : NewC K A H' ds Q := fun p vs H2 hz e2 hn hp r => h p vs H2 hz (e.trans e2) (e.free hn) hp r
theorem RegC.any (h : RegC m K A H d Q) : RegC false K A H d Q := fun v H' e r => h v H' e (Rm.any r)
theorem RegC.here {v : V} (h : RegC m K A H d Q) (r : Rp K (av H A) d v) : Q v H := h v H (Same.refl H) (Rm.any r)
theorem RegC.new (h : RegC m K A H (.lst ds) Q) (mu : MuOk A H) : NewC K A H ds Q := fun p vs H' hz e hn hp r => by
  refine h _ H' e (Rm.any (rp_lst hz (.inl (.inl (av_at hp (mu.new hn)))) (r.mono (av_less fun a q => ins_of q))))
theorem NewC.at {vs : List V} (h : NewC K A H ds Q) (hz : ds.length ≤ sizeLine) (r : Rps K (av H A) ds vs) : ∀ p, H p = none → Q (.ref p) (upd H p (.lst vs)) := fun p hp => by
  refine h p vs _ hz (Same.new hp) hp upd_same (r.mono fun b o e => ?_)
  obtain ⟨h1, h2⟩ := av_of e
  have hb : b ≠ p := ne_of_none h2 hp
  exact av_at (by rw [upd_ne hb]; exact h2) (ins_ff h1 hb)
theorem RegC.tup {vs : List V} (h : RegC m K A H (.tup ds) Q) (mu : MuOk A H) (hz : ds.length ≤ sizeLine) (r : Rps K (av H A) ds vs) : ∀ p, H p = none → Q (.ref p) (upd H p (.tup vs)) := fun p hp => by
  refine h _ _ (Same.new hp) (Rm.any (rp_tup hz (.inl (.inl (av_at upd_same (mu.new hp)))) (r.mono (av_mono (Same.new hp)))))
end
def PXd (m : Bool) (X : Cx) (e : Expr) (f : Ev → Option Dat) : Prop := PE X e fun σ H Q => ∃ env R A d, EnvOk X.K R A H σ env ∧ f env = some d ∧ RegC m X.K A H d Q
def PNd (X : Cx) (e : Expr) (f : Ev → Option (List Dat)) : Prop := PE X e fun σ H Q => ∃ env R A ds, EnvOk X.K R A H σ env ∧ f env = some ds ∧ NewC X.K A H ds Q
def PAd (m : Bool) (X : Cx) (es : List Expr) (f : Ev → Option (List Dat)) : Prop := PA X es fun σ H Q => ∃ env R A ds, EnvOk X.K R A H σ env ∧ f env = some ds ∧ ∀ vs H', Same H H' → Rms m X.K A H' ds vs → Q vs H'
def PTd (X : Cx) (e : Expr) (f : Ev → Option Bool) : Prop := PT X e fun σ H Q => ∃ env R A b, EnvOk X.K R A H σ env ∧ f env = some b ∧ ∀ H', Same H H' → Q b H'
def PWd (X : Cx) (e : Expr) (f : Ev → Option Bool) : Prop := PW X e fun σ H Q => ∃ env R A b, EnvOk X.K R A H σ env ∧ f env = some b ∧ ∀ H', Same H H' → Q b H'
theorem PE.weak {X : Cx} {e : Expr} {t t' : TE} (h : PE X e t) (w : ∀ σ H Q, t' σ H Q → t σ H Q) : PE X e t' := fun pins s σ H Q I q => h pins s σ H Q I (w σ H Q q)
theorem PT.weak {X : Cx} {e : Expr} {t t' : TT} (h : PT X e t) (w : ∀ σ H Q, t' σ H Q → t σ H Q) : PT X e t' := fun pins s σ H Q I q => h pins s σ H Q I (w σ H Q q)
theorem PW.weak {X : Cx} {e : Expr} {t t' : TT} (h : PW X e t) (w : ∀ σ H Q, t' σ H Q → t σ H Q) : PW X e t' := fun wh pins s σ H Q I q => h wh pins s σ H Q I (w σ H Q q)
theorem PA.weak {X : Cx} {e : List Expr} {t t' : TA} (h : PA X e t) (w : ∀ σ H Q, t' σ H Q → t σ H Q) : PA X e t' := fun pos pins s σ H Q I q => h pos pins s σ H Q I (w σ H Q q)
theorem PS.weak {X : Cx} {e : Stmt} {t t' : TS} (h : PS X e t) (w : ∀ D σ H, t' D σ H → t D σ H) : PS X e t' := fun pins s σ H D I q => h pins s σ H D I (w D σ H q)
theorem PSs.weak {X : Cx} {e : List Stmt} {t t' : TS} (h : PSs X e t) (w : ∀ D σ H, t' D σ H → t D σ H) : PSs X e t' := fun pins s σ H D I q => h pins s σ H D I (w D σ H q)
section
variable {m : Bool} {X : Cx} {e : Expr} {f : Ev → Option Dat}
theorem PXd.any (h : PXd false X e f) : PXd m X e f := h.weak fun _ _ _ ⟨env, R, A, d, k, q1, q2⟩ => ⟨env, R, A, d, k, q1, q2.any⟩
def dL (g : Ev → Option (List Dat)) : Ev → Option Dat := fun env => (g env).map .lst
theorem PNd.x {g : Ev → Option (List Dat)} (h : PNd X e g) : PXd m X e (dL g) := h.weak fun _ _ _ ⟨env, R, A, d, k, q1, q2⟩ => by
  unfold dL at q1
  cases q : g env with
  | none => rw [q] at q1; cases q1
  | some ds =>
    rw [q] at q1
    cases q1
    exact ⟨env, R, A, ds, k, q, q2.new k.mu⟩
theorem bind_some {α β : Type} {a : Option α} {g : α → Option β} {b : β} (h : a.bind g = some b) : ∃ x, a = some x ∧ g x = some b := by
  cases a with
  | none => cases h
  | some x => exact ⟨x, rfl, h⟩
def dV (i : Nat) : Ev → Option Dat := fun env => match env[i]? with
  | some (.fz d) => some d
  | _ => none
def dP (i : Nat) : Ev → Option Dat := fun env => match env[i]? with
  | some (.fz d) => some d
  | some (.pk d) => some d
  | some (.ow ds) => some (.lst ds)
  | _ => none
theorem EnvOk.fz {R : Bs} {A : AS} {H : Hp} {σ : St} {env : Ev} {i : Nat} {d : Dat} (k : EnvOk X.K R A H σ env) (h : env[i]? = some (.fz d)) : ∃ v, σ[i]? = some (some v) ∧ Rp X.K (av H A) d v := by
  obtain ⟨own, h1, h2, h4⟩ := k.sl
  obtain ⟨x, q2, v, e1, e2⟩ := h4 i _ h
  subst e1
  exact ⟨v, q2, e2⟩
theorem EnvOk.look {R : Bs} {A : AS} {H : Hp} {σ : St} {env : Ev} {i : Nat} {d : Dat} (k : EnvOk X.K R A H σ env) (h : dP i env = some d) : ∃ v, σ[i]? = some (some v) ∧ Pk X.K A H d v := by
  obtain ⟨own, h1, h2, h4⟩ := k.sl
  unfold dP at h
  split at h
  · rename_i z e
    cases h
    obtain ⟨x, q2, v, e1, e2⟩ := h4 i _ e
    subst e1
    exact ⟨v, q2, .inl e2⟩
  · rename_i z e
    cases h
    obtain ⟨x, q2, v, e1, e2⟩ := h4 i _ e
    subst e1
    exact ⟨v, q2, e2⟩
  · rename_i z e
    cases h
    obtain ⟨x, q2, a, vs, e1, e2, hz, e3, e4⟩ := h4 i _ e
    subst e1
    exact ⟨.ref a, q2, .inr ⟨a, vs, z, rfl, rfl, hz, e3, e4⟩⟩
  · cases h
theorem xv (i : Nat) {x : Str} {pos : Pos} (hN : X.N[i]? = some x := by rfl) (hv : Vis X.env.scope x := by first | exact Or.inl rfl | exact Or.inr (Or.inl rfl) | exact Or.inr (Or.inr rfl)) (hd : (x == ("__debug__" : Str)) = false := by decide)
    (hcd : (x == ("__classdict__" : Str)) = false := by decide) : PXd m X (.Name x pos) (dV i) := PXd.any ((pe_var hN hv hd hcd).weak fun σ H Q ⟨env, R, A, d, k, q1, q2⟩ => by
  unfold dV at q1
  split at q1
  · rename_i z e
    cases q1
    obtain ⟨v, h1, h2⟩ := k.fz e
    exact ⟨v, h1, q2.here h2⟩
  · cases q1)
theorem xo (i : Nat) {x : Str} {pos : Pos} (hN : X.N[i]? = some x := by rfl) (hv : Vis X.env.scope x := by first | exact Or.inl rfl | exact Or.inr (Or.inl rfl) | exact Or.inr (Or.inr rfl)) (hd : (x == ("__debug__" : Str)) = false := by decide)
    (hcd : (x == ("__classdict__" : Str)) = false := by decide) : PXd true X (.Name x pos) (dP i) := (pe_var hN hv hd hcd).weak fun σ H Q ⟨env, R, A, d, k, q1, q2⟩ => by
  obtain ⟨v, h1, h2⟩ := k.look q1
  exact ⟨v, h1, q2 v H (Same.refl H) h2⟩
def dC (d : Dat) : Ev → Option Dat := fun _ => some d
theorem xint {i : Int} {j pos} : PXd m X (.Constant (.int i) j pos) (dC (.int i)) := PXd.any (pe_int.weak fun _ _ _ ⟨_, _, _, _, _, q1, q2⟩ => by cases q1; exact q2.here rp_int)
theorem xbl {b : Bool} {j pos} : PXd m X (.Constant (.bool b) j pos) (dC (.bl b)) := PXd.any (pe_bl.weak fun _ _ _ ⟨_, _, _, _, _, q1, q2⟩ => by cases q1; exact q2.here rp_bl)
theorem xnon {j pos} : PXd m X (.Constant .none j pos) (dC .non) := PXd.any (pe_non.weak fun _ _ _ ⟨_, _, _, _, _, q1, q2⟩ => by cases q1; exact q2.here rp_non)
theorem xstr {x : Str} {j pos} (h : SOk x := by decide +kernel) : PXd m X (.Constant (.str x) j pos) (dC (.str x)) := PXd.any (pe_str.weak fun _ _ _ ⟨_, _, _, _, _, q1, q2⟩ => by cases q1; exact q2.here (rp_str h))
theorem xglob {x : Str} {v : V} {u : Value} {d : Dat} {pos : Pos} (hg : Gl X x) (hm : X.mg x = some u) (r : RelV v u) (hr : ∀ H, Rp X.K H d v) (hd : (x == ("__debug__" : Str)) = false := by decide) : PXd m X (.Name x pos) (dC d) :=
  PXd.any ((pe_glob hg hm r hd).weak fun _ _ _ ⟨_, _, _, _, _, q1, q2⟩ => by cases q1; exact q2.here (hr _))
end
def rD (K : PySem.W.Frag) (F : Dat → Dat → Option Dat) : R2 := fun v u H Q => ∃ A x y d, MuOk A H ∧ F x y = some d ∧ Pk K A H x v ∧ Pk K A H y u ∧ RegC false K A H d Q
def rN (K : PySem.W.Frag) (F : Dat → Dat → Option (List Dat)) : R2 := fun v u H Q => ∃ A x y ds, MuOk A H ∧ F x y = some ds ∧ Pk K A H x v ∧ Pk K A H y u ∧ NewC K A H ds Q
def OpD (X : Cx) (f : Value → Value → Sem Value) (F : Dat → Dat → Option Dat) : Prop := OpR X f (rD X.K F)
def OpN (X : Cx) (f : Value → Value → Sem Value) (F : Dat → Dat → Option (List Dat)) : Prop := OpR X f (rN X.K F)
theorem OpR.weak {X : Cx} {f : Value → Value → Sem Value} {r r' : R2} (h : OpR X f r) (w : ∀ x y H Q, r' x y H Q → r x y H Q) : OpR X f r' := fun pins s σ H x y v u Q I rx ry q => h pins s σ H x y v u Q I rx ry (w _ _ _ _ q)
theorem OpN.d {X : Cx} {f : Value → Value → Sem Value} {F : Dat → Dat → Option (List Dat)} (h : OpN X f F) : OpD X f (fun x y => (F x y).map .lst) := OpR.weak h fun v u H Q ⟨A, x, y, d, mu, e, p1, p2, q⟩ => by
  dsimp only at e
  cases z : F x y with
  | none => rw [z] at e; cases e
  | some ds => rw [z] at e; cases e; exact ⟨A, x, y, ds, mu, z, p1, p2, q.new mu⟩
def dO (F : Dat → Dat → Option α) (f g : Ev → Option Dat) : Ev → Option α := fun env => (f env).bind fun x => (g env).bind fun y => F x y
section
variable {m m1 m2 : Bool} {X : Cx} {a b : Expr} {f g : Ev → Option Dat} {F : Dat → Dat → Option Dat} {G : Dat → Dat → Option (List Dat)} {pos : Pos}
theorem two {r : R2} {σ : St} {H : Hp} {Q : VK} {env : Ev} {R : Bs} {A : AS} {x y : Dat} (k : EnvOk X.K R A H σ env) (e1 : f env = some x) (e2 : g env = some y)
    (h : ∀ v u H2, Same H H2 → Pk X.K A H2 x v → Pk X.K A H2 y u → MuOk A H2 → r v u H2 Q) :
    tOp r (fun σ H Q => ∃ env R A d, EnvOk X.K R A H σ env ∧ f env = some d ∧ RegC m1 X.K A H d Q) (fun σ H Q => ∃ env R A d, EnvOk X.K R A H σ env ∧ g env = some d ∧ RegC m2 X.K A H d Q) σ H Q :=
  ⟨env, R, A, x, k, e1, fun v H1 s1 p1 => ⟨env, R, A, y, k.mono s1, e2, fun u H2 s2 p2 => h v u H2 (s1.trans s2) (p1.pk.mono s2) p2.pk (k.mu.mono (s1.trans s2))⟩⟩
theorem dO_some {α : Type} {F : Dat → Dat → Option α} {env : Ev} {d : α} (h : dO F f g env = some d) : ∃ x y, f env = some x ∧ g env = some y ∧ F x y = some d := by
  obtain ⟨x, e1, h⟩ := bind_some h
  obtain ⟨y, e2, h⟩ := bind_some h
  exact ⟨x, y, e1, e2, h⟩
theorem xop {op : Operator} (ho : OpD X (binaryOp op) F) (ha : PXd m1 X a f) (hb : PXd m2 X b g) : PXd m X (.BinOp a op b pos) (dO F f g) := PXd.any ((pe_op ho ha hb).weak fun σ H Q ⟨env, R, A, d, k, q1, q2⟩ => by
  obtain ⟨x, y, e1, e2, e3⟩ := dO_some q1
  exact two k e1 e2 fun v u H2 s p1 p2 mu => ⟨A, x, y, d, mu, e3, p1, p2, q2.mono s⟩)
theorem xcmp {op : CmpOp} (ho : OpD X (compareOp op) F) (ha : PXd m1 X a f) (hb : PXd m2 X b g) (hm : behindInMarks op b = false) : PXd m X (.Compare a [op] [b] pos) (dO F f g) := PXd.any ((pe_cmpR ho ha hb hm).weak fun σ H Q ⟨env, R, A, d, k, q1, q2⟩ => by
  obtain ⟨x, y, e1, e2, e3⟩ := dO_some q1
  exact two k e1 e2 fun v u H2 s p1 p2 mu => ⟨A, x, y, d, mu, e3, p1, p2, q2.mono s⟩)
def dB (f : Ev → Option Dat) : Ev → Option Bool := fun env => match f env with
  | some (.bl b) => some b
  | _ => none
theorem dB_some {env : Ev} {b : Bool} (h : dB f env = some b) : f env = some (.bl b) := by
  unfold dB at h
  split at h
  · rename_i z e; cases h; exact e
  · cases h
theorem tcmp {op : CmpOp} (ho : OpD X (compareOp op) F) (ha : PXd m1 X a f) (hb : PXd m2 X b g) (hm : behindInMarks op b = false) : PTd X (.Compare a [op] [b] pos) (dB (dO F f g)) := (pt_cmpR ho ha hb hm).weak fun σ H Q ⟨env, R, A, d, k, q1, q2⟩ => by
  obtain ⟨x, y, e1, e2, e3⟩ := dO_some (dB_some q1)
  show tOp (rD X.K F) _ _ σ H (fun x H' => ∃ k, x = .bl k ∧ Q k H')
  exact two k e1 e2 fun v u H2 s p1 p2 mu => ⟨A, x, y, .bl d, mu, e3, p1, p2, fun v H' s' r => ⟨d, r.pk.bl, q2 H' (s.trans s')⟩⟩
theorem xix (ho : IxR X (rD X.K F)) (ha : PXd m1 X a f) (hb : PXd m2 X b g) (hs : PlainIx b) : PXd m X (.Subscript a b pos) (dO F f g) := PXd.any ((pe_ix ho ha hb hs).weak fun σ H Q ⟨env, R, A, d, k, q1, q2⟩ => by
  obtain ⟨x, y, e1, e2, e3⟩ := dO_some q1
  exact two k e1 e2 fun v u H2 s p1 p2 mu => ⟨A, x, y, d, mu, e3, p1, p2, q2.mono s⟩)
end
section
variable {m m1 m2 : Bool} {X : Cx} {a b c : Expr} {rest : List Expr} {f g h : Ev → Option Dat} {t u : Ev → Option Bool} {pos : Pos}
def tAndD (t u : Ev → Option Bool) : Ev → Option Bool := fun env => (t env).bind fun b => if b = true then u env else some false
def tOrD (t u : Ev → Option Bool) : Ev → Option Bool := fun env => (t env).bind fun b => if b = true then some true else u env
def tNotD (t : Ev → Option Bool) : Ev → Option Bool := fun env => (t env).map (!·)
theorem w_and1 (ha : PTd X a t) : PWd X (.BoolOp .And [a] pos) t := pw_and1 ha
theorem w_or1 (ha : PTd X a t) : PWd X (.BoolOp .Or [a] pos) t := pw_or1 ha
theorem w_and (ha : PTd X a t) (hb : PWd X (.BoolOp .And (b :: rest) pos) u) : PWd X (.BoolOp .And (a :: b :: rest) pos) (tAndD t u) := (pw_and ha hb).weak fun σ H Q ⟨env, R, A, d, k, q1, q2⟩ => by
  obtain ⟨x, e1, e2⟩ := bind_some q1
  refine ⟨env, R, A, x, k, e1, fun H1 s1 => ?_⟩
  cases x with
  | true =>
    rw [if_pos rfl] at e2 ⊢
    exact ⟨env, R, A, d, k.mono s1, e2, fun H2 s2 => q2 H2 (s1.trans s2)⟩
  | false =>
    rw [if_neg Bool.false_ne_true] at e2 ⊢
    cases e2
    exact q2 H1 s1
theorem w_or (ha : PTd X a t) (hb : PWd X (.BoolOp .Or (b :: rest) pos) u) : PWd X (.BoolOp .Or (a :: b :: rest) pos) (tOrD t u) := (pw_or ha hb).weak fun σ H Q ⟨env, R, A, d, k, q1, q2⟩ => by
  obtain ⟨x, e1, e2⟩ := bind_some q1
  refine ⟨env, R, A, x, k, e1, fun H1 s1 => ?_⟩
  cases x with
  | true =>
    rw [if_pos rfl] at e2 ⊢
    cases e2
    exact q2 H1 s1
  | false =>
    rw [if_neg Bool.false_ne_true] at e2 ⊢
    exact ⟨env, R, A, d, k.mono s1, e2, fun H2 s2 => q2 H2 (s1.trans s2)⟩
theorem PWd.pt {e : Expr} (h : PWd X e t) : PTd X e t := PW.pt h
theorem tnot (ha : PTd X a t) : PTd X (.UnaryOp .Not a pos) (tNotD t) := (pt_not ha).weak fun σ H Q ⟨env, R, A, d, k, q1, q2⟩ => by
  unfold tNotD at q1
  cases e : t env with
  | none => rw [e] at q1; cases q1
  | some x =>
    rw [e] at q1
    cases q1
    exact ⟨env, R, A, x, k, e, fun H1 s1 => q2 H1 s1⟩
def dAnd (f g : Ev → Option Dat) : Ev → Option Dat := fun env => (dB f env).bind fun b => if b = true then g env else some (.bl false)
def dNot (f : Ev → Option Dat) : Ev → Option Dat := fun env => (dB f env).map fun b => .bl (!b)
theorem xone {op} (ha : PXd m X a f) : PXd m X (.BoolOp op [a] pos) f := pe_one ha
theorem xand (ha : PXd m1 X a f) (hb : PXd false X (.BoolOp .And (b :: rest) pos) g) : PXd m X (.BoolOp .And (a :: b :: rest) pos) (dAnd f g) := PXd.any ((pe_and ha hb).weak fun σ H Q ⟨env, R, A, d, k, q1, q2⟩ => by
  obtain ⟨x, e1, e2⟩ := bind_some q1
  refine ⟨env, R, A, .bl x, k, dB_some e1, fun v H1 s1 p1 => ⟨x, p1.pk.bl, ?_⟩⟩
  cases x with
  | true =>
    rw [if_pos rfl] at e2 ⊢
    exact ⟨env, R, A, d, k.mono s1, e2, q2.mono s1⟩
  | false =>
    rw [if_neg Bool.false_ne_true] at e2 ⊢
    cases e2
    exact (q2.mono s1).here rp_bl)
theorem xnot (ha : PXd m1 X a f) : PXd m X (.UnaryOp .Not a pos) (dNot f) := PXd.any ((pe_not ha).weak fun σ H Q ⟨env, R, A, d, k, q1, q2⟩ => by
  unfold dNot at q1
  cases e : dB f env with
  | none => rw [e] at q1; cases q1
  | some x =>
    rw [e] at q1
    cases q1
    exact ⟨env, R, A, .bl x, k, dB_some e, fun v H1 s1 p1 => ⟨x, p1.pk.bl, (q2.mono s1).here rp_bl⟩⟩)
def truD : Dat → Option Bool
  | .non => some false
  | .bl b => some b
  | .int i => some (i != 0)
  | .str y => some ((y.length : Int) != 0)
  | .lst xs => some (!xs.isEmpty)
  | .tup xs => some (!xs.isEmpty)
  | _ => none
def dT (f : Ev → Option Dat) : Ev → Option Bool := fun env => (f env).bind truD
theorem rps_isEmpty {K : PySem.W.Frag} {H : Hp} {ds : List Dat} {vs : List V} (r : Rps K H ds vs) : vs.isEmpty = ds.isEmpty := by
  cases ds with
  | nil => rw [rps_of_nil r]; rfl
  | cons d ds => obtain ⟨v, r', e, _⟩ := rps_of_cons r; rw [e]; rfl
theorem tval (ha : PXd true X a f) (he : ∀ whole, isTrue a X.env whole = (do let v ← whole; standAt a.pos; holding [v] (truthy v)) := by intro _; rfl) : PTd X a (dT f) := (pt_truth ha he).weak fun σ H Q ⟨env, R, A, b, k, q1, q2⟩ => by
  obtain ⟨x, e1, e2⟩ := bind_some q1
  refine ⟨env, R, A, x, k, e1, fun v H1 s1 p1 => ⟨b, ?_, q2 H1 s1⟩⟩
  have p : Pk X.K A H1 x v := p1
  cases x with
  | non => cases e2; rw [p.non]; rfl
  | bl b' => cases e2; rw [p.bl]; rfl
  | int i => cases e2; rw [p.int]; rfl
  | str y => cases e2; obtain ⟨e, h⟩ := p.str; rw [e]; exact ⟨h.le, rfl⟩
  | lst xs => cases e2; obtain ⟨a', vs, e, h1, h2⟩ := p.lst; rw [e]; exact .inl ⟨vs, h1.sq, by rw [rps_isEmpty h2]⟩
  | tup xs => cases e2; obtain ⟨a', vs, e, h1, h2⟩ := p.tup; rw [e]; exact .inr (.inl ⟨vs, h1, by rw [rps_isEmpty h2]⟩)
  | dct _ => cases e2
  | exc _ _ => cases e2
end
section
variable {m : Bool} {X : Cx} {e : Expr} {es : List Expr} {f : Ev → Option Dat} {fs : Ev → Option (List Dat)} {pos : Pos}
def aNil : Ev → Option (List Dat) := fun _ => some []
def aCons (f : Ev → Option Dat) (fs : Ev → Option (List Dat)) : Ev → Option (List Dat) := fun env => (f env).bind fun d => (fs env).map fun ds => d :: ds
theorem a_nil : PAd m X [] aNil := pa_nil.weak fun σ H Q ⟨env, R, A, ds, k, q1, q2⟩ => by cases q1; exact q2 [] H (Same.refl H) rfl
theorem a_cons (ha : PXd m X e f) (hr : PAd m X es fs) (hs : starEach (e :: es) X.env = (false, eval e X.env) :: starEach es X.env := by rfl) : PAd m X (e :: es) (aCons f fs) := (pa_cons ha hr hs).weak fun σ H Q ⟨env, R, A, ds, k, q1, q2⟩ => by
  obtain ⟨d, e1, e2⟩ := bind_some q1
  cases e3 : fs env with
  | none => rw [e3] at e2; cases e2
  | some r =>
    rw [e3] at e2
    cases e2
    exact ⟨env, R, A, d, k, e1, fun v H1 s1 p1 => ⟨env, R, A, r, k.mono s1, e3, fun vs H2 s2 p2 => q2 (v :: vs) H2 (s1.trans s2) ⟨v, vs, rfl, p1.mono s2, p2⟩⟩⟩
def aTup (fs : Ev → Option (List Dat)) : Ev → Option Dat := fun env => (fs env).bind fun ds => if ds.length ≤ 1000 then some (.tup ds) else none
def aLst (fs : Ev → Option (List Dat)) : Ev → Option (List Dat) := fun env => (fs env).bind fun ds => if ds.length ≤ 1000 then some ds else none
theorem xtup {x1} (h : PAd false X es fs) : PXd m X (.Tuple es x1 pos) (aTup fs) := PXd.any ((pe_tup h).weak fun σ H Q ⟨env, R, A, d, k, q1, q2⟩ => by
  obtain ⟨ds, e1, e2⟩ := bind_some q1
  split at e2
  · rename_i hz
    cases e2
    have hz' : ds.length ≤ sizeLine := Nat.le_of_lt (small1000 hz)
    refine ⟨env, R, A, ds, k, e1, fun vs H1 s1 p1 => ⟨?_, (q2.mono s1).tup (k.mu.mono s1) hz' p1.rps⟩⟩
    rw [rps_len p1.rps]; exact hz'
  · cases e2)
theorem nlst (h : PAd false X es fs) : PNd X (.List es pos) (aLst fs) := (pe_lst h).weak fun σ H Q ⟨env, R, A, d, k, q1, q2⟩ => by
  obtain ⟨ds, e1, e2⟩ := bind_some q1
  split at e2
  · rename_i hz
    cases e2
    have hz' : d.length ≤ sizeLine := Nat.le_of_lt (small1000 hz)
    refine ⟨env, R, A, d, k, e1, fun vs H1 s1 p1 => ⟨?_, (q2.mono s1).at hz' p1.rps⟩⟩
    rw [rps_len p1.rps]; exact hz'
  · cases e2
def CallD (X : Cx) (f : Value) (F : List Dat → Option Dat) : Prop := CallR X f (fun vs H Q => ∃ A ds d, MuOk A H ∧ F ds = some d ∧ Rms true X.K A H ds vs ∧ RegC false X.K A H d Q)
def CallN (X : Cx) (f : Value) (F : List Dat → Option (List Dat)) : Prop := CallR X f (fun vs H Q => ∃ A ds d, MuOk A H ∧ F ds = some d ∧ Rms true X.K A H ds vs ∧ NewC X.K A H d Q)
theorem CallR.weak {f : Value} {r r' : List V → Hp → VK → Prop} (h : CallR X f r) (w : ∀ xs H Q, r' xs H Q → r xs H Q) : CallR X f r' := fun pins s σ H xs us Q I rv q => h pins s σ H xs us Q I rv (w _ _ _ q)
theorem CallN.d {f : Value} {F : List Dat → Option (List Dat)} (h : CallN X f F) : CallD X f (fun ds => (F ds).map .lst) := CallR.weak h fun vs H Q ⟨A, ds, d, mu, e1, p, q⟩ => by
  dsimp only at e1
  cases e : F ds with
  | none => rw [e] at e1; cases e1
  | some r => rw [e] at e1; cases e1; exact ⟨A, ds, r, mu, e, p, q.new mu⟩
def dF (F : List Dat → Option α) (fs : Ev → Option (List Dat)) : Ev → Option α := fun env => (fs env).bind F
variable {x : Str} {p : Pos} {id T : String} {F : List Dat → Option Dat} {G : List Dat → Option (List Dat)}
theorem xcallB (hc : CallD X (.builtin id) F) (hg : Gl X x) (hm : X.mg x = none) (hv : bootBuiltins x = some (.builtin id)) (ha : PAd true X (e :: es) fs) (hn : x ≠ "__name__" := by decide) (hdb : (x == ("__debug__" : Str)) = false := by decide)
    (he : starEach (e :: es) X.env = (false, eval e X.env) :: starEach es X.env := by rfl) (hpl : (backTo pos (starEach es X.env)).any (·.1) = false := by rfl) : PXd m X (.Call (.Name x p) (e :: es) [] pos) (dF F fs) :=
  PXd.any ((pe_callB hc hg hm hv ha hn hdb he hpl).weak fun σ H Q ⟨env, R, A, d, k, q1, q2⟩ => by
    obtain ⟨ds, e1, e2⟩ := bind_some q1
    exact ⟨env, R, A, ds, k, e1, fun vs H1 s1 p1 => ⟨A, ds, d, k.mu.mono s1, e2, p1, q2.mono s1⟩⟩)
theorem xcallT (hc : CallD X (.type T) F) (hg : Gl X x) (hm : X.mg x = none) (hv : bootBuiltins x = some (.type T)) (ha : PAd true X (e :: es) fs) (hn : x ≠ "__name__" := by decide) (hdb : (x == ("__debug__" : Str)) = false := by decide)
    (he : starEach (e :: es) X.env = (false, eval e X.env) :: starEach es X.env := by rfl) (hpl : (backTo pos (starEach es X.env)).any (·.1) = false := by rfl) : PXd m X (.Call (.Name x p) (e :: es) [] pos) (dF F fs) :=
  PXd.any ((pe_callTy hc hg hm hv ha hn hdb he hpl).weak fun σ H Q ⟨env, R, A, d, k, q1, q2⟩ => by
    obtain ⟨ds, e1, e2⟩ := bind_some q1
    exact ⟨env, R, A, ds, k, e1, fun vs H1 s1 p1 => ⟨A, ds, d, k.mu.mono s1, e2, p1, q2.mono s1⟩⟩)
theorem ncallB (hc : CallN X (.builtin id) G) (hg : Gl X x) (hm : X.mg x = none) (hv : bootBuiltins x = some (.builtin id)) (ha : PAd true X (e :: es) fs) (hn : x ≠ "__name__" := by decide) (hdb : (x == ("__debug__" : Str)) = false := by decide)
    (he : starEach (e :: es) X.env = (false, eval e X.env) :: starEach es X.env := by rfl) (hpl : (backTo pos (starEach es X.env)).any (·.1) = false := by rfl) : PNd X (.Call (.Name x p) (e :: es) [] pos) (dF G fs) :=
  (pe_callB hc hg hm hv ha hn hdb he hpl).weak fun σ H Q ⟨env, R, A, d, k, q1, q2⟩ => by
    obtain ⟨ds, e1, e2⟩ := bind_some q1
    exact ⟨env, R, A, ds, k, e1, fun vs H1 s1 p1 => ⟨A, ds, d, k.mu.mono s1, e2, p1, q2.mono s1⟩⟩
end
section
variable {m m1 : Bool} {X : Cx} {o e : Expr} {es : List Expr} {f : Ev → Option Dat} {fs : Ev → Option (List Dat)} {pos apos cpos : Pos} {name : Str} {T id : String} {α : Type}
def tyOk (T : String) : Dat → Bool
  | .str _ => T == "str"
  | .int _ => T == "int"
  | .lst _ => T == "list"
  | _ => false
theorem tyOk_v {K : PySem.W.Frag} {A : AS} {H : Hp} {d : Dat} {v : V} (h : tyOk T d = true) (p : Pk K A H d v) : tyV K T v H := by
  cases d with
  | str x => rw [p.str.1]; show T = "str"; simpa [tyOk] using h
  | int x => rw [p.int]; show T = "int"; simpa [tyOk] using h
  | lst x => obtain ⟨a, vs, e, h1, h2⟩ := p.lst; rw [e]; exact .inl ⟨by simpa [tyOk] using h, vs, h1.sq⟩
  | _ => cases h
def MtD (X : Cx) (id : String) (F : Dat → List Dat → Option Dat) : Prop := MtR X id (fun v vs H Q => ∃ A x ds d, MuOk A H ∧ F x ds = some d ∧ Pk X.K A H x v ∧ Rms true X.K A H ds vs ∧ RegC false X.K A H d Q)
def dM (T : String) (F : Dat → List Dat → Option α) (f : Ev → Option Dat) (fs : Ev → Option (List Dat)) : Ev → Option α := fun env => (f env).bind fun x => if tyOk T x = true then (fs env).bind fun ds => F x ds else none
theorem dM_some {F : Dat → List Dat → Option α} {env : Ev} {d : α} (h : dM T F f fs env = some d) : ∃ x ds, f env = some x ∧ tyOk T x = true ∧ fs env = some ds ∧ F x ds = some d := by
  obtain ⟨x, e1, h⟩ := bind_some h
  split at h
  · rename_i ht
    obtain ⟨ds, e2, h⟩ := bind_some h
    exact ⟨x, ds, e1, ht, e2, h⟩
  · cases h
theorem MtR.weak {r r' : V → List V → Hp → VK → Prop} (h : MtR X id r) (w : ∀ x xs H Q, r' x xs H Q → r x xs H Q) : MtR X id r' := fun pins s σ H x xs v us Q I rx rv q => h pins s σ H x xs v us Q I rx rv (w _ _ _ _ q)
variable {F : Dat → List Dat → Option Dat} {G : Dat → List Dat → Option (List Dat)}
theorem xbm (pa : PlainAttrs T) (slot : Slot T name id) (hty : typeOf (.builtin id) = pure (.type "method_descriptor")) (hm : MtD X id F) (ho : PXd m1 X o f) (ha : PAd true X (e :: es) fs)
    (hbase : attributeBase o name X.env (eval o X.env) = eval o X.env := by rfl)
    (hfew : ((backTo cpos (starEach (e :: es) X.env)).all (fun x => !x.1) && (backToKw cpos (keywordEach [] X.env)).all (fun x => x.1.isSome)
      && decide ((e :: es).length + ([] : List Keyword).length + (if ([] : List Keyword).isEmpty then 0 else 1) < 30)) = true := by rfl)
    (hline : (apos.endLine == cpos.line) = true := by rfl) (hs : starEach (e :: es) X.env = (false, eval e X.env) :: starEach es X.env := by rfl) (hplain : (backTo cpos (starEach es X.env)).any (·.1) = false := by rfl) :
    PXd m X (.Call (.Attribute o name apos) (e :: es) [] cpos) (dM T F f fs) := PXd.any ((pe_bm pa slot hty hm ho ha hbase hfew hline hs hplain).weak fun σ H Q ⟨env, R, A, d, k, q1, q2⟩ => by
  obtain ⟨x, ds, e1, ht, e2, e3⟩ := dM_some q1
  exact ⟨env, R, A, x, k, e1, fun v H1 s1 p1 => ⟨tyOk_v ht p1.pk, env, R, A, ds, k.mono s1, e2, fun vs H2 s2 p2 => ⟨A, x, ds, d, k.mu.mono (s1.trans s2), e3, p1.pk.mono s2, p2, q2.mono (s1.trans s2)⟩⟩⟩)
def POd (X : Cx) (e : Option Expr) (f : Ev → Option (Option Int)) : Prop := PO X e fun σ H Q => ∃ env R A i, EnvOk X.K R A H σ env ∧ f env = some i ∧ ∀ H', Same H H' → Q i H'
def oNone : Ev → Option (Option Int) := fun _ => some none
def oSome (f : Ev → Option Dat) : Ev → Option (Option Int) := fun env => match f env with
  | some (.int i) => some (some i)
  | _ => none
theorem PO.weak {e : Option Expr} {t t' : TO} (h : PO X e t) (w : ∀ σ H Q, t' σ H Q → t σ H Q) : PO X e t' := fun pins s σ H Q I q => h pins s σ H Q I (w σ H Q q)
theorem o_none : POd X none oNone := po_none.weak fun σ H Q ⟨env, R, A, i, k, q1, q2⟩ => by cases q1; exact q2 H (Same.refl H)
theorem o_some (h : PXd m X e f) : POd X (some e) (oSome f) := (po_some h).weak fun σ H Q ⟨env, R, A, i, k, q1, q2⟩ => by
  unfold oSome at q1
  split at q1
  · rename_i n e1
    cases q1
    exact ⟨env, R, A, _, k, e1, fun v H1 s1 p1 => ⟨n, p1.pk.int, q2 H1 s1⟩⟩
  · cases q1
def SlD (X : Cx) (F : Dat → Option Int → Option Int → Option Dat) : Prop := SlR X (fun v lo hi H Q => ∃ A x d, MuOk A H ∧ F x lo hi = some d ∧ Pk X.K A H x v ∧ RegC false X.K A H d Q)
def dS (F : Dat → Option Int → Option Int → Option α) (f : Ev → Option Dat) (g h : Ev → Option (Option Int)) : Ev → Option α := fun env => (f env).bind fun x => (g env).bind fun l => (h env).bind fun u => F x l u
variable {lo hi : Option Expr} {gl gh : Ev → Option (Option Int)} {p2 : Pos}
theorem dS_some {F : Dat → Option Int → Option Int → Option α} {env : Ev} {d : α} (h : dS F f gl gh env = some d) : ∃ x l u, f env = some x ∧ gl env = some l ∧ gh env = some u ∧ F x l u = some d := by
  obtain ⟨x, e1, h⟩ := bind_some h
  obtain ⟨l, e2, h⟩ := bind_some h
  obtain ⟨u, e3, h⟩ := bind_some h
  exact ⟨x, l, u, e1, e2, e3, h⟩
theorem xslice {F : Dat → Option Int → Option Int → Option Dat} (hr : SlD X F) (he : PXd m1 X e f) (hl : POd X lo gl) (hu : POd X hi gh) : PXd m X (.Subscript e (.Slice lo hi none p2) pos) (dS F f gl gh) := PXd.any ((pe_slice hr he hl hu).weak fun σ H Q ⟨env, R, A, d, k, q1, q2⟩ => by
  obtain ⟨x, l, u, e1, e2, e3, e4⟩ := dS_some q1
  exact ⟨env, R, A, x, k, e1, fun v H1 s1 p1 => ⟨env, R, A, l, k.mono s1, e2, fun H2 s2 => ⟨env, R, A, u, k.mono (s1.trans s2), e3, fun H3 s3 => ⟨A, x, d, k.mu.mono ((s1.trans s2).trans s3), e4, p1.pk.mono (s2.trans s3), q2.mono ((s1.trans s2).trans s3)⟩⟩⟩⟩)
def UnD (X : Cx) (g : Value → Sem Value) (F : Dat → Option Dat) : Prop := UnR X g (fun v H Q => ∃ A x d, MuOk A H ∧ F x = some d ∧ Pk X.K A H x v ∧ RegC false X.K A H d Q)
def dU (F : Dat → Option Dat) (f : Ev → Option Dat) : Ev → Option Dat := fun env => (f env).bind F
theorem xun {op : UnaryOp} {F : Dat → Option Dat} (ho : UnD X (unaryOp op) F) (ha : PXd m1 X e f) : PXd m X (.UnaryOp op e pos) (dU F f) := PXd.any ((pe_un ho ha).weak fun σ H Q ⟨env, R, A, d, k, q1, q2⟩ => by
  obtain ⟨x, e1, e2⟩ := bind_some q1
  exact ⟨env, R, A, x, k, e1, fun v H1 s1 p1 => ⟨A, x, d, k.mu.mono s1, e2, p1.pk, q2.mono s1⟩⟩)
end
end L2
set_option Elab.async false
set_option linter.all false
set_option maxRecDepth 100000
namespace L2
open PySem PySem.Spec PyProof.Rows
section
variable {X : Cx}
def iop (C : Int → Int → Prop) [∀ i j, Decidable (C i j)] (g : Int → Int → Dat) : Dat → Dat → Option Dat
  | .int i, .int j => if C i j then some (g i j) else none
  | _, _ => none
theorem op_i {f : Value → Value → Sem Value} {C : Int → Int → Prop} [∀ i j, Decidable (C i j)] {g : Int → Int → V} {G : Int → Int → Dat} (h : OpR X f (rI C g)) (hg : ∀ K H i j, Rp K H (G i j) (g i j)) : OpD X f (iop C G) := h.weak fun v u H Q ⟨A, x, y, d, mu, e, p1, p2, q⟩ => by
  unfold iop at e
  split at e
  · rename_i i j
    split at e
    · rename_i hc
      cases e
      exact ⟨i, j, p1.int, p2.int, hc, q.here (hg _ _ _ _)⟩
    · cases e
  · cases e
theorem op_i0 {f : Value → Value → Sem Value} {g : Int → Int → V} {G : Int → Int → Dat} (h : OpR X f (rI0 g)) (hg : ∀ K H i j, Rp K H (G i j) (g i j)) : OpD X f (iop (fun _ _ => True) G) := h.weak fun v u H Q ⟨A, x, y, d, mu, e, p1, p2, q⟩ => by
  unfold iop at e
  split at e
  · rename_i i j
    rw [if_pos trivial] at e
    cases e
    exact ⟨i, j, p1.int, p2.int, q.here (hg _ _ _ _)⟩
  · cases e
instance : ∀ i j, Decidable (CMul i j) := fun i j => by unfold CMul; infer_instance
instance : ∀ i j, Decidable (CDiv i j) := fun i j => by unfold CDiv; infer_instance
instance : ∀ i j, Decidable (CPow i j) := fun i j => by unfold CPow; infer_instance
def subD := iop (fun _ _ => True) fun i j => .int (i - j)
def fdivD := iop CDiv fun i j => .int (i / j)
def modD := iop (fun _ j => 0 < j) fun i j => .int (i % j)
def shlD := iop CPow fun i j => .int (i * 2 ^ j.toNat)
def shrD := iop (fun _ j => 0 ≤ j) fun i j => .int (i / 2 ^ j.toNat)
def andD := iop (fun _ _ => True) fun i j => .int (Builtin.bitAnd i j)
def orD := iop (fun _ _ => True) fun i j => .int (Builtin.bitOr i j)
def xorD := iop (fun _ _ => True) fun i j => .int (Builtin.bitXor i j)
def ltD := iop (fun _ _ => True) fun i j => .bl (decide (i < j))
def gtD := iop (fun _ _ => True) fun i j => .bl (decide (j < i))
theorem o_sub : OpD X (binaryOp .Sub) subD := op_i0 op_sub fun _ _ _ _ => rp_int
theorem o_fdiv : OpD X (binaryOp .FloorDiv) fdivD := op_i op_fdiv fun _ _ _ _ => rp_int
theorem o_mod : OpD X (binaryOp .Mod) modD := op_i op_mod fun _ _ _ _ => rp_int
theorem o_shl : OpD X (binaryOp .LShift) shlD := op_i op_shl fun _ _ _ _ => rp_int
theorem o_shr : OpD X (binaryOp .RShift) shrD := op_i op_shr fun _ _ _ _ => rp_int
theorem o_and : OpD X (binaryOp .BitAnd) andD := op_i0 op_and fun _ _ _ _ => rp_int
theorem o_or : OpD X (binaryOp .BitOr) orD := op_i0 op_or fun _ _ _ _ => rp_int
theorem o_xor : OpD X (binaryOp .BitXor) xorD := op_i0 op_xor fun _ _ _ _ => rp_int
theorem o_lt : OpD X (compareOp .Lt) ltD := op_i0 op_lt fun _ _ _ _ => rp_bl
theorem o_gt : OpD X (compareOp .Gt) gtD := op_i0 op_gt fun _ _ _ _ => rp_bl
theorem OpD.or {f : Value → Value → Sem Value} {F G E : Dat → Dat → Option Dat} (h : OpD X f F) (h' : OpD X f G) (he : ∀ x y d, E x y = some d → F x y = some d ∨ G x y = some d) : OpD X f E := fun pins s σ H x y v u Q I rx ry ⟨A, a, b, d, mu, e, p1, p2, q⟩ => by
  rcases he _ _ _ e with e | e
  · exact h pins s σ H x y v u Q I rx ry ⟨A, a, b, d, mu, e, p1, p2, q⟩
  · exact h' pins s σ H x y v u Q I rx ry ⟨A, a, b, d, mu, e, p1, p2, q⟩
def invD : Dat → Option Dat
  | .int i => some (.int (Builtin.bitNot i))
  | _ => none
theorem UnR.weak {f : Value → Sem Value} {r r' : V → Hp → VK → Prop} (h : UnR X f r) (w : ∀ x H Q, r' x H Q → r x H Q) : UnR X f r' := fun pins s σ H x v Q I rx q => h pins s σ H x v Q I rx (w _ _ _ q)
theorem u_inv : UnD X (unaryOp .Invert) invD := UnR.weak un_inv fun v H Q ⟨A, x, d, mu, e, p, q⟩ => by
  unfold invD at e
  split at e
  · cases e; exact ⟨_, p.int, q.here rp_int⟩
  · cases e
theorem strOk_of {x : Str} (h : ∀ c ∈ cl x, c < 0x110000) : PyData.strOk x = true := by
  unfold PyData.strOk
  rw [Array.all_eq_true']
  intro c hc
  exact decide_eq_true (h c (by simpa [cl] using hc))
theorem strOk_at {x : Str} (h : PyData.strOk x = true) : ∀ c ∈ cl x, c < 0x110000 := by
  unfold PyData.strOk at h
  rw [Array.all_eq_true'] at h
  intro c hc
  exact of_decide_eq_true (h c (by simpa [cl] using hc))
theorem strOk_app {x y : Str} (h : PyData.strOk x = true) (k : PyData.strOk y = true) : PyData.strOk (x ++ y) = true := strOk_of fun c hc => by
  rw [cl_app] at hc
  rcases List.mem_append.mp hc with z | z
  · exact strOk_at h c z
  · exact strOk_at k c z
theorem len_app (x y : Str) : (x ++ y).length = x.length + y.length := by rw [← cl_len, cl_app, List.length_append, cl_len, cl_len]
def addS : Dat → Dat → Option Dat
  | .str x, .str y => if x.length + y.length ≤ sizeLine then some (.str (x ++ y)) else none
  | _, _ => none
theorem o_addS : OpD X (binaryOp .Add) addS := op_add_str.weak fun v u H Q ⟨A, x, y, d, mu, e, p1, p2, q⟩ => by
  unfold addS at e
  split at e
  · rename_i i j
    split at e
    · rename_i hz
      cases e
      obtain ⟨e1, k1⟩ := p1.str
      obtain ⟨e2, k2⟩ := p2.str
      exact ⟨i, j, e1, e2, hz, q.here (rp_str (SOk.of (strOk_app k1.ok k2.ok) (by rw [len_app]; exact hz)))⟩
    · cases e
  · cases e
def catL : Dat → Dat → Option (List Dat)
  | .lst xs, .lst ys => if xs.length + ys.length ≤ sizeLine then some (xs ++ ys) else none
  | _, _ => none
theorem n_cat : OpN X (binaryOp .Add) catL := fun pins s σ H x y v u Q I rx ry ⟨A, a, b, d, mu, e, p1, p2, q⟩ => by
  unfold catL at e
  split at e
  · rename_i xs ys
    split at e
    · rename_i hz
      cases e
      obtain ⟨l1, vs, e1, h1, r1⟩ := p1.lst
      obtain ⟨l2, us, e2, h2, r2⟩ := p2.lst
      subst e1 e2
      cases rx
      cases ry
      obtain ⟨its, n, w1, g1, _⟩ := h1.get I
      obtain ⟨its2, n2, w2, g2, _⟩ := h2.get I
      have z1 := w1.length
      have z2 := w2.length
      have z3 := rps_len r1
      have z4 := rps_len r2
      refine PySem.P.add_list g1 g2 ?_ (by rw [List.size_toArray, List.size_toArray]; omega)
      have ea : its.toArray ++ its2.toArray = (its ++ its2).toArray := by simp
      rw [ea]
      exact ⟨.ref _, _, I.lnew (t' := s.toks) (w1.append w2) (by rw [List.length_append]; omega), rfl, q.at (by rw [List.length_append]; exact hz) (rps_append r1 r2) _ I.fresh⟩
    · cases e
  · cases e
def addD : Dat → Dat → Option Dat
  | .int i, .int j => some (.int (i + j))
  | .str x, .str y => if x.length + y.length ≤ sizeLine then some (.str (x ++ y)) else none
  | .lst xs, .lst ys => if xs.length + ys.length ≤ sizeLine then some (.lst (xs ++ ys)) else none
  | _, _ => none
theorem o_addI : OpD X (binaryOp .Add) (iop (fun _ _ => True) fun i j => .int (i + j)) := op_i0 op_add fun _ _ _ _ => rp_int
theorem o_add : OpD X (binaryOp .Add) addD := by
  have h1 := OpD.or (E := fun x y => match x, y with | .int i, .int j => some (.int (i + j)) | .str x, .str y => if x.length + y.length ≤ sizeLine then some (.str (x ++ y)) else none | _, _ => none) (o_addI (X := X)) o_addS (fun x y d e => by
    split at e
    · left; simp [iop]; exact by simpa using e
    · right; simp only [addS]; exact e
    · cases e)
  refine OpD.or h1 n_cat.d fun x y d e => ?_
  unfold addD at e
  split at e
  · left; exact e
  · left; exact e
  · right
    rename_i xs ys
    simp only [catL]
    split at e
    · rename_i hz; cases e; rw [if_pos hz]; rfl
    · cases e
  · cases e
def mulI := iop CMul fun i j => .int (i * j)
theorem o_mulI : OpD X (binaryOp .Mult) mulI := op_i op_mul fun _ _ _ _ => rp_int
def eqF : Dat → Dat → Option Dat := fun x y => if (pd 20 x && pd 20 y) = true then some (.bl (eqD x y)) else none
def neF : Dat → Dat → Option Dat := fun x y => if (pd 20 x && pd 20 y) = true then some (.bl (!eqD x y)) else none
theorem o_eq (hu : X.A.units + 64 < cLine) : OpD X (compareOp .Eq) eqF := fun pins s σ H x y v u Q I rx ry ⟨A, a, b, d, mu, e, p1, p2, q⟩ => by
  unfold eqF at e
  split at e
  · rename_i hp
    rw [Bool.and_eq_true] at hp
    cases e
    obtain ⟨as, a1, a2⟩ := Rp.reads I a x v hp.1 p1.rp rx
    obtain ⟨bs, b1, b2⟩ := Rp.reads I b y u hp.2 p2.rp ry
    have := depth_toP 20 a hp.1
    refine SeqAt.compareEq_reads a1 b1 a2 b2 (by omega) ⟨.bl _, H, I, rfl, ?_⟩
    rw [eqv_toP a b hp.1 hp.2]
    exact q.here rp_bl
  · cases e
theorem o_ne (hu : X.A.units + 64 < cLine) : OpD X (compareOp .NotEq) neF := fun pins s σ H x y v u Q I rx ry ⟨A, a, b, d, mu, e, p1, p2, q⟩ => by
  unfold neF at e
  split at e
  · rename_i hp
    rw [Bool.and_eq_true] at hp
    cases e
    obtain ⟨as, a1, a2⟩ := Rp.reads I a x v hp.1 p1.rp rx
    obtain ⟨bs, b1, b2⟩ := Rp.reads I b y u hp.2 p2.rp ry
    have := depth_toP 20 a hp.1
    refine SeqAt.compareNe_reads a1 b1 a2 b2 (by omega) ⟨.bl _, H, I, rfl, ?_⟩
    rw [eqv_toP a b hp.1 hp.2]
    exact q.here rp_bl
  · cases e
def isN : Dat → Bool
  | .non => true
  | _ => false
theorem isN_v {K : PySem.W.Frag} {H : Hp} {d : Dat} {v : V} (r : Rp K H d v) : decide (v = V.non) = isN d := by
  cases d with
  | non => rw [of_non r]; rfl
  | bl b => rw [of_bl r]; rfl
  | int b => rw [of_int r]; rfl
  | str b => rw [(of_str r).1]; rfl
  | tup b => obtain ⟨a, _, e, _⟩ := of_tup r; rw [e]; rfl
  | lst b => obtain ⟨a, _, e, _⟩ := of_lst r; rw [e]; rfl
  | dct _ => exact (of_dct r).elim
  | exc _ _ => obtain ⟨_, _, _, e, _⟩ := of_exc r; subst e; rfl
def isF : Dat → Dat → Option Dat
  | x, .non => some (.bl (isN x))
  | _, _ => none
theorem o_is : OpD X (compareOp .Is) isF := op_isN.weak fun v u H Q ⟨A, x, y, d, mu, e, p1, p2, q⟩ => by
  unfold isF at e
  split at e
  · cases e
    exact ⟨p2.non, by rw [isN_v p1.rp]; exact q.here rp_bl⟩
  · cases e
def inS : Str → Str → Bool := fun i j => !(Builtin.Str.occurrences j i 0 j.length 1).isEmpty
def inB : Dat → Dat → Option Bool
  | x, .lst ys => if (pd 20 x && ys.all (pd 20)) = true then some (ys.any fun y => eqD y x) else none
  | x, .tup ys => if (pd 20 x && ys.all (pd 20)) = true then some (ys.any fun y => eqD y x) else none
  | .str i, .str j => some (inS i j)
  | _, _ => none
def inF : Dat → Dat → Option Dat := fun x y => (inB x y).map .bl
def ninF : Dat → Dat → Option Dat := fun x y => (inB x y).map fun b => .bl (!b)
theorem eqAt_items {pins : List (Addr × Obj)} {σ : St} {H : Hp} {s : Shared} (I : Inv X pins σ H s) (hu : X.A.units + 64 < cLine) {a : Dat} {x : V} {v : Value} (ha : pd 20 a = true) (rx : Rp X.K H a x) (qx : RelV x v) :
    ∃ e : Value → Bool, ∀ {ys : List Dat} {vs : List V} {us : List Value}, Rps X.K H ys vs → Vals vs us → (∀ y ∈ ys, pd 20 y = true) → (∀ u ∈ us, SeqAt.EqAt X.A.in1 s u v (e u)) ∧ us.any e = ys.any fun y => eqD y a := by
  classical
  have hu' : X.A.in1.units + 60 < cLine := by show X.A.units + 1 + 60 < cLine; omega
  have key : ∀ {y : Dat} {w : V} {u : Value}, Rp X.K H y w → RelV w u → pd 20 y = true → SeqAt.EqAt X.A.in1 s u v (eqD y a) := fun {y w u} r q h => Rp.eqAt I h ha (by decide) hu' r rx q qx
  let e : Value → Bool := fun u => decide (∃ (y : Dat) (w : V), Rp X.K H y w ∧ RelV w u ∧ pd 20 y = true ∧ eqD y a = true)
  have he : ∀ {y : Dat} {w : V} {u : Value}, Rp X.K H y w → RelV w u → pd 20 y = true → e u = eqD y a := fun {y w u} r q h => by
    cases z : eqD y a with
    | true => exact decide_eq_true ⟨y, w, r, q, h, z⟩
    | false =>
      refine decide_eq_false ?_
      rintro ⟨y', w', r', q', h', z'⟩
      have := q.inj q'
      subst this
      obtain ⟨as, a1, a2⟩ := Rp.reads I y w u h r q
      obtain ⟨bs, b1, b2⟩ := Rp.reads I y' w u h' r' q
      have eqP := SeqAt.Reads.unique _ _ _ _ _ a2 a1 b1
      rw [← eqv_toP y a h ha, eqP, eqv_toP y' a h' ha, z'] at z
      cases z
  refine ⟨e, fun {ys} => ?_⟩
  induction ys with
  | nil => intro vs us r q _; rw [rps_of_nil r] at q; cases q; exact ⟨fun u hu => (by cases hu), rfl⟩
  | cons y ys ih =>
    intro vs us r q hp
    obtain ⟨w, vs', e1, r1, r2⟩ := rps_of_cons r
    subst e1
    cases q with
    | cons q1 q2 =>
      rename_i u us
      obtain ⟨h1, h2⟩ := ih r2 q2 fun z hz => hp z (List.mem_cons_of_mem _ hz)
      have hy := hp y List.mem_cons_self
      refine ⟨fun u' hu' => ?_, ?_⟩
      · rcases List.mem_cons.mp hu' with z | z
        · subst z; rw [he r1 q1 hy]; exact key r1 q1 hy
        · exact h1 u' z
      · rw [List.any_cons, List.any_cons, h2, he r1 q1 hy]
theorem o_in (hu : X.A.units + 64 < cLine) : OpD X (compareOp .In) inF := fun pins s σ H x y v u Q I rx ry ⟨A, a, b, d, mu, e, p1, p2, q⟩ => by
  unfold inF at e
  unfold inB at e
  split at e
  · rename_i ys
    split at e
    · rename_i hp
      rw [Bool.and_eq_true, List.all_eq_true] at hp
      cases e
      obtain ⟨l, vs, e1, h1, r1⟩ := p2.lst
      subst e1
      cases ry
      obtain ⟨its, w1, pl, _⟩ := I.list h1.sq
      obtain ⟨f, hf⟩ := eqAt_items I hu hp.1 p1.rp rx
      obtain ⟨k1, k2⟩ := hf (r1.mono av_same) w1 hp.2
      refine SeqAt.in_listAt f pl.isList (fun w hw => k1 w (by simpa using hw)) ⟨.bl _, H, I, rfl, ?_⟩
      rw [show its.toArray.any f = its.any f by simp, k2]
      exact q.here rp_bl
    · cases e
  · rename_i ys
    split at e
    · rename_i hp
      rw [Bool.and_eq_true, List.all_eq_true] at hp
      cases e
      obtain ⟨l, vs, e1, h1, r1⟩ := p2.tup
      subst e1
      cases ry
      obtain ⟨its, w1, pl, _⟩ := I.tuple h1
      obtain ⟨f, hf⟩ := eqAt_items I hu hp.1 p1.rp rx
      obtain ⟨k1, k2⟩ := hf (r1.mono av_same) w1 hp.2
      refine SeqAt.in_tupleAt f pl (fun w hw => k1 w (by simpa using hw)) ⟨.bl _, H, I, rfl, ?_⟩
      rw [show its.toArray.any f = its.any f by simp, k2]
      exact q.here rp_bl
    · cases e
  · rename_i i j
    cases e
    obtain ⟨e1, k1⟩ := p1.str
    obtain ⟨e2, k2⟩ := p2.str
    exact op_in_str pins s σ H x y v u Q I rx ry ⟨i, j, e1, e2, q.here rp_bl⟩
  · cases e
theorem o_nin (hu : X.A.units + 64 < cLine) : OpD X (compareOp .NotIn) ninF := fun pins s σ H x y v u Q I rx ry ⟨A, a, b, d, mu, e, p1, p2, q⟩ => by
  unfold ninF at e
  unfold inB at e
  split at e
  · rename_i ys
    split at e
    · rename_i hp
      rw [Bool.and_eq_true, List.all_eq_true] at hp
      cases e
      obtain ⟨l, vs, e1, h1, r1⟩ := p2.lst
      subst e1
      cases ry
      obtain ⟨its, w1, pl, _⟩ := I.list h1.sq
      obtain ⟨f, hf⟩ := eqAt_items I hu hp.1 p1.rp rx
      obtain ⟨k1, k2⟩ := hf (r1.mono av_same) w1 hp.2
      refine SeqAt.notIn_listAt f pl.isList (fun w hw => k1 w (by simpa using hw)) ⟨.bl _, H, I, rfl, ?_⟩
      rw [show its.toArray.any f = its.any f by simp, k2]
      exact q.here rp_bl
    · cases e
  · rename_i ys
    split at e
    · rename_i hp
      rw [Bool.and_eq_true, List.all_eq_true] at hp
      cases e
      obtain ⟨l, vs, e1, h1, r1⟩ := p2.tup
      subst e1
      cases ry
      obtain ⟨its, w1, pl, _⟩ := I.tuple h1
      obtain ⟨f, hf⟩ := eqAt_items I hu hp.1 p1.rp rx
      obtain ⟨k1, k2⟩ := hf (r1.mono av_same) w1 hp.2
      refine SeqAt.notIn_tupleAt f pl (fun w hw => k1 w (by simpa using hw)) ⟨.bl _, H, I, rfl, ?_⟩
      rw [show its.toArray.any f = its.any f by simp, k2]
      exact q.here rp_bl
    · cases e
  · rename_i i j
    cases e
    obtain ⟨e1, k1⟩ := p1.str
    obtain ⟨e2, k2⟩ := p2.str
    exact op_notIn_str pins s σ H x y v u Q I rx ry ⟨i, j, e1, e2, q.here rp_bl⟩
  · cases e
def ixD : Dat → Dat → Option Dat
  | .lst xs, .int i => atI xs i
  | .tup xs, .int i => atI xs i
  | .str z, .int i => (atI (cl z) i).map fun c => .str ⟨#[c]⟩
  | _, _ => none
theorem atI_rps {K : PySem.W.Frag} {H : Hp} {ds : List Dat} {vs : List V} {i : Int} {d : Dat} (r : Rps K H ds vs) (h : atI ds i = some d) : ∃ v, atI vs i = some v ∧ Rp K H d v := by
  unfold atI at h ⊢
  rw [rps_len r]
  obtain ⟨j, e1, e2⟩ := bind_some h
  obtain ⟨v, h1, h2⟩ := rps_get r e2
  exact ⟨v, by rw [e1]; exact h1, h2⟩
theorem atI_mem {α : Type} {xs : List α} {i : Int} {x : α} (h : atI xs i = some x) : x ∈ xs := by
  unfold atI at h
  obtain ⟨j, e1, e2⟩ := bind_some h
  exact List.mem_of_getElem? e2
theorem sok_one {z : Str} {c : Nat} (h : SOk z) (hc : c ∈ cl z) : SOk ⟨#[c]⟩ := SOk.of (strOk_of fun c' hc' => by
  have : c' = c := by simpa [cl] using hc'
  rw [this]; exact strOk_at h.ok c hc) (by rw [← cl_len]; simp [cl]; decide)
theorem IxR.weak {r r' : R2} (h : IxR X r) (w : ∀ x y H Q, r' x y H Q → r x y H Q) : IxR X r' := fun value slice pins s σ H x y v u Q I rx ry q hs => h value slice pins s σ H x y v u Q I rx ry (w _ _ _ _ q) hs
theorem o_ix : IxR X (rD X.K ixD) := ix_seq.weak fun v u H Q ⟨A, x, y, d, mu, e, p1, p2, q⟩ => by
  unfold ixD at e
  split at e
  · rename_i xs i
    obtain ⟨l, vs, e1, h1, r1⟩ := p1.lst
    obtain ⟨w, h2, r2⟩ := atI_rps r1 e
    exact .inl ⟨l, vs, i, w, e1, p2.int, h1.sq, h2, q.here r2⟩
  · rename_i xs i
    obtain ⟨l, vs, e1, h1, r1⟩ := p1.tup
    obtain ⟨w, h2, r2⟩ := atI_rps r1 e
    exact .inr (.inl ⟨l, vs, i, w, e1, p2.int, h1, h2, q.here r2⟩)
  · rename_i z i
    obtain ⟨e1, k1⟩ := p1.str
    cases hc : atI (cl z) i with
    | none => rw [hc] at e; cases e
    | some c =>
      rw [hc] at e
      cases e
      exact .inr (.inr ⟨z, i, c, e1, p2.int, k1.le, hc, q.here (rp_str (sok_one k1 (atI_mem hc)))⟩)
  · cases e
theorem cut_rps {K : PySem.W.Frag} {H : Hp} {ds : List Dat} {vs : List V} (lo hi : Option Int) (r : Rps K H ds vs) : Rps K H (cutL ds lo hi) (cutV vs lo hi) := by
  unfold cutL cutV
  rw [rps_len r]
  exact rps_take _ (rps_drop _ r)
theorem cutL_mem {α : Type} {xs : List α} {lo hi : Option Int} {x : α} (h : x ∈ cutL xs lo hi) : x ∈ xs := List.mem_of_mem_drop (List.mem_of_mem_take h)
theorem cutL_len {α : Type} {xs : List α} {lo hi : Option Int} {n : Nat} (h : xs.length ≤ n) : (cutL xs lo hi).length ≤ n := by unfold cutL; rw [List.length_take, List.length_drop]; omega
theorem SlR.weak {r r' : V → Option Int → Option Int → Hp → VK → Prop} (h : SlR X r) (w : ∀ x lo hi H Q, r' x lo hi H Q → r x lo hi H Q) : SlR X r' := fun pins s σ H x v vl vu lo hi sl Q I rx hs pl pu q => h pins s σ H x v vl vu lo hi sl Q I rx hs pl pu (w _ _ _ _ _ q)
def slD : Dat → Option Int → Option Int → Option Dat
  | .lst xs, lo, hi => some (.lst (cutL xs lo hi))
  | .str z, lo, hi => some (.str (Txt.slice z lo hi))
  | .tup xs, lo, hi => if HT.sIx xs.length 0 lo = 0 ∧ HT.sIx xs.length xs.length hi = xs.length then none else some (.tup (cutL xs lo hi))
  | _, _, _ => none
theorem slice_sok {z : Str} {lo hi : Option Int} (h : SOk z) : SOk (Txt.slice z lo hi) := SOk.of (strOk_of fun c hc => by
  rw [cl_slice] at hc; exact strOk_at h.ok c (cutL_mem hc)) (Nat.le_trans (Txt.slice_le z _ _) h.le)
theorem o_sl : SlD X slD := sl_A.weak fun v lo hi H Q ⟨A, x, d, mu, e, p1, q⟩ => by
  unfold slD at e
  split at e
  · rename_i xs
    cases e
    obtain ⟨l, vs, e1, h1, r1⟩ := p1.lst
    exact .inl ⟨l, vs, e1, h1.sq, (q.new mu).at (cutL_len p1.lenL) (cut_rps lo hi r1)⟩
  · rename_i z
    cases e
    obtain ⟨e1, k1⟩ := p1.str
    exact .inr (.inr ⟨z, e1, k1.le, q.here (rp_str (slice_sok k1))⟩)
  · rename_i xs
    split at e
    · cases e
    · rename_i hn
      cases e
      obtain ⟨l, vs, e1, h1, r1⟩ := p1.tup
      exact .inr (.inl ⟨l, vs, e1, h1, by rw [rps_len r1]; exact hn, q.tup mu (cutL_len p1.lenT) (cut_rps lo hi r1)⟩)
  · cases e
end
end L2
set_option Elab.async false
set_option linter.all false
set_option maxRecDepth 100000
namespace L2
open PySem PySem.Spec PyProof.Rows
section
variable {X : Cx} {m : Bool}
def lenD : List Dat → Option Dat
  | [.lst xs] => some (.int xs.length)
  | [.tup xs] => some (.int xs.length)
  | [.str z] => some (.int z.length)
  | _ => none
theorem c_len : CallD X (.builtin "len") lenD := call_lenA.weak fun vs H Q ⟨A, ds, d, mu, e, p, q⟩ => by
  unfold lenD at e
  split at e
  · obtain ⟨v, e1, p1⟩ := p.one
    obtain ⟨l, us, e2, h1, r1⟩ := p1.lst
    cases e
    exact .inl ⟨l, us, by rw [e1, e2], .inl h1.sq, fun _ => by rw [rps_len r1]; exact q.here rp_int⟩
  · obtain ⟨v, e1, p1⟩ := p.one
    obtain ⟨l, us, e2, h1, r1⟩ := p1.tup
    cases e
    exact .inl ⟨l, us, by rw [e1, e2], .inr h1, fun _ => by rw [rps_len r1]; exact q.here rp_int⟩
  · obtain ⟨v, e1, p1⟩ := p.one
    obtain ⟨e2, h1⟩ := p1.str
    cases e
    exact .inr ⟨_, by rw [e1, e2], h1.le, q.here rp_int⟩
  · cases e
def tupleD : List Dat → Option Dat
  | [.lst xs] => some (.tup xs)
  | [.tup xs] => some (.tup xs)
  | _ => none
theorem c_tuple : CallD X (.type "tuple") tupleD := call_tuple_of.weak fun vs H Q ⟨A, ds, d, mu, e, p, q⟩ => by
  unfold tupleD at e
  split at e
  · obtain ⟨v, e1, p1⟩ := p.one
    obtain ⟨l, us, e2, h1, r1⟩ := p1.lst
    cases e
    exact ⟨l, us, by rw [e1, e2], .inl ⟨h1.sq, q.tup mu p1.lenL r1⟩⟩
  · obtain ⟨v, e1, p1⟩ := p.one
    rcases p1 with p1 | ⟨_, _, _, z, _⟩
    · obtain ⟨l, us, e2, h1, r1⟩ := of_tup p1
      cases e
      exact ⟨l, us, by rw [e1, e2], .inr ⟨av_same.seqT h1, by rw [← e2]; exact q.here p1⟩⟩
    · cases z
  · cases e
def intsD : List Dat → Option (List Int)
  | [] => some []
  | .int i :: r => (intsD r).map (i :: ·)
  | _ => none
def blsD : List Dat → Option (List Bool)
  | [] => some []
  | .bl i :: r => (blsD r).map (i :: ·)
  | _ => none
theorem intsD_map (ns : List Int) : intsD (ns.map .int) = some ns := by
  induction ns with
  | nil => rfl
  | cons n ns ih => rw [List.map_cons, intsD, ih]; rfl
theorem blsD_map (ns : List Bool) : blsD (ns.map .bl) = some ns := by
  induction ns with
  | nil => rfl
  | cons n ns ih => rw [List.map_cons, blsD, ih]; rfl
theorem intsD_eq : ∀ {ds : List Dat} {ns : List Int}, intsD ds = some ns → ds = ns.map .int
  | [], _, h => by cases h; rfl
  | d :: ds, ns, h => by
    cases d <;> try cases h
    rename_i i
    rw [intsD] at h
    cases e : intsD ds with
    | none => rw [e] at h; cases h
    | some r => rw [e] at h; cases h; rw [intsD_eq e]; rfl
theorem blsD_eq : ∀ {ds : List Dat} {ns : List Bool}, blsD ds = some ns → ds = ns.map .bl
  | [], _, h => by cases h; rfl
  | d :: ds, ns, h => by
    cases d <;> try cases h
    rename_i i
    rw [blsD] at h
    cases e : blsD ds with
    | none => rw [e] at h; cases h
    | some r => rw [e] at h; cases h; rw [blsD_eq e]; rfl
theorem rps_of_ints {K : PySem.W.Frag} {H : Hp} : ∀ {ns : List Int} {vs : List V}, Rps K H (ns.map .int) vs → vs = ns.map .int
  | [], vs, h => rps_of_nil h
  | n :: ns, vs, h => by obtain ⟨v, r, e, h1, h2⟩ := rps_of_cons h; rw [e, of_int h1, rps_of_ints h2]; rfl
theorem rps_of_bls {K : PySem.W.Frag} {H : Hp} : ∀ {ns : List Bool} {vs : List V}, Rps K H (ns.map .bl) vs → vs = ns.map .bl
  | [], vs, h => rps_of_nil h
  | n :: ns, vs, h => by obtain ⟨v, r, e, h1, h2⟩ := rps_of_cons h; rw [e, of_bl h1, rps_of_bls h2]; rfl
def sortI (ns : List Int) : List Int := ns.mergeSort (fun a b => decide (a ≤ b))
theorem sortI_perm (ns : List Int) : (sortI ns).Perm ns := List.mergeSort_perm ns _
theorem sortI_sorted (ns : List Int) : (sortI ns).Pairwise (· ≤ ·) := by
  have := List.pairwise_mergeSort (le := fun a b : Int => decide (a ≤ b)) (by intro a b c h1 h2; simp only [decide_eq_true_eq] at *; omega) (by intro a b; simp only [Bool.or_eq_true, decide_eq_true_eq]; omega) ns
  exact this.imp fun h => of_decide_eq_true h
theorem sorted_unique : ∀ {xs ys : List Int}, xs.Perm ys → xs.Pairwise (· ≤ ·) → ys.Pairwise (· ≤ ·) → xs = ys
  | [], ys, p, _, _ => by rw [List.nil_perm.mp p]
  | x :: xs, [], p, _, _ => by have := p.length_eq; simp at this
  | x :: xs, y :: ys, p, h1, h2 => by
    have hx := List.pairwise_cons.mp h1
    have hy := List.pairwise_cons.mp h2
    have e : x = y := by
      have m1 : x ∈ y :: ys := p.mem_iff.mp List.mem_cons_self
      have m2 : y ∈ x :: xs := p.mem_iff.mpr List.mem_cons_self
      rcases List.mem_cons.mp m1 with z | z
      · exact z
      · rcases List.mem_cons.mp m2 with w | w
        · exact w.symm
        · have a1 := hx.1 y w
          have a2 := hy.1 x z
          omega
    subst e
    rw [sorted_unique (List.Perm.cons_inv p) hx.2 hy.2]
def sortedN : List Dat → Option (List Dat)
  | [.lst xs] => (intsD xs).bind fun ns => if ns.length < 64 then some ((sortI ns).map .int) else none
  | _ => none
theorem c_sorted : CallN X (.builtin "sorted") sortedN := call_sortedL.weak fun vs H Q ⟨A, ds, d, mu, e, p, q⟩ => by
  unfold sortedN at e
  split at e
  · rename_i xs
    obtain ⟨v, e1, p1⟩ := p.one
    obtain ⟨l, us, e2, h1, r1⟩ := p1.lst
    obtain ⟨ns, hn, e⟩ := bind_some e
    split at e
    · rename_i h64
      cases e
      rw [intsD_eq hn] at r1
      have eu := rps_of_ints r1
      subst eu
      refine ⟨l, ns, by rw [e1, e2], h1.sq, h64, fun ms l' hp hs hl => ?_⟩
      rw [sorted_unique (hp.trans (sortI_perm ns).symm) hs (sortI_sorted ns)]
      have h0 : (64 : Nat) ≤ sizeLine := by decide
      exact q.at (by rw [List.length_map, (sortI_perm ns).length_eq]; omega) (rps_ints _) l' hl
    · cases e
  · cases e
def allD : List Dat → Option Dat
  | [.lst xs] => (blsD xs).map fun bs => .bl (bs.all id)
  | _ => none
def anyD : List Dat → Option Dat
  | [.lst xs] => (blsD xs).map fun bs => .bl (bs.any id)
  | _ => none
theorem map_some {α β : Type} {a : Option α} {g : α → β} {b : β} (h : a.map g = some b) : ∃ x, a = some x ∧ g x = b := by
  cases a with
  | none => cases h
  | some x => cases h; exact ⟨x, rfl, rfl⟩
theorem c_all (hc : X.calm = true) : CallD X (.builtin "all") allD := (call_allA hc).weak fun vs H Q ⟨A, ds, d, mu, e, p, q⟩ => by
  unfold allD at e
  split at e
  · obtain ⟨v, e1, p1⟩ := p.one
    obtain ⟨l, us, e2, h1, r1⟩ := p1.lst
    obtain ⟨bs, hb, e⟩ := map_some e
    subst e
    rw [blsD_eq hb] at r1
    have eu := rps_of_bls r1
    subst eu
    exact ⟨l, bs, by rw [e1, e2], h1.sq, q.here rp_bl⟩
  · cases e
theorem c_any (hc : X.calm = true) : CallD X (.builtin "any") anyD := (call_anyA hc).weak fun vs H Q ⟨A, ds, d, mu, e, p, q⟩ => by
  unfold anyD at e
  split at e
  · obtain ⟨v, e1, p1⟩ := p.one
    obtain ⟨l, us, e2, h1, r1⟩ := p1.lst
    obtain ⟨bs, hb, e⟩ := map_some e
    subst e
    rw [blsD_eq hb] at r1
    have eu := rps_of_bls r1
    subst eu
    exact ⟨l, bs, by rw [e1, e2], h1.sq, q.here rp_bl⟩
  · cases e
def tyN : Dat → Option String
  | .non => some "NoneType" | .bl _ => some "bool" | .int _ => some "int" | .str _ => some "str" | .tup _ => some "tuple" | .lst _ => some "list" | _ => none
def isiB (T : String) (d : Dat) : Option Bool := (tyN d).bind fun t => kitB t T
def dI (T : String) (f : Ev → Option Dat) : Ev → Option Dat := fun env => (f env).bind fun d => (isiB T d).map .bl
theorem isi_go {pins : List (Addr × Obj)} {σ : St} {H : Hp} {s : Shared} {A : Around} {E : Value → Shared → Prop} {Q : Value → Shared → Prop} {d : Dat} {v : V} {u : Value} {T t : String} {b : Bool} (I : Inv X pins σ H s) (r : Rp X.K H d v) (ru : RelV v u) (ht : tyN d = some t) (e : PySem.W.kitOne X.K (.type t) (.type T) = some b) (h : ∀ tk, Q (.bool b) { s with toks := tk }) :
    wpAny (model X.prog X.w) A (call (.builtin "isinstance") [u, .type T]) Q E s := by
  cases d with
  | non => cases ht; rw [of_non r] at ru; exact isinst_ok I ru .non e h
  | bl y => cases ht; rw [of_bl r] at ru; exact isinst_ok I ru (.bl y) e h
  | int y => cases ht; rw [of_int r] at ru; exact isinst_ok I ru (.int y) e h
  | str y => cases ht; rw [(of_str r).1] at ru; exact isinst_ok I ru (.str y) e h
  | tup ds =>
    cases ht
    obtain ⟨a, vs, e1, h1, _⟩ := of_tup r
    subst e1; cases ru
    obtain ⟨its, _, ⟨o, ho, hc, _⟩, _⟩ := I.tuple h1
    exact PySem.W.kia_one PySem.W.kitx_tuple I.kIn ⟨o, ho, hc⟩ e (fun z => nomatch z) h
  | lst ds =>
    cases ht
    obtain ⟨a, vs, e1, h1, _⟩ := of_lst r
    subst e1; cases ru
    obtain ⟨its, n, _, ho, _⟩ := h1.get I
    exact PySem.W.kia_one PySem.W.kitx_list I.kIn ⟨_, ho, rfl⟩ e (fun z => nomatch z) h
  | dct _ => cases ht
  | exc _ _ => cases ht
theorem xisi {e : Expr} {f : Ev → Option Dat} {T : String} {tx : Str} {p p2 pos : Pos} (he : PXd true X e f) (hg : Gl X "isinstance") (hm : X.mg "isinstance" = none) (hv : bootBuiltins "isinstance" = some (.builtin "isinstance")) (hgT : Gl X tx) (hmT : X.mg tx = none) (hvT : bootBuiltins tx = some (.type T)) (hnT : tx ≠ "__name__" := by decide) (hdT : (tx == ("__debug__" : Str)) = false := by decide)
    (hs : starEach [e, .Name tx p2] X.env = (false, eval e X.env) :: starEach [.Name tx p2] X.env := by rfl) : PXd m X (.Call (.Name "isinstance" p) [e, .Name tx p2] [] pos) (dI T f) := by
  have hc : CallR X (.builtin "isinstance") (fun vs H Q => ∃ v A d b, vs = [v, .ty T] ∧ MuOk A H ∧ isiB T d = some b ∧ Pk X.K A H d v ∧ RegC false X.K A H (.bl b) Q) := by
    intro pins s σ H xs us Q I r ⟨v, A, d, b, e1, mu, e2, p1, q⟩
    subst e1
    obtain ⟨u, w', rfl, ru, rw'⟩ := vals2 r
    cases rw'
    obtain ⟨t, ht, hk⟩ := bind_some e2
    exact isi_go I p1.rp ru ht (kit_of hk) fun tk => ⟨.bl b, H, I.tok _, rfl, q.here rp_bl⟩
  refine PXd.any ((pe_callB hc hg hm hv (pa_cons he (pa_cons (pe_bty hgT hmT hvT hnT hdT) pa_nil) hs) (he := hs)).weak fun σ H Q ⟨env, R, A, d, k, q1, q2⟩ => ?_)
  obtain ⟨x, e1, h⟩ := bind_some q1
  obtain ⟨b, e2, h⟩ := map_some h
  subst h
  exact ⟨env, R, A, x, k, e1, fun v H1 s1 p1 => ⟨v, A, x, b, rfl, k.mu.mono s1, e2, p1, q2.mono s1⟩⟩
end
end L2
set_option Elab.async false
set_option linter.all false
set_option maxRecDepth 100000
namespace L2
open PySem PySem.Spec PyProof.Rows
def Adv (st : Bool) (A : AS) (H : Hp) (A1 : AS) (H1 : Hp) : Prop := match st with
  | true => Step A H A1 H1
  | false => A1 = A ∧ Same H H1
theorem Adv.step {st : Bool} {A A1 : AS} {H H1 : Hp} (h : Adv st A H A1 H1) : Step A H A1 H1 := by
  cases st with
  | true => exact h
  | false => obtain ⟨rfl, h⟩ := h; exact Step.same h
def ItOk (st : Bool) (K : PySem.W.Frag) (A : AS) (H : Hp) (ds : List Dat) (J : It) : Prop := ∀ A1 H1, Adv st A H A1 H1 → MuOk A1 H1 →
  (∀ (i : Nat) x, ds[i]? = some x → J.go i H1 ∧ ∀ v H2, J.yld i H1 v H2 → Same H1 H2 ∧ Rp K (av H2 A1) x v) ∧ J.stop ds.length H1
def PId (st : Bool) (X : Cx) (tg iter : Expr) (src : Ev → Option (List Dat)) : Prop := PI X tg iter fun σ H R' => ∃ env R A ds, EnvOk X.K R A H σ env ∧ src env = some ds ∧
  ∀ J H', ds.length ≤ sizeLine → Same H H' → ItOk st X.K A H' ds J → R' J H'
theorem PI.weak {X : Cx} {tg iter : Expr} {t t' : TI} (h : PI X tg iter t) (w : ∀ σ H Q, t' σ H Q → t σ H Q) : PI X tg iter t' := fun pins s σ H Q I q => h pins s σ H Q I (w σ H Q q)
section
variable {st m : Bool} {X : Cx} {tg l : Expr} {f : Ev → Option Dat} {fs : Ev → Option (List Dat)}
def srcL (f : Ev → Option Dat) : Ev → Option (List Dat) := fun env => match f env with
  | some (.lst xs) => some xs
  | some (.tup xs) => some xs
  | _ => none
theorem it_list {K : PySem.W.Frag} {A : AS} {H : Hp} {a : Addr} {vs : List V} {ds : List Dat} (h : ∀ A1 H1, Adv st A H A1 H1 → SqL K H1 a vs) (r : Rps K (av H A) ds vs) : ItOk st K A H ds (Itl K a) := fun A1 H1 adv _ => by
  have h1 := h A1 H1 adv
  have r1 := r.mono adv.step.av
  refine ⟨fun i x e => ?_, ⟨vs, h1, Nat.le_of_eq (rps_len r)⟩⟩
  obtain ⟨v, e1, e2⟩ := rps_get r1 e
  refine ⟨⟨vs, v, h1, e1⟩, fun v' H2 ⟨e3, e4⟩ => ?_⟩
  subst e3
  have := e4 vs h1
  rw [e1] at this
  cases this
  exact ⟨Same.refl _, e2⟩
theorem it_tup {K : PySem.W.Frag} {A : AS} {H : Hp} {a : Addr} {vs : List V} {ds : List Dat} (h : ∀ A1 H1, Adv st A H A1 H1 → SqT K H1 a vs) (r : Rps K (av H A) ds vs) : ItOk st K A H ds (Itt K a) := fun A1 H1 adv _ => by
  have h1 := h A1 H1 adv
  have r1 := r.mono adv.step.av
  refine ⟨fun i x e => ?_, ⟨vs, h1, Nat.le_of_eq (rps_len r)⟩⟩
  obtain ⟨v, e1, e2⟩ := rps_get r1 e
  refine ⟨⟨vs, v, h1, e1⟩, fun v' H2 ⟨e3, e4⟩ => ?_⟩
  subst e3
  have := e4 vs h1
  rw [e1] at this
  cases this
  exact ⟨Same.refl _, e2⟩
theorem i_seq (h : PXd false X l f) : PId st X tg l (srcL f) := (pi_seq h).weak fun σ H R' ⟨env, R, A, ds, k, e, q⟩ => by
  unfold srcL at e
  split at e
  · rename_i xs e1
    cases e
    refine .inl ⟨env, R, A, .lst ds, k, e1, fun v H1 s1 p1 => ?_⟩
    obtain ⟨a, vs, e2, h1, r1⟩ := of_lst (show Rp X.K (av H1 A) (.lst ds) v from p1)
    subst e2
    exact ⟨a, rfl, ⟨vs, (av_same.sl h1).sq⟩, q _ H1 p1.pk.lenL s1 (it_list (vs := vs) (fun A1 H2 adv => (av_same.sl (adv.step.av.sl h1)).sq) r1)⟩
  · rename_i xs e1
    cases e
    refine .inr ⟨env, R, A, .tup ds, k, e1, fun v H1 s1 p1 => ?_⟩
    obtain ⟨a, vs, e2, h1, r1⟩ := of_tup (show Rp X.K (av H1 A) (.tup ds) v from p1)
    subst e2
    exact ⟨a, rfl, ⟨vs, av_same.seqT h1⟩, q _ H1 p1.pk.lenT s1 (it_tup (vs := vs) (fun A1 H2 adv => av_same.seqT (adv.step.av.seqT h1)) r1)⟩
  · cases e
theorem i_seqP (h : PXd true X l f) : PId false X tg l (srcL f) := (pi_seq h).weak fun σ H R' ⟨env, R, A, ds, k, e, q⟩ => by
  unfold srcL at e
  split at e
  · rename_i xs e1
    cases e
    refine .inl ⟨env, R, A, .lst ds, k, e1, fun v H1 s1 p1 => ?_⟩
    obtain ⟨a, vs, e2, h1, r1⟩ := p1.pk.lst
    subst e2
    exact ⟨a, rfl, ⟨vs, h1.sq⟩, q _ H1 p1.pk.lenL s1 (it_list (vs := vs) (fun A1 H2 adv => (adv.2.sl h1).sq) r1)⟩
  · rename_i xs e1
    cases e
    refine .inr ⟨env, R, A, .tup ds, k, e1, fun v H1 s1 p1 => ?_⟩
    obtain ⟨a, vs, e2, h1, r1⟩ := p1.pk.tup
    subst e2
    exact ⟨a, rfl, ⟨vs, h1⟩, q _ H1 p1.pk.lenT s1 (it_tup (vs := vs) (fun A1 H2 adv => adv.2.seqT h1) r1)⟩
  · cases e
def rng (lo : Int) (n : Nat) : List Dat := (List.range n).map fun (k : Nat) => .int (lo + k)
theorem rng_len {lo : Int} {n : Nat} : (rng lo n).length = n := by simp [rng]
theorem it_rng {K : PySem.W.Frag} {A : AS} {H : Hp} {lo : Int} {n : Nat} : ItOk st K A H (rng lo n) (Itr lo n) := fun A1 H1 adv _ => by
  refine ⟨fun i x e => ?_, by show n ≤ (rng lo n).length; simp [rng]⟩
  unfold rng at e
  rw [List.getElem?_map] at e
  by_cases hi : i < n
  · rw [List.getElem?_range hi] at e
    cases e
    exact ⟨hi, fun v H2 ⟨e1, e2⟩ => by subst e1 e2; exact ⟨Same.refl _, rp_int⟩⟩
  · rw [List.getElem?_eq_none (by simpa using hi)] at e
    cases e
def srcR1 (fs : Ev → Option (List Dat)) : Ev → Option (List Dat) := fun env => match fs env with
  | some [.int j] => if -(2 ^ 62) ≤ j ∧ j < 2 ^ 62 ∧ j.toNat ≤ sizeLine then some (rng 0 j.toNat) else none
  | _ => none
theorem i_range1 {a : Expr} {p pos : Pos} (hg : Gl X "range") (hm : X.mg "range" = none) (ha : PAd true X [a] fs) (hs : starEach [a] X.env = [(false, eval a X.env)] := by rfl) : PId st X tg (.Call (.Name "range" p) [a] [] pos) (srcR1 fs) := (pi_range1 hg hm ha hs).weak fun σ H R' ⟨env, R, A, ds, k, e, q⟩ => by
  unfold srcR1 at e
  split at e
  · rename_i j e1
    split at e
    · rename_i hj
      cases e
      refine ⟨env, R, A, _, k, e1, fun vs H1 s1 p1 => ?_⟩
      obtain ⟨v, e2, p2⟩ := p1.one
      exact ⟨j, by rw [e2, p2.int], hj.1, hj.2.1, q _ H1 (by rw [rng_len]; exact hj.2.2) s1 it_rng⟩
    · cases e
  · cases e
end
def Agree (is : List Nat) (σ σ' : St) : Prop := σ'.length = σ.length ∧ ∀ j, j ∉ is → σ'[j]? = σ[j]?
def PGd (is : List Nat) (X : Cx) (tg : Expr) (g : Dat → Ev → Option Ev) : Prop := PG X tg fun v σ H Q => ∃ env R A d env', EnvOk X.K R A H σ env ∧ Rp X.K (av H A) d v ∧ g d env = some env' ∧ ∀ σ', EnvOk X.K R A H σ' env' → Agree is σ σ' → Q σ' H
def PGsd (is : List Nat) (X : Cx) (tgs : List Expr) (g : List Dat → Ev → Option Ev) : Prop := PGs X tgs fun vs σ H Q => ∃ env R A ds env', EnvOk X.K R A H σ env ∧ Rps X.K (av H A) ds vs ∧ g ds env = some env' ∧ ∀ σ', EnvOk X.K R A H σ' env' → Agree is σ σ' → Q σ' H
theorem EnvOk.put {K : PySem.W.Frag} {B : Bs} {A : AS} {H : Hp} {σ : St} {env : Ev} (k : EnvOk K B A H σ env) (i : Nat) {d : Dat} {v : V} (r : Rp K (av H A) d v) : EnvOk K B A H (σ.set i (some v)) (env.set i (.fz d)) := by
  obtain ⟨own, h1, h2, h4⟩ := k.sl
  refine ⟨k.h0, k.r0, k.ra, k.ar, k.mu, by rw [List.length_set, List.length_set]; exact k.len, fun hs j d' => ?_, fun j a => j ≠ i ∧ own j a, fun j j' a q q' => h1 j j' a q.2 q'.2, fun j a q => h2 j a q.2, fun j s e => ?_⟩
  · rw [List.getElem?_set]
    split
    · split
      · intro z; cases z
      · intro z; cases z
    · exact k.np hs j d'
  by_cases hj : i = j
  · subst hj
    rw [List.getElem?_set] at e
    rw [if_pos rfl] at e
    split at e
    · rename_i hl
      cases e
      refine ⟨some v, ?_, v, rfl, r⟩
      rw [List.getElem?_set, if_pos rfl, if_pos (by rw [k.len]; exact hl)]
    · cases e
  · rw [List.getElem?_set, if_neg hj] at e
    obtain ⟨x, q1, q2⟩ := h4 j s e
    refine ⟨x, by rw [List.getElem?_set, if_neg hj]; exact q1, ?_⟩
    cases s with
    | un => trivial
    | fz d => exact q2
    | pk d => exact q2
    | ow ds => obtain ⟨a, vs, e1, e2, e3⟩ := q2; exact ⟨a, vs, e1, ⟨Ne.symm hj, e2⟩, e3⟩
theorem PG.weak {X : Cx} {e : Expr} {t t' : TG} (h : PG X e t) (w : ∀ v σ H Q, t' v σ H Q → t v σ H Q) : PG X e t' := fun pins s σ H v u Q I r q => h pins s σ H v u Q I r (w _ _ _ _ q)
theorem PGs.weak {X : Cx} {e : List Expr} {t t' : TGs} (h : PGs X e t) (w : ∀ v σ H Q, t' v σ H Q → t v σ H Q) : PGs X e t' := fun pins s σ H v u Q I r q => h pins s σ H v u Q I r (w _ _ _ _ q)
section
variable {X : Cx} {pos : Pos}
def gset (i : Nat) : Dat → Ev → Option Ev := fun d env => some (env.set i (.fz d))
theorem agree_set {σ : St} {i : Nat} {v : Option V} : Agree [i] σ (σ.set i v) := ⟨by rw [List.length_set], fun j hj => by rw [List.getElem?_set, if_neg (by intro e; exact hj (by simp [e]))]⟩
theorem g_name (i : Nat) {x : Str} (hN : X.N.Nodup) (hi : X.N[i]? = some x) (hx : Loc X.env.scope x) (hf : X.fn x = true ∨ X.env.scope.names.lookup x = some .local := by first | exact .inl rfl | exact .inr rfl | assumption) : PGd [i] X (.Name x pos) (gset i) := (pg_name hN hi hx hf).weak fun v σ H Q ⟨env, R, A, d, env', k, r, e, q⟩ => by
  cases e
  exact q _ (k.put i r) agree_set
def gsNil : List Dat → Ev → Option Ev := fun ds env => match ds with
  | [] => some env
  | _ => none
def gsCons (g : Dat → Ev → Option Ev) (gs : List Dat → Ev → Option Ev) : List Dat → Ev → Option Ev := fun ds env => match ds with
  | d :: ds => (g d env).bind fun env' => gs ds env'
  | _ => none
theorem gs_nil : PGsd [] X [] gsNil := pgs_nil.weak fun vs σ H Q ⟨env, R, A, ds, env', k, r, e, q⟩ => by
  unfold gsNil at e
  split at e
  · cases e
    exact ⟨rps_of_nil r, q σ k ⟨rfl, fun _ _ => rfl⟩⟩
  · cases e
theorem gs_cons {e : Expr} {es : List Expr} {is js : List Nat} {g : Dat → Ev → Option Ev} {gs : List Dat → Ev → Option Ev} (h1 : PGd is X e g) (h2 : PGsd js X es gs)
    (hs : (assignEach (e :: es) X.env).map (·.2) = assign e X.env :: (assignEach es X.env).map (·.2) := by rfl) : PGsd (is ++ js) X (e :: es) (gsCons g gs) := (pgs_cons h1 h2 hs).weak fun vs σ H Q ⟨env, R, A, ds, env', k, r, e, q⟩ => by
  unfold gsCons at e
  split at e
  · rename_i d ds'
    obtain ⟨env1, e1, e2⟩ := bind_some e
    obtain ⟨v, us, ev, r1, r2⟩ := rps_of_cons r
    refine ⟨v, us, ev, env, R, A, d, env1, k, r1, e1, fun σ1 k1 a1 => ⟨env1, R, A, ds', env', k1, r2, e2, fun σ2 k2 a2 => q σ2 k2 ⟨by rw [a2.1, a1.1], fun j hj => ?_⟩⟩⟩
    rw [List.mem_append, not_or] at hj
    rw [a2.2 j hj.2, a1.2 j hj.1]
  · cases e
def gtup (n : Nat) (gs : List Dat → Ev → Option Ev) : Dat → Ev → Option Ev := fun d env => match d with
  | .tup ds => if ds.length = n then gs ds env else none
  | _ => none
theorem g_tup {es : List Expr} {k : Nat} {is : List Nat} {gs : List Dat → Ev → Option Ev} {n : Nat} (hc : X.calm = true) (h : PGsd is X es gs)
    (hn : (assignEach es X.env).length = n := by rfl) (hst : (assignEach es X.env).findIdx? (·.1) = none := by rfl) : PGd is X (.Tuple es k pos) (gtup n gs) := (pg_tup hc h hn hst).weak fun v σ H Q ⟨env, R, A, d, env', k, r, e, q⟩ => by
  unfold gtup at e
  split at e
  · rename_i ds
    split at e
    · rename_i hl
      obtain ⟨a, vs, ev, h1, r1⟩ := of_tup r
      exact ⟨a, vs, ev, av_same.seqT h1, by rw [rps_len r1]; exact hl, env, R, A, ds, env', k, r1, e, q⟩
    · cases e
  · cases e
end
def innerD (fs : List (Option Nat)) (env : Ev) : Ev := fs.map fun o => match o with
  | none => .un
  | some j => match env[j]? with
    | some (.fz d) => .fz d
    | some (.pk d) => .pk d
    | some (.ow ds) => .pk (.lst ds)
    | _ => .un
theorem EnvOk.inn {K : PySem.W.Frag} {B : Bs} {A : AS} {H : Hp} {σ : St} {env : Ev} (k : EnvOk K B A H σ env) (fs : List (Option Nat)) : EnvOk K ⟨H, A, false⟩ A H (inner fs σ) (innerD fs env) := by
  obtain ⟨own, h1, h2, h4⟩ := k.sl
  refine ⟨Same.refl H, fun a h => ?_, fun _ h => h, fun _ h => .inl h, k.mu, by simp [inner, innerD], fun z => (by cases z), fun _ _ => False, fun _ _ _ h => h.elim, fun _ _ h => h.elim, fun i s e => ?_⟩
  · have := k.mu a h
    cases q : H a with
    | none => rw [q] at this; exact this.elim
    | some o => exact ⟨o, q⟩
  · unfold innerD at e
    rw [List.getElem?_map] at e
    unfold inner
    rw [List.getElem?_map]
    cases hf : fs[i]? with
    | none => rw [hf] at e; cases e
    | some o =>
      rw [hf] at e
      cases o with
      | none => cases e; exact ⟨_, rfl, trivial⟩
      | some j =>
        simp only [Option.map_some, Option.some.injEq] at e ⊢
        refine ⟨_, rfl, ?_⟩
        split at e
        · rename_i d hd
          obtain ⟨x, q1, q2⟩ := h4 j _ hd
          subst e
          rw [q1]; exact q2
        · rename_i d hd
          obtain ⟨x, q1, q2⟩ := h4 j _ hd
          subst e
          rw [q1]; exact q2
        · rename_i ds hd
          obtain ⟨x, q1, a, vs, e1, _, hz, e3, e4⟩ := h4 j _ hd
          subst e
          rw [q1]
          exact ⟨.ref a, e1, .inr ⟨a, vs, ds, rfl, rfl, hz, e3, e4⟩⟩
        · subst e; trivial
def compL (g : Dat → Ev → Option Ev) (t : Ev → Option Bool) (f : Ev → Option Dat) (env : Ev) : List Dat → Option (List Dat)
  | [] => some []
  | x :: xs => (g x env).bind fun env1 => (t env1).bind fun b => if b = true then (f env1).bind fun y => (compL g t f env xs).map (y :: ·) else compL g t f env xs
def dComp (src : Ev → Option (List Dat)) (fs : List (Option Nat)) (g : Dat → Ev → Option Ev) (t : Ev → Option Bool) (f : Ev → Option Dat) : Ev → Option (List Dat) := fun env => (src env).bind fun ds => compL g t f (innerD fs env) ds
theorem compL_len {g : Dat → Ev → Option Ev} {t : Ev → Option Bool} {f : Ev → Option Dat} {env : Ev} : ∀ {xs ys : List Dat}, compL g t f env xs = some ys → ys.length ≤ xs.length
  | [], ys, h => by cases h; exact Nat.le_refl _
  | x :: xs, ys, h => by
    rw [compL] at h
    obtain ⟨env1, e1, h⟩ := bind_some h
    obtain ⟨b, e2, h⟩ := bind_some h
    split at h
    · obtain ⟨y, e3, h⟩ := bind_some h
      obtain ⟨zs, e4, h⟩ := map_some h
      subst h
      exact Nat.succ_le_succ (compL_len e4)
    · exact Nat.le_succ_of_le (compL_len h)
def PFd (X : Cx) (ifs : List Expr) (t : Ev → Option Bool) : Prop := PIf X ifs fun σ H Q => ∃ env R A b, EnvOk X.K R A H σ env ∧ t env = some b ∧ ∀ H', Same H H' → Q b H'
def tTrue : Ev → Option Bool := fun _ => some true
theorem PIf.weak {X : Cx} {e : List Expr} {t t' : TT} (h : PIf X e t) (w : ∀ σ H Q, t' σ H Q → t σ H Q) : PIf X e t' := fun pins s σ H Q I q => h pins s σ H Q I (w σ H Q q)
theorem f_nil {X : Cx} : PFd X [] tTrue := (pif_nil (Y := X)).weak fun σ H Q ⟨env, R, A, b, k, e, q⟩ => by cases e; exact q H (Same.refl H)
section
variable {X : Cx} {sc : Scope}
theorem comp_go {J : It} {fs : List (Option Nat)} {is : List Nat} {g : Dat → Ev → Option Ev} {t : Ev → Option Bool} {f : Ev → Option Dat} {σ : St} {H1 : Hp} {Q : VK} {K : PySem.W.Frag} {A : AS} {B : Bs} {env : Ev} {ds ys : List Dat}
    (hfs : ∀ i ∈ is, fs[i]? = some none) (k : EnvOk K B A H1 σ env) (hJ : ItOk false K A H1 ds J) (hz : ds.length ≤ sizeLine) (hc : compL g t f (innerD fs env) ds = some ys) (q : NewC K A H1 ys Q) :
    ∃ W : Nat → Nat → List V → Hp → Prop, (∃ m, W 0 m [] H1) ∧ ∀ i m zs H, W i m zs H →
      (J.stop i H ∧ zs.length ≤ sizeLine ∧ ∀ p, H p = none → Q (.ref p) (upd H p (.lst zs))) ∨
      (J.go i H ∧ zs.length ≤ sizeLine ∧ ∃ N : List V → Hp → Prop, (∀ ys' H', N ys' H' → ∃ m', m' < m ∧ W (i + 1) m' ys' H') ∧ ∀ x H', J.yld i H x H' → (∃ env R A d env', EnvOk K R A H' (inner fs σ) env ∧ Rp K (av H' A) d x ∧ g d env = some env' ∧ ∀ σ', EnvOk K R A H' σ' env' → Agree is (inner fs σ) σ' →
        (Ext (inner fs σ) σ' ∧ ∃ env R A b, EnvOk K R A H' σ' env ∧ t env = some b ∧ ∀ H3, Same H' H3 → if b = true then ∃ env R A d, EnvOk K R A H3 σ' env ∧ f env = some d ∧ RegC false K A H3 d (fun v H4 => N (zs ++ [v]) H4) else N zs H3))) := by
  have hl := compL_len hc
  refine ⟨fun i m zs H => m = ds.length - i ∧ i ≤ ds.length ∧ Same H1 H ∧ ∃ us rest, compL g t f (innerD fs env) (ds.drop i) = some rest ∧ us ++ rest = ys ∧ Rps K (av H A) us zs,
    ⟨ds.length, by simp, Nat.zero_le _, Same.refl _, [], ys, by simpa using hc, rfl, rps_nil⟩, ?_⟩
  rintro i m zs H ⟨rfl, hi, s1, us, rest, e1, e2, r⟩
  have hzs : zs.length ≤ sizeLine := by
    rw [rps_len r]
    have : us.length ≤ ys.length := by rw [← e2, List.length_append]; omega
    omega
  obtain ⟨hgo, hstop⟩ := hJ A H ⟨rfl, s1⟩ (k.mono s1).mu
  by_cases hlt : i < ds.length
  · have hx : ds[i]? = some ds[i] := by simp [hlt]
    obtain ⟨go, yl⟩ := hgo i _ hx
    rw [List.drop_eq_getElem_cons hlt, compL] at e1
    obtain ⟨env1, b1, e1⟩ := bind_some e1
    obtain ⟨b, b2, e1⟩ := bind_some e1
    refine .inr ⟨go, hzs, fun zs' H' => i + 1 ≤ ds.length ∧ Same H1 H' ∧ ∃ us rest, compL g t f (innerD fs env) (ds.drop (i + 1)) = some rest ∧ us ++ rest = ys ∧ Rps K (av H' A) us zs',
      fun zs' H' h => ⟨ds.length - (i + 1), by omega, rfl, h⟩, fun x H' hy => ?_⟩
    obtain ⟨s2, rx⟩ := yl x H' hy
    refine ⟨innerD fs env, ⟨H1, A, false⟩, A, ds[i], env1, (k.inn fs).mono (s1.trans s2), rx, b1, fun σ' k' ag => ⟨⟨ag.1.symm, fun j v ej => ?_⟩, env1, ⟨H1, A, false⟩, A, b, k', b2, fun H3 s3 => ?_⟩⟩
    · have hj : j ∉ is := fun hj => by
        have := hfs j hj
        unfold inner at ej
        rw [List.getElem?_map, this] at ej
        cases ej
      rw [ag.2 j hj]; exact ej
    · cases b with
      | true =>
        rw [if_pos rfl] at e1 ⊢
        obtain ⟨y, b3, e1⟩ := bind_some e1
        obtain ⟨rest', b4, e1⟩ := map_some e1
        subst e1
        refine ⟨env1, ⟨H1, A, false⟩, A, y, k'.mono s3, b3, fun v H4 s4 rv => ⟨hlt, ((s1.trans s2).trans s3).trans s4, us ++ [y], rest', b4, by rw [List.append_assoc]; exact e2, rps_append (r.mono (av_mono ((s2.trans s3).trans s4))) (rps_one rv)⟩⟩
      | false =>
        rw [if_neg Bool.false_ne_true] at e1 ⊢
        exact ⟨hlt, (s1.trans s2).trans s3, us, rest, e1, e2, r.mono (av_mono (s2.trans s3))⟩
  · have e : i = ds.length := by omega
    subst e
    rw [List.drop_length, compL] at e1
    cases e1
    rw [List.append_nil] at e2
    subst e2
    exact .inl ⟨hstop, hzs, (q.mono s1).at (by omega) r⟩
variable {elt tg iter : Expr} {ifs : List Expr} {pos : Pos} {src : Ev → Option (List Dat)} {is : List Nat} {g : Dat → Ev → Option Ev} {t : Ev → Option Bool} {f : Ev → Option Dat}
theorem n_comp (psc : Scope) (fs : List (Option Nat)) (N : List Str) (hp : X.env.scope = psc) (S : CompOk psc sc X.N N fs) (hc : X.calm = true) (hi : PId false X tg iter src)
    (hb : ∀ (C : Addr) (s : Shared) (H : Hp) (fp : List Addr), PGd is (compCx X sc N C s H fp) tg g ∧ PFd (compCx X sc N C s H fp) ifs t ∧ PXd false (compCx X sc N C s H fp) elt f)
    (hfs : ∀ i ∈ is, fs[i]? = some none) (hs : ∀ x, foldedSetIterable iter X.env x = pure x := by intro _; rfl) : PNd X (.ListComp elt [⟨tg, iter, ifs, 0⟩] sc pos) (dComp src fs g t f) := by
  refine PE.weak (pe_comp (g := fun v σ H Q => ∃ env R A d env', EnvOk X.K R A H σ env ∧ Rp X.K (av H A) d v ∧ g d env = some env' ∧ ∀ σ', EnvOk X.K R A H σ' env' → Agree is σ σ' → Q σ' H) (tt := fun σ H Q => ∃ env R A b, EnvOk X.K R A H σ env ∧ t env = some b ∧ ∀ H', Same H H' → Q b H') (te := fun σ H Q => ∃ env R A d, EnvOk X.K R A H σ env ∧ f env = some d ∧ RegC false X.K A H d Q) psc fs N hp S hc hi hb hs) fun σ H Q ⟨env, R, A, ys, k, e, q⟩ => ?_
  obtain ⟨ds, e1, e2⟩ := bind_some e
  exact ⟨env, R, A, ds, k, e1, fun J H1 hz s1 hJ => comp_go hfs (k.mono s1) hJ hz e2 (q.mono s1)⟩
end
end L2
set_option Elab.async false
set_option linter.all false
set_option maxRecDepth 100000
namespace L2
open PySem PySem.Spec PyProof.Rows
inductive Fl where
  | next (env : Ev) | ret (d : Dat) | brk (env : Ev) | cont (env : Ev) | exc (env : Ev) (c : Str) (fs : List (Str × XD)) | no
def NwT (K : PySem.W.Frag) (B : Bs) (H' : Hp) (d : Dat) (v : V) : Prop := ∀ ds, d = .lst ds → ∃ p vs, v = .ref p ∧ B.H₀ p = none ∧ H' p = some (.lst vs) ∧ ds.length ≤ sizeLine ∧ Rps K (av H' (ins B.R p)) ds vs
structure XSt (X : Cx) (pins : List (Addr × Obj)) (H : Hp) (h : Heap) (e C : Addr) (dct : Option Addr) : Prop where
  lo : X.s₀.heap.objs.size ≤ e
  un : H e = none
  ob : (∃ o vs, h.get? e = some o ∧ o.cls = .ref C ∧ o.dict = dct ∧ o.data = .fields vs ∧ vs[1]? = some .none) ∨ ∃ T, X.s₀.heap.objs.size ≤ T ∧ H T = none ∧ (∀ p ∈ X.pn ++ pins, p.1 ≠ T) ∧ TrX h X.base e T (.ref C) dct .none
  pe : ∀ p ∈ X.pn ++ pins, p.1 ≠ e
def XW (X : Cx) (A : AS) (H : Hp) (σ : St) (c : Str) (fs : List (Str × XD)) : Prop :=
  ∀ (pins : List (Addr × Obj)) (s : Shared) (e C : Addr) (dct : Option Addr), Inv X pins σ H s → clsAt X.K c C → XSt X pins H s.heap e C dct → XFs X.K (av H A) dct fs → X.xe (.ref e) s
def FlOk (fr : Bool) (X : Cx) (B : Bs) (A : AS) (H : Hp) (D : Ends) : Fl → Prop
  | .next env' => ∀ A' H' σ', Step A H A' H' → EnvOk X.K B A' H' σ' env' → D.nx σ' H'
  | .brk env' => ∀ A' H' σ', Step A H A' H' → EnvOk X.K B A' H' σ' env' → D.bk σ' H'
  | .cont env' => ∀ A' H' σ', Step A H A' H' → EnvOk X.K B A' H' σ' env' → D.ct σ' H'
  | .ret d => ∀ v H', Same B.H₀ H' → Rp X.K (av H' B.R) d v → (fr = true → NwT X.K B H' d v) → D.rt v H'
  | .exc env' c fs => ∀ A' H' σ', Step A H A' H' → EnvOk X.K B A' H' σ' env' → XW X A' H' σ' c fs
  | .no => False
def tS (fr : Bool) (X : Cx) (g : Ev → Fl) : TS := fun D σ H => ∃ env B A, EnvOk X.K B A H σ env ∧ B.st = true ∧ FlOk fr X B A H D (g env)
def PSd (fr : Bool) (X : Cx) (st : Stmt) (g : Ev → Fl) : Prop := PS X st (tS fr X g)
def PBd (fr : Bool) (X : Cx) (st : List Stmt) (g : Ev → Fl) : Prop := PSs X st (tS fr X g)
theorem FlOk.step {fr : Bool} {X : Cx} {B : Bs} {A A' : AS} {H H' : Hp} {D : Ends} {r : Fl} (h : FlOk fr X B A H D r) (s : Step A H A' H') : FlOk fr X B A' H' D r := by
  cases r with
  | next e => exact fun A2 H2 σ2 s2 k => h A2 H2 σ2 (s.trans s2) k
  | brk e => exact fun A2 H2 σ2 s2 k => h A2 H2 σ2 (s.trans s2) k
  | cont e => exact fun A2 H2 σ2 s2 k => h A2 H2 σ2 (s.trans s2) k
  | ret d => exact h
  | exc e c fs => exact fun A2 H2 σ2 s2 k => h A2 H2 σ2 (s.trans s2) k
  | no => exact h
section
variable {fr m : Bool} {X : Cx} {st : Stmt} {rest a b : List Stmt} {e c : Expr} {g h : Ev → Fl} {f : Ev → Option Dat} {fs : Ev → Option (List Dat)} {t : Ev → Option Bool} {pos : Pos}
def bNil : Ev → Fl := fun env => .next env
def bCons (g h : Ev → Fl) : Ev → Fl := fun env => match g env with
  | .next env' => h env'
  | r => r
theorem b_nil : PBd fr X [] bNil := pss_nil.weak fun D σ H ⟨env, B, A, k, hst, q⟩ => q A H σ (Step.refl A H) k
theorem b_cons (h1 : PSd fr X st g) (h2 : PBd fr X rest h) : PBd fr X (st :: rest) (bCons g h) := (pss_cons h1 h2).weak fun D σ H ⟨env, B, A, k, hst, q⟩ => by
  refine ⟨env, B, A, k, hst, ?_⟩
  unfold bCons at q
  split at q
  · rename_i env' e
    rw [e]
    exact fun A' H' σ' s k' => ⟨env', B, A', k', hst, q.step s⟩
  · rename_i r hn
    cases e : g env with
    | next env' => exact absurd e (hn env')
    | brk e' => rw [e] at q; exact q
    | cont e' => rw [e] at q; exact q
    | ret d => rw [e] at q; exact q
    | exc e' c fs => rw [e] at q; exact q
    | no => rw [e] at q; exact q
theorem b_one (h1 : PSd fr X st g) : PBd fr X [st] g := pss_one h1
def sIf (t : Ev → Option Bool) (g h : Ev → Fl) : Ev → Fl := fun env => match t env with
  | some true => g env
  | some false => h env
  | none => .no
theorem s_if (hc : PTd X c t) (ha : PBd fr X a g) (hb : PBd fr X b h) : PSd fr X (.If c a b pos) (sIf t g h) := (ps_if hc ha hb).weak fun D σ H ⟨env, B, A, k, hst, q⟩ => by
  unfold sIf at q
  split at q
  · rename_i e
    refine ⟨env, B, A, true, k, e, fun H' s => ?_⟩
    exact iteT ⟨env, B, A, k.mono s, hst, q.step (Step.same s)⟩
  · rename_i e
    refine ⟨env, B, A, false, k, e, fun H' s => ?_⟩
    exact iteF ⟨env, B, A, k.mono s, hst, q.step (Step.same s)⟩
  · exact q.elim
def sRet (f : Ev → Option Dat) : Ev → Fl := fun env => match f env with
  | some d => .ret d
  | none => .no
theorem ret_ok {B : Bs} {A : AS} {H H' : Hp} {σ : St} {env : Ev} {d : Dat} {v : V} (k : EnvOk X.K B A H σ env) (s : Same H H') (r : Rp X.K (av H' A) d v) : Same B.H₀ H' ∧ Rp X.K (av H' B.R) d v := ⟨k.h0.trans s, r.mono (av_less k.ra)⟩
theorem s_ret (he : PXd false X e f) : PSd false X (.Return (some e) pos) (sRet f) := (ps_ret he).weak fun D σ H ⟨env, B, A, k, hst, q⟩ => by
  unfold sRet at q
  split at q
  · rename_i d e
    exact ⟨env, B, A, d, k, e, fun v H' s r => q v H' (ret_ok k s r).1 (ret_ok k s r).2 (fun z => by cases z)⟩
  · exact q.elim
theorem np_set {env : Ev} {i : Nat} {s : Slt} (h : ∀ (j : Nat) d, env[j]? ≠ some (.pk d)) (hs : ∀ d, s ≠ .pk d) : ∀ (j : Nat) d, (env.set i s)[j]? ≠ some (.pk d) := fun j d => by
  rw [List.getElem?_set]
  split
  · split
    · intro z; exact hs d (Option.some.inj z)
    · intro z; cases z
  · exact h j d
theorem EnvOk.own {K : PySem.W.Frag} {B : Bs} {A : AS} {H : Hp} {σ : St} {env : Ev} {i : Nat} {ds : List Dat} (k : EnvOk K B A H σ env) (hst : B.st = true) (h : env[i]? = some (.ow ds)) :
    ∃ a vs, σ[i]? = some (some (.ref a)) ∧ H a = some (.lst vs) ∧ Rps K (av H A) ds vs ∧ ds.length ≤ sizeLine ∧ A a = true ∧ B.R a = false ∧ B.H₀ a = none ∧
      (∀ ds' vs', ds'.length ≤ sizeLine → Rps K (av H A) ds' vs' → Step A H A (upd H a (.lst vs')) ∧ EnvOk K B A (upd H a (.lst vs')) σ (env.set i (.ow ds'))) ∧
      Step A H (fun b => A b && b != a) H ∧ EnvOk K B (fun b => A b && b != a) H σ (env.set i (.fz (.lst ds))) := by
  obtain ⟨own, h1, h2, h4⟩ := k.sl
  obtain ⟨x, q1, a, vs, e1, e2, hz, e3, e4⟩ := h4 i _ h
  subst e1
  obtain ⟨hA, hR⟩ := h2 i a e2
  have h0 : B.H₀ a = none := by
    rcases k.ar a hA with z | z
    · rw [z] at hR; cases hR
    · exact z
  have avs : ∀ vs', Same (av H A) (av (upd H a (.lst vs')) A) := fun vs' b o e => by
    obtain ⟨z1, z2⟩ := av_of e
    have hb : b ≠ a := by intro z; rw [z, hA] at z1; cases z1
    exact av_at (by rw [upd_ne hb]; exact z2) z1
  refine ⟨a, vs, q1, e3, e4, hz, hA, hR, h0, fun ds' vs' hz' r' => ⟨⟨fun b o hb hAb => ?_, fun b hb => .inl hb⟩, ?_⟩, ⟨fun b o hb _ => hb, fun b hb => .inl ?_⟩, ?_⟩
  · have hn : b ≠ a := by intro z; rw [z, hA] at hAb; cases hAb
    rw [upd_ne hn]; exact hb
  · refine ⟨fun b o hb => ?_, k.r0, k.ra, k.ar, fun b hb => ?_, by rw [List.length_set]; exact k.len, fun hs j d' => np_set (k.np hs) (fun _ z => by cases z) j d', own, h1, h2, fun j s e => ?_⟩
    · have hn : b ≠ a := ne_of_none hb h0
      rw [upd_ne hn]; exact k.h0 b o hb
    · by_cases hn : b = a
      · subst hn; rw [upd_same]; trivial
      · rw [upd_ne hn]; exact k.mu b hb
    · by_cases hj : i = j
      · subst hj
        rw [List.getElem?_set, if_pos rfl] at e
        split at e
        · cases e
          exact ⟨_, q1, a, vs', rfl, e2, hz', upd_same, r'.mono (avs vs')⟩
        · cases e
      · rw [List.getElem?_set, if_neg hj] at e
        obtain ⟨x, p1, p2⟩ := h4 j s e
        refine ⟨x, p1, ?_⟩
        cases s with
        | un => trivial
        | fz d => obtain ⟨v, z1, z2⟩ := p2; exact ⟨v, z1, z2.mono (avs vs')⟩
        | pk d =>
          exact absurd e (k.np hst j d)
        | ow es =>
          obtain ⟨b, us, z1, z2, z3, z4, z5⟩ := p2
          have hn : b ≠ a := fun z => hj (h1 i j a e2 (z ▸ z2))
          exact ⟨b, us, z1, z2, z3, by rw [upd_ne hn]; exact z4, z5.mono (avs vs')⟩
  · rw [Bool.and_eq_true] at hb; exact hb.1
  · have less : Same (av H A) (av H fun b => A b && b != a) := av_less fun b hb => by rw [Bool.and_eq_true] at hb; exact hb.1
    refine ⟨k.h0, k.r0, fun b hb => ?_, fun b hb => ?_, fun b hb => ?_, by rw [List.length_set]; exact k.len, fun hs j d' => np_set (k.np hs) (fun _ z => by cases z) j d', fun j b => j ≠ i ∧ own j b, fun j j' b z z' => h1 j j' b z.2 z'.2, fun j b z => ?_, fun j s e => ?_⟩
    · have hn : b ≠ a := by intro z; rw [z, hR] at hb; cases hb
      simp [k.ra b hb, hn]
    · rw [Bool.and_eq_true] at hb; exact k.ar b hb.1
    · rw [Bool.and_eq_true] at hb; exact k.mu b hb.1
    · have hn : b ≠ a := fun w => z.1 (h1 j i a (w ▸ z.2) e2)
      simp [(h2 j b z.2).1, (h2 j b z.2).2, hn]
    · by_cases hj : i = j
      · subst hj
        rw [List.getElem?_set, if_pos rfl] at e
        split at e
        · cases e
          exact ⟨_, q1, .ref a, rfl, rp_lst hz (.inl (.inl (av_at e3 (by simp)))) (e4.mono less)⟩
        · cases e
      · rw [List.getElem?_set, if_neg hj] at e
        obtain ⟨x, p1, p2⟩ := h4 j s e
        refine ⟨x, p1, ?_⟩
        cases s with
        | un => trivial
        | fz d => obtain ⟨v, z1, z2⟩ := p2; exact ⟨v, z1, z2.mono less⟩
        | pk d =>
          obtain ⟨v, z1, z2⟩ := p2
          refine ⟨v, z1, ?_⟩
          rcases z2 with z2 | ⟨b, us, es, y1, y2, y3, y4, y5⟩
          · exact .inl (z2.mono less)
          · exact .inr ⟨b, us, es, y1, y2, y3, y4, y5.mono less⟩
        | ow es =>
          obtain ⟨b, us, z1, z2, z3, z4, z5⟩ := p2
          exact ⟨b, us, z1, ⟨Ne.symm hj, z2⟩, z3, z4, z5.mono less⟩
def frz (i : Nat) : Ev → Ev := fun env => match env[i]? with
  | some (.ow ds) => env.set i (.fz (.lst ds))
  | _ => env
def sSet (i : Nat) (f : Ev → Option Dat) : Ev → Fl := fun env => match f env with
  | some d => .next (env.set i (.fz d))
  | none => .no
def sOwn (i : Nat) (f : Ev → Option (List Dat)) : Ev → Fl := fun env => match f env with
  | some ds => .next (env.set i (.ow ds))
  | none => .no
theorem EnvOk.putO {K : PySem.W.Frag} {B : Bs} {A : AS} {H H' : Hp} {σ : St} {env : Ev} (k : EnvOk K B A H σ env) (hst : B.st = true) (i : Nat) {ds : List Dat} {p : Addr} {vs : List V} (hz : ds.length ≤ sizeLine) (s : Same H H') (hn : H p = none) (hp : H' p = some (.lst vs)) (r : Rps K (av H' (ins A p)) ds vs) :
    Step A H (ins A p) H' ∧ EnvOk K B (ins A p) H' (σ.set i (some (.ref p))) (env.set i (.ow ds)) := by
  have st : Step A H (ins A p) H' := ⟨fun a o h _ => s a o h, fun a h => by
    rcases ins_or h with z | z
    · exact .inl z
    · rw [z]; exact .inr hn⟩
  have hAp : A p = false := k.mu.new hn
  have h0 : B.H₀ p = none := k.h0.free hn
  obtain ⟨own, h1, h2, h4⟩ := k.sl
  refine ⟨st, k.h0.trans s, k.r0, fun a h => ins_of (k.ra a h), fun a h => ?_, fun a h => ?_, by rw [List.length_set, List.length_set]; exact k.len, fun hs j d' => np_set (k.np hs) (fun _ z => by cases z) j d',
    fun j a => (j ≠ i ∧ own j a) ∨ (j = i ∧ a = p), fun j j' a z z' => ?_, fun j a z => ?_, fun j sl e => ?_⟩
  · rcases ins_or h with z | z
    · exact k.ar a z
    · rw [z]; exact .inr h0
  · rcases ins_or h with z | z
    · exact k.mu.mono s a z
    · rw [z, hp]; trivial
  · rcases z with z | z <;> rcases z' with z' | z'
    · exact h1 j j' a z.2 z'.2
    · have := (h2 j a z.2).1; rw [z'.2, hAp] at this; cases this
    · have := (h2 j' a z'.2).1; rw [z.2, hAp] at this; cases this
    · rw [z.1, z'.1]
  · rcases z with z | z
    · exact ⟨ins_of (h2 j a z.2).1, (h2 j a z.2).2⟩
    · refine ⟨by rw [z.2]; exact ins_self, ?_⟩
      cases q : B.R a with
      | false => rfl
      | true => obtain ⟨o, ho⟩ := k.r0 a q; rw [z.2, h0] at ho; cases ho
  · by_cases hj : i = j
    · subst hj
      rw [List.getElem?_set, if_pos rfl] at e
      split at e
      · rename_i hl
        cases e
        exact ⟨some (.ref p), by rw [List.getElem?_set, if_pos rfl, if_pos (by rw [k.len]; exact hl)], p, vs, rfl, .inr ⟨rfl, rfl⟩, hz, hp, r⟩
      · cases e
    · rw [List.getElem?_set, if_neg hj] at e
      obtain ⟨x, p1, p2⟩ := h4 j sl e
      refine ⟨x, by rw [List.getElem?_set, if_neg hj]; exact p1, ?_⟩
      cases sl with
      | un => trivial
      | fz d => obtain ⟨v, z1, z2⟩ := p2; exact ⟨v, z1, z2.mono st.av⟩
      | pk d => exact absurd e (k.np hst j d)
      | ow es =>
        obtain ⟨b, us, z1, z2, z3, z4, z5⟩ := p2
        exact ⟨b, us, z1, .inl ⟨Ne.symm hj, z2⟩, z3, s _ _ z4, z5.mono st.av⟩
theorem s_set (i : Nat) {x : Str} {pos' : Pos} (hN : X.N.Nodup) (hi : X.N[i]? = some x) (hx : Loc X.env.scope x) (he : PXd false X e f) (hs : swapsWith e (some (.Name x pos')) pos.line X.env = pure false := by rfl)
    (hf : X.fn x = true ∨ X.env.scope.names.lookup x = some .local := by first | exact .inl rfl | exact .inr rfl | assumption) : PSd fr X (.Assign [.Name x pos'] e pos) (sSet i f) := (ps_set hN hi hx he hs hf).weak fun D σ H ⟨env, B, A, k, hst, q⟩ => by
  unfold sSet at q
  split at q
  · rename_i d e
    exact ⟨env, B, A, d, k, e, fun v H' s r => q A H' _ (Step.same s) ((k.mono s).put i r)⟩
  · exact q.elim
theorem s_own (i : Nat) {x : Str} {pos' : Pos} (hN : X.N.Nodup) (hi : X.N[i]? = some x) (hx : Loc X.env.scope x) (he : PNd X e fs) (hs : swapsWith e (some (.Name x pos')) pos.line X.env = pure false := by rfl)
    (hf : X.fn x = true ∨ X.env.scope.names.lookup x = some .local := by first | exact .inl rfl | exact .inr rfl | assumption) : PSd fr X (.Assign [.Name x pos'] e pos) (sOwn i fs) := (ps_set hN hi hx he hs hf).weak fun D σ H ⟨env, B, A, k, hst, q⟩ => by
  unfold sOwn at q
  split at q
  · rename_i ds e
    refine ⟨env, B, A, ds, k, e, fun p vs H' hz s hn hp r => ?_⟩
    obtain ⟨h1, h2⟩ := k.putO hst i hz s hn hp r
    exact q _ H' _ h1 h2
  · exact q.elim
variable {sc : Scope} {elt tg iter : Expr} {ifs : List Expr} {src : Ev → Option (List Dat)} {is : List Nat} {gg : Dat → Ev → Option Ev} {tt : Ev → Option Bool}
theorem s_setC (i : Nat) {x : Str} {pos' spos : Pos} (hN : X.N.Nodup) (hi' : X.N[i]? = some x) (hx : Loc X.env.scope x) (psc : Scope) (fs : List (Option Nat)) (N : List Str) (hp : X.env.scope = psc) (S : CompOk psc sc X.N N fs) (hc : X.calm = true) (hi : PId false X tg iter src)
    (hb : ∀ (C : Addr) (s : Shared) (H : Hp) (fp : List Addr), PGd is (compCx X sc N C s H fp) tg gg ∧ PFd (compCx X sc N C s H fp) ifs tt ∧ PXd false (compCx X sc N C s H fp) elt f)
    (hfs : ∀ i ∈ is, fs[i]? = some none) (hs : ∀ x, foldedSetIterable iter X.env x = pure x := by intro _; rfl) (hsw : swapsWith (.ListComp elt [⟨tg, iter, ifs, 0⟩] sc pos) (some (.Name x pos')) spos.line X.env = pure true := by rfl)
    (hf : X.fn x = true ∨ X.env.scope.names.lookup x = some .local := by first | exact .inl rfl | exact .inr rfl | assumption) :
    PSd fr X (.Assign [.Name x pos'] (.ListComp elt [⟨tg, iter, ifs, 0⟩] sc pos) spos) (sSet i (dL (dComp src fs gg tt f))) := (ps_setComp (g := fun v σ H Q => ∃ env R A d env', EnvOk X.K R A H σ env ∧ Rp X.K (av H A) d v ∧ gg d env = some env' ∧ ∀ σ', EnvOk X.K R A H σ' env' → Agree is σ σ' → Q σ' H) (tt := fun σ H Q => ∃ env R A b, EnvOk X.K R A H σ env ∧ tt env = some b ∧ ∀ H', Same H H' → Q b H') (te := fun σ H Q => ∃ env R A d, EnvOk X.K R A H σ env ∧ f env = some d ∧ RegC false X.K A H d Q) hN hi' hx psc fs N hp S hc hi hb hs hsw hf).weak fun D σ H ⟨env, B, A, k, hst, q⟩ => by
  unfold sSet at q
  split at q
  · rename_i d e
    obtain ⟨ys, e', ed⟩ := map_some e
    subst ed
    obtain ⟨ds, e1, e2⟩ := bind_some e'
    have q' : RegC false X.K A H (.lst ys) (fun v H' => D.nx (σ.set i (some v)) H') := fun v H' s r => q A H' _ (Step.same s) ((k.mono s).put i r)
    exact ⟨env, B, A, ds, k, e1, fun J H1 hz s1 hJ => comp_go (Q := fun v H' => D.nx (σ.set i (some v)) H') hfs (k.mono s1) hJ hz e2 ((q'.new k.mu).mono s1)⟩
  · exact q.elim
def sAsg (f : Ev → Option Dat) (g : Dat → Ev → Option Ev) : Ev → Fl := fun env => match (f env).bind fun d => g d env with
  | some env' => .next env'
  | none => .no
theorem s_asg {tg e : Expr} {is : List Nat} {g : Dat → Ev → Option Ev} (he : PXd false X e f) (hg : PGd is X tg g) (hs : swapsWithSole [tg] e pos.line X.env = pure false := by rfl) (hw : swappedStores [tg] e X.env = pure none := by rfl) (h1 : (assignEach [tg] X.env).map (·.2) = [assign tg X.env] := by rfl) : PSd fr X (.Assign [tg] e pos) (sAsg f g) := (ps_asg he hg hs hw h1).weak fun D σ H ⟨env, B, A, k, hst, q⟩ => by
  unfold sAsg at q
  split at q
  · rename_i env' e
    obtain ⟨d, e1, e2⟩ := bind_some e
    exact ⟨env, B, A, d, k, e1, fun v H' s r => ⟨env, B, A, d, env', k.mono s, r, e2, fun σ' k' _ => q A H' σ' (Step.same s) k'⟩⟩
  · exact q.elim
def forL (g : Dat → Ev → Option Ev) (body : Ev → Fl) : List Dat → Ev → Fl
  | [], env => .next env
  | x :: xs, env => match g x env with
    | none => .no
    | some env1 => match body env1 with
      | .next e => forL g body xs e
      | .cont e => forL g body xs e
      | .brk e => .next e
      | .ret d => .ret d
      | .exc e c fs => .exc e c fs
      | .no => .no
def sFor (src : Ev → Option (List Dat)) (g : Dat → Ev → Option Ev) (body : Ev → Fl) : Ev → Fl := fun env => match src env with
  | none => .no
  | some ds => forL g body ds env
theorem s_for {body : List Stmt} (hp : PassesOwn (model X.prog X.w) X.A X.env X.xe) (hc : X.calm = true) (hi : PId true X tg iter src) (hg : PGd is X tg gg) (hb : PBd fr X body g)
    (hs : ∀ x, foldedSetIterable iter X.env x = pure x := by intro _; rfl) : PSd fr X (.For tg iter body [] pos) (sFor src gg g) := (ps_for hp hc hi hg hb hs).weak fun D σ H ⟨env, B, A, k, hst, q⟩ => by
  unfold sFor at q
  split at q
  · exact q.elim
  rename_i ds e
  refine ⟨env, B, A, ds, k, e, fun J H1 hz s1 hJ => ?_⟩
  refine ⟨fun i m σ' H' => m = ds.length - i ∧ i ≤ ds.length ∧ ∃ A' env', Step A H1 A' H' ∧ EnvOk X.K B A' H' σ' env' ∧ FlOk fr X B A' H' D (forL gg g (ds.drop i) env'),
    ⟨ds.length, by simp, Nat.zero_le _, A, env, Step.refl A H1, k.mono s1, by simpa using q.step (Step.same s1)⟩, ?_⟩
  rintro i m σ' H' ⟨rfl, hi', A', env', s', k', q'⟩
  obtain ⟨hgo, hstop⟩ := hJ A' H' s' k'.mu
  by_cases hlt : i < ds.length
  · obtain ⟨go, yl⟩ := hgo i _ (show ds[i]? = some ds[i] by simp [hlt])
    refine .inr ⟨go, fun σ2 H2 => i + 1 ≤ ds.length ∧ ∃ A2 env2, Step A H1 A2 H2 ∧ EnvOk X.K B A2 H2 σ2 env2 ∧ FlOk fr X B A2 H2 D (forL gg g (ds.drop (i + 1)) env2), fun σ2 H2 z => ⟨ds.length - (i + 1), by omega, rfl, z⟩, fun x H2 hy => ?_⟩
    obtain ⟨s2, rx⟩ := yl x H2 hy
    rw [List.drop_eq_getElem_cons hlt, forL] at q'
    split at q'
    · exact q'.elim
    rename_i env1 e1
    refine ⟨env', B, A', ds[i], env1, k'.mono s2, rx, e1, fun σ3 k3 _ => ⟨env1, B, A', k3, hst, ?_⟩⟩
    have st2 : Step A' H' A' H2 := Step.same s2
    split at q'
    · rename_i e2 eb
      rw [eb]
      exact fun A4 H4 σ4 s4 k4 => ⟨hlt, A4, e2, s'.trans (st2.trans s4), k4, q'.step (st2.trans s4)⟩
    · rename_i e2 eb
      rw [eb]
      exact fun A4 H4 σ4 s4 k4 => ⟨hlt, A4, e2, s'.trans (st2.trans s4), k4, q'.step (st2.trans s4)⟩
    · rename_i e2 eb
      rw [eb]
      exact fun A4 H4 σ4 s4 k4 => q' A4 H4 σ4 (st2.trans s4) k4
    · rename_i d eb
      rw [eb]
      exact q'
    · rename_i e2 c2 f2 eb
      rw [eb]
      exact fun A4 H4 σ4 s4 k4 => q' A4 H4 σ4 (st2.trans s4) k4
    · exact q'.elim
  · have e : i = ds.length := by omega
    subst e
    rw [List.drop_length, forL] at q'
    exact .inl ⟨hstop, q' A' H' σ' (Step.refl _ _) k'⟩
def MtU (X : Cx) (id : String) (F : List Dat → List Dat → Option (List Dat)) : Prop := MtR X id (fun v us H Q => ∃ A a vs ds as ds', MuOk A H ∧ v = .ref a ∧ H a = some (.lst vs) ∧ Rps X.K (av H A) ds vs ∧ Rms false X.K A H as us ∧ F ds as = some ds' ∧ ∀ w vs', ds'.length ≤ sizeLine → Rps X.K (av H A) ds' vs' → Q w (upd H a (.lst vs')))
def sMeth (i : Nat) (F : List Dat → List Dat → Option (List Dat)) (fs : Ev → Option (List Dat)) : Ev → Fl := fun env => match env[i]? with
  | some (.ow ds) => match (fs env).bind fun as => F ds as with
    | some ds' => .next (env.set i (.ow ds'))
    | none => .no
  | _ => .no
theorem s_meth (i : Nat) {x : Str} {es : List Expr} {name : Str} {id : String} {F : List Dat → List Dat → Option (List Dat)} {p apos cpos : Pos} (slot : Slot "list" name id) (hty : typeOf (.builtin id) = pure (.type "method_descriptor")) (hm : MtU X id F) (ha : PAd false X (e :: es) fs)
    (hN : X.N[i]? = some x := by rfl) (hv : Vis X.env.scope x := by first | exact Or.inl rfl | exact Or.inr (Or.inl rfl) | exact Or.inr (Or.inr rfl)) (hd : (x == ("__debug__" : Str)) = false := by decide) (hcd : (x == ("__classdict__" : Str)) = false := by decide)
    (hsw : swapsWith (.Call (.Attribute (.Name x p) name apos) (e :: es) [] cpos) none pos.line X.env = pure false := by rfl)
    (hbase : attributeBase (.Name x p) name X.env (eval (.Name x p) X.env) = eval (.Name x p) X.env := by rfl)
    (hfew : ((backTo cpos (starEach (e :: es) X.env)).all (fun x => !x.1) && (backToKw cpos (keywordEach [] X.env)).all (fun x => x.1.isSome)
      && decide ((e :: es).length + ([] : List Keyword).length + (if ([] : List Keyword).isEmpty then 0 else 1) < 30)) = true := by rfl)
    (hline : (apos.endLine == cpos.line) = true := by rfl) (hs : starEach (e :: es) X.env = (false, eval e X.env) :: starEach es X.env := by rfl) (hplain : (backTo cpos (starEach es X.env)).any (·.1) = false := by rfl) :
    PSd fr X (.Expr (.Call (.Attribute (.Name x p) name apos) (e :: es) [] cpos) pos) (sMeth i F fs) := (ps_expr (pe_bm PySem.F.plainAttrs_list slot hty hm (pe_var hN hv hd hcd) ha hbase hfew hline hs hplain) hsw).weak fun D σ H ⟨env, B, A, k, hst, q⟩ => by
  unfold sMeth at q
  split at q
  · rename_i ds e
    split at q
    · rename_i ds' e2
      obtain ⟨as, e3, e4⟩ := bind_some e2
      obtain ⟨a, vs, h1, h2, h3, _⟩ := k.own hst e
      refine ⟨.ref a, h1, .inl ⟨rfl, vs, SqL.of h2⟩, env, B, A, as, k, e3, fun us H2 s2 rs => ?_⟩
      have k2 := k.mono s2
      obtain ⟨a', vs', g1, g2, g3, _, _, _, _, g4, _⟩ := k2.own hst e
      rw [h1] at g1
      cases g1
      refine ⟨A, a, vs', ds, as, ds', k2.mu, rfl, g2, g3, rs, e4, fun w vs2 hz r2 => ?_⟩
      obtain ⟨z1, z2⟩ := g4 ds' vs2 hz r2
      exact q A _ σ ((Step.same s2).trans z1) z2
    · exact q.elim
  · exact q.elim
def appendF : List Dat → List Dat → Option (List Dat)
  | ds, [d] => if ds.length < sizeLine then some (ds ++ [d]) else none
  | _, _ => none
theorem m_append : MtU X "list.append" appendF := MtR.weak (id := "list.append") mt_append fun v us H Q ⟨A, a, vs, ds, as, ds', mu, e1, h1, r1, r2, e2, q⟩ => by
  unfold appendF at e2
  split at e2
  · rename_i d
    split at e2
    · rename_i hl
      cases e2
      obtain ⟨w, us', e3, r3, e4⟩ := r2
      refine ⟨a, vs, w, e1, by rw [e3, show us' = [] from e4], h1, by rw [rps_len r1]; exact hl, q _ _ (by simp; omega) (rps_append r1 (rps_one r3))⟩
    · cases e2
  · cases e2
end
inductive Rs where
  | ok (d : Dat) | exc (c : Str) (fs : List (Str × XD)) | no
def startD (n : Nat) (ds : List Dat) : Ev := ds.map .fz ++ List.replicate (n - ds.length) .un
def runD (n p : Nat) (g : Ev → Fl) : List Dat → Rs := fun ds => if ds.length = p then (match g (startD n ds) with
  | .ret d => .ok d
  | .next _ => .ok .non
  | .exc _ c fs => .exc c fs
  | _ => .no) else .no
def spD (K : PySem.W.Frag) (fr : Bool) (p : Nat) (F : List Dat → Rs) : Sp := fun vs H Q _ => vs.length = p ∧ ∃ ds R d, MuOk R H ∧ Rps K (av H R) ds vs ∧ F ds = .ok d ∧ ∀ v H', Same H H' → Rp K (av H' R) d v → (fr = true → NwT K ⟨H, R, true⟩ H' d v) → Q v H'
structure CalD (P : Program) (w : World) (K : PySem.W.Frag) (mg : Str → Option Value) (base : Heap) (k : Nat) (x : Str) (ps : List Str) (fr : Bool) (F : List Dat → Rs) : Prop where
  cal : Cal P w K mg base k x ps (spD K fr ps.length F)
  len : ∀ ds d, F ds = .ok d → ds.length = ps.length
theorem Mtb.some {o : Option HO} (h : Mtb o) : ∃ u, o = Option.some u := by
  cases o with
  | none => exact h.elim
  | some u => exact ⟨u, rfl⟩
theorem start_ok {K : PySem.W.Frag} {H : Hp} {R : AS} {N : List Str} {ds : List Dat} {vs : List V} (mu : MuOk R H) (r : Rps K (av H R) ds vs) (hl : ds.length ≤ N.length) : EnvOk K ⟨H, R, true⟩ R H (start N vs) (startD N.length ds) := by
  have hn := rps_len r
  refine ⟨Same.refl H, fun a h => (mu a h).some, fun _ h => h, fun _ h => .inl h, mu, by simp [start, startD]; omega, fun _ i d => ?_, fun _ _ => False, fun _ _ _ h => h.elim, fun _ _ h => h.elim, fun i s e => ?_⟩
  · unfold startD
    rw [List.getElem?_append]
    split
    · rw [List.getElem?_map]
      cases ds[i]? <;> simp
    · rw [List.getElem?_replicate]
      split <;> simp
  · unfold startD at e
    unfold start
    rw [List.getElem?_append] at e ⊢
    simp only [List.length_map] at e ⊢
    rw [hn]
    split at e
    · rename_i hi
      rw [if_pos hi]
      rw [List.getElem?_map] at e ⊢
      cases hd : ds[i]? with
      | none => rw [hd] at e; cases e
      | some d =>
        rw [hd] at e
        cases e
        obtain ⟨v, h1, h2⟩ := rps_get r hd
        rw [h1]
        exact ⟨some v, rfl, v, rfl, h2⟩
    · rename_i hi
      rw [if_neg hi]
      rw [List.getElem?_replicate] at e ⊢
      split at e
      · rename_i h2
        cases e
        rw [if_pos h2]
        exact ⟨none, rfl, trivial⟩
      · cases e
theorem run_body {fr : Bool} {X : Cx} {N : List Str} {p : Nat} {g : Ev → Fl} {ds : List Dat} {d : Dat} {R : AS} {H : Hp} {vs : List V} {Q : VK} (hp : p ≤ N.length) (mu : MuOk R H) (r : Rps X.K (av H R) ds vs) (hF : runD N.length p g ds = .ok d)
    (q : ∀ v H', Same H H' → Rp X.K (av H' R) d v → (fr = true → NwT X.K ⟨H, R, true⟩ H' d v) → Q v H') :
    tS fr X g (Ends.mk (fun _ H' => Q .non H') Q (fun _ _ => False) (fun _ _ => False)) (start N vs) H := by
  unfold runD at hF
  split at hF
  · rename_i hl
    refine ⟨startD N.length ds, ⟨H, R, true⟩, R, start_ok mu r (by omega), rfl, ?_⟩
    split at hF
    · rename_i d' e
      cases hF
      rw [e]
      exact fun v H' s r n => q v H' s r n
    · rename_i env e
      cases hF
      rw [e]
      exact fun A' H' σ' s k => q .non H' k.h0 rp_non (fun _ ds e => by cases e)
    · cases hF
    · cases hF
  · cases hF
section
variable {P : Program} {w : World} {K : PySem.W.Frag} {mg : Str → Option Value} {base : Heap}
theorem runD_len {n p : Nat} {g : Ev → Fl} {ds : List Dat} {d : Dat} (h : runD n p g ds = .ok d) : ds.length = p := by
  unfold runD at h
  split at h
  · assumption
  · cases h
theorem cal_d {x : Str} {st : Stmt} {N ps : List Str} {k : Nat} {fr : Bool} {g : Ev → Fl} (D : Def K mg x st) (S : FnScope N ps (defScope st))
    (hbi : ∀ (kV doc pm : Value) (an : Option Addr) (cdv ct : Value) (us : List Value), us.length = ps.length → bindArgs (PySem.W.fnOf x x (defArgs st) (defBody st) (defScope st) .none kV doc pm an cdv ct) ⟨us, []⟩ = pure (ps.zip us))
    (hb : ∀ (f : Addr) (cdv : Value) (A : Around) (outer : List Env) (s : Shared) (H : Hp) (E : XK), Room k (A.deeper (envOfC x (defScope st) s.heap.objs.size f cdv)) → PBd fr (cxOf CX0 P w K mg base N x (defScope st) f cdv A outer s H E).nox (defBody st) g) :
    CalD P w K mg base (k + 1) x ps fr (runD N.length ps.length g) := by
  have hpl : ps.length ≤ N.length := by have := congrArg List.length S.pre; rw [List.length_take] at this; omega
  refine ⟨cal_of D S hbi (fun vs H Q E h => h.1) fun f cdv A outer s H vs Q E hr ⟨hl, ds, R, d, mu, r, hF, q⟩ => ⟨_, hb f cdv A outer s H E hr, ?_⟩, fun ds d h => runD_len h⟩
  exact run_body hpl mu r hF q
theorem CalD.mono {j k : Nat} {x : Str} {ps : List Str} {fr : Bool} {F : List Dat → Rs} (C : CalD P w K mg base j x ps fr F) (h : j ≤ k) : CalD P w K mg base k x ps fr F := ⟨C.cal.mono h, C.len⟩
def spLaw (K : PySem.W.Frag) : Sp := fun vs H Q _ => ∃ (a : Addr) (ns : List Int), vs = [.ref a] ∧ SL K H a (ns.map V.int) ∧ ns.length ≤ 63 ∧ ∀ H', Q (.bl true) H'
theorem law_d {x : Str} {st : Stmt} {f : Addr} {fd : FuncData} {N ps : List Str} {k : Nat} {g : Ev → Fl} (F : Fun K x x st f fd) (S : FnScope N ps (defScope st)) (hps : ps.length = 1)
    (hb : ∀ (cdv : Value) (A : Around) (outer : List Env) (s : Shared) (H : Hp) (E : XK), Room k (A.deeper (envOfC x (defScope st) s.heap.objs.size f cdv)) → PBd false (cxOf CX0 P w K mg base N x (defScope st) f cdv A outer s H E).nox (defBody st) g)
    (law : ∀ ns : List Int, ns.length ≤ 63 → runD N.length 1 g [.lst (ns.map .int)] = .ok (.bl true)) : FnOk P w K mg base CX0 (k + 1) f fd ps (spLaw K) := by
  have hpl : ps.length ≤ N.length := by have := congrArg List.length S.pre; rw [List.length_take] at this; omega
  refine fn_body F S (fun vs H Q E ⟨a, ns, e, _⟩ => by rw [e, hps]; rfl) fun cdv A outer s H vs Q E hr ⟨a, ns, e, hS, hl, q⟩ => ⟨_, hb cdv A outer s H E hr, ?_⟩
  subst e
  refine run_body (R := no) (d := .bl true) (by omega) (fun a h => by cases h) (ds := [.lst (ns.map .int)]) ?_ (law ns hl) fun v H' _ r _ => by rw [of_bl r]; exact q H'
  rw [av_no]
  refine rps_one (rp_lst ?_ hS (rps_ints ns))
  rw [List.length_map]
  exact Nat.le_of_lt (small1000 (by omega))
variable {X : Cx} {m : Bool} {fr : Bool} {F : List Dat → Rs} {k : Nat} {x : Str} {ps : List Str} {e : Expr} {es : List Expr} {fs : Ev → Option (List Dat)} {p pos : Pos}
def okR : Rs → Option Dat
  | .ok d => some d
  | _ => none
theorem okR_some {r : Rs} {d : Dat} (h : okR r = some d) : r = .ok d := by cases r <;> cases h; rfl
def dCal (F : List Dat → Rs) (fs : Ev → Option (List Dat)) : Ev → Option Dat := fun env => (fs env).bind fun ds => okR (F ds)
theorem xcal (C : CalD X.prog X.w X.K X.mg X.base k x ps fr F) (hr : Room k X.A) (ha : PAd false X (e :: es) fs) (hg : Gl X x := by rfl)
    (hdb : (x == ("__debug__" : Str)) = false := by decide) (he : starEach (e :: es) X.env = (false, eval e X.env) :: starEach es X.env := by rfl) (hpl : (backTo pos (starEach es X.env)).any (·.1) = false := by rfl) :
    PXd m X (.Call (.Name x p) (e :: es) [] pos) (dCal F fs) := PXd.any ((pe_cal C.cal hr ha hg hdb he hpl).weak fun σ H Q ⟨env, R, A, d, k, q1, q2⟩ => by
  obtain ⟨ds, e1, e2⟩ := bind_some q1
  have e3 := okR_some e2
  refine ⟨env, R, A, ds, k, e1, fun vs H1 s1 rs => ⟨by rw [rps_len rs.rps]; exact C.len ds d e3, ds, A, d, k.mu.mono s1, rs.rps, e3, fun v H' s r _ => q2 v H' (s1.trans s) r⟩⟩)
mutual
def pureD : Dat → Bool
  | .lst _ => false
  | .dct _ => false
  | .exc _ _ => false
  | .tup xs => pureDs xs
  | .non => true
  | .bl _ => true
  | .int _ => true
  | .str _ => true
def pureDs : List Dat → Bool
  | [] => true
  | x :: xs => pureD x && pureDs xs
end
theorem sqT_av {K : PySem.W.Frag} {H : Hp} {A : AS} {a : Addr} {vs : List V} (mu : MuOk A H) (h : SqT K H a vs) : SqT K (av H A) a vs := by
  rcases h with h | h
  · left
    have hA : A a = false := by
      cases q : A a with
      | false => rfl
      | true =>
        have := mu a q
        rcases h with h | ⟨o, h⟩ <;> rw [h] at this <;> exact this.elim
    rcases h with h | ⟨o, h⟩
    · exact .inl (av_at h hA)
    · exact .inr ⟨o, av_at h hA⟩
  · exact .inr h
mutual
theorem Rp.pure {K : PySem.W.Frag} {H : Hp} {A : AS} (mu : MuOk A H) : ∀ {d : Dat} {v : V}, pureD d = true → Rp K H d v → Rp K (av H A) d v
  | .non, v, _, r => by rw [of_non r]; exact rp_non
  | .bl b, v, _, r => by rw [of_bl r]; exact rp_bl
  | .int b, v, _, r => by rw [of_int r]; exact rp_int
  | .str b, v, _, r => by obtain ⟨e, h⟩ := of_str r; rw [e]; exact rp_str h
  | .lst _, v, h, _ => by cases h
  | .dct _, v, h, _ => by cases h
  | .exc _ _, v, h, _ => by cases h
  | .tup xs, v, h, r => by
    obtain ⟨a, vs, e, h1, h2⟩ := of_tup r
    subst e
    exact rp_tup (len_tup r) (sqT_av mu h1) (Rps.pure mu (by simpa [pureD] using h) h2)
theorem Rps.pure {K : PySem.W.Frag} {H : Hp} {A : AS} (mu : MuOk A H) : ∀ {ds : List Dat} {vs : List V}, pureDs ds = true → Rps K H ds vs → Rps K (av H A) ds vs
  | [], vs, _, r => by rw [rps_of_nil r]; exact rps_nil
  | d :: ds, vs, h, r => by
    obtain ⟨v, us, e, r1, r2⟩ := rps_of_cons r
    subst e
    rw [pureDs, Bool.and_eq_true] at h
    exact rps_cons (Rp.pure mu h.1 r1) (Rps.pure mu h.2 r2)
end
end
end L2
set_option Elab.async false
set_option linter.all false
set_option maxRecDepth 100000
namespace L2
open PySem PySem.Spec PyProof.Rows
section
variable {X : Cx} {m : Bool}
structure Glo (K : PySem.W.Frag) (mg : Str → Option Value) (x : Str) (d : Dat) : Prop where
  ex : ∃ v u, mg x = some u ∧ RelV v u ∧ ∀ H, Rp K H d v
theorem Glo.x {x : Str} {d : Dat} {p : Pos} (G : Glo X.K X.mg x d) (hg : Gl X x) (hd : (x == ("__debug__" : Str)) = false := by decide) : PXd m X (.Name x p) (dC d) := by
  obtain ⟨v, u, h1, h2, h3⟩ := G.ex
  exact xglob hg h1 h2 h3 hd
end
end L2
set_option Elab.async false
set_option linter.all false
set_option maxRecDepth 100000
namespace L2
open PySem PySem.Spec PyProof.Rows
def Ite (sq : Hp → List V → Prop) : It :=
  ⟨fun i H => ∃ xs x, sq H xs ∧ xs[i]? = some x,
   fun i H v H' => ∃ p x, v = .ref p ∧ H p = none ∧ (∀ xs, sq H xs → xs[i]? = some x) ∧ H' = upd H p (.tup [.int i, x]),
   fun i H => ∃ xs, sq H xs ∧ xs.length = i⟩
theorem Inv.turnedT {X : Cx} {pins : List (Addr × Obj)} {σ : St} {H : Hp} {s : Shared} {h' : Heap} {tk : Nat} {ch : List Addr} {T : Addr} {xs : List V} {its : List Value} (I : Inv X pins σ H s) (hf : ∀ b ∈ ch, FpOk X pins H b)
    (kk : ∀ b o, b ∉ ch → s.heap.get? b = some o → h'.get? b = some o) (hT : s.heap.objs.size ≤ T) (rv : Vals xs its) (hz : xs.length ≤ sizeLine) (ht : IsTup h' T its.toArray) :
    Inv X pins σ (upd H T (.tup xs)) { s with heap := h', toks := tk } := by
  have hn : H T = none := I.hok.fresh hT
  have nch : ∀ b u, H b = some u → b ∉ ch := fun b u e z => by rw [(hf b z).1] at e; cases e
  refine I.call' (ch := ch) rfl ⟨fun b o q n _ hx => kk b o hx q, fun b o q n _ hx => ⟨o.slots, kk b o hx q⟩, fun b o q n hx => ?_, fun b o q hx => ⟨o, kk b o hx q⟩, fun b ys q => ?_, fun b o u q => ?_, fun b ps q => ⟨#[], ?_⟩⟩ (fun b u e => ?_) I.bare fun b hb => ⟨(hf b hb).2.2.2.1, (hf b hb).2.1, (hf b hb).2.2.2.2.1, (hf b hb).2.2.2.2.2⟩
  · rw [upd_ne (Nat.ne_of_lt (Nat.lt_of_lt_of_le (Heap.lt_size q) hT))]; exact n
  · rw [upd_ne (ne_of_none q hn)]; exact q
  · rw [upd_ne (ne_of_none q hn)]; exact q
  · rw [upd_ne (ne_of_none q hn), q]; simp
  · by_cases hb : b = T
    · subst hb
      rw [upd_same] at e
      cases e
      exact ⟨hz, its, rv, ht⟩
    · rw [upd_ne hb] at e
      refine (I.hok b u e).stay (fun c v hc q => ?_) (fun c q => ?_) fun c ys q => ?_
      · rcases hc with hc | hc
        · subst hc; exact kk c v (nch c u e) q
        · exact kk c v (nch c _ hc) q
      · rw [upd_ne (ne_of_none q hn)]; exact q
      · rw [upd_ne (ne_of_none q hn)]; exact q
theorem Inv.turnedN {X : Cx} {pins : List (Addr × Obj)} {σ : St} {H : Hp} {s : Shared} {h' : Heap} {tk : Nat} {ch : List Addr} (I : Inv X pins σ H s) (hf : ∀ b ∈ ch, FpOk X pins H b)
    (kk : ∀ b o, b ∉ ch → s.heap.get? b = some o → h'.get? b = some o) : Inv X pins σ H { s with heap := h', toks := tk } := by
  have nch : ∀ b u, H b = some u → b ∉ ch := fun b u e z => by rw [(hf b z).1] at e; cases e
  refine I.call' (ch := ch) rfl ⟨fun b o q n _ hx => kk b o hx q, fun b o q n _ hx => ⟨o.slots, kk b o hx q⟩, fun b o q n hx => n, fun b o q hx => ⟨o, kk b o hx q⟩, fun b ys q => q, fun b o u q => q, fun b ps q => ⟨#[], by rw [q]; simp⟩⟩ (fun b u e => ?_) I.bare fun b hb => ⟨(hf b hb).2.2.2.1, (hf b hb).2.1, (hf b hb).2.2.2.2.1, (hf b hb).2.2.2.2.2⟩
  refine (I.hok b u e).stay (fun c v hc q => ?_) (fun c q => q) fun c ys q => q
  rcases hc with hc | hc
  · subst hc; exact kk c v (nch c u e) q
  · exact kk c v (nch c _ hc) q
theorem turn_enum {P : Program} {w : World} {K : PySem.W.Frag} {es : List Expr} {k : Nat} {pos : Pos} (a e it : Addr) (itS : Nat → Heap → Prop) (IsS : Heap → Array Value → Prop) (sq : Hp → List V → Prop)
    (hS : ∀ h h' i, itS i h → (∀ o, h.get? it = some o → h'.get? it = some o) → itS i h')
    (hO : ∀ h i, itS i h → ∃ o, h.get? it = some o ∧ o.cls ≠ .type "enumerate" ∧ ∀ v, o.data ≠ .cell v)
    (hA : ∀ h items, IsS h items → ∃ o, h.get? a = some o ∧ o.cls ≠ .type "enumerate" ∧ ∀ h' i, itS i h' → ∀ o', h'.get? it = some o' → o'.cls ≠ o.cls)
    (hD : ∀ A : Around, A.handled = none → a ≠ it → ∀ items : Array Value, Draws P w A it [it, a] items.size (fun i v => items[i]? = some v) (fun i h => itS i h ∧ IsS h items))
    (hg : ∀ (X : Cx) (pins : List (Addr × Obj)) (σ : St) (H : Hp) (s : Shared) (xs : List V), X.K = K → Inv X pins σ H s → sq H xs → ∃ its, Vals xs its ∧ IsS s.heap its.toArray)
    (hj : ∀ (X : Cx) (pins : List (Addr × Obj)) (σ : St) (H : Hp) (s : Shared) (xs ys : List V), X.K = K → Inv X pins σ H s → sq H xs → sq H ys → xs = ys) :
    Turn P w K (.Tuple es k pos) (Ite sq) [e, it] e (fun i h => (∃ old, IsEnum h e it i old) ∧ itS i h) where
  mem := by simp
  obj := fun i h st b hb => by
    rcases List.mem_cons.mp hb with rfl | hb
    · obtain ⟨⟨old, z⟩, _⟩ := st; exact ⟨_, z, fun v q => by cases q⟩
    · rw [List.mem_singleton.mp hb]; obtain ⟨o, h1, _, h2⟩ := hO h i st.2; exact ⟨o, h1, h2⟩
  keep := fun i h h' st kk => by
    obtain ⟨⟨old, z⟩, q⟩ := st
    exact ⟨⟨old, kk e (by simp) _ z⟩, hS h h' i q fun o r => kk it (by simp) o r⟩
  item := by
    intro X hP hw hK hc i pins s σ H E I hf st hgo
    subst hP hw
    obtain ⟨xs, x, hsq, hx⟩ := hgo
    obtain ⟨its, rv, hI⟩ := hg X pins σ H s xs hK I hsq
    obtain ⟨u, hu, ru⟩ := rv.get hx
    obtain ⟨⟨old, hE⟩, hIt⟩ := st
    obtain ⟨oi, hoi, hci, _⟩ := hO _ _ hIt
    obtain ⟨oa, hoa, hca, hcc⟩ := hA _ _ hI
    have hne : a ≠ it := by intro z; rw [z, hoi] at hoa; cases hoa; exact hcc _ _ hIt _ hoi rfl
    have hei : e ≠ it := by intro z; rw [← z, hE] at hoi; cases hoi; exact hci rfl
    have hea : e ≠ a := by intro z; rw [← z, hE] at hoa; cases hoa; exact hca rfl
    have W := WalksT.enumerateD (hD X.A.in1 (I.ok.hd hc) hne its.toArray) e hei (by simp [hei, hea]) (by simp)
    have hi : i < its.toArray.size := by rw [List.size_toArray]; exact (List.getElem?_eq_some_iff.mp hu).1
    refine W.item i s _ _ hi ⟨⟨old, hE⟩, hIt, hI⟩ fun T vals h' tk hPt hT hTup hM hk => ⟨.ref T, rfl, W.go es k pos i T _ _ _ hM fun h2 hst hk2 => ?_⟩
    obtain ⟨t, x', hx', rfl⟩ := hPt
    have hxu : x' = u := by
      have : its[i]? = some x' := by simpa using hx'
      rw [hu] at this; exact (Option.some.inj this).symm
    subst hxu
    have hTup2 : IsTup h2 T #[.int i t, x'] := by
      obtain ⟨o, ho, r⟩ := hTup
      exact ⟨o, hk2 T o (W.apart i T h' hM) ho, r⟩
    have I2 := Inv.turnedT (s := s) (h' := h2) (tk := tk) (ch := [e, it]) (its := [.int i t, x']) (xs := [.int i, x]) I hf (fun b o hb q => hk2 b o hb (hk b o hb q)) hT (.cons ⟨t, rfl⟩ (.cons ru .nil)) (by show 2 ≤ sizeLine; decide) hTup2
    refine ⟨.ref T, upd H T (.tup [.int i, x]), I2, rfl, ⟨T, x, rfl, I.hok.fresh hT, fun ys hy => ?_, rfl⟩, ⟨hst.1, hst.2.1⟩, fun b hb => ?_⟩
    · rw [hj X pins σ H s ys xs hK I hy hsq]; exact hx
    · rw [upd_ne ?_]; exact (hf b hb).1
      intro z
      have hlt : b < s.heap.objs.size := by
        rcases List.mem_cons.mp hb with rfl | hb
        · exact Heap.lt_size hE
        · rw [List.mem_singleton.mp hb]; exact Heap.lt_size hoi
      exact absurd (Nat.lt_of_lt_of_le hlt (by rw [z]; exact hT)) (Nat.lt_irrefl _)
  done := by
    intro X hP hw hK hc i pins s σ H E I hf st hs
    subst hP hw
    obtain ⟨xs, hsq, hl⟩ := hs
    obtain ⟨its, rv, hI⟩ := hg X pins σ H s xs hK I hsq
    obtain ⟨⟨old, hE⟩, hIt⟩ := st
    obtain ⟨oi, hoi, hci, _⟩ := hO _ _ hIt
    obtain ⟨oa, hoa, hca, hcc⟩ := hA _ _ hI
    have hne : a ≠ it := by intro z; rw [z, hoi] at hoa; cases hoa; exact hcc _ _ hIt _ hoi rfl
    have hei : e ≠ it := by intro z; rw [← z, hE] at hoi; cases hoi; exact hci rfl
    have hea : e ≠ a := by intro z; rw [← z, hE] at hoa; cases hoa; exact hca rfl
    have W := WalksT.enumerateD (hD X.A.in1 (I.ok.hd hc) hne its.toArray) e hei (by simp [hei, hea]) (by simp)
    have hn : its.toArray.size = i := by rw [List.size_toArray, ← rv.length]; exact hl
    refine W.done s _ _ (by rw [hn]; exact ⟨⟨old, hE⟩, hIt, hI⟩) fun h' tk hk => ⟨rfl, I.turnedN (ch := [e, it]) hf fun b o hb q => hk b o hb q⟩
  self := fun A i s Q E st h => by
    obtain ⟨⟨old, z⟩, _⟩ := st
    exact wpAny_pyIter_enum z h
section
variable {st m : Bool} {X : Cx} {l : Expr} {es : List Expr} {f : Ev → Option Dat} {tk : Nat} {tpos : Pos}
theorem turn_enumT (a e it : Addr) : Turn X.prog X.w X.K (.Tuple es tk tpos) (Ite fun H xs => SqT X.K H a xs) [e, it] e (fun i h => (∃ old, IsEnum h e it i old) ∧ h.IsTupleIter it a i) :=
  turn_enum a e it (fun i h => h.IsTupleIter it a i) (fun h items => h.IsTuple a items) _ (fun h h' i q kk => let ⟨o, h1, r⟩ := q; ⟨o, kk o h1, r⟩)
    (fun h i q => let ⟨o, h1, h2, h3⟩ := q; ⟨o, h1, by rw [h2]; decide, fun v z => by rw [h3] at z; cases z⟩)
    (fun h items q => let ⟨o, h1, h2, _⟩ := q; ⟨o, h1, by rw [h2]; decide, fun h' i r o' e' => by obtain ⟨o2, g1, g2, _⟩ := r; rw [g1] at e'; cases e'; rw [g2, h2]; decide⟩)
    (fun A hh hne items => Draws.tupleD hh it a hne items)
    (fun Y pins σ H s xs hK I h => by rw [← hK] at h; obtain ⟨its, r, p, _⟩ := I.tuple h; exact ⟨its, r, p⟩)
    (fun Y pins σ H s xs ys hK I h h' => by rw [← hK] at h h'; exact I.tuple_inj h h')
theorem turn_enumL (a e it : Addr) : Turn X.prog X.w X.K (.Tuple es tk tpos) (Ite fun H xs => SqL X.K H a xs) [e, it] e (fun i h => (∃ old, IsEnum h e it i old) ∧ h.IsListIter it a i) :=
  turn_enum a e it (fun i h => h.IsListIter it a i) (fun h items => h.IsList a items) _ (fun h h' i q kk => let ⟨o, h1, r⟩ := q; ⟨o, kk o h1, r⟩)
    (fun h i q => let ⟨o, h1, h2, h3⟩ := q; ⟨o, h1, by rw [h2]; decide, fun v z => by rw [h3] at z; cases z⟩)
    (fun h items q => let ⟨o, h1, h2, _⟩ := q; ⟨o, h1, by rw [h2]; decide, fun h' i r o' e' => by obtain ⟨o2, g1, g2, _⟩ := r; rw [g1] at e'; cases e'; rw [g2, h2]; decide⟩)
    (fun A hh hne items => Draws.list hh it a hne items)
    (fun Y pins σ H s xs hK I h => by rw [← hK] at h; obtain ⟨its, r, p, _⟩ := I.list h; exact ⟨its, r, p.isList⟩)
    (fun Y pins σ H s xs ys hK I h h' => by rw [← hK] at h h'; exact I.list_inj h h')
def numb : Nat → List Dat → List Dat
  | _, [] => []
  | k, x :: xs => .tup [.int k, x] :: numb (k + 1) xs
theorem numb_get : ∀ (xs : List Dat) (k i : Nat), (numb k xs)[i]? = (xs[i]?).map fun x => .tup [.int ((k + i : Nat) : Int), x]
  | [], k, i => by simp [numb]
  | x :: xs, k, 0 => by simp [numb]
  | x :: xs, k, i + 1 => by
    rw [numb, List.getElem?_cons_succ, List.getElem?_cons_succ, numb_get xs (k + 1) i, show k + 1 + i = k + (i + 1) by omega]
theorem numb_len : ∀ (xs : List Dat) (k : Nat), (numb k xs).length = xs.length
  | [], _ => rfl
  | x :: xs, k => by rw [numb, List.length_cons, List.length_cons, numb_len xs]
def srcE (f : Ev → Option Dat) : Ev → Option (List Dat) := fun env => (srcL f env).map (numb 0)
theorem it_enum {K : PySem.W.Frag} {A : AS} {H : Hp} {vs : List V} {ds : List Dat} {sq : Hp → List V → Prop} (h : ∀ A1 H1, Adv st A H A1 H1 → sq H1 vs) (r : Rps K (av H A) ds vs) : ItOk st K A H (numb 0 ds) (Ite sq) := fun A1 H1 adv mu => by
  have h1 := h A1 H1 adv
  have r1 := r.mono adv.step.av
  refine ⟨fun i x e => ?_, ⟨vs, h1, by rw [numb_len]; exact rps_len r⟩⟩
  rw [numb_get] at e
  obtain ⟨d, e1, e2⟩ := map_some e
  subst e2
  obtain ⟨v, e3, e4⟩ := rps_get r1 e1
  refine ⟨⟨vs, v, h1, e3⟩, fun v' H2 ⟨p, x, z1, z2, z3, z4⟩ => ?_⟩
  subst z1 z4
  have := z3 vs h1
  rw [e3] at this
  cases this
  refine ⟨Same.new z2, rp_tup (by show 2 ≤ sizeLine; decide) (.inl (.inl (av_at upd_same (mu.new z2)))) (rps_cons ?_ (rps_one (e4.mono (av_mono (Same.new z2)))))⟩
  rw [Nat.zero_add]; exact rp_int
def iEnumL (K : PySem.W.Frag) (ta : TA) : TI := fun σ H R => ta σ H fun vs H1 => ∃ a, vs = [.ref a] ∧ (∃ xs, SqL K H1 a xs) ∧ R (Ite fun H xs => SqL K H a xs) H1
def iEnumT (K : PySem.W.Frag) (ta : TA) : TI := fun σ H R => ta σ H fun vs H1 => ∃ a, vs = [.ref a] ∧ (∃ xs, SqT K H1 a xs) ∧ R (Ite fun H xs => SqT K H a xs) H1
theorem fp2 {pins : List (Addr × Obj)} {σ : St} {H : Hp} {s : Shared} (I : Inv X pins σ H s) : ∀ b ∈ [s.heap.objs.size + 1, s.heap.objs.size], FpOk X pins H b := fun b hb => by
  rcases List.mem_cons.mp hb with rfl | hb
  · exact I.fpOk (Nat.le_succ _) (I.hok.fresh (Nat.le_succ _))
  · rw [List.mem_singleton.mp hb]; exact I.fpOk (Nat.le_refl _) (I.hok.fresh (Nat.le_refl _))
theorem pi_enumL {ta : TA} {p pos : Pos} (hg : Gl X "enumerate") (hm : X.mg "enumerate" = none) (hv : bootBuiltins "enumerate" = some (.type "enumerate")) (ha : PA X [l] ta) (hs : starEach [l] X.env = [(false, eval l X.env)] := by rfl) : PI X (.Tuple es tk tpos) (.Call (.Name "enumerate" p) [l] [] pos) (iEnumL X.K ta) := by
  intro pins s σ H R I h
  refine Call_ (ld_blt I hg hm hv (PyProof.Rows.callWith_type1 (thn (ha pos pins s σ H _ I h) fun us s1 ⟨vs, H1, I1, r1, q1⟩ => ?_) hs rfl))
  obtain ⟨a, e, ⟨xs, hq⟩, q⟩ := q1
  subst e
  obtain ⟨u, rfl, ru⟩ := vals1 r1
  cases ru
  obtain ⟨its, rv, pl, hz⟩ := I1.list hq
  refine call_enumerate_list pl.isList fun h' h1 h2 h3 h4 => ?_
  have I2 : Inv X pins σ H1 { s1 with heap := h' } := I1.kept (t' := s1.toks) h4
  refine wpAny_pyIter_enum (s := { s1 with heap := h' }) h1 ?_
  exact ⟨s1.heap.objs.size + 1, [s1.heap.objs.size + 1, s1.heap.objs.size], _, _, H1, rfl, I2, turn_enumL a _ _, ⟨⟨_, h1⟩, h2⟩, fp2 I1, q⟩
theorem pi_enumT {ta : TA} {p pos : Pos} (hg : Gl X "enumerate") (hm : X.mg "enumerate" = none) (hv : bootBuiltins "enumerate" = some (.type "enumerate")) (ha : PA X [l] ta) (hs : starEach [l] X.env = [(false, eval l X.env)] := by rfl) : PI X (.Tuple es tk tpos) (.Call (.Name "enumerate" p) [l] [] pos) (iEnumT X.K ta) := by
  intro pins s σ H R I h
  refine Call_ (ld_blt I hg hm hv (PyProof.Rows.callWith_type1 (thn (ha pos pins s σ H _ I h) fun us s1 ⟨vs, H1, I1, r1, q1⟩ => ?_) hs rfl))
  obtain ⟨a, e, ⟨xs, hq⟩, q⟩ := q1
  subst e
  obtain ⟨u, rfl, ru⟩ := vals1 r1
  cases ru
  obtain ⟨its, rv, pl, hz⟩ := I1.tuple hq
  refine call_enumerate_tuple (show s1.heap.IsTuple a its.toArray from pl) fun h' h1 h2 h3 h4 => ?_
  have I2 : Inv X pins σ H1 { s1 with heap := h' } := I1.kept (t' := s1.toks) h4
  refine wpAny_pyIter_enum (s := { s1 with heap := h' }) h1 ?_
  exact ⟨s1.heap.objs.size + 1, [s1.heap.objs.size + 1, s1.heap.objs.size], _, _, H1, rfl, I2, turn_enumT a _ _, ⟨⟨_, h1⟩, h2⟩, fp2 I1, q⟩
theorem i_enum {p pos : Pos} (hg : Gl X "enumerate") (hm : X.mg "enumerate" = none) (h : PXd false X l f) (hv : bootBuiltins "enumerate" = some (.type "enumerate") := by decide +kernel) (hs : starEach [l] X.env = [(false, eval l X.env)] := by rfl) : PId st X (.Tuple es tk tpos) (.Call (.Name "enumerate" p) [l] [] pos) (srcE f) :=
  ((pi_enumL hg hm hv (pa_cons h pa_nil hs) hs).or (pi_enumT hg hm hv (pa_cons h pa_nil hs) hs)).weak fun σ H R' ⟨env, R, A, ds, k, e, q⟩ => by
  obtain ⟨xs, e0, e1⟩ := map_some e
  subst e1
  unfold srcL at e0
  split at e0
  · rename_i ys e1
    cases e0
    refine .inl ⟨env, R, A, .lst xs, k, e1, fun v H1 s1 p1 => ?_⟩
    obtain ⟨a, vs, e2, h1, r1⟩ := of_lst (show Rp X.K (av H1 A) (.lst xs) v from p1)
    subst e2
    exact ⟨a, rfl, ⟨vs, (av_same.sl h1).sq⟩, q _ H1 (by rw [numb_len]; exact p1.pk.lenL) s1 (it_enum (vs := vs) (fun A1 H2 adv => (av_same.sl (adv.step.av.sl h1)).sq) r1)⟩
  · rename_i ys e1
    cases e0
    refine .inr ⟨env, R, A, .tup xs, k, e1, fun v H1 s1 p1 => ?_⟩
    obtain ⟨a, vs, e2, h1, r1⟩ := of_tup (show Rp X.K (av H1 A) (.tup xs) v from p1)
    subst e2
    exact ⟨a, rfl, ⟨vs, av_same.seqT h1⟩, q _ H1 (by rw [numb_len]; exact p1.pk.lenT) s1 (it_enum (vs := vs) (fun A1 H2 adv => av_same.seqT (adv.step.av.seqT h1)) r1)⟩
  · cases e0
end
end L2
set_option Elab.async false
set_option linter.all false
set_option maxRecDepth 100000
namespace PySem
open Sem (wp)
open AutoSeq1 (wpAny_loadPart')
namespace F
end F
section
variable {prog : Program} {w : World} {A : Around} {E : Value → Shared → Prop} {s : Shared}
end
section
variable {prog : Program} {w : World} {A : Around} {s : Shared} {R : Result → Shared → Prop}
variable {I : Addr} {fp wr : List Addr} {G : Array GenState → Array GenState → Prop} {n : Nat} {P : Nat → Value → Prop} {St : Nat → Shared → Prop}
end
section
variable {prog : Program} {w : World} {A : Around} {E : Value → Shared → Prop} {s : Shared}
variable {I : Addr} {fp wr : List Addr} {n : Nat} {P : Nat → Value → Prop} {St : Nat → Shared → Prop}
end
section
variable {prog : Program} {w : World} {A : Around}
end
end PySem
set_option Elab.async false
set_option linter.all false
set_option maxRecDepth 100000
namespace L2
open PySem PySem.Spec PyProof.Rows
section
variable {X : Cx} {m : Bool} {e : Expr} {f : Ev → Option Dat} {fs : Ev → Option (List Dat)}
def mulS : Dat → Dat → Option Dat
  | .str x, .int k => if 1 ≤ k ∧ k ≤ 1000 ∧ x.length ≤ 1000 then some (.str (Txt.mul x k)) else none
  | _, _ => none
theorem mem_reps {α : Type} (x : Array α) (c : α) : ∀ (n : Nat) (acc : Array α), c ∈ (List.replicate n x).foldl (· ++ ·) acc → c ∈ acc ∨ c ∈ x
  | 0, acc, h => .inl h
  | n + 1, acc, h => by
    rw [List.replicate_succ, List.foldl_cons] at h
    rcases mem_reps x c n _ h with h | h
    · rcases Array.mem_append.mp h with h | h
      · exact .inl h
      · exact .inr h
    · exact .inr h
theorem strOk_mul {x : Str} {k : Int} (h : PyData.strOk x = true) : PyData.strOk (Txt.mul x k) = true := by
  unfold Txt.mul
  split
  · unfold PyData.strOk Str.empty; simp
  · split
    · exact h
    · unfold PyData.strOk at h ⊢
      rw [Array.all_eq_true'] at h ⊢
      intro c hc
      rcases mem_reps x.cps c _ _ hc with z | z
      · simp at z
      · exact h c z
theorem o_mulS : OpD X (binaryOp .Mult) mulS := fun pins s σ H x y v u Q I rx ry ⟨A, a, b, d, mu, e, p1, p2, q⟩ => by
  unfold mulS at e
  split at e
  · rename_i z k
    split at e
    · rename_i hz
      cases e
      obtain ⟨e1, k1⟩ := p1.str
      have e2 := p2.int
      subst e1 e2
      obtain ⟨t, rfl⟩ := rx
      obtain ⟨t', rfl⟩ := ry
      have hl : (Txt.mul z k).length ≤ 1000 * 1000 := len_mul_leN hz.2.2 hz.2.1
      refine SB.mul (mulOk_of 1000 1000 hz.2.2 hz.2.1 (by omega) (by decide) (by decide)) fun t' k' => ⟨.str (Txt.mul z k), H, I.tok _, ⟨_, rfl⟩, q.here (rp_str (SOk.of (strOk_mul k1.ok) (Nat.le_trans hl (by decide))))⟩
    · cases e
  · cases e
def mulE : Dat → Dat → Option Dat
  | .int i, .int j => mulI (.int i) (.int j)
  | .str x, .int k => mulS (.str x) (.int k)
  | _, _ => none
theorem o_mulE : OpD X (binaryOp .Mult) mulE := OpD.or o_mulI o_mulS fun x y d e => by
  unfold mulE at e
  split at e
  · exact .inl e
  · exact .inr e
  · cases e
end
end L2
set_option Elab.async false
set_option linter.all false
set_option maxRecDepth 100000
namespace L2
open PySem PySem.Spec PyProof.Rows
def Gd (r : Fl) (N : Ev → Prop) (R : Dat → Prop) : Prop := match r with
  | .next e => N e
  | .ret d => R d
  | _ => False
structure Go (r : Fl) (N : Ev → Prop) (R : Dat → Prop) : Prop where
  of : Gd r N R
section
variable {N : Ev → Prop} {R : Dat → Prop} {g h : Ev → Fl} {f : Ev → Option Dat} {fs : Ev → Option (List Dat)} {t : Ev → Option Bool} {env : Ev} {d : Dat} {ds : List Dat} {i : Nat}
theorem Go.next {e : Ev} (q : N e) : Go (.next e) N R := ⟨q⟩
theorem Go.ret {d : Dat} (q : R d) : Go (.ret d) N R := ⟨q⟩
theorem Go.mono {N' : Ev → Prop} {R' : Dat → Prop} {r : Fl} (q : Go r N R) (hN : ∀ e, N e → N' e) (hR : ∀ d, R d → R' d) : Go r N' R' := by
  cases r with
  | next e => exact ⟨hN e q.of⟩
  | ret d => exact ⟨hR d q.of⟩
  | _ => exact q.of.elim
theorem go_nil (q : N env) : Go (bNil env) N R := ⟨q⟩
theorem go_cons (q : Go (g env) (fun e => Go (h e) N R) R) : Go (bCons g h env) N R := by
  unfold bCons
  cases e : g env with
  | next e' => rw [e] at q; exact q.of
  | ret d => rw [e] at q; exact ⟨q.of⟩
  | _ => rw [e] at q; exact q.of.elim
theorem go_set (e : f env = some d) (q : N (env.set i (.fz d))) : Go (sSet i f env) N R := by unfold sSet; rw [e]; exact ⟨q⟩
theorem go_own (e : fs env = some ds) (q : N (env.set i (.ow ds))) : Go (sOwn i fs env) N R := by unfold sOwn; rw [e]; exact ⟨q⟩
theorem go_ret (e : f env = some d) (q : R d) : Go (sRet f env) N R := by unfold sRet; rw [e]; exact ⟨q⟩
theorem go_ifT (e : t env = some true) (q : Go (g env) N R) : Go (sIf t g h env) N R := by unfold sIf; rw [e]; exact q
theorem go_ifF (e : t env = some false) (q : Go (h env) N R) : Go (sIf t g h env) N R := by unfold sIf; rw [e]; exact q
theorem go_if {b : Bool} (e : t env = some b) (q1 : b = true → Go (g env) N R) (q2 : b = false → Go (h env) N R) : Go (sIf t g h env) N R := by
  cases b with
  | true => exact go_ifT e (q1 rfl)
  | false => exact go_ifF e (q2 rfl)
theorem go_asg {gg : Dat → Ev → Option Ev} {env' : Ev} (e : f env = some d) (e2 : gg d env = some env') (q : N env') : Go (sAsg f gg env) N R := by
  unfold sAsg; rw [e]; dsimp only [Option.bind]; rw [e2]; exact ⟨q⟩
theorem go_meth {F : List Dat → List Dat → Option (List Dat)} {ds' as : List Dat} (e : env[i]? = some (.ow ds)) (e2 : fs env = some as) (e3 : F ds as = some ds') (q : N (env.set i (.ow ds'))) : Go (sMeth i F fs env) N R := by
  unfold sMeth; rw [e]; dsimp only; rw [e2]; dsimp only [Option.bind]; rw [e3]; exact ⟨q⟩
theorem go_forL {gg : Dat → Ev → Option Ev} (P : Nat → Ev → Prop) : ∀ (ds : List Dat) (k : Nat) (env : Ev), P k env → (∀ i d e, ds[i]? = some d → P (k + i) e → ∃ e1, gg d e = some e1 ∧ Go (g e1) (P (k + i + 1)) R) → (∀ e, P (k + ds.length) e → N e) → Go (forL gg g ds env) N R
  | [], k, env, h0, _, hN => ⟨hN env h0⟩
  | d :: ds, k, env, h0, hs, hN => by
    obtain ⟨e1, a1, a2⟩ := hs 0 d env rfl h0
    rw [forL, a1]
    dsimp only
    cases e : g e1 with
    | next e' =>
      rw [e] at a2
      exact go_forL P ds (k + 1) e' a2.of (fun i d e hi hp => by
        have := hs (i + 1) d e (by simpa using hi) (by rw [show k + (i + 1) = k + 1 + i by omega]; exact hp)
        rw [show k + 1 + i + 1 = k + (i + 1) + 1 by omega]; exact this) (fun e hp => hN e (by rw [List.length_cons, show k + (ds.length + 1) = k + 1 + ds.length by omega]; exact hp))
    | ret d' => rw [e] at a2; exact ⟨a2.of⟩
    | _ => rw [e] at a2; exact a2.of.elim
theorem go_for {src : Ev → Option (List Dat)} {gg : Dat → Ev → Option Ev} (P : Nat → Ev → Prop) (e : src env = some ds) (h0 : P 0 env) (hs : ∀ i d e, ds[i]? = some d → P i e → ∃ e1, gg d e = some e1 ∧ Go (g e1) (P (i + 1)) R) (hN : ∀ e, P ds.length e → N e) : Go (sFor src gg g env) N R := by
  unfold sFor
  rw [e]
  exact go_forL P ds 0 env h0 (fun i d e hi hp => by simpa using hs i d e hi (by simpa using hp)) (fun e hp => hN e (by simpa using hp))
theorem Go.ne {r : Fl} (q : Go r N R) : r ≠ .no := fun z => by rw [z] at q; exact q.of
theorem run_of {n p : Nat} (hp : ds.length = p) (q : Go (g (startD n ds)) (fun _ => R .non) R) : ∃ d, runD n p g ds = .ok d ∧ R d := by
  unfold runD
  rw [if_pos hp]
  cases e : g (startD n ds) with
  | next e' => rw [e] at q; exact ⟨_, rfl, q.of⟩
  | ret d => rw [e] at q; exact ⟨_, rfl, q.of⟩
  | _ => rw [e] at q; exact q.of.elim
end
theorem rng_get {lo : Int} {n i : Nat} {d : Dat} (h : (rng lo n)[i]? = some d) : i < n ∧ d = .int (lo + i) := by
  unfold rng at h
  rw [List.getElem?_map] at h
  by_cases hi : i < n
  · rw [List.getElem?_range hi] at h
    exact ⟨hi, (Option.some.inj h).symm⟩
  · rw [List.getElem?_eq_none (by simpa using hi)] at h
    cases h
theorem srcR1_eq {fs : Ev → Option (List Dat)} {env : Ev} {n : Nat} (h : fs env = some [.int n]) (hn : n ≤ 100000) : srcR1 fs env = some (rng 0 n) := by
  unfold srcR1
  rw [h]
  dsimp only
  rw [if_pos ⟨by omega, by omega, by rw [sizeLine_eq]; simp; omega⟩, Int.toNat_natCast]
theorem mulI_ok {i j : Int} (h : CMul i j) : mulE (.int i) (.int j) = some (.int (i * j)) := if_pos h
theorem modD_ok {i j : Int} (h : 0 < j) : modD (.int i) (.int j) = some (.int (i % j)) := if_pos h
theorem fdivD_ok {i j : Int} (h : CDiv i j) : fdivD (.int i) (.int j) = some (.int (i / j)) := if_pos h
theorem dO_ok {α : Type} {F : Dat → Dat → Option α} {f g : Ev → Option Dat} {env : Ev} {x y : Dat} {z : α} (h1 : f env = some x) (h2 : g env = some y) (h3 : F x y = some z) : dO F f g env = some z := by unfold dO; rw [h1, h2]; exact h3
theorem dF_ok {α : Type} {F : List Dat → Option α} {fs : Ev → Option (List Dat)} {env : Ev} {xs : List Dat} {z : α} (h1 : fs env = some xs) (h3 : F xs = some z) : dF F fs env = some z := by unfold dF; rw [h1]; exact h3
theorem aCons_ok {f : Ev → Option Dat} {fs : Ev → Option (List Dat)} {env : Ev} {x : Dat} {xs : List Dat} (h1 : f env = some x) (h2 : fs env = some xs) : aCons f fs env = some (x :: xs) := by unfold aCons; rw [h1, h2]; rfl
theorem dCal_ok {F : List Dat → Rs} {fs : Ev → Option (List Dat)} {env : Ev} {xs : List Dat} {d : Dat} (h1 : fs env = some xs) (h2 : F xs = .ok d) : dCal F fs env = some d := by unfold dCal; rw [h1]; show okR (F xs) = _; rw [h2]; rfl
theorem dB_ok {f : Ev → Option Dat} {env : Ev} {b : Bool} (h : f env = some (.bl b)) : dB f env = some b := by unfold dB; rw [h]
end L2
set_option Elab.async false
set_option linter.all false
set_option maxRecDepth 100000
set_option maxHeartbeats 4000000
namespace L2
open PySem PySem.Spec PyProof.Rows
section
variable {X : Cx}
end
end L2
set_option Elab.async false
set_option linter.all false
set_option maxRecDepth 100000
namespace L2
open PySem PySem.Spec PyProof.Rows
theorem in_strs (z : Str) (ws : List Str) : (ws.map Dat.str).any (fun y => eqD y (.str z)) = decide (z ∈ ws) := by
  induction ws with
  | nil => simp
  | cons w ws ih =>
    rw [List.map_cons, List.any_cons, ih]
    have : eqD (.str w) (.str z) = (w == z) := by unfold eqD; rfl
    rw [this]
    by_cases e : w = z
    · subst e; simp
    · have e' : (w == z) = false := by simpa using e
      have e2 : ¬ z = w := fun q => e q.symm
      rw [e']; simp [e2]
theorem pd_str (n : Nat) (z : Str) : pd n (.str z) = true := by cases n <;> rfl
theorem pd_strs (ws : List Str) : (ws.map Dat.str).all (pd 20) = true := by
  induction ws with
  | nil => rfl
  | cons w ws ih => rw [List.map_cons, List.all_cons, ih, pd_str]; rfl
theorem inB_lst (z : Str) (ws : List Str) : inB (.str z) (.lst (ws.map .str)) = some (decide (z ∈ ws)) := by
  unfold inB
  dsimp only
  rw [pd_strs, pd_str, Bool.and_self, if_pos rfl, in_strs]
theorem inB_tup (z : Str) (ws : List Str) : inB (.str z) (.tup (ws.map .str)) = some (decide (z ∈ ws)) := by
  unfold inB
  dsimp only
  rw [pd_strs, pd_str, Bool.and_self, if_pos rfl, in_strs]
theorem inF_lst (z : Str) (ws : List Str) : inF (.str z) (.lst (ws.map .str)) = some (.bl (decide (z ∈ ws))) := by unfold inF; rw [inB_lst]; rfl
theorem inF_tup (z : Str) (ws : List Str) : inF (.str z) (.tup (ws.map .str)) = some (.bl (decide (z ∈ ws))) := by unfold inF; rw [inB_tup]; rfl
theorem tOr_ok {t u : Ev → Option Bool} {env : Ev} {a b : Bool} (h1 : t env = some a) (h2 : a = false → u env = some b) : tOrD t u env = some (a || b) := by
  unfold tOrD; rw [h1]; cases a with
  | true => rfl
  | false => exact h2 rfl
theorem tAnd_ok {t u : Ev → Option Bool} {env : Ev} {a b : Bool} (h1 : t env = some a) (h2 : a = true → u env = some b) : tAndD t u env = some (a && b) := by
  unfold tAndD; rw [h1]; cases a with
  | false => rfl
  | true => exact h2 rfl
theorem dS_ok {F : Dat → Option Int → Option Int → Option Dat} {f : Ev → Option Dat} {l h : Ev → Option (Option Int)} {env : Ev} {x z : Dat} {a b : Option Int} (h1 : f env = some x) (h2 : l env = some a) (h3 : h env = some b) (h4 : F x a b = some z) : dS F f l h env = some z := by
  unfold dS; rw [h1, h2, h3]; exact h4
theorem oSome_ok {f : Ev → Option Dat} {env : Ev} {i : Int} (h : f env = some (.int i)) : oSome f env = some (some i) := by unfold oSome; rw [h]
theorem slS_ok (z : Str) (a b : Option Int) : slD (.str z) a b = some (.str (Txt.slice z a b)) := rfl
theorem ixL_nat {xs : List Dat} {j : Nat} {x : Dat} (h : xs[j]? = some x) : ixD (.lst xs) (.int j) = some x := atI_nat h
theorem ixT_nat {xs : List Dat} {j : Nat} {x : Dat} (h : xs[j]? = some x) : ixD (.tup xs) (.int j) = some x := atI_nat h
theorem pick2 (x y : Dat) {j : Int} (h0 : 0 ≤ j) (h1 : j < 2) : ixD (.lst [x, y]) (.int j) = some (if j = 1 then y else x) := by
  rcases (show j = 0 ∨ j = 1 by omega) with rfl | rfl <;> rfl
theorem aTup_ok {fs : Ev → Option (List Dat)} {env : Ev} {xs : List Dat} (h : fs env = some xs) (hl : xs.length ≤ 1000) : aTup fs env = some (.tup xs) := by unfold aTup; rw [h]; exact if_pos hl
theorem append_ok {ds : List Dat} {d : Dat} (h : ds.length ≤ 1000) : appendF ds [d] = some (ds ++ [d]) := if_pos (Nat.lt_of_le_of_lt h (by decide))
abbrev scr (ns : List Int) : Dat := .lst (ns.map .int)
abbrev letters : Str := "abcdefghijklmnopqrstuvwxyz"
theorem letters_list : cl letters = List.range' 97 26 := by decide +kernel
theorem letters_at {j : Int} (h0 : 0 ≤ j) (h1 : j < 26) : atI (cl letters) j = some (97 + j.toNat) := by
  obtain ⟨n, rfl⟩ : ∃ n : Nat, j = n := ⟨j.toNat, (Int.toNat_of_nonneg h0).symm⟩
  refine atI_nat ?_
  rw [letters_list, List.getElem?_range' (by omega)]
  simp
theorem ix_letters {j : Int} (h0 : 0 ≤ j) (h1 : j < 26) : ixD (.str letters) (.int j) = some (.str ⟨#[97 + j.toNat]⟩) := by
  show (atI (cl letters) j).map _ = _
  rw [letters_at h0 h1]; rfl
theorem addS_ok {x y : Str} (h : x.length + y.length ≤ 1000) : addD (.str x) (.str y) = some (.str (x ++ y)) := if_pos (Nat.le_trans h (by decide))
theorem k_bb : kitB "bool" "bool" = some true := by decide +kernel
theorem k_ib : kitB "int" "bool" = some false := by decide +kernel
theorem k_ii : kitB "int" "int" = some true := by decide +kernel
theorem k_ss : kitB "str" "str" = some true := by decide +kernel
theorem dI_ok {f : Ev → Option Dat} {env : Ev} {d : Dat} {t T : String} {b : Bool} (h : f env = some d) (ht : tyN d = some t) (hk : kitB t T = some b) : dI T f env = some (.bl b) := by
  unfold dI; rw [h]; show (isiB T d).map _ = _; unfold isiB; rw [ht]; show Option.map _ (kitB t T) = _; rw [hk]; rfl
theorem dT_ok {f : Ev → Option Dat} {env : Ev} {b : Bool} (h : f env = some (.bl b)) : dT f env = some b := by unfold dT; rw [h]; rfl
theorem dNot_ok {f : Ev → Option Dat} {env : Ev} {b : Bool} (h : f env = some (.bl b)) : dNot f env = some (.bl (!b)) := by unfold dNot; rw [dB_ok h]; rfl
theorem tNot_ok {t : Ev → Option Bool} {env : Ev} {b : Bool} (h : t env = some b) : tNotD t env = some (!b) := by unfold tNotD; rw [h]; rfl
theorem ok_of {r : Rs} {d0 : Dat} (h : ∃ d, r = .ok d ∧ d = d0) : r = .ok d0 := by obtain ⟨d, e, rfl⟩ := h; exact e
theorem dL_ok {g : Ev → Option (List Dat)} {env : Ev} {ds : List Dat} (h : g env = some ds) : dL g env = some (.lst ds) := by unfold dL; rw [h]; rfl
theorem dComp_ok {src : Ev → Option (List Dat)} {fs : List (Option Nat)} {g : Dat → Ev → Option Ev} {t : Ev → Option Bool} {f : Ev → Option Dat} {env env' : Ev} {xs ys : List Dat} (h1 : src env = some xs) (h2 : innerD fs env = env') (h3 : compL g t f env' xs = some ys) : dComp src fs g t f env = some ys := by
  unfold dComp; rw [h1, h2]; exact h3
theorem srcT_ok {f : Ev → Option Dat} {env : Ev} {xs : List Dat} (h : f env = some (.tup xs)) : srcL f env = some xs := by unfold srcL; rw [h]
theorem srcE_ok {f : Ev → Option Dat} {env : Ev} {xs : List Dat} (h : f env = some (.tup xs)) : srcE f env = some (numb 0 xs) := by unfold srcE; rw [srcT_ok h]; rfl
theorem compL_all {g : Dat → Ev → Option Ev} {t : Ev → Option Bool} {f : Ev → Option Dat} {env : Ev} {α : Type} (D : α → Dat) (y : α → Dat) : ∀ (xs : List α), (∀ x ∈ xs, ∃ e1, g (D x) env = some e1 ∧ t e1 = some true ∧ f e1 = some (y x)) → compL g t f env (xs.map D) = some (xs.map y)
  | [], _ => rfl
  | x :: xs, h => by
    obtain ⟨e1, a1, a2, a3⟩ := h x List.mem_cons_self
    have ih := compL_all D y xs fun z hz => h z (List.mem_cons_of_mem _ hz)
    rw [List.map_cons, compL, a1]
    dsimp only [Option.bind]
    rw [a2]
    dsimp only
    rw [if_pos rfl, a3]
    dsimp only
    rw [ih]
    rfl
theorem eqB' (i j : Bool) : eqF (.bl i) (.bl j) = some (.bl (i == j)) := rfl
theorem bitOr_nat (a b : Nat) : Builtin.bitOr (a : Int) (b : Int) = ((a ||| b : Nat) : Int) := by
  unfold Builtin.bitOr Builtin.bitAnd Builtin.bitNot
  have h1 : decide (0 ≤ -(a : Int) - 1) = false := by simp; omega
  have h2 : decide (0 ≤ -(b : Int) - 1) = false := by simp; omega
  rw [h1, h2]
  dsimp only
  rw [show (-(-(a : Int) - 1) - 1).toNat = a by omega, show (-(-(b : Int) - 1) - 1).toNat = b by omega]
  omega
theorem bitAnd_nat (a b : Nat) : Builtin.bitAnd (a : Int) (b : Int) = ((a &&& b : Nat) : Int) := by
  unfold Builtin.bitAnd
  rw [show decide (0 ≤ (a : Int)) = true by simp, show decide (0 ≤ (b : Int)) = true by simp]
  simp
def bitsN (ps : List Nat) : Nat := ps.foldl (fun a p => a ||| 2 ^ p) 0
theorem bits_from (ps : List Nat) : ∀ (a j : Nat), (ps.foldl (fun a p => a ||| 2 ^ p) a).testBit j = (a.testBit j || decide (j ∈ ps)) := by
  induction ps with
  | nil => intro a j; simp
  | cons p ps ih =>
    intro a j
    rw [List.foldl_cons, ih, Nat.testBit_or, Nat.testBit_two_pow]
    by_cases h : j = p
    · subst h; simp
    · have h' : ¬ p = j := fun e => h e.symm
      simp [h, h']
theorem bitsN_at (ps : List Nat) (j : Nat) : (bitsN ps).testBit j = decide (j ∈ ps) := by unfold bitsN; rw [bits_from]; simp
theorem add_place {a p : Nat} (h : a.testBit p = false) : a + 2 ^ p = a ||| 2 ^ p := by
  apply Nat.eq_of_testBit_eq
  intro j
  have e1 : a = 2 ^ p * (a / 2 ^ p) + a % 2 ^ p := (Nat.div_add_mod a (2 ^ p)).symm
  have hm : a % 2 ^ p < 2 ^ p := Nat.mod_lt _ (Nat.two_pow_pos p)
  have ev : a / 2 ^ p % 2 = 0 := by
    rw [Nat.testBit_eq_decide_div_mod_eq] at h
    have := of_decide_eq_false h
    omega
  have e2 : a + 2 ^ p = 2 ^ p * (a / 2 ^ p + 1) + a % 2 ^ p := by rw [Nat.mul_add, Nat.mul_one]; omega
  rw [e2, Nat.testBit_two_pow_mul_add _ hm, Nat.testBit_or, Nat.testBit_two_pow]
  rw [show a.testBit j = (2 ^ p * (a / 2 ^ p) + a % 2 ^ p).testBit j by rw [← e1], Nat.testBit_two_pow_mul_add _ hm]
  by_cases hj : j < p
  · simp [hj]; omega
  · rw [if_neg hj, if_neg hj]
    rcases Nat.lt_or_eq_of_le (Nat.le_of_not_lt hj) with h1 | h1
    · obtain ⟨i, hi⟩ : ∃ i, j - p = i + 1 := ⟨j - p - 1, by omega⟩
      rw [hi, Nat.testBit_succ, Nat.testBit_succ]
      rw [show (a / 2 ^ p + 1) / 2 = a / 2 ^ p / 2 by omega]
      have : ¬ p = j := by omega
      simp [this]
    · subst h1
      simp
      omega
theorem toI (ps : List Nat) : (ps.map fun p : Nat => (p : Int)).map Dat.int = ps.map fun p : Nat => Dat.int (p : Int) := by rw [List.map_map]; rfl
abbrev natsD (ps : List Nat) : List Dat := (ps.map fun p : Nat => (p : Int)).map Dat.int
theorem shl1 (p : Nat) (hp : p ≤ 1000) : shlD (.int 1) (.int (p : Int)) = some (.int ((2 ^ p : Nat) : Int)) := by
  have : shlD (.int 1) (.int (p : Int)) = some (.int (1 * 2 ^ ((p : Int)).toNat)) := if_pos ⟨by omega, by omega, by decide⟩
  rw [this, Int.toNat_natCast, Int.one_mul]; congr 2
theorem pd_int (n : Nat) (i : Int) : pd n (.int i) = true := by cases n <;> rfl
theorem pd_nats (ps : List Nat) : (natsD ps).all (pd 20) = true := List.all_eq_true.mpr fun x hx => by
  obtain ⟨i, _, rfl⟩ := List.mem_map.mp hx
  exact pd_int 20 i
theorem in_nats (p : Nat) (ps : List Nat) : inB (.int (p : Int)) (.lst (natsD ps)) = some (decide (p ∈ ps)) := by
  unfold inB
  dsimp only
  rw [pd_nats, pd_int, Bool.and_self, if_pos rfl]
  congr 1
  rw [Bool.eq_iff_iff, List.any_eq_true, decide_eq_true_eq]
  constructor
  · rintro ⟨x, hx, he⟩
    obtain ⟨i, hi, rfl⟩ := List.mem_map.mp hx
    obtain ⟨q, hq, rfl⟩ := List.mem_map.mp hi
    have : ((q : Int) == (p : Int)) = true := by unfold eqD at he; exact he
    have : q = p := by have h9 := eq_of_beq this; omega
    exact this ▸ hq
  · intro h
    refine ⟨.int (p : Int), List.mem_map_of_mem (List.mem_map_of_mem h), ?_⟩
    unfold eqD; simp
theorem nin_nats (p : Nat) (ps : List Nat) : ninF (.int (p : Int)) (.lst (natsD ps)) = some (.bl (!decide (p ∈ ps))) := by unfold ninF; rw [in_nats]; rfl
theorem bls_map (bs : List Bool) : allD [.lst (bs.map .bl)] = some (.bl (bs.all id)) := by unfold allD; dsimp only; rw [blsD_map]; rfl
theorem bitXor_nat (a b : Nat) : Builtin.bitXor (a : Int) (b : Int) = ((a ^^^ b : Nat) : Int) := by
  unfold Builtin.bitXor
  rw [bitOr_nat, bitAnd_nat]
  have key : ∀ (x y : Nat), x ||| y = (x ^^^ y) + (x &&& y) := by
    intro x
    induction x using Nat.strongRecOn with
    | _ x ih =>
      intro y
      by_cases hx : x = 0
      · subst hx; simp
      · have h := ih (x / 2) (by omega) (y / 2)
        have e1 : x ||| y = 2 * (x / 2 ||| y / 2) + (x ||| y) % 2 := by rw [← Nat.or_div_two]; omega
        have e2 : x ^^^ y = 2 * (x / 2 ^^^ y / 2) + (x ^^^ y) % 2 := by rw [← Nat.xor_div_two]; omega
        have e3 : x &&& y = 2 * (x / 2 &&& y / 2) + (x &&& y) % 2 := by rw [← Nat.and_div_two]; omega
        have e4 : (x ||| y) % 2 = (x ^^^ y) % 2 + (x &&& y) % 2 := by
          have t1 : ∀ z : Nat, z % 2 = (z.testBit 0).toNat := fun z => by rw [Nat.testBit_zero]; by_cases q : z % 2 = 1 <;> simp [q]; omega
          rw [t1, t1, t1, Nat.testBit_or, Nat.testBit_xor, Nat.testBit_and]
          cases x.testBit 0 <;> cases y.testBit 0 <;> rfl
        omega
  have := key a b
  omega
theorem andNot_nat (a b : Nat) : ∃ c : Nat, Builtin.bitAnd (a : Int) (-(b : Int) - 1) = (c : Int) ∧ ∀ j, c.testBit j = (a.testBit j && !b.testBit j) := by
  refine ⟨a ^^^ (a &&& b), ?_, fun j => by rw [Nat.testBit_xor, Nat.testBit_and]; cases a.testBit j <;> cases b.testBit j <;> rfl⟩
  have hx := bitXor_nat a (a &&& b)
  unfold Builtin.bitXor at hx
  rw [bitOr_nat, bitAnd_nat] at hx
  have e1 : a ||| (a &&& b) = a := Nat.eq_of_testBit_eq fun j => by rw [Nat.testBit_or, Nat.testBit_and]; cases a.testBit j <;> cases b.testBit j <;> rfl
  have e2 : a &&& (a &&& b) = a &&& b := Nat.eq_of_testBit_eq fun j => by rw [Nat.testBit_and, Nat.testBit_and]; cases a.testBit j <;> cases b.testBit j <;> rfl
  rw [e1, e2] at hx
  rw [← hx]
  unfold Builtin.bitAnd Builtin.bitNot
  have h1 : decide (0 ≤ (a : Int)) = true := by simp
  have h2 : decide (0 ≤ -(b : Int) - 1) = false := by simp; omega
  rw [h1, h2]
  dsimp only
  rw [show (-(-(b : Int) - 1) - 1).toNat = b by omega, Int.toNat_natCast]
theorem sub_place {a p : Nat} (h : a.testBit p = true) : ∃ c : Nat, (a : Int) - ((2 ^ p : Nat) : Int) = (c : Int) ∧ ∀ j, c.testBit j = (a.testBit j && decide (j ≠ p)) := by
  obtain ⟨c, hc⟩ : ∃ c, c = a ^^^ 2 ^ p := ⟨_, rfl⟩
  have ht : ∀ j, c.testBit j = (a.testBit j && decide (j ≠ p)) := fun j => by
    rw [hc, Nat.testBit_xor, Nat.testBit_two_pow]
    by_cases e : j = p
    · subst e; simp [h]
    · have : ¬ p = j := fun q => e q.symm
      simp [e, this]
  have hp : c.testBit p = false := by rw [ht]; simp
  have := add_place hp
  have e : c ||| 2 ^ p = a := Nat.eq_of_testBit_eq fun j => by
    rw [Nat.testBit_or, ht, Nat.testBit_two_pow]
    by_cases e : j = p
    · subst e; simp [h]
    · have : ¬ p = j := fun q => e q.symm
      simp [e, this]
  rw [e] at this
  exact ⟨c, by omega, ht⟩
theorem shrN (n j : Nat) : shrD (.int (n : Int)) (.int (j : Int)) = some (.int ((n / 2 ^ j : Nat) : Int)) := by
  have : shrD (.int (n : Int)) (.int (j : Int)) = some (.int ((n : Int) / 2 ^ ((j : Int)).toNat)) := by unfold shrD iop; dsimp only; rw [if_pos (by omega)]
  rw [this, Int.toNat_natCast]; congr 2
theorem and1N (n j : Nat) : andD (.int ((n / 2 ^ j : Nat) : Int)) (.int 1) = some (.int (if n.testBit j then 1 else 0)) := by
  show some (Dat.int (Builtin.bitAnd ((n / 2 ^ j : Nat) : Int) ((1 : Nat) : Int))) = _
  rw [bitAnd_nat, Nat.and_one_is_mod, Nat.testBit_eq_decide_div_mod_eq]
  generalize n / 2 ^ j = q
  congr 2
  rcases (show q % 2 = 0 ∨ q % 2 = 1 by omega) with h | h <;> simp [h]
theorem andN (a b : Nat) : andD (.int (a : Int)) (.int (b : Int)) = some (.int ((a &&& b : Nat) : Int)) := by
  show some (Dat.int (Builtin.bitAnd _ _)) = _
  rw [bitAnd_nat]
theorem orN (a b : Nat) : orD (.int (a : Int)) (.int (b : Int)) = some (.int ((a ||| b : Nat) : Int)) := by
  show some (Dat.int (Builtin.bitOr _ _)) = _
  rw [bitOr_nat]
theorem xorN (a b : Nat) : xorD (.int (a : Int)) (.int (b : Int)) = some (.int ((a ^^^ b : Nat) : Int)) := by
  show some (Dat.int (Builtin.bitXor _ _)) = _
  rw [bitXor_nat]
theorem eq1_bit (b : Bool) : eqF (.int (if b then 1 else 0)) (.int 1) = some (.bl b) := by cases b <;> rfl
theorem eqN (a b : Nat) : eqF (.int (a : Int)) (.int (b : Int)) = some (.bl (a == b)) := by
  show some (Dat.bl ((a : Int) == (b : Int))) = _
  congr 2
  rw [Bool.eq_iff_iff, beq_iff_eq, beq_iff_eq]; omega
theorem neI2 (i j : Int) : neF (.int i) (.int j) = some (.bl (!(i == j))) := rfl
theorem neB2 (i j : Bool) : neF (.bl i) (.bl j) = some (.bl (!(i == j))) := rfl
theorem bls_any (bs : List Bool) : anyD [.lst (bs.map .bl)] = some (.bl (bs.any id)) := by unfold anyD; dsimp only; rw [blsD_map]; rfl
theorem aLst_ok {fs : Ev → Option (List Dat)} {env : Ev} {xs : List Dat} (h : fs env = some xs) (hl : xs.length ≤ 1000) : aLst fs env = some xs := by unfold aLst; rw [h]; exact if_pos (Nat.le_trans hl (by decide))
theorem natsD_map (ps : List Nat) : natsD ps = ps.map fun p : Nat => Dat.int (p : Int) := toI ps
theorem nodup_take {α : Type} {xs : List α} {i : Nat} {p : α} (h : xs.Nodup) (hp : xs[i]? = some p) : p ∉ xs.take i := by
  obtain ⟨hi, e⟩ := List.getElem?_eq_some_iff.mp hp
  have e1 : xs = xs.take i ++ p :: xs.drop (i + 1) := by
    conv => lhs; rw [← List.take_append_drop i xs, List.drop_eq_getElem_cons hi, e]
  rw [e1] at h
  intro hm
  exact (List.nodup_append.mp h).2.2 p hm p List.mem_cons_self rfl
theorem k_tt : kitB "tuple" "tuple" = some true := by decide +kernel
theorem k_ts : kitB "tuple" "str" = some false := by decide +kernel
theorem dU_ok {F : Dat → Option Dat} {f : Ev → Option Dat} {env : Ev} {x z : Dat} (h1 : f env = some x) (h2 : F x = some z) : dU F f env = some z := by unfold dU; rw [h1]; exact h2
theorem compL_ex {g : Dat → Ev → Option Ev} {f : Ev → Option Dat} {env : Ev} {α : Type} (D : α → Dat) (P : α → Prop) : ∀ (xs : List Dat), (∀ x ∈ xs, ∃ (e1 : Ev) (y : α), g x env = some e1 ∧ f e1 = some (D y) ∧ P y) → ∃ ys : List α, compL g tTrue f env xs = some (ys.map D) ∧ ys.length = xs.length ∧ ∀ y ∈ ys, P y
  | [], _ => ⟨[], rfl, rfl, fun _ h => nomatch h⟩
  | x :: xs, h => by
    obtain ⟨e1, y, a1, a2, a3⟩ := h x List.mem_cons_self
    obtain ⟨ys, b1, b2, b3⟩ := compL_ex D P xs fun z hz => h z (List.mem_cons_of_mem _ hz)
    refine ⟨y :: ys, ?_, by rw [List.length_cons, List.length_cons, b2], fun z hz => ?_⟩
    · rw [compL, a1]
      dsimp only [Option.bind, tTrue]
      rw [if_pos rfl, a2]
      dsimp only
      rw [b1]
      rfl
    · rcases List.mem_cons.mp hz with e | e
      · exact e ▸ a3
      · exact b3 z e
theorem rng_mem {lo : Int} {n : Nat} {d : Dat} (h : d ∈ rng lo n) : ∃ i : Nat, i < n ∧ d = .int (lo + i) := by
  obtain ⟨i, hi, e⟩ := List.getElem_of_mem h
  have := rng_get (lo := lo) (n := n) (i := i) (d := d) (by rw [List.getElem?_eq_getElem hi, e])
  exact ⟨i, this.1, this.2⟩
theorem nats_get {ps : List Nat} {i : Nat} {d : Dat} (h : (natsD ps)[i]? = some d) : ∃ p : Nat, ps[i]? = some p ∧ d = .int (p : Int) := by
  rw [List.getElem?_map, List.getElem?_map] at h
  obtain ⟨y, hy, rfl⟩ := map_some h
  obtain ⟨p, hq, rfl⟩ := map_some hy
  exact ⟨p, hq, rfl⟩
theorem bits_sub {m : Nat} {ps : List Nat} : (m &&& bitsN ps) = bitsN ps ↔ ∀ p ∈ ps, m.testBit p = true := by
  constructor
  · intro h p hp
    have : (m &&& bitsN ps).testBit p = true := by rw [h, bitsN_at]; simpa using hp
    rw [Nat.testBit_and] at this
    exact (Bool.and_eq_true_iff.mp this).1
  · intro h
    apply Nat.eq_of_testBit_eq
    intro j
    rw [Nat.testBit_and, bitsN_at]
    by_cases hj : j ∈ ps
    · simp [hj, h j hj]
    · simp [hj]
end L2
set_option Elab.async false
set_option linter.all false
set_option maxRecDepth 100000
namespace L2
open PySem PySem.Spec PyProof.Rows
structure St3 where
  w : Nat
  up : Bool
  takes : List Nat
  fills : List Nat
def St3.d (s : St3) : Dat := .tup [.int (s.w : Int), .bl s.up, .tup (natsD s.takes), .tup (natsD s.fills)]
structure G3 where
  wires : List (Str × Bool)
  steps : List St3
  marks : Nat
  code : Nat
def wirD (w : Str × Bool) : Dat := .tup [.str w.1, .str (if w.2 then "made" else "given")]
def G3.d (G : G3) : Dat := .tup [.tup (G.wires.map wirD), .tup (G.steps.map St3.d), .int (G.marks : Int), .int (G.code : Int)]
structure Sp3 (size : Nat) (ps : List Nat) : Prop where
  nd : ps.Nodup
  lt : ∀ p ∈ ps, p < size
  le : ps.length ≤ 4
structure St3.Ok (size wires : Nat) (s : St3) : Prop where
  w : s.w < wires
  t : Sp3 size s.takes
  f : Sp3 size s.fills
structure G3.Ok (size : Nat) (G : G3) : Prop where
  w1 : 1 ≤ G.wires.length
  w2 : G.wires.length ≤ 10
  s1 : 1 ≤ G.steps.length
  s2 : G.steps.length ≤ 24
  st : ∀ s ∈ G.steps, s.Ok size G.wires.length
theorem modN (r m : Nat) (h : 0 < m) : modD (.int (r : Int)) (.int (m : Int)) = some (.int ((r % m : Nat) : Int)) := by
  rw [modD_ok (by omega)]; rfl
theorem fdivN (r m : Nat) (h : 0 < m) (h2 : m < 1073741824) : fdivD (.int (r : Int)) (.int (m : Int)) = some (.int ((r / m : Nat) : Int)) := by
  rw [fdivD_ok ⟨by omega, by omega⟩]; rfl
theorem mulN (r m : Nat) (h : m < 18446744073709551616) : mulE (.int (r : Int)) (.int (m : Int)) = some (.int ((r * m : Nat) : Int)) := by
  rw [mulI_ok (.inr ⟨by omega, by omega⟩)]; rfl
theorem mulN' (r m : Nat) (h : r < 18446744073709551616) : mulE (.int (r : Int)) (.int (m : Int)) = some (.int ((r * m : Nat) : Int)) := by
  rw [mulI_ok (.inl ⟨by omega, by omega⟩)]; rfl
theorem addN (r m : Nat) : addD (.int (r : Int)) (.int (m : Int)) = some (.int ((r + m : Nat) : Int)) := rfl
def canB (s : St3) (m : Nat) : Bool := (m &&& bitsN s.takes) == bitsN s.takes
theorem canB_iff {s : St3} {m : Nat} : canB s m = true ↔ ∀ p ∈ s.takes, m.testBit p = true := by
  unfold canB; rw [beq_iff_eq]; exact bits_sub
theorem sort_nats (ps : List Nat) : ∃ qs : List Nat, (sortI (ps.map fun p : Nat => (p : Int))).map Dat.int = natsD qs ∧ qs.Perm ps := by
  refine ⟨(sortI (ps.map fun p : Nat => (p : Int))).map Int.toNat, ?_, ?_⟩
  · show _ = (((sortI (ps.map fun p : Nat => (p : Int))).map Int.toNat).map fun p : Nat => (p : Int)).map Dat.int
    congr 1
    rw [List.map_map]
    conv => lhs; rw [← List.map_id (sortI _)]
    apply List.map_congr_left
    intro x hx
    have := (sortI_perm _).mem_iff.mp hx
    obtain ⟨p, _, rfl⟩ := List.mem_map.mp this
    simp
  · have h := (sortI_perm (ps.map fun p : Nat => (p : Int))).map Int.toNat
    rw [List.map_map] at h
    have e : (Int.toNat ∘ fun p : Nat => (p : Int)) = id := by funext p; simp
    rw [e, List.map_id] at h
    exact h
theorem sorted_nats (ps : List Nat) (h : ps.length < 64) : ∃ qs : List Nat, sortedN [.lst (natsD ps)] = some (natsD qs) ∧ qs.Perm ps := by
  obtain ⟨qs, e, hp⟩ := sort_nats ps
  refine ⟨qs, ?_, hp⟩
  unfold sortedN
  dsimp only
  rw [intsD_map]
  show (if (ps.map fun p : Nat => (p : Int)).length < 64 then _ else _) = _
  rw [if_pos (by rw [List.length_map]; exact h), e]
theorem len_append_str (x y : Str) : (x ++ y).length = x.length + y.length := len_app x y
end L2
set_option Elab.async false
set_option linter.all false
set_option maxRecDepth 100000
namespace L2
open PySem
section
variable {prog : Program} {w : World} {A : Around} {E : Value → Shared → Prop} {h : Heap} {g : Array GenState} {d : Drawn} {t : Nat} {os : OsState}
variable {nm q : Str} {C N : Addr} {bs bm bmB : List Value} {hdct : Bool} {sn : List Str} {sub : List Value} {ab : Bool} {col : Option Bool} {dd : Option Addr} {k0 k1 k2 k3 k5 : Option Value} {B Bn newId nid initId inN : String} {bmN : List Value}
theorem type_call_initU (Fn : ExcBaseFacts Bn newId inN bmN) (hBn : bmB.contains (.type Bn) = true) (F : ExcBaseFacts B nid initId bmB) (T : OwnTail h bmB bm) {mN : Str → Option Value} {rest : List Value} {fI : Addr} {oI : Obj} {Q : Fin → Shared → Prop}
    (hC : h.get? C = some (excClassObj nm q C N bs bm hdct sn sub ab col dd k0 k1 k2 k3 k5 newId)) (hn : h.Ns N mN) (hi : mN "__init__" = some (.ref fI))
    (hfI : h.get? fI = some oI) (hfc : oI.cls = .type "function")
    (hq : ∀ h' e, h.objs.size ≤ e → Heap.MadeExcOf h h' e (.ref C) rest →
      wpAny (model prog w) A (call (.ref fI) (.ref e :: rest)) (fun r s' => r = .none ∧ Q (.done (.ret (.ref e))) s') E ⟨h', g, d, t, os⟩) (hrest : rest.length ≤ sizeLine := by size_fits) :
    wpAny (model prog w) A (Builtin.«type.__call__» ⟨.ref C :: rest, []⟩) Q E ⟨h, g, d, t, os⟩ := by
  repeat (first | with_reducible refine wpAny_loadPart_at hC ?_ | with_reducible refine wpAny_madeBy_exc hC ?_ | wp_step)
  refine codeAny_call_builtin_code (Code.quiet_builtin _ Fn.quiet) (wpAny_check_new_subU Fn hBn T hC ?_)
  refine codeAny_exc_new_subU Fn hBn F T hC ?_ hrest
  show wpAny _ _ _ _ _ _
  have hC₁ := Heap.get?_push_of_some { cls := .ref C, data := .fields #[.ref h.objs.size, .none, .none, .none, .bool false, .none] }
    (Heap.get?_push_of_some { cls := .type "tuple", data := .seq rest.toArray } hC)
  have hfI₁ := Heap.get?_push_of_some { cls := .ref C, data := .fields #[.ref h.objs.size, .none, .none, .none, .bool false, .none] }
    (Heap.get?_push_of_some { cls := .type "tuple", data := .seq rest.toArray } hfI)
  have hn₁ : ((h.push { cls := .type "tuple", data := .seq rest.toArray }).push { cls := .ref C, data := .fields #[.ref h.objs.size, .none, .none, .none, .bool false, .none] }).Ns N mN :=
    let ⟨o, es, ep, e, r⟩ := hn; ⟨o, es, ep, Heap.get?_push_of_some _ (Heap.get?_push_of_some _ e), r⟩
  have hget : ((h.push { cls := .type "tuple", data := .seq rest.toArray }).push
      { cls := .ref C, data := .fields #[.ref h.objs.size, .none, .none, .none, .bool false, .none] }).get? (h.objs.size + 1) = some
      { cls := .ref C, data := .fields #[.ref h.objs.size, .none, .none, .none, .bool false, .none] } := by heap_get
  have hcC : (Value.ref C :: bm).contains (.ref C) = true := by simp
  have T₁ := T.keeps (h' := (h.push { cls := .type "tuple", data := .seq rest.toArray }).push { cls := .ref C, data := .fields #[.ref h.objs.size, .none, .none, .none, .bool false, .none] })
    fun b o e => Heap.get?_push_of_some _ (Heap.get?_push_of_some _ e)
  unfold isInstance
  repeat (first | with_reducible refine wpAny_loadPart_at hget ?_ | (with_reducible refine wpAny_isSubtype_exc hC₁ ?_; rw [hcC]) | wp_step)
  show wpAny _ _ (typeLookup (.ref C) _) _ _ _
  refine wpAny_typeLookup_tail hC₁ hn₁ T₁ F.mroIs F.init.lookup ?_
  rw [hi]
  refine wpAny_holding (wpAny_bind ?_)
  unfold bindSpecial
  refine wpAny_bind (wpAny_typeOf (T := "function") ⟨_, hfI₁, hfc⟩ ?_)
  rw [if_pos (by decide)]
  refine wpAny_pure (wpAny_bind (wpAny_mono (hq _ (h.objs.size + 1) (Nat.le_succ _) ⟨fun b o hb => Heap.get?_push_of_some _ (Heap.get?_push_of_some _ hb), Heap.get?_none_of_le (Nat.le_succ _), h.objs.size, hget, Heap.get?_none_of_le (Nat.le_refl _), ?_⟩) (fun r s' hr => ?_) fun _ _ x => x))
  · exact Heap.get?_push_of_some _ (Heap.get?_push_at rfl rfl)
  · obtain ⟨rfl, hQ⟩ := hr
    wp_walk
    exact hQ
theorem call_initU (Fn : ExcBaseFacts Bn newId inN bmN) (hBn : bmB.contains (.type Bn) = true) (F : ExcBaseFacts B nid initId bmB) (T : OwnTail h bmB bm) {mN : Str → Option Value} {rest : List Value} {fI : Addr} {oI : Obj} {Q : Value → Shared → Prop}
    (hC : h.get? C = some (excClassObj nm q C N bs bm hdct sn sub ab col dd k0 k1 k2 k3 k5 newId)) (hn : h.Ns N mN) (hi : mN "__init__" = some (.ref fI))
    (hfI : h.get? fI = some oI) (hfc : oI.cls = .type "function")
    (hq : ∀ h' e, h.objs.size ≤ e → Heap.MadeExcOf h h' e (.ref C) rest →
      wpAny (model prog w) (A.under (.builtin "type.__call__" ⟨.ref C :: rest, []⟩)) (call (.ref fI) (.ref e :: rest)) (fun r s' => r = .none ∧ Q (.ref e) s') E ⟨h', g, d, t, os⟩) (hrest : rest.length ≤ sizeLine := by size_fits) :
    wpAny (model prog w) A (call (.ref C) rest) Q E ⟨h, g, d, t, os⟩ := by
  have f1 := tc_lookup
  have f2 := tc_bind (.ref C)
  have hT : (⟨h, g, d, t, os⟩ : Shared).TypeIs (.ref C) "type" := ⟨_, hC, rfl⟩
  refine wpAny_call (codeAny_of_tree ?_)
  show wpAny _ _ (callAny (.ref C) _) _ _ _
  repeat (any_goals (first | assumption | with_reducible refine wpAny_loadPart_at hC ?_ | wp_step))
  refine ⟨rfl, ?_⟩
  refine codeAny_call_builtin_at (Code.quiet_builtin _ (by decide +kernel)) entry_typeCall (wpAny_check_type_call_sub hC (type_call_initU (hrest := hrest) Fn hBn F T hC hn hi hfI hfc fun h' e hlo hm => ?_))
  exact hq h' e hlo hm
end
end L2
set_option Elab.async false
set_option linter.all false
set_option maxRecDepth 100000
namespace L2
open PySem
section
variable {M : Model} {A : Around} {E : Value → Shared → Prop} {env : Env}
variable {nm q : Str} {C N : Addr} {bs bm : List Value} {hdct : Bool} {sn : List Str} {sub : List Value} {ab : Bool} {col : Option Bool} {dd : Option Addr} {k0 k1 k2 k3 k5 : Option Value} {newId : String}
theorem raise_madeD {s : Shared} {x : Sem Value} {Q : Flow → Shared → Prop} (hbase : bm.contains (.type "BaseException") = true) (hh : A.handled = none)
    (h : wpAny M A x (fun v s₁ => ∃ e a dct, v = .ref e ∧ s₁.heap.get? C = some (excClassObj nm q C N bs bm hdct sn sub ab col dd k0 k1 k2 k3 k5 newId) ∧
      s₁.heap.get? e = some { cls := .ref C, dict := dct, data := .fields #[a, .none, .none, .none, .bool false, .none] } ∧ E (.ref e) s₁) E s) :
    wpAny M A (raiseStmt env (some x) none) Q E s := by
  have hcB : (Value.ref C :: bm).contains (.type "BaseException") = true := by rw [List.contains_cons, hbase, Bool.or_true]
  unfold raiseStmt
  refine wpAny_bind (wpAny_mono h (fun v s₁ h₁ => ?_) fun _ _ x => x)
  obtain ⟨e, a, dct, rfl, hC, he, hE⟩ := h₁
  obtain ⟨hp, g, d, tk, os⟩ := s₁
  repeat (first | with_reducible refine wpAny_loadPart_at he ?_ | with_reducible refine wpAny_loadPart_at hC ?_ | (with_reducible refine wpAny_isSubtype_exc hC ?_; rw [hcB]) | wp_step)
  exact wpAny_raiseNew_none hh hE
end
end L2
set_option Elab.async false
set_option linter.all false
set_option maxRecDepth 100000
namespace L2
open PySem
section
variable {prog : Program} {w : World} {A : Around} {E : Value → Shared → Prop} {h : Heap} {g : Array GenState} {d : Drawn} {t : Nat} {os : OsState}
variable {nm q : Str} {C N : Addr} {bs bm bmB : List Value} {hdct : Bool} {sn : List Str} {sub : List Value} {ab : Bool} {col : Option Bool} {dd : Option Addr} {k0 k1 k2 k3 k5 : Option Value} {newId nid : String}
theorem call_baseInit (T : OwnTail h [.type "ValueError", .type "Exception", .type "BaseException", .type "object"] bm) {e t0 : Addr} {x : Value} {dct : Option Addr} {Q : Value → Shared → Prop}
    (hC : h.get? C = some (excClassObj nm q C N bs bm hdct sn sub ab col dd k0 k1 k2 k3 k5 newId)) (he : h.get? e = some { cls := .ref C, dict := dct, data := .fields #[.ref t0, .none, .none, .none, .bool false, .none] })
    (hq : ∀ h', h'.get? e = some { cls := .ref C, dict := dct, data := .fields #[.ref h.objs.size, .none, .none, .none, .bool false, .none] } → (∀ b o, b ≠ e → h.get? b = some o → h'.get? b = some o) → h.objs.size ≤ h'.objs.size → Q .none ⟨h', g, d, t, os⟩) :
    wpAny (model prog w) A (call (.builtin "ValueError.__init__") [.ref e, x]) Q E ⟨h, g, d, t, os⟩ := by
  have F := PySem.F.excBase_ValueError
  refine wpAny_call (codeAny_call_builtin F.init.plain F.initEntry (wpAny_check_init_subU F T hC he rfl ?_))
  have he2 := Heap.get?_push_of_some { cls := .type "tuple", data := .seq #[x] } he
  wp_walk
  refine hq _ ?_ ?_ ?_
  · rw [Heap.get?_update_self _ he2 rfl]
    rfl
  · intro b o hb hbo
    rw [Heap.get?_update_other _ _ (Ne.symm hb)]
    exact Heap.get?_push_of_some _ hbo
  · rw [Heap.size_after_update, Heap.size_push]; exact Nat.le_succ _
end
end L2
set_option Elab.async false
set_option linter.all false
set_option maxRecDepth 100000
namespace L2
open PySem PySem.Spec PyProof.Rows PySem.W
open PySem.Builtin PySem.Builtin.ObjectAttr
def veMro : List Value := [.type "ValueError", .type "Exception", .type "BaseException", .type "object"]
section
variable {prog : Program} {w : World} {A : Around} {E : Value → Shared → Prop} {s : Shared} {K : Frag} {x C a b : Addr} {cd : ClassData} {R : Result → Shared → Prop} {v : Value} {name : Str}
theorem osa_x {ox : Obj} {od : Option Obj} {tk : Tok} (X : K.In s.heap) (I : InstAt s.heap x ox C od) (hc : clsIn K C = some cd) (hm : cd.mro = .ref a :: .ref b :: veMro) (ha : findIn K (.ref C) name = some none)
    (h : wpAny (model prog w) A.in1 (storeInOwnDict (.ref x) (.ref C) (.str name tk) name v false)
      (fun fin s' => match fin with | .done f => R (.ok f) s' | .again c' => c'.quiet = true ∧ codeAny (model prog w) A c' R s') (fun e s' => R (.error e) s') s) :
    codeAny (model prog w) A (.call (.builtin "object.__setattr__") ⟨[.ref x, .str name tk, v], []⟩) R s := by
  have SF := PySem.F.store_object
  have sub : Looks (model prog w) s.heap (isInstance (.ref x) (.type "object")) true := I.type.andThen (looks_mroIn X (by unfold mroIn; rw [hc, Option.bind_some, hm]; rfl))
  refine codeAny_call_builtin SF.slot.plain SF.entry (@check_slot (model prog w) _ _ s "object.__setattr__" "object" "__setattr__" (.ref x) [.str name tk, v] [] _ SF.kind SF.split sub (SF.args (.ref x) (.str name tk) v) ?_)
  have hmr : Looks (model prog w) s.heap (mroOf (.ref C)) cd.mro := (looks_clsIn X hc).andThen .now
  rw [osa_eq, refuse_eq]
  refine wpAny_bind (wpAny_bind (I.type.here (wpAny_bind (hmr.here ?_))))
  rw [hm, refuseLoop_ref, refuseLoop_ref, show veMro = [.type "ValueError", .type "Exception", .type "BaseException", .type "object"] from rfl, PySem.F.store_ValueError.passes]
  refine wpAny_pure (wpAny_bind (I.type.here (wpAny_bind ((looks_findIn X ha).here (wpAny_bind ?_)))))
  exact wpAny_pure h
end
section
variable {prog : Program} {w : World} {A : Around} {E : Value → Shared → Prop} {h : Heap} {g : Array GenState} {d : Drawn} {t : Nat} {os : OsState} {x C : Addr} {v : Value} {name : Str} {oC : Obj} {cd : ClassData}
theorem store_new {o : Obj} {tk : Tok} {Q : Fin → Shared → Prop} (hx : h.get? x = some o) (hc : o.cls = .ref C) (hnc : ∀ c, o.data ≠ .cls c) (hdn : o.dict = none) (hC : h.get? C = some oC) (hcd : oC.data = .cls cd) (hhd : cd.hasDict = true)
    (hq : ∀ h' tk', h'.get? x = some { cls := o.cls, dict := some h.objs.size, data := o.data, slots := o.slots } → h'.Ns1 h.objs.size (fun y => if y = name then some v else none) → (∀ b ob, b ≠ x → h.get? b = some ob → h'.get? b = some ob) → h.objs.size < h'.objs.size → Q (.done (.ret .none)) ⟨h', g, d, tk', os⟩) :
    wpAny (model prog w) A (storeInOwnDict (.ref x) (.ref C) (.str name tk) name v false) Q E ⟨h, g, d, t, os⟩ := by
  unfold storeInOwnDict
  repeat (first | (with_reducible refine wpAny_loadPart_at hx ?_; rw [hc]) | with_reducible refine wpAny_loadPart_at hC ?_ | wp_step)
  rw [hcd]
  refine wpAny_pure ?_
  rw [hhd, if_neg (by decide), hdn]
  show wpAny _ _ (if (!true || !typeHasDict (Value.ref C)) = true then pure none else _) _ _ _
  rw [if_neg (by simp [typeHasDict])]
  have hx₁ : (h.push { cls := .type "dict", data := .dict #[] }).get? x = some o := Heap.get?_push_of_some _ hx
  have hxs : x ≠ h.objs.size := Nat.ne_of_lt (Heap.lt_size hx)
  split
  · rename_i c hcd'
    exact absurd hcd' (hnc c)
  · refine wpAny_bind (wpAny_alloc' ?_)
    refine wpAny_bind (wpAny_update' hx₁ ?_)
    refine wpAny_pure ?_
    have hgd : ((h.push { cls := .type "dict", data := .dict #[] }).update x fun o => { cls := o.cls, dict := some h.objs.size, data := o.data, slots := o.slots }).get? h.objs.size
        = some { cls := .type "dict", data := .dict #[] } :=
      (Heap.get?_update_ne _ _ _ _ hxs.symm).trans (Heap.get?_push_at rfl rfl)
    have hnd : ((h.push { cls := .type "dict", data := .dict #[] }).update x fun o => { cls := o.cls, dict := some h.objs.size, data := o.data, slots := o.slots }).Ns h.objs.size (fun _ => none) :=
      ⟨_, #[], _, hgd, rfl, fun e he => absurd he (by simp), fun _ => rfl⟩
    show wpAny _ _ (storeInDict h.objs.size (.str name tk) name v) _ _ _
    unfold storeInDict newKeyGuard
    refine wpAny_bind (wpAny_pure (wpAny_bind (wpAny_nsSet1 (Heap.Ns1.of_empty hnd) fun h' hn' hs => ?_)))
    obtain ⟨oD, esD, epD, hoD, hdD, hcD⟩ := hn'.count (Within.cons name v Within.nil)
    refine wpAny_bind (wpAny_lookBehind hoD (by rw [hdD]; exact pastItsLine_dict (Nat.le_trans hcD (by rw [List.length_cons, List.length_nil, sizeLine_eq]; omega))) ?_)
    wp_walk
    have hx' : h'.get? x = some { cls := o.cls, dict := some h.objs.size, data := o.data, slots := o.slots } := by
      refine (hs.2 x hxs).trans (Heap.get?_update_self _ hx₁ ?_)
      have hfr := (Heap.get?_some_iff.mp hx).2
      obtain ⟨oc, od, odt, osl⟩ := o
      cases odt <;> first | rfl | exact hfr
    refine hq h' _ hx' hn' (fun b ob hbx hb => ?_) ?_
    · exact (hs.2 b (Nat.ne_of_lt (Heap.lt_size hb))).trans ((Heap.get?_update_ne _ _ _ _ hbx).trans (Heap.get?_push_of_some _ hb))
    · have h1 := hs.1
      rw [Heap.size_after_update, Heap.size_push] at h1
      omega
end
end L2
set_option Elab.async false
set_option linter.all false
set_option maxRecDepth 100000
namespace L2
open PySem PySem.Spec PyProof.Rows PySem.W
open PySem.Builtin PySem.Builtin.ObjectAttr
section
variable {prog : Program} {w : World} {A : Around} {E : Value → Shared → Prop} {h : Heap} {g : Array GenState} {d : Drawn} {t : Nat} {os : OsState} {x C dx : Addr} {v : Value} {name : Str} {oC o : Obj} {cd : ClassData} {K : Frag} {mA : Str → Option Value}
theorem xget_entry {tk : Tok} {Q : Fin → Shared → Prop} (X : K.In h) (hx : h.get? x = some o) (hc : o.cls = .ref C) (hnc : ∀ c, o.data ≠ .cls c) (hdx : o.dict = some dx) (hns : h.Ns1 dx mA) (hv : mA name = some v)
    (hf : findIn K (.ref C) name = some none) (hC : h.get? C = some oC) (hcd : oC.data = .cls cd) (hhd : cd.hasDict = true) (hq : Q (.done (.ret v)) ⟨h, g, d, t, os⟩) :
    wpAny (model prog w) A (Builtin.«object.__getattribute__» ⟨[.ref x, .str name tk], []⟩) Q E ⟨h, g, d, t, os⟩ := by
  have L1 := looks_findIn (M := model prog w) X hf
  unfold Builtin.«object.__getattribute__»
  repeat (first | (with_reducible refine wpAny_loadPart_at hx ?_; rw [hc]) | with_reducible refine L1.at ?_ | wp_step)
  split
  · rename_i c hcd'
    exact absurd hcd' (hnc c)
  unfold instanceDict
  repeat (first | (with_reducible refine wpAny_loadPart_at hx ?_; rw [hc]) | with_reducible refine wpAny_loadPart_at hC ?_ | wp_step)
  rw [hcd]
  refine wpAny_pure ?_
  rw [hhd, if_neg (by decide), hdx]
  refine wpAny_pure ?_
  unfold inDict
  repeat (first | (with_reducible refine wpAny_nsGet hns.ns ?_; rw [hv]) | wp_step)
  exact hq
theorem xget_call {tk : Tok} {R : Result → Shared → Prop} (X : K.In h) (hx : h.get? x = some o) (hc : o.cls = .ref C) (hnc : ∀ c, o.data ≠ .cls c) (hdx : o.dict = some dx) (hns : h.Ns1 dx mA) (hv : mA name = some v)
    (hf : findIn K (.ref C) name = some none) (hC : h.get? C = some oC) (hcd : oC.data = .cls cd) (hhd : cd.hasDict = true) (hsub : Looks (model prog w) h (isInstance (.ref x) (.type "BaseException")) true) (hq : R (.ok (.ret v)) ⟨h, g, d, t, os⟩) :
    codeAny (model prog w) A (.call (.builtin "BaseException.__getattribute__") ⟨[.ref x, .str name tk], []⟩) R ⟨h, g, d, t, os⟩ := by
  have hk : builtinKind "BaseException.__getattribute__" = some .slot := by decide +kernel
  have hsplit : splitId "BaseException.__getattribute__" = some ("BaseException", "__getattribute__") := by decide +kernel
  refine codeAny_call_builtin PySem.F.excAttr_ValueError.ga.plain PySem.F.entry_bexc_ga (@check_slot (model prog w) _ _ ⟨h, g, d, t, os⟩ "BaseException.__getattribute__" "BaseException" "__getattribute__" (.ref x) [.str name tk] [] _ hk hsplit hsub (PySem.F.args_bexc_ga (.ref x) (.str name tk)) ?_)
  exact xget_entry X hx hc hnc hdx hns hv hf hC hcd hhd hq
theorem xget {expr : Bool} {Q : Value → Shared → Prop} (X : K.In h) (hx : h.get? x = some o) (hc : o.cls = .ref C) (hnc : ∀ c, o.data ≠ .cls c) (hdx : o.dict = some dx) (hns : h.Ns1 dx mA) (hv : mA name = some v)
    (hf : findIn K (.ref C) name = some none) (hC : h.get? C = some oC) (hcd : oC.data = .cls cd) (hhd : cd.hasDict = true) (hsub : Looks (model prog w) h (isInstance (.ref x) (.type "BaseException")) true)
    (hga : findIn K (.ref C) "__getattribute__" = some (some (.builtin "BaseException.__getattribute__"))) (hgh : findIn K (.ref C) "__getattr__" = some none) (hh : handedOut v = pure v) (hq : Q v ⟨h, g, d, t + 1, os⟩) :
    wpAny (model prog w) A (getAttr (.ref x) name expr) Q E ⟨h, g, d, t, os⟩ := by
  have L1 := looks_findIn (M := model prog w) X hga
  have L2 := looks_findIn (M := model prog w) X hgh
  have f3 := PySem.F.excAttr_ValueError.ga.bind (.ref x)
  have hx0 : (expr && onTheHeap (Value.builtin "BaseException.__getattribute__")) = false := by cases expr <;> rfl
  have hx2 : (Value.builtin "BaseException.__getattribute__" == Value.builtin "object.__getattribute__") = false := by decide +kernel
  have hx1 : (onTheHeap (Value.ref C) && Value.builtin "BaseException.__getattribute__" == Value.builtin "object.__getattribute__") = false := by rw [hx2]; rfl
  unfold getAttr
  repeat (any_goals (first | assumption | (with_reducible refine wpAny_loadPart_at hx ?_; rw [hc]) | with_reducible refine L1.at ?_ | with_reducible refine L2.at ?_ | wp_step))
  refine xget_call X hx hc hnc hdx hns hv hf hC hcd hhd hsub ?_
  show wpAny _ _ (handedOut v) _ _ _
  rw [hh]
  exact wpAny_pure hq
end
end L2
set_option Elab.async false
set_option linter.all false
set_option maxRecDepth 100000
namespace L2
open PySem PySem.Spec PyProof.Rows PySem.W
open PySem.Builtin PySem.Builtin.ObjectAttr
section
variable {prog : Program} {w : World} {A : Around} {E : Value → Shared → Prop} {h : Heap} {g : Array GenState} {d : Drawn} {t : Nat} {os : OsState} {x C : Addr} {o : Obj} {K : Frag}
theorem xcls_get {R : Result → Shared → Prop} (hx : h.get? x = some o) (hc : o.cls = .ref C) (hs : Looks (model prog w) h (isSubtype (.ref C) (.type "object")) true) (hq : R (.ok (.ret (.ref C))) ⟨h, g, d, t, os⟩) :
    codeAny (model prog w) A (.call (.builtin "getset_descriptor.__get__") ⟨[.builtin "object.__class__", .ref x, .ref C], []⟩) R ⟨h, g, d, t, os⟩ := by
  have hT5 : (⟨h, g, d, t, os⟩ : Shared).TypeIs (.builtin "object.__class__") "getset_descriptor" := PySem.F.typeOf_object_class
  have f8 : Looks (model prog w) h (isSubtype (.ref C) (.type (".".intercalate ("object.__class__".cutAt '.').dropLast))) true := by rw [PySem.F.owner_object_class]; exact hs
  refine codeAny_call_builtin PySem.F.slot_gs_get.plain PySem.F.entry_gs_get (PySem.F.slot_gs_get.check _ _ _ _ _ _ _ _ hT5 (PySem.F.args_gs_get _ _ _) ?_)
  repeat (any_goals (first | assumption | (with_reducible refine wpAny_loadPart_at hx ?_; rw [hc]) | with_reducible refine f8.at ?_ | wp_step))
  refine ⟨Code.quiet_builtin _ (by decide +kernel), codeAny_builtin PySem.F.entry_object_class ?_⟩
  repeat (any_goals (first | assumption | (with_reducible refine wpAny_loadPart_at hx ?_; rw [hc]) | wp_step))
theorem xcls_entry {tk : Tok} {Q : Fin → Shared → Prop} (X : K.In h) (hx : h.get? x = some o) (hc : o.cls = .ref C) (ha : findIn K (.ref C) "__class__" = some (some (.builtin "object.__class__"))) (hs : Looks (model prog w) h (isSubtype (.ref C) (.type "object")) true) (hq : Q (.done (.ret (.ref C))) ⟨h, g, d, t, os⟩) :
    wpAny (model prog w) A (Builtin.«object.__getattribute__» ⟨[.ref x, .str "__class__" tk], []⟩) Q E ⟨h, g, d, t, os⟩ := by
  have hT5 : (⟨h, g, d, t, os⟩ : Shared).TypeIs (.builtin "object.__class__") "getset_descriptor" := PySem.F.typeOf_object_class
  have L1 := looks_findIn (M := model prog w) X ha
  have f5 := PySem.F.typeOf_object_class
  have f6 := PySem.F.slot_gs_get.lookup
  have f7 := PySem.F.slot_gs_set.lookup
  repeat (any_goals (first | assumption | (with_reducible refine wpAny_loadPart_at hx ?_; rw [hc]) | with_reducible refine L1.at ?_ | wp_step))
  refine xcls_get hx hc hs ?_
  repeat (any_goals (first | assumption | wp_step))
theorem xcls_attr {Q : Option Value → Shared → Prop} (X : K.In h) (hx : h.get? x = some o) (hc : o.cls = .ref C) (ha : findIn K (.ref C) "__class__" = some (some (.builtin "object.__class__"))) (hs : Looks (model prog w) h (isSubtype (.ref C) (.type "object")) true)
    (hsub : Looks (model prog w) h (isInstance (.ref x) (.type "BaseException")) true) (hga : findIn K (.ref C) "__getattribute__" = some (some (.builtin "BaseException.__getattribute__"))) (hgh : findIn K (.ref C) "__getattr__" = some none) (hq : Q (some (.ref C)) ⟨h, g, d, t + 1, os⟩) :
    wpAny (model prog w) A (getAttr? (.ref x) "__class__") Q E ⟨h, g, d, t, os⟩ := by
  have L1 := looks_findIn (M := model prog w) X hga
  have L2 := looks_findIn (M := model prog w) X hgh
  have f3 := PySem.F.excAttr_ValueError.ga.bind (.ref x)
  have hx2 : (Value.builtin "BaseException.__getattribute__" == Value.builtin "object.__getattribute__") = false := by decide +kernel
  have hx1 : (onTheHeap (Value.ref C) && Value.builtin "BaseException.__getattribute__" == Value.builtin "object.__getattribute__") = false := by rw [hx2]; rfl
  have hk : builtinKind "BaseException.__getattribute__" = some .slot := by decide +kernel
  have hsplit : splitId "BaseException.__getattribute__" = some ("BaseException", "__getattribute__") := by decide +kernel
  unfold getAttr? getAttrBy?
  repeat (any_goals (first | assumption | (with_reducible refine wpAny_loadPart_at hx ?_; rw [hc]) | with_reducible refine L1.at ?_ | with_reducible refine L2.at ?_ | wp_step))
  refine codeAny_call_builtin PySem.F.excAttr_ValueError.ga.plain PySem.F.entry_bexc_ga (@check_slot (model prog w) _ _ ⟨h, g, d, t + 1, os⟩ "BaseException.__getattribute__" "BaseException" "__getattribute__" (.ref x) [.str "__class__" t] [] _ hk hsplit hsub (PySem.F.args_bexc_ga (.ref x) (.str "__class__" t)) ?_)
  refine xcls_entry X hx hc ha hs ?_
  repeat (any_goals (first | assumption | wp_step))
structure XCls (K : Frag) (C : Addr) : Prop where
  cd : ∃ cd, clsIn K C = some cd ∧ cd.hasDict = true ∧ ∃ a b, cd.mro = .ref a :: .ref b :: veMro
  cl : findIn K (.ref C) "__class__" = some (some (.builtin "object.__class__"))
  ga : findIn K (.ref C) "__getattribute__" = some (some (.builtin "BaseException.__getattribute__"))
  gh : findIn K (.ref C) "__getattr__" = some none
  sa : findIn K (.ref C) "__setattr__" = some (some (.builtin "object.__setattr__"))
theorem XCls.sub (c : XCls K C) (X : K.In h) (T : String) (hT : veMro.contains (.type T) = true) {M : Model} : Looks M h (isSubtype (.ref C) (.type T)) true := by
  obtain ⟨cd, hc, _, a, b, hm⟩ := c.cd
  have hT2 : Value.type T ∈ veMro := by simpa using hT
  exact looks_mroIn X (by unfold mroIn; rw [hc, Option.bind_some, hm]; simp [hT2])
theorem XCls.ld (c : XCls K C) (X : K.In h) : ∃ oC cd, h.get? C = some oC ∧ oC.data = .cls cd ∧ cd.hasDict = true := by
  obtain ⟨cd, hc, hd, _⟩ := c.cd
  unfold clsIn at hc
  split at hc
  · rename_i c' d' cd' sl' ho
    cases hc
    exact ⟨_, _, X _ _ ho, rfl, hd⟩
  · cases hc
def XObj (x C : Addr) (h : Heap) : Prop := ∃ o, h.get? x = some o ∧ o.cls = .ref C
theorem kitx_exc (c : XCls K C) : KitX K (.ref x) (.ref C) (XObj x C) where
  ty := fun M h _ ⟨o, h1, h2⟩ => h2 ▸ (Looks.ld h1).andThen .now
  it := fun M h X _ => by
    obtain ⟨oC, cd, h1, h2, _⟩ := c.ld X
    intro A' Q' E' s' k q
    unfold isType loadHead
    refine wpAny_bind (wpAny_loadPart (k _ _ h1) ?_)
    rw [h2]; exact wpAny_pure q
  ne := fun h tp dd its n sl X htp => by
    obtain ⟨oC, cd, h1, h2, _⟩ := c.ld X
    refine Bool.eq_false_iff.mpr fun q => ?_
    have e : C = tp := Value.ref.inj (beq_iff_eq.mp q)
    subst e
    rw [h1] at htp
    cases htp
    cases h2
  ca := fun {prog w A E Q s} X p k => by
    obtain ⟨o, h1, h2⟩ := p
    obtain ⟨h, g, d, t, os⟩ := s
    exact xcls_attr X h1 h2 c.cl (c.sub X "object" (by decide)) ((h2 ▸ (Looks.ld h1).andThen .now : Looks _ _ (typeOf (.ref x)) (.ref C)).andThen (c.sub X "BaseException" (by decide))) c.ga c.gh k
end
end L2
set_option Elab.async false
set_option linter.all false
set_option maxRecDepth 100000
namespace L2
open PySem PySem.Spec PyProof.Rows
theorem hok_kpx {P : Program} {w : World} {l : List Env} {ch : List Addr} {H : Hp} {h h' : Heap} (ok : HOk P w H h) (k : KpX l ch h h') (hc : ∀ b ∈ ch, H b = none) (hf : ∀ b ∈ frs l, H b = none) : HOk P w H h' := fun a o e => by
  have key : ∀ b u, H b ≠ none → h.get? b = some u → h'.get? b = some u := fun b u n q => (k b u q fun z => n (hc b z)).1 fun z => n (hf b z)
  exact (ok a o e).stay (fun b u z q => key b u (by rcases z with z | z <;> simp_all) q) (fun _ q => q) fun _ _ q => q
theorem un_kpx {l : List Env} {ch : List Addr} {H : Hp} {h h' : Heap} (k : KpX l ch h h') (hc : ∀ b ∈ ch, H b = none) : Un (frs l) ch H H h h' where
  keep := fun b o q n hf hx => (k b o q hx).1 hf
  slot := fun b o q n hf hx => (k b o q hx).2
  free := fun b o q n hx => n
  there := fun b o q hx => by obtain ⟨sl, z⟩ := (k b o q hx).2; exact ⟨_, z⟩
  tups := fun b xs q => q
  frzs := fun b o u q => q
  tbls := fun b ps q => ⟨#[], by simpa using q⟩
def CXv (P : Program) (w : World) (base : Heap) : CXT := fun outer H s E ev s' => ∃ e C dct T H', ev = .ref e ∧ s'.os = s.os ∧ AllBare s'.gens ∧ Un (frs outer) [] H H' s.heap s'.heap ∧ HOk P w H' s'.heap ∧
  s.heap.objs.size ≤ e ∧ s.heap.objs.size ≤ T ∧ H' e = none ∧ H' T = none ∧ TrX s'.heap base e T (.ref C) dct .none ∧ E (.ref C) dct H'
theorem Inv.noBase {X : Cx} {pins : List (Addr × Obj)} {σ : St} {H : Hp} {s : Shared} (I : Inv X pins σ H s) {e : Addr} (h : X.s₀.heap.objs.size ≤ e) : X.base.get? e = none := by
  cases q : X.base.get? e with
  | none => rfl
  | some o => exact absurd (Heap.lt_size (I.ok.bs e o q).1) (Nat.not_lt.mpr h)
theorem leave_fn {P : Program} {w : World} {K : PySem.W.Frag} {mg : Str → Option Value} {base : Heap} {N : List Str} {qual : Str} {scope : Scope} {f : Addr} {cd : Value} {A : Around} {outer : List Env} {s : Shared} {H : Hp} {E : XK} {pins : List (Addr × Obj)} {σ : St} {H' : Hp} {s' : Shared} {e C : Addr} {dct : Option Addr}
    (I : Inv (cxOf (CXv P w base) P w K mg base N qual scope f cd A outer s H E) pins σ H' s') (x : XSt (cxOf (CXv P w base) P w K mg base N qual scope f cd A outer s H E) pins H' s'.heap e C dct) (q : E (.ref C) dct H') :
    (cxOf (CXv P w base) P w K mg base N qual scope f cd A outer s H E).xe (.ref e) s' := by
  have hfr : (A.deeper (envOfC qual scope s.heap.objs.size f cd)).frames = some (envOfC qual scope s.heap.objs.size f cd :: outer) := I.ok.frames
  have hl : s'.heap.FunFrames base (envOfC qual scope s.heap.objs.size f cd :: outer) := I.stack
  have hkb : base.StaysIn s'.heap := I.bk
  have lo : s.heap.objs.size ≤ e := x.lo
  have hen : base.get? e = none := I.noBase x.lo
  have bs : Un (frs outer) [] H H' s.heap s'.heap := I.base
  have hfree : ∀ b ∈ frs (envOfC qual scope s.heap.objs.size f cd :: outer), H' b = none := I.stkFree
  have fin : ∀ (h' : Heap) (T' : Addr) (ch : List Addr), (∀ b ∈ ch, H' b = none ∧ s.heap.objs.size ≤ b) → s.heap.objs.size ≤ T' → H' T' = none → TrX h' base e T' (.ref C) dct .none → KpX (envOfC qual scope s.heap.objs.size f cd :: outer) ch s'.heap h' →
      CXv P w base outer H s E (.ref e) { s' with heap := h' } := fun h' T' ch hch hT hTn ht kp => by
    have ncb : ∀ {b : Addr} {o : Obj}, s.heap.get? b = some o → b ∉ ch := fun {b o} q z => absurd (Heap.lt_size q) (Nat.not_lt.mpr (hch b z).2)
    have nfr : ∀ {b : Addr} {o : Obj}, s.heap.get? b = some o → b ∉ frs outer → b ∉ frs (envOfC qual scope s.heap.objs.size f cd :: outer) := fun {b o} q n z => by
      rcases List.mem_cons.mp (I.stkSub b z) with e1 | e1
      · have : b = s.heap.objs.size := e1
        exact absurd (Heap.lt_size q) (by rw [this]; exact Nat.lt_irrefl _)
      · exact n e1
    refine ⟨e, C, dct, T', H', rfl, I.os, I.bare, ⟨?_, ?_, ?_, ?_, bs.tups, bs.frzs, bs.tbls⟩, hok_kpx I.hok kp (fun b z => (hch b z).1) hfree, lo, hT, x.un, hTn, ht, q⟩
    · exact fun b o q n hf hx => (kp b o (bs.keep b o q n hf hx) (ncb q)).1 (nfr q hf)
    · intro b o q n hf hx
      obtain ⟨sl, z⟩ := bs.slot b o q n hf hx
      obtain ⟨sl', z'⟩ := (kp b _ z (ncb q)).2
      exact ⟨sl', z'⟩
    · exact fun b o q n hx => bs.free b o q n hx
    · intro b o q hx
      obtain ⟨o', z⟩ := bs.there b o q hx
      obtain ⟨sl, z'⟩ := (kp b o' z (ncb q)).2
      exact ⟨_, z'⟩
  have sz : s.heap.objs.size ≤ s'.heap.objs.size := I.sz
  rcases x.ob with ⟨o, vs, he, hc, hd, hda, h1⟩ | ⟨T, hT, hTn, _, ht⟩
  · refine leaveX_first hfr hl rfl he hkb hen hda h1 fun h' T' z0 z1 z2 z3 z4 => ?_
    rw [hc, hd] at z3
    exact fin h' T' [e] (fun b hb => by rw [List.mem_singleton.mp hb]; exact ⟨x.un, lo⟩) (Nat.le_trans sz z0) (I.hok.fresh z0) z3 z4
  · refine leaveX hfr hl rfl ht hkb hen fun h' T' z0 z1 z2 z3 z4 => ?_
    refine fin h' T' [e, T] (fun b hb => ?_) (Nat.le_trans sz z0) (I.hok.fresh z0) z3 z4
    rcases List.mem_cons.mp hb with e1 | e1
    · rw [e1]; exact ⟨x.un, lo⟩
    · rw [List.mem_singleton.mp e1]; exact ⟨hTn, hT⟩
end L2
set_option Elab.async false
set_option linter.all false
set_option maxRecDepth 100000
namespace L2
open PySem PySem.Spec PyProof.Rows
def OutOk (K : PySem.W.Frag) (fr : Bool) (R : AS) (H : Hp) (Q : VK) (E : XK) : Rs → Prop
  | .ok d => ∀ v H', Same H H' → Rp K (av H' R) d v → (fr = true → NwT K ⟨H, R, true⟩ H' d v) → Q v H'
  | .exc c fs => ∀ C dct H', Same H H' → clsAt K c C → XFs K (av H' R) dct fs → E (.ref C) dct H'
  | .no => False
def spX (K : PySem.W.Frag) (fr : Bool) (p : Nat) (F : List Dat → Rs) : Sp := fun vs H Q E => vs.length = p ∧ ∃ ds R, MuOk R H ∧ Rps K (av H R) ds vs ∧ OutOk K fr R H Q E (F ds)
structure CalX (P : Program) (w : World) (K : PySem.W.Frag) (mg : Str → Option Value) (base : Heap) (k : Nat) (x : Str) (ps : List Str) (fr : Bool) (F : List Dat → Rs) : Prop where
  ex : ∃ f fd, FnOk P w K mg base (CXv P w base) k f fd ps (spX K fr ps.length F) ∧ mg x = some (.ref f) ∧ PySem.W.keepIn K (.ref f) = true ∧ Binds K fd ps []
  len : ∀ ds, F ds ≠ .no → ds.length = ps.length
section
variable {P : Program} {w : World} {K : PySem.W.Frag} {mg : Str → Option Value} {base : Heap}
theorem Fun.okX {x qual : Str} {st : Stmt} {f : Addr} {fd : FuncData} {N ps : List Str} {k : Nat} {sp : Sp} {CX : CXT} (F : Fun K x qual st f fd) (S : FnScope N ps (defScope st)) (len : ∀ vs H Q E, sp vs H Q E → vs.length = ps.length)
    (hbody : ∀ (cdv : Value) (A : Around) (outer : List Env) (s : Shared) (H : Hp) (vs : List V) (Q : VK) (E : XK), Room k (A.deeper (envOfC qual (defScope st) s.heap.objs.size f cdv)) → sp vs H Q E →
      ∃ t, PSs (cxOf CX P w K mg base N qual (defScope st) f cdv A outer s H E) (defBody st) t ∧ t { nx := fun _ H' => Q .non H', rt := Q } (start N vs) H) : FnOk P w K mg base CX (k + 1) f fd ps sp := by
  obtain ⟨oc, od, kV, doc, pm, an, cdv, ct, osl, rfl, lk, hcd⟩ := F.ex
  exact fn_of lk hcd S len fun A outer s H vs Q E hr hsp => hbody cdv A outer s H vs Q E hr hsp
theorem runD_lenX {n p : Nat} {g : Ev → Fl} {ds : List Dat} (h : runD n p g ds ≠ .no) : ds.length = p := by
  unfold runD at h
  split at h
  · assumption
  · exact absurd rfl h
theorem run_bodyX {fr : Bool} {N : List Str} {qual : Str} {scope : Scope} {f : Addr} {cd : Value} {A : Around} {outer : List Env} {s : Shared} {H : Hp} {E : XK} {p : Nat} {g : Ev → Fl} {ds : List Dat} {R : AS} {vs : List V} {Q : VK} (hp : p ≤ N.length) (mu : MuOk R H) (r : Rps K (av H R) ds vs)
    (q : OutOk K fr R H Q E (runD N.length p g ds)) :
    tS fr (cxOf (CXv P w base) P w K mg base N qual scope f cd A outer s H E) g (Ends.mk (fun _ H' => Q .non H') Q (fun _ _ => False) (fun _ _ => False)) (start N vs) H := by
  unfold runD at q
  split at q
  · rename_i hl
    refine ⟨startD N.length ds, ⟨H, R, true⟩, R, start_ok mu r (by omega), rfl, ?_⟩
    split at q
    · rename_i d' e
      rw [e]
      exact fun v H' s r n => q v H' s r n
    · rename_i env e
      rw [e]
      exact fun A' H' σ' s k => q .non H' k.h0 rp_non (fun _ ds e => by cases e)
    · rename_i env c fs e
      rw [e]
      exact fun A' H' σ' st k pins s' e C dct I hc x hf => leave_fn I x (q C dct H' k.h0 hc (hf.mono (av_less k.ra)))
    · exact q.elim
  · exact q.elim
theorem cal_dX {x : Str} {st : Stmt} {N ps : List Str} {k : Nat} {fr : Bool} {g : Ev → Fl} (D : Def K mg x st) (S : FnScope N ps (defScope st))
    (hbi : ∀ (kV doc pm : Value) (an : Option Addr) (cdv ct : Value) (us : List Value), us.length = ps.length → bindArgs (PySem.W.fnOf x x (defArgs st) (defBody st) (defScope st) .none kV doc pm an cdv ct) ⟨us, []⟩ = pure (ps.zip us))
    (hb : ∀ (f : Addr) (cdv : Value) (A : Around) (outer : List Env) (s : Shared) (H : Hp) (E : XK), Room k (A.deeper (envOfC x (defScope st) s.heap.objs.size f cdv)) → PBd fr (cxOf (CXv P w base) P w K mg base N x (defScope st) f cdv A outer s H E) (defBody st) g) :
    CalX P w K mg base (k + 1) x ps fr (runD N.length ps.length g) := by
  have hpl : ps.length ≤ N.length := by have := congrArg List.length S.pre; rw [List.length_take] at this; omega
  obtain ⟨f, fd, F, hm⟩ := D.ex
  refine ⟨⟨f, fd, F.okX S (fun vs H Q E h => h.1) fun cdv A outer s H vs Q E hr ⟨hl, ds, R, mu, r, q⟩ => ⟨_, hb f cdv A outer s H E hr, ?_⟩, hm, F.kp, F.binds hbi⟩, fun ds h => runD_lenX h⟩
  exact run_bodyX hpl mu r q
end
section
variable {X : Cx} {m fr fr' : Bool} {F : List Dat → Rs} {k : Nat} {x : Str} {ps : List Str} {e : Expr} {es : List Expr} {fs : Ev → Option (List Dat)} {p pos : Pos}
def tXx (X : Cx) (fr : Bool) (F : List Dat → Rs) (fs : Ev → Option (List Dat)) : TE := fun σ H Q => ∃ env B A ds, EnvOk X.K B A H σ env ∧ fs env = some ds ∧ match F ds with
  | .ok d => ∀ v H', Same H H' → Rp X.K (av H' A) d v → Q v H'
  | .exc c fl => ∀ A' H' σ', Step A H A' H' → EnvOk X.K B A' H' σ' env → σ' = σ → XW X A' H' σ' c fl
  | .no => False
theorem xcalX (C : CalX X.prog X.w X.K X.mg X.base k x ps fr F) (hr : Room k X.A) (ha : PAd false X (e :: es) fs) (hg : Gl X x := by rfl)
    (hdb : (x == ("__debug__" : Str)) = false := by decide) (he : starEach (e :: es) X.env = (false, eval e X.env) :: starEach es X.env := by rfl) (hpl : (backTo pos (starEach es X.env)).any (·.1) = false := by rfl) :
    PE X (.Call (.Name x p) (e :: es) [] pos) (tXx X fr F fs) := by
  obtain ⟨f, fd, Ff, hm, hk, hb⟩ := C.ex
  intro pins s σ H Q I ⟨env, B, A, ds, kk, e1, q⟩
  refine wpAny_Call_Name_kw (ld_glob I hg hm ?_ hdb)
  refine PySem.W.callWith_K (h₀ := X.base) I.ok.mod.kin hk (thn (ha pos pins s σ H (fun vs H1 => Same H H1 ∧ Rps X.K (av H1 A) ds vs) I ⟨env, B, A, ds, kk, e1, fun vs H1 s1 rs => ⟨s1, rs.rps⟩⟩) fun us s1 ⟨vs, H1, I1, r, sm, rs⟩ => ⟨I1.kIn, ?_⟩) he hpl
  have hne : F ds ≠ .no := fun z => by rw [z] at q; exact q
  have hl : us.length = ps.length := by rw [← r.length, rps_len rs]; exact C.len ds hne
  let E : XK := fun cls dct H' => ∃ c fl C, F ds = .exc c fl ∧ cls = .ref C ∧ clsAt X.K c C ∧ Same H1 H' ∧ XFs X.K (av H' A) dct fl
  refine wpAny_call (codeAny_mono (Ff.run X.A X.stack s1 H1 ⟨us, []⟩ us vs Q E hr I1.env0 (by simpa using hb s1 us I1.kIn (by simpa using hl)) r ⟨by rw [rps_len rs]; exact C.len ds hne, ds, A, kk.mu.mono sm, rs, ?_⟩) fun rr s' hq => ?_)
  · unfold OutOk
    split
    · rename_i d hd
      rw [hd] at q
      exact fun v H' s2 r2 _ => q v H' (sm.trans s2) r2
    · rename_i c fl hd
      exact fun C dct H' s2 hc hf => ⟨c, fl, C, hd, rfl, hc, s2, hf⟩
    · rename_i hd
      exact hne hd
  · cases rr with
    | error ev =>
      obtain ⟨ex, C, dct, T, H', rfl, ho, hbr, un, hok, h1, h2, h3, h4, ht, c, fl, C', hF, eC, hc, sm2, hf⟩ := hq
      cases eC
      rw [hF] at q
      have I2 : Inv X pins σ H' s' := I1.call' (ch := []) ho un hok hbr (fun b z => absurd z (by simp))
      have sz : X.s₀.heap.objs.size ≤ s1.heap.objs.size := I1.sz
      have np : ∀ {a : Addr}, s1.heap.objs.size ≤ a → ∀ p ∈ X.pn ++ pins, p.1 ≠ a := fun {a} ha p hp z => by
        have := (I1.pin p hp).1
        rw [z] at this
        exact absurd (Heap.lt_size this) (Nat.not_lt.mpr ha)
      exact q A H' σ (Step.same (sm.trans sm2)) (kk.mono (sm.trans sm2)) rfl pins s' ex C dct I2 hc ⟨Nat.le_trans sz h1, h3, .inr ⟨T, Nat.le_trans sz h2, h4, np h2, ht⟩, np h1⟩ hf
    | ok fl =>
      cases fl with
      | ret u => exact I1.after hq
      | next => exact False.elim hq
      | brk => exact False.elim hq
      | cont => exact False.elim hq
def sSetX (i : Nat) (F : List Dat → Rs) (fs : Ev → Option (List Dat)) : Ev → Fl := fun env => match fs env with
  | none => .no
  | some ds => match F ds with
    | .ok d => .next (env.set i (.fz d))
    | .exc c fl => .exc env c fl
    | .no => .no
theorem s_setX (i : Nat) {x : Str} {pos' : Pos} (hN : X.N.Nodup) (hi : X.N[i]? = some x) (hx : Loc X.env.scope x) (he : PE X e (tXx X fr' F fs)) (hs : swapsWith e (some (.Name x pos')) pos.line X.env = pure false := by rfl)
    (hf : X.fn x = true ∨ X.env.scope.names.lookup x = some .local := by first | exact .inl rfl | exact .inr rfl | assumption) : PSd fr X (.Assign [.Name x pos'] e pos) (sSetX i F fs) := (ps_set hN hi hx he hs hf).weak fun D σ H ⟨env, B, A, k, hst, q⟩ => by
  unfold sSetX at q
  split at q
  · exact q.elim
  rename_i ds e1
  refine ⟨env, B, A, ds, k, e1, ?_⟩
  split at q
  · rename_i d hd
    exact fun v H' s r => q A H' _ (Step.same s) ((k.mono s).put i r)
  · rename_i c fl hd
    exact fun A' H' σ' s k' _ => q A' H' σ' s k'
  · exact q.elim
end
end L2
set_option Elab.async false
set_option linter.all false
set_option maxRecDepth 100000
namespace L2
open PySem PySem.Spec PyProof.Rows
theorem small_text : ∀ i : Fin 1000, (Str.ofString (toString (i.val : Int))).length ≤ 3 := by decide +kernel
theorem small_text' {i : Int} (h0 : 0 ≤ i) (h1 : i < 1000) : (Str.ofString (toString i)).length ≤ 3 := by
  have := small_text ⟨i.toNat, by omega⟩
  have e : ((i.toNat : Nat) : Int) = i := by omega
  rw [e] at this
  exact this
theorem textFrom_le : ∀ (ts : List Str) (k : Nat) (acc : Str), (textFrom k acc ts).length ≤ acc.length + piled ts
  | [], k, acc => by rw [piled_nil]; exact Nat.le_refl _
  | t :: ts, k, acc => by
    have h := textFrom_le ts (k + 1) (acc ++ (if k > 0 then ", " else "" : String) ++ t)
    rw [piled_cons]
    have e : (acc ++ (if k > 0 then ", " else "" : String) ++ t).length ≤ acc.length + 2 + t.length := by
      rw [strLen_append, strLen_append]
      have : (Str.ofString (if k > 0 then ", " else "")).length ≤ 2 := by split <;> decide
      omega
    show (textFrom (k + 1) (acc ++ (if k > 0 then ", " else "" : String) ++ t) ts).length ≤ _
    omega
def smalls (ns : List Int) : Prop := ns.length ≤ 500 ∧ ∀ n ∈ ns, 0 ≤ n ∧ n < 1000
theorem shown_small {ns : List Int} (h : smalls ns) : (PyData.shown (.list (ns.map PyData.int))).length ≤ 3000 := by
  have key : ∀ ns : List Int, (∀ n ∈ ns, 0 ≤ n ∧ n < 1000) → piled (PyData.shownAll (ns.map PyData.int)) ≤ 5 * ns.length := by
    intro ns
    induction ns with
    | nil => intro _; simp [PyData.shownAll, piled_nil]
    | cons n ns ih =>
      intro hn
      have h1 := ih fun m hm => hn m (List.mem_cons_of_mem _ hm)
      have h2 := hn n List.mem_cons_self
      rw [List.map_cons, PyData.shownAll, piled_cons, List.length_cons]
      have : (PyData.shown (.int n)).length ≤ 3 := by rw [PyData.shown]; exact small_text' h2.1 h2.2
      omega
  have hk := key ns h.2
  have h5 := h.1
  rw [PyData.shown]
  show (textFrom 0 "[" _ ++ "]").length ≤ _
  rw [strLen_append]
  have := textFrom_le (PyData.shownAll (ns.map PyData.int)) 0 "["
  have e1 : (Str.ofString "[").length = 1 := by decide
  have e2 : (Str.ofString "]").length = 1 := by decide
  omega
theorem showable_small : ∀ {ns : List Int}, (∀ n ∈ ns, 0 ≤ n ∧ n < 1000) → PyData.showableAll (ns.map PyData.int) = true
  | [], _ => by simp [PyData.showableAll]
  | n :: ns, h => by
    have h2 := h n List.mem_cons_self
    rw [List.map_cons, PyData.showableAll, showable_small fun m hm => h m (List.mem_cons_of_mem _ hm), Bool.and_true, PyData.showable]
    have h3 : n.natAbs < 2 ^ 1920 := Nat.lt_of_lt_of_le (show n.natAbs < 2 ^ 10 by omega) (Nat.pow_le_pow_right (by decide) (by decide))
    by_cases h0 : n.natAbs = 0
    · rw [h0]; decide
    · exact decide_eq_true ((Nat.log2_lt h0).mpr h3)
theorem noDict_ints : ∀ (ns : List Int), PyData.hasDictAll (ns.map PyData.int) = false
  | [] => by simp [PyData.hasDictAll]
  | n :: ns => by rw [List.map_cons, PyData.hasDictAll, noDict_ints ns, PyData.hasDict]; rfl
theorem depth_ints : ∀ (ns : List Int), PyData.depthAll (ns.map PyData.int) = 0
  | [] => by simp [PyData.depthAll]
  | n :: ns => by rw [List.map_cons, PyData.depthAll, depth_ints ns, PyData.depth]; rfl
theorem reads_ints {h : Heap} : ∀ {ns : List Int} {its : List Value}, Vals (ns.map V.int) its → ReadsAll h its (ns.map PyData.int) []
  | [], [], _ => .nil
  | [], _ :: _, r => by have := r.length; simp at this
  | _ :: _, [], r => by have := r.length; simp at this
  | n :: ns, v :: its, r => by
    cases r with
    | cons h1 r' =>
      obtain ⟨t, rfl⟩ := h1
      exact .cons (as := []) (bs := []) (.int n t) (reads_ints r')
section
variable {X : Cx}
def jAny (K : PySem.W.Frag) (te : TE) (r : TJ) : TJ := fun σ H acc Q => te σ H fun x H1 => ((∃ i : Int, x = .int i ∧ 0 ≤ i ∧ i < 1000) ∨ ∃ a ns, x = .ref a ∧ SL K H1 a (ns.map V.int) ∧ smalls ns) ∧ acc.length ≤ 100000 ∧ ∀ y : Str, y.length ≤ 3000 → r σ H1 (acc ++ y) Q
theorem pj_any {k : Nat} (hr : Room k X.A) {e : Expr} {pos : Pos} {te : TE} {vs : List Expr} {r : TJ} (he : PE X e te) (hrr : PJ X vs r) : PJ X (.FormattedValue e (-1) none pos :: vs) (jAny X.K te r) := by
  intro pins s σ H acc Q I hz h
  refine joinParts_cons (FormattedValue_plain (thn (he pins s σ H _ I h) fun v s1 ⟨x, H1, I1, r1, hx, hacc, q⟩ => ?_))
  have hle : ∀ y : Str, y.length ≤ 3000 → (acc ++ y).length ≤ sizeLine := fun y hy => by rw [strLen_append, sizeLine_eq]; omega
  rcases hx with ⟨i, rfl, h0, h1⟩ | ⟨a, ns, rfl, hS, hsm⟩
  · obtain ⟨t, rfl⟩ := r1
    have hy : (Str.ofString (toString i)).length ≤ 3000 := Nat.le_trans (small_text' h0 h1) (by decide)
    refine formatField_int_small ?_ ⟨hle _ hy, hrr pins _ σ H1 _ Q (I1.tok _) (hle _ hy) (q _ hy)⟩
    by_cases h00 : i.natAbs = 0
    · rw [h00]; decide
    · exact (Nat.log2_lt h00).mpr (Nat.lt_of_lt_of_le (show i.natAbs < 2 ^ 10 by omega) (Nat.pow_le_pow_right (by decide) (by decide)))
  · cases r1
    obtain ⟨its, n, w1, g1, _⟩ := hS.get I1
    have hy := shown_small hsm
    have rd : Reads s1.heap (.ref a) (.list (ns.map PyData.int)) [a] := .list g1 rfl rfl (by simpa using reads_ints w1)
    refine formatField_of_reads (h₀ := s1.heap) rd (by rw [PyData.showable]; exact showable_small hsm.2) (PyData.noDict_hsm (by rw [PyData.hasDict]; exact noDict_ints ns)) hr.gd (by rw [PyData.depth, depth_ints]; have := hr.un; omega) (fun _ _ q => q) (fun h' u tk hk => ?_) (Nat.le_trans hy (by decide))
    exact ⟨hle _ hy, hrr pins _ σ H1 _ Q (I1.kept hk) (hle _ hy) (q _ hy)⟩
end
end L2
set_option Elab.async false
set_option linter.all false
set_option maxRecDepth 100000
namespace L2
open PySem PySem.Spec PyProof.Rows PySem.W
theorem ns_some_of {K : Frag} {h : Heap} {N : Addr} {mg : Str → Option Value} {n : Str} {v : Value} (X : K.In h) (G : h.Ns N mg) (e : nsIn K N n = some (some v)) : mg n = some v := by
  obtain ⟨o, es, ep, ho, hd, _, hf⟩ := G
  unfold nsIn at e
  split at e
  · rename_i c d es' n' sl q
    have := X _ _ q
    rw [ho] at this
    cases this
    cases hd
    split at e
    · rename_i en he
      cases e
      rw [← hf]
      unfold nsFind findBy
      rw [← Array.find?_toList, he]
      rfl
    · split at e <;> cases e
  · cases e
def xcIn (K : Frag) (C fI D : Addr) : Bool := match K.lookup C with
  | some ⟨.type "type", _, .cls cd, sl⟩ => (match cd.mro, sl.toList with
    | .ref C' :: bm, [_, _, _, _, some (.builtin n), _] => C' == C && n == "ValueError.__new__" && !cd.hasDel && cd.hasDict && bm == .ref D :: veMro && tailIn K veMro bm && nsOkIn K cd.ns && nsIn K cd.ns "__init__" == some (some (.ref fI))
    | _, _ => false)
  | _ => false
theorem xc_of {K : Frag} {h : Heap} {C fI D : Addr} (X : K.In h) (q : xcIn K C fI D = true) : ∃ nm qn N bs sn sub ab col dd k0 k1 k2 k3 k5 mN,
    h.get? C = some (excClassObj nm qn C N bs (.ref D :: veMro) true sn sub ab col dd k0 k1 k2 k3 k5 "ValueError.__new__") ∧ h.Ns N mN ∧ mN "__init__" = some (.ref fI) ∧ OwnTail h veMro (.ref D :: veMro) := by
  unfold xcIn at q
  split at q
  · rename_i dd cd sl ho
    split at q
    · rename_i C' bm k0 k1 k2 k3 n k5 hm hs
      simp only [Bool.and_eq_true, beq_iff_eq, Bool.not_eq_true'] at q
      obtain ⟨⟨⟨⟨⟨⟨⟨rfl, rfl⟩, hdel⟩, hdi⟩, rfl⟩, ht⟩, hok⟩, hni⟩ := q
      obtain ⟨nm, bs, mro, ns, qn, hd, sn, sub, ab, col, del⟩ := cd
      dsimp only at hm hdel hok hni hdi
      subst hm hdel hdi
      have hsl : sl = #[k0, k1, k2, k3, some (.builtin "ValueError.__new__"), k5] := by
        obtain ⟨l⟩ := sl
        simp only at hs
        rw [hs]
      subst hsl
      have G : h.Ns ns (h.nsMap ns) := .of_isNs (isNs_of_in X hok)
      exact ⟨nm, qn, ns, bs, sn, sub, ab, col, dd, k0, k1, k2, k3, k5, _, X _ _ ho, G, ns_some_of X G hni, tail_of_in X ht⟩
    · cases q
  · cases q
def XNw (e C : Addr) (dct : Option Addr) (h : Heap) : Prop := ∃ t : Addr, h.get? e = some { cls := .ref C, dict := dct, data := .fields #[.ref t, .none, .none, .none, .bool false, .none] }
theorem upd_id {H : Hp} {a : Addr} {o : HO} (h : H a = some o) : upd H a o = H := by
  funext b; unfold upd; split
  · rename_i e; rw [e, h]
  · rfl
theorem xnw_ok {P : Program} {w : World} {H : Hp} {h : Heap} {e C : Addr} {dct : Option Addr} (x : XNw e C dct h) : ObjOk P w H h e (.ext (XNw e C dct)) := by
  obtain ⟨t, ht⟩ := x
  exact ⟨⟨t, ht⟩, ⟨_, ht⟩, fun h1 h2 ⟨t, q⟩ k => ⟨t, k _ q⟩⟩
structure BaseC (K : Frag) (mg : Str → Option Value) (D : Addr) : Prop where
  mg : mg "CalmError" = some (.ref D)
  ga : specialIn K (.ref D) "__getattribute__" = some (some (.builtin "type.__getattribute__"))
  rd : readsIn K D (.type "type") = true
  fi : findCls K (.ref D) (.type "type") "__init__" = some (.val (.builtin "ValueError.__init__"))
section
variable {X : Cx} {e : Expr} {es : List Expr} {t : TA} {p apos pos pos' : Pos} {D : Addr}
def tBase (K : Frag) (t : TA) : TE := fun σ H Q => t σ H fun vs H1 => ∃ e C dct v fI D, vs = [.ref e, v] ∧ H1 e = some (.ext (XNw e C dct)) ∧ xcIn K C fI D = true ∧ Q .non H1
theorem pe_base {pl : Sem Bool} (B : BaseC X.K X.mg D) (ha : PA X (e :: es) t) (hg : Gl X "CalmError" := by rfl) (he : starEach (e :: es) X.env = (false, eval e X.env) :: starEach es X.env := by rfl) (hpl : (backTo pos (starEach es X.env)).any (·.1) = false := by rfl)
    (ht : eval (.Call (.Attribute (.Name "CalmError" p) "__init__" apos) (e :: es) [] pos) X.env = (do
      let ov ← eval (.Name "CalmError" p) X.env
      standAt apos.atName
      let (f, first) ← holding [ov] (getMethod ov "__init__" pl)
      callWith pos f first (backTo pos (starEach (e :: es) X.env)) (backToKw pos (keywordEach [] X.env))) := by rfl) :
    PE X (.Call (.Attribute (.Name "CalmError" p) "__init__" apos) (e :: es) [] pos) (tBase X.K t) := by
  intro pins s σ H Q I h
  refine methodCall_KW (pl := pl) (ld_glob I hg B.mg ?_ (by decide)) ht
  refine method_cls I.kIn B.ga (cls_value I.kIn B.rd B.fi rfl ?_)
  refine PyProof.Rows.callWith_builtin1 (thn (ha pos pins _ σ H _ (I.tok _) h) fun us s1 ⟨vs, H1, I1, r, ex, C, dct, v, fI, D', ev, hx, hc, q⟩ => ?_) he hpl
  subst ev
  obtain ⟨u, w', rfl, r1, r2⟩ := vals2 r
  cases r1
  obtain ⟨nm, qn, N, bs, sn, sub, ab, col, dd, k0, k1, k2, k3, k5, mN, hC, hN, hi, T⟩ := xc_of I1.kIn hc
  obtain ⟨⟨t0, ht0⟩, _, _⟩ := (show ObjOk X.prog X.w H1 s1.heap ex (.ext (XNw ex C dct)) from I1.hok ex _ hx)
  obtain ⟨hh, g, d, tk, os⟩ := s1
  refine call_baseInit T hC ht0 fun h' he' hk hsz => ⟨.non, H1, ?_, rfl, q⟩
  have := I1.write (h' := h') (x := ex) (e := ex) (o := .ext (XNw ex C dct)) (t' := tk) (by rw [hx]; trivial) (.inl rfl) (fun b u hb q => hk b u hb q) ⟨_, he'⟩ (xnw_ok ⟨_, he'⟩)
  rw [upd_id hx] at this
  exact this
def tFldX (K : Frag) (ta tv : TE) (f : Str) : TS := fun D σ H => tv σ H fun y H1 => ta σ H1 fun x H2 => ∃ a C dct fI D', x = .ref a ∧ H2 a = some (.ext (XNw a C dct)) ∧ xcIn K C fI D' = true ∧ XCls K C ∧ findIn K (.ref C) f = some none ∧
  match dct with
  | none => ∀ dx, H2 dx = none → dx ≠ a → D.nx σ (upd (upd H2 a (.ext (XNw a C (some dx)))) dx (.xd [(f, y)]))
  | some dx => False
theorem ps_fldX {o value : Expr} {f : Str} {ta tv : TE} (ha : PE X o ta) (hv : PE X value tv) (hs : swapsWith value (some (.Attribute o f pos')) pos.line X.env = pure false := by rfl) : PS X (.Assign [.Attribute o f pos'] value pos) (tFldX X.K ta tv f) := by
  intro pins s σ H D I h
  refine plainObj_wpAny_Assign_Attribute (thn (hv pins s σ H _ I h) fun u s1 ⟨y, H1, I1, ry, q⟩ => thn (ha pins s1 σ H1 _ I1 q) fun ov s2 ⟨x, H2, I2, rx, a, C, dct, fI, D', ex, ea, hc, xc, hf, q2⟩ => ?_) hs
  subst ex
  obtain rfl : ov = Value.ref a := rx
  cases dct with
  | some dx => exact q2.elim
  | none =>
    obtain ⟨⟨t0, ht0⟩, _, _⟩ := (show ObjOk X.prog X.w H2 s2.heap a (.ext (XNw a C none)) from I2.hok a _ ea)
    obtain ⟨cd, hcd, hhd, a', b', hm⟩ := xc.cd
    obtain ⟨oC, cd', hC, hcd', hhd'⟩ := xc.ld I2.kIn
    have IA : InstAt s2.heap a { cls := .ref C, dict := none, data := .fields #[.ref t0, .none, .none, .none, .bool false, .none] } C none := ⟨ht0, rfl, rfl, trivial⟩
    refine set_plain I2.kIn IA xc.sa ?_
    refine osa_x (s := { s2 with toks := s2.toks + 1 }) I2.kIn IA hcd hm hf ?_
    obtain ⟨hh, g, d, tk, os⟩ := s2
    refine store_new ht0 rfl (fun c z => by cases z) rfl hC hcd' hhd' fun h' tk' hx' hns hk hsz => ?_
    have hlt : a < hh.objs.size := Heap.lt_size ht0
    have hfr : H2 hh.objs.size = none := I2.hok.fresh (Nat.le_refl _)
    have hda : hh.objs.size ≠ a := Nat.ne_of_gt hlt
    have agr : ∀ b, b ≠ a → b ≠ hh.objs.size → upd (upd H2 a (.ext (XNw a C (some hh.objs.size)))) hh.objs.size (.xd [(f, y)]) b = H2 b := fun b h1 h2 => by rw [upd_ne h2, upd_ne h1]
    have nex : ∀ {b : Addr} {o : HO}, H2 b = some o → b ≠ hh.objs.size := fun {b o} q z => by rw [z, hfr] at q; cases q
    have un : Un X.fs [] H2 (upd (upd H2 a (.ext (XNw a C (some hh.objs.size)))) hh.objs.size (.xd [(f, y)])) hh h' := by
      refine ⟨fun b o q n _ _ => hk b o (fun z => by rw [z, ea] at n; cases n) q, fun b o q n _ _ => ⟨o.slots, hk b o (fun z => by rw [z, ea] at n; cases n) q⟩, fun b o q n _ => ?_, fun b o q _ => ?_, fun b xs q => ?_, fun b o u q => ?_, fun b ps q => ?_⟩
      · rw [agr b (fun z => by rw [z, ea] at n; cases n) (fun z => by rw [z] at q; exact absurd (Heap.lt_size q) (Nat.lt_irrefl _))]; exact n
      · by_cases z : b = a
        · subst z; exact ⟨_, hx'⟩
        · exact ⟨_, hk b o z q⟩
      · rw [agr b (fun z => by rw [z, ea] at q; cases q) (nex q)]; exact q
      · rw [agr b (fun z => by rw [z, ea] at q; cases q) (nex q)]; exact q
      · exact ⟨#[], by rw [agr b (fun z => by rw [z, ea] at q; cases q) (nex q)]; simpa using q⟩
    have hok : HOk X.prog X.w (upd (upd H2 a (.ext (XNw a C (some hh.objs.size)))) hh.objs.size (.xd [(f, y)])) h' := by
      intro b o q
      by_cases z2 : b = hh.objs.size
      · subst z2
        rw [upd_same] at q
        cases q
        refine ⟨_, hns, fun g => ?_⟩
        show RelO (List.lookup g [(f, y)]) (if g = f then some u else none)
        by_cases e : g = f
        · subst e; simp [List.lookup, RelO]; exact ry
        · have e' : (g == f) = false := by simpa using e
          simp [List.lookup, e', e, RelO]
      · by_cases z1 : b = a
        · subst z1
          rw [upd_ne z2, upd_same] at q
          cases q
          exact xnw_ok ⟨t0, hx'⟩
        · rw [agr b z1 z2] at q
          refine (I2.hok b o q).stay (fun c v z w => hk c v (fun zz => ?_) w) (fun c w => ?_) fun c xs w => ?_
          · rcases z with z | z
            · exact z1 (z.symm.trans zz)
            · rw [zz, ea] at z; cases z
          · rw [agr c (fun zz => by rw [zz, ea] at w; cases w) (nex w)]; exact w
          · rw [agr c (fun zz => by rw [zz, ea] at w; cases w) (nex w)]; exact w
    exact ⟨σ, _, I2.un (h' := h') (t' := tk') un hok, q2 _ hfr hda⟩
end
end L2
set_option Elab.async false
set_option linter.all false
set_option maxRecDepth 100000
namespace L2
open PySem PySem.Spec PyProof.Rows PySem.W
def spG (K : Frag) (C : Addr) (p : Nat) (G : List Dat → Option (List (Str × XD))) : Sp := fun vs H Q _ => ∃ e ws ds R fl, vs = .ref e :: ws ∧ ws.length = p ∧ H e = some (.ext (XNw e C none)) ∧ MuOk R H ∧ R e = false ∧ Rps K (av H R) ds ws ∧ G ds = some fl ∧
  ∀ H' dct, (∀ c o, c ≠ e → H c = some o → H' c = some o) → H' e = some (.ext (XNw e C dct)) → XFs K (av H' R) dct fl → Q .non H'
structure XMake (P : Program) (w : World) (K : Frag) (mg : Str → Option Value) (base : Heap) (k : Nat) (c : Str) (p : Nat) (G : List Dat → Option (List (Str × XD))) : Prop where
  ex : ∃ C fI D fd ps, clsAt K c C ∧ mg c = some (.ref C) ∧ keepIn K (.ref C) = true ∧ xcIn K C fI D = true ∧ XCls K C ∧ isFn K (.ref fI) = true ∧ FnOk P w K mg base CX0 k fI fd ps (spG K C p G) ∧ Binds K fd ps []
  len : ∀ ds fl, G ds = some fl → ds.length = p
  few : p ≤ 10
theorem XFs.of_ne {K : Frag} {H H' : Hp} {e : Addr} {dct : Option Addr} {fs : List (Str × XD)} {g : Heap → Prop} (he : H e = some (.ext g)) (k : ∀ c o, c ≠ e → H c = some o → H' c = some o) (h : XFs K H dct fs) : XFs K H' dct fs := by
  have ne : ∀ {c : Addr} {o : HO}, H c = some o → (∀ g, o ≠ .ext g) → H' c = some o := fun {c o} q n => k c o (fun z => by rw [z, he] at q; exact n _ (Option.some.inj q).symm) q
  cases dct with
  | none => exact h
  | some dx =>
    obtain ⟨fvs, e1, e2⟩ := h
    refine ⟨fvs, ne e1 (fun _ z => by cases z), fun f => (e2 f).imp id fun ⟨d, v, a, b, c⟩ => ⟨d, v, a, b, ?_⟩⟩
    cases d with
    | int i => exact c
    | nums is =>
      obtain ⟨a, z1, z2, z3⟩ := c
      refine ⟨a, z1, ?_, z3⟩
      rcases z2 with (z | ⟨o, z⟩) | z
      · exact .inl (.inl (ne z (fun _ w => by cases w)))
      · exact .inl (.inr ⟨o, ne z (fun _ w => by cases w)⟩)
      · exact .inr z
def drp (H : Hp) (a : Addr) : Hp := fun b => if b = a then none else H b
theorem drp_ne {H : Hp} {a b : Addr} (h : b ≠ a) : drp H a b = H b := by unfold drp; rw [if_neg h]
theorem drp_self {H : Hp} {a : Addr} : drp H a a = none := by unfold drp; rw [if_pos rfl]
theorem drp_none {H : Hp} {a b : Addr} (h : H b = none) : drp H a b = none := by unfold drp; split <;> first | rfl | exact h
theorem Inv.drop {X : Cx} {pins : List (Addr × Obj)} {σ : St} {H : Hp} {s : Shared} {a : Addr} {g : Heap → Prop} (I : Inv X pins σ H s) (ha : H a = some (.ext g)) : Inv X pins σ (drp H a) s := by
  have ne : ∀ {b : Addr} {o : HO}, H b = some o → (∀ g, o ≠ .ext g) → drp H a b = some o := fun {b o} q n => by rw [drp_ne (fun z => by rw [z, ha] at q; exact n _ (Option.some.inj q).symm)]; exact q
  refine ⟨I.ok, I.os, I.bare, ⟨I.base.keep, I.base.slot, fun b o q n hx => drp_none (I.base.free b o q n hx), I.base.there, fun b xs q => ne (I.base.tups b xs q) (fun _ z => by cases z), fun b o u q => ne (I.base.frzs b o u q) (fun _ z => by cases z), fun b ps q => ?_⟩, I.loc, I.cell, drp_none I.free, fun x c e => drp_none (I.freeC x c e), fun p hp => ?_, fun b o q => ?_, I.len⟩
  · obtain ⟨more, z⟩ := I.base.tbls b ps q
    exact ⟨more, ne z (fun _ z => by cases z)⟩
  · obtain ⟨h1, h2, h3⟩ := I.pin p hp
    exact ⟨h1, drp_none h2, h3⟩
  · have hb : b ≠ a := fun z => by rw [z, drp_self] at q; cases q
    rw [drp_ne hb] at q
    exact (I.hok b o q).stay (fun _ _ _ w => w) (fun c w => ne w (fun _ z => by cases z)) fun c xs w => ne w (fun _ z => by cases z)
theorem same_upd {H : Hp} {a : Addr} {o : HO} (h : H a = none) : Same H (upd H a o) := fun b u e => by rw [upd_ne (fun z => by rw [z, h] at e; cases e)]; exact e
section
variable {X : Cx} {fr : Bool} {e : Expr} {es : List Expr} {fs : Ev → Option (List Dat)} {p pos cpos : Pos} {k n : Nat} {c : Str} {G : List Dat → Option (List (Str × XD))}
def sRaise (c : Str) (G : List Dat → Option (List (Str × XD))) (fs : Ev → Option (List Dat)) : Ev → Fl := fun env => match (fs env).bind G with
  | none => .no
  | some fl => .exc env c fl
theorem run_raise {pins : List (Addr × Obj)} {σ : St} {H : Hp} {s : Shared} {us : List Value} {vs : List V} {ds : List Dat} {fl : List (Str × XD)} {env : Ev} {B : Bs} {A : AS} (M : XMake X.prog X.w X.K X.mg X.base k c n G) (hr : Room (k + 1) X.A)
    (I : Inv X pins σ H s) (kk : EnvOk X.K B A H σ env) (r : Vals vs us) (rs : Rps X.K (av H A) ds vs) (hG : G ds = some fl) {C fI D : Addr} (hcl : clsAt X.K c C) (hx : xcIn X.K C fI D = true) {fd : FuncData} {ps : List Str} (hfn : isFn X.K (.ref fI) = true) (F : FnOk X.prog X.w X.K X.mg X.base CX0 k fI fd ps (spG X.K C n G)) (hb : Binds X.K fd ps [])
    (q : ∀ H' σ', σ' = σ → Same H H' → EnvOk X.K B A H' σ env → XW X A H' σ c fl) :
    wpAny (model X.prog X.w) X.A (call (.ref C) us) (fun v s' => ∃ ex t dct, v = .ref ex ∧ (∃ o, s'.heap.get? C = some o) ∧ s'.heap.get? ex = some { cls := .ref C, dict := dct, data := .fields #[.ref t, .none, .none, .none, .bool false, .none] } ∧ X.K.In s'.heap ∧ X.xe (.ref ex) s') X.xe s := by
  obtain ⟨nm, qn, N, bs, sn, sub, ab, col, dd, k0, k1, k2, k3, k5, mN, hC, hN, hi, T⟩ := xc_of I.kIn hx
  have hfI : ∃ oI, s.heap.get? fI = some oI ∧ oI.cls = .type "function" := by
    have := beq_iff_eq.mp hfn
    obtain ⟨oI, h1, h2⟩ := Option.map_eq_some_iff.mp this
    exact ⟨oI, I.kIn _ _ h1, h2⟩
  obtain ⟨oI, hfI, hfc⟩ := hfI
  have hlen : us.length ≤ sizeLine := by
    have h1 := r.length
    have h2 := rps_len rs
    have h3 := M.len ds fl hG
    have h4 := M.few
    exact Nat.le_of_lt (small1000 (by omega))
  obtain ⟨hh, g, d, tk, os⟩ := s
  refine call_initU (hrest := hlen) PySem.F.excBase_ValueError (by decide) PySem.F.excBase_ValueError T hC hN hi hfI hfc fun h' ex hlo hm => ?_
  obtain ⟨t0, ht0, _, _⟩ := hm.there
  have hfr : H ex = none := I.hok.fresh hlo
  have I2 : Inv X pins σ (upd H ex (.ext (XNw ex C none))) ⟨h', g, d, tk, os⟩ := I.laid (h' := h') (t' := tk) (a := ex) (o := .ext (XNw ex C none)) hm.keeps hlo (xnw_ok ⟨t0, ht0⟩)
  have aex : A ex = false := by
    cases z : A ex with
    | false => rfl
    | true => obtain ⟨o, ho⟩ := (kk.mu ex z).some; rw [hfr] at ho; cases ho
  have sm1 : Same H (upd H ex (.ext (XNw ex C none))) := same_upd hfr
  let Q' : VK := fun v H' => v = .non ∧ ∃ dct, (∀ c o, c ≠ ex → upd H ex (.ext (XNw ex C none)) c = some o → H' c = some o) ∧ H' ex = some (.ext (XNw ex C dct)) ∧ XFs X.K (av H' A) dct fl
  have hsp : spG X.K C n G (.ref ex :: vs) (upd H ex (.ext (XNw ex C none))) Q' E0 := ⟨ex, vs, ds, A, fl, rfl, by rw [rps_len rs]; exact M.len ds fl hG, upd_same, kk.mu.mono sm1, aex, rs.mono (av_mono sm1), hG, fun H' dct h1 h2 h3 => ⟨rfl, dct, h1, h2, h3⟩⟩
  have hl2 : (Value.ref ex :: us).length = ps.length := by
    have e1 := F.len _ _ _ _ hsp
    have e2 := r.length
    rw [List.length_cons] at e1 ⊢
    omega
  refine wpAny_call (codeAny_mono (F.run _ X.stack ⟨h', g, d, tk, os⟩ _ ⟨Value.ref ex :: us, []⟩ (Value.ref ex :: us) (V.ref ex :: vs) Q' E0 (hr.make C us []) (I2.env0.make C us []) (by simpa using hb _ (Value.ref ex :: us) I2.kIn (by simpa using hl2)) (.cons rfl r) hsp) fun rr s' hq => ?_)
  cases rr with
  | error e => exact False.elim hq
  | ok fl' =>
    cases fl' with
    | ret u =>
      obtain ⟨v, H', I3, rv, ev, dct, h1, h2, h3⟩ := I2.after hq
      subst ev
      have eu : u = .none := rv
      subst eu
      refine ⟨rfl, ?_⟩
      obtain ⟨⟨t1, ht1⟩, _, _⟩ := (show ObjOk X.prog X.w H' s'.heap ex (.ext (XNw ex C dct)) from I3.hok ex _ h2)
      have I4 := I3.drop h2
      have sm : Same H (drp H' ex) := fun b o q => by
        have hb : b ≠ ex := fun z => by rw [z, hfr] at q; cases q
        rw [drp_ne hb]
        exact h1 b o hb (by rw [upd_ne hb]; exact q)
      have lo2 : X.s₀.heap.objs.size ≤ ex := Nat.le_trans I.sz hlo
      obtain ⟨nm', qn', N', bs', sn', sub', ab', col', dd', k0', k1', k2', k3', k5', mN', hC', _, _, _⟩ := xc_of I3.kIn hx
      refine ⟨ex, t1, dct, rfl, ⟨_, hC'⟩, ht1, I3.kIn, ?_⟩
      refine q (drp H' ex) σ rfl sm (kk.mono sm) pins s' ex C dct I4 hcl ⟨lo2, drp_self, .inl ⟨_, _, ht1, rfl, rfl, rfl, rfl⟩, fun p hp z => ?_⟩ ?_
      · have := (I.pin p hp).1
        rw [z] at this
        exact absurd (Heap.lt_size this) (Nat.not_lt.mpr hlo)
      · exact h3.of_ne (e := ex) (av_at h2 aex) fun c o hc q => av_at (by rw [drp_ne hc]; exact (av_of q).2) (av_of q).1
    | next => exact False.elim hq
    | brk => exact False.elim hq
    | cont => exact False.elim hq
theorem s_raise (M : XMake X.prog X.w X.K X.mg X.base k c n G) (hr : Room (k + 1) X.A) (hc : X.calm = true) (ha : PAd false X (e :: es) fs) (hg : Gl X c := by rfl) (hdb : (c == ("__debug__" : Str)) = false := by decide)
    (he : starEach (e :: es) X.env = (false, eval e X.env) :: starEach es X.env := by rfl) (hpl : (backTo cpos (starEach es X.env)).any (·.1) = false := by rfl) : PSd fr X (.Raise (some (.Call (.Name c p) (e :: es) [] cpos)) none pos) (sRaise c G fs) := by
  intro pins s σ H D I ⟨env, B, A, kk, hst, q⟩
  obtain ⟨C, fI, D', fd, ps, hcl, hm, hkp, hx, xc, hfn, F, hb⟩ := M.ex
  unfold sRaise at q
  split at q
  · exact q.elim
  rename_i fl hfl
  obtain ⟨ds, e1, hG⟩ := bind_some hfl
  obtain ⟨nm, qn, N, bs, sn, sub, ab, col, dd, k0, k1, k2, k3, k5, mN, hC, hN, hi, T⟩ := xc_of I.kIn hx
  have key : wpAny (model X.prog X.w) X.A (eval (.Call (.Name c p) (e :: es) [] cpos) X.env) (fun v s' => ∃ ex t dct, v = .ref ex ∧ (∃ o, s'.heap.get? C = some o) ∧ s'.heap.get? ex = some { cls := .ref C, dict := dct, data := .fields #[.ref t, .none, .none, .none, .bool false, .none] } ∧ X.K.In s'.heap ∧ X.xe (.ref ex) s') X.xe s := by
    refine wpAny_Call_Name_kw (ld_glob I hg hm ?_ hdb)
    refine callWith_K (h₀ := X.base) I.ok.mod.kin hkp (thn (ha cpos pins s σ H (fun vs H1 => Same H H1 ∧ Rps X.K (av H1 A) ds vs) I ⟨env, B, A, ds, kk, e1, fun vs H1 s1 rs => ⟨s1, rs.rps⟩⟩) fun us s1 ⟨vs, H1, I1, r, sm, rs⟩ => ⟨I1.kIn, ?_⟩) he hpl
    exact run_raise M hr I1 (kk.mono sm) r rs hG hcl hx hfn F hb fun H' σ' _ sm2 k2 => q A H' σ (Step.same (sm.trans sm2)) k2
  rw [arm_exec_Raise]
  refine wpAny_bind (wpAny_standAt (raise_madeD (C := C) (nm := nm) (q := qn) (N := N) (bs := bs) (bm := .ref D' :: veMro) (hdct := true) (sn := sn) (sub := sub) (ab := ab) (col := col) (dd := dd) (k0 := k0) (k1 := k1) (k2 := k2) (k3 := k3) (k5 := k5) (newId := "ValueError.__new__") (by simp [veMro]) (I.ok.hd hc) (wpAny_bind (wpAny_mono key (fun v s₃ h₃ => wpAny_bind (wpAny_standAt (wpAny_pure ?_))) fun _ _ x => x))))
  obtain ⟨ex, t, dct, rfl, _, hex, hK, hxe⟩ := h₃
  obtain ⟨o, lk⟩ : ∃ o, X.K.lookup C = some o := by
    unfold xcIn at hx
    split at hx
    · rename_i ho; exact ⟨_, ho⟩
    · cases hx
  have e2 := (I.kIn _ _ lk).symm.trans hC
  cases e2
  exact ⟨ex, .ref t, dct, rfl, hK _ _ lk, hex, hxe⟩
end
end L2
set_option Elab.async false
set_option linter.all false
set_option maxRecDepth 100000
namespace L2
open PySem PySem.Spec PyProof.Rows PySem.W
def smallsB (ns : List Int) : Bool := decide (ns.length ≤ 500) && ns.all fun n => decide (0 ≤ n) && decide (n < 1000)
theorem smalls_of {ns : List Int} (h : smallsB ns = true) : smalls ns := by
  unfold smallsB at h
  rw [Bool.and_eq_true, List.all_eq_true] at h
  refine ⟨of_decide_eq_true h.1, fun n hn => ?_⟩
  have := h.2 n hn
  rw [Bool.and_eq_true] at this
  exact ⟨of_decide_eq_true this.1, of_decide_eq_true this.2⟩
def gW (f : Str) : List Dat → Option (List (Str × XD))
  | [.lst xs] => (intsD xs).bind fun ns => if smallsB ns = true then some [(f, .nums ns)] else none
  | _ => none
def JOk (n : Nat) (σ : St) (H : Hp) (r : TJ) : Prop := ∀ (acc : Str) (Q : VK), acc.length ≤ n → (∀ z, Q (.str z) H) → r σ H acc Q
theorem jok_nil {n : Nat} {σ : St} {H : Hp} : JOk n σ H jNil := fun acc Q _ q => q acc
theorem jok_lit {n : Nat} {σ : St} {H : Hp} {c : Str} {r : TJ} (hr : JOk (n + c.length) σ H r) (h : n + c.length ≤ 100000) : JOk n σ H (jLit c r) := fun acc Q ha q => by
  have e : (acc ++ c).length = acc.length + c.length := strLen_append _ _
  exact ⟨by rw [e, sizeLine_eq]; omega, hr _ Q (by rw [e]; omega) q⟩
theorem jok_any {n i : Nat} {K : Frag} {σ : St} {H : Hp} {v : V} {r : TJ} (hr : JOk (n + 3000) σ H r) (h : n ≤ 90000) (hv : σ[i]? = some (some v)) (hs : (∃ i : Int, v = .int i ∧ 0 ≤ i ∧ i < 1000) ∨ ∃ a ns, v = .ref a ∧ SL K H a (ns.map V.int) ∧ smalls ns) : JOk n σ H (jAny K (tVar i) r) := fun acc Q ha q =>
  ⟨v, hv, hs, by omega, fun y hy => hr _ Q (by rw [strLen_append]; omega) q⟩
section
variable {P : Program} {w : World} {K : Frag} {mg : Str → Option Value} {base : Heap}
theorem init_W {qual x : Str} {st : Stmt} {fI C D fI' : Addr} {fd : FuncData} {k : Nat} {f : Str} {r : TJ} (F : Fun K "__init__" qual st fI fd) (S : FnScope ["self", x] ["self", x] (defScope st)) (hx : xcIn K C fI' D = true) (xc : XCls K C) (hf : findIn K (.ref C) f = some none)
    (hb : ∀ (cdv : Value) (A : Around) (outer : List Env) (s : Shared) (H : Hp) (E : XK), Room k (A.deeper (envOfC qual (defScope st) s.heap.objs.size fI cdv)) →
      PSs (cxOf CX0 P w K mg base ["self", x] qual (defScope st) fI cdv A outer s H E).nox (defBody st) (tSeq (tDrop (tBase K (tCons (tVar 0) (tCons (tJoined r) tNil)))) (tFldX K (tVar 0) (tCB (rList K) (tCons (tVar 1) tNil)) f)))
    (hj : ∀ (H : Hp) (e a : Addr) (ns : List Int), SL K H a (ns.map V.int) → smalls ns → JOk 0 [some (.ref e), some (.ref a)] H r) :
    FnOk P w K mg base CX0 (k + 1) fI fd ["self", x] (spG K C 1 (gW f)) := by
  refine F.ok S (fun vs H Q E ⟨e, ws, ds, R, fl, ev, hl, _⟩ => by rw [ev, List.length_cons, hl]; rfl) fun cdv A outer s H vs Q E hr ⟨e, ws, ds, R, fl, ev, hl, he, mu, re, rs, hG, q⟩ => ⟨_, hb cdv A outer s H E hr, ?_⟩
  subst ev
  unfold gW at hG
  split at hG
  · rename_i xs
    obtain ⟨ns, hn, hG⟩ := bind_some hG
    split at hG
    · rename_i hs
      cases hG
      have hs := smalls_of hs
      obtain ⟨v, r', e1, r1, r2⟩ := rps_of_cons rs
      have e2 := rps_of_nil r2
      subst e1 e2
      obtain ⟨a, us, e3, hS, ru⟩ := of_lst r1
      rw [intsD_eq hn] at ru
      have e4 := rps_of_ints ru
      subst e3 e4
      have hS' : SL K H a (ns.map V.int) := av_same.sl hS
      show tSeq _ _ _ [some (.ref e), some (.ref a)] H
      refine ⟨.ref e, rfl, ?_⟩
      refine hj H e a ns hS' hs Str.empty _ (by decide) fun z => ?_
      refine ⟨e, C, none, .str z, fI', D, rfl, he, hx, ?_⟩
      refine ⟨.ref a, rfl, a, ns.map V.int, rfl, .inl hS'.sq, fun l hln => ?_⟩
      have hle : l ≠ e := fun z => by rw [z, he] at hln; cases hln
      refine ⟨.ref e, rfl, e, C, none, fI', D, rfl, by rw [upd_ne (Ne.symm hle)]; exact he, hx, xc, hf, fun dx hdx hde => ?_⟩
      have hdl : dx ≠ l := fun z => by rw [z, upd_same] at hdx; cases hdx
      have hdn : H dx = none := by rw [upd_ne hdl] at hdx; exact hdx
      have nR : ∀ {b : Addr}, H b = none → R b = false := fun {b} z => by
        cases y : R b with
        | false => rfl
        | true => obtain ⟨o, ho⟩ := (mu b y).some; rw [z] at ho; cases ho
      refine q _ (some dx) (fun c o hc h => ?_) ?_ ?_
      · have c1 : c ≠ dx := fun z => by rw [z, hdn] at h; cases h
        have c2 : c ≠ l := fun z => by rw [z, hln] at h; cases h
        rw [upd_ne c1, upd_ne hc, upd_ne c2]; exact h
      · rw [upd_ne (Ne.symm hde), upd_same]
      · refine ⟨[(f, .ref l)], av_at upd_same (nR hdn), fun g => ?_⟩
        by_cases eg : g = f
        · subst eg
          refine .inr ⟨.nums ns, .ref l, by simp [List.lookup], by simp [List.lookup], l, rfl, .inl (.inl (av_at ?_ (nR hln))), ?_⟩
          · rw [upd_ne (Ne.symm hdl), upd_ne hle, upd_same]
          · exact Nat.le_of_lt (small1000 (by have := hs.1; omega))
        · have e' : (g == f) = false := by simpa using eg
          exact .inl ⟨by simp [List.lookup, e'], by simp [List.lookup, e']⟩
    · cases hG
  · cases hG
end
end L2
set_option Elab.async false
set_option linter.all false
set_option maxRecDepth 100000
namespace L2
open PySem PySem.Spec PyProof.Rows PySem.W
section
variable {X : Cx} {pins : List (Addr × Obj)} {σ : St} {H : Hp} {s : Shared}
theorem goes_ok {M : Model} {A : Around} {E : Value → Shared → Prop} {i : Nat} {x : Str} {pos : Pos} {Q : Unit → Shared → Prop} (I : Inv X pins σ H s) (hN : X.N.Nodup) (hi : X.N[i]? = some x) (hk : X.env.kindOf x = some .local)
    (h : ∀ s', Inv X pins (σ.set i none) H s' → Q () s') : wpAny M A (do bindName X.env x .none; unbindBehindTheSuite X.env x pos) Q E s := by
  obtain ⟨m, hn, hl⟩ := id I.loc
  have hcls : (X.env.scope.kind == .class || (X.env.scope.kind == .module && X.env.locals != X.env.globals)) = false := by rw [I.ok.kind]; rfl
  have cne := I.cne
  refine wpAny_nameGoes_keeps hk hn hcls fun h' v hn' hs => ?_
  obtain ⟨oL, _, _, hoL, _⟩ := id hn
  refine h _ ⟨I.ok, I.os, I.bare, ⟨fun b o e n hb hx => ?_, fun b o e n hb hx => ?_, I.base.free, fun b o e hx => ?_, I.base.tups, I.base.frzs, I.base.tbls⟩, ⟨_, hn', fun j y v' e1 e2 e3 => ?_⟩, fun y c e => ?_, I.free, I.freeC, fun p hp => ?_, fun b ob e => ?_, by simpa using I.len⟩
  · exact (hs.2 b (Nat.ne_of_lt (Nat.lt_of_lt_of_le (Heap.lt_size e) I.ok.above))).trans (I.base.keep b o e n hb hx)
  · obtain ⟨sl, e1⟩ := I.base.slot b o e n hb hx
    exact ⟨sl, (hs.2 b (Nat.ne_of_lt (Nat.lt_of_lt_of_le (Heap.lt_size e) I.ok.above))).trans e1⟩
  · obtain ⟨o', e1⟩ := I.base.there b o e hx
    exact ⟨o', (hs.2 b (Nat.ne_of_lt (Nat.lt_of_lt_of_le (Heap.lt_size e) I.ok.above))).trans e1⟩
  · by_cases hj : j = i
    · subst hj
      rw [List.getElem?_set] at e2
      simp at e2
    · rw [List.getElem?_set_ne (Ne.symm hj)] at e2
      obtain ⟨u', r', q⟩ := hl j y v' e1 e2 e3
      refine ⟨u', r', ?_⟩
      rcases q with ⟨k, e⟩ | ⟨k, c, e, z⟩
      · refine .inl ⟨k, ?_⟩
        have : y ≠ x := fun e => hj (nodup_ix hN e1 (e ▸ hi))
        simp [this, e]
      · exact .inr ⟨k, c, e, z.sameBut hs (cne y c e)⟩
  · obtain ⟨w', z⟩ := I.cell y c e
    exact ⟨w', z.sameBut hs (cne y c e)⟩
  · obtain ⟨e, n, ne, nf, d⟩ := I.pin p hp
    exact ⟨(hs.2 p.1 ne).trans e, n, ne, nf, d⟩
  · refine (I.hok b ob e).stay (fun c w' hc q => (hs.2 c ?_).trans q) (fun _ q => q) fun _ _ q => q
    rintro rfl
    rcases hc with rfl | hc
    · rw [I.free] at e; cases e
    · rw [I.free] at hc; cases hc
theorem Inv.track {a : Addr} {o : HO} (I : Inv X pins σ H s) (ha : H a = none) (lo : X.s₀.heap.objs.size ≤ a) (hl : a ≠ X.env.locals) (hc : ∀ x c, X.env.cells.lookup x = some c → c ≠ a) (hp : ∀ p ∈ X.pn ++ pins, p.1 ≠ a) (ok : ObjOk X.prog X.w (upd H a o) s.heap a o) : Inv X pins σ (upd H a o) s := by
  have sm : Same H (upd H a o) := same_upd ha
  refine ⟨I.ok, I.os, I.bare, ⟨I.base.keep, I.base.slot, fun b ob q n hx => ?_, I.base.there, fun b xs q => sm _ _ (I.base.tups b xs q), fun b o u q => sm _ _ (I.base.frzs b o u q), fun b ps q => ?_⟩, I.loc, I.cell, ?_, fun x c e => ?_, fun p h => ?_, fun b u q => ?_, I.len⟩
  · rw [upd_ne (fun z => by rw [z] at q; exact absurd (Heap.lt_size q) (Nat.not_lt.mpr lo))]
    exact I.base.free b ob q n hx
  · obtain ⟨more, z⟩ := I.base.tbls b ps q
    exact ⟨more, sm _ _ z⟩
  · rw [upd_ne (Ne.symm hl)]; exact I.free
  · rw [upd_ne (hc x c e)]; exact I.freeC x c e
  · obtain ⟨h1, h2, h3⟩ := I.pin p h
    exact ⟨h1, by rw [upd_ne (hp p h)]; exact h2, h3⟩
  · by_cases z : b = a
    · subst z; rw [upd_same] at q; cases q; exact ok
    · rw [upd_ne z] at q
      exact (I.hok b u q).stay (fun _ _ _ w => w) (fun c w => sm _ _ w) fun c xs w => sm _ _ w
abbrev Cx.inTry (X : Cx) (pn : List (Addr × Obj)) (E : Value → Shared → Prop) : Cx := { X with pn := pn, xe := E }
abbrev Cx.inH (X : Cx) (pn : List (Addr × Obj)) (e : Addr) : Cx := { X with A := X.A.mark (some (.ref e)), calm := false, pn := pn, xe := fun _ _ => False }
theorem Inv.toTry {E : Value → Shared → Prop} (I : Inv X pins σ H s) : Inv (X.inTry (X.pn ++ pins) E) [] σ H s :=
  ⟨⟨I.ok.mod, I.ok.kind, I.ok.glob, I.ok.blt, I.ok.above, I.ok.inj, I.ok.has, I.ok.cab, I.ok.hd, I.ok.frames, I.ok.stk, I.ok.exf, I.ok.bs, I.ok.bsz, I.ok.noex, I.ok.exfs, I.ok.funs, I.ok.frf⟩, I.os, I.bare, I.base, I.loc, I.cell, I.free, I.freeC, fun p hp => I.pin p (by simpa using hp), I.hok, I.len⟩
theorem Inv.ofTry {E : Value → Shared → Prop} {pins' : List (Addr × Obj)} (ok : X.Ok) (I : Inv (X.inTry (X.pn ++ pins) E) pins' σ H s) : Inv X pins σ H s :=
  ⟨ok, I.os, I.bare, I.base, I.loc, I.cell, I.free, I.freeC, fun p hp => I.pin p (List.mem_append_left _ hp), I.hok, I.len⟩
theorem Inv.toH {e : Addr} (I : Inv X pins σ H s) : Inv (X.inH (X.pn ++ pins) e) [] σ H s :=
  ⟨⟨I.ok.mod, I.ok.kind, I.ok.glob, I.ok.blt, I.ok.above, I.ok.inj, I.ok.has, I.ok.cab, (fun z => nomatch z), I.ok.frames, I.ok.stk, I.ok.exf, I.ok.bs, I.ok.bsz, I.ok.noex, I.ok.exfs, I.ok.funs, I.ok.frf⟩, I.os, I.bare, I.base, I.loc, I.cell, I.free, I.freeC, fun p hp => I.pin p (by simpa using hp), I.hok, I.len⟩
theorem Inv.ofH {e : Addr} {pins' : List (Addr × Obj)} (ok : X.Ok) (I : Inv (X.inH (X.pn ++ pins) e) pins' σ H s) : Inv X pins σ H s :=
  ⟨ok, I.os, I.bare, I.base, I.loc, I.cell, I.free, I.freeC, fun p hp => I.pin p (List.mem_append_left _ hp), I.hok, I.len⟩
end
theorem EnvOk.clr {K : Frag} {B : Bs} {A : AS} {H : Hp} {σ : St} {env : Ev} (k : EnvOk K B A H σ env) (i : Nat) : EnvOk K B A H (σ.set i none) (env.set i .un) := by
  obtain ⟨own, h1, h2, h4⟩ := k.sl
  refine ⟨k.h0, k.r0, k.ra, k.ar, k.mu, by rw [List.length_set, List.length_set]; exact k.len, fun hst j d => ?_, own, h1, h2, fun j s e => ?_⟩
  · rw [List.getElem?_set]
    split
    · split <;> simp
    · exact k.np hst j d
  · rw [List.getElem?_set] at e
    split at e
    · rename_i hij
      split at e
      · rename_i hl
        cases e
        exact ⟨none, by rw [List.getElem?_set, if_pos hij, if_pos (by rw [k.len]; exact hl)], trivial⟩
      · cases e
    · rename_i hij
      obtain ⟨x, e1, e2⟩ := h4 j s e
      exact ⟨x, by rw [List.getElem?_set, if_neg hij]; exact e1, e2⟩
end L2
set_option Elab.async false
set_option linter.all false
set_option maxRecDepth 100000
namespace L2
open PySem PySem.Spec PyProof.Rows PySem.W
def unFl (i : Nat) : Fl → Fl
  | .next e => .next (e.set i .un)
  | .brk e => .brk (e.set i .un)
  | .cont e => .cont (e.set i .un)
  | .ret d => .ret d
  | .exc _ _ _ => .no
  | .no => .no
def sTry (sub : Str → Bool) (i : Nat) (g h : Ev → Fl) : Ev → Fl := fun env => match g env with
  | .exc env' c fl => if sub c = true then unFl i (h (env'.set i (.fz (.exc c fl)))) else .no
  | r => r
theorem kpx_land {l : List Env} {ch : List Addr} {T' : Addr} {h h' h2 : Heap} (k : KpX l ch h h') (hT : h.objs.size ≤ T') (y : ∀ b o, h'.get? b = some o → b ∉ [T'] → h2.get? b = some o) : KpX l ch h h2 := fun b o hb hc => by
  obtain ⟨k1, sl, k2⟩ := k b o hb hc
  have hbT : b ∉ [T'] := fun z => by
    have e1 : b = T' := by simpa using z
    rw [e1] at hb
    exact absurd (Heap.lt_size hb) (Nat.not_lt.mpr hT)
  exact ⟨fun hl => y b o (k1 hl) hbT, sl, y b _ k2 hbT⟩
section
variable {X : Cx} {fr : Bool} {g h : Ev → Fl} {body : List Stmt} {b₀ : Stmt} {suite : List Stmt} {T n : Str} {np hpos pos : Pos} {i : Nat} {sub : Str → Bool} {DT : Addr}
theorem s_tryAs (hb : ∀ pn E, PBd fr (X.inTry pn E) body g) (hh : ∀ pn e, PBd fr (X.inH pn e) (b₀ :: suite) h) (hN : X.N.Nodup) (hi : X.N[i]? = some n) (hx : Loc X.env.scope n) (hT : X.mg T = some (.ref DT))
    (hsub : ∀ c C, clsAt X.K c C → sub c = true → exmOne X.K (.ref C) (.ref DT) = some true) (hk : X.env.kindOf n = some .local := by rfl) (hg : Gl X T := by rfl) (hdb : (T == ("__debug__" : Str)) = false := by decide)
    (hstk : X.stack = X.env :: X.outer ∧ X.env.frame = some X.env.locals := by exact ⟨rfl, rfl⟩)
    (hf : X.fn n = true ∨ X.env.scope.names.lookup n = some .local := by first | exact .inl rfl | exact .inr rfl | assumption) :
    PSd fr X (.Try body [.ExceptHandler (some (.Name T np)) (some n) (b₀ :: suite) hpos] [] [] pos) (sTry sub i g h) := by
  intro pins s σ H D I ⟨env, B, A, kk, hst, q⟩
  let EX : Value → Shared → Prop := fun ev s₁ => wpAny (model X.prog X.w) X.A (noteFrame ev X.env) (fun _ s₂ => wpAny (model X.prog X.w) X.A (setFlight ev none) (fun _ s₃ => wpAny (model X.prog X.w) X.A (handleBy ev X.env [.ExceptHandler (some (.Name T np)) (some n) (b₀ :: suite) hpos]) (SP X pins D) X.xe s₃) X.xe s₂) X.xe s₁
  have flok : FlOk fr (X.inTry (X.pn ++ pins) EX) B A H D (g env) := by
    unfold sTry at q
    cases eg : g env with
    | next e' => rw [eg] at q; exact q
    | brk e' => rw [eg] at q; exact q
    | cont e' => rw [eg] at q; exact q
    | ret d => rw [eg] at q; exact q
    | no => rw [eg] at q; exact q
    | exc env' c fl =>
      rw [eg] at q
      dsimp only at q
      split at q
      · rename_i hsc
        intro A1 H1 σ1 st1 k1 pins' s1 e C dct I1 hcl x hf1
        have J1 : Inv X pins σ1 H1 s1 := I1.ofTry I.ok
        have hfr : X.A.frames = some (X.env :: X.outer) := by rw [← hstk.1]; exact J1.ok.frames
        have hl : s1.heap.FunFrames X.base (X.env :: X.outer) := by rw [← hstk.1]; exact J1.stack
        have hkb : X.base.StaysIn s1.heap := J1.bk
        have hen : X.base.get? e = none := J1.noBase x.lo
        have hfree : ∀ b ∈ frs (X.env :: X.outer), H1 b = none := by rw [← hstk.1]; exact J1.stkFree
        have hpn : ∀ {a : Addr}, (∀ p ∈ (X.inTry (X.pn ++ pins) EX).pn ++ pins', p.1 ≠ a) → ∀ p ∈ X.pn ++ pins, p.1 ≠ a := fun {a} z p hp => z p (List.mem_append_left _ hp)
        have nloc : ∀ {s1 : Shared} (J1 : Inv X pins σ1 H1 s1) {a : Addr} {o : Obj} {vs : Array Value}, s1.heap.get? a = some o → o.data = .fields vs → a ≠ X.env.locals ∧ ∀ y c, X.env.cells.lookup y = some c → c ≠ a := fun {s1} J1 {a o vs} ho hd => by
          refine ⟨fun z => ?_, fun y c hc z => ?_⟩
          · obtain ⟨m, ⟨o', es, ep, ho', hd', _⟩, _⟩ := J1.loc
            rw [z, ho'] at ho; cases ho; rw [hd] at hd'; cases hd'
          · obtain ⟨v, o', ho', hd'⟩ := J1.cell y c hc
            rw [z, ho] at ho'; cases ho'; rw [hd] at hd'; cases hd'
        have ae : ∀ {a : Addr}, H1 a = none → A1 a = false := fun {a} z => by
          cases y : A1 a with
          | false => rfl
          | true => obtain ⟨o, ho⟩ := (k1.mu a y).some; rw [z] at ho; cases ho
        -- behind the landing
        have after : ∀ (h2 : Heap) (T' : Addr) (ch : List Addr), s1.heap.objs.size ≤ T' → X.base.StaysIn h2 → h2.FunFrames X.base (X.env :: X.outer) → TrX h2 X.base e T' (.ref C) dct .none → KpX (X.env :: X.outer) ch s1.heap h2 → (∀ b ∈ ch, H1 b = none ∧ X.s₀.heap.objs.size ≤ b ∧ b ≠ X.env.locals ∧ (∀ y c, X.env.cells.lookup y = some c → c ≠ b) ∧ ∀ p ∈ X.pn ++ pins, p.1 ≠ b) →
            wpAny (model X.prog X.w) X.A (handleBy (.ref e) X.env [.ExceptHandler (some (.Name T np)) (some n) (b₀ :: suite) hpos]) (SP X pins D) X.xe { s1 with heap := h2 } := by
          intro h2 T' ch hT' sb2 ff2 tr2 kp hch
          have J2 : Inv X pins σ1 H1 { s1 with heap := h2 } := J1.call' (s' := { s1 with heap := h2 }) (ch := ch) rfl (by rw [hstk.1]; exact un_kpx kp fun b hb => (hch b hb).1) (hok_kpx J1.hok kp (fun b hb => (hch b hb).1) hfree) J1.bare fun b hb => ⟨.inr (hch b hb).2.1, (hch b hb).2.2.1, (hch b hb).2.2.2.1, (hch b hb).2.2.2.2⟩
          obtain ⟨oe, ve, oT, ts, g1, g2, g3, g4, g5, g6, g7, g8, g9, g10⟩ := id tr2
          have LT : Looks (model X.prog X.w) h2 (typeOf (.ref e)) (.ref C) := g2 ▸ (Looks.ld g1).andThen .now
          refine wpAny_handleBy_cons (codeAny_handlers_test (ld_glob (J2.toH (e := e)) hg hT ?_ hdb)) (by intro z; cases z)
          refine (exm_one (M := model X.prog X.w) J2.kIn LT (hsub c C hcl hsc)).here ?_
          show codeAny _ _ _ _ _
          refine codeAny_handlers_suite_as ?_
          refine landX (s := { s1 with heap := h2 }) sb2 ff2 tr2 fun h3 y1 y2 tr3 y4 y5 => ?_
          have kp3 : KpX (X.env :: X.outer) [T'] h2 h3 := .of fun b o hb hc => y4 b o hb hc
          have hTn : H1 T' = none := J1.hok.fresh hT'
          have hTl := nloc J2 g8 g9
          have hTp : ∀ p ∈ X.pn ++ pins, p.1 ≠ T' := fun p hp z => by
            have := (J1.pin p hp).1
            rw [z] at this
            exact absurd (Heap.lt_size this) (Nat.not_lt.mpr hT')
          have hTs : ∀ b ∈ [T'], b = T' := fun b hb => List.mem_singleton.mp hb
          have J3 : Inv X pins σ1 H1 { s1 with heap := h3 } := J2.call' (s' := { s1 with heap := h3 }) (ch := [T']) rfl (by rw [hstk.1]; exact un_kpx kp3 fun b hb => by rw [hTs b hb]; exact hTn) (hok_kpx J2.hok kp3 (fun b hb => by rw [hTs b hb]; exact hTn) hfree) J2.bare fun b hb => by rw [hTs b hb]; exact ⟨.inr (Nat.le_trans J1.sz hT'), hTl.1, hTl.2, hTp⟩
          obtain ⟨oe', ve', _, _, e1, e2, e3, e4, _⟩ := id tr3
          have el := nloc J3 e1 e4
          have hxi : XIs e C dct h3 := ⟨oe', e1, e2, e3, fun cc z => by rw [e4] at z; cases z⟩
          have J4 : Inv X pins σ1 (upd H1 e (.ext (XIs e C dct))) { s1 with heap := h3 } := J3.track x.un x.lo el.1 el.2 (hpn x.pe) ⟨hxi, ⟨_, e1⟩, fun ha hb ⟨o, z1, z2⟩ k => ⟨o, k _ z1, z2⟩⟩
          have sm : Same H1 (upd H1 e (.ext (XIs e C dct))) := same_upd x.un
          refine store_ok J4 hN hi hx (v := .ref e) rfl (fun s5 J5 => ?_) hf
          have rp : Rp X.K (av (upd H1 e (.ext (XIs e C dct))) A1) (.exc c fl) (.ref e) := by
            unfold Rp
            exact ⟨e, C, dct, rfl, av_at upd_same (ae x.un), hcl, hf1.mono (av_mono sm)⟩
          have k5 := (k1.mono sm).put i rp
          have hfl : FlOk fr (X.inH (X.pn ++ pins) e) B A1 (upd H1 e (.ext (XIs e C dct))) (Ends.mk (fun σ' H' => D.nx (σ'.set i none) H') D.rt (fun σ' H' => D.bk (σ'.set i none) H') (fun σ' H' => D.ct (σ'.set i none) H')) (h (env'.set i (.fz (.exc c fl)))) := by
            have q2 := q.step (st1.trans (Step.same sm))
            unfold unFl at q2
            cases eh : h (env'.set i (.fz (.exc c fl))) with
            | next e' => rw [eh] at q2; exact fun A' H' σ' s' k' => q2 A' H' _ s' (k'.clr i)
            | brk e' => rw [eh] at q2; exact fun A' H' σ' s' k' => q2 A' H' _ s' (k'.clr i)
            | cont e' => rw [eh] at q2; exact fun A' H' σ' s' k' => q2 A' H' _ s' (k'.clr i)
            | ret d => rw [eh] at q2; exact q2
            | exc e' c' f' => rw [eh] at q2; exact q2.elim
            | no => rw [eh] at q2; exact q2
          refine wpAny_mono (hh (X.pn ++ pins) e [] s5 _ _ _ J5.toH ⟨_, B, A1, k5, hst, hfl⟩) (fun f s6 hs => ?_) (fun _ _ z => z.elim)
          show wpAny _ _ _ _ _ _
          cases f with
          | next => obtain ⟨σ', H', I', q'⟩ := hs; exact goes_ok (I'.ofH I.ok) hN hi hk fun s7 I7 => ⟨_, H', I7, q'⟩
          | brk => obtain ⟨σ', H', I', q'⟩ := hs; exact goes_ok (I'.ofH I.ok) hN hi hk fun s7 I7 => ⟨_, H', I7, q'⟩
          | cont => obtain ⟨σ', H', I', q'⟩ := hs; exact goes_ok (I'.ofH I.ok) hN hi hk fun s7 I7 => ⟨_, H', I7, q'⟩
          | ret u => obtain ⟨v, σ', H', I', r', q'⟩ := hs; exact goes_ok (I'.ofH I.ok) hN hi hk fun s7 I7 => ⟨v, _, H', I7, r', q'⟩
        show wpAny _ _ _ _ _ _
        rcases x.ob with ⟨o, vs, he, hc, hd, hda, h1⟩ | ⟨T0, hT, hTn, hTp, ht⟩
        · refine noteX_first hfr hl hstk.2 he hkb hen hda h1 fun h' T' x0 x1 x2 x3 x4 x5 => ?_
          refine landX (s := { s1 with heap := h' }) x1 x2 x3 fun h2 y1 y2 y3 y4 y5 => ?_
          rw [hc, hd] at y3
          refine after h2 T' [e] x0 y1 y2 y3 (kpx_land x4 x0 y4) fun b hb => ?_
          rw [List.mem_singleton.mp hb]
          have z := nloc J1 he hda
          exact ⟨x.un, x.lo, z.1, z.2, hpn x.pe⟩
        · refine noteX hfr hl hstk.2 ht hkb hen fun h' T' x0 x1 x2 x3 x4 x5 => ?_
          refine landX (s := { s1 with heap := h' }) x1 x2 x3 fun h2 y1 y2 y3 y4 y5 => ?_
          refine after h2 T' [e, T0] x0 y1 y2 y3 (kpx_land x4 x0 y4) fun b hb => ?_
          obtain ⟨oe, ve, oT, ts, g1, g2, g3, g4, g5, g6, g7, g8, g9, g10⟩ := id ht
          rcases List.mem_cons.mp hb with z | z
          · rw [z]; have w := nloc J1 g1 g4; exact ⟨x.un, x.lo, w.1, w.2, hpn x.pe⟩
          · rw [List.mem_singleton.mp z]; have w := nloc J1 g8 g9; exact ⟨hTn, hT, w.1, w.2, hpn hTp⟩
      · exact q.elim
  refine wpAny_Try_except (wpAny_mono (hb (X.pn ++ pins) EX [] s σ H D I.toTry ⟨env, B, A, kk, hst, flok⟩) (fun f s₁ hs => ?_) (fun e s₁ hx => hx))
  cases f with
  | next => obtain ⟨σ', H', I', q'⟩ := hs; exact wpAny_pure ⟨σ', H', I'.ofTry I.ok, q'⟩
  | brk => obtain ⟨σ', H', I', q'⟩ := hs; exact ⟨σ', H', I'.ofTry I.ok, q'⟩
  | cont => obtain ⟨σ', H', I', q'⟩ := hs; exact ⟨σ', H', I'.ofTry I.ok, q'⟩
  | ret u => obtain ⟨v, σ', H', I', r', q'⟩ := hs; exact ⟨v, σ', H', I'.ofTry I.ok, r', q'⟩
end
end L2
set_option Elab.async false
set_option linter.all false
set_option maxRecDepth 100000
namespace L2
open PySem PySem.Spec PyProof.Rows PySem.W
section
variable {X : Cx} {m : Bool} {e : Expr} {f : Ev → Option Dat} {p p2 pos : Pos}
def dIX (sb : Str → Option Bool) (f : Ev → Option Dat) : Ev → Option Dat := fun env => (f env).bind fun d => match d with
  | .exc c _ => (sb c).map .bl
  | _ => none
theorem isx_go {pins : List (Addr × Obj)} {σ : St} {H : Hp} {s : Shared} {c : Str} {fl : List (Str × XD)} {v : V} {u cv : Value} {b : Bool} {Q : Value → Shared → Prop} {A : Around} {E : Value → Shared → Prop} (I : Inv X pins σ H s) (r : Rp X.K H (.exc c fl) v) (ru : RelV v u) (hk : ∀ C, clsAt X.K c C → kitOne X.K (.ref C) cv = some b ∧ XCls X.K C) (h : ∀ tk, Q (.bool b) { s with toks := tk }) :
    wpAny (model X.prog X.w) A (call (.builtin "isinstance") [u, cv]) Q E s := by
  obtain ⟨ex, C, dct, e1, e2, e3, e4⟩ := of_exc r
  subst e1
  cases ru
  obtain ⟨⟨o, h1, h2, _⟩, _, _⟩ := (show ObjOk X.prog X.w H s.heap ex (.ext (XIs ex C dct)) from I.hok ex _ e2)
  obtain ⟨hk1, xc⟩ := hk C e3
  exact kia_one (kitx_exc xc) I.kIn ⟨o, h1, h2⟩ hk1 (fun z => nomatch z) h
theorem pe_cls {x : Str} {D : Addr} (hg : Gl X x) (hm : X.mg x = some (.ref D)) (hd : (x == ("__debug__" : Str)) = false := by decide) : PE X (.Name x p) (fun σ H Q => Q (.ref D) H) := fun pins s σ H Q I h => ld_glob I hg hm ⟨.ref D, H, I, rfl, h⟩ hd
theorem xisX {sb : Str → Option Bool} {tx : Str} {D : Addr} (he : PXd true X e f) (hmT : X.mg tx = some (.ref D)) (hk : ∀ c C b, clsAt X.K c C → sb c = some b → kitOne X.K (.ref C) (.ref D) = some b ∧ XCls X.K C) (hm : X.mg "isinstance" = none) (hg : Gl X "isinstance" := by rfl) (hgT : Gl X tx := by rfl) (hv : bootBuiltins "isinstance" = some (.builtin "isinstance") := by decide +kernel) (hdT : (tx == ("__debug__" : Str)) = false := by decide)
    (hs : starEach [e, .Name tx p2] X.env = (false, eval e X.env) :: starEach [.Name tx p2] X.env := by rfl) : PXd m X (.Call (.Name "isinstance" p) [e, .Name tx p2] [] pos) (dIX sb f) := by
  have hc : CallR X (.builtin "isinstance") (fun vs H Q => ∃ v A d b c fl, vs = [v, .ref D] ∧ MuOk A H ∧ d = .exc c fl ∧ sb c = some b ∧ Pk X.K A H d v ∧ RegC false X.K A H (.bl b) Q) := by
    intro pins s σ H xs us Q I r ⟨v, A, d, b, c, fl, e1, mu, e2, e3, p1, q⟩
    subst e1 e2
    obtain ⟨u, w', rfl, ru, rw'⟩ := vals2 r
    cases rw'
    exact isx_go I p1.rp ru (fun C hC => hk c C b hC e3) fun tk => ⟨.bl b, H, I.tok _, rfl, q.here rp_bl⟩
  refine PXd.any ((pe_callB hc hg hm hv (pa_cons he (pa_cons (pe_cls hgT hmT hdT) pa_nil) hs) (he := hs)).weak fun σ H Q ⟨env, R, A, d, k, q1, q2⟩ => ?_)
  obtain ⟨x, e1, h⟩ := bind_some q1
  cases x with
  | exc c fl =>
    obtain ⟨b, e2, h⟩ := map_some h
    subst h
    exact ⟨env, R, A, _, k, e1, fun v H1 s1 p1 => ⟨v, A, _, b, c, fl, rfl, k.mu.mono s1, rfl, e2, p1, q2.mono s1⟩⟩
  | _ => cases h
theorem xisV {sb : Str → Option Bool} {tx : Str} {T : String} (he : PXd true X e f) (hmT : X.mg tx = none) (hvT : bootBuiltins tx = some (.type T)) (hnT : tx ≠ "__name__") (hk : ∀ c C b, clsAt X.K c C → sb c = some b → kitOne X.K (.ref C) (.type T) = some b ∧ XCls X.K C) (hm : X.mg "isinstance" = none) (hg : Gl X "isinstance" := by rfl) (hgT : Gl X tx := by rfl) (hv : bootBuiltins "isinstance" = some (.builtin "isinstance") := by decide +kernel) (hdT : (tx == ("__debug__" : Str)) = false := by decide)
    (hs : starEach [e, .Name tx p2] X.env = (false, eval e X.env) :: starEach [.Name tx p2] X.env := by rfl) : PXd m X (.Call (.Name "isinstance" p) [e, .Name tx p2] [] pos) (dIX sb f) := by
  have hc : CallR X (.builtin "isinstance") (fun vs H Q => ∃ v A d b c fl, vs = [v, .ty T] ∧ MuOk A H ∧ d = .exc c fl ∧ sb c = some b ∧ Pk X.K A H d v ∧ RegC false X.K A H (.bl b) Q) := by
    intro pins s σ H xs us Q I r ⟨v, A, d, b, c, fl, e1, mu, e2, e3, p1, q⟩
    subst e1 e2
    obtain ⟨u, w', rfl, ru, rw'⟩ := vals2 r
    cases rw'
    exact isx_go I p1.rp ru (fun C hC => hk c C b hC e3) fun tk => ⟨.bl b, H, I.tok _, rfl, q.here rp_bl⟩
  refine PXd.any ((pe_callB hc hg hm hv (pa_cons he (pa_cons (pe_bty hgT hmT hvT hnT hdT) pa_nil) hs) (he := hs)).weak fun σ H Q ⟨env, R, A, d, k, q1, q2⟩ => ?_)
  obtain ⟨x, e1, h⟩ := bind_some q1
  cases x with
  | exc c fl =>
    obtain ⟨b, e2, h⟩ := map_some h
    subst h
    exact ⟨env, R, A, _, k, e1, fun v H1 s1 p1 => ⟨v, A, _, b, c, fl, rfl, k.mu.mono s1, rfl, e2, p1, q2.mono s1⟩⟩
  | _ => cases h
def XD.d : XD → Dat
  | .int i => .int i
  | .nums is => .lst (is.map .int)
def dFldX (ok : Str → Bool) (fd : Str) (f : Ev → Option Dat) : Ev → Option Dat := fun env => (f env).bind fun d => match d with
  | .exc c fl => if ok c = true then (fl.lookup fd).map XD.d else none
  | _ => none
theorem xd_rp {K : Frag} {H : Hp} {d : XD} {v : V} (h : XDOk K H d v) : Rp K H d.d v := by
  cases d with
  | int i => cases h; exact rp_int
  | nums is =>
    obtain ⟨a, e1, e2, e3⟩ := h
    subst e1
    exact rp_lst (by rw [List.length_map]; exact e3) e2 (rps_ints is)
theorem xfldX {fd : Str} {okc : Str → Bool} (he : PXd true X e f) (hk : ∀ c C, clsAt X.K c C → okc c = true → XCls X.K C ∧ findIn X.K (.ref C) fd = some none) (hb : attributeBase e fd X.env (eval e X.env) = eval e X.env := by rfl) : PXd m X (.Attribute e fd pos) (dFldX okc fd f) := by
  refine PXd.any ?_
  intro pins s σ H Q I ⟨env, R, A, d, k, q1, q2⟩
  obtain ⟨x, e1, h⟩ := bind_some q1
  cases x with
  | exc c fl =>
    dsimp only at h
    split at h
    case isFalse => cases h
    rename_i hok
    obtain ⟨xd, e2, h⟩ := map_some h
    subst h
    refine attr_of hb (thn (he pins s σ H (fun v H1 => Same H H1 ∧ Rp X.K (av H1 A) (.exc c fl) v) I ⟨env, R, A, _, k, e1, fun v H1 s1 p1 => ?_⟩) fun u s1 ⟨v, H1, I1, ru, sm, r⟩ => ?_)
    · refine ⟨s1, ?_⟩
      rcases p1 with p1 | ⟨_, _, _, z, _⟩
      · exact p1
      · cases z
    obtain ⟨ex, C, dct, z1, z2, z3, z4⟩ := of_exc r
    subst z1
    cases ru
    have z2' := (av_of z2).2
    obtain ⟨⟨o, h1, h2, h3, h4⟩, _, _⟩ := (show ObjOk X.prog X.w H1 s1.heap ex (.ext (XIs ex C dct)) from I1.hok ex _ z2')
    obtain ⟨xc, hf⟩ := hk c C z3 hok
    cases dct with
    | none =>
      have z4 : fl = [] := z4
      subst z4; cases e2
    | some dx =>
      obtain ⟨fvs, y1, y2⟩ := z4
      rcases y2 fd with ⟨y3, _⟩ | ⟨d', vv, y3, y4, y5⟩
      · rw [y3] at e2; cases e2
      · rw [y3] at e2; cases e2
        obtain ⟨mA, hns, hrel⟩ := (show ObjOk X.prog X.w H1 s1.heap dx (.xd fvs) from I1.hok dx _ (av_of y1).2)
        have hr := hrel fd
        rw [y4] at hr
        obtain ⟨uu, hu, hru⟩ : ∃ uu, mA fd = some uu ∧ RelV vv uu := by
          cases hm : mA fd with
          | none => rw [hm] at hr; exact hr.elim
          | some uu => rw [hm] at hr; exact ⟨uu, rfl, hr⟩
        obtain ⟨oC, cd, hC, hcd, hhd⟩ := xc.ld I1.kIn
        have LT : Looks (model X.prog X.w) s1.heap (typeOf (.ref ex)) (.ref C) := h2 ▸ (Looks.ld h1).andThen .now
        have hh : handedOut uu = pure uu := by
          refine handedOut_of ?_
          cases xd with
          | int i => cases y5; obtain ⟨t, rfl⟩ := hru; rfl
          | nums is => obtain ⟨a, z, _⟩ := y5; subst z; cases hru; rfl
        obtain ⟨hh', g, d, tk, os⟩ := s1
        refine xget (K := X.K) I1.kIn h1 h2 h4 h3 hns hu hf hC hcd hhd (LT.andThen (xc.sub I1.kIn "BaseException" (by decide))) xc.ga xc.gh hh ?_
        exact ⟨vv, H1, I1.tok _, hru, (q2.mono sm).here (xd_rp y5)⟩
  | _ => cases h
def isBl (c : Bool) : Value → Bool
  | .bool b => b == c
  | _ => false
theorem bl_vals : ∀ {bs : List Bool} {its : List Value}, Vals (bs.map V.bl) its → its = bs.map Value.bool
  | [], [], _ => rfl
  | [], _ :: _, r => by have := r.length; simp at this
  | _ :: _, [], r => by have := r.length; simp at this
  | b :: bs, v :: its, r => by
    cases r with
    | cons h r' => cases h; rw [bl_vals r']; rfl
theorem eqAt_bl {pins : List (Addr × Obj)} {σ : St} {H : Hp} {s : Shared} (I : Inv X pins σ H s) (hu : X.A.units + 64 < cLine) (b c : Bool) : SeqAt.EqAt X.A.in1 s (.bool b) (.bool c) (b == c) := by
  have := Rp.eqAt (n := 20) (m := 20) (A := X.A.in1) I (d := .bl b) (e := .bl c) (v := .bl b) (w := .bl c) (u := .bool b) (u' := .bool c) rfl rfl (by decide) (by show X.A.units + 1 + 60 < cLine; omega) rp_bl rp_bl rfl rfl
  have e : eqD (.bl b) (.bl c) = (b == c) := by unfold eqD; rfl
  rw [e] at this
  exact this
def rCountB (K : Frag) : V → List V → Hp → VK → Prop := fun x vs H Q => ∃ (p : Addr) (bs : List Bool) (c : Bool), x = .ref p ∧ vs = [.bl c] ∧ SqL K H p (bs.map V.bl) ∧ Q (.int ((bs.countP (· == c) : Nat) : Int)) H
theorem mt_countB (hu : X.A.units + 64 < cLine) : MtR X "list.count" (rCountB X.K) := by
  intro pins s σ H x vs v us Q I rx rs h
  obtain ⟨p, bs, c, rfl, rfl, hq, q⟩ := h
  cases rx
  obtain ⟨u, rfl, ru⟩ := vals1 rs
  cases ru
  obtain ⟨its, r', pl, hz⟩ := I.list hq
  obtain ⟨⟨cls, dd, data, sl⟩, ho, hc, n, hd⟩ := pl.isList
  simp only at hc hd
  subst hc hd
  have e1 := bl_vals r'
  subst e1
  refine call_meets PySem.F.slot_list_count ⟨_, ho, rfl⟩ PySem.F.entry_list_count (PySem.F.args_list_count_2 _ _) (SeqAt.list_countAt p _ n dd sl (.bool c) (isBl c)) ⟨ho, fun y hy => ?_, ?_⟩
  · have hy' : y ∈ bs.map Value.bool := by simpa using hy
    obtain ⟨b, _, rfl⟩ := List.mem_map.mp hy'
    exact eqAt_bl I hu b c
  · have e2 : ((bs.map Value.bool).toArray.toList.countP (isBl c)) = bs.countP (· == c) := by
      show (bs.map Value.bool).countP (isBl c) = _
      rw [List.countP_map]; rfl
    rw [e2]
    exact ⟨.int _, H, I.tok _, ⟨_, rfl⟩, q⟩
def rIndexB (K : Frag) : V → List V → Hp → VK → Prop := fun x vs H Q => ∃ (p : Addr) (bs : List Bool) (c : Bool), x = .ref p ∧ vs = [.bl c] ∧ SqL K H p (bs.map V.bl) ∧ c ∈ bs ∧ Q (.int ((bs.idxOf c : Nat) : Int)) H
theorem mt_indexB (hu : X.A.units + 64 < cLine) : MtR X "list.index" (rIndexB X.K) := by
  intro pins s σ H x vs v us Q I rx rs h
  obtain ⟨p, bs, c, rfl, rfl, hq, hm, q⟩ := h
  cases rx
  obtain ⟨u, rfl, ru⟩ := vals1 rs
  cases ru
  obtain ⟨its, r', pl, hz⟩ := I.list hq
  obtain ⟨⟨cls, dd, data, sl⟩, ho, hc, n, hd⟩ := pl.isList
  simp only at hc hd
  subst hc hd
  have e1 := bl_vals r'
  subst e1
  have hj : bs.idxOf c < bs.length := List.idxOf_lt_length_iff.mpr hm
  have hlen : bs.length ≤ sizeLine := by simpa using hz
  have hsl : sizeLine < 2 ^ 63 - 1 := by decide
  refine call_meets PySem.F.slot_list_index ⟨_, ho, rfl⟩ PySem.F.entry_list_index (PySem.F.args_list_index_2 _ _) (SeqAt.list_indexAt p _ n dd sl (.bool c) (isBl c) (bs.idxOf c) (by simpa using hj) (by omega) ?_ ?_) ⟨ho, fun y hy => ?_, ⟨.int _, H, I.tok _, ⟨_, rfl⟩, q⟩⟩
  · show isBl c ((bs.map Value.bool)[bs.idxOf c]'(by simpa using hj)) = true
    rw [List.getElem_map]
    show (bs[bs.idxOf c] == c) = true
    simpa using List.getElem_idxOf hj
  · intro j hjs hlt
    have hjb : j < bs.length := by omega
    show isBl c ((bs.map Value.bool)[j]'(by simpa using hjb)) = false
    rw [List.getElem_map]
    show (bs[j] == c) = false
    have := List.not_of_lt_findIdx (xs := bs) (p := (· == c)) (i := j) (by simpa [List.idxOf] using hlt)
    simpa using this
  · have hy' : y ∈ bs.map Value.bool := by simpa using hy
    obtain ⟨b, _, rfl⟩ := List.mem_map.mp hy'
    exact eqAt_bl I hu b c
def countD : Dat → List Dat → Option Dat
  | .lst xs, [.bl c] => (blsD xs).map fun bs => .int ((bs.countP (· == c) : Nat) : Int)
  | _, _ => none
def indexD : Dat → List Dat → Option Dat
  | .lst xs, [.bl c] => (blsD xs).bind fun bs => if c ∈ bs then some (.int ((bs.idxOf c : Nat) : Int)) else none
  | _, _ => none
theorem m_count (hu : X.A.units + 64 < cLine) : MtD X "list.count" countD := (mt_countB hu).weak fun v vs H Q ⟨A, x, ds, d, mu, e, p, ps, q⟩ => by
  unfold countD at e
  split at e
  · obtain ⟨l, us, e2, h1, r1⟩ := p.lst
    obtain ⟨v1, e3, p1⟩ := ps.one
    obtain ⟨bs, hb, e⟩ := map_some e
    subst e
    rw [blsD_eq hb] at r1
    have eu := rps_of_bls r1
    subst eu
    exact ⟨l, bs, _, e2, by rw [e3, p1.bl], h1.sq, q.here rp_int⟩
  · cases e
theorem m_index (hu : X.A.units + 64 < cLine) : MtD X "list.index" indexD := (mt_indexB hu).weak fun v vs H Q ⟨A, x, ds, d, mu, e, p, ps, q⟩ => by
  unfold indexD at e
  split at e
  · obtain ⟨l, us, e2, h1, r1⟩ := p.lst
    obtain ⟨v1, e3, p1⟩ := ps.one
    obtain ⟨bs, hb, e⟩ := bind_some e
    split at e
    · rename_i hm
      cases e
      rw [blsD_eq hb] at r1
      have eu := rps_of_bls r1
      subst eu
      exact ⟨l, bs, _, e2, by rw [e3, p1.bl], h1.sq, hm, q.here rp_int⟩
    · cases e
  · cases e
end
end L2
set_option Elab.async false
set_option linter.all false
set_option maxRecDepth 100000
namespace L2
open PySem PySem.Spec PyProof.Rows PySem.W
def sbOf (raised : List Str) (t : Str) : Str → Option Bool := fun c => if c ∈ raised then some (decide (c = t)) else none
def sbAll (raised : List Str) : Str → Option Bool := fun c => if c ∈ raised then some true else none
def subAll (raised : List Str) : Str → Bool := fun c => decide (c ∈ raised)
def IsC (K : Frag) (mg : Str → Option Value) (tx : Str) (sb : Str → Option Bool) : Prop := ∃ D, mg tx = some (.ref D) ∧ ∀ c C b, clsAt K c C → sb c = some b → kitOne K (.ref C) (.ref D) = some b ∧ XCls K C
def IsT (K : Frag) (mg : Str → Option Value) (tx : Str) (T : String) (sb : Str → Option Bool) : Prop := ∀ c C b, clsAt K c C → sb c = some b → kitOne K (.ref C) (.type T) = some b ∧ XCls K C
def CatC (K : Frag) (mg : Str → Option Value) (T : Str) (sub : Str → Bool) : Prop := ∃ D, mg T = some (.ref D) ∧ ∀ c C, clsAt K c C → sub c = true → exmOne K (.ref C) (.ref D) = some true
def FldC (K : Frag) (okc : Str → Bool) (fd : Str) : Prop := ∀ c C, clsAt K c C → okc c = true → XCls K C ∧ findIn K (.ref C) fd = some none
section
variable {X : Cx} {m fr : Bool} {e : Expr} {f : Ev → Option Dat} {g h : Ev → Fl} {p p2 pos : Pos} {body : List Stmt} {b₀ : Stmt} {suite : List Stmt} {T n tx : Str} {np hpos : Pos} {i : Nat} {sub : Str → Bool} {sb : Str → Option Bool}
theorem xisC (he : PXd true X e f) (hC : IsC X.K X.mg tx sb) (hm : X.mg "isinstance" = none) (hg : Gl X "isinstance" := by rfl) (hgT : Gl X tx := by rfl) (hv : bootBuiltins "isinstance" = some (.builtin "isinstance") := by decide +kernel) (hdT : (tx == ("__debug__" : Str)) = false := by decide)
    (hs : starEach [e, .Name tx p2] X.env = (false, eval e X.env) :: starEach [.Name tx p2] X.env := by rfl) : PXd m X (.Call (.Name "isinstance" p) [e, .Name tx p2] [] pos) (dIX sb f) := by
  obtain ⟨D, h1, h2⟩ := hC
  exact xisX he h1 h2 hm hg hgT hv hdT hs
theorem s_tryC (hb : ∀ pn E, PBd fr (X.inTry pn E) body g) (hh : ∀ pn e, PBd fr (X.inH pn e) (b₀ :: suite) h) (hC : CatC X.K X.mg T sub) (hN : X.N.Nodup) (hi : X.N[i]? = some n) (hx : Loc X.env.scope n) (hk : X.env.kindOf n = some .local := by rfl) (hg : Gl X T := by rfl) (hdb : (T == ("__debug__" : Str)) = false := by decide)
    (hstk : X.stack = X.env :: X.outer ∧ X.env.frame = some X.env.locals := by exact ⟨rfl, rfl⟩)
    (hf : X.fn n = true ∨ X.env.scope.names.lookup n = some .local := by first | exact .inl rfl | exact .inr rfl | assumption) :
    PSd fr X (.Try body [.ExceptHandler (some (.Name T np)) (some n) (b₀ :: suite) hpos] [] [] pos) (sTry sub i g h) := by
  obtain ⟨D, h1, h2⟩ := hC
  exact s_tryAs hb hh hN hi hx h1 h2 hk hg hdb hstk hf
end
section
variable {K : Frag} {mg : Str → Option Value}
theorem isC_of {raised : List Str} {tx : Str} {D : Addr} (hm : mg tx = some (.ref D)) (h : ∀ c ∈ raised, ∃ C, clsAt K c C ∧ kitOne K (.ref C) (.ref D) = some (decide (c = tx)) ∧ XCls K C) : IsC K mg tx (sbOf raised tx) := by
  refine ⟨D, hm, fun c C b hc hb => ?_⟩
  unfold sbOf at hb
  split at hb
  · rename_i hr
    cases hb
    obtain ⟨C', h1, h2, h3⟩ := h c hr
    unfold clsAt at hc h1
    rw [hc] at h1
    cases h1
    exact ⟨h2, h3⟩
  · cases hb
theorem isT_of {raised : List Str} {tx : Str} {T : String} (h : ∀ c ∈ raised, ∃ C, clsAt K c C ∧ kitOne K (.ref C) (.type T) = some true ∧ XCls K C) : IsT K mg tx T (sbAll raised) := by
  refine fun c C b hc hb => ?_
  unfold sbAll at hb
  split at hb
  · rename_i hr
    cases hb
    obtain ⟨C', h1, h2, h3⟩ := h c hr
    unfold clsAt at hc h1
    rw [hc] at h1
    cases h1
    exact ⟨h2, h3⟩
  · cases hb
theorem catC_of {raised : List Str} {T : Str} {D : Addr} (hm : mg T = some (.ref D)) (h : ∀ c ∈ raised, ∃ C, clsAt K c C ∧ exmOne K (.ref C) (.ref D) = some true) : CatC K mg T (subAll raised) := by
  refine ⟨D, hm, fun c C hc hb => ?_⟩
  obtain ⟨C', h1, h2⟩ := h c (of_decide_eq_true hb)
  unfold clsAt at hc h1
  rw [hc] at h1
  cases h1
  exact h2
theorem fldC_of {raised : List Str} {fd : Str} (h : ∀ c ∈ raised, ∃ C, clsAt K c C ∧ XCls K C ∧ findIn K (.ref C) fd = some none) : FldC K (subAll raised) fd := fun c C hc hb => by
  obtain ⟨C', h1, h2⟩ := h c (of_decide_eq_true hb)
  unfold clsAt at hc h1
  rw [hc] at h1
  cases h1
  exact h2
end
end L2
set_option Elab.async false
set_option linter.all false
set_option maxRecDepth 100000
set_option maxHeartbeats 4000000
namespace K21
open PySem PySem.Spec PyProof.Rows L2
noncomputable def g_wire_of : Ev → Fl := (sRet (dO ixD (dO ixD (dO ixD (dV 0) (dC (.int 1))) (dV 1)) (dC (.int 0))))
noncomputable def F_wire_of : List Dat → Rs := runD 2 2 g_wire_of
noncomputable def g_is_rise : Ev → Fl := (sRet (dO ixD (dO ixD (dO ixD (dV 0) (dC (.int 1))) (dV 1)) (dC (.int 1))))
noncomputable def F_is_rise : List Dat → Rs := runD 2 2 g_is_rise
noncomputable def g_takes_of : Ev → Fl := (sRet (dO ixD (dO ixD (dO ixD (dV 0) (dC (.int 1))) (dV 1)) (dC (.int 2))))
noncomputable def F_takes_of : List Dat → Rs := runD 2 2 g_takes_of
noncomputable def g_fills_of : Ev → Fl := (sRet (dO ixD (dO ixD (dO ixD (dV 0) (dC (.int 1))) (dV 1)) (dC (.int 3))))
noncomputable def F_fills_of : List Dat → Rs := runD 2 2 g_fills_of
noncomputable def g_bits : Ev → Fl := (bCons (sSet 1 (dC (.int 0)))
      (bCons (sFor (srcL (dV 0)) (gset 2) (sSet 1 (dO orD (dV 1) (dO shlD (dC (.int 1)) (dV 2)))))
      (sRet (dV 1))))
noncomputable def F_bits : List Dat → Rs := runD 3 1 g_bits
noncomputable def g_has_one : Ev → Fl := (sRet (dO eqF (dO andD (dO shrD (dV 0) (dV 1)) (dC (.int 1))) (dC (.int 1))))
noncomputable def F_has_one : List Dat → Rs := runD 2 2 g_has_one
noncomputable def g_can : Ev → Fl := (bCons (sSet 3 (dCal F_bits (aCons (dCal F_takes_of (aCons (dV 0) (aCons (dV 2) aNil))) aNil)))
      (sRet (dO eqF (dO andD (dO ixD (dV 1) (dC (.int 0))) (dV 3)) (dV 3))))
noncomputable def F_can : List Dat → Rs := runD 4 3 g_can
noncomputable def g_behind : Ev → Fl := (bCons (sSet 3 (dCal F_wire_of (aCons (dV 0) (aCons (dV 2) aNil))))
      (bCons (sIf (dB (dO eqF (dCal F_has_one (aCons (dO ixD (dV 1) (dC (.int 1))) (aCons (dV 3) aNil))) (dCal F_is_rise (aCons (dV 0) (aCons (dV 2) aNil))))) (sRaise "Broken" (gW "way") (aCons (dL (aLst (aCons (dV 2) aNil))) aNil)) bNil)
      (bCons (sSet 4 (dO andD (dO ixD (dV 1) (dC (.int 0))) (dU invD (dCal F_bits (aCons (dCal F_takes_of (aCons (dV 0) (aCons (dV 2) aNil))) aNil)))))
      (bCons (sSet 5 (dCal F_bits (aCons (dCal F_fills_of (aCons (dV 0) (aCons (dV 2) aNil))) aNil)))
      (bCons (sIf (dB (dO neF (dO andD (dV 4) (dV 5)) (dC (.int 0)))) (sRaise "Crowded" (gW "way") (aCons (dL (aLst (aCons (dV 2) aNil))) aNil)) bNil)
      (sRet (aTup (aCons (dO orD (dV 4) (dV 5)) (aCons (dO xorD (dO ixD (dV 1) (dC (.int 1))) (dO shlD (dC (.int 1)) (dV 3))) aNil)))))))))
noncomputable def F_behind : List Dat → Rs := runD 6 3 g_behind
noncomputable def g__law_mix : Ev → Fl := (bCons (sSet 2 (dO addD (dO mulE (dC (.int 7919)) (dV 1)) (dC (.int 12345))))
      (bCons (sIf (dB (dO ltD (dV 1) (dF lenD (aCons (dV 0) aNil)))) (sSet 2 (dO addD (dV 2) (dO mulE (dO ixD (dV 0) (dV 1)) (dC (.int 6364136223846793005))))) bNil)
      (sRet (dO modD (dO mulE (dV 2) (dC (.int 48271))) (dC (.int 1000000000039))))))
noncomputable def F__law_mix : List Dat → Rs := runD 3 2 g__law_mix
noncomputable def g__law_word : Ev → Fl := (bCons (sSet 2 (dC (.str "abcdefghijklmnopqrstuvwxyz")))
      (bCons (sSet 3 (dO addD (dC (.int 2)) (dO modD (dV 0) (dC (.int 7)))))
      (bCons (sSet 4 (dO modD (dO fdivD (dV 0) (dC (.int 7))) (dV 3)))
      (bCons (sSet 5 (dC (.str "")))
      (bCons (sFor (srcR1 (aCons (dV 3) aNil)) (gset 6) (bCons (sSet 7 (dC (.int 0)))
      (bCons (sIf (dB (dO eqF (dV 6) (dV 4))) (sSet 7 (dV 1)) bNil)
      (sSet 5 (dO addD (dV 5) (dO ixD (dV 2) (dO modD (dO addD (dO addD (dO fdivD (dV 0) (dC (.int 49))) (dO mulE (dC (.int 5)) (dV 6))) (dO mulE (dC (.int 7)) (dV 7))) (dC (.int 26)))))))))
      (bCons (sIf (dB (dO inF (dV 5) (dL (aLst (aCons (dC (.str "given")) (aCons (dC (.str "made")) (aCons (dC (.str "up")) (aCons (dC (.str "down")) (aCons (dC (.str "start")) aNil))))))))) (sSet 5 (dO addD (dS slD (dV 5) (oSome (dC (.int 1))) oNone) (dC (.str "q")))) bNil)
      (sRet (dV 5))))))))
noncomputable def F__law_word : List Dat → Rs := runD 8 2 g__law_word
noncomputable def g__law_sort : Ev → Fl := (bCons (sSet 1 (dL (aLst (aCons (dIX (sbOf ["Broken", "Crowded"] "Broken") (dV 0)) (aCons (dIX (sbOf ["Broken", "Crowded"] "Crowded") (dV 0)) (aCons (dIX (sbOf ["Broken", "Crowded"] "TooMany") (dV 0)) (aCons (dIX (sbOf ["Broken", "Crowded"] "CalledOff") (dV 0)) aNil)))))))
      (bCons (sSet 1 (dO addD (dV 1) (dL (aLst (aCons (dIX (sbOf ["Broken", "Crowded"] "Clash") (dV 0)) (aCons (dIX (sbOf ["Broken", "Crowded"] "NoMove") (dV 0)) (aCons (dIX (sbOf ["Broken", "Crowded"] "NoPlace") (dV 0)) (aCons (dIX (sbOf ["Broken", "Crowded"] "NoText") (dV 0)) aNil))))))))
      (bCons (sIf (tOrD (dB (dO neF (dM "list" countD (dV 1) (aCons (dC (.bl true)) aNil)) (dC (.int 1)))) (tNotD (dT (dIX (sbAll ["Broken", "Crowded"]) (dV 0))))) (sRet (dC (.str "other"))) bNil)
      (sRet (dO ixD (dL (aLst (aCons (dC (.str "broken")) (aCons (dC (.str "crowded")) (aCons (dC (.str "many")) (aCons (dC (.str "off")) (aCons (dC (.str "clash")) (aCons (dC (.str "move")) (aCons (dC (.str "place")) (aCons (dC (.str "text")) aNil)))))))))) (dM "list" indexD (dV 1) (aCons (dC (.bl true)) aNil)))))))
noncomputable def F__law_sort : List Dat → Rs := runD 2 1 g__law_sort
noncomputable def g__law_spots : Ev → Fl := (bCons (sOwn 2 (aLst aNil))
      (bCons (sFor (srcR1 (aCons (dO addD (dC (.int 1)) (dO modD (dV 0) (dC (.int 4)))) aNil)) (gset 3) (bCons (sSet 4 (dO modD (dO fdivD (dV 0) (dO addD (dC (.int 4)) (dO mulE (dC (.int 61)) (dV 3)))) (dV 1)))
      (sIf (dB (dO ninF (dV 4) (dP 2))) (sMeth 2 appendF (aCons (dV 4) aNil)) bNil)))
      (sRet (dF tupleD (aCons (dL (dF sortedN (aCons (dP 2) aNil))) aNil)))))
noncomputable def F__law_spots : List Dat → Rs := runD 5 2 g__law_spots
noncomputable def g__law_any : Ev → Fl := (bCons (sSet 3 (dCal F__law_mix (aCons (dV 0) (aCons (dV 1) aNil))))
      (bCons (sSet 4 (dO addD (dC (.int 1)) (dO modD (dV 3) (dC (.int 10)))))
      (bCons (sSet 5 (dL (dComp (srcR1 (aCons (dV 4) aNil)) [none, some 3, some 0, some 1] (gset 0) tTrue (aTup (aCons (dCal F__law_word (aCons (dO fdivD (dV 1) (dC (.int 240))) (aCons (dV 0) aNil))) (aCons (dO ixD (dL (aLst (aCons (dC (.str "given")) (aCons (dC (.str "made")) aNil)))) (dO modD (dCal F__law_mix (aCons (dV 2) (aCons (dO addD (dO addD (dV 3) (dC (.int 1))) (dV 0)) aNil))) (dC (.int 2)))) aNil))))))
      (bCons (sOwn 6 (aLst aNil))
      (bCons (sFor (srcR1 (aCons (dO addD (dC (.int 1)) (dO modD (dO fdivD (dV 3) (dC (.int 10))) (dC (.int 24)))) aNil)) (gset 7) (bCons (sSet 8 (dCal F__law_mix (aCons (dV 0) (aCons (dO addD (dO addD (dV 1) (dC (.int 1))) (dV 7)) aNil))))
      (bCons (sSet 9 (dCal F__law_spots (aCons (dO fdivD (dV 8) (dC (.int 40))) (aCons (dV 2) aNil))))
      (sMeth 6 appendF (aCons (aTup (aCons (dO modD (dO fdivD (dV 8) (dC (.int 4))) (dV 4)) (aCons (dO eqF (dO modD (dO fdivD (dV 8) (dC (.int 2))) (dC (.int 2))) (dC (.int 0))) (aCons (dV 9) (aCons (dCal F__law_spots (aCons (dO modD (dO mulE (dV 8) (dC (.int 48271))) (dC (.int 2147483647))) (aCons (dV 2) aNil))) aNil))))) aNil)))))
      (sRet (aTup (aCons (dF tupleD (aCons (dV 5) aNil)) (aCons (dF tupleD (aCons (dP 6) aNil)) (aCons (dC (.int 0)) (aCons (dC (.int 0)) aNil)))))))))))
noncomputable def F__law_any : List Dat → Rs := runD 10 3 g__law_any
noncomputable def g__law_can : Ev → Fl := (sRet (dF allD (aCons (dL (dComp (srcL (dO ixD (dV 0) (dC (.int 2)))) [none, some 1] (gset 0) tTrue (dO eqF (dO andD (dO shrD (dV 1) (dV 0)) (dC (.int 1))) (dC (.int 1))))) aNil)))
noncomputable def F__law_can : List Dat → Rs := runD 2 2 g__law_can
noncomputable def g__law_done : Ev → Fl := (bCons (sAsg (dV 1) (gtup 2 (gsCons (gset 2) (gsCons (gset 3) gsNil))))
      (bCons (sIf (dB (dO eqF (dO eqF (dO andD (dO shrD (dV 3) (dO ixD (dV 0) (dC (.int 0)))) (dC (.int 1))) (dC (.int 1))) (dO ixD (dV 0) (dC (.int 1))))) (sRet (dC (.str "broken"))) bNil)
      (bCons (sFor (srcL (dO ixD (dV 0) (dC (.int 2)))) (gset 4) (sSet 2 (dO subD (dV 2) (dO shlD (dC (.int 1)) (dV 4)))))
      (bCons (sIf (dT (dF anyD (aCons (dL (dComp (srcL (dO ixD (dV 0) (dC (.int 3)))) [none, some 2] (gset 0) tTrue (dO eqF (dO andD (dO shrD (dV 1) (dV 0)) (dC (.int 1))) (dC (.int 1))))) aNil))) (sRet (dC (.str "crowded"))) bNil)
      (bCons (sFor (srcL (dO ixD (dV 0) (dC (.int 3)))) (gset 4) (sSet 2 (dO addD (dV 2) (dO shlD (dC (.int 1)) (dV 4)))))
      (bCons (sIf (dT (dO ixD (dV 0) (dC (.int 1)))) (sRet (aTup (aCons (dV 2) (aCons (dO addD (dV 3) (dO shlD (dC (.int 1)) (dO ixD (dV 0) (dC (.int 0))))) aNil)))) bNil)
      (sRet (aTup (aCons (dV 2) (aCons (dO subD (dV 3) (dO shlD (dC (.int 1)) (dO ixD (dV 0) (dC (.int 0))))) aNil))))))))))
noncomputable def F__law_done : List Dat → Rs := runD 5 2 g__law_done
noncomputable def g__law_asked : Ev → Fl := (bCons (sSet 3 (dC .non))
      (bCons (sSet 4 (dC .non))
      (bCons (sTry (subAll ["Broken", "Crowded"]) 5 (sSetX 3 F_behind (aCons (dV 0) (aCons (dV 1) (aCons (dV 2) aNil)))) (sSet 4 (dV 5)))
      (bCons (sIf (dB (dO isF (dV 4) (dC .non))) (sRet (dV 3)) bNil)
      (bCons (sSet 6 (dCal F__law_sort (aCons (dV 4) aNil)))
      (bCons (sIf (tAndD (dB (dO inF (dV 6) (aTup (aCons (dC (.str "broken")) (aCons (dC (.str "crowded")) aNil))))) (dB (dO eqF (dFldX (subAll ["Broken", "Crowded"]) "way" (dV 4)) (dL (aLst (aCons (dV 2) aNil)))))) (sRet (dV 6)) bNil)
      (sRet (dC (.str "other")))))))))
noncomputable def F__law_asked : List Dat → Rs := runD 7 3 g__law_asked
noncomputable def g__law_plain : Ev → Fl := (bCons (sIf (tOrD (tNotD (dT (dI "tuple" (dV 0)))) (dB (dO neF (dF lenD (aCons (dV 0) aNil)) (dC (.int 2))))) (sRet (dC (.bl false))) bNil)
      (sRet (dF allD (aCons (dL (dComp (srcL (dV 0)) [none] (gset 0) tTrue (dAnd (dI "int" (dV 0)) (dNot (dI "bool" (dV 0)))))) aNil))))
noncomputable def F__law_plain : List Dat → Rs := runD 1 1 g__law_plain
noncomputable def g_law : Ev → Fl := (bCons (sSet 1 (dCal F__law_mix (aCons (dV 0) (aCons (dC (.int 0)) aNil))))
      (bCons (sSet 2 (dO ixD (dL (aLst (aCons (dC (.int 64)) (aCons (dO addD (dC (.int 3)) (dO modD (dO fdivD (dV 1) (dC (.int 2))) (dC (.int 6)))) aNil)))) (dO modD (dV 1) (dC (.int 2)))))
      (bCons (sSet 3 (dCal F__law_any (aCons (dV 0) (aCons (dC (.int 4)) (aCons (dV 2) aNil)))))
      (bCons (sSet 4 (dO mulE (dCal F__law_mix (aCons (dV 0) (aCons (dC (.int 1)) aNil))) (dCal F__law_mix (aCons (dV 0) (aCons (dC (.int 2)) aNil)))))
      (bCons (sFor (srcE (dO ixD (dV 3) (dC (.int 1)))) (gtup 2 (gsCons (gset 5) (gsCons (gset 6) gsNil))) (bCons (sSet 7 (dO modD (dO andD (dO shrD (dV 4) (dV 5)) (dO addD (dO mulE (dCal F__law_mix (aCons (dV 0) (aCons (dC (.int 3)) aNil))) (dC (.int 1000000000039))) (dV 4))) (dO shlD (dC (.int 1)) (dV 2))))
      (bCons (sIf (dB (dO gtD (dO modD (dO addD (dO fdivD (dV 1) (dC (.int 16))) (dV 5)) (dC (.int 3))) (dC (.int 0)))) (sFor (srcL (dO ixD (dV 6) (dC (.int 2)))) (gset 8) (sSet 7 (dO orD (dV 7) (dO shlD (dC (.int 1)) (dV 8))))) bNil)
      (bCons (sSet 9 (aTup (aCons (dV 7) (aCons (dO modD (dO shrD (dV 4) (dO mulE (dC (.int 3)) (dV 5))) (dO shlD (dC (.int 1)) (dF lenD (aCons (dO ixD (dV 3) (dC (.int 0))) aNil)))) aNil))))
      (bCons (sSet 10 (dCal F_can (aCons (dV 3) (aCons (dV 9) (aCons (dV 5) aNil)))))
      (bCons (sIf (tOrD (tNotD (dT (dI "bool" (dV 10)))) (dB (dO neF (dV 10) (dCal F__law_can (aCons (dV 6) (aCons (dV 7) aNil)))))) (sRet (dC (.bl false))) bNil)
      (sIf (dT (dV 10)) (bCons (sSet 11 (dCal F__law_done (aCons (dV 6) (aCons (dV 9) aNil))))
      (bCons (sSet 12 (dCal F__law_asked (aCons (dV 3) (aCons (dV 9) (aCons (dV 5) aNil)))))
      (sIf (tOrD (dB (dO neF (dV 12) (dV 11))) (tOrD (tAndD (tNotD (dT (dI "str" (dV 11)))) (tNotD (dT (dCal F__law_plain (aCons (dV 12) aNil))))) (dB (dO neF (dCal F__law_asked (aCons (dV 3) (aCons (dV 9) (aCons (dV 5) aNil)))) (dV 11))))) (sRet (dC (.bl false))) bNil))) bNil)))))))
      (sRet (dC (.bl true))))))))
noncomputable def F_law : List Dat → Rs := runD 13 1 g_law
end K21
set_option Elab.async false
set_option linter.all false
set_option maxRecDepth 100000
set_option maxHeartbeats 4000000
namespace K21
open PySem PySem.Spec PyProof.Rows L2
def top (i : Nat) : Stmt := PySem.Challenge.pw_calmwires_k21_one_step.main.body.getD i (.Pass ⟨0, 0, 0, 0⟩)
abbrev s_wire_of : Stmt := top 11
theorem sc_wire_of : FnScope ["graph", "step"] ["graph", "step"] (defScope s_wire_of) := ⟨rfl, rfl, rfl, by decide +kernel, rfl, by decide +kernel, by decide +kernel⟩
abbrev s_is_rise : Stmt := top 12
theorem sc_is_rise : FnScope ["graph", "step"] ["graph", "step"] (defScope s_is_rise) := ⟨rfl, rfl, rfl, by decide +kernel, rfl, by decide +kernel, by decide +kernel⟩
abbrev s_takes_of : Stmt := top 13
theorem sc_takes_of : FnScope ["graph", "step"] ["graph", "step"] (defScope s_takes_of) := ⟨rfl, rfl, rfl, by decide +kernel, rfl, by decide +kernel, by decide +kernel⟩
abbrev s_fills_of : Stmt := top 14
theorem sc_fills_of : FnScope ["graph", "step"] ["graph", "step"] (defScope s_fills_of) := ⟨rfl, rfl, rfl, by decide +kernel, rfl, by decide +kernel, by decide +kernel⟩
abbrev s_bits : Stmt := top 15
theorem sc_bits : FnScope ["some", "number", "place"] ["some"] (defScope s_bits) := ⟨rfl, rfl, rfl, by decide +kernel, rfl, by decide +kernel, by decide +kernel⟩
abbrev s_has_one : Stmt := top 16
theorem sc_has_one : FnScope ["number", "place"] ["number", "place"] (defScope s_has_one) := ⟨rfl, rfl, rfl, by decide +kernel, rfl, by decide +kernel, by decide +kernel⟩
abbrev s_can : Stmt := top 18
theorem sc_can : FnScope ["graph", "stand", "step", "takes"] ["graph", "stand", "step"] (defScope s_can) := ⟨rfl, rfl, rfl, by decide +kernel, rfl, by decide +kernel, by decide +kernel⟩
abbrev s_behind : Stmt := top 19
theorem sc_behind : FnScope ["graph", "stand", "step", "wire", "left", "fills"] ["graph", "stand", "step"] (defScope s_behind) := ⟨rfl, rfl, rfl, by decide +kernel, rfl, by decide +kernel, by decide +kernel⟩
abbrev s__law_mix : Stmt := top 21
theorem sc__law_mix : FnScope ["_law_script", "_law_k", "_law_number"] ["_law_script", "_law_k"] (defScope s__law_mix) := ⟨rfl, rfl, rfl, by decide +kernel, rfl, by decide +kernel, by decide +kernel⟩
abbrev s__law_word : Stmt := top 22
theorem sc__law_word : FnScope ["_law_cell", "_law_k", "_law_letters", "_law_size", "_law_at", "_law_word_here", "_law_j", "_law_shift"] ["_law_cell", "_law_k"] (defScope s__law_word) := ⟨rfl, rfl, rfl, by decide +kernel, rfl, by decide +kernel, by decide +kernel⟩
abbrev s__law_sort : Stmt := top 23
theorem sc__law_sort : FnScope ["_law_e", "_law_sorts"] ["_law_e"] (defScope s__law_sort) := ⟨rfl, rfl, rfl, by decide +kernel, rfl, by decide +kernel, by decide +kernel⟩
abbrev s__law_spots : Stmt := top 24
theorem sc__law_spots : FnScope ["_law_cell", "_law_size", "_law_some", "_law_k", "_law_spot"] ["_law_cell", "_law_size"] (defScope s__law_spots) := ⟨rfl, rfl, rfl, by decide +kernel, rfl, by decide +kernel, by decide +kernel⟩
abbrev s__law_any : Stmt := top 25
theorem sc__law_any : FnScope ["_law_script", "_law_first", "_law_size", "_law_cell", "_law_n", "_law_wires", "_law_steps", "_law_k", "_law_more", "_law_takes"] ["_law_script", "_law_first", "_law_size"] (defScope s__law_any) := ⟨rfl, rfl, rfl, by decide +kernel, rfl, by decide +kernel, by decide +kernel⟩
abbrev s__law_can : Stmt := top 26
theorem sc__law_can : FnScope ["_law_step", "_law_marks"] ["_law_step", "_law_marks"] (defScope s__law_can) := ⟨rfl, rfl, rfl, by decide +kernel, rfl, by decide +kernel, by decide +kernel⟩
abbrev s__law_done : Stmt := top 27
theorem sc__law_done : FnScope ["_law_step", "_law_stand", "_law_marks", "_law_code", "_law_spot"] ["_law_step", "_law_stand"] (defScope s__law_done) := ⟨rfl, rfl, rfl, by decide +kernel, rfl, by decide +kernel, by decide +kernel⟩
abbrev s__law_asked : Stmt := top 28
theorem sc__law_asked : FnScope ["_law_graph", "_law_stand", "_law_step", "_law_got", "_law_caught", "_law_e", "_law_sort_here"] ["_law_graph", "_law_stand", "_law_step"] (defScope s__law_asked) := ⟨rfl, rfl, rfl, by decide +kernel, rfl, by decide +kernel, by decide +kernel⟩
abbrev s__law_plain : Stmt := top 29
theorem sc__law_plain : FnScope ["_law_got"] ["_law_got"] (defScope s__law_plain) := ⟨rfl, rfl, rfl, by decide +kernel, rfl, by decide +kernel, by decide +kernel⟩
abbrev s_law : Stmt := top 30
theorem sc_law : FnScope ["_law_script", "_law_cell", "_law_size", "_law_graph", "_law_some", "_law_k", "_law_step", "_law_marks", "_law_spot", "_law_stand", "_law_got", "_law_due", "_law_new"] ["_law_script"] (defScope s_law) := ⟨rfl, rfl, rfl, by decide +kernel, rfl, by decide +kernel, by decide +kernel⟩
structure Txt (K : PySem.W.Frag) (mg : Str → Option Value) : Prop where
  b_ValueError : mg "ValueError" = none
  b_all : mg "all" = none
  b_any : mg "any" = none
  b_bool : mg "bool" = none
  b_enumerate : mg "enumerate" = none
  b_int : mg "int" = none
  b_isinstance : mg "isinstance" = none
  b_len : mg "len" = none
  b_range : mg "range" = none
  b_sorted : mg "sorted" = none
  b_str : mg "str" = none
  b_tuple : mg "tuple" = none
  i_Broken : IsC K mg "Broken" (sbOf ["Broken", "Crowded"] "Broken")
  i_CalledOff : IsC K mg "CalledOff" (sbOf ["Broken", "Crowded"] "CalledOff")
  i_Clash : IsC K mg "Clash" (sbOf ["Broken", "Crowded"] "Clash")
  i_Crowded : IsC K mg "Crowded" (sbOf ["Broken", "Crowded"] "Crowded")
  i_NoMove : IsC K mg "NoMove" (sbOf ["Broken", "Crowded"] "NoMove")
  i_NoPlace : IsC K mg "NoPlace" (sbOf ["Broken", "Crowded"] "NoPlace")
  i_NoText : IsC K mg "NoText" (sbOf ["Broken", "Crowded"] "NoText")
  i_TooMany : IsC K mg "TooMany" (sbOf ["Broken", "Crowded"] "TooMany")
  j_ValueError : IsT K mg "ValueError" "ValueError" (sbAll ["Broken", "Crowded"])
  k_CalmError : CatC K mg "CalmError" (subAll ["Broken", "Crowded"])
  f_way : FldC K (subAll ["Broken", "Crowded"]) "way"
section
variable {P : Program} {w : World} {K : PySem.W.Frag} {mg : Str → Option Value} {base : Heap}
end
end K21
set_option Elab.async false
set_option linter.all false
set_option maxRecDepth 100000
set_option maxHeartbeats 4000000
namespace K21
open PySem PySem.Spec PyProof.Rows L2
section
variable {P : Program} {w : World} {K : PySem.W.Frag} {mg : Str → Option Value} {base : Heap}
theorem c_wire_of (Df : Def K mg "wire_of" s_wire_of) (T : Txt K mg)   : CalD P w K mg base 1 "wire_of" ["graph", "step"] false F_wire_of :=
  cal_d (N := ["graph", "step"]) (ps := ["graph", "step"]) (st := s_wire_of) (k := 0) (g := g_wire_of) Df sc_wire_of (fun _ _ _ _ _ _ us hl => match us, hl with | [_, _], _ => rfl) (fun f cdv A outer s H E hr => (by
      unfold g_wire_of
      exact (b_one (s_ret (xix (m := false) o_ix (xix (m := true) o_ix (xix (m := true) o_ix (xv (m := true) 0) (xint (m := true)) (fun _ _ => rfl)) (xv (m := true) 1) (fun _ _ => rfl)) (xint (m := true)) (fun _ _ => rfl))))))
end
end K21
set_option Elab.async false
set_option linter.all false
set_option maxRecDepth 100000
set_option maxHeartbeats 4000000
namespace K21
open PySem PySem.Spec PyProof.Rows L2
section
variable {P : Program} {w : World} {K : PySem.W.Frag} {mg : Str → Option Value} {base : Heap}
theorem c_is_rise (Df : Def K mg "is_rise" s_is_rise) (T : Txt K mg)   : CalD P w K mg base 1 "is_rise" ["graph", "step"] false F_is_rise :=
  cal_d (N := ["graph", "step"]) (ps := ["graph", "step"]) (st := s_is_rise) (k := 0) (g := g_is_rise) Df sc_is_rise (fun _ _ _ _ _ _ us hl => match us, hl with | [_, _], _ => rfl) (fun f cdv A outer s H E hr => (by
      unfold g_is_rise
      exact (b_one (s_ret (xix (m := false) o_ix (xix (m := true) o_ix (xix (m := true) o_ix (xv (m := true) 0) (xint (m := true)) (fun _ _ => rfl)) (xv (m := true) 1) (fun _ _ => rfl)) (xint (m := true)) (fun _ _ => rfl))))))
end
end K21
set_option Elab.async false
set_option linter.all false
set_option maxRecDepth 100000
set_option maxHeartbeats 4000000
namespace K21
open PySem PySem.Spec PyProof.Rows L2
section
variable {P : Program} {w : World} {K : PySem.W.Frag} {mg : Str → Option Value} {base : Heap}
theorem c_takes_of (Df : Def K mg "takes_of" s_takes_of) (T : Txt K mg)   : CalD P w K mg base 1 "takes_of" ["graph", "step"] false F_takes_of :=
  cal_d (N := ["graph", "step"]) (ps := ["graph", "step"]) (st := s_takes_of) (k := 0) (g := g_takes_of) Df sc_takes_of (fun _ _ _ _ _ _ us hl => match us, hl with | [_, _], _ => rfl) (fun f cdv A outer s H E hr => (by
      unfold g_takes_of
      exact (b_one (s_ret (xix (m := false) o_ix (xix (m := true) o_ix (xix (m := true) o_ix (xv (m := true) 0) (xint (m := true)) (fun _ _ => rfl)) (xv (m := true) 1) (fun _ _ => rfl)) (xint (m := true)) (fun _ _ => rfl))))))
end
end K21
set_option Elab.async false
set_option linter.all false
set_option maxRecDepth 100000
set_option maxHeartbeats 4000000
namespace K21
open PySem PySem.Spec PyProof.Rows L2
section
variable {P : Program} {w : World} {K : PySem.W.Frag} {mg : Str → Option Value} {base : Heap}
theorem c_fills_of (Df : Def K mg "fills_of" s_fills_of) (T : Txt K mg)   : CalD P w K mg base 1 "fills_of" ["graph", "step"] false F_fills_of :=
  cal_d (N := ["graph", "step"]) (ps := ["graph", "step"]) (st := s_fills_of) (k := 0) (g := g_fills_of) Df sc_fills_of (fun _ _ _ _ _ _ us hl => match us, hl with | [_, _], _ => rfl) (fun f cdv A outer s H E hr => (by
      unfold g_fills_of
      exact (b_one (s_ret (xix (m := false) o_ix (xix (m := true) o_ix (xix (m := true) o_ix (xv (m := true) 0) (xint (m := true)) (fun _ _ => rfl)) (xv (m := true) 1) (fun _ _ => rfl)) (xint (m := true)) (fun _ _ => rfl))))))
end
end K21
set_option Elab.async false
set_option linter.all false
set_option maxRecDepth 100000
set_option maxHeartbeats 4000000
namespace K21
open PySem PySem.Spec PyProof.Rows L2
section
variable {P : Program} {w : World} {K : PySem.W.Frag} {mg : Str → Option Value} {base : Heap}
theorem c_bits (Df : Def K mg "bits" s_bits) (T : Txt K mg)   : CalD P w K mg base 1 "bits" ["some"] false F_bits :=
  cal_d (N := ["some", "number", "place"]) (ps := ["some"]) (st := s_bits) (k := 0) (g := g_bits) Df sc_bits (fun _ _ _ _ _ _ us hl => match us, hl with | [_], _ => rfl) (fun f cdv A outer s H E hr => (by
      unfold g_bits
      exact (b_cons (s_set 1 sc_bits.nd rfl (Or.inl rfl) (xint (m := false)))
      (b_cons (s_for PassesOwn.never rfl (i_seq (xv (m := false) 0)) (g_name 2 sc_bits.nd rfl (Or.inl rfl)) (b_one (s_set 1 sc_bits.nd rfl (Or.inl rfl) (xop (m := false) o_or (xv (m := true) 1) (xop (m := true) o_shl (xint (m := true)) (xv (m := true) 2))))))
      (b_one (s_ret (xv (m := false) 1)))))))
end
end K21
set_option Elab.async false
set_option linter.all false
set_option maxRecDepth 100000
set_option maxHeartbeats 4000000
namespace K21
open PySem PySem.Spec PyProof.Rows L2
section
variable {P : Program} {w : World} {K : PySem.W.Frag} {mg : Str → Option Value} {base : Heap}
theorem c_has_one (Df : Def K mg "has_one" s_has_one) (T : Txt K mg)   : CalD P w K mg base 1 "has_one" ["number", "place"] false F_has_one :=
  cal_d (N := ["number", "place"]) (ps := ["number", "place"]) (st := s_has_one) (k := 0) (g := g_has_one) Df sc_has_one (fun _ _ _ _ _ _ us hl => match us, hl with | [_, _], _ => rfl) (fun f cdv A outer s H E hr => (by
      unfold g_has_one
      exact (b_one (s_ret (xcmp (m := false) (o_eq hr.units) (xop (m := true) o_and (xop (m := true) o_shr (xv (m := true) 0) (xv (m := true) 1)) (xint (m := true))) (xint (m := true)) (nomark _))))))
end
end K21
set_option Elab.async false
set_option linter.all false
set_option maxRecDepth 100000
set_option maxHeartbeats 4000000
namespace K21
open PySem PySem.Spec PyProof.Rows L2
section
variable {P : Program} {w : World} {K : PySem.W.Frag} {mg : Str → Option Value} {base : Heap}
theorem c_can (Df : Def K mg "can" s_can) (T : Txt K mg)  (C_bits : CalD P w K mg base 1 "bits" ["some"] false F_bits) (C_takes_of : CalD P w K mg base 1 "takes_of" ["graph", "step"] false F_takes_of) : CalD P w K mg base 2 "can" ["graph", "stand", "step"] false F_can :=
  cal_d (N := ["graph", "stand", "step", "takes"]) (ps := ["graph", "stand", "step"]) (st := s_can) (k := 1) (g := g_can) Df sc_can (fun _ _ _ _ _ _ us hl => match us, hl with | [_, _, _], _ => rfl) (fun f cdv A outer s H E hr => (by
      unfold g_can
      exact (b_cons (s_set 3 sc_can.nd rfl (Or.inl rfl) (xcal (m := false) C_bits (hr.mono (by omega)) (a_cons (xcal (m := false) C_takes_of (hr.mono (by omega)) (a_cons (xv (m := false) 0) (a_cons (xv (m := false) 2) a_nil))) a_nil)))
      (b_one (s_ret (xcmp (m := false) (o_eq hr.units) (xop (m := true) o_and (xix (m := true) o_ix (xv (m := true) 1) (xint (m := true)) (fun _ _ => rfl)) (xv (m := true) 3)) (xv (m := true) 3) (nomark _)))))))
end
end K21
set_option Elab.async false
set_option linter.all false
set_option maxRecDepth 100000
set_option maxHeartbeats 4000000
namespace K21
open PySem PySem.Spec PyProof.Rows L2
section
variable {P : Program} {w : World} {K : PySem.W.Frag} {mg : Str → Option Value} {base : Heap}
theorem c_behind (Df : Def K mg "behind" s_behind) (T : Txt K mg) (M_Broken : XMake P w K mg base 1 "Broken" 1 (gW "way")) (M_Crowded : XMake P w K mg base 1 "Crowded" 1 (gW "way")) (C_wire_of : CalD P w K mg base 1 "wire_of" ["graph", "step"] false F_wire_of) (C_bits : CalD P w K mg base 1 "bits" ["some"] false F_bits) (C_has_one : CalD P w K mg base 1 "has_one" ["number", "place"] false F_has_one) (C_is_rise : CalD P w K mg base 1 "is_rise" ["graph", "step"] false F_is_rise) (C_fills_of : CalD P w K mg base 1 "fills_of" ["graph", "step"] false F_fills_of) (C_takes_of : CalD P w K mg base 1 "takes_of" ["graph", "step"] false F_takes_of) : CalX P w K mg base 3 "behind" ["graph", "stand", "step"] false F_behind :=
  cal_dX (N := ["graph", "stand", "step", "wire", "left", "fills"]) (ps := ["graph", "stand", "step"]) (st := s_behind) (k := 2) (g := g_behind) Df sc_behind (fun _ _ _ _ _ _ us hl => match us, hl with | [_, _, _], _ => rfl) (fun f cdv A outer s H E hr => (by
      unfold g_behind
      exact (b_cons (s_set 3 sc_behind.nd rfl (Or.inl rfl) (xcal (m := false) C_wire_of (hr.mono (by omega)) (a_cons (xv (m := false) 0) (a_cons (xv (m := false) 2) a_nil))))
      (b_cons (s_if (tcmp (o_eq hr.units) (xcal (m := true) C_has_one (hr.mono (by omega)) (a_cons (xix (m := false) o_ix (xv (m := true) 1) (xint (m := true)) (fun _ _ => rfl)) (a_cons (xv (m := false) 3) a_nil))) (xcal (m := true) C_is_rise (hr.mono (by omega)) (a_cons (xv (m := false) 0) (a_cons (xv (m := false) 2) a_nil))) (nomark _)) (b_one (s_raise M_Broken (hr.mono (by omega)) rfl (a_cons (PNd.x (m := false) (nlst (a_cons (xv (m := false) 2) a_nil))) a_nil))) b_nil)
      (b_cons (s_set 4 sc_behind.nd rfl (Or.inl rfl) (xop (m := false) o_and (xix (m := true) o_ix (xv (m := true) 1) (xint (m := true)) (fun _ _ => rfl)) (xun (m := true) u_inv (xcal (m := true) C_bits (hr.mono (by omega)) (a_cons (xcal (m := false) C_takes_of (hr.mono (by omega)) (a_cons (xv (m := false) 0) (a_cons (xv (m := false) 2) a_nil))) a_nil)))))
      (b_cons (s_set 5 sc_behind.nd rfl (Or.inl rfl) (xcal (m := false) C_bits (hr.mono (by omega)) (a_cons (xcal (m := false) C_fills_of (hr.mono (by omega)) (a_cons (xv (m := false) 0) (a_cons (xv (m := false) 2) a_nil))) a_nil)))
      (b_cons (s_if (tcmp (o_ne hr.units) (xop (m := true) o_and (xv (m := true) 4) (xv (m := true) 5)) (xint (m := true)) (nomark _)) (b_one (s_raise M_Crowded (hr.mono (by omega)) rfl (a_cons (PNd.x (m := false) (nlst (a_cons (xv (m := false) 2) a_nil))) a_nil))) b_nil)
      (b_one (s_ret (xtup (m := false) (a_cons (xop (m := false) o_or (xv (m := true) 4) (xv (m := true) 5)) (a_cons (xop (m := false) o_xor (xix (m := true) o_ix (xv (m := true) 1) (xint (m := true)) (fun _ _ => rfl)) (xop (m := true) o_shl (xint (m := true)) (xv (m := true) 3))) a_nil))))))))))))
end
end K21
set_option Elab.async false
set_option linter.all false
set_option maxRecDepth 100000
set_option maxHeartbeats 4000000
namespace K21
open PySem PySem.Spec PyProof.Rows L2
section
variable {P : Program} {w : World} {K : PySem.W.Frag} {mg : Str → Option Value} {base : Heap}
theorem c__law_mix (Df : Def K mg "_law_mix" s__law_mix) (T : Txt K mg)   : CalD P w K mg base 1 "_law_mix" ["_law_script", "_law_k"] false F__law_mix :=
  cal_d (N := ["_law_script", "_law_k", "_law_number"]) (ps := ["_law_script", "_law_k"]) (st := s__law_mix) (k := 0) (g := g__law_mix) Df sc__law_mix (fun _ _ _ _ _ _ us hl => match us, hl with | [_, _], _ => rfl) (fun f cdv A outer s H E hr => (by
      unfold g__law_mix
      exact (b_cons (s_set 2 sc__law_mix.nd rfl (Or.inl rfl) (xop (m := false) o_add (xop (m := true) o_mulE (xint (m := true)) (xv (m := true) 1)) (xint (m := true))))
      (b_cons (s_if (tcmp o_lt (xv (m := true) 1) (xcallB (m := true) c_len (by rfl) T.b_len (by decide +kernel) (a_cons (xv (m := true) 0) a_nil)) (nomark _)) (b_one (s_set 2 sc__law_mix.nd rfl (Or.inl rfl) (xop (m := false) o_add (xv (m := true) 2) (xop (m := true) o_mulE (xix (m := true) o_ix (xv (m := true) 0) (xv (m := true) 1) (fun _ _ => rfl)) (xint (m := true)))))) b_nil)
      (b_one (s_ret (xop (m := false) o_mod (xop (m := true) o_mulE (xv (m := true) 2) (xint (m := true))) (xint (m := true)))))))))
end
end K21
set_option Elab.async false
set_option linter.all false
set_option maxRecDepth 100000
set_option maxHeartbeats 4000000
namespace K21
open PySem PySem.Spec PyProof.Rows L2
section
variable {P : Program} {w : World} {K : PySem.W.Frag} {mg : Str → Option Value} {base : Heap}
theorem c__law_word (Df : Def K mg "_law_word" s__law_word) (T : Txt K mg)   : CalD P w K mg base 1 "_law_word" ["_law_cell", "_law_k"] false F__law_word :=
  cal_d (N := ["_law_cell", "_law_k", "_law_letters", "_law_size", "_law_at", "_law_word_here", "_law_j", "_law_shift"]) (ps := ["_law_cell", "_law_k"]) (st := s__law_word) (k := 0) (g := g__law_word) Df sc__law_word (fun _ _ _ _ _ _ us hl => match us, hl with | [_, _], _ => rfl) (fun f cdv A outer s H E hr => (by
      unfold g__law_word
      exact (b_cons (s_set 2 sc__law_word.nd rfl (Or.inl rfl) (xstr (m := false)))
      (b_cons (s_set 3 sc__law_word.nd rfl (Or.inl rfl) (xop (m := false) o_add (xint (m := true)) (xop (m := true) o_mod (xv (m := true) 0) (xint (m := true)))))
      (b_cons (s_set 4 sc__law_word.nd rfl (Or.inl rfl) (xop (m := false) o_mod (xop (m := true) o_fdiv (xv (m := true) 0) (xint (m := true))) (xv (m := true) 3)))
      (b_cons (s_set 5 sc__law_word.nd rfl (Or.inl rfl) (xstr (m := false)))
      (b_cons (s_for PassesOwn.never rfl (i_range1 (by rfl) T.b_range (a_cons (xv (m := true) 3) a_nil)) (g_name 6 sc__law_word.nd rfl (Or.inl rfl)) (b_cons (s_set 7 sc__law_word.nd rfl (Or.inl rfl) (xint (m := false)))
      (b_cons (s_if (tcmp (o_eq hr.units) (xv (m := true) 6) (xv (m := true) 4) (nomark _)) (b_one (s_set 7 sc__law_word.nd rfl (Or.inl rfl) (xv (m := false) 1))) b_nil)
      (b_one (s_set 5 sc__law_word.nd rfl (Or.inl rfl) (xop (m := false) o_add (xv (m := true) 5) (xix (m := true) o_ix (xv (m := true) 2) (xop (m := true) o_mod (xop (m := true) o_add (xop (m := true) o_add (xop (m := true) o_fdiv (xv (m := true) 0) (xint (m := true))) (xop (m := true) o_mulE (xint (m := true)) (xv (m := true) 6))) (xop (m := true) o_mulE (xint (m := true)) (xv (m := true) 7))) (xint (m := true))) (fun _ _ => rfl))))))))
      (b_cons (s_if (tcmp (o_in hr.units) (xv (m := true) 5) (PNd.x (m := true) (nlst (a_cons (xstr (m := false)) (a_cons (xstr (m := false)) (a_cons (xstr (m := false)) (a_cons (xstr (m := false)) (a_cons (xstr (m := false)) a_nil))))))) (by rfl)) (b_one (s_set 5 sc__law_word.nd rfl (Or.inl rfl) (xop (m := false) o_add (xslice (m := true) o_sl (xv (m := true) 5) (o_some (xint (m := true))) o_none) (xstr (m := true))))) b_nil)
      (b_one (s_ret (xv (m := false) 5)))))))))))
end
end K21
set_option Elab.async false
set_option linter.all false
set_option maxRecDepth 100000
set_option maxHeartbeats 4000000
namespace K21
open PySem PySem.Spec PyProof.Rows L2
section
variable {P : Program} {w : World} {K : PySem.W.Frag} {mg : Str → Option Value} {base : Heap}
theorem c__law_sort (Df : Def K mg "_law_sort" s__law_sort) (T : Txt K mg)   : CalD P w K mg base 1 "_law_sort" ["_law_e"] false F__law_sort :=
  cal_d (N := ["_law_e", "_law_sorts"]) (ps := ["_law_e"]) (st := s__law_sort) (k := 0) (g := g__law_sort) Df sc__law_sort (fun _ _ _ _ _ _ us hl => match us, hl with | [_], _ => rfl) (fun f cdv A outer s H E hr => (by
      unfold g__law_sort
      exact (b_cons (s_set 1 sc__law_sort.nd rfl (Or.inl rfl) (PNd.x (m := false) (nlst (a_cons (xisC (m := false) (tx := "Broken") (sb := sbOf ["Broken", "Crowded"] "Broken") (xv (m := true) 0) T.i_Broken T.b_isinstance) (a_cons (xisC (m := false) (tx := "Crowded") (sb := sbOf ["Broken", "Crowded"] "Crowded") (xv (m := true) 0) T.i_Crowded T.b_isinstance) (a_cons (xisC (m := false) (tx := "TooMany") (sb := sbOf ["Broken", "Crowded"] "TooMany") (xv (m := true) 0) T.i_TooMany T.b_isinstance) (a_cons (xisC (m := false) (tx := "CalledOff") (sb := sbOf ["Broken", "Crowded"] "CalledOff") (xv (m := true) 0) T.i_CalledOff T.b_isinstance) a_nil)))))))
      (b_cons (s_set 1 sc__law_sort.nd rfl (Or.inl rfl) (xop (m := false) o_add (xv (m := true) 1) (PNd.x (m := true) (nlst (a_cons (xisC (m := false) (tx := "Clash") (sb := sbOf ["Broken", "Crowded"] "Clash") (xv (m := true) 0) T.i_Clash T.b_isinstance) (a_cons (xisC (m := false) (tx := "NoMove") (sb := sbOf ["Broken", "Crowded"] "NoMove") (xv (m := true) 0) T.i_NoMove T.b_isinstance) (a_cons (xisC (m := false) (tx := "NoPlace") (sb := sbOf ["Broken", "Crowded"] "NoPlace") (xv (m := true) 0) T.i_NoPlace T.b_isinstance) (a_cons (xisC (m := false) (tx := "NoText") (sb := sbOf ["Broken", "Crowded"] "NoText") (xv (m := true) 0) T.i_NoText T.b_isinstance) a_nil))))))))
      (b_cons (s_if (PWd.pt (w_or (tcmp (o_ne hr.units) (xbm (m := true) PySem.F.plainAttrs_list PySem.F.slot_list_count PySem.F.type_list_count (m_count hr.units) (xv (m := true) 1) (a_cons (xbl (m := true)) a_nil)) (xint (m := true)) (nomark _)) (w_or1 (tnot (tval (xisV (m := true) (sb := sbAll ["Broken", "Crowded"]) (xv (m := true) 0) T.b_ValueError (by decide +kernel) (by decide +kernel) T.j_ValueError T.b_isinstance)))))) (b_one (s_ret (xstr (m := false)))) b_nil)
      (b_one (s_ret (xix (m := false) o_ix (PNd.x (m := true) (nlst (a_cons (xstr (m := false)) (a_cons (xstr (m := false)) (a_cons (xstr (m := false)) (a_cons (xstr (m := false)) (a_cons (xstr (m := false)) (a_cons (xstr (m := false)) (a_cons (xstr (m := false)) (a_cons (xstr (m := false)) a_nil)))))))))) (xbm (m := true) PySem.F.plainAttrs_list PySem.F.slot_list_index PySem.F.type_list_index (m_index hr.units) (xv (m := true) 1) (a_cons (xbl (m := true)) a_nil)) (fun _ _ => rfl)))))))))
end
end K21
set_option Elab.async false
set_option linter.all false
set_option maxRecDepth 100000
set_option maxHeartbeats 4000000
namespace K21
open PySem PySem.Spec PyProof.Rows L2
section
variable {P : Program} {w : World} {K : PySem.W.Frag} {mg : Str → Option Value} {base : Heap}
theorem c__law_spots (Df : Def K mg "_law_spots" s__law_spots) (T : Txt K mg)   : CalD P w K mg base 1 "_law_spots" ["_law_cell", "_law_size"] false F__law_spots :=
  cal_d (N := ["_law_cell", "_law_size", "_law_some", "_law_k", "_law_spot"]) (ps := ["_law_cell", "_law_size"]) (st := s__law_spots) (k := 0) (g := g__law_spots) Df sc__law_spots (fun _ _ _ _ _ _ us hl => match us, hl with | [_, _], _ => rfl) (fun f cdv A outer s H E hr => (by
      unfold g__law_spots
      exact (b_cons (s_own 2 sc__law_spots.nd rfl (Or.inl rfl) (nlst a_nil))
      (b_cons (s_for PassesOwn.never rfl (i_range1 (by rfl) T.b_range (a_cons (xop (m := true) o_add (xint (m := true)) (xop (m := true) o_mod (xv (m := true) 0) (xint (m := true)))) a_nil)) (g_name 3 sc__law_spots.nd rfl (Or.inl rfl)) (b_cons (s_set 4 sc__law_spots.nd rfl (Or.inl rfl) (xop (m := false) o_mod (xop (m := true) o_fdiv (xv (m := true) 0) (xop (m := true) o_add (xint (m := true)) (xop (m := true) o_mulE (xint (m := true)) (xv (m := true) 3)))) (xv (m := true) 1)))
      (b_one (s_if (tcmp (o_nin hr.units) (xv (m := true) 4) (xo 2) (by rfl)) (b_one (s_meth 2 PySem.F.slot_list_append PySem.F.type_list_append m_append (a_cons (xv (m := false) 4) a_nil))) b_nil))))
      (b_one (s_ret (xcallT (m := false) c_tuple (by rfl) T.b_tuple (by decide +kernel) (a_cons (PNd.x (m := true) (ncallB c_sorted (by rfl) T.b_sorted (by decide +kernel) (a_cons (xo 2) a_nil))) a_nil))))))))
end
end K21
set_option Elab.async false
set_option linter.all false
set_option maxRecDepth 100000
set_option maxHeartbeats 4000000
namespace K21
open PySem PySem.Spec PyProof.Rows L2
section
variable {P : Program} {w : World} {K : PySem.W.Frag} {mg : Str → Option Value} {base : Heap}
theorem c__law_any (Df : Def K mg "_law_any" s__law_any) (T : Txt K mg)  (C__law_mix : CalD P w K mg base 1 "_law_mix" ["_law_script", "_law_k"] false F__law_mix) (C__law_spots : CalD P w K mg base 1 "_law_spots" ["_law_cell", "_law_size"] false F__law_spots) (C__law_word : CalD P w K mg base 1 "_law_word" ["_law_cell", "_law_k"] false F__law_word) : CalD P w K mg base 2 "_law_any" ["_law_script", "_law_first", "_law_size"] false F__law_any :=
  cal_d (N := ["_law_script", "_law_first", "_law_size", "_law_cell", "_law_n", "_law_wires", "_law_steps", "_law_k", "_law_more", "_law_takes"]) (ps := ["_law_script", "_law_first", "_law_size"]) (st := s__law_any) (k := 1) (g := g__law_any) Df sc__law_any (fun _ _ _ _ _ _ us hl => match us, hl with | [_, _, _], _ => rfl) (fun f cdv A outer s H E hr => (by
      unfold g__law_any
      exact (b_cons (s_set 3 sc__law_any.nd rfl (Or.inr rfl) (xcal (m := false) C__law_mix (hr.mono (by omega)) (a_cons (xv (m := false) 0) (a_cons (xv (m := false) 1) a_nil))))
      (b_cons (s_set 4 sc__law_any.nd rfl (Or.inl rfl) (xop (m := false) o_add (xint (m := true)) (xop (m := true) o_mod (xv (m := true) 3) (xint (m := true)))))
      (b_cons (s_setC 5 sc__law_any.nd rfl (Or.inl rfl) (defScope s__law_any) [none, some 3, some 0, some 1] ["_law_w", "_law_cell", "_law_script", "_law_first"] rfl (show CompOk (defScope s__law_any) _ ["_law_script", "_law_first", "_law_size", "_law_cell", "_law_n", "_law_wires", "_law_steps", "_law_k", "_law_more", "_law_takes"] ["_law_w", "_law_cell", "_law_script", "_law_first"] [none, some 3, some 0, some 1] from CompOk.of (by decide +kernel)) rfl (i_range1 (by rfl) T.b_range (a_cons (xv (m := true) 4) a_nil)) (fun _ _ _ _ => ⟨(g_name 0 (show (["_law_w", "_law_cell", "_law_script", "_law_first"] : List Str).Nodup from by decide +kernel) rfl (Or.inl rfl)), f_nil, (xtup (m := false) (a_cons (xcal (m := false) C__law_word (hr.mono (by omega)) (a_cons (xop (m := false) o_fdiv (xv (m := true) 1) (xint (m := true))) (a_cons (xv (m := false) 0) a_nil))) (a_cons (xix (m := false) o_ix (PNd.x (m := true) (nlst (a_cons (xstr (m := false)) (a_cons (xstr (m := false)) a_nil)))) (xop (m := true) o_mod (xcal (m := true) C__law_mix (hr.mono (by omega)) (a_cons (xv (m := false) 2) (a_cons (xop (m := false) o_add (xop (m := true) o_add (xv (m := true) 3) (xint (m := true))) (xv (m := true) 0)) a_nil))) (xint (m := true))) (fun _ _ => rfl)) a_nil)))⟩) (by decide))
      (b_cons (s_own 6 sc__law_any.nd rfl (Or.inl rfl) (nlst a_nil))
      (b_cons (s_for PassesOwn.never rfl (i_range1 (by rfl) T.b_range (a_cons (xop (m := true) o_add (xint (m := true)) (xop (m := true) o_mod (xop (m := true) o_fdiv (xv (m := true) 3) (xint (m := true))) (xint (m := true)))) a_nil)) (g_name 7 sc__law_any.nd rfl (Or.inl rfl)) (b_cons (s_set 8 sc__law_any.nd rfl (Or.inl rfl) (xcal (m := false) C__law_mix (hr.mono (by omega)) (a_cons (xv (m := false) 0) (a_cons (xop (m := false) o_add (xop (m := true) o_add (xv (m := true) 1) (xint (m := true))) (xv (m := true) 7)) a_nil))))
      (b_cons (s_set 9 sc__law_any.nd rfl (Or.inl rfl) (xcal (m := false) C__law_spots (hr.mono (by omega)) (a_cons (xop (m := false) o_fdiv (xv (m := true) 8) (xint (m := true))) (a_cons (xv (m := false) 2) a_nil))))
      (b_one (s_meth 6 PySem.F.slot_list_append PySem.F.type_list_append m_append (a_cons (xtup (m := false) (a_cons (xop (m := false) o_mod (xop (m := true) o_fdiv (xv (m := true) 8) (xint (m := true))) (xv (m := true) 4)) (a_cons (xcmp (m := false) (o_eq hr.units) (xop (m := true) o_mod (xop (m := true) o_fdiv (xv (m := true) 8) (xint (m := true))) (xint (m := true))) (xint (m := true)) (nomark _)) (a_cons (xv (m := false) 9) (a_cons (xcal (m := false) C__law_spots (hr.mono (by omega)) (a_cons (xop (m := false) o_mod (xop (m := true) o_mulE (xv (m := true) 8) (xint (m := true))) (xint (m := true))) (a_cons (xv (m := false) 2) a_nil))) a_nil))))) a_nil))))))
      (b_one (s_ret (xtup (m := false) (a_cons (xcallT (m := false) c_tuple (by rfl) T.b_tuple (by decide +kernel) (a_cons (xv (m := true) 5) a_nil)) (a_cons (xcallT (m := false) c_tuple (by rfl) T.b_tuple (by decide +kernel) (a_cons (xo 6) a_nil)) (a_cons (xint (m := false)) (a_cons (xint (m := false)) a_nil))))))))))))))
end
end K21
set_option Elab.async false
set_option linter.all false
set_option maxRecDepth 100000
set_option maxHeartbeats 4000000
namespace K21
open PySem PySem.Spec PyProof.Rows L2
section
variable {P : Program} {w : World} {K : PySem.W.Frag} {mg : Str → Option Value} {base : Heap}
theorem c__law_can (Df : Def K mg "_law_can" s__law_can) (T : Txt K mg)   : CalD P w K mg base 1 "_law_can" ["_law_step", "_law_marks"] false F__law_can :=
  cal_d (N := ["_law_step", "_law_marks"]) (ps := ["_law_step", "_law_marks"]) (st := s__law_can) (k := 0) (g := g__law_can) Df sc__law_can (fun _ _ _ _ _ _ us hl => match us, hl with | [_, _], _ => rfl) (fun f cdv A outer s H E hr => (by
      unfold g__law_can
      refine (b_one (s_ret (xcallB (m := false) (c_all rfl) (by rfl) T.b_all (by decide +kernel) (a_cons (PNd.x (m := true) ?c0) a_nil))))
      case c0 => exact n_comp (defScope s__law_can) [none, some 1] ["_law_spot", "_law_marks"] rfl (show CompOk (defScope s__law_can) _ ["_law_step", "_law_marks"] ["_law_spot", "_law_marks"] [none, some 1] from CompOk.of (by decide +kernel)) rfl (i_seqP (xix (m := true) o_ix (xv (m := true) 0) (xint (m := true)) (fun _ _ => rfl))) (fun _ _ _ _ => ⟨(g_name 0 (show (["_law_spot", "_law_marks"] : List Str).Nodup from by decide +kernel) rfl (Or.inl rfl)), f_nil, (xcmp (m := false) (o_eq hr.units) (xop (m := true) o_and (xop (m := true) o_shr (xv (m := true) 1) (xv (m := true) 0)) (xint (m := true))) (xint (m := true)) (nomark _))⟩) (by decide)))
end
end K21
set_option Elab.async false
set_option linter.all false
set_option maxRecDepth 100000
set_option maxHeartbeats 4000000
namespace K21
open PySem PySem.Spec PyProof.Rows L2
section
variable {P : Program} {w : World} {K : PySem.W.Frag} {mg : Str → Option Value} {base : Heap}
theorem c__law_done (Df : Def K mg "_law_done" s__law_done) (T : Txt K mg)   : CalD P w K mg base 1 "_law_done" ["_law_step", "_law_stand"] false F__law_done :=
  cal_d (N := ["_law_step", "_law_stand", "_law_marks", "_law_code", "_law_spot"]) (ps := ["_law_step", "_law_stand"]) (st := s__law_done) (k := 0) (g := g__law_done) Df sc__law_done (fun _ _ _ _ _ _ us hl => match us, hl with | [_, _], _ => rfl) (fun f cdv A outer s H E hr => (by
      unfold g__law_done
      refine (b_cons (s_asg (xv (m := false) 1) (g_tup (n := 2) rfl (gs_cons (g_name 2 sc__law_done.nd rfl (Or.inr rfl)) (gs_cons (g_name 3 sc__law_done.nd rfl (Or.inl rfl)) gs_nil))))
      (b_cons (s_if (tcmp (o_eq hr.units) (xcmp (m := true) (o_eq hr.units) (xop (m := true) o_and (xop (m := true) o_shr (xv (m := true) 3) (xix (m := true) o_ix (xv (m := true) 0) (xint (m := true)) (fun _ _ => rfl))) (xint (m := true))) (xint (m := true)) (nomark _)) (xix (m := true) o_ix (xv (m := true) 0) (xint (m := true)) (fun _ _ => rfl)) (nomark _)) (b_one (s_ret (xstr (m := false)))) b_nil)
      (b_cons (s_for PassesOwn.never rfl (i_seq (xix (m := false) o_ix (xv (m := true) 0) (xint (m := true)) (fun _ _ => rfl))) (g_name 4 sc__law_done.nd rfl (Or.inl rfl)) (b_one (s_set 2 sc__law_done.nd rfl (Or.inr rfl) (xop (m := false) o_sub (xv (m := true) 2) (xop (m := true) o_shl (xint (m := true)) (xv (m := true) 4))))))
      (b_cons (s_if (tval (xcallB (m := true) (c_any rfl) (by rfl) T.b_any (by decide +kernel) (a_cons (PNd.x (m := true) ?c0) a_nil))) (b_one (s_ret (xstr (m := false)))) b_nil)
      (b_cons (s_for PassesOwn.never rfl (i_seq (xix (m := false) o_ix (xv (m := true) 0) (xint (m := true)) (fun _ _ => rfl))) (g_name 4 sc__law_done.nd rfl (Or.inl rfl)) (b_one (s_set 2 sc__law_done.nd rfl (Or.inr rfl) (xop (m := false) o_add (xv (m := true) 2) (xop (m := true) o_shl (xint (m := true)) (xv (m := true) 4))))))
      (b_cons (s_if (tval (xix (m := true) o_ix (xv (m := true) 0) (xint (m := true)) (fun _ _ => rfl))) (b_one (s_ret (xtup (m := false) (a_cons (xv (m := false) 2) (a_cons (xop (m := false) o_add (xv (m := true) 3) (xop (m := true) o_shl (xint (m := true)) (xix (m := true) o_ix (xv (m := true) 0) (xint (m := true)) (fun _ _ => rfl)))) a_nil))))) b_nil)
      (b_one (s_ret (xtup (m := false) (a_cons (xv (m := false) 2) (a_cons (xop (m := false) o_sub (xv (m := true) 3) (xop (m := true) o_shl (xint (m := true)) (xix (m := true) o_ix (xv (m := true) 0) (xint (m := true)) (fun _ _ => rfl)))) a_nil)))))))))))
      case c0 => exact n_comp (defScope s__law_done) [none, some 2] ["_law_spot", "_law_marks"] rfl (show CompOk (defScope s__law_done) _ ["_law_step", "_law_stand", "_law_marks", "_law_code", "_law_spot"] ["_law_spot", "_law_marks"] [none, some 2] from CompOk.of (by decide +kernel)) rfl (i_seqP (xix (m := true) o_ix (xv (m := true) 0) (xint (m := true)) (fun _ _ => rfl))) (fun _ _ _ _ => ⟨(g_name 0 (show (["_law_spot", "_law_marks"] : List Str).Nodup from by decide +kernel) rfl (Or.inl rfl)), f_nil, (xcmp (m := false) (o_eq hr.units) (xop (m := true) o_and (xop (m := true) o_shr (xv (m := true) 1) (xv (m := true) 0)) (xint (m := true))) (xint (m := true)) (nomark _))⟩) (by decide)))
end
end K21
set_option Elab.async false
set_option linter.all false
set_option maxRecDepth 100000
set_option maxHeartbeats 4000000
namespace K21
open PySem PySem.Spec PyProof.Rows L2
section
variable {P : Program} {w : World} {K : PySem.W.Frag} {mg : Str → Option Value} {base : Heap}
theorem c__law_asked (Df : Def K mg "_law_asked" s__law_asked) (T : Txt K mg)  (C__law_sort : CalD P w K mg base 1 "_law_sort" ["_law_e"] false F__law_sort) (C_behind : CalX P w K mg base 3 "behind" ["graph", "stand", "step"] false F_behind) : CalD P w K mg base 4 "_law_asked" ["_law_graph", "_law_stand", "_law_step"] false F__law_asked :=
  cal_d (N := ["_law_graph", "_law_stand", "_law_step", "_law_got", "_law_caught", "_law_e", "_law_sort_here"]) (ps := ["_law_graph", "_law_stand", "_law_step"]) (st := s__law_asked) (k := 3) (g := g__law_asked) Df sc__law_asked (fun _ _ _ _ _ _ us hl => match us, hl with | [_, _, _], _ => rfl) (fun f cdv A outer s H E hr => (by
      unfold g__law_asked
      exact (b_cons (s_set 3 sc__law_asked.nd rfl (Or.inl rfl) (xnon (m := false)))
      (b_cons (s_set 4 sc__law_asked.nd rfl (Or.inl rfl) (xnon (m := false)))
      (b_cons (s_tryC (i := 5) (sub := subAll ["Broken", "Crowded"]) (fun _ _ => (b_one (s_setX 3 sc__law_asked.nd rfl (Or.inl rfl) (xcalX C_behind (hr.mono (by omega)) (a_cons (xv (m := false) 0) (a_cons (xv (m := false) 1) (a_cons (xv (m := false) 2) a_nil))))))) (fun _ _ => (b_one (s_set 4 sc__law_asked.nd rfl (Or.inl rfl) (xv (m := false) 5)))) T.k_CalmError sc__law_asked.nd rfl (Or.inl rfl))
      (b_cons (s_if (tcmp o_is (xv (m := true) 4) (xnon (m := true)) (nomark _)) (b_one (s_ret (xv (m := false) 3))) b_nil)
      (b_cons (s_set 6 sc__law_asked.nd rfl (Or.inl rfl) (xcal (m := false) C__law_sort (hr.mono (by omega)) (a_cons (xv (m := false) 4) a_nil)))
      (b_cons (s_if (PWd.pt (w_and (tcmp (o_in hr.units) (xv (m := true) 6) (xtup (m := true) (a_cons (xstr (m := false)) (a_cons (xstr (m := false)) a_nil))) (by rfl)) (w_and1 (tcmp (o_eq hr.units) (xfldX (m := true) (okc := subAll ["Broken", "Crowded"]) (xv (m := true) 4) T.f_way) (PNd.x (m := true) (nlst (a_cons (xv (m := false) 2) a_nil))) (nomark _))))) (b_one (s_ret (xv (m := false) 6))) b_nil)
      (b_one (s_ret (xstr (m := false))))))))))))
end
end K21
set_option Elab.async false
set_option linter.all false
set_option maxRecDepth 100000
set_option maxHeartbeats 4000000
namespace K21
open PySem PySem.Spec PyProof.Rows L2
section
variable {P : Program} {w : World} {K : PySem.W.Frag} {mg : Str → Option Value} {base : Heap}
theorem c__law_plain (Df : Def K mg "_law_plain" s__law_plain) (T : Txt K mg)   : CalD P w K mg base 1 "_law_plain" ["_law_got"] false F__law_plain :=
  cal_d (N := ["_law_got"]) (ps := ["_law_got"]) (st := s__law_plain) (k := 0) (g := g__law_plain) Df sc__law_plain (fun _ _ _ _ _ _ us hl => match us, hl with | [_], _ => rfl) (fun f cdv A outer s H E hr => (by
      unfold g__law_plain
      refine (b_cons (s_if (PWd.pt (w_or (tnot (tval (xisi (m := true) (T := "tuple") (xv (m := true) 0) (by rfl) T.b_isinstance (by decide +kernel) (by rfl) T.b_tuple (by decide +kernel)))) (w_or1 (tcmp (o_ne hr.units) (xcallB (m := true) c_len (by rfl) T.b_len (by decide +kernel) (a_cons (xv (m := true) 0) a_nil)) (xint (m := true)) (nomark _))))) (b_one (s_ret (xbl (m := false)))) b_nil)
      (b_one (s_ret (xcallB (m := false) (c_all rfl) (by rfl) T.b_all (by decide +kernel) (a_cons (PNd.x (m := true) ?c0) a_nil)))))
      case c0 => exact n_comp (defScope s__law_plain) [none] ["_law_number"] rfl (show CompOk (defScope s__law_plain) _ ["_law_got"] ["_law_number"] [none] from CompOk.of (by decide +kernel)) rfl (i_seqP (xv (m := true) 0)) (fun _ _ _ _ => ⟨(g_name 0 (show (["_law_number"] : List Str).Nodup from by decide +kernel) rfl (Or.inl rfl)), f_nil, (xand (m := false) (xisi (m := true) (T := "int") (xv (m := true) 0) (by rfl) T.b_isinstance (by decide +kernel) (by rfl) T.b_int (by decide +kernel)) (xone (xnot (m := false) (xisi (m := true) (T := "bool") (xv (m := true) 0) (by rfl) T.b_isinstance (by decide +kernel) (by rfl) T.b_bool (by decide +kernel)))))⟩) (by decide)))
end
end K21
set_option Elab.async false
set_option linter.all false
set_option maxRecDepth 100000
set_option maxHeartbeats 4000000
namespace K21
open PySem PySem.Spec PyProof.Rows L2
section
variable {P : Program} {w : World} {K : PySem.W.Frag} {mg : Str → Option Value} {base : Heap}
theorem c_law {f : Addr} {fd : FuncData} (Df : Fun K "law" "law" s_law f fd) (T : Txt K mg)  (C__law_mix : CalD P w K mg base 1 "_law_mix" ["_law_script", "_law_k"] false F__law_mix) (C__law_any : CalD P w K mg base 2 "_law_any" ["_law_script", "_law_first", "_law_size"] false F__law_any) (C_can : CalD P w K mg base 2 "can" ["graph", "stand", "step"] false F_can) (C__law_done : CalD P w K mg base 1 "_law_done" ["_law_step", "_law_stand"] false F__law_done) (C__law_asked : CalD P w K mg base 4 "_law_asked" ["_law_graph", "_law_stand", "_law_step"] false F__law_asked) (C__law_can : CalD P w K mg base 1 "_law_can" ["_law_step", "_law_marks"] false F__law_can) (C__law_plain : CalD P w K mg base 1 "_law_plain" ["_law_got"] false F__law_plain) (hl : ∀ ns : List Int, ns.length ≤ 63 → F_law [.lst (ns.map .int)] = .ok (.bl true)) : FnOk P w K mg base CX0 5 f fd ["_law_script"] (spLaw K) :=
  law_d (N := ["_law_script", "_law_cell", "_law_size", "_law_graph", "_law_some", "_law_k", "_law_step", "_law_marks", "_law_spot", "_law_stand", "_law_got", "_law_due", "_law_new"]) (ps := ["_law_script"]) (st := s_law) (g := g_law) Df sc_law rfl (fun cdv A outer s H E hr => (by
      unfold g_law
      exact (b_cons (s_set 1 sc_law.nd rfl (Or.inl rfl) (xcal (m := false) C__law_mix (hr.mono (by omega)) (a_cons (xv (m := false) 0) (a_cons (xint (m := false)) a_nil))))
      (b_cons (s_set 2 sc_law.nd rfl (Or.inl rfl) (xix (m := false) o_ix (PNd.x (m := true) (nlst (a_cons (xint (m := false)) (a_cons (xop (m := false) o_add (xint (m := true)) (xop (m := true) o_mod (xop (m := true) o_fdiv (xv (m := true) 1) (xint (m := true))) (xint (m := true)))) a_nil)))) (xop (m := true) o_mod (xv (m := true) 1) (xint (m := true))) (fun _ _ => rfl)))
      (b_cons (s_set 3 sc_law.nd rfl (Or.inl rfl) (xcal (m := false) C__law_any (hr.mono (by omega)) (a_cons (xv (m := false) 0) (a_cons (xint (m := false)) (a_cons (xv (m := false) 2) a_nil)))))
      (b_cons (s_set 4 sc_law.nd rfl (Or.inl rfl) (xop (m := false) o_mulE (xcal (m := true) C__law_mix (hr.mono (by omega)) (a_cons (xv (m := false) 0) (a_cons (xint (m := false)) a_nil))) (xcal (m := true) C__law_mix (hr.mono (by omega)) (a_cons (xv (m := false) 0) (a_cons (xint (m := false)) a_nil)))))
      (b_cons (s_for PassesOwn.never rfl (i_enum (by rfl) T.b_enumerate (xix (m := false) o_ix (xv (m := true) 3) (xint (m := true)) (fun _ _ => rfl))) (g_tup (n := 2) rfl (gs_cons (g_name 5 sc_law.nd rfl (Or.inl rfl)) (gs_cons (g_name 6 sc_law.nd rfl (Or.inl rfl)) gs_nil))) (b_cons (s_set 7 sc_law.nd rfl (Or.inl rfl) (xop (m := false) o_mod (xop (m := true) o_and (xop (m := true) o_shr (xv (m := true) 4) (xv (m := true) 5)) (xop (m := true) o_add (xop (m := true) o_mulE (xcal (m := true) C__law_mix (hr.mono (by omega)) (a_cons (xv (m := false) 0) (a_cons (xint (m := false)) a_nil))) (xint (m := true))) (xv (m := true) 4))) (xop (m := true) o_shl (xint (m := true)) (xv (m := true) 2))))
      (b_cons (s_if (tcmp o_gt (xop (m := true) o_mod (xop (m := true) o_add (xop (m := true) o_fdiv (xv (m := true) 1) (xint (m := true))) (xv (m := true) 5)) (xint (m := true))) (xint (m := true)) (nomark _)) (b_one (s_for PassesOwn.never rfl (i_seq (xix (m := false) o_ix (xv (m := true) 6) (xint (m := true)) (fun _ _ => rfl))) (g_name 8 sc_law.nd rfl (Or.inl rfl)) (b_one (s_set 7 sc_law.nd rfl (Or.inl rfl) (xop (m := false) o_or (xv (m := true) 7) (xop (m := true) o_shl (xint (m := true)) (xv (m := true) 8))))))) b_nil)
      (b_cons (s_set 9 sc_law.nd rfl (Or.inl rfl) (xtup (m := false) (a_cons (xv (m := false) 7) (a_cons (xop (m := false) o_mod (xop (m := true) o_shr (xv (m := true) 4) (xop (m := true) o_mulE (xint (m := true)) (xv (m := true) 5))) (xop (m := true) o_shl (xint (m := true)) (xcallB (m := true) c_len (by rfl) T.b_len (by decide +kernel) (a_cons (xix (m := true) o_ix (xv (m := true) 3) (xint (m := true)) (fun _ _ => rfl)) a_nil)))) a_nil))))
      (b_cons (s_set 10 sc_law.nd rfl (Or.inl rfl) (xcal (m := false) C_can (hr.mono (by omega)) (a_cons (xv (m := false) 3) (a_cons (xv (m := false) 9) (a_cons (xv (m := false) 5) a_nil)))))
      (b_cons (s_if (PWd.pt (w_or (tnot (tval (xisi (m := true) (T := "bool") (xv (m := true) 10) (by rfl) T.b_isinstance (by decide +kernel) (by rfl) T.b_bool (by decide +kernel)))) (w_or1 (tcmp (o_ne hr.units) (xv (m := true) 10) (xcal (m := true) C__law_can (hr.mono (by omega)) (a_cons (xv (m := false) 6) (a_cons (xv (m := false) 7) a_nil))) (nomark _))))) (b_one (s_ret (xbl (m := false)))) b_nil)
      (b_one (s_if (tval (xv (m := true) 10)) (b_cons (s_set 11 sc_law.nd rfl (Or.inl rfl) (xcal (m := false) C__law_done (hr.mono (by omega)) (a_cons (xv (m := false) 6) (a_cons (xv (m := false) 9) a_nil))))
      (b_cons (s_set 12 sc_law.nd rfl (Or.inl rfl) (xcal (m := false) C__law_asked (hr.mono (by omega)) (a_cons (xv (m := false) 3) (a_cons (xv (m := false) 9) (a_cons (xv (m := false) 5) a_nil)))))
      (b_one (s_if (PWd.pt (w_or (tcmp (o_ne hr.units) (xv (m := true) 12) (xv (m := true) 11) (nomark _)) (w_or (PWd.pt (w_and (tnot (tval (xisi (m := true) (T := "str") (xv (m := true) 11) (by rfl) T.b_isinstance (by decide +kernel) (by rfl) T.b_str (by decide +kernel)))) (w_and1 (tnot (tval (xcal (m := true) C__law_plain (hr.mono (by omega)) (a_cons (xv (m := false) 12) a_nil))))))) (w_or1 (tcmp (o_ne hr.units) (xcal (m := true) C__law_asked (hr.mono (by omega)) (a_cons (xv (m := false) 3) (a_cons (xv (m := false) 9) (a_cons (xv (m := false) 5) a_nil)))) (xv (m := true) 11) (nomark _)))))) (b_one (s_ret (xbl (m := false)))) b_nil)))) b_nil))))))))
      (b_one (s_ret (xbl (m := false))))))))))) hl
end
end K21
set_option Elab.async false
set_option linter.all false
set_option maxRecDepth 100000
set_option maxHeartbeats 4000000
namespace K21
open PySem PySem.Spec PyProof.Rows L2
abbrev i_Broken : Stmt := inClass (top 3) 0
theorem si_Broken : FnScope ["self", "way"] ["self", "way"] (defScope i_Broken) := ⟨rfl, rfl, rfl, by decide +kernel, rfl, by decide +kernel, by decide +kernel⟩
abbrev i_Crowded : Stmt := inClass (top 4) 0
theorem si_Crowded : FnScope ["self", "way"] ["self", "way"] (defScope i_Crowded) := ⟨rfl, rfl, rfl, by decide +kernel, rfl, by decide +kernel, by decide +kernel⟩
theorem gW_len {f : Str} : ∀ ds fl, gW f ds = some fl → ds.length = 1 := fun ds fl h => by
  unfold gW at h
  split at h
  · rfl
  · cases h
theorem xcls_mk {K : PySem.W.Frag} {C fI D : Addr} (q : xcIn K C fI D = true) (cl : PySem.W.findIn K (.ref C) "__class__" = some (some (.builtin "object.__class__"))) (ga : PySem.W.findIn K (.ref C) "__getattribute__" = some (some (.builtin "BaseException.__getattribute__"))) (gh : PySem.W.findIn K (.ref C) "__getattr__" = some none) (sa : PySem.W.findIn K (.ref C) "__setattr__" = some (some (.builtin "object.__setattr__"))) : XCls K C := by
  refine ⟨?_, cl, ga, gh, sa⟩
  unfold xcIn at q
  split at q
  · rename_i dd cd sl ho
    split at q
    · rename_i C' bm k0 k1 k2 k3 n k5 hm hs
      simp only [Bool.and_eq_true, beq_iff_eq, Bool.not_eq_true'] at q
      obtain ⟨⟨⟨⟨⟨⟨⟨e1, _⟩, _⟩, hdi⟩, e2⟩, _⟩, _⟩, _⟩ := q
      exact ⟨cd, by unfold PySem.W.clsIn; rw [ho], hdi, C', D, by rw [hm, e2]⟩
    · cases q
  · cases q
section
variable {P : Program} {w : World} {K : PySem.W.Frag} {mg : Str → Option Value} {base : Heap}
theorem m_Broken {C fI D : Addr} {fd : FuncData} (B : BaseC K mg D) (F : Fun K "__init__" "Broken.__init__" i_Broken fI fd) (hc : clsAt K "Broken" C) (hm : mg "Broken" = some (.ref C)) (hk : PySem.W.keepIn K (.ref C) = true) (hx : xcIn K C fI D = true) (xc : XCls K C) (hf : PySem.W.findIn K (.ref C) "way" = some none) (isf : PySem.W.isFn K (.ref fI) = true) (bl : mg "list" = none) : XMake P w K mg base 1 "Broken" 1 (gW "way") where
  ex := ⟨C, fI, D, fd, ["self", "way"], hc, hm, hk, hx, xc, isf, init_W (k := 0) F si_Broken hx xc hf (fun cdv A outer s H E hr =>
      pss_cons (ps_expr (pe_base B (pa_cons (pv 0) (pa_cons (pe_joined (pj_lit (pj_any hr (pv 1) pj_nil))) pa_nil))))
        (pss_one (ps_fldX (pv 0) (pe_callTy (call_listk K) rfl bl (by decide +kernel) (pa_cons (pv 1) pa_nil)))))
      (fun H e a ns hS hs => jok_lit (jok_any jok_nil (by decide +kernel) rfl (.inr ⟨a, ns, rfl, hS, hs⟩)) (by decide +kernel)),
    F.binds fun _ _ _ _ _ _ us hl => match us, hl with | [_, _], _ => rfl⟩
  len := gW_len
  few := by omega
theorem m_Crowded {C fI D : Addr} {fd : FuncData} (B : BaseC K mg D) (F : Fun K "__init__" "Crowded.__init__" i_Crowded fI fd) (hc : clsAt K "Crowded" C) (hm : mg "Crowded" = some (.ref C)) (hk : PySem.W.keepIn K (.ref C) = true) (hx : xcIn K C fI D = true) (xc : XCls K C) (hf : PySem.W.findIn K (.ref C) "way" = some none) (isf : PySem.W.isFn K (.ref fI) = true) (bl : mg "list" = none) : XMake P w K mg base 1 "Crowded" 1 (gW "way") where
  ex := ⟨C, fI, D, fd, ["self", "way"], hc, hm, hk, hx, xc, isf, init_W (k := 0) F si_Crowded hx xc hf (fun cdv A outer s H E hr =>
      pss_cons (ps_expr (pe_base B (pa_cons (pv 0) (pa_cons (pe_joined (pj_lit (pj_any hr (pv 1) pj_nil))) pa_nil))))
        (pss_one (ps_fldX (pv 0) (pe_callTy (call_listk K) rfl bl (by decide +kernel) (pa_cons (pv 1) pa_nil)))))
      (fun H e a ns hS hs => jok_lit (jok_any jok_nil (by decide +kernel) rfl (.inr ⟨a, ns, rfl, hS, hs⟩)) (by decide +kernel)),
    F.binds fun _ _ _ _ _ _ us hl => match us, hl with | [_, _], _ => rfl⟩
  len := gW_len
  few := by omega
end
end K21
set_option Elab.async false
set_option linter.all false
set_option maxRecDepth 100000
namespace K21
open PySem PySem.Spec PyProof.Rows L2
theorem mix_ok (ns : List Int) (k : Nat) (hk : k ≤ 100000) : ∃ r : Nat, F__law_mix [scr ns, .int (k : Int)] = .ok (.int (r : Int)) ∧ r < 1000000000039 := by
  have := run_of (n := 3) (p := 2) (ds := [scr ns, .int (k : Int)]) (g := g__law_mix) (R := fun d => ∃ r : Nat, d = .int (r : Int) ∧ r < 1000000000039) rfl ?_
  · obtain ⟨d, e, r, rfl, h⟩ := this
    exact ⟨r, e, h⟩
  show Go (g__law_mix [.fz (scr ns), .fz (.int (k : Int)), .un]) _ _
  unfold g__law_mix
  have fin : ∀ z : Int, Go (sRet (dO modD (dO mulE (dV 2) (dC (.int 48271))) (dC (.int 1000000000039))) [.fz (scr ns), .fz (.int (k : Int)), .fz (.int z)]) (fun _ => False) (fun d => ∃ r : Nat, d = .int (r : Int) ∧ r < 1000000000039) := fun z => by
    refine go_ret (d := .int (z * 48271 % 1000000000039)) (dO_ok (dO_ok rfl rfl (mulI_ok (.inr (by omega)))) rfl (modD_ok (by omega))) ⟨(z * 48271 % 1000000000039).toNat, ?_, ?_⟩
    · congr 1; omega
    · omega
  refine go_cons (go_set (d := .int (7919 * (k : Int) + 12345)) (dO_ok (dO_ok rfl rfl (mulI_ok (.inl (by omega)))) rfl rfl) ?_)
  refine go_cons (go_if (b := decide ((k : Int) < ((ns.map Dat.int).length : Int))) rfl (fun hb => ?_) (fun hb => ?_))
  · have hkl : k < ns.length := by have := of_decide_eq_true hb; rw [List.length_map] at this; omega
    have hix : ixD (scr ns) (.int (k : Int)) = some (.int ns[k]) := ixL_nat (by simp [hkl])
    refine go_set (d := .int (7919 * (k : Int) + 12345 + ns[k] * 6364136223846793005)) (dO_ok rfl (dO_ok (dO_ok rfl rfl hix) rfl (mulI_ok (.inr (by omega)))) rfl) ?_
    exact (fin _).mono (fun _ h => h.elim) fun _ h => h
  · refine go_nil ?_
    exact (fin _).mono (fun _ h => h.elim) fun _ h => h
theorem word_ok (c k : Nat) : ∃ z : Str, F__law_word [.int (c : Int), .int (k : Int)] = .ok (.str z) := by
  have := run_of (n := 8) (p := 2) (ds := [.int (c : Int), .int (k : Int)]) (g := g__law_word) (R := fun d => ∃ z : Str, d = .str z) rfl ?_
  · obtain ⟨d, e, z, rfl⟩ := this
    exact ⟨z, e⟩
  show Go (g__law_word [.fz (.int (c : Int)), .fz (.int (k : Int)), .un, .un, .un, .un, .un, .un]) _ _
  unfold g__law_word
  obtain ⟨n, hn, hn1⟩ : ∃ n : Nat, 2 + c % 7 = n ∧ n ≤ 8 := ⟨_, rfl, by omega⟩
  refine go_cons (go_set (d := .str letters) rfl ?_)
  refine go_cons (go_set (d := .int (n : Int)) (by rw [← hn]; exact dO_ok rfl (dO_ok rfl rfl (modN c 7 (by omega))) (addN 2 _)) ?_)
  refine go_cons (go_set (dO_ok (dO_ok rfl rfl (fdivN c 7 (by omega) (by omega))) rfl (modN (c / 7) n (by omega))) ?_)
  refine go_cons (go_set (d := .str "") rfl ?_)
  generalize c / 7 % n = at0
  refine go_cons (go_for (ds := rng 0 n) (fun i e => ∃ (z : Str) (v6 v7 : Slt), e = [.fz (.int (c : Int)), .fz (.int (k : Int)), .fz (.str letters), .fz (.int (n : Int)), .fz (.int (at0 : Int)), .fz (.str z), v6, v7] ∧ z.length = i) (srcR1_eq (aCons_ok rfl rfl) (by omega)) ⟨"", .un, .un, rfl, by decide⟩ ?_ ?_)
  · rintro i d e hi ⟨z, v6, v7, rfl, hz⟩
    obtain ⟨hi1, rfl⟩ := rng_get hi
    rw [Int.zero_add]
    refine ⟨_, rfl, ?_⟩
    refine go_cons (go_set (d := .int ((0 : Nat) : Int)) rfl ?_)
    have fin : ∀ q : Nat, Go (sSet 5 (dO addD (dV 5) (dO ixD (dV 2) (dO modD (dO addD (dO addD (dO fdivD (dV 0) (dC (.int 49))) (dO mulE (dC (.int 5)) (dV 6))) (dO mulE (dC (.int 7)) (dV 7))) (dC (.int 26))))) [.fz (.int (c : Int)), .fz (.int (k : Int)), .fz (.str letters), .fz (.int (n : Int)), .fz (.int (at0 : Int)), .fz (.str z), .fz (.int (i : Int)), .fz (.int (q : Int))]) (fun e => ∃ (z : Str) (v6 v7 : Slt), e = [.fz (.int (c : Int)), .fz (.int (k : Int)), .fz (.str letters), .fz (.int (n : Int)), .fz (.int (at0 : Int)), .fz (.str z), v6, v7] ∧ z.length = i + 1) (fun d => ∃ z : Str, d = .str z) := fun q => by
      have hx := ix_letters (j := (((c / 49 + 5 * i + 7 * q) % 26 : Nat) : Int)) (by omega) (by omega)
      refine go_set (dO_ok rfl (dO_ok rfl (dO_ok (dO_ok (dO_ok (dO_ok rfl rfl (fdivN c 49 (by omega) (by omega))) (dO_ok rfl rfl (mulN' 5 i (by omega))) (addN _ _)) (dO_ok rfl rfl (mulN' 7 q (by omega))) (addN _ _)) rfl (modN _ 26 (by omega))) hx) (addS_ok (by show z.length + 1 ≤ _; omega))) ?_
      exact ⟨_, _, _, rfl, by rw [len_append_str]; show _ + 1 = _; omega⟩
    refine go_cons (go_if (dB_ok (dO_ok rfl rfl (eqN i at0))) (fun hb => ?_) (fun hb => ?_))
    · exact go_set rfl (fin k)
    · exact go_nil (fin 0)
  · rintro e ⟨z, v6, v7, rfl, hz⟩
    rw [rng_len] at hz
    refine go_cons (go_if (b := decide (z ∈ (["given", "made", "up", "down", "start"] : List Str))) (dB_ok (dO_ok rfl rfl (inF_lst z ["given", "made", "up", "down", "start"]))) (fun hb => ?_) (fun hb => ?_))
    · refine go_set (dO_ok (dS_ok rfl (oSome_ok rfl) rfl (slS_ok z _ _)) rfl (addS_ok ?_)) (go_ret rfl ⟨_, rfl⟩)
      have := Txt.slice_le z (some 1) none
      show (Txt.slice z (some 1) none).length + 1 ≤ _
      omega
    · exact go_nil (go_ret rfl ⟨_, rfl⟩)
theorem spots_ok (c size : Nat) (h1 : 1 ≤ size) (h2 : size ≤ 64) : ∃ ps : List Nat, F__law_spots [.int (c : Int), .int (size : Int)] = .ok (.tup (natsD ps)) ∧ Sp3 size ps := by
  have := run_of (n := 5) (p := 2) (ds := [.int (c : Int), .int (size : Int)]) (g := g__law_spots) (R := fun d => ∃ ps : List Nat, d = .tup (natsD ps) ∧ Sp3 size ps) rfl ?_
  · obtain ⟨d, e, z, rfl, h⟩ := this
    exact ⟨z, e, h⟩
  show Go (g__law_spots [.fz (.int (c : Int)), .fz (.int (size : Int)), .un, .un, .un]) _ _
  unfold g__law_spots
  refine go_cons (go_own (ds := natsD []) rfl ?_)
  refine go_cons (go_for (ds := rng 0 (1 + c % 4)) (fun i e => ∃ (ps : List Nat) (v3 v4 : Slt), e = [.fz (.int (c : Int)), .fz (.int (size : Int)), .ow (natsD ps), v3, v4] ∧ ps.Nodup ∧ (∀ p ∈ ps, p < size) ∧ ps.length ≤ i) (srcR1_eq (aCons_ok (dO_ok rfl (dO_ok rfl rfl (modN c 4 (by omega))) (addN 1 _)) rfl) (by omega)) ⟨[], .un, .un, rfl, List.nodup_nil, by simp, Nat.le_refl _⟩ ?_ ?_)
  · rintro i d e hi ⟨ps, v3, v4, rfl, hnd, hlt, hle⟩
    obtain ⟨hi1, rfl⟩ := rng_get hi
    rw [Int.zero_add]
    refine ⟨_, rfl, ?_⟩
    refine go_cons (go_set (dO_ok (dO_ok rfl (dO_ok rfl (dO_ok rfl rfl (mulN' 61 i (by omega))) (addN 4 _)) (fdivN c (4 + 61 * i) (by omega) (by omega))) rfl (modN _ size (by omega))) ?_)
    have hq : c / (4 + 61 * i) % size < size := Nat.mod_lt _ (by omega)
    generalize c / (4 + 61 * i) % size = q at hq
    refine go_if (dB_ok (dO_ok rfl rfl (nin_nats q ps))) (fun hb => ?_) (fun hb => go_nil ⟨ps, _, _, rfl, hnd, hlt, by omega⟩)
    have hns : q ∉ ps := by simpa using hb
    refine go_meth (ds := natsD ps) (as := [.int (q : Int)]) (ds' := natsD (ps ++ [q])) rfl rfl (by rw [append_ok (by rw [List.length_map, List.length_map]; omega)]; simp [natsD]) ⟨ps ++ [q], _, _, rfl, ?_, ?_, by rw [List.length_append, List.length_singleton]; omega⟩
    · refine List.nodup_append.mpr ⟨hnd, List.nodup_cons.mpr ⟨by simp, List.nodup_nil⟩, fun a ha b hb => ?_⟩
      rw [List.mem_singleton.mp hb]; intro e; exact hns (e ▸ ha)
    · intro p hp
      rcases List.mem_append.mp hp with h | h
      · exact hlt p h
      · rw [List.mem_singleton.mp h]; exact hq
  · rintro e ⟨ps, v3, v4, rfl, hnd, hlt, hle⟩
    rw [rng_len] at hle
    obtain ⟨qs, eq, hp⟩ := sorted_nats ps (by omega)
    exact go_ret (dF_ok (aCons_ok (dL_ok (dF_ok (aCons_ok rfl rfl) eq)) rfl) rfl) ⟨qs, rfl, hp.nodup_iff.mpr hnd, fun p h => hlt p (hp.mem_iff.mp h), by rw [hp.length_eq]; omega⟩
theorem any_ok (ns : List Int) (first size : Nat) (hf : first ≤ 1000) (h1 : 1 ≤ size) (h2 : size ≤ 64) : ∃ G : G3, F__law_any [scr ns, .int (first : Int), .int (size : Int)] = .ok G.d ∧ G.Ok size := by
  have := run_of (n := 10) (p := 3) (ds := [scr ns, .int (first : Int), .int (size : Int)]) (g := g__law_any) (R := fun d => ∃ G : G3, d = G.d ∧ G.Ok size) rfl ?_
  · obtain ⟨d, e, z, rfl, h⟩ := this
    exact ⟨z, e, h⟩
  show Go (g__law_any [.fz (scr ns), .fz (.int (first : Int)), .fz (.int (size : Int)), .un, .un, .un, .un, .un, .un, .un]) _ _
  unfold g__law_any
  obtain ⟨c, ec, lc⟩ := mix_ok ns first (by omega)
  obtain ⟨n, hn, hn1, hn2⟩ : ∃ n : Nat, 1 + c % 10 = n ∧ 1 ≤ n ∧ n ≤ 10 := ⟨_, rfl, by omega, by omega⟩
  refine go_cons (go_set (dCal_ok (xs := [scr ns, .int (first : Int)]) rfl ec) ?_)
  refine go_cons (go_set (d := .int (n : Int)) (by rw [← hn]; exact dO_ok rfl (dO_ok rfl rfl (modN c 10 (by omega))) (addN 1 _)) ?_)
  obtain ⟨ws, ew, wl, _⟩ := compL_ex (g := gset 0) (f := aTup (aCons (dCal F__law_word (aCons (dO fdivD (dV 1) (dC (.int 240))) (aCons (dV 0) aNil))) (aCons (dO ixD (dL (aLst (aCons (dC (.str "given")) (aCons (dC (.str "made")) aNil)))) (dO modD (dCal F__law_mix (aCons (dV 2) (aCons (dO addD (dO addD (dV 3) (dC (.int 1))) (dV 0)) aNil))) (dC (.int 2)))) aNil))) (env := [.un, .fz (.int (c : Int)), .fz (scr ns), .fz (.int (first : Int))]) wirD (fun _ => True) (rng 0 n) fun x hx => by
    obtain ⟨i, hi, rfl⟩ := rng_mem hx
    rw [Int.zero_add]
    obtain ⟨z, ez⟩ := word_ok (c / 240) i
    obtain ⟨r, er, _⟩ := mix_ok ns (first + 1 + i) (by omega)
    have p1 := pick2 (.str "given") (.str "made") (j := ((r % 2 : Nat) : Int)) (by omega) (by omega)
    refine ⟨[.fz (.int (i : Int)), .fz (.int (c : Int)), .fz (scr ns), .fz (.int (first : Int))], (z, decide (((r % 2 : Nat) : Int) = 1)), rfl, ?_, trivial⟩
    refine Eq.trans (aTup_ok (aCons_ok (dCal_ok (xs := [.int ((c / 240 : Nat) : Int), .int (i : Int)]) (aCons_ok (dO_ok rfl rfl (fdivN c 240 (by omega) (by omega))) rfl) ez) (aCons_ok (dO_ok (x := .lst [.str "given", .str "made"]) rfl (dO_ok (dCal_ok (xs := [scr ns, .int ((first + 1 + i : Nat) : Int)]) (aCons_ok rfl (aCons_ok (dO_ok (dO_ok rfl rfl (addN first 1)) rfl (addN _ _)) rfl)) er) rfl (modN r 2 (by omega))) p1) rfl)) (by simp)) ?_
    show some (Dat.tup [.str z, if ((r % 2 : Nat) : Int) = 1 then .str "made" else .str "given"]) = some (Dat.tup [.str z, .str (if decide (((r % 2 : Nat) : Int) = 1) = true then "made" else "given")])
    by_cases hb : ((r % 2 : Nat) : Int) = 1
    · rw [if_pos hb, decide_eq_true hb]; rfl
    · rw [if_neg hb, decide_eq_false hb]; rfl
  rw [rng_len] at wl
  refine go_cons (go_set (d := .lst (ws.map wirD)) (dL_ok (dComp_ok (xs := rng 0 n) (srcR1_eq (aCons_ok rfl rfl) (by omega)) rfl ew)) ?_)
  refine go_cons (go_own (ds := ([] : List St3).map St3.d) rfl ?_)
  obtain ⟨m, hm, hm1, hm2⟩ : ∃ m : Nat, 1 + c / 10 % 24 = m ∧ 1 ≤ m ∧ m ≤ 24 := ⟨_, rfl, by omega, by omega⟩
  refine go_cons (go_for (ds := rng 0 m) (fun i e => ∃ (ss : List St3) (v7 v8 v9 : Slt), e = [.fz (scr ns), .fz (.int (first : Int)), .fz (.int (size : Int)), .fz (.int (c : Int)), .fz (.int (n : Int)), .fz (.lst (ws.map wirD)), .ow (ss.map St3.d), v7, v8, v9] ∧ ss.length = i ∧ ∀ s ∈ ss, s.Ok size n) (srcR1_eq (aCons_ok (by rw [← hm]; exact dO_ok rfl (dO_ok (dO_ok rfl rfl (fdivN c 10 (by omega) (by omega))) rfl (modN _ 24 (by omega))) (addN 1 _)) rfl) (by omega)) ⟨[], .un, .un, .un, rfl, rfl, by simp⟩ ?_ ?_)
  · rintro i d e hi ⟨ss, v7, v8, v9, rfl, hsl, hsk⟩
    obtain ⟨hi1, rfl⟩ := rng_get hi
    rw [Int.zero_add]
    refine ⟨_, rfl, ?_⟩
    obtain ⟨r, er, lr⟩ := mix_ok ns (first + 1 + i) (by omega)
    obtain ⟨tk, et, ht⟩ := spots_ok (r / 40) size h1 h2
    obtain ⟨fk, ef, hf⟩ := spots_ok (r * 48271 % 2147483647) size h1 h2
    refine go_cons (go_set (dCal_ok (xs := [scr ns, .int ((first + 1 + i : Nat) : Int)]) (aCons_ok rfl (aCons_ok (dO_ok (dO_ok rfl rfl (addN first 1)) rfl (addN _ _)) rfl)) er) ?_)
    refine go_cons (go_set (dCal_ok (xs := [.int ((r / 40 : Nat) : Int), .int (size : Int)]) (aCons_ok (dO_ok rfl rfl (fdivN r 40 (by omega) (by omega))) rfl) et) ?_)
    have hw : r / 4 % n < n := Nat.mod_lt _ (by omega)
    refine go_meth (ds := ss.map St3.d) (as := [(⟨r / 4 % n, r / 2 % 2 == 0, tk, fk⟩ : St3).d]) (ds' := (ss ++ [(⟨r / 4 % n, r / 2 % 2 == 0, tk, fk⟩ : St3)]).map St3.d) rfl (aCons_ok (aTup_ok (aCons_ok (dO_ok (dO_ok rfl rfl (fdivN r 4 (by omega) (by omega))) rfl (modN _ n (by omega))) (aCons_ok (dO_ok (dO_ok (dO_ok rfl rfl (fdivN r 2 (by omega) (by omega))) rfl (modN _ 2 (by omega))) rfl (eqN _ 0)) (aCons_ok rfl (aCons_ok (dCal_ok (xs := [.int ((r * 48271 % 2147483647 : Nat) : Int), .int (size : Int)]) (aCons_ok (dO_ok (dO_ok rfl rfl (mulN r 48271 (by omega))) rfl (modN _ 2147483647 (by omega))) rfl) ef) rfl)))) (by simp)) rfl) ?_ ?_
    · rw [append_ok (by rw [List.length_map]; omega), List.map_append]; rfl
    · refine ⟨_, _, _, _, rfl, by rw [List.length_append, List.length_singleton, hsl], fun s hs => ?_⟩
      rcases List.mem_append.mp hs with h | h
      · exact hsk s h
      · rw [List.mem_singleton.mp h]; exact ⟨hw, ht, hf⟩
  · rintro e ⟨ss, v7, v8, v9, rfl, hsl, hsk⟩
    rw [rng_len] at hsl
    refine go_ret (aTup_ok (aCons_ok (dF_ok (aCons_ok rfl rfl) rfl) (aCons_ok (dF_ok (aCons_ok rfl rfl) rfl) rfl)) (by simp)) ⟨⟨ws, ss, 0, 0⟩, rfl, ⟨by show 1 ≤ ws.length; omega, by show ws.length ≤ 10; omega, by show 1 ≤ ss.length; omega, by show ss.length ≤ 24; omega, fun s hs => by show s.Ok size ws.length; rw [wl]; exact hsk s hs⟩⟩
theorem takes_ok (G : G3) (k : Nat) (s : St3) (h : G.steps[k]? = some s) : F_takes_of [G.d, .int (k : Int)] = .ok (.tup (natsD s.takes)) := by
  refine ok_of (run_of (n := 2) (p := 2) (ds := [G.d, .int (k : Int)]) (g := g_takes_of) (R := fun d => d = .tup (natsD s.takes)) rfl ?_)
  show Go (g_takes_of [.fz G.d, .fz (.int (k : Int))]) _ _
  unfold g_takes_of
  exact go_ret (dO_ok (dO_ok (dO_ok rfl rfl rfl) rfl (ixT_nat (x := s.d) (by rw [List.getElem?_map, h]; rfl))) rfl rfl) rfl
theorem bits_ok (ps : List Nat) (hp : ∀ p ∈ ps, p ≤ 1000) : F_bits [.tup (natsD ps)] = .ok (.int (bitsN ps : Int)) := by
  refine ok_of (run_of (n := 3) (p := 1) (ds := [.tup (natsD ps)]) (g := g_bits) (R := fun d => d = .int (bitsN ps : Int)) rfl ?_)
  show Go (g_bits [.fz (.tup (natsD ps)), .un, .un]) _ _
  unfold g_bits
  refine go_cons (go_set (d := .int 0) rfl ?_)
  refine go_cons (go_for (ds := natsD ps) (fun i e => ∃ (z : Int) (v : Slt), e = [.fz (.tup (natsD ps)), .fz (.int z), v] ∧ z = (((ps.take i).foldl (fun a p => a ||| 2 ^ p) 0 : Nat) : Int)) rfl ⟨0, .un, rfl, rfl⟩ ?_ ?_)
  · rintro i x e hi ⟨z, v, rfl, rfl⟩
    obtain ⟨p, hq, rfl⟩ := nats_get hi
    have hpp := hp p (List.mem_of_getElem? hq)
    refine ⟨_, rfl, ?_⟩
    refine go_set (d := .int ((((ps.take (i + 1)).foldl (fun a p => a ||| 2 ^ p) 0 : Nat)) : Int)) (dO_ok rfl (dO_ok rfl rfl (shl1 p hpp)) ?_) ⟨_, _, rfl, rfl⟩
    rw [orN, List.take_succ, hq, List.foldl_append]; rfl
  · rintro e ⟨z, v, rfl, rfl⟩
    refine go_ret rfl ?_
    rw [List.length_map, List.length_map, List.take_of_length_le (Nat.le_refl _)]; rfl
theorem can_ok {size : Nat} (G : G3) (hG : G.Ok size) (hz : size ≤ 64) (m : Nat) (cd : Dat) (k : Nat) (s : St3) (h : G.steps[k]? = some s) : F_can [G.d, .tup [.int (m : Int), cd], .int (k : Int)] = .ok (.bl (canB s m)) := by
  refine ok_of (run_of (n := 4) (p := 3) (ds := [G.d, .tup [.int (m : Int), cd], .int (k : Int)]) (g := g_can) (R := fun d => d = .bl (canB s m)) rfl ?_)
  show Go (g_can [.fz G.d, .fz (.tup [.int (m : Int), cd]), .fz (.int (k : Int)), .un]) _ _
  unfold g_can
  have hs := hG.st s (List.mem_of_getElem? h)
  refine go_cons (go_set (dCal_ok (xs := [.tup (natsD s.takes)]) (aCons_ok (dCal_ok (xs := [G.d, .int (k : Int)]) rfl (takes_ok G k s h)) rfl) (bits_ok s.takes fun p hp => by have := hs.t.lt p hp; omega)) ?_)
  exact go_ret (dO_ok (dO_ok (dO_ok rfl rfl rfl) rfl (andN m _)) rfl (eqN _ _)) rfl
theorem law_can_ok (s : St3) (m : Nat) : F__law_can [s.d, .int (m : Int)] = .ok (.bl (canB s m)) := by
  refine ok_of (run_of (n := 2) (p := 2) (ds := [s.d, .int (m : Int)]) (g := g__law_can) (R := fun d => d = .bl (canB s m)) rfl ?_)
  show Go (g__law_can [.fz s.d, .fz (.int (m : Int))]) _ _
  unfold g__law_can
  have hc : compL (gset 0) tTrue (dO eqF (dO andD (dO shrD (dV 1) (dV 0)) (dC (.int 1))) (dC (.int 1))) [.un, .fz (.int (m : Int))] (natsD s.takes) = some ((s.takes.map fun p => m.testBit p).map Dat.bl) := by
    rw [natsD_map, compL_all (fun p : Nat => Dat.int (p : Int)) (fun p : Nat => .bl (m.testBit p)) s.takes fun p _ => ⟨[.fz (.int (p : Int)), .fz (.int (m : Int))], rfl, rfl, dO_ok (dO_ok (dO_ok rfl rfl (shrN m p)) rfl (and1N m p)) rfl (eq1_bit _)⟩, List.map_map]
    rfl
  refine go_ret (dF_ok (aCons_ok (dL_ok (dComp_ok (xs := natsD s.takes) (env' := [.un, .fz (.int (m : Int))]) (srcT_ok (dO_ok rfl rfl rfl)) rfl hc)) rfl) (bls_map _)) ?_
  congr 1
  rw [Bool.eq_iff_iff, canB_iff, List.all_eq_true]
  constructor
  · intro h p hp
    exact h _ (List.mem_map_of_mem hp)
  · intro h b hb
    obtain ⟨p, hp, rfl⟩ := List.mem_map.mp hb
    exact h p hp
inductive Dn where
  | broken | crowded | at (m c : Nat)
def Dn.d : Dn → Dat
  | .broken => .str "broken"
  | .crowded => .str "crowded"
  | .at m c => .tup [.int (m : Int), .int (c : Int)]
structure DnOk (s : St3) (m c : Nat) (r : Dn) : Prop where
  b : r = .broken ↔ c.testBit s.w = s.up
  k : c.testBit s.w ≠ s.up → (r = .crowded ↔ ∃ p ∈ s.fills, m.testBit p = true ∧ p ∉ s.takes)
  a : ∀ m' c', r = .at m' c' → (∀ j, m'.testBit j = ((m.testBit j && !decide (j ∈ s.takes)) || decide (j ∈ s.fills))) ∧ ∀ j, c'.testBit j = if j = s.w then s.up else c.testBit j
theorem subN_place {a p : Nat} (hp : p ≤ 1000) (h : a.testBit p = true) : ∃ c : Nat, subD (.int (a : Int)) (.int ((2 ^ p : Nat) : Int)) = some (.int (c : Int)) ∧ ∀ j, c.testBit j = (a.testBit j && decide (j ≠ p)) := by
  obtain ⟨c, e, ht⟩ := sub_place h
  exact ⟨c, by show some (Dat.int _) = _; rw [e], ht⟩
theorem addN_place {a p : Nat} (h : a.testBit p = false) : addD (.int (a : Int)) (.int ((2 ^ p : Nat) : Int)) = some (.int ((a ||| 2 ^ p : Nat) : Int)) := by
  rw [addN, add_place h]
theorem done_ok {size wires : Nat} (s : St3) (hs : s.Ok size wires) (hz : size ≤ 64) (hw : wires ≤ 10) (m c : Nat) (ht : ∀ p ∈ s.takes, m.testBit p = true) : ∃ r : Dn, F__law_done [s.d, .tup [.int (m : Int), .int (c : Int)]] = .ok r.d ∧ DnOk s m c r := by
  have := run_of (n := 5) (p := 2) (ds := [s.d, .tup [.int (m : Int), .int (c : Int)]]) (g := g__law_done) (R := fun d => ∃ r : Dn, d = r.d ∧ DnOk s m c r) rfl ?_
  · obtain ⟨d, e, z, rfl, h⟩ := this
    exact ⟨z, e, h⟩
  show Go (g__law_done [.fz s.d, .fz (.tup [.int (m : Int), .int (c : Int)]), .un, .un, .un]) _ _
  unfold g__law_done
  have hw1 := hs.w
  refine go_cons (go_asg (d := .tup [.int (m : Int), .int (c : Int)]) (env' := [.fz s.d, .fz (.tup [.int (m : Int), .int (c : Int)]), .fz (.int (m : Int)), .fz (.int (c : Int)), .un]) rfl rfl ?_)
  refine go_cons (go_if (b := c.testBit s.w == s.up) (dB_ok (dO_ok (dO_ok (dO_ok (dO_ok rfl (dO_ok rfl rfl rfl) (shrN c s.w)) rfl (and1N c s.w)) rfl (eq1_bit _)) (dO_ok rfl rfl rfl) (eqB' _ _))) (fun hb => ?_) (fun hb => go_nil ?_))
  · have hb' : c.testBit s.w = s.up := by simpa using hb
    exact go_ret rfl ⟨.broken, rfl, ⟨⟨fun _ => hb', fun _ => rfl⟩, fun h => absurd hb' h, (fun _ _ h => nomatch h)⟩⟩
  have hnb : c.testBit s.w ≠ s.up := by simpa using hb
  refine go_cons (go_for (ds := natsD s.takes) (fun i e => ∃ (q : Nat) (v : Slt), e = [.fz s.d, .fz (.tup [.int (m : Int), .int (c : Int)]), .fz (.int (q : Int)), .fz (.int (c : Int)), v] ∧ ∀ j, q.testBit j = (m.testBit j && !decide (j ∈ s.takes.take i))) (srcT_ok (dO_ok rfl rfl rfl)) ⟨m, .un, rfl, by simp⟩ ?_ ?_)
  · rintro i x e hi ⟨q, v, rfl, hq⟩
    obtain ⟨p, hp, rfl⟩ := nats_get hi
    have hpm := List.mem_of_getElem? hp
    have hil : i < s.takes.length := (List.getElem?_eq_some_iff.mp hp).1
    have hpn : p ∉ s.takes.take i := nodup_take hs.t.nd hp
    have htk : s.takes.take (i + 1) = s.takes.take i ++ [p] := by rw [List.take_succ, hp]; rfl
    have hb1 : q.testBit p = true := by rw [hq, ht p hpm]; simp [hpn]
    have hlt := hs.t.lt p hpm
    obtain ⟨r, er, hr⟩ := subN_place (p := p) (by omega) hb1
    refine ⟨_, rfl, ?_⟩
    refine go_set (dO_ok rfl (dO_ok rfl rfl (shl1 p (by omega))) er) ⟨r, _, rfl, fun j => ?_⟩
    rw [hr, hq, htk]
    by_cases e1 : j = p
    · subst e1; simp
    · by_cases e2 : j ∈ s.takes.take i <;> simp [e1, e2]
  rintro e ⟨q, v, rfl, hq⟩
  rw [List.length_map, List.length_map, List.take_of_length_le (Nat.le_refl _)] at hq
  have hc : compL (gset 0) tTrue (dO eqF (dO andD (dO shrD (dV 1) (dV 0)) (dC (.int 1))) (dC (.int 1))) [.un, .fz (.int (q : Int))] (natsD s.fills) = some ((s.fills.map fun p => q.testBit p).map Dat.bl) := by
    rw [natsD_map, compL_all (fun p : Nat => Dat.int (p : Int)) (fun p : Nat => .bl (q.testBit p)) s.fills fun p _ => ⟨[.fz (.int (p : Int)), .fz (.int (q : Int))], rfl, rfl, dO_ok (dO_ok (dO_ok rfl rfl (shrN q p)) rfl (and1N q p)) rfl (eq1_bit _)⟩, List.map_map]
    rfl
  refine go_cons (go_if (dT_ok (dF_ok (aCons_ok (dL_ok (dComp_ok (xs := natsD s.fills) (env' := [.un, .fz (.int (q : Int))]) (srcT_ok (dO_ok rfl rfl rfl)) rfl hc)) rfl) (bls_any _))) (fun hb => ?_) (fun hb => go_nil ?_))
  · rw [List.any_map, List.any_eq_true] at hb
    obtain ⟨p, hp, hpq⟩ := hb
    have hpq' : q.testBit p = true := hpq
    rw [hq, Bool.and_eq_true] at hpq'
    refine go_ret rfl ⟨.crowded, rfl, ⟨⟨(fun h => nomatch h), fun h => absurd h hnb⟩, fun _ => ⟨fun _ => ⟨p, hp, hpq'.1, by simpa using hpq'.2⟩, fun _ => rfl⟩, (fun _ _ h => nomatch h)⟩⟩
  have hnc : ∀ p ∈ s.fills, q.testBit p = false := fun p hp => by
    cases h : q.testBit p with
    | false => rfl
    | true =>
      have : (List.map (fun p => q.testBit p) s.fills).any id = true := by rw [List.any_map, List.any_eq_true]; exact ⟨p, hp, h⟩
      rw [this] at hb; cases hb
  refine go_cons (go_for (ds := natsD s.fills) (fun i e => ∃ (r : Nat) (v : Slt), e = [.fz s.d, .fz (.tup [.int (m : Int), .int (c : Int)]), .fz (.int (r : Int)), .fz (.int (c : Int)), v] ∧ ∀ j, r.testBit j = (q.testBit j || decide (j ∈ s.fills.take i))) (srcT_ok (dO_ok rfl rfl rfl)) ⟨q, _, rfl, by simp⟩ ?_ ?_)
  · rintro i x e hi ⟨r, v, rfl, hr⟩
    obtain ⟨p, hp, rfl⟩ := nats_get hi
    have hpm := List.mem_of_getElem? hp
    have hil : i < s.fills.length := (List.getElem?_eq_some_iff.mp hp).1
    have hpn : p ∉ s.fills.take i := nodup_take hs.f.nd hp
    have htk : s.fills.take (i + 1) = s.fills.take i ++ [p] := by rw [List.take_succ, hp]; rfl
    have hb1 : r.testBit p = false := by rw [hr, hnc p hpm]; simp [hpn]
    have hlt := hs.f.lt p hpm
    refine ⟨_, rfl, ?_⟩
    refine go_set (dO_ok rfl (dO_ok rfl rfl (shl1 p (by omega))) (addN_place hb1)) ⟨_, _, rfl, fun j => ?_⟩
    rw [Nat.testBit_or, hr, htk, Nat.testBit_two_pow]
    by_cases e1 : j = p
    · subst e1; simp
    · have e3 : ¬ p = j := fun h => e1 h.symm
      by_cases e2 : j ∈ s.fills.take i <;> simp [e1, e2, e3]
  rintro e ⟨r, v', rfl, hr⟩
  rw [List.length_map, List.length_map, List.take_of_length_le (Nat.le_refl _)] at hr
  have hfin : ∀ j, r.testBit j = ((m.testBit j && !decide (j ∈ s.takes)) || decide (j ∈ s.fills)) := fun j => by rw [hr, hq]
  have hnk : ¬ ∃ p ∈ s.fills, m.testBit p = true ∧ p ∉ s.takes := by
    rintro ⟨p, hp, h1, h2⟩
    have := hnc p hp
    rw [hq, h1] at this
    simp [h2] at this
  refine go_cons (go_if (dT_ok (b := s.up) (dO_ok rfl rfl rfl)) (fun hu => ?_) (fun hu => go_nil ?_))
  · have hf : c.testBit s.w = false := by cases h : c.testBit s.w with | false => rfl | true => exact absurd (h.trans hu.symm) hnb
    refine go_ret (aTup_ok (aCons_ok rfl (aCons_ok (dO_ok rfl (dO_ok rfl (dO_ok rfl rfl rfl) (shl1 s.w (by omega))) (addN_place hf)) rfl)) (by simp)) ⟨.at r (c ||| 2 ^ s.w), rfl, ⟨⟨(fun h => nomatch h), fun h => absurd h hnb⟩, fun _ => ⟨(fun h => nomatch h), fun h => absurd h hnk⟩, fun m' c' h => ?_⟩⟩
    cases h
    refine ⟨hfin, fun j => ?_⟩
    rw [Nat.testBit_or, Nat.testBit_two_pow, hu]
    by_cases e1 : j = s.w
    · subst e1; simp
    · have e3 : ¬ s.w = j := fun h => e1 h.symm
      simp [e1, e3]
  · have hf : c.testBit s.w = true := by cases h : c.testBit s.w with | true => rfl | false => exact absurd (h.trans hu.symm) hnb
    obtain ⟨c2, e2, hc2⟩ := subN_place (p := s.w) (by omega) hf
    refine go_ret (aTup_ok (aCons_ok rfl (aCons_ok (dO_ok rfl (dO_ok rfl (dO_ok rfl rfl rfl) (shl1 s.w (by omega))) e2) rfl)) (by simp)) ⟨.at r c2, rfl, ⟨⟨(fun h => nomatch h), fun h => absurd h hnb⟩, fun _ => ⟨(fun h => nomatch h), fun h => absurd h hnk⟩, fun m' c' h => ?_⟩⟩
    cases h
    refine ⟨hfin, fun j => ?_⟩
    rw [hc2, hu]
    by_cases e1 : j = s.w
    · subst e1; simp
    · simp [e1]
section
variable {N : Ev → Prop} {R : Dat → Prop} {g h : Ev → Fl} {env e' e3 : Ev} {f : Ev → Option Dat} {t : Ev → Option Bool} {d : Dat} {i : Nat} {c : Str} {fl : List (Str × XD)} {sub : Str → Bool} {F : List Dat → Rs} {fs : Ev → Option (List Dat)} {ds : List Dat}
theorem go_tryN (e : g env = .next e') (q : N e') : Go (sTry sub i g h env) N R := by unfold sTry; rw [e]; exact ⟨q⟩
theorem go_tryX (e : g env = .exc e' c fl) (hs : sub c = true) (e2 : h (e'.set i (.fz (.exc c fl))) = .next e3) (q : N (e3.set i .un)) : Go (sTry sub i g h env) N R := by
  unfold sTry; rw [e]; dsimp only; rw [if_pos hs, e2]; exact ⟨q⟩
theorem setX_ok (e : fs env = some ds) (h : F ds = .ok d) : sSetX i F fs env = .next (env.set i (.fz d)) := by unfold sSetX; rw [e]; dsimp only; rw [h]
theorem setX_exc (e : fs env = some ds) (h : F ds = .exc c fl) : sSetX i F fs env = .exc env c fl := by unfold sSetX; rw [e]; dsimp only; rw [h]
theorem bs_set (e : f env = some d) : bCons (sSet i f) h env = h (env.set i (.fz d)) := by unfold bCons sSet; rw [e]
theorem bs_ifF {k : Ev → Fl} (e : t env = some false) : bCons (sIf t g bNil) k env = k env := by unfold bCons sIf; rw [e]; rfl
theorem bs_ifX {k k2 : Ev → Fl} (e : t env = some true) (e2 : g env = .exc e' c fl) : bCons (sIf t g k2) k env = .exc e' c fl := by unfold bCons sIf; rw [e]; dsimp only; rw [e2]
theorem raise_ok {G : List Dat → Option (List (Str × XD))} (e : fs env = some ds) (h : G ds = some fl) : sRaise c G fs env = .exc env c fl := by unfold sRaise; rw [e]; dsimp only [Option.bind]; rw [h]
theorem runX {n p : Nat} (hp : ds.length = p) (e : g (startD n ds) = .exc e' c fl) : runD n p g ds = .exc c fl := by unfold runD; rw [if_pos hp, e]
theorem runR {n p : Nat} (hp : ds.length = p) (e : g (startD n ds) = .ret d) : runD n p g ds = .ok d := by unfold runD; rw [if_pos hp, e]
end
theorem wire_ok (G : G3) (k : Nat) (s : St3) (h : G.steps[k]? = some s) : F_wire_of [G.d, .int (k : Int)] = .ok (.int (s.w : Int)) := by
  refine ok_of (run_of (n := 2) (p := 2) (ds := [G.d, .int (k : Int)]) (g := g_wire_of) (R := fun d => d = .int (s.w : Int)) rfl ?_)
  show Go (g_wire_of [.fz G.d, .fz (.int (k : Int))]) _ _
  unfold g_wire_of
  exact go_ret (dO_ok (dO_ok (dO_ok rfl rfl rfl) rfl (ixT_nat (x := s.d) (by rw [List.getElem?_map, h]; rfl))) rfl rfl) rfl
theorem rise_ok (G : G3) (k : Nat) (s : St3) (h : G.steps[k]? = some s) : F_is_rise [G.d, .int (k : Int)] = .ok (.bl s.up) := by
  refine ok_of (run_of (n := 2) (p := 2) (ds := [G.d, .int (k : Int)]) (g := g_is_rise) (R := fun d => d = .bl s.up) rfl ?_)
  show Go (g_is_rise [.fz G.d, .fz (.int (k : Int))]) _ _
  unfold g_is_rise
  exact go_ret (dO_ok (dO_ok (dO_ok rfl rfl rfl) rfl (ixT_nat (x := s.d) (by rw [List.getElem?_map, h]; rfl))) rfl rfl) rfl
theorem fills_ok (G : G3) (k : Nat) (s : St3) (h : G.steps[k]? = some s) : F_fills_of [G.d, .int (k : Int)] = .ok (.tup (natsD s.fills)) := by
  refine ok_of (run_of (n := 2) (p := 2) (ds := [G.d, .int (k : Int)]) (g := g_fills_of) (R := fun d => d = .tup (natsD s.fills)) rfl ?_)
  show Go (g_fills_of [.fz G.d, .fz (.int (k : Int))]) _ _
  unfold g_fills_of
  exact go_ret (dO_ok (dO_ok (dO_ok rfl rfl rfl) rfl (ixT_nat (x := s.d) (by rw [List.getElem?_map, h]; rfl))) rfl rfl) rfl
theorem one_ok (n p : Nat) : F_has_one [.int (n : Int), .int (p : Int)] = .ok (.bl (n.testBit p)) := by
  refine ok_of (run_of (n := 2) (p := 2) (ds := [.int (n : Int), .int (p : Int)]) (g := g_has_one) (R := fun d => d = .bl (n.testBit p)) rfl ?_)
  show Go (g_has_one [.fz (.int (n : Int)), .fz (.int (p : Int))]) _ _
  unfold g_has_one
  exact go_ret (dO_ok (dO_ok (dO_ok rfl rfl (shrN n p)) rfl (and1N n p)) rfl (eq1_bit _)) rfl
theorem ne0 (a : Nat) : neF (.int (a : Int)) (.int 0) = some (.bl (!(a == 0))) := by
  rw [neI2]
  congr 3
  rw [Bool.eq_iff_iff, beq_iff_eq, beq_iff_eq]; omega
def outOf (k : Nat) : Dn → Rs
  | .broken => .exc "Broken" ([(("way" : Str), XD.nums [(k : Int)])] : List (Str × XD))
  | .crowded => .exc "Crowded" ([(("way" : Str), XD.nums [(k : Int)])] : List (Str × XD))
  | .at m c => .ok (Dn.at m c).d
theorem gW_one (k : Nat) (hk : k < 1000) : gW "way" [.lst [.int (k : Int)]] = some ([(("way" : Str), XD.nums [(k : Int)])] : List (Str × XD)) := by
  have h1 : smallsB [(k : Int)] = true := by
    unfold smallsB
    simp
    omega
  unfold gW
  dsimp only
  rw [show intsD [Dat.int (k : Int)] = some [(k : Int)] from intsD_map [(k : Int)]]
  exact if_pos h1
theorem behind_ok {size : Nat} (G : G3) (hG : G.Ok size) (hz : size ≤ 64) (m c k : Nat) (s : St3) (h : G.steps[k]? = some s) (r : Dn) (hr : DnOk s m c r) : F_behind [G.d, .tup [.int (m : Int), .int (c : Int)], .int (k : Int)] = outOf k r := by
  have hs := hG.st s (List.mem_of_getElem? h)
  have hk : k < 1000 := by have := (List.getElem?_eq_some_iff.mp h).1; have := hG.s2; omega
  have hw : s.w < 10 := by have := hs.w; have := hG.w2; omega
  have e0 : startD 6 [G.d, .tup [.int (m : Int), .int (c : Int)], .int (k : Int)] = [.fz G.d, .fz (.tup [.int (m : Int), .int (c : Int)]), .fz (.int (k : Int)), .un, .un, .un] := rfl
  have hway : ∀ v4 v5 : Slt, (aCons (dL (aLst (aCons (dV 2) aNil))) aNil) [.fz G.d, .fz (.tup [.int (m : Int), .int (c : Int)]), .fz (.int (k : Int)), .fz (.int (s.w : Int)), v4, v5] = some [.lst [.int (k : Int)]] := fun _ _ => rfl
  have s1 : g_behind [.fz G.d, .fz (.tup [.int (m : Int), .int (c : Int)]), .fz (.int (k : Int)), .un, .un, .un] = _ := bs_set (dCal_ok (xs := [G.d, .int (k : Int)]) rfl (wire_ok G k s h))
  have t1 : dB (dO eqF (dCal F_has_one (aCons (dO ixD (dV 1) (dC (.int 1))) (aCons (dV 3) aNil))) (dCal F_is_rise (aCons (dV 0) (aCons (dV 2) aNil)))) [.fz G.d, .fz (.tup [.int (m : Int), .int (c : Int)]), .fz (.int (k : Int)), .fz (.int (s.w : Int)), .un, .un] = some (c.testBit s.w == s.up) :=
    dB_ok (dO_ok (dCal_ok (xs := [.int (c : Int), .int (s.w : Int)]) (aCons_ok (dO_ok rfl rfl rfl) rfl) (one_ok c s.w)) (dCal_ok (xs := [G.d, .int (k : Int)]) rfl (rise_ok G k s h)) (eqB' _ _))
  by_cases hb : c.testBit s.w = s.up
  · have er : r = .broken := hr.b.mpr hb
    subst er
    refine runX (e' := [.fz G.d, .fz (.tup [.int (m : Int), .int (c : Int)]), .fz (.int (k : Int)), .fz (.int (s.w : Int)), .un, .un]) rfl ?_
    rw [e0, s1]
    exact bs_ifX (by rw [hb, beq_self_eq_true] at t1; exact t1) (raise_ok (hway .un .un) (gW_one k hk))
  have hbf : (c.testBit s.w == s.up) = false := by simpa using hb
  rw [hbf] at t1
  obtain ⟨lf, ek, hlf⟩ := andNot_nat m (bitsN s.takes)
  have s2 : bCons (sSet 4 (dO andD (dO ixD (dV 1) (dC (.int 0))) (dU invD (dCal F_bits (aCons (dCal F_takes_of (aCons (dV 0) (aCons (dV 2) aNil))) aNil))))) (bCons (sSet 5 (dCal F_bits (aCons (dCal F_fills_of (aCons (dV 0) (aCons (dV 2) aNil))) aNil))) (bCons (sIf (dB (dO neF (dO andD (dV 4) (dV 5)) (dC (.int 0)))) (sRaise "Crowded" (gW "way") (aCons (dL (aLst (aCons (dV 2) aNil))) aNil)) bNil) (sRet (aTup (aCons (dO orD (dV 4) (dV 5)) (aCons (dO xorD (dO ixD (dV 1) (dC (.int 1))) (dO shlD (dC (.int 1)) (dV 3))) aNil)))))) [.fz G.d, .fz (.tup [.int (m : Int), .int (c : Int)]), .fz (.int (k : Int)), .fz (.int (s.w : Int)), .un, .un] = _ :=
    bs_set (d := .int (lf : Int)) (dO_ok (dO_ok rfl rfl rfl) (dU_ok (dCal_ok (xs := [.tup (natsD s.takes)]) (aCons_ok (dCal_ok (xs := [G.d, .int (k : Int)]) rfl (takes_ok G k s h)) rfl) (bits_ok s.takes fun p hp => by have := hs.t.lt p hp; omega)) (z := .int (-(bitsN s.takes : Int) - 1)) rfl) (by show some (Dat.int (Builtin.bitAnd _ _)) = _; rw [ek]))
  have s3 : bCons (sSet 5 (dCal F_bits (aCons (dCal F_fills_of (aCons (dV 0) (aCons (dV 2) aNil))) aNil))) (bCons (sIf (dB (dO neF (dO andD (dV 4) (dV 5)) (dC (.int 0)))) (sRaise "Crowded" (gW "way") (aCons (dL (aLst (aCons (dV 2) aNil))) aNil)) bNil) (sRet (aTup (aCons (dO orD (dV 4) (dV 5)) (aCons (dO xorD (dO ixD (dV 1) (dC (.int 1))) (dO shlD (dC (.int 1)) (dV 3))) aNil))))) [.fz G.d, .fz (.tup [.int (m : Int), .int (c : Int)]), .fz (.int (k : Int)), .fz (.int (s.w : Int)), .fz (.int (lf : Int)), .un] = _ :=
    bs_set (d := .int (bitsN s.fills : Int)) (dCal_ok (xs := [.tup (natsD s.fills)]) (aCons_ok (dCal_ok (xs := [G.d, .int (k : Int)]) rfl (fills_ok G k s h)) rfl) (bits_ok s.fills fun p hp => by have := hs.f.lt p hp; omega))
  have t2 : dB (dO neF (dO andD (dV 4) (dV 5)) (dC (.int 0))) [.fz G.d, .fz (.tup [.int (m : Int), .int (c : Int)]), .fz (.int (k : Int)), .fz (.int (s.w : Int)), .fz (.int (lf : Int)), .fz (.int (bitsN s.fills : Int))] = some (!((lf &&& bitsN s.fills) == 0)) := dB_ok (dO_ok (dO_ok rfl rfl (andN lf _)) rfl (ne0 _))
  have key : ∀ p, (lf &&& bitsN s.fills).testBit p = true ↔ p ∈ s.fills ∧ m.testBit p = true ∧ p ∉ s.takes := fun p => by
    rw [Nat.testBit_and, hlf, bitsN_at, bitsN_at]
    simp only [Bool.and_eq_true, decide_eq_true_eq, Bool.not_eq_true', decide_eq_false_iff_not]
    constructor
    · rintro ⟨⟨h1, h2⟩, h3⟩; exact ⟨h3, h1, h2⟩
    · rintro ⟨h3, h1, h2⟩; exact ⟨⟨h1, h2⟩, h3⟩
  have hcr : (!((lf &&& bitsN s.fills) == 0)) = true ↔ ∃ p ∈ s.fills, m.testBit p = true ∧ p ∉ s.takes := by
    constructor
    · intro z
      have hne : lf &&& bitsN s.fills ≠ 0 := by simpa using z
      obtain ⟨p, hp⟩ := Nat.exists_testBit_of_ne_zero hne
      obtain ⟨h1, h2, h3⟩ := (key p).mp hp
      exact ⟨p, h1, h2, h3⟩
    · rintro ⟨p, h1, h2, h3⟩
      have hp := (key p).mpr ⟨h1, h2, h3⟩
      have hne : lf &&& bitsN s.fills ≠ 0 := fun z => by rw [z] at hp; simp at hp
      simpa using hne
  cases hq : (!((lf &&& bitsN s.fills) == 0)) with
  | true =>
    have er : r = .crowded := (hr.k hb).mpr (hcr.mp hq)
    subst er
    refine runX (e' := [.fz G.d, .fz (.tup [.int (m : Int), .int (c : Int)]), .fz (.int (k : Int)), .fz (.int (s.w : Int)), .fz (.int (lf : Int)), .fz (.int (bitsN s.fills : Int))]) rfl ?_
    rw [e0, s1]
    refine (bs_ifF t1).trans ?_
    refine s2.trans ?_
    refine s3.trans ?_
    exact bs_ifX (by rw [hq] at t2; exact t2) (raise_ok (hway _ _) (gW_one k hk))
  | false =>
    have nb : r ≠ .broken := fun z => hb (hr.b.mp z)
    have nc : r ≠ .crowded := fun z => by have := hcr.mpr ((hr.k hb).mp z); rw [hq] at this; cases this
    cases r with
    | broken => exact absurd rfl nb
    | crowded => exact absurd rfl nc
    | «at» m' c' =>
      obtain ⟨hm, hc⟩ := hr.a m' c' rfl
      have em : lf ||| bitsN s.fills = m' := Nat.eq_of_testBit_eq fun j => by rw [Nat.testBit_or, hlf, bitsN_at, bitsN_at, hm]
      have ec : c ^^^ 2 ^ s.w = c' := Nat.eq_of_testBit_eq fun j => by
        rw [Nat.testBit_xor, Nat.testBit_two_pow, hc]
        by_cases e1 : j = s.w
        · subst e1
          rw [if_pos rfl]
          revert hb
          cases c.testBit s.w <;> cases s.up <;> simp
        · have e3 : ¬ s.w = j := fun z => e1 z.symm
          simp [e1, e3]
      refine runR rfl ?_
      rw [e0, s1]
      refine (bs_ifF t1).trans ?_
      refine s2.trans ?_
      refine s3.trans ?_
      refine (bs_ifF (by rw [hq] at t2; exact t2)).trans ?_
      unfold sRet
      rw [aTup_ok (xs := [.int (m' : Int), .int (c' : Int)]) (aCons_ok (x := .int (m' : Int)) (dO_ok rfl rfl (by rw [orN, em])) (aCons_ok (x := .int (c' : Int)) (dO_ok (dO_ok rfl rfl rfl) (dO_ok rfl rfl (shl1 s.w (by omega))) (by rw [xorN, ec])) rfl)) (by simp)]
      rfl
end K21
set_option Elab.async false
set_option linter.all false
set_option maxRecDepth 100000
namespace K21
open PySem PySem.Spec PyProof.Rows L2
theorem dIX_ok {sb : Str → Option Bool} {f : Ev → Option Dat} {env : Ev} {c : Str} {fl : List (Str × XD)} {b : Bool} (h : f env = some (.exc c fl)) (hs : sb c = some b) : dIX sb f env = some (.bl b) := by unfold dIX; rw [h]; show (sb c).map Dat.bl = _; rw [hs]; rfl
theorem dM_ok {T : String} {F : Dat → List Dat → Option Dat} {f : Ev → Option Dat} {fs : Ev → Option (List Dat)} {env : Ev} {x : Dat} {ds : List Dat} (h1 : f env = some x) (ht : tyOk T x = true) (h2 : fs env = some ds) : dM T F f fs env = F x ds := by unfold dM; rw [h1]; show (if tyOk T x = true then _ else _) = _; rw [if_pos ht, h2]; rfl
theorem dFldX_ok {okc : Str → Bool} {fd : Str} {f : Ev → Option Dat} {env : Ev} {c : Str} {fl : List (Str × XD)} {x : XD} (h : f env = some (.exc c fl)) (hs : okc c = true) (hx : fl.lookup fd = some x) : dFldX okc fd f env = some x.d := by unfold dFldX; rw [h]; show (if okc c = true then (fl.lookup fd).map XD.d else none) = _; rw [if_pos hs, hx]; rfl
theorem sort_b (fl : List (Str × XD)) : F__law_sort [.exc "Broken" fl] = .ok (.str "broken") := by
  refine ok_of (run_of (n := 2) (p := 1) (ds := [.exc "Broken" fl]) (g := g__law_sort) (R := fun d => d = .str "broken") rfl ?_)
  show Go (g__law_sort [.fz (.exc "Broken" fl), .un]) _ _
  unfold g__law_sort
  refine go_cons (go_set (d := .lst ([true, false, false, false].map Dat.bl)) (dL_ok (aLst_ok (aCons_ok (dIX_ok rfl (by decide +kernel)) (aCons_ok (dIX_ok rfl (by decide +kernel)) (aCons_ok (dIX_ok rfl (by decide +kernel)) (aCons_ok (dIX_ok rfl (by decide +kernel)) rfl)))) (by simp))) ?_)
  refine go_cons (go_set (d := .lst ([true, false, false, false, false, false, false, false].map Dat.bl)) (dO_ok rfl (dL_ok (aLst_ok (aCons_ok (dIX_ok rfl (b := false) (by decide +kernel)) (aCons_ok (dIX_ok rfl (b := false) (by decide +kernel)) (aCons_ok (dIX_ok rfl (b := false) (by decide +kernel)) (aCons_ok (dIX_ok rfl (b := false) (by decide +kernel)) rfl)))) (by simp))) rfl) ?_)
  refine go_cons (go_ifF (tOr_ok (a := false) (b := false) (dB_ok (dO_ok ((dM_ok rfl rfl rfl).trans (show _ = some (Dat.int 1) from rfl)) rfl rfl)) fun _ => tNot_ok (b := true) (dT_ok (dIX_ok rfl (by decide +kernel)))) (go_nil ?_))
  exact go_ret (dO_ok rfl ((dM_ok rfl rfl rfl).trans (show _ = some (Dat.int 0) from rfl)) rfl) rfl
theorem sort_c (fl : List (Str × XD)) : F__law_sort [.exc "Crowded" fl] = .ok (.str "crowded") := by
  refine ok_of (run_of (n := 2) (p := 1) (ds := [.exc "Crowded" fl]) (g := g__law_sort) (R := fun d => d = .str "crowded") rfl ?_)
  show Go (g__law_sort [.fz (.exc "Crowded" fl), .un]) _ _
  unfold g__law_sort
  refine go_cons (go_set (d := .lst ([false, true, false, false].map Dat.bl)) (dL_ok (aLst_ok (aCons_ok (dIX_ok rfl (by decide +kernel)) (aCons_ok (dIX_ok rfl (by decide +kernel)) (aCons_ok (dIX_ok rfl (by decide +kernel)) (aCons_ok (dIX_ok rfl (by decide +kernel)) rfl)))) (by simp))) ?_)
  refine go_cons (go_set (d := .lst ([false, true, false, false, false, false, false, false].map Dat.bl)) (dO_ok rfl (dL_ok (aLst_ok (aCons_ok (dIX_ok rfl (b := false) (by decide +kernel)) (aCons_ok (dIX_ok rfl (b := false) (by decide +kernel)) (aCons_ok (dIX_ok rfl (b := false) (by decide +kernel)) (aCons_ok (dIX_ok rfl (b := false) (by decide +kernel)) rfl)))) (by simp))) rfl) ?_)
  refine go_cons (go_ifF (tOr_ok (a := false) (b := false) (dB_ok (dO_ok ((dM_ok rfl rfl rfl).trans (show _ = some (Dat.int 1) from rfl)) rfl rfl)) fun _ => tNot_ok (b := true) (dT_ok (dIX_ok rfl (by decide +kernel)))) (go_nil ?_))
  exact go_ret (dO_ok rfl ((dM_ok rfl rfl rfl).trans (show _ = some (Dat.int 1) from rfl)) rfl) rfl
theorem eq_one (k : Nat) : eqF (.lst [.int (k : Int)]) (.lst [.int (k : Int)]) = some (.bl true) := by
  unfold eqF
  rw [if_pos (by rfl)]
  show some (Dat.bl (((k : Int) == (k : Int)) && true)) = _
  rw [beq_self_eq_true]; rfl
theorem ne_refl (r : Dn) : neF r.d r.d = some (.bl false) := by
  cases r with
  | broken => unfold neF; rw [if_pos (by rfl)]; show some (Dat.bl (!((("broken" : Str)) == ("broken" : Str)))) = _; rw [beq_self_eq_true]; rfl
  | crowded => unfold neF; rw [if_pos (by rfl)]; show some (Dat.bl (!((("crowded" : Str)) == ("crowded" : Str)))) = _; rw [beq_self_eq_true]; rfl
  | «at» m c =>
    unfold neF
    rw [if_pos (by rfl)]
    show some (Dat.bl (!(((m : Int) == (m : Int)) && (((c : Int) == (c : Int)) && true)))) = _
    rw [beq_self_eq_true, beq_self_eq_true]; rfl
theorem asked_ok {size : Nat} (G : G3) (hG : G.Ok size) (hz : size ≤ 64) (m c k : Nat) (s : St3) (h : G.steps[k]? = some s) (r : Dn) (hr : DnOk s m c r) : F__law_asked [G.d, .tup [.int (m : Int), .int (c : Int)], .int (k : Int)] = .ok r.d := by
  have hb := behind_ok G hG hz m c k s h r hr
  refine ok_of (run_of (n := 7) (p := 3) (ds := [G.d, .tup [.int (m : Int), .int (c : Int)], .int (k : Int)]) (g := g__law_asked) (R := fun d => d = r.d) rfl ?_)
  show Go (g__law_asked [.fz G.d, .fz (.tup [.int (m : Int), .int (c : Int)]), .fz (.int (k : Int)), .un, .un, .un, .un]) _ _
  unfold g__law_asked
  refine go_cons (go_set (d := .non) rfl ?_)
  refine go_cons (go_set (d := .non) rfl ?_)
  have fin : ∀ (cl : Str) (t : Str), subAll ["Broken", "Crowded"] cl = true → F_behind [G.d, .tup [.int (m : Int), .int (c : Int)], .int (k : Int)] = .exc cl ([(("way" : Str), XD.nums [(k : Int)])] : List (Str × XD)) → F__law_sort [.exc cl ([(("way" : Str), XD.nums [(k : Int)])] : List (Str × XD))] = .ok (.str t) → t ∈ (["broken", "crowded"] : List Str) → r.d = .str t → Go (bCons (sTry (subAll ["Broken", "Crowded"]) 5 (sSetX 3 F_behind (aCons (dV 0) (aCons (dV 1) (aCons (dV 2) aNil)))) (sSet 4 (dV 5)))
      (bCons (sIf (dB (dO isF (dV 4) (dC .non))) (sRet (dV 3)) bNil)
      (bCons (sSet 6 (dCal F__law_sort (aCons (dV 4) aNil)))
      (bCons (sIf (tAndD (dB (dO inF (dV 6) (aTup (aCons (dC (.str "broken")) (aCons (dC (.str "crowded")) aNil))))) (dB (dO eqF (dFldX (subAll ["Broken", "Crowded"]) "way" (dV 4)) (dL (aLst (aCons (dV 2) aNil)))))) (sRet (dV 6)) bNil)
      (sRet (dC (.str "other")))))) [.fz G.d, .fz (.tup [.int (m : Int), .int (c : Int)]), .fz (.int (k : Int)), .fz .non, .fz .non, .un, .un]) (fun _ => Dat.non = r.d) (fun d => d = r.d) := fun cl t h1 h2 h3 h4 h5 => by
    refine go_cons (go_tryX (setX_exc (ds := [G.d, .tup [.int (m : Int), .int (c : Int)], .int (k : Int)]) rfl h2) h1 (e3 := [.fz G.d, .fz (.tup [.int (m : Int), .int (c : Int)]), .fz (.int (k : Int)), .fz .non, .fz (.exc cl [(("way" : Str), XD.nums [(k : Int)])]), .fz (.exc cl [(("way" : Str), XD.nums [(k : Int)])]), .un]) rfl ?_)
    show Go _ _ _
    refine go_cons (go_ifF (dB_ok (dO_ok rfl rfl rfl)) (go_nil ?_))
    refine go_cons (go_set (dCal_ok (xs := [.exc cl [(("way" : Str), XD.nums [(k : Int)])]]) rfl h3) ?_)
    refine go_cons (go_ifT (tAnd_ok (a := true) (b := true) (dB_ok (dO_ok rfl (aTup_ok rfl (by simp)) ((inF_tup t ["broken", "crowded"]).trans (by rw [decide_eq_true h4])))) fun _ => dB_ok (dO_ok (dFldX_ok (x := XD.nums [(k : Int)]) rfl h1 (by simp [List.lookup])) rfl (eq_one k))) ?_)
    exact go_ret rfl h5.symm
  cases r with
  | broken => exact fin "Broken" "broken" (by decide +kernel) hb (sort_b _) (by decide +kernel) rfl
  | crowded => exact fin "Crowded" "crowded" (by decide +kernel) hb (sort_c _) (by decide +kernel) rfl
  | «at» m' c' =>
    refine go_cons (go_tryN (setX_ok (ds := [G.d, .tup [.int (m : Int), .int (c : Int)], .int (k : Int)]) rfl hb) ?_)
    exact go_cons (go_ifT (dB_ok (dO_ok rfl rfl rfl)) (go_ret rfl rfl))
theorem plain_ok (a b : Int) : F__law_plain [.tup [.int a, .int b]] = .ok (.bl true) := by
  refine ok_of (run_of (n := 1) (p := 1) (ds := [.tup [.int a, .int b]]) (g := g__law_plain) (R := fun d => d = .bl true) rfl ?_)
  show Go (g__law_plain [.fz (.tup [.int a, .int b])]) _ _
  unfold g__law_plain
  refine go_cons (go_ifF (tOr_ok (a := false) (b := false) (tNot_ok (b := true) (dT_ok (dI_ok rfl rfl k_tt))) fun _ => dB_ok (dO_ok (dF_ok (aCons_ok rfl rfl) rfl) rfl rfl)) (go_nil ?_))
  have hc : compL (gset 0) tTrue (dAnd (dI "int" (dV 0)) (dNot (dI "bool" (dV 0)))) [.un] ([a, b].map Dat.int) = some ([true, true].map Dat.bl) := by
    rw [compL_all Dat.int (fun _ => .bl true) [a, b] fun x _ => ⟨[.fz (.int x)], rfl, rfl, ?_⟩]
    · rfl
    · have h1 : dB (dI "int" (dV 0)) [.fz (.int x)] = some true := dB_ok (dI_ok (d := .int x) rfl rfl k_ii)
      have h2 : dNot (dI "bool" (dV 0)) [.fz (.int x)] = some (.bl true) := dNot_ok (b := false) (dI_ok (d := .int x) rfl rfl k_ib)
      unfold dAnd
      rw [h1]
      exact h2
  exact go_ret (dF_ok (aCons_ok (dL_ok (dComp_ok (xs := [a, b].map Dat.int) (env' := [.un]) (srcT_ok rfl) rfl hc)) rfl) (bls_map [true, true])) rfl
theorem law_ok (ns : List Int) (hl : ns.length ≤ 63) : F_law [.lst (ns.map .int)] = .ok (.bl true) := by
  refine ok_of (run_of (n := 13) (p := 1) (ds := [.lst (ns.map .int)]) (g := g_law) (R := fun d => d = .bl true) rfl ?_)
  show Go (g_law [.fz (.lst (ns.map .int)), .un, .un, .un, .un, .un, .un, .un, .un, .un, .un, .un, .un]) _ _
  unfold g_law
  obtain ⟨c, ec, lc⟩ := mix_ok ns 0 (by omega)
  refine go_cons (go_set (dCal_ok (xs := [scr ns, .int 0]) rfl ec) ?_)
  obtain ⟨size, es, hz1, hz2⟩ : ∃ size : Nat, ixD (.lst [.int 64, .int ((3 + c / 2 % 6 : Nat) : Int)]) (.int ((c % 2 : Nat) : Int)) = some (.int (size : Int)) ∧ 1 ≤ size ∧ size ≤ 64 := by
    rw [pick2 _ _ (by omega) (by omega)]
    by_cases h : ((c % 2 : Nat) : Int) = 1
    · rw [if_pos h]; exact ⟨_, rfl, by omega, by omega⟩
    · rw [if_neg h]; exact ⟨64, rfl, by omega, by omega⟩
  refine go_cons (go_set (dO_ok (dL_ok (aLst_ok (aCons_ok rfl (aCons_ok (dO_ok rfl (dO_ok (dO_ok rfl rfl (fdivN c 2 (by omega) (by omega))) rfl (modN _ 6 (by omega))) (addN 3 _)) rfl)) (by simp))) (dO_ok rfl rfl (modN c 2 (by omega))) es) ?_)
  obtain ⟨G, eG, hG⟩ := any_ok ns 4 size (by omega) hz1 hz2
  refine go_cons (go_set (dCal_ok (xs := [scr ns, .int 4, .int (size : Int)]) rfl eG) ?_)
  obtain ⟨m1, em1, lm1⟩ := mix_ok ns 1 (by omega)
  obtain ⟨m2, em2, lm2⟩ := mix_ok ns 2 (by omega)
  obtain ⟨m3, em3, lm3⟩ := mix_ok ns 3 (by omega)
  have w2 := hG.w2
  have s1 := hG.s1
  have s2 := hG.s2
  have hwl : lenD [.tup (G.wires.map wirD)] = some (.int (G.wires.length : Int)) := by show some (Dat.int _) = _; rw [List.length_map]
  refine go_cons (go_set (dO_ok (dCal_ok (xs := [scr ns, .int 1]) rfl em1) (dCal_ok (xs := [scr ns, .int 2]) rfl em2) (mulN m1 m2 (by omega))) ?_)
  generalize m1 * m2 = some0
  refine go_cons (go_for (ds := numb 0 (G.steps.map St3.d)) (fun i e => ∃ v5 v6 v7 v8 v9 v10 v11 v12 : Slt, e = [.fz (scr ns), .fz (.int (c : Int)), .fz (.int (size : Int)), .fz G.d, .fz (.int (some0 : Int)), v5, v6, v7, v8, v9, v10, v11, v12]) (srcE_ok (dO_ok rfl rfl rfl)) ⟨_, _, _, _, _, _, _, _, rfl⟩ ?_ ?_)
  · rintro k d e hi ⟨v5, v6, v7, v8, v9, v10, v11, v12, rfl⟩
    rw [numb_get, List.getElem?_map, Nat.zero_add] at hi
    obtain ⟨s, hs, hd⟩ : ∃ s, G.steps[k]? = some s ∧ d = .tup [.int (k : Int), s.d] := by
      cases hq : G.steps[k]? with
      | none => rw [hq] at hi; cases hi
      | some s => rw [hq] at hi; cases hi; exact ⟨s, rfl, rfl⟩
    subst hd
    have hok := hG.st s (List.mem_of_getElem? hs)
    have hkl := (List.getElem?_eq_some_iff.mp hs).1
    refine ⟨[.fz (scr ns), .fz (.int (c : Int)), .fz (.int (size : Int)), .fz G.d, .fz (.int (some0 : Int)), .fz (.int (k : Int)), .fz s.d, v7, v8, v9, v10, v11, v12], rfl, ?_⟩
    refine go_cons (go_set (dO_ok (dO_ok (dO_ok rfl rfl (shrN some0 k)) (dO_ok (dO_ok (dCal_ok (xs := [scr ns, .int 3]) rfl em3) rfl (mulN m3 1000000000039 (by omega))) rfl (addN _ some0)) (andN _ _)) (dO_ok rfl rfl (shl1 size (by omega))) (modN _ _ (Nat.two_pow_pos _))) ?_)
    generalize (some0 / 2 ^ k &&& m3 * 1000000000039 + some0) % 2 ^ size = mk
    have rest : ∀ (m : Nat) (v8 : Slt), Go (bCons (sSet 9 (aTup (aCons (dV 7) (aCons (dO modD (dO shrD (dV 4) (dO mulE (dC (.int 3)) (dV 5))) (dO shlD (dC (.int 1)) (dF lenD (aCons (dO ixD (dV 3) (dC (.int 0))) aNil)))) aNil))))
      (bCons (sSet 10 (dCal F_can (aCons (dV 3) (aCons (dV 9) (aCons (dV 5) aNil)))))
      (bCons (sIf (tOrD (tNotD (dT (dI "bool" (dV 10)))) (dB (dO neF (dV 10) (dCal F__law_can (aCons (dV 6) (aCons (dV 7) aNil)))))) (sRet (dC (.bl false))) bNil)
      (sIf (dT (dV 10)) (bCons (sSet 11 (dCal F__law_done (aCons (dV 6) (aCons (dV 9) aNil))))
      (bCons (sSet 12 (dCal F__law_asked (aCons (dV 3) (aCons (dV 9) (aCons (dV 5) aNil)))))
      (sIf (tOrD (dB (dO neF (dV 12) (dV 11))) (tOrD (tAndD (tNotD (dT (dI "str" (dV 11)))) (tNotD (dT (dCal F__law_plain (aCons (dV 12) aNil))))) (dB (dO neF (dCal F__law_asked (aCons (dV 3) (aCons (dV 9) (aCons (dV 5) aNil)))) (dV 11))))) (sRet (dC (.bl false))) bNil))) bNil))) [.fz (scr ns), .fz (.int (c : Int)), .fz (.int (size : Int)), .fz G.d, .fz (.int (some0 : Int)), .fz (.int (k : Int)), .fz s.d, .fz (.int (m : Int)), v8, v9, v10, v11, v12]) (fun e => ∃ v5 v6 v7 v8 v9 v10 v11 v12 : Slt, e = [.fz (scr ns), .fz (.int (c : Int)), .fz (.int (size : Int)), .fz G.d, .fz (.int (some0 : Int)), v5, v6, v7, v8, v9, v10, v11, v12]) (fun d => d = .bl true) := fun m v8 => by
      refine go_cons (go_set (aTup_ok (aCons_ok rfl (aCons_ok (dO_ok (dO_ok rfl (dO_ok rfl rfl (mulN' 3 k (by omega))) (shrN some0 _)) (dO_ok rfl (dF_ok (aCons_ok (dO_ok rfl rfl rfl) rfl) hwl) (shl1 _ (by omega))) (modN _ _ (Nat.two_pow_pos _))) rfl)) (by simp)) ?_)
      generalize some0 / 2 ^ (3 * k) % 2 ^ G.wires.length = c3
      refine go_cons (go_set (dCal_ok (xs := [G.d, .tup [.int (m : Int), .int (c3 : Int)], .int (k : Int)]) rfl (can_ok G hG hz2 m (.int (c3 : Int)) k s hs)) ?_)
      refine go_cons (go_ifF (tOr_ok (a := false) (b := false) (tNot_ok (b := true) (dT_ok (dI_ok rfl rfl k_bb))) fun _ => dB_ok (dO_ok rfl (dCal_ok (xs := [s.d, .int (m : Int)]) rfl (law_can_ok s m)) (by rw [neB2, beq_self_eq_true]; rfl))) (go_nil ?_))
      refine go_if (dT_ok (b := canB s m) rfl) (fun hc => ?_) (fun hc => go_nil ⟨_, _, _, _, _, _, _, _, rfl⟩)
      obtain ⟨r, er, hr⟩ := done_ok s hok hz2 w2 m c3 (canB_iff.mp hc)
      have ha := asked_ok G hG hz2 m c3 k s hs r hr
      refine go_cons (go_set (dCal_ok (xs := [s.d, .tup [.int (m : Int), .int (c3 : Int)]]) rfl er) ?_)
      refine go_cons (go_set (dCal_ok (xs := [G.d, .tup [.int (m : Int), .int (c3 : Int)], .int (k : Int)]) rfl ha) ?_)
      refine go_ifF (tOr_ok (a := false) (b := false) (dB_ok (dO_ok rfl rfl (ne_refl r))) fun _ => tOr_ok (a := false) (b := false) ?_ fun _ => dB_ok (dO_ok (dCal_ok (xs := [G.d, .tup [.int (m : Int), .int (c3 : Int)], .int (k : Int)]) rfl ha) rfl (ne_refl r))) (go_nil ⟨_, _, _, _, _, _, _, _, rfl⟩)
      cases r with
      | broken => exact tAnd_ok (a := false) (b := false) (tNot_ok (b := true) (dT_ok (dI_ok rfl rfl k_ss))) fun z => nomatch z
      | crowded => exact tAnd_ok (a := false) (b := false) (tNot_ok (b := true) (dT_ok (dI_ok rfl rfl k_ss))) fun z => nomatch z
      | «at» m' c' => exact tAnd_ok (a := true) (b := false) (tNot_ok (b := false) (dT_ok (dI_ok rfl rfl k_ts))) fun _ => tNot_ok (b := true) (dT_ok (dCal_ok (xs := [.tup [.int (m' : Int), .int (c' : Int)]]) rfl (plain_ok _ _)))
    refine go_cons (go_if (b := decide ((0 : Int) < (((c / 16 + k) % 3 : Nat) : Int))) (dB_ok (dO_ok (dO_ok (dO_ok (dO_ok rfl rfl (fdivN c 16 (by omega) (by omega))) rfl (addN _ k)) rfl (modN _ 3 (by omega))) rfl rfl)) (fun hb => ?_) (fun hb => go_nil (rest mk v8)))
    refine go_for (ds := natsD s.takes) (fun j e => ∃ (m : Nat) (v8 : Slt), e = [.fz (scr ns), .fz (.int (c : Int)), .fz (.int (size : Int)), .fz G.d, .fz (.int (some0 : Int)), .fz (.int (k : Int)), .fz s.d, .fz (.int (m : Int)), v8, v9, v10, v11, v12]) (srcT_ok (dO_ok rfl rfl rfl)) ⟨mk, v8, rfl⟩ ?_ ?_
    · rintro j d e hj ⟨m, v8, rfl⟩
      obtain ⟨p, hp, rfl⟩ := nats_get hj
      have := hok.t.lt p (List.mem_of_getElem? hp)
      refine ⟨_, rfl, ?_⟩
      exact go_set (dO_ok rfl (dO_ok rfl rfl (shl1 p (by omega))) (orN m _)) ⟨_, _, rfl⟩
    · rintro e ⟨m, v8, rfl⟩
      exact rest m v8
  · rintro e ⟨v5, v6, v7, v8, v9, v10, v11, v12, rfl⟩
    exact go_ret rfl rfl
end K21
set_option Elab.async false
set_option linter.all false
set_option maxRecDepth 100000
set_option maxHeartbeats 4000000
namespace K21
open PySem PySem.Spec PyProof.Rows L2
theorem all_mk {l : PySem.W.OpenLaw} {w : World} {K : PySem.W.Frag} {h : Heap} {mg : Str → Option Value} {fa : Addr} (X : K.In h) (G : h.Ns mainGlobals mg) (hfa : mg "law" = some (.ref fa))
    {f0 : Addr} {od0 an0 : Option Addr} {sl0 : Array (Option Value)} {oc0 kV0 dc0 pm0 cd0 ct0 : Value}
    {f1 : Addr} {od1 an1 : Option Addr} {sl1 : Array (Option Value)} {oc1 kV1 dc1 pm1 cd1 ct1 : Value}
    {f2 : Addr} {od2 an2 : Option Addr} {sl2 : Array (Option Value)} {oc2 kV2 dc2 pm2 cd2 ct2 : Value}
    {f3 : Addr} {od3 an3 : Option Addr} {sl3 : Array (Option Value)} {oc3 kV3 dc3 pm3 cd3 ct3 : Value}
    {f4 : Addr} {od4 an4 : Option Addr} {sl4 : Array (Option Value)} {oc4 kV4 dc4 pm4 cd4 ct4 : Value}
    {f5 : Addr} {od5 an5 : Option Addr} {sl5 : Array (Option Value)} {oc5 kV5 dc5 pm5 cd5 ct5 : Value}
    {f6 : Addr} {od6 an6 : Option Addr} {sl6 : Array (Option Value)} {oc6 kV6 dc6 pm6 cd6 ct6 : Value}
    {f7 : Addr} {od7 an7 : Option Addr} {sl7 : Array (Option Value)} {oc7 kV7 dc7 pm7 cd7 ct7 : Value}
    {f8 : Addr} {od8 an8 : Option Addr} {sl8 : Array (Option Value)} {oc8 kV8 dc8 pm8 cd8 ct8 : Value}
    {f9 : Addr} {od9 an9 : Option Addr} {sl9 : Array (Option Value)} {oc9 kV9 dc9 pm9 cd9 ct9 : Value}
    {f10 : Addr} {od10 an10 : Option Addr} {sl10 : Array (Option Value)} {oc10 kV10 dc10 pm10 cd10 ct10 : Value}
    {f11 : Addr} {od11 an11 : Option Addr} {sl11 : Array (Option Value)} {oc11 kV11 dc11 pm11 cd11 ct11 : Value}
    {f12 : Addr} {od12 an12 : Option Addr} {sl12 : Array (Option Value)} {oc12 kV12 dc12 pm12 cd12 ct12 : Value}
    {f13 : Addr} {od13 an13 : Option Addr} {sl13 : Array (Option Value)} {oc13 kV13 dc13 pm13 cd13 ct13 : Value}
    {f14 : Addr} {od14 an14 : Option Addr} {sl14 : Array (Option Value)} {oc14 kV14 dc14 pm14 cd14 ct14 : Value}
    {f15 : Addr} {od15 an15 : Option Addr} {sl15 : Array (Option Value)} {oc15 kV15 dc15 pm15 cd15 ct15 : Value}
    {f16 : Addr} {od16 an16 : Option Addr} {sl16 : Array (Option Value)} {oc16 kV16 dc16 pm16 cd16 ct16 : Value}
    {f17 : Addr} {od17 an17 : Option Addr} {sl17 : Array (Option Value)} {oc17 kV17 dc17 pm17 cd17 ct17 : Value}
    {C_Broken : Addr}
    {C_Crowded : Addr}
    {C_TooMany : Addr}
    {C_CalledOff : Addr}
    {C_Clash : Addr}
    {C_NoMove : Addr}
    {C_NoPlace : Addr}
    {C_NoText : Addr}
    {C_CalmError : Addr}
    {J_Broken : Addr} {qd_Broken qa_Broken qo_Broken : Option Addr} {qs_Broken qt_Broken : Array (Option Value)} {qk_Broken qc_Broken kV_Broken dc_Broken pm_Broken cv_Broken ct_Broken : Value} {cd_Broken : ClassData}
    {J_Crowded : Addr} {qd_Crowded qa_Crowded qo_Crowded : Option Addr} {qs_Crowded qt_Crowded : Array (Option Value)} {qk_Crowded qc_Crowded kV_Crowded dc_Crowded pm_Crowded cv_Crowded ct_Crowded : Value} {cd_Crowded : ClassData}
    (a0 : PySem.W.nsIn K mainGlobals "wire_of" = some (some (.ref f0))) (l0 : K.lookup f0 = some ⟨oc0, od0, .func (PySem.W.fnOf "wire_of" "wire_of" (defArgs s_wire_of) (defBody s_wire_of) (defScope s_wire_of) .none kV0 dc0 pm0 an0 cd0 ct0), sl0⟩) (c0 : PySem.W.codeIn K cd0 "wire_of" = true) (k0 : PySem.W.keepIn K (.ref f0) = true)
    (a1 : PySem.W.nsIn K mainGlobals "is_rise" = some (some (.ref f1))) (l1 : K.lookup f1 = some ⟨oc1, od1, .func (PySem.W.fnOf "is_rise" "is_rise" (defArgs s_is_rise) (defBody s_is_rise) (defScope s_is_rise) .none kV1 dc1 pm1 an1 cd1 ct1), sl1⟩) (c1 : PySem.W.codeIn K cd1 "is_rise" = true) (k1 : PySem.W.keepIn K (.ref f1) = true)
    (a2 : PySem.W.nsIn K mainGlobals "takes_of" = some (some (.ref f2))) (l2 : K.lookup f2 = some ⟨oc2, od2, .func (PySem.W.fnOf "takes_of" "takes_of" (defArgs s_takes_of) (defBody s_takes_of) (defScope s_takes_of) .none kV2 dc2 pm2 an2 cd2 ct2), sl2⟩) (c2 : PySem.W.codeIn K cd2 "takes_of" = true) (k2 : PySem.W.keepIn K (.ref f2) = true)
    (a3 : PySem.W.nsIn K mainGlobals "fills_of" = some (some (.ref f3))) (l3 : K.lookup f3 = some ⟨oc3, od3, .func (PySem.W.fnOf "fills_of" "fills_of" (defArgs s_fills_of) (defBody s_fills_of) (defScope s_fills_of) .none kV3 dc3 pm3 an3 cd3 ct3), sl3⟩) (c3 : PySem.W.codeIn K cd3 "fills_of" = true) (k3 : PySem.W.keepIn K (.ref f3) = true)
    (a4 : PySem.W.nsIn K mainGlobals "bits" = some (some (.ref f4))) (l4 : K.lookup f4 = some ⟨oc4, od4, .func (PySem.W.fnOf "bits" "bits" (defArgs s_bits) (defBody s_bits) (defScope s_bits) .none kV4 dc4 pm4 an4 cd4 ct4), sl4⟩) (c4 : PySem.W.codeIn K cd4 "bits" = true) (k4 : PySem.W.keepIn K (.ref f4) = true)
    (a5 : PySem.W.nsIn K mainGlobals "has_one" = some (some (.ref f5))) (l5 : K.lookup f5 = some ⟨oc5, od5, .func (PySem.W.fnOf "has_one" "has_one" (defArgs s_has_one) (defBody s_has_one) (defScope s_has_one) .none kV5 dc5 pm5 an5 cd5 ct5), sl5⟩) (c5 : PySem.W.codeIn K cd5 "has_one" = true) (k5 : PySem.W.keepIn K (.ref f5) = true)
    (a6 : PySem.W.nsIn K mainGlobals "can" = some (some (.ref f6))) (l6 : K.lookup f6 = some ⟨oc6, od6, .func (PySem.W.fnOf "can" "can" (defArgs s_can) (defBody s_can) (defScope s_can) .none kV6 dc6 pm6 an6 cd6 ct6), sl6⟩) (c6 : PySem.W.codeIn K cd6 "can" = true) (k6 : PySem.W.keepIn K (.ref f6) = true)
    (a7 : PySem.W.nsIn K mainGlobals "behind" = some (some (.ref f7))) (l7 : K.lookup f7 = some ⟨oc7, od7, .func (PySem.W.fnOf "behind" "behind" (defArgs s_behind) (defBody s_behind) (defScope s_behind) .none kV7 dc7 pm7 an7 cd7 ct7), sl7⟩) (c7 : PySem.W.codeIn K cd7 "behind" = true) (k7 : PySem.W.keepIn K (.ref f7) = true)
    (a8 : PySem.W.nsIn K mainGlobals "_law_mix" = some (some (.ref f8))) (l8 : K.lookup f8 = some ⟨oc8, od8, .func (PySem.W.fnOf "_law_mix" "_law_mix" (defArgs s__law_mix) (defBody s__law_mix) (defScope s__law_mix) .none kV8 dc8 pm8 an8 cd8 ct8), sl8⟩) (c8 : PySem.W.codeIn K cd8 "_law_mix" = true) (k8 : PySem.W.keepIn K (.ref f8) = true)
    (a9 : PySem.W.nsIn K mainGlobals "_law_word" = some (some (.ref f9))) (l9 : K.lookup f9 = some ⟨oc9, od9, .func (PySem.W.fnOf "_law_word" "_law_word" (defArgs s__law_word) (defBody s__law_word) (defScope s__law_word) .none kV9 dc9 pm9 an9 cd9 ct9), sl9⟩) (c9 : PySem.W.codeIn K cd9 "_law_word" = true) (k9 : PySem.W.keepIn K (.ref f9) = true)
    (a10 : PySem.W.nsIn K mainGlobals "_law_sort" = some (some (.ref f10))) (l10 : K.lookup f10 = some ⟨oc10, od10, .func (PySem.W.fnOf "_law_sort" "_law_sort" (defArgs s__law_sort) (defBody s__law_sort) (defScope s__law_sort) .none kV10 dc10 pm10 an10 cd10 ct10), sl10⟩) (c10 : PySem.W.codeIn K cd10 "_law_sort" = true) (k10 : PySem.W.keepIn K (.ref f10) = true)
    (a11 : PySem.W.nsIn K mainGlobals "_law_spots" = some (some (.ref f11))) (l11 : K.lookup f11 = some ⟨oc11, od11, .func (PySem.W.fnOf "_law_spots" "_law_spots" (defArgs s__law_spots) (defBody s__law_spots) (defScope s__law_spots) .none kV11 dc11 pm11 an11 cd11 ct11), sl11⟩) (c11 : PySem.W.codeIn K cd11 "_law_spots" = true) (k11 : PySem.W.keepIn K (.ref f11) = true)
    (a12 : PySem.W.nsIn K mainGlobals "_law_any" = some (some (.ref f12))) (l12 : K.lookup f12 = some ⟨oc12, od12, .func (PySem.W.fnOf "_law_any" "_law_any" (defArgs s__law_any) (defBody s__law_any) (defScope s__law_any) .none kV12 dc12 pm12 an12 cd12 ct12), sl12⟩) (c12 : PySem.W.codeIn K cd12 "_law_any" = true) (k12 : PySem.W.keepIn K (.ref f12) = true)
    (a13 : PySem.W.nsIn K mainGlobals "_law_can" = some (some (.ref f13))) (l13 : K.lookup f13 = some ⟨oc13, od13, .func (PySem.W.fnOf "_law_can" "_law_can" (defArgs s__law_can) (defBody s__law_can) (defScope s__law_can) .none kV13 dc13 pm13 an13 cd13 ct13), sl13⟩) (c13 : PySem.W.codeIn K cd13 "_law_can" = true) (k13 : PySem.W.keepIn K (.ref f13) = true)
    (a14 : PySem.W.nsIn K mainGlobals "_law_done" = some (some (.ref f14))) (l14 : K.lookup f14 = some ⟨oc14, od14, .func (PySem.W.fnOf "_law_done" "_law_done" (defArgs s__law_done) (defBody s__law_done) (defScope s__law_done) .none kV14 dc14 pm14 an14 cd14 ct14), sl14⟩) (c14 : PySem.W.codeIn K cd14 "_law_done" = true) (k14 : PySem.W.keepIn K (.ref f14) = true)
    (a15 : PySem.W.nsIn K mainGlobals "_law_asked" = some (some (.ref f15))) (l15 : K.lookup f15 = some ⟨oc15, od15, .func (PySem.W.fnOf "_law_asked" "_law_asked" (defArgs s__law_asked) (defBody s__law_asked) (defScope s__law_asked) .none kV15 dc15 pm15 an15 cd15 ct15), sl15⟩) (c15 : PySem.W.codeIn K cd15 "_law_asked" = true) (k15 : PySem.W.keepIn K (.ref f15) = true)
    (a16 : PySem.W.nsIn K mainGlobals "_law_plain" = some (some (.ref f16))) (l16 : K.lookup f16 = some ⟨oc16, od16, .func (PySem.W.fnOf "_law_plain" "_law_plain" (defArgs s__law_plain) (defBody s__law_plain) (defScope s__law_plain) .none kV16 dc16 pm16 an16 cd16 ct16), sl16⟩) (c16 : PySem.W.codeIn K cd16 "_law_plain" = true) (k16 : PySem.W.keepIn K (.ref f16) = true)
    (a17 : PySem.W.nsIn K mainGlobals "law" = some (some (.ref f17))) (l17 : K.lookup f17 = some ⟨oc17, od17, .func (PySem.W.fnOf "law" "law" (defArgs s_law) (defBody s_law) (defScope s_law) .none kV17 dc17 pm17 an17 cd17 ct17), sl17⟩) (c17 : PySem.W.codeIn K cd17 "law" = true) (k17 : PySem.W.keepIn K (.ref f17) = true)
    (z_ValueError : PySem.W.nsIn K mainGlobals "ValueError" = some none)
    (z_all : PySem.W.nsIn K mainGlobals "all" = some none)
    (z_any : PySem.W.nsIn K mainGlobals "any" = some none)
    (z_bool : PySem.W.nsIn K mainGlobals "bool" = some none)
    (z_enumerate : PySem.W.nsIn K mainGlobals "enumerate" = some none)
    (z_int : PySem.W.nsIn K mainGlobals "int" = some none)
    (z_isinstance : PySem.W.nsIn K mainGlobals "isinstance" = some none)
    (z_len : PySem.W.nsIn K mainGlobals "len" = some none)
    (z_list : PySem.W.nsIn K mainGlobals "list" = some none)
    (z_range : PySem.W.nsIn K mainGlobals "range" = some none)
    (z_sorted : PySem.W.nsIn K mainGlobals "sorted" = some none)
    (z_str : PySem.W.nsIn K mainGlobals "str" = some none)
    (z_tuple : PySem.W.nsIn K mainGlobals "tuple" = some none)
    (y_Broken : PySem.W.nsIn K mainGlobals "Broken" = some (some (.ref C_Broken)))
    (y_Crowded : PySem.W.nsIn K mainGlobals "Crowded" = some (some (.ref C_Crowded)))
    (y_TooMany : PySem.W.nsIn K mainGlobals "TooMany" = some (some (.ref C_TooMany)))
    (y_CalledOff : PySem.W.nsIn K mainGlobals "CalledOff" = some (some (.ref C_CalledOff)))
    (y_Clash : PySem.W.nsIn K mainGlobals "Clash" = some (some (.ref C_Clash)))
    (y_NoMove : PySem.W.nsIn K mainGlobals "NoMove" = some (some (.ref C_NoMove)))
    (y_NoPlace : PySem.W.nsIn K mainGlobals "NoPlace" = some (some (.ref C_NoPlace)))
    (y_NoText : PySem.W.nsIn K mainGlobals "NoText" = some (some (.ref C_NoText)))
    (y_CalmError : PySem.W.nsIn K mainGlobals "CalmError" = some (some (.ref C_CalmError)))
    (b0 : PySem.W.specialIn K (.ref C_CalmError) "__getattribute__" = some (some (.builtin "type.__getattribute__"))) (b1 : PySem.W.readsIn K C_CalmError (.type "type") = true) (b2 : PySem.W.findCls K (.ref C_CalmError) (.type "type") "__init__" = some (.val (.builtin "ValueError.__init__")))
    (o_Broken : K.lookup C_Broken = some ⟨qk_Broken, qd_Broken, .cls cd_Broken, qs_Broken⟩) (n_Broken : PySem.W.nsIn K cd_Broken.ns "__init__" = some (some (.ref J_Broken))) (jl_Broken : K.lookup J_Broken = some ⟨qc_Broken, qo_Broken, .func (PySem.W.fnOf "__init__" "Broken.__init__" (defArgs i_Broken) (defBody i_Broken) (defScope i_Broken) .none kV_Broken dc_Broken pm_Broken qa_Broken cv_Broken ct_Broken), qt_Broken⟩) (w_Broken : PySem.W.codeIn K cv_Broken "Broken.__init__" = true) (p_Broken : PySem.W.keepIn K (.ref J_Broken) = true) (g_Broken : PySem.W.isFn K (.ref J_Broken) = true) (h_Broken : PySem.W.keepIn K (.ref C_Broken) = true)
    (x_Broken : xcIn K C_Broken J_Broken C_CalmError = true)
    (ra_Broken : PySem.W.findIn K (.ref C_Broken) "__class__" = some (some (.builtin "object.__class__"))) (rb_Broken : PySem.W.findIn K (.ref C_Broken) "__getattribute__" = some (some (.builtin "BaseException.__getattribute__"))) (rc_Broken : PySem.W.findIn K (.ref C_Broken) "__getattr__" = some none) (rd_Broken : PySem.W.findIn K (.ref C_Broken) "__setattr__" = some (some (.builtin "object.__setattr__"))) (re_Broken : PySem.W.findIn K (.ref C_Broken) "way" = some none)
    (s_Broken : PySem.W.exmOne K (.ref C_Broken) (.ref C_CalmError) = some true)
    (tv_Broken : PySem.W.kitOne K (.ref C_Broken) (.type "ValueError") = some true)
    (t_Broken_Broken : PySem.W.kitOne K (.ref C_Broken) (.ref C_Broken) = some true)
    (t_Broken_Crowded : PySem.W.kitOne K (.ref C_Broken) (.ref C_Crowded) = some false)
    (t_Broken_TooMany : PySem.W.kitOne K (.ref C_Broken) (.ref C_TooMany) = some false)
    (t_Broken_CalledOff : PySem.W.kitOne K (.ref C_Broken) (.ref C_CalledOff) = some false)
    (t_Broken_Clash : PySem.W.kitOne K (.ref C_Broken) (.ref C_Clash) = some false)
    (t_Broken_NoMove : PySem.W.kitOne K (.ref C_Broken) (.ref C_NoMove) = some false)
    (t_Broken_NoPlace : PySem.W.kitOne K (.ref C_Broken) (.ref C_NoPlace) = some false)
    (t_Broken_NoText : PySem.W.kitOne K (.ref C_Broken) (.ref C_NoText) = some false)
    (o_Crowded : K.lookup C_Crowded = some ⟨qk_Crowded, qd_Crowded, .cls cd_Crowded, qs_Crowded⟩) (n_Crowded : PySem.W.nsIn K cd_Crowded.ns "__init__" = some (some (.ref J_Crowded))) (jl_Crowded : K.lookup J_Crowded = some ⟨qc_Crowded, qo_Crowded, .func (PySem.W.fnOf "__init__" "Crowded.__init__" (defArgs i_Crowded) (defBody i_Crowded) (defScope i_Crowded) .none kV_Crowded dc_Crowded pm_Crowded qa_Crowded cv_Crowded ct_Crowded), qt_Crowded⟩) (w_Crowded : PySem.W.codeIn K cv_Crowded "Crowded.__init__" = true) (p_Crowded : PySem.W.keepIn K (.ref J_Crowded) = true) (g_Crowded : PySem.W.isFn K (.ref J_Crowded) = true) (h_Crowded : PySem.W.keepIn K (.ref C_Crowded) = true)
    (x_Crowded : xcIn K C_Crowded J_Crowded C_CalmError = true)
    (ra_Crowded : PySem.W.findIn K (.ref C_Crowded) "__class__" = some (some (.builtin "object.__class__"))) (rb_Crowded : PySem.W.findIn K (.ref C_Crowded) "__getattribute__" = some (some (.builtin "BaseException.__getattribute__"))) (rc_Crowded : PySem.W.findIn K (.ref C_Crowded) "__getattr__" = some none) (rd_Crowded : PySem.W.findIn K (.ref C_Crowded) "__setattr__" = some (some (.builtin "object.__setattr__"))) (re_Crowded : PySem.W.findIn K (.ref C_Crowded) "way" = some none)
    (s_Crowded : PySem.W.exmOne K (.ref C_Crowded) (.ref C_CalmError) = some true)
    (tv_Crowded : PySem.W.kitOne K (.ref C_Crowded) (.type "ValueError") = some true)
    (t_Crowded_Broken : PySem.W.kitOne K (.ref C_Crowded) (.ref C_Broken) = some false)
    (t_Crowded_Crowded : PySem.W.kitOne K (.ref C_Crowded) (.ref C_Crowded) = some true)
    (t_Crowded_TooMany : PySem.W.kitOne K (.ref C_Crowded) (.ref C_TooMany) = some false)
    (t_Crowded_CalledOff : PySem.W.kitOne K (.ref C_Crowded) (.ref C_CalledOff) = some false)
    (t_Crowded_Clash : PySem.W.kitOne K (.ref C_Crowded) (.ref C_Clash) = some false)
    (t_Crowded_NoMove : PySem.W.kitOne K (.ref C_Crowded) (.ref C_NoMove) = some false)
    (t_Crowded_NoPlace : PySem.W.kitOne K (.ref C_Crowded) (.ref C_NoPlace) = some false)
    (t_Crowded_NoText : PySem.W.kitOne K (.ref C_Crowded) (.ref C_NoText) = some false) :
    ∃ fd : FuncData, (∀ (s : Shared) (v : Value), BindsTo s fd ⟨[v], []⟩ [("_law_script", v)]) ∧ ∀ base : Heap, K.In base → base.Ns mainGlobals mg → FnOk l.prog w K mg base CX0 5 fa fd ["_law_script"] (spLaw K) := by
  have e := hfa.symm.trans (PySem.W.mg_of X G a17)
  cases e
  have xc_Broken : XCls K C_Broken := xcls_mk x_Broken ra_Broken rb_Broken rc_Broken rd_Broken
  have xc_Crowded : XCls K C_Crowded := xcls_mk x_Crowded ra_Crowded rb_Crowded rc_Crowded rd_Crowded
  have B : BaseC K mg C_CalmError := ⟨PySem.W.mg_of X G y_CalmError, b0, b1, b2⟩
  have T : Txt K mg := { b_ValueError := PySem.W.mg_none_of X G z_ValueError, b_all := PySem.W.mg_none_of X G z_all, b_any := PySem.W.mg_none_of X G z_any, b_bool := PySem.W.mg_none_of X G z_bool, b_enumerate := PySem.W.mg_none_of X G z_enumerate, b_int := PySem.W.mg_none_of X G z_int, b_isinstance := PySem.W.mg_none_of X G z_isinstance, b_len := PySem.W.mg_none_of X G z_len, b_range := PySem.W.mg_none_of X G z_range, b_sorted := PySem.W.mg_none_of X G z_sorted, b_str := PySem.W.mg_none_of X G z_str, b_tuple := PySem.W.mg_none_of X G z_tuple, i_Broken := isC_of (PySem.W.mg_of X G y_Broken) (List.forall_mem_cons.mpr ⟨⟨C_Broken, y_Broken, t_Broken_Broken.trans (by decide +kernel), xc_Broken⟩, (List.forall_mem_cons.mpr ⟨⟨C_Crowded, y_Crowded, t_Crowded_Broken.trans (by decide +kernel), xc_Crowded⟩, (fun _ h => nomatch h)⟩)⟩), i_CalledOff := isC_of (PySem.W.mg_of X G y_CalledOff) (List.forall_mem_cons.mpr ⟨⟨C_Broken, y_Broken, t_Broken_CalledOff.trans (by decide +kernel), xc_Broken⟩, (List.forall_mem_cons.mpr ⟨⟨C_Crowded, y_Crowded, t_Crowded_CalledOff.trans (by decide +kernel), xc_Crowded⟩, (fun _ h => nomatch h)⟩)⟩), i_Clash := isC_of (PySem.W.mg_of X G y_Clash) (List.forall_mem_cons.mpr ⟨⟨C_Broken, y_Broken, t_Broken_Clash.trans (by decide +kernel), xc_Broken⟩, (List.forall_mem_cons.mpr ⟨⟨C_Crowded, y_Crowded, t_Crowded_Clash.trans (by decide +kernel), xc_Crowded⟩, (fun _ h => nomatch h)⟩)⟩), i_Crowded := isC_of (PySem.W.mg_of X G y_Crowded) (List.forall_mem_cons.mpr ⟨⟨C_Broken, y_Broken, t_Broken_Crowded.trans (by decide +kernel), xc_Broken⟩, (List.forall_mem_cons.mpr ⟨⟨C_Crowded, y_Crowded, t_Crowded_Crowded.trans (by decide +kernel), xc_Crowded⟩, (fun _ h => nomatch h)⟩)⟩), i_NoMove := isC_of (PySem.W.mg_of X G y_NoMove) (List.forall_mem_cons.mpr ⟨⟨C_Broken, y_Broken, t_Broken_NoMove.trans (by decide +kernel), xc_Broken⟩, (List.forall_mem_cons.mpr ⟨⟨C_Crowded, y_Crowded, t_Crowded_NoMove.trans (by decide +kernel), xc_Crowded⟩, (fun _ h => nomatch h)⟩)⟩), i_NoPlace := isC_of (PySem.W.mg_of X G y_NoPlace) (List.forall_mem_cons.mpr ⟨⟨C_Broken, y_Broken, t_Broken_NoPlace.trans (by decide +kernel), xc_Broken⟩, (List.forall_mem_cons.mpr ⟨⟨C_Crowded, y_Crowded, t_Crowded_NoPlace.trans (by decide +kernel), xc_Crowded⟩, (fun _ h => nomatch h)⟩)⟩), i_NoText := isC_of (PySem.W.mg_of X G y_NoText) (List.forall_mem_cons.mpr ⟨⟨C_Broken, y_Broken, t_Broken_NoText.trans (by decide +kernel), xc_Broken⟩, (List.forall_mem_cons.mpr ⟨⟨C_Crowded, y_Crowded, t_Crowded_NoText.trans (by decide +kernel), xc_Crowded⟩, (fun _ h => nomatch h)⟩)⟩), i_TooMany := isC_of (PySem.W.mg_of X G y_TooMany) (List.forall_mem_cons.mpr ⟨⟨C_Broken, y_Broken, t_Broken_TooMany.trans (by decide +kernel), xc_Broken⟩, (List.forall_mem_cons.mpr ⟨⟨C_Crowded, y_Crowded, t_Crowded_TooMany.trans (by decide +kernel), xc_Crowded⟩, (fun _ h => nomatch h)⟩)⟩), j_ValueError := isT_of (List.forall_mem_cons.mpr ⟨⟨C_Broken, y_Broken, tv_Broken, xc_Broken⟩, (List.forall_mem_cons.mpr ⟨⟨C_Crowded, y_Crowded, tv_Crowded, xc_Crowded⟩, (fun _ h => nomatch h)⟩)⟩), k_CalmError := catC_of (PySem.W.mg_of X G y_CalmError) (List.forall_mem_cons.mpr ⟨⟨C_Broken, y_Broken, s_Broken⟩, (List.forall_mem_cons.mpr ⟨⟨C_Crowded, y_Crowded, s_Crowded⟩, (fun _ h => nomatch h)⟩)⟩), f_way := fldC_of (List.forall_mem_cons.mpr ⟨⟨C_Broken, y_Broken, xc_Broken, re_Broken⟩, (List.forall_mem_cons.mpr ⟨⟨C_Crowded, y_Crowded, xc_Crowded, re_Crowded⟩, (fun _ h => nomatch h)⟩)⟩) }
  have F0 := fun_mk (st := s_wire_of) l0 c0 k0
  have D_wire_of : Def K mg "wire_of" s_wire_of := ⟨_, _, F0, PySem.W.mg_of X G a0⟩
  have F1 := fun_mk (st := s_is_rise) l1 c1 k1
  have D_is_rise : Def K mg "is_rise" s_is_rise := ⟨_, _, F1, PySem.W.mg_of X G a1⟩
  have F2 := fun_mk (st := s_takes_of) l2 c2 k2
  have D_takes_of : Def K mg "takes_of" s_takes_of := ⟨_, _, F2, PySem.W.mg_of X G a2⟩
  have F3 := fun_mk (st := s_fills_of) l3 c3 k3
  have D_fills_of : Def K mg "fills_of" s_fills_of := ⟨_, _, F3, PySem.W.mg_of X G a3⟩
  have F4 := fun_mk (st := s_bits) l4 c4 k4
  have D_bits : Def K mg "bits" s_bits := ⟨_, _, F4, PySem.W.mg_of X G a4⟩
  have F5 := fun_mk (st := s_has_one) l5 c5 k5
  have D_has_one : Def K mg "has_one" s_has_one := ⟨_, _, F5, PySem.W.mg_of X G a5⟩
  have F6 := fun_mk (st := s_can) l6 c6 k6
  have D_can : Def K mg "can" s_can := ⟨_, _, F6, PySem.W.mg_of X G a6⟩
  have F7 := fun_mk (st := s_behind) l7 c7 k7
  have D_behind : Def K mg "behind" s_behind := ⟨_, _, F7, PySem.W.mg_of X G a7⟩
  have F8 := fun_mk (st := s__law_mix) l8 c8 k8
  have D__law_mix : Def K mg "_law_mix" s__law_mix := ⟨_, _, F8, PySem.W.mg_of X G a8⟩
  have F9 := fun_mk (st := s__law_word) l9 c9 k9
  have D__law_word : Def K mg "_law_word" s__law_word := ⟨_, _, F9, PySem.W.mg_of X G a9⟩
  have F10 := fun_mk (st := s__law_sort) l10 c10 k10
  have D__law_sort : Def K mg "_law_sort" s__law_sort := ⟨_, _, F10, PySem.W.mg_of X G a10⟩
  have F11 := fun_mk (st := s__law_spots) l11 c11 k11
  have D__law_spots : Def K mg "_law_spots" s__law_spots := ⟨_, _, F11, PySem.W.mg_of X G a11⟩
  have F12 := fun_mk (st := s__law_any) l12 c12 k12
  have D__law_any : Def K mg "_law_any" s__law_any := ⟨_, _, F12, PySem.W.mg_of X G a12⟩
  have F13 := fun_mk (st := s__law_can) l13 c13 k13
  have D__law_can : Def K mg "_law_can" s__law_can := ⟨_, _, F13, PySem.W.mg_of X G a13⟩
  have F14 := fun_mk (st := s__law_done) l14 c14 k14
  have D__law_done : Def K mg "_law_done" s__law_done := ⟨_, _, F14, PySem.W.mg_of X G a14⟩
  have F15 := fun_mk (st := s__law_asked) l15 c15 k15
  have D__law_asked : Def K mg "_law_asked" s__law_asked := ⟨_, _, F15, PySem.W.mg_of X G a15⟩
  have F16 := fun_mk (st := s__law_plain) l16 c16 k16
  have D__law_plain : Def K mg "_law_plain" s__law_plain := ⟨_, _, F16, PySem.W.mg_of X G a16⟩
  have F17 := fun_mk (st := s_law) l17 c17 k17
  refine ⟨PySem.W.fnOf "law" "law" (defArgs s_law) (defBody s_law) (defScope s_law) .none kV17 dc17 pm17 an17 cd17 ct17, fun s v => .of_eq rfl, fun base _ _ => ?_⟩
  have M_Broken := m_Broken (P := l.prog) (w := w) (base := base) B (fun_mk (st := i_Broken) jl_Broken w_Broken p_Broken) y_Broken (PySem.W.mg_of X G y_Broken) h_Broken x_Broken xc_Broken re_Broken g_Broken (PySem.W.mg_none_of X G z_list)
  have M_Crowded := m_Crowded (P := l.prog) (w := w) (base := base) B (fun_mk (st := i_Crowded) jl_Crowded w_Crowded p_Crowded) y_Crowded (PySem.W.mg_of X G y_Crowded) h_Crowded x_Crowded xc_Crowded re_Crowded g_Crowded (PySem.W.mg_none_of X G z_list)
  have C_wire_of := c_wire_of (P := l.prog) (w := w) (base := base) D_wire_of T 
  have C_is_rise := c_is_rise (P := l.prog) (w := w) (base := base) D_is_rise T 
  have C_takes_of := c_takes_of (P := l.prog) (w := w) (base := base) D_takes_of T 
  have C_fills_of := c_fills_of (P := l.prog) (w := w) (base := base) D_fills_of T 
  have C_bits := c_bits (P := l.prog) (w := w) (base := base) D_bits T 
  have C_has_one := c_has_one (P := l.prog) (w := w) (base := base) D_has_one T 
  have C_can := c_can (P := l.prog) (w := w) (base := base) D_can T C_bits C_takes_of
  have C_behind := c_behind (P := l.prog) (w := w) (base := base) D_behind T M_Broken M_Crowded C_wire_of C_bits C_has_one C_is_rise C_fills_of C_takes_of
  have C__law_mix := c__law_mix (P := l.prog) (w := w) (base := base) D__law_mix T 
  have C__law_word := c__law_word (P := l.prog) (w := w) (base := base) D__law_word T 
  have C__law_sort := c__law_sort (P := l.prog) (w := w) (base := base) D__law_sort T 
  have C__law_spots := c__law_spots (P := l.prog) (w := w) (base := base) D__law_spots T 
  have C__law_any := c__law_any (P := l.prog) (w := w) (base := base) D__law_any T C__law_mix C__law_spots C__law_word
  have C__law_can := c__law_can (P := l.prog) (w := w) (base := base) D__law_can T 
  have C__law_done := c__law_done (P := l.prog) (w := w) (base := base) D__law_done T 
  have C__law_asked := c__law_asked (P := l.prog) (w := w) (base := base) D__law_asked T C__law_sort C_behind
  have C__law_plain := c__law_plain (P := l.prog) (w := w) (base := base) D__law_plain T 
  exact c_law F17 T C__law_mix C__law_any C_can C__law_done C__law_asked C__law_can C__law_plain law_ok
theorem walk {l : PySem.W.OpenLaw} {q : Program} {loose : List Str} {XP : (Str → Option Value) → Heap → Prop} {YP : World → Heap → Prop} {d : DefRec} {K : Params → PySem.W.Frag} (hn : l.most = some 63) (hdf : d.params.defaults = [])
    (hY : ∀ (w : World) (h : Heap), YP w h → (K w.params).In h)
    (F : ∀ (w : World) (mg : Str → Option Value) (fa : Addr) (h : Heap), (K w.params).In h → h.Ns mainGlobals mg → mg d.name = some (.ref fa) →
      ∃ fd : FuncData, (∀ (s : Shared) (u : Value), BindsTo s fd ⟨[u], []⟩ [("_law_script", u)]) ∧ ∀ base : Heap, (K w.params).In base → base.Ns mainGlobals mg → FnOk l.prog w (K w.params) mg base CX0 5 fa fd ["_law_script"] (spLaw (K w.params))) :
    PySem.W.WalkO q loose XP YP l.row.toRowW d [] (fun f vs => PySem.call f vs) :=
  L2.walk_of (n := 63) (k := 5) (x := "_law_script") (CX := fun _ => CX0) (sp := fun w => spLaw (K w.params)) hn (by decide) hdf ⟨rfl, by decide, by decide, rfl⟩ hY F (fun _ _ a ns hl _ hS => ⟨a, ns, rfl, hS, hl, fun _ => rfl⟩) fun _ _ _ _ _ z => z
end K21
open PySem PySem.W PyProof.Rows
set_option maxRecDepth 100000 in
set_option maxHeartbeats 0 in
theorem PySem.Challenge.cw_calmwires_k21_one_step_holds : PySem.Challenge.rw_calmwires_k21_one_step.Holds := by
  w_on; o_law; k_head; (case hw => w_witness2)
  k_fill
  refine K21.walk (l := PySem.Challenge.rw_calmwires_k21_one_step) rfl rfl (fun w h Y => PySem.W.kIn_of Y) ?F
  case F =>
    intro w mg fa h KX G hmg
    refine' K21.all_mk KX G hmg ?a0 ?l0 ?c0 ?k0 ?a1 ?l1 ?c1 ?k1 ?a2 ?l2 ?c2 ?k2 ?a3 ?l3 ?c3 ?k3 ?a4 ?l4 ?c4 ?k4 ?a5 ?l5 ?c5 ?k5 ?a6 ?l6 ?c6 ?k6 ?a7 ?l7 ?c7 ?k7 ?a8 ?l8 ?c8 ?k8 ?a9 ?l9 ?c9 ?k9 ?a10 ?l10 ?c10 ?k10 ?a11 ?l11 ?c11 ?k11 ?a12 ?l12 ?c12 ?k12 ?a13 ?l13 ?c13 ?k13 ?a14 ?l14 ?c14 ?k14 ?a15 ?l15 ?c15 ?k15 ?a16 ?l16 ?c16 ?k16 ?a17 ?l17 ?c17 ?k17 ?z_ValueError ?z_all ?z_any ?z_bool ?z_enumerate ?z_int ?z_isinstance ?z_len ?z_list ?z_range ?z_sorted ?z_str ?z_tuple ?y_Broken ?y_Crowded ?y_TooMany ?y_CalledOff ?y_Clash ?y_NoMove ?y_NoPlace ?y_NoText ?y_CalmError ?b0 ?b1 ?b2 ?o_Broken ?n_Broken ?jl_Broken ?w_Broken ?p_Broken ?g_Broken ?h_Broken ?x_Broken ?ra_Broken ?rb_Broken ?rc_Broken ?rd_Broken ?re_Broken ?s_Broken ?tv_Broken ?t_Broken_Broken ?t_Broken_Crowded ?t_Broken_TooMany ?t_Broken_CalledOff ?t_Broken_Clash ?t_Broken_NoMove ?t_Broken_NoPlace ?t_Broken_NoText ?o_Crowded ?n_Crowded ?jl_Crowded ?w_Crowded ?p_Crowded ?g_Crowded ?h_Crowded ?x_Crowded ?ra_Crowded ?rb_Crowded ?rc_Crowded ?rd_Crowded ?re_Crowded ?s_Crowded ?tv_Crowded ?t_Crowded_Broken ?t_Crowded_Crowded ?t_Crowded_TooMany ?t_Crowded_CalledOff ?t_Crowded_Clash ?t_Crowded_NoMove ?t_Crowded_NoPlace ?t_Crowded_NoText
    (case a0 => k_is); (case l0 => k_is); (case c0 => k_is); (case k0 => k_is); (case a1 => k_is); (case l1 => k_is); (case c1 => k_is); (case k1 => k_is); (case a2 => k_is); (case l2 => k_is); (case c2 => k_is); (case k2 => k_is); (case a3 => k_is); (case l3 => k_is); (case c3 => k_is); (case k3 => k_is); (case a4 => k_is); (case l4 => k_is); (case c4 => k_is); (case k4 => k_is); (case a5 => k_is); (case l5 => k_is); (case c5 => k_is); (case k5 => k_is); (case a6 => k_is); (case l6 => k_is); (case c6 => k_is); (case k6 => k_is); (case a7 => k_is); (case l7 => k_is); (case c7 => k_is); (case k7 => k_is); (case a8 => k_is); (case l8 => k_is); (case c8 => k_is); (case k8 => k_is); (case a9 => k_is); (case l9 => k_is); (case c9 => k_is); (case k9 => k_is); (case a10 => k_is); (case l10 => k_is); (case c10 => k_is); (case k10 => k_is); (case a11 => k_is); (case l11 => k_is); (case c11 => k_is); (case k11 => k_is); (case a12 => k_is); (case l12 => k_is); (case c12 => k_is); (case k12 => k_is); (case a13 => k_is); (case l13 => k_is); (case c13 => k_is); (case k13 => k_is); (case a14 => k_is); (case l14 => k_is); (case c14 => k_is); (case k14 => k_is); (case a15 => k_is); (case l15 => k_is); (case c15 => k_is); (case k15 => k_is); (case a16 => k_is); (case l16 => k_is); (case c16 => k_is); (case k16 => k_is); (case a17 => k_is); (case l17 => k_is); (case c17 => k_is); (case k17 => k_is); (case z_ValueError => k_is); (case z_all => k_is); (case z_any => k_is); (case z_bool => k_is); (case z_enumerate => k_is); (case z_int => k_is); (case z_isinstance => k_is); (case z_len => k_is); (case z_list => k_is); (case z_range => k_is); (case z_sorted => k_is); (case z_str => k_is); (case z_tuple => k_is); (case y_Broken => k_is); (case y_Crowded => k_is); (case y_TooMany => k_is); (case y_CalledOff => k_is); (case y_Clash => k_is); (case y_NoMove => k_is); (case y_NoPlace => k_is); (case y_NoText => k_is); (case y_CalmError => k_is); (case b0 => k_is); (case b1 => k_is); (case b2 => k_is); (case o_Broken => k_is); (case n_Broken => k_is); (case jl_Broken => k_is); (case w_Broken => k_is); (case p_Broken => k_is); (case g_Broken => k_is); (case h_Broken => k_is); (case ra_Broken => k_is); (case rb_Broken => k_is); (case rc_Broken => k_is); (case rd_Broken => k_is); (case re_Broken => k_is); (case o_Crowded => k_is); (case n_Crowded => k_is); (case jl_Crowded => k_is); (case w_Crowded => k_is); (case p_Crowded => k_is); (case g_Crowded => k_is); (case h_Crowded => k_is); (case ra_Crowded => k_is); (case rb_Crowded => k_is); (case rc_Crowded => k_is); (case rd_Crowded => k_is); (case re_Crowded => k_is)
    (case x_Broken => kernel_rfl!); (case x_Crowded => kernel_rfl!)
    (case tv_Broken => kit_is); (case t_Broken_Broken => kit_is); (case t_Broken_Crowded => kit_is); (case t_Broken_TooMany => kit_is); (case t_Broken_CalledOff => kit_is); (case t_Broken_Clash => kit_is); (case t_Broken_NoMove => kit_is); (case t_Broken_NoPlace => kit_is); (case t_Broken_NoText => kit_is); (case tv_Crowded => kit_is); (case t_Crowded_Broken => kit_is); (case t_Crowded_Crowded => kit_is); (case t_Crowded_TooMany => kit_is); (case t_Crowded_CalledOff => kit_is); (case t_Crowded_Clash => kit_is); (case t_Crowded_NoMove => kit_is); (case t_Crowded_NoPlace => kit_is); (case t_Crowded_NoText => kit_is)
    (case s_Broken => kts_exm); (case s_Crowded => kts_exm)
