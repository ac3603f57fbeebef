import PyProof.Rows.All
import Wide.All
import OpenK.AllK
import Wide.FinOn
import Lean
import PyProof.EqAt
import PyProof.EqKinds
import PyProof.TupleCall
import KE.KRevIter
import PyProof.ListRange
import PyProof.ExcClass3
import PyProof.ExcInit
import PyProof.RulesTry
import PyProof.RulesAs
import PyProof.ExcBaseAll.ValueError
import PyProof.InstStoreFacts
import PyProof.ExcArgsOwn
import KE.KIsAll
import PyProof.IsiBase
import PyProof.ReprRoads
import PyProof.NsDelKeeps
import KE.KTryMore
import PyProof.Rows.SortPure
import PyProof.Rows.SortShell
import KE.KIntText
import PyProof.Rows.StrItems
import PySem.Challenge.RW_calmwires_k81_nets_shown
set_option Elab.async false
set_option linter.all false
set_option maxRecDepth 100000
namespace L2
open PySem PySem.Spec PyProof.Rows
abbrev Key := Sum Int Str
def keyIs : Key → Value → Bool
  | .inl k, v => Value.isInt k v
  | .inr x, v => Value.isStrOf x v
def keyH (w : World) : Key → Int
  | .inl k => hashInt k
  | .inr x => hashStr w x
theorem keyIs_shape : ∀ {k : Key} {v : Value}, keyIs k v = true → (∃ i t, k = Sum.inl i ∧ v = Value.int i t) ∨ (∃ x t, k = Sum.inr x ∧ v = Value.str x t)
  | .inl i, v, h => by
    obtain ⟨t, e⟩ := Value.isInt_shape (k := i) (v := v) h
    exact .inl ⟨i, t, rfl, e⟩
  | .inr x, v, h => by
    obtain ⟨t, e⟩ := Value.isStrOf_shape (x := x) (v := v) h
    exact .inr ⟨x, t, rfl, e⟩
theorem key_ll (a b : Int) : decide ((Sum.inl a : Key) = Sum.inl b) = (a == b) := by
  by_cases e : a = b
  · subst e; simp
  · have h : ¬ (Sum.inl a : Key) = Sum.inl b := fun q => e (Sum.inl.inj q)
    rw [decide_eq_false h]
    exact (beq_eq_false_iff_ne.mpr e).symm
theorem key_rr (a b : Str) : decide ((Sum.inr a : Key) = Sum.inr b) = decide (a = b) := by
  by_cases e : a = b
  · subst e; simp
  · have h : ¬ (Sum.inr a : Key) = Sum.inr b := fun q => e (Sum.inr.inj q)
    rw [decide_eq_false h, decide_eq_false e]
theorem key_lr (a : Int) (b : Str) : decide ((Sum.inl a : Key) = Sum.inr b) = false := decide_eq_false (fun q => nomatch q)
theorem key_rl (a : Str) (b : Int) : decide ((Sum.inr a : Key) = Sum.inl b) = false := decide_eq_false (fun q => nomatch q)
def mixKind (prog : Program) (w : World) : PySem.KeyKind prog w Key where
  is := keyIs
  hash := keyH w
  inj := fun v a b ha hb => by
    rcases keyIs_shape ha with ⟨i, t, rfl, rfl⟩ | ⟨x, t, rfl, rfl⟩
    · rcases keyIs_shape hb with ⟨j, u, rfl, e⟩ | ⟨y, u, rfl, e⟩
      · injection e with e1 _; rw [e1]
      · exact nomatch e
    · rcases keyIs_shape hb with ⟨j, u, rfl, e⟩ | ⟨y, u, rfl, e⟩
      · exact nomatch e
      · injection e with e1 _; rw [e1]
  byValue := fun k v h => by
    rcases keyIs_shape h with ⟨i, t, rfl, rfl⟩ | ⟨x, t, rfl, rfl⟩ <;> rfl
  pyHash := fun hv h => by
    rcases keyIs_shape hv with ⟨i, t, rfl, rfl⟩ | ⟨x, t, rfl, rfl⟩
    · exact wpAny_pyHash_int h
    · exact wpAny_pyHash_str h
  eqBool := fun hu hv h => by
    rcases keyIs_shape hu with ⟨i, t, rfl, rfl⟩ | ⟨x, t, rfl, rfl⟩
    · rcases keyIs_shape hv with ⟨j, u, rfl, rfl⟩ | ⟨y, u, rfl, rfl⟩
      · rw [key_ll] at h; exact wpAny_eqBool_int h
      · rw [key_lr] at h; exact SeqAt.EqAt.int_str i t y u _ _ _ _ h
    · rcases keyIs_shape hv with ⟨j, u, rfl, rfl⟩ | ⟨y, u, rfl, rfl⟩
      · rw [key_rl] at h; exact SeqAt.EqAt.str_int x t j u _ _ _ _ h
      · rw [key_rr] at h; exact wpAny_eqBool_str h
  «strs» := fun k x t v h => by
    rcases keyIs_shape h with ⟨i, u, rfl, e⟩ | ⟨y, u, rfl, e⟩
    · exact nomatch e
    · injection e with e1 _
      subst e1
      cases v <;> rfl
end L2
namespace L2
open PySem PySem.Spec PyProof.Rows
inductive V where
  | non | bl (b : Bool) | int (i : Int) | str (x : Str) | byt (b : Array UInt8) | flt (b : UInt64) | ref (a : Addr) | ty (n : String)
  deriving DecidableEq
def RelV : V → Value → Prop
  | .non, u => u = Value.none
  | .bl b, u => u = Value.bool b
  | .int i, u => ∃ t, u = Value.int i t
  | .str x, u => ∃ t, u = Value.str x t
  | .byt b, u => ∃ t, u = Value.bytes b t
  | .flt b, u => ∃ t, u = Value.float b t
  | .ref a, u => u = Value.ref a
  | .ty n, u => u = Value.type n
abbrev Vals : List V → List Value → Prop := Paired RelV
theorem Vals.length {xs : List V} {us : List Value} (r : Vals xs us) : xs.length = us.length := Paired.length r
theorem Vals.get : ∀ {xs : List V} {us : List Value} {i : Nat} {x : V}, Vals xs us → xs[i]? = some x → ∃ u, us[i]? = some u ∧ RelV x u
  | _, _, _, _, .nil, e => by simp at e
  | _, _, 0, _, .cons r _, e => by simp at e; subst e; exact ⟨_, rfl, r⟩
  | _, _, i + 1, x, .cons _ t, e => by
    obtain ⟨u, h1, h2⟩ := Vals.get (i := i) (x := x) t (by simpa using e)
    exact ⟨u, by simpa using h1, h2⟩
theorem Vals.set {x : V} {u : Value} (r : RelV x u) : ∀ {xs : List V} {us : List Value} (i : Nat), Vals xs us → Vals (xs.set i x) (us.set i u)
  | _, _, _, .nil => .nil
  | _, _, 0, .cons _ t => .cons r t
  | _, _, i + 1, .cons q t => .cons q (Vals.set r i t)
theorem Vals.append : ∀ {xs ys : List V} {us ws : List Value}, Vals xs us → Vals ys ws → Vals (xs ++ ys) (us ++ ws)
  | _, _, _, _, .nil, s => s
  | _, _, _, _, .cons r t, s => .cons r (Vals.append t s)
theorem Vals.take : ∀ {xs : List V} {us : List Value} (n : Nat), Vals xs us → Vals (xs.take n) (us.take n)
  | _, _, 0, _ => .nil
  | _, _, _ + 1, .nil => .nil
  | _, _, n + 1, .cons r t => .cons r (Vals.take n t)
theorem Vals.drop : ∀ {xs : List V} {us : List Value} (n : Nat), Vals xs us → Vals (xs.drop n) (us.drop n)
  | _, _, 0, r => r
  | _, _, _ + 1, .nil => .nil
  | _, _, n + 1, .cons _ t => Vals.drop n t
def RelO : Option V → Option Value → Prop
  | some v, some u => RelV v u
  | none, none => True
  | _, _ => False
def KV {κ : Type} : List (κ × V) → List (κ × Value) → Prop := Paired fun (p : κ × V) (q : κ × Value) => p.1 = q.1 ∧ RelV p.2 q.2
def kV : Key → V
  | .inl i => .int i
  | .inr x => .str x
inductive HO where
  /-- a list -/
  | lst (xs : List V)
  /-- a tuple (never changes) -/
  | tup (xs : List V)
  /-- a dict whose keys are ints and texts; one whose keys are tuples of ints and texts (the empty one is both) -/
  | dK (kvs : List (Key × V)) | dT (kvs : List (List Key × V))
  /-- a set of ints: its members, its size -/
  | set (S : Int → Bool) (n : Nat)
  /-- an instance of the class at C, its dict at dx, its attributes -/
  | ins (C dx : Addr) (fs : List (Str × V))
  /-- the dict of the instance at x -/
  | own (x : Addr)
  /-- the dict of an exception -/
  | xd (fs : List (Str × V))
  /-- a bound method, f of x -/
  | met (f x : Addr)
  /-- a range object lo, lo + 1, .. below hi -/
  | rng (lo hi : Int)
  /-- a thing that is known to the object (the script; a dict while a loop walks it): read, never written while it is so -/
  | frz (o : Obj) (u : HO)
  /-- a code object's table -/
  | tbl (ps : Array Value)
  /-- any other thing, by what is true of its one object (a def of one's own: SetO a S n := HO.ext fun h => ..) -/
  | ext (φ : Heap → Prop)
abbrev Hp := Addr → Option HO
def upd (H : Hp) (a : Addr) (o : HO) : Hp := fun b => if b = a then some o else H b
theorem upd_same {H : Hp} {a : Addr} {o : HO} : upd H a o a = some o := by unfold upd; rw [if_pos rfl]
theorem upd_ne {H : Hp} {a b : Addr} {o : HO} (h : b ≠ a) : upd H a o b = H b := by unfold upd; rw [if_neg h]
theorem ne_of_none {H : Hp} {a b : Addr} {o : HO} (h : H a = some o) (h' : H b = none) : a ≠ b := by
  intro e; subst e; rw [h] at h'; cases h'
section
variable (P : Program) (w : World)
def ObjOk (H : Hp) (h : Heap) (a : Addr) : HO → Prop
  | .lst xs => xs.length ≤ sizeLine ∧ ∃ (its : List Value) (n : Nat), Vals xs its ∧ h.get? a = some { cls := .type "list", data := .seq its.toArray n }
  | .tup xs => xs.length ≤ sizeLine ∧ ∃ its : List Value, Vals xs its ∧ IsTup h a its.toArray
  | .dK kvs => kvs.length ≤ sizeLine ∧ (a == sysModules) = false ∧ ∃ vs, KV kvs vs ∧ h.DictOf (mixKind P w) a vs
  | .dT kvs => kvs.length ≤ sizeLine ∧ (a == sysModules) = false ∧ ∃ xs : List (List Key × Addr × Value),
      Paired (fun (p : List Key × V) (q : List Key × Addr × Value) => p.1 = q.1 ∧ H q.2.1 = some (.tup (p.1.map kV)) ∧ RelV p.2 q.2.2) kvs xs ∧
      ∃ o es ep, h.get? a = some o ∧ o.ExactDict ∧ o.data = .dict es ep ∧ es.toList = xs.map (entryOfKey (tupleKind (mixKind P w))) ∧ (xs.map (·.1)).Nodup
  | .set S n => h.SetOf (intKind P w) a S n
  | .ins C dx fs => H dx = some (.own a) ∧ fs.length ≤ 1000 ∧ dx ≠ a ∧ h.get? a = some (PySem.W.instObj C dx) ∧
      ∃ mA, h.Ns1 dx mA ∧ (∀ f, RelO (fs.lookup f) (mA f)) ∧ PySem.Within mA (fs.map (·.1))
  | .own _ => ∃ o, h.get? a = some o
  | .xd fs => ∃ mA, h.Ns1 a mA ∧ ∀ f, RelO (fs.lookup f) (mA f)
  | .rng lo hi => ∃ t u v, h.get? a = some { cls := .type "range", data := .fields #[.int lo t, .int hi u, .int 1 v] }
  | .frz o u => h.get? a = some o ∧ ObjOk H h a u
  | .tbl ps => h.get? a = some { cls := .none, data := .fields ps }
  | .met f x => h.get? a = some (PySem.W.methodObj (.ref f) (.ref x))
  | .ext φ => φ h ∧ (∃ o, h.get? a = some o) ∧ ∀ h1 h2 : Heap, φ h1 → (∀ o, h1.get? a = some o → h2.get? a = some o) → φ h2
def HOk (H : Hp) (h : Heap) : Prop := ∀ a o, H a = some o → ObjOk P w H h a o
end
section
variable {P : Program} {w : World} {H H' : Hp} {h h' : Heap} {a : Addr} {o : HO}
theorem ObjOk.lt (x : ObjOk P w H h a o) : a < h.objs.size := by
  cases o with
  | lst xs => obtain ⟨_, _, _, _, e⟩ := x; exact Heap.lt_size e
  | tup xs => obtain ⟨_, _, _, p⟩ := x; exact p.lt
  | dK kvs => obtain ⟨_, _, _, _, o, _, _, e, _⟩ := x; exact Heap.lt_size e
  | dT kvs => obtain ⟨_, _, _, _, o, _, _, e, _⟩ := x; exact Heap.lt_size e
  | set S n => obtain ⟨o, _, _, _, e, _⟩ := x; exact Heap.lt_size e
  | ins C dx fs => obtain ⟨_, _, _, e, _⟩ := x; exact Heap.lt_size e
  | own y => obtain ⟨_, e⟩ := x; exact Heap.lt_size e
  | xd fs => obtain ⟨_, ⟨_, _, _, e, _⟩, _⟩ := x; exact Heap.lt_size e
  | rng lo hi => obtain ⟨_, _, _, e⟩ := x; exact Heap.lt_size e
  | frz ob u => obtain ⟨e, _⟩ := x; exact Heap.lt_size e
  | tbl ps => exact Heap.lt_size (show h.get? a = some _ from x)
  | met f y => exact Heap.lt_size (show h.get? a = some _ from x)
  | ext φ => obtain ⟨_, ⟨_, e⟩, _⟩ := x; exact Heap.lt_size e
theorem Paired.mapP {α β : Type} {F G : α → β → Prop} : ∀ {l₁ : List α} {l₂ : List β}, Paired F l₁ l₂ → (∀ a b, F a b → G a b) → Paired G l₁ l₂
  | _, _, .nil, _ => .nil
  | _, _, .cons r t, f => .cons (f _ _ r) (Paired.mapP t f)
theorem ObjOk.stay (x : ObjOk P w H h a o) (k : ∀ b u, (b = a ∨ H b = some (.own a)) → h.get? b = some u → h'.get? b = some u)
    (ho : ∀ b, H b = some (.own a) → H' b = some (.own a)) (ht : ∀ b xs, H b = some (.tup xs) → H' b = some (.tup xs)) : ObjOk P w H' h' a o := by
  induction o with
  | lst xs => obtain ⟨z, its, n, r, e⟩ := x; exact ⟨z, its, n, r, k _ _ (.inl rfl) e⟩
  | tup xs => obtain ⟨z, its, r, ob, e, c⟩ := x; exact ⟨z, its, r, ob, k _ _ (.inl rfl) e, c⟩
  | dK kvs => obtain ⟨z, y, vs, r, ob, es, ep, e, c⟩ := x; exact ⟨z, y, vs, r, ob, es, ep, k _ _ (.inl rfl) e, c⟩
  | dT kvs =>
    obtain ⟨z, y, xs, r, ob, es, ep, e, c⟩ := x
    exact ⟨z, y, xs, Paired.mapP r fun p q z => ⟨z.1, ht _ _ z.2.1, z.2.2⟩, ob, es, ep, k _ _ (.inl rfl) e, c⟩
  | set S n => obtain ⟨ob, es, ep, t, e, c⟩ := x; exact ⟨ob, es, ep, t, k _ _ (.inl rfl) e, c⟩
  | ins C dx fs =>
    obtain ⟨d, z, ne, e, mA, ⟨od, es, ep, e2, c⟩, r⟩ := x
    exact ⟨ho _ d, z, ne, k _ _ (.inl rfl) e, mA, ⟨od, es, ep, k _ _ (.inr d) e2, c⟩, r⟩
  | own y => obtain ⟨ob, e⟩ := x; exact ⟨ob, k _ _ (.inl rfl) e⟩
  | xd fs => obtain ⟨mA, ⟨od, es, ep, e, c⟩, r⟩ := x; exact ⟨mA, ⟨od, es, ep, k _ _ (.inl rfl) e, c⟩, r⟩
  | rng lo hi => obtain ⟨t, u, v, e⟩ := x; exact ⟨t, u, v, k _ _ (.inl rfl) e⟩
  | frz ob u ih => obtain ⟨e, q⟩ := x; exact ⟨k _ _ (.inl rfl) e, ih q⟩
  | tbl ps =>
    have e : h.get? a = some { cls := .none, data := .fields ps } := x
    show h'.get? a = some { cls := .none, data := .fields ps }
    exact k a _ (.inl rfl) e
  | met f y =>
    have e : h.get? a = some (PySem.W.methodObj (.ref f) (.ref y)) := x
    show h'.get? a = some (PySem.W.methodObj (.ref f) (.ref y))
    exact k a _ (.inl rfl) e
  | ext φ => obtain ⟨p, ⟨o, e⟩, st⟩ := x; exact ⟨st _ _ p fun o q => k _ _ (.inl rfl) q, ⟨o, k _ _ (.inl rfl) e⟩, st⟩
theorem HOk.lt (x : HOk P w H h) (e : H a = some o) : a < h.objs.size := (x a o e).lt
theorem HOk.fresh (x : HOk P w H h) (e : h.objs.size ≤ a) : H a = none := by
  cases q : H a with
  | none => rfl
  | some u => exact absurd (Nat.lt_of_lt_of_le (x.lt q) e) (Nat.lt_irrefl _)
theorem HOk.kept (x : HOk P w H h) (k : ∀ b u, h.get? b = some u → h'.get? b = some u) : HOk P w H h' := fun a o e =>
  (x a o e).stay (fun b u _ q => k b u q) (fun _ q => q) fun _ _ q => q
theorem HOk.laid (x : HOk P w H h) (k : ∀ b u, h.get? b = some u → h'.get? b = some u) (hp : h.objs.size ≤ a) (new : ObjOk P w (upd H a o) h' a o) : HOk P w (upd H a o) h' := fun b u e => by
  have hn := x.fresh hp
  by_cases hb : b = a
  · subst hb; rw [upd_same] at e; cases e; exact new
  · rw [upd_ne hb] at e
    exact (x b u e).stay (fun c v _ q => k c v q) (fun c q => by rw [upd_ne (ne_of_none q hn)]; exact q) fun c xs q => by rw [upd_ne (ne_of_none q hn)]; exact q
end
def Rd (H : Hp) (a : Addr) (u : HO) : Prop := H a = some u ∨ ∃ o, H a = some (.frz o u)
theorem Rd.of {H : Hp} {a : Addr} {u : HO} (h : H a = some u) : Rd H a u := .inl h
theorem Rd.ok {P : Program} {w : World} {H : Hp} {h : Heap} {a : Addr} {u : HO} (r : Rd H a u) (x : HOk P w H h) : ObjOk P w H h a u := by
  rcases r with r | ⟨o, r⟩
  · exact x a u r
  · obtain ⟨_, q⟩ := x a _ r
    exact q
def Mut : Option HO → Prop
  | some (.lst _) => True
  | some (.dK _) => True
  | some (.dT _) => True
  | some (.set _ _) => True
  | some (.ins _ _ _) => True
  | some (.ext _) => True
  | _ => False
section
variable {P : Program} {w : World} {H : Hp} {h h' : Heap} {x e : Addr} {o' : HO}
theorem HOk.write (ok : HOk P w H h) (mu : Mut (H x)) (he : e = x ∨ H e = some (.own x)) (k : ∀ b u, b ≠ e → h.get? b = some u → h'.get? b = some u) (heo : ∃ u, h'.get? e = some u)
    (new : ObjOk P w (upd H x o') h' x o') : HOk P w (upd H x o') h' := fun b u q => by
  have nown : ∀ c y, H c = some (.own y) → c ≠ x := fun c y r z => by subst z; rw [r] at mu; exact mu
  have ntup : ∀ c xs, H c = some (.tup xs) → c ≠ x := fun c xs r z => by subst z; rw [r] at mu; exact mu
  by_cases hb : b = x
  · subst hb; rw [upd_same] at q; cases q; exact new
  · rw [upd_ne hb] at q
    by_cases hbe : b = e
    · have q' : H b = some (.own x) := by
        rcases he with z | z
        · exact absurd (hbe.trans z) hb
        · rw [hbe]; exact z
      rw [q] at q'; cases q'
      obtain ⟨v, hv⟩ := heo
      exact ⟨v, by rw [hbe]; exact hv⟩
    · refine (ok b u q).stay (fun c v hc r => k c v ?_ r) (fun c r => by rw [upd_ne (nown c b r)]; exact r) fun c xs r => by rw [upd_ne (ntup c xs r)]; exact r
      rcases hc with rfl | hc
      · exact hbe
      · rintro rfl
        rcases he with z | z
        · exact nown c b hc z
        · rw [hc] at z; cases z; exact hb rfl
end
structure Un (fs ex : List Addr) (H H' : Hp) (h h' : Heap) : Prop where
  keep : ∀ b o, h.get? b = some o → H b = none → b ∉ fs → b ∉ ex → h'.get? b = some o
  slot : ∀ b o, h.get? b = some o → H b = none → b ∈ fs → b ∉ ex → ∃ sl, h'.get? b = some { o with slots := sl }
  free : ∀ b o, h.get? b = some o → H b = none → b ∉ ex → H' b = none
  there : ∀ b o, h.get? b = some o → b ∉ ex → ∃ o', h'.get? b = some o'
  tups : ∀ b xs, H b = some (.tup xs) → H' b = some (.tup xs)
  frzs : ∀ b o u, H b = some (.frz o u) → H' b = some (.frz o u)
  tbls : ∀ b ps, H b = some (.tbl ps) → ∃ more, H' b = some (.tbl (ps ++ more))
section
variable {fs fs' ex ex' : List Addr} {H H1 H2 : Hp} {h h1 h2 h' : Heap} {a x e : Addr} {o : HO}
theorem Un.any (u : Un fs ex H H1 h h1) {b : Addr} {ob : Obj} (q : h.get? b = some ob) (n : H b = none) (hx : b ∉ ex) : ∃ sl, h1.get? b = some { ob with slots := sl } := by
  by_cases hb : b ∈ fs
  · exact u.slot b ob q n hb hx
  · exact ⟨ob.slots, u.keep b ob q n hb hx⟩
theorem Un.trans (a : Un fs ex H H1 h h1) (b : Un fs ex H1 H2 h1 h2) : Un fs ex H H2 h h2 where
  keep := fun c ob q n hc hx => b.keep c ob (a.keep c ob q n hc hx) (a.free c ob q n hx) hc hx
  slot := fun c ob q n hc hx => by
    obtain ⟨sl, e1⟩ := a.slot c ob q n hc hx
    obtain ⟨sl', e2⟩ := b.slot c _ e1 (a.free c ob q n hx) hc hx
    exact ⟨sl', e2⟩
  free := fun c ob q n hx => by
    obtain ⟨o', e1⟩ := a.there c ob q hx
    exact b.free c o' e1 (a.free c ob q n hx) hx
  there := fun c ob q hx => by
    obtain ⟨o', e1⟩ := a.there c ob q hx
    exact b.there c o' e1 hx
  tups := fun c xs q => b.tups c xs (a.tups c xs q)
  frzs := fun c ob xs q => b.frzs c ob xs (a.frzs c ob xs q)
  tbls := fun c ps q => by
    obtain ⟨m1, e1⟩ := a.tbls c ps q
    obtain ⟨m2, e2⟩ := b.tbls c _ e1
    exact ⟨m1 ++ m2, by rw [e2, Array.append_assoc]⟩
theorem Un.kept (k : ∀ b u, h.get? b = some u → h'.get? b = some u) : Un fs ex H H h h' :=
  ⟨fun b ob q _ _ _ => k b ob q, fun b ob q _ _ _ => ⟨ob.slots, k b ob q⟩, fun _ _ _ n _ => n, fun b ob q _ => ⟨ob, k b ob q⟩, fun _ _ q => q, fun _ _ _ q => q, fun _ ps q => ⟨#[], by rw [q]; simp⟩⟩
theorem Un.refl : Un fs ex H H h h := Un.kept fun _ _ q => q
theorem Un.laid (k : ∀ b u, h.get? b = some u → h'.get? b = some u) (hp : h.objs.size ≤ a) (hn : H a = none) : Un fs ex H (upd H a o) h h' where
  keep := fun b u q _ _ _ => k b u q
  slot := fun b u q _ _ _ => ⟨u.slots, k b u q⟩
  free := fun b u q n _ => by rw [upd_ne (Nat.ne_of_lt (Nat.lt_of_lt_of_le (Heap.lt_size q) hp))]; exact n
  there := fun b u q _ => ⟨u, k b u q⟩
  tups := fun b xs q => by rw [upd_ne (ne_of_none q hn)]; exact q
  frzs := fun b u xs q => by rw [upd_ne (ne_of_none q hn)]; exact q
  tbls := fun b ps q => ⟨#[], by rw [upd_ne (ne_of_none q hn), q]; simp⟩
theorem Un.write (mu : Mut (H x)) (he : e = x ∨ H e = some (.own x)) (k : ∀ b u, b ≠ e → h.get? b = some u → h'.get? b = some u) (heo : ∃ u, h'.get? e = some u) : Un fs ex H (upd H x o) h h' := by
  have hx : ∀ b, H b = none → b ≠ x := fun b n z => by subst z; rw [n] at mu; exact mu
  have hb : ∀ b, H b = none → b ≠ e := fun b n z => by
    subst z
    rcases he with r | r
    · exact hx b n r
    · rw [n] at r; cases r
  have hm : ∀ b u, H b = some u → ¬ Mut (some u) → b ≠ x := fun b u q nm z => by subst z; rw [q] at mu; exact nm mu
  refine ⟨fun b u q n _ _ => k b u (hb b n) q, fun b u q n _ _ => ⟨u.slots, k b u (hb b n) q⟩, fun b u q n _ => by rw [upd_ne (hx b n)]; exact n, fun b u q _ => ?_,
    fun b xs q => by rw [upd_ne (hm b _ q fun z => z)]; exact q, fun b u xs q => by rw [upd_ne (hm b _ q fun z => z)]; exact q, fun b ps q => ⟨#[], by rw [upd_ne (hm b _ q fun z => z), q]; simp⟩⟩
  by_cases hbe : b = e
  · subst hbe; exact heo
  · exact ⟨u, k b u hbe q⟩
theorem Un.mono (u : Un fs ex H H1 h h1) (hs : ∀ b ∈ fs, b ∈ fs') (hx : ∀ b ∈ ex, b ∈ ex') : Un fs' ex' H H1 h h1 :=
  ⟨fun b ob q n hb he => u.keep b ob q n (fun z => hb (hs b z)) fun z => he (hx b z), fun _ _ q n _ he => u.any q n fun z => he (hx _ z), fun b ob q n he => u.free b ob q n fun z => he (hx b z), fun b ob q he => u.there b ob q fun z => he (hx b z), u.tups, u.frzs, u.tbls⟩
end
def trk (h : Heap) (H : Hp) : List Addr := (List.range h.objs.size).filter fun a => (H a).isSome
def hidT (h : Heap) (H : Hp) : Heap := PySem.W.hideAll h (trk h H)
theorem hidT_size (h : Heap) (H : Hp) : (hidT h H).objs.size = h.objs.size := PySem.W.hideAll_size _ _
theorem hidT_get {h : Heap} {H : Hp} {b : Addr} {o : Obj} (e : h.get? b = some o) (n : H b = none) : (hidT h H).get? b = some o :=
  PySem.W.hideAll_get _ e fun hm => by
    have q : (H b).isSome = true := (List.mem_filter.mp hm).2
    rw [n] at q; simp at q
theorem of_hidT {h : Heap} {H : Hp} {b : Addr} {o : Obj} (e : (hidT h H).get? b = some o) : h.get? b = some o ∧ H b = none := by
  have e' : h.get? b = some o := PySem.W.of_hideAll (trk h H) e
  refine ⟨e', ?_⟩
  cases q : H b with
  | none => rfl
  | some x =>
    have hm : b ∈ trk h H := List.mem_filter.mpr ⟨List.mem_range.mpr (Heap.lt_size e'), by simp [q]⟩
    have z : (hidT h H).get? b = none := PySem.W.hideAll_none (trk h H) hm
    rw [z] at e; cases e
def allNews (g h : Heap) (L : Addr) : List (Addr × Obj) := (List.range h.objs.size).filterMap fun a => if a = L ∨ (g.get? a).isSome = true then none else (h.get? a).map fun o => (a, o)
def rest (g h : Heap) (L d : Addr) : List (Addr × Obj) := (allNews g h L).filter fun p => decide (p.1 ≠ d)
end L2
namespace L2
open PySem PySem.Spec PyProof.Rows
structure Mod (K : PySem.W.Frag) (mg : Str → Option Value) (base : Heap) : Prop where
  kin : K.In base
  glob : base.Ns mainGlobals mg
  blt : ∃ mb, base.Ns builtinsNs mb ∧ ∀ x : Str, x ≠ "__name__" → mb x = bootBuiltins x
  nolimit : base.NoLimit
structure Cx where
  prog : Program
  w : World
  K : PySem.W.Frag
  mg : Str → Option Value
  base : Heap
  A : Around
  N : List Str
  s₀ : Shared
  H₀ : Hp
  env : Env
  outer : List Env
  stack : List Env
  ex : List Addr
  fn : Str → Bool
  calm : Bool
  pn : List (Addr × Obj)
  xe : Value → Shared → Prop
def frs (l : List Env) : List Addr := l.filterMap (·.frame)
abbrev Cx.fs (X : Cx) : List Addr := frs X.outer
def Vis (sc : Scope) (x : Str) : Prop := sc.names.lookup x = some .local ∨ sc.names.lookup x = some .cell ∨ sc.names.lookup x = some .free
def Loc (sc : Scope) (x : Str) : Prop := sc.names.lookup x = some .local ∨ sc.names.lookup x = some .cell
def Look (env : Env) (h : Heap) (m : Str → Option Value) (x : Str) (u : Value) : Prop :=
  (env.kindOf x = some .local ∧ m x = some u) ∨ ((env.kindOf x = some .cell ∨ env.kindOf x = some .free) ∧ ∃ c, env.cells.lookup x = some c ∧ h.IsCell c (some u))
structure Cx.Ok (X : Cx) : Prop where
  mod : Mod X.K X.mg X.base
  kind : X.env.scope.kind = .function
  glob : X.env.globals = mainGlobals
  blt : X.env.builtins = builtinsNs
  above : X.s₀.heap.objs.size ≤ X.env.locals
  inj : ∀ x y c, X.env.cells.lookup x = some c → X.env.cells.lookup y = some c → x = y
  has : ∀ x, (X.env.kindOf x = some .cell ∨ X.env.kindOf x = some .free) → ∃ c, X.env.cells.lookup x = some c
  cab : ∀ x c, X.fn x = true → X.env.cells.lookup x = some c → X.s₀.heap.objs.size ≤ c
  hd : X.calm = true → X.A.handled = none
  frames : X.A.frames = some X.stack
  stk : X.stack = X.outer ∨ (X.stack = X.env :: X.outer ∧ X.env.frame = some X.env.locals)
  exf : ∀ b ∈ X.ex, b ≠ X.env.locals ∧ ∀ x c, X.env.cells.lookup x = some c → c ≠ b
  bs : ∀ b o, X.base.get? b = some o → X.s₀.heap.get? b = some o ∧ X.H₀ b = none
  bsz : X.base.objs.size ≤ X.s₀.heap.objs.size
  noex : ∀ b o, X.base.get? b = some o → b ∉ X.ex
  exfs : ∀ b ∈ X.ex, b ∉ X.fs
  funs : X.s₀.heap.FunFrames X.base X.outer
  frf : ∀ b ∈ X.fs, X.H₀ b = none
structure Inv (X : Cx) (pins : List (Addr × Obj)) (σ : List (Option V)) (H : Hp) (s : Shared) : Prop where
  ok : X.Ok
  os : s.os = X.s₀.os
  bare : AllBare s.gens
  base : Un X.fs X.ex X.H₀ H X.s₀.heap s.heap
  loc : ∃ m, s.heap.Ns X.env.locals m ∧ ∀ (i : Nat) (x : Str) (v : V), X.N[i]? = some x → σ[i]? = some (some v) → Vis X.env.scope x → ∃ u, RelV v u ∧ Look X.env s.heap m x u
  cell : ∀ x c, X.env.cells.lookup x = some c → ∃ v, s.heap.IsCell c v
  free : H X.env.locals = none
  freeC : ∀ x c, X.env.cells.lookup x = some c → H c = none
  pin : ∀ p ∈ X.pn ++ pins, s.heap.get? p.1 = some p.2 ∧ H p.1 = none ∧ p.1 ≠ X.env.locals ∧ p.1 ∉ X.fs ∧ ∀ v, p.2.data ≠ .cell v
  hok : HOk X.prog X.w H s.heap
  len : σ.length = X.N.length
section
variable {X : Cx} {pins : List (Addr × Obj)} {σ : List (Option V)} {H H' : Hp} {s : Shared} {h' : Heap}
theorem Cx.Ok.nofr (ok : X.Ok) {b : Addr} {o : Obj} (e : X.base.get? b = some o) : b ∉ X.fs := fun hb => by
  have := (ok.funs.mem hb).1
  rw [e] at this; cases this
theorem Inv.bs (I : Inv X pins σ H s) : ∀ b o, X.base.get? b = some o → s.heap.get? b = some o ∧ H b = none := fun b o e =>
  ⟨I.base.keep b o (I.ok.bs b o e).1 (I.ok.bs b o e).2 (I.ok.nofr e) (I.ok.noex b o e), I.base.free b o (I.ok.bs b o e).1 (I.ok.bs b o e).2 (I.ok.noex b o e)⟩
theorem Inv.bk (I : Inv X pins σ H s) : ∀ b o, X.base.get? b = some o → s.heap.get? b = some o := fun b o e => (I.bs b o e).1
theorem Inv.mod (I : Inv X pins σ H s) : Mod X.K X.mg X.base := I.ok.mod
theorem Inv.kIn (I : Inv X pins σ H s) : X.K.In s.heap := I.ok.mod.kin.keeps I.bk
theorem Inv.nolimit (I : Inv X pins σ H s) : s.heap.NoLimit := I.ok.mod.nolimit.keeps I.bk
theorem Inv.fr (I : Inv X pins σ H s) : ∃ m, Fr X.base X.env.locals s.heap m :=
  let ⟨m, hn, _⟩ := I.loc
  ⟨m, hn, I.bk, Nat.le_trans I.ok.bsz I.ok.above⟩
theorem Inv.lt (I : Inv X pins σ H s) : X.env.locals < s.heap.objs.size := let ⟨_, hn, _⟩ := I.loc; hn.lt
theorem Inv.sz (I : Inv X pins σ H s) : X.s₀.heap.objs.size ≤ s.heap.objs.size := Nat.le_trans I.ok.above (Nat.le_of_lt I.lt)
theorem Inv.nofs (I : Inv X pins σ H s) {a : Addr} (h : s.heap.objs.size ≤ a) : a ∉ X.fs := fun hb => by
  obtain ⟨_, o, ho, _⟩ := I.ok.funs.mem hb
  exact absurd (Nat.lt_of_lt_of_le (Heap.lt_size ho) (Nat.le_trans I.sz h)) (Nat.lt_irrefl _)
theorem Inv.cne (I : Inv X pins σ H s) : ∀ x c, X.env.cells.lookup x = some c → c ≠ X.env.locals := fun x c e z => by
  obtain ⟨v, o, ho, hd⟩ := I.cell x c e
  obtain ⟨m, ⟨o', es, ep, ho', hd', _⟩, _⟩ := I.loc
  rw [z, ho'] at ho; cases ho; rw [hd'] at hd; cases hd
theorem Inv.funs (I : Inv X pins σ H s) : s.heap.FunFrames X.base X.outer := by
  have all : ∀ (l : List Env), (∀ b ∈ frs l, b ∈ X.fs) → X.s₀.heap.FunFrames X.base l → s.heap.FunFrames X.base l := by
    intro l
    induction l with
    | nil => intro _ _; trivial
    | cons env r ih =>
      intro hs hl
      obtain ⟨hk, ⟨L, o, hf, hn, ho, hd⟩, hr⟩ := hl
      have hL : L ∈ X.fs := hs L (by unfold frs; rw [List.filterMap_cons, hf]; exact List.mem_cons_self)
      obtain ⟨sl, e⟩ := I.base.slot L o ho (I.ok.frf L hL) hL fun z => I.ok.exfs L z hL
      exact ⟨hk, ⟨L, _, hf, hn, e, hd⟩, ih (fun b hb => hs b (by unfold frs; rw [List.filterMap_cons, hf]; exact List.mem_cons_of_mem _ hb)) hr⟩
  exact all X.outer (fun _ hb => hb) I.ok.funs
theorem Inv.stack (I : Inv X pins σ H s) : s.heap.FunFrames X.base X.stack := by
  rcases I.ok.stk with e | ⟨e, hf⟩
  · rw [e]; exact I.funs
  · rw [e]
    obtain ⟨m, hn, _⟩ := I.loc
    refine .cons (by rw [I.ok.kind]; decide) hf hn ?_ I.funs
    exact Heap.get?_none_of_le (Nat.le_trans I.ok.bsz I.ok.above)
theorem Inv.stkSub (I : Inv X pins σ H s) : ∀ b ∈ frs X.stack, b ∈ X.env.locals :: X.fs := fun b hb => by
  rcases I.ok.stk with e | ⟨e, hf⟩
  · rw [e] at hb; exact List.mem_cons_of_mem _ hb
  · rw [e] at hb
    unfold frs at hb
    rw [List.filterMap_cons, hf] at hb
    exact hb
theorem Inv.stkFree (I : Inv X pins σ H s) : ∀ b ∈ frs X.stack, H b = none := fun b hb => by
  rcases List.mem_cons.mp (I.stkSub b hb) with e | hb
  · rw [e]; exact I.free
  · obtain ⟨_, o, ho, _⟩ := I.ok.funs.mem hb
    exact I.base.free b o ho (I.ok.frf b hb) fun z => I.ok.exfs b z hb
theorem Inv.step {g' : Array GenState} {t' : Nat} {d' : Drawn} {ch : List Addr} (I : Inv X pins σ H s)
    (hch : ∀ b ∈ ch, (b ∈ X.ex ∨ X.s₀.heap.objs.size ≤ b) ∧ b ≠ X.env.locals ∧ (∀ x c, X.env.cells.lookup x = some c → c ≠ b) ∧ ∀ p ∈ X.pn ++ pins, p.1 ≠ b)
    (keep : ∀ b o, b ≠ X.env.locals → b ∉ X.fs → b ∉ ch → s.heap.get? b = some o → H b = none → h'.get? b = some o)
    (slot : ∀ b o, b ≠ X.env.locals → b ∈ X.fs → b ∉ ch → s.heap.get? b = some o → H b = none → ∃ sl, h'.get? b = some { o with slots := sl }) (free : ∀ b o, b ∉ ch → s.heap.get? b = some o → H b = none → H' b = none)
    (there : ∀ b o, b ∉ ch → s.heap.get? b = some o → ∃ o', h'.get? b = some o')
    (tups : ∀ b xs, H b = some (.tup xs) → H' b = some (.tup xs)) (frzs : ∀ b o u, H b = some (.frz o u) → H' b = some (.frz o u)) (tbls : ∀ b ps, H b = some (.tbl ps) → ∃ more, H' b = some (.tbl (ps ++ more)))
    (ns : ∀ m, s.heap.Ns X.env.locals m → h'.Ns X.env.locals m) (hok : HOk X.prog X.w H' h') (hg : AllBare g') :
    Inv X pins σ H' { s with heap := h', gens := g', drawn := d', toks := t' } := by
  have neL : ∀ b o, X.s₀.heap.get? b = some o → b ≠ X.env.locals := fun b o e => Nat.ne_of_lt (Nat.lt_of_lt_of_le (Heap.lt_size e) I.ok.above)
  have neC : ∀ b o, X.s₀.heap.get? b = some o → b ∉ X.ex → b ∉ ch := fun b o e hx hb => by
    rcases (hch b hb).1 with z | z
    · exact hx z
    · exact absurd (Nat.lt_of_lt_of_le (Heap.lt_size e) z) (Nat.lt_irrefl _)
  have cellK : ∀ x c, X.env.cells.lookup x = some c → ∀ v, s.heap.IsCell c v → h'.IsCell c v := fun x c e v ⟨o, ho, hd⟩ => by
    have nch : c ∉ ch := fun z => (hch c z).2.2.1 x c e rfl
    by_cases hc : c ∈ X.fs
    · obtain ⟨sl, q⟩ := slot c o (I.cne x c e) hc nch ho (I.freeC x c e)
      exact ⟨_, q, hd⟩
    · exact ⟨o, keep c o (I.cne x c e) hc nch ho (I.freeC x c e), hd⟩
  refine ⟨I.ok, I.os, hg, ⟨fun b o e n hb hx => ?_, fun b o e n hb hx => ?_, fun b o e n hx => ?_, fun b o e hx => ?_, fun b xs e => tups b xs (I.base.tups b xs e), fun b o xs e => frzs b o xs (I.base.frzs b o xs e), fun b ps e => ?_⟩, ?_, fun x c e => ?_, ?_, fun x c e => ?_, fun p hp => ?_, hok, I.len⟩
  · exact keep b o (neL b o e) hb (neC b o e hx) (I.base.keep b o e n hb hx) (I.base.free b o e n hx)
  · obtain ⟨sl, e1⟩ := I.base.slot b o e n hb hx
    obtain ⟨sl', e2⟩ := slot b _ (neL b o e) hb (neC b o e hx) e1 (I.base.free b o e n hx)
    exact ⟨sl', e2⟩
  · obtain ⟨o', e1⟩ := I.base.there b o e hx
    exact free b o' (neC b o e hx) e1 (I.base.free b o e n hx)
  · obtain ⟨o', e1⟩ := I.base.there b o e hx
    exact there b o' (neC b o e hx) e1
  · obtain ⟨m1, e1⟩ := I.base.tbls b ps e
    obtain ⟨m2, e2⟩ := tbls b _ e1
    exact ⟨m1 ++ m2, by rw [e2, Array.append_assoc]⟩
  · obtain ⟨m, hn, hl⟩ := I.loc
    refine ⟨m, ns m hn, fun i x v e1 e2 e3 => ?_⟩
    obtain ⟨u, r, l⟩ := hl i x v e1 e2 e3
    refine ⟨u, r, ?_⟩
    rcases l with l | ⟨k, c, e, z⟩
    · exact .inl l
    · exact .inr ⟨k, c, e, cellK x c e _ z⟩
  · obtain ⟨v, z⟩ := I.cell x c e
    exact ⟨v, cellK x c e v z⟩
  · obtain ⟨m, ⟨o, _, _, ho, _⟩, _⟩ := I.loc
    exact free _ o (fun z => (hch _ z).2.1 rfl) ho I.free
  · obtain ⟨v, o, ho, hd⟩ := I.cell x c e
    exact free c o (fun z => (hch c z).2.2.1 x c e rfl) ho (I.freeC x c e)
  · obtain ⟨e, n, ne, nf, d⟩ := I.pin p hp
    have nch : p.1 ∉ ch := fun z => (hch p.1 z).2.2.2 p hp rfl
    exact ⟨keep p.1 p.2 ne nf nch e n, free p.1 p.2 nch e n, ne, nf, d⟩
theorem Inv.un {t' : Nat} (I : Inv X pins σ H s) (u : Un X.fs [] H H' s.heap h') (hok : HOk X.prog X.w H' h') : Inv X pins σ H' { s with heap := h', toks := t' } := by
  obtain ⟨m, ⟨o, es, ep, ho, r⟩, _⟩ := id I.loc
  obtain ⟨sl, hL⟩ := u.any ho I.free (by simp)
  exact I.step (g' := s.gens) (d' := s.drawn) (ch := []) (fun _ z => nomatch z) (fun b o _ hb _ e n => u.keep b o e n hb (by simp)) (fun b o _ hb _ e n => u.slot b o e n hb (by simp)) (fun b o _ e n => u.free b o e n (by simp)) (fun b o _ e => u.there b o e (by simp)) u.tups u.frzs u.tbls (fun m' hm => by
    obtain ⟨o', es', ep', ho', r'⟩ := hm
    rw [ho] at ho'; cases ho'
    exact ⟨_, es', ep', hL, r'⟩) hok I.bare
theorem Inv.call {g' : Array GenState} {t' : Nat} {d' : Drawn} {ch : List Addr} (I : Inv X pins σ H s) (u : Un (frs X.stack) ch H H' s.heap h') (hok : HOk X.prog X.w H' h') (hg : AllBare g')
    (hch : ∀ b ∈ ch, (b ∈ X.ex ∨ X.s₀.heap.objs.size ≤ b) ∧ b ≠ X.env.locals ∧ (∀ x c, X.env.cells.lookup x = some c → c ≠ b) ∧ ∀ p ∈ X.pn ++ pins, p.1 ≠ b) :
    Inv X pins σ H' { s with heap := h', gens := g', drawn := d', toks := t' } := by
  obtain ⟨m, ⟨o, es, ep, ho, r⟩, _⟩ := id I.loc
  obtain ⟨sl, hL⟩ := u.any ho I.free fun z => (hch _ z).2.1 rfl
  exact I.step (ch := ch) hch (fun b o hL hb hc e n => u.keep b o e n (fun z => (List.mem_cons.mp (I.stkSub b z)).elim hL hb) hc) (fun b o _ _ hc e n => u.any e n hc) (fun b o hc e n => u.free b o e n hc) (fun b o hc e => u.there b o e hc) u.tups u.frzs u.tbls (fun m' hm => by
    obtain ⟨o', es', ep', ho', r'⟩ := hm
    rw [ho] at ho'; cases ho'
    exact ⟨_, es', ep', hL, r'⟩) hok hg
theorem Inv.turned {t' : Nat} {it : Addr} (I : Inv X pins σ H s) (k : ∀ b o, b ≠ it → s.heap.get? b = some o → h'.get? b = some o) (hn : H it = none) (hL : it ≠ X.env.locals)
    (h1 : it ∈ X.ex ∨ X.s₀.heap.objs.size ≤ it) (h2 : ∀ x c, X.env.cells.lookup x = some c → c ≠ it) (h3 : ∀ p ∈ X.pn ++ pins, p.1 ≠ it) : Inv X pins σ H { s with heap := h', toks := t' } := by
  have nit : ∀ b u, H b = some u → b ≠ it := fun b u e z => by rw [z, hn] at e; cases e
  refine I.step (g' := s.gens) (d' := s.drawn) (ch := [it]) (fun b hb => ?_) (fun b o _ _ hc e _ => k b o (fun z => hc (by simp [z])) e) (fun b o _ _ hc e _ => ⟨o.slots, k b o (fun z => hc (by simp [z])) e⟩) (fun _ _ _ _ n => n)
    (fun b o hc e => ⟨o, k b o (fun z => hc (by simp [z])) e⟩) (fun _ _ e => e) (fun _ _ _ e => e) (fun b ps e => ⟨#[], by rw [e]; simp⟩) (fun m hm => ?_) (fun b u e => ?_) I.bare
  · have e : b = it := by simpa using hb
    subst e
    exact ⟨h1, hL, h2, h3⟩
  · obtain ⟨o, es, ep, ho, r⟩ := hm
    exact ⟨o, es, ep, k _ o (Ne.symm hL) ho, r⟩
  · refine (I.hok b u e).stay (fun c v hc q => k c v ?_ q) (fun _ q => q) fun _ _ q => q
    rcases hc with z | z
    · rw [z]; exact nit b u e
    · exact nit c _ z
theorem Inv.tok (I : Inv X pins σ H s) (t : Nat) : Inv X pins σ H { s with toks := t } := I.un (h' := s.heap) (t' := t) Un.refl I.hok
theorem Inv.kept {t' : Nat} (I : Inv X pins σ H s) (k : ∀ b u, s.heap.get? b = some u → h'.get? b = some u) : Inv X pins σ H { s with heap := h', toks := t' } := I.un (Un.kept k) (I.hok.kept k)
theorem Inv.laid {a : Addr} {o : HO} {t' : Nat} (I : Inv X pins σ H s) (k : ∀ b u, s.heap.get? b = some u → h'.get? b = some u) (hp : s.heap.objs.size ≤ a) (new : ObjOk X.prog X.w (upd H a o) h' a o) :
    Inv X pins σ (upd H a o) { s with heap := h', toks := t' } := I.un (Un.laid k hp (I.hok.fresh hp)) (I.hok.laid k hp new)
theorem Inv.write {x e : Addr} {o : HO} {t' : Nat} (I : Inv X pins σ H s) (mu : Mut (H x)) (he : e = x ∨ H e = some (.own x)) (k : ∀ b u, b ≠ e → s.heap.get? b = some u → h'.get? b = some u) (heo : ∃ u, h'.get? e = some u)
    (new : ObjOk X.prog X.w (upd H x o) h' x o) : Inv X pins σ (upd H x o) { s with heap := h', toks := t' } := I.un (Un.write mu he k heo) (I.hok.write mu he k heo new)
theorem Inv.weak {σ' : List (Option V)} (I : Inv X pins σ H s) (hl : σ'.length = σ.length) (w : ∀ (i : Nat) v, σ'[i]? = some (some v) → σ[i]? = some (some v)) : Inv X pins σ' H s :=
  ⟨I.ok, I.os, I.bare, I.base, let ⟨m, hn, hl'⟩ := I.loc; ⟨m, hn, fun i x v e1 e2 e3 => hl' i x v e1 (w i v e2) e3⟩, I.cell, I.free, I.freeC, I.pin, I.hok, hl.trans I.len⟩
theorem Inv.pins_of {pins' : List (Addr × Obj)} (I : Inv X pins σ H s) (h : ∀ p ∈ pins', s.heap.get? p.1 = some p.2 ∧ H p.1 = none ∧ p.1 ≠ X.env.locals ∧ p.1 ∉ X.fs ∧ ∀ v, p.2.data ≠ .cell v) : Inv X pins' σ H s :=
  ⟨I.ok, I.os, I.bare, I.base, I.loc, I.cell, I.free, I.freeC, fun p hp => (List.mem_append.mp hp).elim (fun z => I.pin p (List.mem_append_left _ z)) (h p), I.hok, I.len⟩
theorem nodup_ix {N : List Str} (hN : N.Nodup) {i j : Nat} {x : Str} (a : N[i]? = some x) (b : N[j]? = some x) : i = j := by
  obtain ⟨h1, e1⟩ := List.getElem?_eq_some_iff.mp a
  obtain ⟨h2, e2⟩ := List.getElem?_eq_some_iff.mp b
  exact (List.getElem_inj hN).mp (e1.trans e2.symm)
theorem store_ok2 {M : Model} {A : Around} {E : Value → Shared → Prop} {i : Nat} {x : Str} {v : V} {u : Value} {Q : Unit → Shared → Prop} (I : Inv X pins σ H s) (hN : X.N.Nodup) (hi : X.N[i]? = some x) (hx : Loc X.env.scope x) (r : RelV v u)
    (h : ∀ s', Inv X pins (σ.set i (some v)) H s' → (∃ a, Heap.SameBut a s.heap s'.heap ∧ (a = X.env.locals ∨ X.env.cells.lookup x = some a)) → Q () s') (hf : X.fn x = true ∨ X.env.scope.names.lookup x = some .local := by first | exact .inl rfl | exact .inr rfl | assumption) : wpAny M A (storeName X.env x u) Q E s := by
  obtain ⟨m, hn, hl⟩ := id I.loc
  have hcls : (X.env.scope.kind == .class || (X.env.scope.kind == .module && X.env.locals != X.env.globals)) = false := by rw [I.ok.kind]; rfl
  have hiσ : i < σ.length := by rw [I.len]; exact (List.getElem?_eq_some_iff.mp hi).1
  have cne := I.cne
  have tracked : ∀ {a : Addr} {h' : Heap}, (∃ o, s.heap.get? a = some o ∧ H a = none) → Heap.SameBut a s.heap h' → HOk X.prog X.w H h' := fun {a h'} ha hs b ob e => by
    obtain ⟨_, _, hfree⟩ := ha
    refine (I.hok b ob e).stay (fun c w' hc q => (hs.2 c ?_).trans q) (fun _ q => q) fun _ _ q => q
    rintro rfl
    rcases hc with rfl | hc
    · rw [hfree] at e; cases e
    · rw [hfree] at hc; cases hc
  rcases hx with hk | hk
  · refine wpAny_storeName_local hk hn (fun h' hn' hs => ?_) hcls
    obtain ⟨oL, _, _, hoL, _⟩ := id hn
    refine h _ ⟨I.ok, I.os, I.bare, ⟨fun b o e n hb hx => ?_, fun b o e n hb hx => ?_, I.base.free, fun b o e hx => ?_, I.base.tups, I.base.frzs, I.base.tbls⟩, ⟨_, hn', fun j y v' e1 e2 e3 => ?_⟩, fun y c e => ?_, I.free, I.freeC, fun p hp => ?_, tracked ⟨oL, hoL, I.free⟩ hs, by simpa using I.len⟩ ⟨_, hs, .inl rfl⟩
    · exact (hs.2 b (Nat.ne_of_lt (Nat.lt_of_lt_of_le (Heap.lt_size e) I.ok.above))).trans (I.base.keep b o e n hb hx)
    · obtain ⟨sl, e1⟩ := I.base.slot b o e n hb hx
      exact ⟨sl, (hs.2 b (Nat.ne_of_lt (Nat.lt_of_lt_of_le (Heap.lt_size e) I.ok.above))).trans e1⟩
    · obtain ⟨o', e1⟩ := I.base.there b o e hx
      exact ⟨o', (hs.2 b (Nat.ne_of_lt (Nat.lt_of_lt_of_le (Heap.lt_size e) I.ok.above))).trans e1⟩
    · by_cases hj : j = i
      · subst hj
        rw [hi] at e1; cases e1
        rw [List.getElem?_set_self hiσ] at e2
        cases e2
        exact ⟨u, r, .inl ⟨hk, by simp⟩⟩
      · rw [List.getElem?_set_ne (Ne.symm hj)] at e2
        obtain ⟨u', r', q⟩ := hl j y v' e1 e2 e3
        refine ⟨u', r', ?_⟩
        rcases q with ⟨k, e⟩ | ⟨k, c, e, z⟩
        · refine .inl ⟨k, ?_⟩
          have : y ≠ x := fun e => hj (nodup_ix hN e1 (e ▸ hi))
          simp [this, e]
        · exact .inr ⟨k, c, e, z.sameBut hs (cne y c e)⟩
    · obtain ⟨w', z⟩ := I.cell y c e
      exact ⟨w', z.sameBut hs (cne y c e)⟩
    · obtain ⟨e, n, ne, nf, d⟩ := I.pin p hp
      exact ⟨(hs.2 p.1 ne).trans e, n, ne, nf, d⟩
  · have hfn : X.fn x = true := by
      rcases hf with z | z
      · exact z
      · rw [z] at hk; cases hk
    obtain ⟨c, hc⟩ := I.ok.has x (.inl hk)
    obtain ⟨w', z⟩ := I.cell x c hc
    refine wpAny_storeName_cell I.ok.kind hk hc z (fun h' hc' hs => ?_)
    obtain ⟨oc, hoc, hocd⟩ := id z
    refine h { s with heap := h' } ⟨I.ok, I.os, I.bare, ⟨fun b o e n hb hx => ?_, fun b o e n hb hx => ?_, I.base.free, fun b o e hx => ?_, I.base.tups, I.base.frzs, I.base.tbls⟩, ⟨m, hn.sameBut hs (Ne.symm (cne x c hc)), fun j y v' e1 e2 e3 => ?_⟩, fun y c' e => ?_, I.free, I.freeC, fun p hp => ?_, tracked ⟨oc, hoc, I.freeC x c hc⟩ hs, by simpa using I.len⟩ ⟨c, hs, .inr hc⟩
    · exact (hs.2 b (Nat.ne_of_lt (Nat.lt_of_lt_of_le (Heap.lt_size e) (I.ok.cab x c hfn hc)))).trans (I.base.keep b o e n hb hx)
    · obtain ⟨sl, e1⟩ := I.base.slot b o e n hb hx
      exact ⟨sl, (hs.2 b (Nat.ne_of_lt (Nat.lt_of_lt_of_le (Heap.lt_size e) (I.ok.cab x c hfn hc)))).trans e1⟩
    · obtain ⟨o', e1⟩ := I.base.there b o e hx
      exact ⟨o', (hs.2 b (Nat.ne_of_lt (Nat.lt_of_lt_of_le (Heap.lt_size e) (I.ok.cab x c hfn hc)))).trans e1⟩
    · by_cases hj : j = i
      · subst hj
        rw [hi] at e1; cases e1
        rw [List.getElem?_set_self hiσ] at e2
        cases e2
        exact ⟨u, r, .inr ⟨.inl hk, c, hc, hc'⟩⟩
      · rw [List.getElem?_set_ne (Ne.symm hj)] at e2
        obtain ⟨u', r', q⟩ := hl j y v' e1 e2 e3
        refine ⟨u', r', ?_⟩
        rcases q with q | ⟨k, c', e, z'⟩
        · exact .inl q
        · refine .inr ⟨k, c', e, z'.sameBut hs ?_⟩
          rintro rfl
          exact hj (nodup_ix hN e1 (I.ok.inj _ _ _ e hc ▸ hi))
    · by_cases hcc : c' = c
      · subst hcc; exact ⟨_, hc'⟩
      · obtain ⟨w2, z2⟩ := I.cell y c' e
        exact ⟨w2, z2.sameBut hs hcc⟩
    · obtain ⟨e, n, ne, nf, d⟩ := I.pin p hp
      refine ⟨(hs.2 p.1 ?_).trans e, n, ne, nf, d⟩
      intro q
      rw [q, hoc] at e
      have q' : oc = p.2 := Option.some.inj e
      exact d w' (by rw [← q']; exact hocd)
theorem store_ok {M : Model} {A : Around} {E : Value → Shared → Prop} {i : Nat} {x : Str} {v : V} {u : Value} {Q : Unit → Shared → Prop} (I : Inv X pins σ H s) (hN : X.N.Nodup) (hi : X.N[i]? = some x) (hx : Loc X.env.scope x) (r : RelV v u)
    (h : ∀ s', Inv X pins (σ.set i (some v)) H s' → Q () s') (hf : X.fn x = true ∨ X.env.scope.names.lookup x = some .local := by first | exact .inl rfl | exact .inr rfl | assumption) : wpAny M A (storeName X.env x u) Q E s :=
  store_ok2 I hN hi hx r (fun s' I' _ => h s' I') hf
theorem Inv.call' {s' : Shared} {ch : List Addr} (I : Inv X pins σ H s) (ho : s'.os = s.os) (u : Un (frs X.stack) ch H H' s.heap s'.heap) (hok : HOk X.prog X.w H' s'.heap) (hg : AllBare s'.gens)
    (hch : ∀ b ∈ ch, (b ∈ X.ex ∨ X.s₀.heap.objs.size ≤ b) ∧ b ≠ X.env.locals ∧ (∀ x c, X.env.cells.lookup x = some c → c ≠ b) ∧ ∀ p ∈ X.pn ++ pins, p.1 ≠ b) : Inv X pins σ H' s' := by
  obtain ⟨h', g', d', t', o'⟩ := s'
  have e : o' = s.os := ho
  subst e
  exact I.call (g' := g') (t' := t') (d' := d') u hok hg hch
end
abbrev XK := Value → Option Addr → Hp → Prop
abbrev St := List (Option V)
abbrev VK := V → Hp → Prop
abbrev TE := St → Hp → VK → Prop
abbrev TT := St → Hp → (Bool → Hp → Prop) → Prop
abbrev TA := St → Hp → (List V → Hp → Prop) → Prop
structure Ends where
  nx : St → Hp → Prop
  rt : VK
  bk : St → Hp → Prop := fun _ _ => False
  ct : St → Hp → Prop := fun _ _ => False
abbrev TS := Ends → St → Hp → Prop
def EP (X : Cx) (pins : List (Addr × Obj)) (σ : St) (Q : VK) (u : Value) (s' : Shared) : Prop := ∃ v H', Inv X pins σ H' s' ∧ RelV v u ∧ Q v H'
def TP (X : Cx) (pins : List (Addr × Obj)) (σ : St) (Q : Bool → Hp → Prop) (b : Bool) (s' : Shared) : Prop := ∃ H', Inv X pins σ H' s' ∧ Q b H'
def AP (X : Cx) (pins : List (Addr × Obj)) (σ : St) (Q : List V → Hp → Prop) (us : List Value) (s' : Shared) : Prop := ∃ vs H', Inv X pins σ H' s' ∧ Vals vs us ∧ Q vs H'
def SP (X : Cx) (pins : List (Addr × Obj)) (D : Ends) (f : Flow) (s' : Shared) : Prop :=
  match f with
  | .next => ∃ σ' H', Inv X pins σ' H' s' ∧ D.nx σ' H'
  | .brk => ∃ σ' H', Inv X pins σ' H' s' ∧ D.bk σ' H'
  | .cont => ∃ σ' H', Inv X pins σ' H' s' ∧ D.ct σ' H'
  | .ret u => ∃ v σ' H', Inv X pins σ' H' s' ∧ RelV v u ∧ D.rt v H'
def PE (X : Cx) (e : Expr) (t : TE) : Prop :=
  ∀ (pins : List (Addr × Obj)) (s : Shared) (σ : St) (H : Hp) (Q : VK), Inv X pins σ H s → t σ H Q → wpAny (model X.prog X.w) X.A (eval e X.env) (EP X pins σ Q) X.xe s
def PT (X : Cx) (e : Expr) (t : TT) : Prop :=
  ∀ (pins : List (Addr × Obj)) (s : Shared) (σ : St) (H : Hp) (Q : Bool → Hp → Prop), Inv X pins σ H s → t σ H Q → wpAny (model X.prog X.w) X.A (isTrue e X.env (eval e X.env)) (TP X pins σ Q) X.xe s
def PW (X : Cx) (e : Expr) (t : TT) : Prop :=
  ∀ (whole : Sem Value) (pins : List (Addr × Obj)) (s : Shared) (σ : St) (H : Hp) (Q : Bool → Hp → Prop), Inv X pins σ H s → t σ H Q → wpAny (model X.prog X.w) X.A (isTrue e X.env whole) (TP X pins σ Q) X.xe s
theorem PW.pt {X : Cx} {e : Expr} {t : TT} (h : PW X e t) : PT X e t := h _
def PA (X : Cx) (es : List Expr) (t : TA) : Prop :=
  ∀ (pos : Pos) (pins : List (Addr × Obj)) (s : Shared) (σ : St) (H : Hp) (Q : List V → Hp → Prop), Inv X pins σ H s → t σ H Q → wpAny (model X.prog X.w) X.A (spliced (backTo pos (starEach es X.env))) (AP X pins σ Q) X.xe s
def PS (X : Cx) (st : Stmt) (t : TS) : Prop :=
  ∀ (pins : List (Addr × Obj)) (s : Shared) (σ : St) (H : Hp) (D : Ends), Inv X pins σ H s → t D σ H → wpAny (model X.prog X.w) X.A (exec st X.env) (SP X pins D) X.xe s
def PSs (X : Cx) (st : List Stmt) (t : TS) : Prop :=
  ∀ (pins : List (Addr × Obj)) (s : Shared) (σ : St) (H : Hp) (D : Ends), Inv X pins σ H s → t D σ H → wpAny (model X.prog X.w) X.A (execs st X.env) (SP X pins D) X.xe s
theorem thn {α : Type} {t : Sem α} {Q Q' : α → Shared → Prop} {M : Model} {A : Around} {E : Value → Shared → Prop} {s : Shared} (h : wpAny M A t Q E s) (hQ : ∀ a s, Q a s → Q' a s) : wpAny M A t Q' E s := wpAny_mono h hQ fun _ _ x => x
end L2
namespace L2
open PySem PySem.Spec PyProof.Rows
section
variable {X : Cx}
def tVar (i : Nat) : TE := fun σ H Q => ∃ v, σ[i]? = some (some v) ∧ Q v H
def tC (v : V) : TE := fun _ H Q => Q v H
theorem pe_var {i : Nat} {x : Str} {pos : Pos} (hN : X.N[i]? = some x) (hv : Vis X.env.scope x) (hd : (x == ("__debug__" : Str)) = false := by decide) (hcd : (x == ("__classdict__" : Str)) = false := by decide) : PE X (.Name x pos) (tVar i) := by
  intro pins s σ H Q I h
  obtain ⟨v, e, h⟩ := h
  obtain ⟨m, hn, hl⟩ := I.loc
  obtain ⟨u, r, l⟩ := hl i x v hN e hv
  have fin : EP X pins σ Q u s := ⟨v, H, I, r, h⟩
  rcases l with ⟨hk, hm⟩ | ⟨hk, c, hc, hcell⟩
  · exact wpAny_Name (wpAny_loadName_local I.ok.kind hk hn hm fin) hd
  · rcases hk with hk | hk
    · exact wpAny_Name (wpAny_loadName_cell I.ok.kind hk hc hcell fin) hd
    · exact wpAny_Name (wpAny_loadName_free I.ok.kind hk hc hcell fin hcd) hd
theorem pe_int {i j pos} : PE X (.Constant (.int i) j pos) (tC (.int i)) := fun _ _ _ H _ I h => wpAny_Constant_int ⟨.int i, H, I.tok _, ⟨_, rfl⟩, h⟩
theorem pe_bl {b j pos} : PE X (.Constant (.bool b) j pos) (tC (.bl b)) := fun _ _ _ H _ I h => Constant_bool ⟨.bl b, H, I, rfl, h⟩
theorem pe_str {x j pos} : PE X (.Constant (.str x) j pos) (tC (.str x)) := fun _ _ _ H _ I h => Calls.Constant_str ⟨.str x, H, I.tok _, ⟨_, rfl⟩, h⟩
def Gl (X : Cx) (x : Str) : Prop := X.env.kindOf x = some .globalImplicit
theorem ld_glob {E : Value → Shared → Prop} {pins : List (Addr × Obj)} {s : Shared} {σ : St} {H : Hp} {x : Str} {u : Value} {pos : Pos} {Q : Value → Shared → Prop} (I : Inv X pins σ H s) (hg : Gl X x) (hm : X.mg x = some u) (h : Q u s)
    (hd : (x == ("__debug__" : Str)) = false := by decide) : wpAny (model X.prog X.w) X.A (eval (.Name x pos) X.env) Q E s :=
  Calls.Name_function_global I.ok.kind hg (Calls.loadGlobal_global (by rw [I.ok.glob]; exact I.mod.glob.keeps I.bk) hm h) hd
theorem ld_blt {E : Value → Shared → Prop} {pins : List (Addr × Obj)} {s : Shared} {σ : St} {H : Hp} {x : Str} {u : Value} {pos : Pos} {Q : Value → Shared → Prop} (I : Inv X pins σ H s) (hg : Gl X x) (hm : X.mg x = none) (hv : bootBuiltins x = some u) (h : Q u s)
    (hn : x ≠ "__name__" := by decide) (hd : (x == ("__debug__" : Str)) = false := by decide) : wpAny (model X.prog X.w) X.A (eval (.Name x pos) X.env) Q E s := by
  obtain ⟨mb, h1, h2⟩ := I.mod.blt
  exact Calls.Name_function_global I.ok.kind hg (Calls.loadGlobal_builtin (by rw [I.ok.glob]; exact I.mod.glob.keeps I.bk) hm (by rw [I.ok.blt]; exact h1.keeps I.bk) ((h2 x hn).trans hv) h) hd
theorem pe_glob {x : Str} {v : V} {u : Value} {pos : Pos} (hg : Gl X x) (hm : X.mg x = some u) (r : RelV v u) (hd : (x == ("__debug__" : Str)) = false := by decide) : PE X (.Name x pos) (tC v) :=
  fun _ _ _ H _ I h => ld_glob I hg hm ⟨v, H, I, r, h⟩ hd
theorem pe_bltn {x : Str} {v : V} {u : Value} {pos : Pos} (hg : Gl X x) (hm : X.mg x = none) (hv : bootBuiltins x = some u) (r : RelV v u) (hn : x ≠ "__name__" := by decide) (hd : (x == ("__debug__" : Str)) = false := by decide) : PE X (.Name x pos) (tC v) :=
  fun _ _ _ H _ I h => ld_blt I hg hm hv ⟨v, H, I, r, h⟩ hn hd
variable {a b : Expr} {ta tb : TE} {pos : Pos}
variable {tA tB' : TT} {rest : List Expr}
def tAnd (t u : TT) : TT := fun σ H Q => t σ H fun c H1 => if c = true then u σ H1 Q else Q false H1
def tOr (t u : TT) : TT := fun σ H Q => t σ H fun c H1 => if c = true then Q true H1 else u σ H1 Q
def tNot (t : TT) : TT := fun σ H Q => t σ H fun c H1 => Q (!c) H1
theorem pw_and1 (ha : PT X a tA) : PW X (.BoolOp .And [a] pos) tA := by
  intro wh pins s σ H Q I h
  refine isTrue_and (thn (ha pins s σ H Q I h) fun c s1 e => ?_)
  cases c with
  | true => exact isTrue_and_nil e
  | false => exact e
theorem pw_or1 (ha : PT X a tA) : PW X (.BoolOp .Or [a] pos) tA := by
  intro wh pins s σ H Q I h
  refine isTrue_or (thn (ha pins s σ H Q I h) fun c s1 e => ?_)
  cases c with
  | false => exact isTrue_or_nil e
  | true => exact e
theorem pw_and (ha : PT X a tA) (hb : PW X (.BoolOp .And (b :: rest) pos) tB') : PW X (.BoolOp .And (a :: b :: rest) pos) (tAnd tA tB') := by
  intro wh pins s σ H Q I h
  refine isTrue_and (thn (ha pins s σ H _ I h) fun c s1 ⟨H1, I1, q1⟩ => ?_)
  cases c with
  | true => exact hb wh pins s1 σ H1 Q I1 q1
  | false => exact ⟨H1, I1, q1⟩
theorem pw_or (ha : PT X a tA) (hb : PW X (.BoolOp .Or (b :: rest) pos) tB') : PW X (.BoolOp .Or (a :: b :: rest) pos) (tOr tA tB') := by
  intro wh pins s σ H Q I h
  refine isTrue_or (thn (ha pins s σ H _ I h) fun c s1 ⟨H1, I1, q1⟩ => ?_)
  cases c with
  | true => exact ⟨H1, I1, q1⟩
  | false => exact hb wh pins s1 σ H1 Q I1 q1
theorem pt_not (ha : PT X a tA) : PT X (.UnaryOp .Not a pos) (tNot tA) := by
  intro pins s σ H Q I h
  exact isTrue_not (ha pins s σ H (fun c H1 => Q (!c) H1) I h)
def tIf (t : TT) (ta tb : TE) : TE := fun σ H Q => t σ H fun c H1 => if c = true then ta σ H1 Q else tb σ H1 Q
theorem pe_ifExp {c : Expr} (hc : PT X c tA) (ha : PE X a ta) (hb : PE X b tb) : PE X (.IfExp c a b pos) (tIf tA ta tb) := by
  intro pins s σ H Q I h
  refine wpAny_IfExp (thn (hc pins s σ H _ I h) fun d s1 ⟨H1, I1, q1⟩ => ?_)
  cases d with
  | true => exact ha pins s1 σ H1 Q I1 q1
  | false => exact hb pins s1 σ H1 Q I1 q1
end
end L2
namespace L2
open PySem PySem.Spec PyProof.Rows
def SqL (K : PySem.W.Frag) (H : Hp) (a : Addr) (xs : List V) : Prop :=
  Rd H a (.lst xs) ∨
    ∃ (o : Obj) (its : Array Value) (n : Nat), K.lookup a = some o ∧ o.cls = .type "list" ∧ o.dict = none ∧ o.data = .seq its n ∧ its.size ≤ sizeLine ∧ Vals xs its.toList
def SqT (K : PySem.W.Frag) (H : Hp) (a : Addr) (xs : List V) : Prop :=
  Rd H a (.tup xs) ∨
    ∃ (o : Obj) (its : Array Value) (n : Nat), K.lookup a = some o ∧ o.cls = .type "tuple" ∧ o.data = .seq its n ∧ its.size ≤ sizeLine ∧ Vals xs its.toList
def absV : Value → Option V
  | .none => some .non
  | .bool b => some (.bl b)
  | .int i _ => some (.int i)
  | .str x _ => some (.str x)
  | .bytes b _ => some (.byt b)
  | .float b _ => some (.flt b)
  | .ref a => some (.ref a)
  | .type n => some (.ty n)
  | _ => none
theorem RelV.abs {x : V} {u : Value} (r : RelV x u) : absV u = some x := by
  cases x with
  | non => cases r; rfl
  | bl _ => cases r; rfl
  | int _ => obtain ⟨t, rfl⟩ := r; rfl
  | str _ => obtain ⟨t, rfl⟩ := r; rfl
  | byt _ => obtain ⟨t, rfl⟩ := r; rfl
  | flt _ => obtain ⟨t, rfl⟩ := r; rfl
  | ref _ => cases r; rfl
  | ty _ => cases r; rfl
theorem RelV.inj {x y : V} {u : Value} (r : RelV x u) (q : RelV y u) : x = y := Option.some.inj (r.abs.symm.trans q.abs)
theorem Vals.inj : ∀ {xs ys : List V} {us : List Value}, Vals xs us → Vals ys us → xs = ys
  | _, _, _, .nil, .nil => rfl
  | _, _, _, .cons r t, .cons r' t' => by rw [r.inj r', Vals.inj t t']
section
variable {X : Cx} {pins : List (Addr × Obj)} {σ : St} {H : Hp} {s : Shared} {a : Addr} {xs ys : List V}
theorem SqL.of {K : PySem.W.Frag} (h : H a = some (.lst xs)) : SqL K H a xs := .inl (.inl h)
theorem SqT.of {K : PySem.W.Frag} (h : H a = some (.tup xs)) : SqT K H a xs := .inl (.inl h)
theorem Inv.list (I : Inv X pins σ H s) (h : SqL X.K H a xs) : ∃ its : List Value, Vals xs its ∧ PlainL s.heap a its.toArray ∧ xs.length ≤ sizeLine := by
  rcases h with h | ⟨o, its, n, hk, hc, hd, hs, hz, r⟩
  · obtain ⟨z, its, n, r, e⟩ := h.ok I.hok
    exact ⟨its, r, ⟨_, n, e, rfl, rfl, rfl⟩, z⟩
  · refine ⟨its.toList, r, ⟨o, n, I.kIn a o hk, hc, hd, by simpa using hs⟩, ?_⟩
    have e := r.length
    simp only [Array.length_toList] at e
    omega
theorem Inv.tuple (I : Inv X pins σ H s) (h : SqT X.K H a xs) : ∃ its : List Value, Vals xs its ∧ IsTup s.heap a its.toArray ∧ xs.length ≤ sizeLine := by
  rcases h with h | ⟨o, its, n, hk, hc, hs, hz, r⟩
  · obtain ⟨z, its, r, p⟩ := h.ok I.hok
    exact ⟨its, r, p, z⟩
  · refine ⟨its.toList, r, ⟨o, I.kIn a o hk, hc, n, by simpa using hs⟩, ?_⟩
    have e := r.length
    simp only [Array.length_toList] at e
    omega
theorem Inv.list_inj (I : Inv X pins σ H s) (h : SqL X.K H a xs) (h' : SqL X.K H a ys) : xs = ys := by
  obtain ⟨its, r, ⟨o, n, e, _, _, d⟩, _⟩ := I.list h
  obtain ⟨its', r', ⟨o', n', e', _, _, d'⟩, _⟩ := I.list h'
  rw [e] at e'; cases e'
  rw [d] at d'
  injection d' with d1 _
  have : its = its' := by simpa using congrArg Array.toList d1
  subst this
  exact r.inj r'
theorem Inv.tuple_inj (I : Inv X pins σ H s) (h : SqT X.K H a xs) (h' : SqT X.K H a ys) : xs = ys := by
  obtain ⟨its, r, ⟨o, e, _, n, d⟩, _⟩ := I.tuple h
  obtain ⟨its', r', ⟨o', e', _, n', d'⟩, _⟩ := I.tuple h'
  rw [e] at e'; cases e'
  rw [d] at d'
  injection d' with d1 _
  have : its = its' := by simpa using congrArg Array.toList d1
  subst this
  exact r.inj r'
end
abbrev Cx.wish (X : Cx) (E : Value → Shared → Prop) : Cx := { X with xe := E }
abbrev Cx.nox (X : Cx) : Cx := X.wish fun _ _ => False
theorem Cx.Ok.wish {X : Cx} (ok : X.Ok) (E : Value → Shared → Prop) : (X.wish E).Ok :=
  ⟨ok.mod, ok.kind, ok.glob, ok.blt, ok.above, ok.inj, ok.has, ok.cab, ok.hd, ok.frames, ok.stk, ok.exf, ok.bs, ok.bsz, ok.noex, ok.exfs, ok.funs, ok.frf⟩
theorem Cx.Ok.unwish {X : Cx} {E : Value → Shared → Prop} (ok : (X.wish E).Ok) : X.Ok :=
  ⟨ok.mod, ok.kind, ok.glob, ok.blt, ok.above, ok.inj, ok.has, ok.cab, ok.hd, ok.frames, ok.stk, ok.exf, ok.bs, ok.bsz, ok.noex, ok.exfs, ok.funs, ok.frf⟩
section
variable {X : Cx} {pins : List (Addr × Obj)} {σ : St} {H : Hp} {s : Shared} {E : Value → Shared → Prop}
theorem Inv.wish (I : Inv X pins σ H s) (E : Value → Shared → Prop) : Inv (X.wish E) pins σ H s := ⟨I.ok.wish E, I.os, I.bare, I.base, I.loc, I.cell, I.free, I.freeC, I.pin, I.hok, I.len⟩
theorem Inv.unwish (I : Inv (X.wish E) pins σ H s) : Inv X pins σ H s := ⟨I.ok.unwish, I.os, I.bare, I.base, I.loc, I.cell, I.free, I.freeC, I.pin, I.hok, I.len⟩
theorem SP.unwish {D : Ends} {f : Flow} {s' : Shared} (h : SP (X.wish E) pins D f s') : SP X pins D f s' := by
  cases f with
  | next => obtain ⟨σ', H', I, q⟩ := h; exact ⟨σ', H', I.unwish, q⟩
  | brk => obtain ⟨σ', H', I, q⟩ := h; exact ⟨σ', H', I.unwish, q⟩
  | cont => obtain ⟨σ', H', I, q⟩ := h; exact ⟨σ', H', I.unwish, q⟩
  | ret u => obtain ⟨v, σ', H', I, r, q⟩ := h; exact ⟨v, σ', H', I.unwish, r, q⟩
theorem PE.nox {e : Expr} {t : TE} (h : PE X.nox e t) : PE X e t := fun pins s σ H Q I hw =>
  wpAny_mono (h pins s σ H Q (I.wish _) hw) (fun _ _ ⟨v, H', I', r, q⟩ => ⟨v, H', I'.unwish, r, q⟩) fun _ _ z => False.elim z
theorem PT.nox {e : Expr} {t : TT} (h : PT X.nox e t) : PT X e t := fun pins s σ H Q I hw =>
  wpAny_mono (h pins s σ H Q (I.wish _) hw) (fun _ _ ⟨H', I', q⟩ => ⟨H', I'.unwish, q⟩) fun _ _ z => False.elim z
theorem PSs.nox {st : List Stmt} {t : TS} (h : PSs X.nox st t) : PSs X st t := fun pins s σ H D I hw =>
  wpAny_mono (h pins s σ H D (I.wish _) hw) (fun _ _ q => q.unwish) fun _ _ z => False.elim z
end
section
variable {X : Cx} {st : Stmt} {rest : List Stmt} {t u : TS} {e : Expr} {te : TE} {pos : Pos}
def tNext : TS := fun D σ H => D.nx σ H
def tSeq (t u : TS) : TS := fun D σ H => t { D with nx := u D } σ H
theorem pss_nil : PSs X [] tNext := fun _ _ σ H _ I h => wpAny_execs_nil ⟨σ, H, I, h⟩
theorem pss_cons (h1 : PS X st t) (h2 : PSs X rest u) : PSs X (st :: rest) (tSeq t u) := by
  intro pins s σ H D I h
  refine wpAny_execs_cons (thn (h1 pins s σ H { D with nx := u D } I h) fun f s1 q => ?_)
  cases f with
  | next =>
    obtain ⟨σ', H', I', q⟩ := q
    exact h2 pins s1 σ' H' D I' q
  | ret v => exact q
  | brk => exact q
  | cont => exact q
theorem pss_one (h1 : PS X st t) : PSs X [st] t := by
  intro pins s σ H D I h
  refine wpAny_execs_cons (thn (h1 pins s σ H D I h) fun f s1 q => ?_)
  cases f with
  | next => exact wpAny_execs_nil q
  | ret v => exact q
  | brk => exact q
  | cont => exact q
theorem Inv.quiet {pins : List (Addr × Obj)} {σ : St} {H : Hp} {s : Shared} (I : Inv X pins σ H s) : interactive X.env = false := by simp [interactive, I.ok.kind]
def tDrop (te : TE) : TS := fun D σ H => te σ H fun _ H1 => D.nx σ H1
theorem ps_expr (he : PE X e te) (hs : swapsWith e none pos.line X.env = pure false := by rfl) : PS X (.Expr e pos) (tDrop te) := by
  intro pins s σ H D I h
  exact wpAny_Expr_any (thn (he pins s σ H _ I h) fun v s1 ⟨x, H1, I1, r1, q1⟩ => ⟨σ, H1, I1, q1⟩) I.quiet hs
def tRet (te : TE) : TS := fun D σ H => te σ H D.rt
theorem ps_ret (he : PE X e te) : PS X (.Return (some e) pos) (tRet te) := by
  intro pins s σ H D I h
  exact wpAny_Return_some (thn (he pins s σ H _ I h) fun v s1 ⟨x, H1, I1, r1, q1⟩ => ⟨x, σ, H1, I1, r1, q1⟩)
def tIfS (c : TT) (t u : TS) : TS := fun D σ H => c σ H fun b H1 => if b = true then t D σ H1 else u D σ H1
theorem ps_if {c : Expr} {a b : List Stmt} {tc : TT} (hc : PT X c tc) (ha : PSs X a t) (hb : PSs X b u) : PS X (.If c a b pos) (tIfS tc t u) := by
  intro pins s σ H D I h
  refine wpAny_If (thn (hc pins s σ H _ I h) fun d s1 ⟨H1, I1, q1⟩ => ?_)
  cases d with
  | true => exact ha pins s1 σ H1 D I1 q1
  | false => exact hb pins s1 σ H1 D I1 q1
end
abbrev TG := V → St → Hp → (St → Hp → Prop) → Prop
abbrev TGs := List V → St → Hp → (St → Hp → Prop) → Prop
def PG (X : Cx) (target : Expr) (t : TG) : Prop :=
  ∀ (pins : List (Addr × Obj)) (s : Shared) (σ : St) (H : Hp) (v : V) (u : Value) (Q : St → Hp → Prop), Inv X pins σ H s → RelV v u → t v σ H Q →
    wpAny (model X.prog X.w) X.A (assign target X.env u) (fun _ s' => ∃ σ' H', Inv X pins σ' H' s' ∧ Q σ' H') X.xe s
def PGs (X : Cx) (ts : List Expr) (t : TGs) : Prop :=
  ∀ (pins : List (Addr × Obj)) (s : Shared) (σ : St) (H : Hp) (vs : List V) (us : List Value) (Q : St → Hp → Prop), Inv X pins σ H s → Vals vs us → t vs σ H Q →
    wpAny (model X.prog X.w) X.A (assignInOrder ((assignEach ts X.env).map (·.2)) us) (fun _ s' => ∃ σ' H', Inv X pins σ' H' s' ∧ Q σ' H') X.xe s
section
variable {X : Cx} {pos : Pos}
def gName (i : Nat) : TG := fun v σ H Q => Q (σ.set i (some v)) H
theorem pg_name {i : Nat} {x : Str} (hN : X.N.Nodup) (hi : X.N[i]? = some x) (hx : Loc X.env.scope x) (hf : X.fn x = true ∨ X.env.scope.names.lookup x = some .local := by first | exact .inl rfl | exact .inr rfl | assumption) : PG X (.Name x pos) (gName i) := by
  intro pins s σ H v u Q I r h
  exact wpAny_assign_Name (store_ok I hN hi hx r (fun s' I' => ⟨_, H, I', h⟩) hf)
def gNil : TGs := fun vs σ H Q => vs = [] ∧ Q σ H
def gCons (t : TG) (u : TGs) : TGs := fun vs σ H Q => ∃ v r, vs = v :: r ∧ t v σ H fun σ' H' => u r σ' H' Q
theorem pgs_nil : PGs X [] gNil := by
  intro pins s σ H vs us Q I r h
  obtain ⟨e, h⟩ := h
  subst e
  cases r
  exact assignInOrder_nil ⟨σ, H, I, h⟩
theorem pgs_cons {e : Expr} {es : List Expr} {t : TG} {u : TGs} (h1 : PG X e t) (h2 : PGs X es u)
    (hs : (assignEach (e :: es) X.env).map (·.2) = assign e X.env :: (assignEach es X.env).map (·.2) := by rfl) : PGs X (e :: es) (gCons t u) := by
  intro pins s σ H vs us Q I r h
  obtain ⟨v, vr, e1, h⟩ := h
  subst e1
  cases r with
  | cons r rr =>
    rw [hs]
    refine assignInOrder_cons (thn (h1 pins s σ H _ _ _ I r h) fun _ s1 ⟨σ1, H1, I1, q1⟩ => ?_)
    exact h2 pins s1 σ1 H1 _ _ Q I1 rr q1
def gTup (K : PySem.W.Frag) (n : Nat) (t : TGs) : TG := fun v σ H Q => ∃ a xs, v = .ref a ∧ SqT K H a xs ∧ xs.length = n ∧ t xs σ H Q
theorem pg_tup {es : List Expr} {k : Nat} {t : TGs} {n : Nat} (hc : X.calm = true) (h : PGs X es t)
    (hn : (assignEach es X.env).length = n := by rfl) (hst : (assignEach es X.env).findIdx? (·.1) = none := by rfl) : PG X (.Tuple es k pos) (gTup X.K n t) := by
  intro pins s σ H v u Q I r hw
  obtain ⟨a, xs, e1, hq, hl, hw⟩ := hw
  subst e1
  cases r
  obtain ⟨its, rv, ht, hz⟩ := I.tuple hq
  refine assign_Tuple_tuple (I.ok.hd hc) ht (by simp [hn, ← hl, rv.length]) hst fun h' hx => ?_
  have I1 : Inv X pins σ H { s with heap := h' } := I.kept (t' := s.toks) fun b o e => hx b o (Nat.ne_of_lt (Heap.lt_size e)) e
  exact h pins _ σ H xs _ Q I1 (by simpa using rv) hw
def tAsg (te : TE) (g : TG) : TS := fun D σ H => te σ H fun x H1 => g x σ H1 D.nx
theorem ps_asg {tg e : Expr} {te : TE} {g : TG} (he : PE X e te) (hg : PG X tg g) (hs : swapsWithSole [tg] e pos.line X.env = pure false := by rfl) (hw : swappedStores [tg] e X.env = pure none := by rfl)
    (h1 : (assignEach [tg] X.env).map (·.2) = [assign tg X.env] := by rfl) : PS X (.Assign [tg] e pos) (tAsg te g) := by
  intro pins s σ H D I h
  refine wpAny_Assign_stores (thn (he pins s σ H _ I h) fun v s1 ⟨x, H1, I1, r1, q1⟩ => ?_) hs hw
  rw [h1]
  exact thn (hg pins s1 σ H1 x v _ I1 r1 q1) fun _ s2 q => q
theorem ps_set {i : Nat} {x : Str} {e : Expr} {te : TE} {pos' : Pos} (hN : X.N.Nodup) (hi : X.N[i]? = some x) (hx : Loc X.env.scope x) (he : PE X e te) (hs : swapsWith e (some (.Name x pos')) pos.line X.env = pure false := by rfl) (hf : X.fn x = true ∨ X.env.scope.names.lookup x = some .local := by first | exact .inl rfl | exact .inr rfl | assumption) :
    PS X (.Assign [.Name x pos'] e pos) (tAsg te (gName i)) := by
  intro pins s σ H D I h
  refine wpAny_Assign_Name (thn (he pins s σ H _ I h) fun v s1 ⟨y, H1, I1, r1, q1⟩ => ?_) hs
  exact store_ok I1 hN hi hx r1 (fun s2 I2 => ⟨_, H1, I2, q1⟩) hf
end
section
variable {X : Cx} {pos : Pos}
def tWhile (c : TT) (tb : TS) : TS := fun D σ H => ∃ W : Nat → St → Hp → Prop, (∃ m, W m σ H) ∧ ∀ m σ H, W m σ H →
  c σ H fun b H1 => if b = true then ∃ N : St → Hp → Prop, (∀ σ' H', N σ' H' → ∃ m', m' < m ∧ W m' σ' H') ∧ tb { D with nx := N, ct := N, bk := D.nx } σ H1 else D.nx σ H1
theorem ps_while {c : Expr} {body : List Stmt} {tc : TT} {tb : TS} (hp : PassesOwn (model X.prog X.w) X.A X.env X.xe) (hc : PT X c tc) (hb : PSs X body tb) : PS X (.While c body [] pos) (tWhile tc tb) := by
  intro pins s σ H D I h
  obtain ⟨W, ⟨m0, w0⟩, turn⟩ := h
  refine wpAny_While (codeAny_whileLoop (fun n s' => ∃ σ' H', Inv X pins σ' H' s' ∧ W n σ' H') ?_ m0 ⟨σ, H, I, w0⟩)
  rintro n s1 ⟨σ1, H1, I1, w1⟩
  refine wpAny_passesOwn hp (thn (hc pins s1 σ1 H1 _ I1 (turn n σ1 H1 w1)) fun b s2 ⟨H2, I2, q2⟩ => ?_)
  cases b with
  | true =>
    obtain ⟨N, hN, q2⟩ := q2
    rw [if_pos rfl]
    refine wpAny_passesOwn hp (thn (hb pins s2 σ1 H2 _ I2 q2) fun f s3 q3 => ?_)
    cases f with
    | next =>
      obtain ⟨σ3, H3, I3, n3⟩ := q3
      obtain ⟨m', hm, w3⟩ := hN σ3 H3 n3
      exact ⟨m', hm, σ3, H3, I3, w3⟩
    | cont =>
      obtain ⟨σ3, H3, I3, n3⟩ := q3
      obtain ⟨m', hm, w3⟩ := hN σ3 H3 n3
      exact ⟨m', hm, σ3, H3, I3, w3⟩
    | brk => exact q3
    | ret v => exact q3
  | false =>
    rw [if_neg Bool.false_ne_true]
    exact wpAny_execs_nil ⟨σ1, H2, I2, q2⟩
end
structure It where
  go : Nat → Hp → Prop
  yld : Nat → Hp → V → Hp → Prop
  stop : Nat → Hp → Prop
def FpOk (X : Cx) (pins : List (Addr × Obj)) (H : Hp) (b : Addr) : Prop :=
  H b = none ∧ b ≠ X.env.locals ∧ b ∉ X.fs ∧ (b ∈ X.ex ∨ X.s₀.heap.objs.size ≤ b) ∧ (∀ x c, X.env.cells.lookup x = some c → c ≠ b) ∧ ∀ p ∈ X.pn ++ pins, p.1 ≠ b
theorem Inv.fpOk {X : Cx} {pins : List (Addr × Obj)} {σ : St} {H H' : Hp} {s : Shared} {b : Addr} (I : Inv X pins σ H s) (hb : s.heap.objs.size ≤ b) (hn : H' b = none) : FpOk X pins H' b := by
  refine ⟨hn, Nat.ne_of_gt (Nat.lt_of_lt_of_le I.lt hb), I.nofs hb, .inr (Nat.le_trans I.sz hb), fun x c e z => ?_, fun p hp z => ?_⟩
  · obtain ⟨v, q⟩ := I.cell x c e
    exact absurd (Nat.lt_of_lt_of_le q.lt (by rw [z]; exact hb)) (Nat.lt_irrefl _)
  · exact absurd (Nat.lt_of_lt_of_le (Heap.lt_size (I.pin p hp).1) (by rw [z]; exact hb)) (Nat.lt_irrefl _)
structure Turn (P : Program) (w : World) (K : PySem.W.Frag) (tg : Expr) (J : It) (fp : List Addr) (it : Addr) (tn : Nat → Heap → Prop) : Prop where
  mem : it ∈ fp
  obj : ∀ i h, tn i h → ∀ b ∈ fp, ∃ o, h.get? b = some o ∧ ∀ v, o.data ≠ .cell v
  keep : ∀ i h h', tn i h → (∀ b ∈ fp, ∀ o, h.get? b = some o → h'.get? b = some o) → tn i h'
  item : ∀ (X : Cx), X.prog = P → X.w = w → X.K = K → X.calm = true → ∀ (i : Nat) (pins : List (Addr × Obj)) (s : Shared) (σ : St) (H : Hp) (E : Value → Shared → Prop), Inv X pins σ H s → (∀ b ∈ fp, FpOk X pins H b) → tn i s.heap → J.go i H →
    wpAny (model P w) X.A (pyNext (.ref it)) (fun r s1 => ∃ u, r = some u ∧
      wpAny (model P w) X.A (letOwnedTupleGo tg (.ref it) u) (fun _ s2 => ∃ x H', Inv X pins σ H' s2 ∧ RelV x u ∧ J.yld i H x H' ∧ tn (i + 1) s2.heap ∧ ∀ b ∈ fp, H' b = none) E s1) E s
  done : ∀ (X : Cx), X.prog = P → X.w = w → X.K = K → X.calm = true → ∀ (i : Nat) (pins : List (Addr × Obj)) (s : Shared) (σ : St) (H : Hp) (E : Value → Shared → Prop), Inv X pins σ H s → (∀ b ∈ fp, FpOk X pins H b) → tn i s.heap → J.stop i H →
    wpAny (model P w) X.A (pyNext (.ref it)) (fun r s1 => r = none ∧ Inv X pins σ H s1) E s
  self : ∀ (A : Around) (i : Nat) (s : Shared) (Q : Value → Shared → Prop) (E : Value → Shared → Prop), tn i s.heap → Q (.ref it) s → wpAny (model P w) A (pyIter (.ref it)) Q E s
abbrev TI := St → Hp → (It → Hp → Prop) → Prop
def PIE (X : Cx) (pins : List (Addr × Obj)) (σ : St) (tg : Expr) (R : It → Hp → Prop) (itv : Value) (s2 : Shared) : Prop :=
  ∃ (it : Addr) (fp : List Addr) (tn : Nat → Heap → Prop) (J : It) (H' : Hp), itv = .ref it ∧ Inv X pins σ H' s2 ∧ Turn X.prog X.w X.K tg J fp it tn ∧ tn 0 s2.heap ∧ (∀ b ∈ fp, FpOk X pins H' b) ∧ R J H'
def PI (X : Cx) (tg iter : Expr) (wi : TI) : Prop :=
  ∀ (pins : List (Addr × Obj)) (s : Shared) (σ : St) (H : Hp) (R : It → Hp → Prop), Inv X pins σ H s → wi σ H R →
    wpAny (model X.prog X.w) X.A (eval iter X.env) (fun v s1 => wpAny (model X.prog X.w) X.A (pyIter v) (PIE X pins σ tg R) X.xe s1) X.xe s
theorem go_of {M : Model} {A : Around} {E : Value → Shared → Prop} {s : Shared} {tg : Expr} {it : Addr} {u : Value} {o : Obj} {n : String} {vs : Array Value} {Q : Unit → Shared → Prop} (ho : s.heap.get? it = some o) (hc : o.cls = .type n) (hd : o.data = .fields vs)
    (hn : ["enumerate", "zip", "dict_itemiterator", "dict_reverseitemiterator", "odict_iterator", "itertools.zip_longest", "itertools.pairwise"].contains n = false) (hQ : Q () s) : wpAny M A (letOwnedTupleGo tg (.ref it) u) Q E s := by
  unfold letOwnedTupleGo
  cases tg <;> first
    | exact wpAny_pure hQ
    | (cases u <;> first
        | exact wpAny_pure hQ
        | (refine wpAny_bind (wpAny_load ho ?_)
           rw [hc, hd]
           show wpAny M A (if (["enumerate", "zip", "dict_itemiterator", "dict_reverseitemiterator", "odict_iterator", "itertools.zip_longest", "itertools.pairwise"].contains n && vs[0]? == some (rawInt _)) = true then _ else _) Q E s
           rw [if_neg (by intro h; rw [hn, Bool.false_and] at h; cases h)]
           exact wpAny_pure hQ))
def Itl (K : PySem.W.Frag) (a : Addr) : It :=
  ⟨fun i H => ∃ xs x, SqL K H a xs ∧ xs[i]? = some x, fun i H x H' => H' = H ∧ ∀ xs, SqL K H a xs → xs[i]? = some x, fun i H => ∃ xs, SqL K H a xs ∧ xs.length ≤ i⟩
def Itt (K : PySem.W.Frag) (a : Addr) : It :=
  ⟨fun i H => ∃ xs x, SqT K H a xs ∧ xs[i]? = some x, fun i H x H' => H' = H ∧ ∀ xs, SqT K H a xs → xs[i]? = some x, fun i H => ∃ xs, SqT K H a xs ∧ xs.length ≤ i⟩
def Itr (lo : Int) (n : Nat) : It := ⟨fun i _ => i < n, fun i H x H' => H' = H ∧ x = .int (lo + i), fun i _ => n ≤ i⟩
theorem turn_list {P : Program} {w : World} {K : PySem.W.Frag} {tg : Expr} (a it : Addr) : Turn P w K tg (Itl K a) [it] it (fun i h => h.IsListIter it a i) where
  mem := by simp
  obj := fun i h st b hb => by
    have e : b = it := by simpa using hb
    subst e
    obtain ⟨o, e, c, d⟩ := st
    exact ⟨o, e, fun v z => by rw [d] at z; cases z⟩
  keep := fun i h h' st k => st.at fun o e => k it (by simp) o e
  item := by
    intro X hP hw hK hc i pins s σ H E I hf st hg
    subst hP hw hK
    obtain ⟨xs, x, hq, hx⟩ := hg
    obtain ⟨its, rv, p, hz⟩ := I.list hq
    obtain ⟨u, hu, ru⟩ := rv.get hx
    obtain ⟨f0, f1, f2, f3, f4, f5⟩ := hf it (by simp)
    refine wpAny_pyNext_list_item st p.isList (x := u) (by simpa using hu) fun h' st' sb => ?_
    have I1 : Inv X pins σ H { s with heap := h' } := I.turned (t' := s.toks) (fun b o hb e => (sb.2 b hb).trans e) f0 f1 f3 f4 f5
    obtain ⟨o, e, c, d⟩ := id st'
    exact ⟨u, rfl, go_of (s := { s with heap := h' }) e c d (by decide) ⟨x, H, I1, ru, ⟨rfl, fun ys hy => by rw [I.list_inj hy hq]; exact hx⟩, st', fun b hb => (hf b hb).1⟩⟩
  done := by
    intro X hP hw hK hc i pins s σ H E I hf st hg
    subst hP hw hK
    obtain ⟨xs, hq, hx⟩ := hg
    obtain ⟨its, rv, p, hz⟩ := I.list hq
    obtain ⟨f0, f1, f2, f3, f4, f5⟩ := hf it (by simp)
    have hl := rv.length
    exact wpAny_pyNext_list_end (I.ok.hd hc) st p.isList (by simp; omega) fun h' eb => ⟨rfl, I.turned (t' := s.toks) (fun b o hb e => eb b o hb e) f0 f1 f3 f4 f5⟩
  self := fun _ _ _ _ _ st h => wpAny_pyIter_listiter st h
theorem turn_tuple {P : Program} {w : World} {K : PySem.W.Frag} {tg : Expr} (a it : Addr) : Turn P w K tg (Itt K a) [it] it (fun i h => h.IsTupleIter it a i) where
  mem := by simp
  obj := fun i h st b hb => by
    have e : b = it := by simpa using hb
    subst e
    obtain ⟨o, e, c, d⟩ := st
    exact ⟨o, e, fun v z => by rw [d] at z; cases z⟩
  keep := fun i h h' st k => st.at fun o e => k it (by simp) o e
  item := by
    intro X hP hw hK hc i pins s σ H E I hf st hg
    subst hP hw hK
    obtain ⟨xs, x, hq, hx⟩ := hg
    obtain ⟨its, rv, p, hz⟩ := I.tuple hq
    obtain ⟨u, hu, ru⟩ := rv.get hx
    obtain ⟨f0, f1, f2, f3, f4, f5⟩ := hf it (by simp)
    refine wpAny_pyNext_tuple_item st (show s.heap.IsTuple a its.toArray from p) (x := u) (by simpa using hu) fun h' st' sb => ?_
    have I1 : Inv X pins σ H { s with heap := h' } := I.turned (t' := s.toks) (fun b o hb e => (sb.2 b hb).trans e) f0 f1 f3 f4 f5
    obtain ⟨o, e, c, d⟩ := id st'
    exact ⟨u, rfl, go_of (s := { s with heap := h' }) e c d (by decide) ⟨x, H, I1, ru, ⟨rfl, fun ys hy => by rw [I.tuple_inj hy hq]; exact hx⟩, st', fun b hb => (hf b hb).1⟩⟩
  done := by
    intro X hP hw hK hc i pins s σ H E I hf st hg
    subst hP hw hK
    obtain ⟨xs, hq, hx⟩ := hg
    obtain ⟨its, rv, p, hz⟩ := I.tuple hq
    obtain ⟨f0, f1, f2, f3, f4, f5⟩ := hf it (by simp)
    have hl := rv.length
    exact wpAny_pyNext_tuple_end (I.ok.hd hc) st (show s.heap.IsTuple a its.toArray from p) (by simp; omega) fun h' eb => ⟨rfl, I.turned (t' := s.toks) (fun b o hb e => eb b o hb e) f0 f1 f3 f4 f5⟩
  self := fun _ _ _ _ _ st h => wpAny_pyIter_tupleiter st h
theorem turn_range {P : Program} {w : World} {K : PySem.W.Frag} {tg : Expr} (it : Addr) (lo : Int) (n : Nat) : Turn P w K tg (Itr lo n) [it] it (fun i h => IsRangeIter h it (lo + (i : Nat) * 1) ((n : Int) - (i : Nat)) 1) where
  mem := by simp
  obj := fun i h st b hb => by
    have e : b = it := by simpa using hb
    subst e
    exact ⟨_, st, fun v z => by
      have z' : Data.fields _ = Data.cell v := z
      cases z'⟩
  keep := fun i h h' st k => k it (by simp) _ st
  item := by
    intro X hP hw hK hc i pins s σ H E I hf st hg
    subst hP hw hK
    obtain ⟨f0, f1, f2, f3, f4, f5⟩ := hf it (by simp)
    have W := Walks.range (prog := X.prog) (w := X.w) (I.ok.hd hc) it lo 1 n
    refine W.item i s _ _ hg st fun v h' tk hv st' kk => ?_
    obtain ⟨t, rfl⟩ := hv
    have I1 : Inv X pins σ H { s with heap := h', toks := tk } := I.turned (fun b o hb e => kk b o (by simpa using hb) e) f0 f1 f3 f4 f5
    refine ⟨_, rfl, go_of (s := { s with heap := h', toks := tk }) (n := "range_iterator") st' rfl rfl (by decide) ⟨.int (lo + i), H, I1, ⟨t, ?_⟩, ⟨rfl, rfl⟩, st', fun b hb => (hf b hb).1⟩⟩
    rw [Int.mul_one]
  done := by
    intro X hP hw hK hc i pins s σ H E I hf st hg
    subst hP hw hK
    obtain ⟨f0, f1, f2, f3, f4, f5⟩ := hf it (by simp)
    exact wpAny_pyNext_range_end (I.ok.hd hc) st (by have : n ≤ i := hg; omega) fun h' eb => ⟨rfl, I.turned (t' := s.toks) (fun b o hb e => eb b o hb e) f0 f1 f3 f4 f5⟩
  self := fun _ _ _ _ _ st h => wpAny_pyIter_rangeiter st h
end L2
namespace L2
open PySem PySem.Spec PyProof.Rows
section
variable {X : Cx} {tg : Expr}
def iList (K : PySem.W.Frag) (tl : TE) : TI := fun σ H R => tl σ H fun x H1 => ∃ a, x = .ref a ∧ (∃ xs, SqL K H1 a xs) ∧ R (Itl K a) H1
def iTup (K : PySem.W.Frag) (tl : TE) : TI := fun σ H R => tl σ H fun x H1 => ∃ a, x = .ref a ∧ (∃ xs, SqT K H1 a xs) ∧ R (Itt K a) H1
theorem pi_list {l : Expr} {tl : TE} (hl : PE X l tl) : PI X tg l (iList X.K tl) := by
  intro pins s σ H R I h
  refine thn (hl pins s σ H _ I h) fun v s1 ⟨x, H1, I1, r1, q1⟩ => ?_
  obtain ⟨a, e, ⟨xs, hq⟩, q⟩ := q1
  subst e
  cases r1
  obtain ⟨its, rv, p, hz⟩ := I1.list hq
  refine wpAny_pyIter_list p.isList ?_
  refine ⟨s1.heap.objs.size, [s1.heap.objs.size], _, _, H1, rfl, I1.kept (t' := s1.toks) fun b o e => Heap.get?_push_of_some _ e, turn_list a _, ⟨_, Heap.get?_push_size _ rfl, rfl, rfl⟩, fun b hb => ?_, q⟩
  have e : b = s1.heap.objs.size := by simpa using hb
  subst e
  exact I1.fpOk (Nat.le_refl _) (I1.hok.fresh (Nat.le_refl _))
theorem pi_tup {l : Expr} {tl : TE} (hl : PE X l tl) : PI X tg l (iTup X.K tl) := by
  intro pins s σ H R I h
  refine thn (hl pins s σ H _ I h) fun v s1 ⟨x, H1, I1, r1, q1⟩ => ?_
  obtain ⟨a, e, ⟨xs, hq⟩, q⟩ := q1
  subst e
  cases r1
  obtain ⟨its, rv, p, hz⟩ := I1.tuple hq
  refine wpAny_pyIter_tuple (show s1.heap.IsTuple a its.toArray from p) ?_
  refine ⟨s1.heap.objs.size, [s1.heap.objs.size], _, _, H1, rfl, I1.kept (t' := s1.toks) fun b o e => Heap.get?_push_of_some _ e, turn_tuple a _, ⟨_, Heap.get?_push_size _ rfl, rfl, rfl⟩, fun b hb => ?_, q⟩
  have e : b = s1.heap.objs.size := by simpa using hb
  subst e
  exact I1.fpOk (Nat.le_refl _) (I1.hok.fresh (Nat.le_refl _))
theorem range_it {pins : List (Addr × Obj)} {σ : St} {H : Hp} {s : Shared} {R : It → Hp → Prop} {E : Value → Shared → Prop} {lo hi : Int} {t u v : Tok} {tk : Nat} (I : Inv X pins σ H s) (h1 : -(2 ^ 62) ≤ lo) (h2 : lo < 2 ^ 62) (h3 : -(2 ^ 62) ≤ hi) (h4 : hi < 2 ^ 62)
    (q : R (Itr lo (hi - lo).toNat) H) : wpAny (model X.prog X.w) X.A (pyIter (.ref s.heap.objs.size)) (PIE X pins σ tg R) E { s with heap := s.heap.push { cls := .type "range", data := .fields #[.int lo t, .int hi u, .int 1 v] }, toks := tk } := by
  refine wpAny_pyIter_range (IsRange.new ..) (small_one h1 h2 h3 h4) ?_
  have I1 : Inv X pins σ H { s with heap := s.heap.push { cls := .type "range", data := .fields #[.int lo t, .int hi u, .int 1 v] }, toks := tk } := I.kept fun b o e => Heap.get?_push_of_some _ e
  refine ⟨(s.heap.push { cls := .type "range", data := .fields #[.int lo t, .int hi u, .int 1 v] }).objs.size, [(s.heap.push { cls := .type "range", data := .fields #[.int lo t, .int hi u, .int 1 v] }).objs.size], _, _, H, rfl,
    I1.kept (t' := tk) fun b o e => Heap.get?_push_of_some _ e, turn_range _ lo (hi - lo).toNat, ?_, fun b hb => ?_, q⟩
  · have e1 : lo + ((0 : Nat) : Int) * 1 = lo := by simp
    have e2 : (((hi - lo).toNat : Nat) : Int) - ((0 : Nat) : Int) = Builtin.Range.rangeSize lo hi 1 := by rw [rangeSize_one]; split <;> omega
    show IsRangeIter _ _ (lo + ((0 : Nat) : Int) * 1) ((((hi - lo).toNat : Nat) : Int) - ((0 : Nat) : Int)) 1
    rw [e1, e2]
    exact Heap.get?_push_size _ rfl
  · have e : b = (s.heap.push { cls := .type "range", data := .fields #[.int lo t, .int hi u, .int 1 v] }).objs.size := by simpa using hb
    subst e
    exact I1.fpOk (Nat.le_refl _) (I1.hok.fresh (Nat.le_refl _))
def iRng1 (ta : TA) : TI := fun σ H R => ta σ H fun vs H1 => ∃ j : Int, vs = [.int j] ∧ -(2 ^ 62) ≤ j ∧ j < 2 ^ 62 ∧ R (Itr 0 j.toNat) H1
theorem pi_range1 {a : Expr} {ta : TA} {p pos : Pos} (hg : Gl X "range") (hm : X.mg "range" = none) (ha : PA X [a] ta) (hs : starEach [a] X.env = [(false, eval a X.env)] := by rfl) : PI X tg (.Call (.Name "range" p) [a] [] pos) (iRng1 ta) := by
  intro pins s σ H R I h
  refine Call_ (ld_blt I hg hm boot_range (PyProof.Rows.callWith_type1 (thn (ha pos pins s σ H _ I h) fun us s1 ⟨vs, H1, I1, r1, q1⟩ => ?_) hs rfl))
  obtain ⟨j, e, q1, q2, q⟩ := q1
  subst e
  cases r1 with
  | cons r rr =>
    cases rr
    obtain ⟨t, rfl⟩ := r
    exact call_range_1 (range_it I1 (by omega) (by omega) q1 q2 (by simpa using q))
def tFor (wi : TI) (g : TG) (tb : TS) : TS := fun D σ H => wi σ H fun J H1 => ∃ W : Nat → Nat → St → Hp → Prop, (∃ m, W 0 m σ H1) ∧ ∀ i m σ H, W i m σ H →
  (J.stop i H ∧ D.nx σ H) ∨ (J.go i H ∧ ∃ N : St → Hp → Prop, (∀ σ' H', N σ' H' → ∃ m', m' < m ∧ W (i + 1) m' σ' H') ∧ ∀ x H', J.yld i H x H' → g x σ H' fun σ2 H2 => tb { D with nx := N, ct := N, bk := D.nx } σ2 H2)
def pinsAt (fp : List Addr) (h : Heap) : List (Addr × Obj) := fp.filterMap fun b => (h.get? b).map fun o => (b, o)
theorem mem_pinsAt {fp : List Addr} {h : Heap} {b : Addr} {o : Obj} (hb : b ∈ fp) (e : h.get? b = some o) : (b, o) ∈ pinsAt fp h := List.mem_filterMap.mpr ⟨b, hb, by rw [e]; rfl⟩
theorem of_pinsAt {fp : List Addr} {h : Heap} {p : Addr × Obj} (hp : p ∈ pinsAt fp h) : p.1 ∈ fp ∧ h.get? p.1 = some p.2 := by
  obtain ⟨b, hb, e⟩ := List.mem_filterMap.mp hp
  cases q : h.get? b with
  | none => rw [q] at e; cases e
  | some o =>
    rw [q] at e
    have e' : (b, o) = p := Option.some.inj e
    subst e'
    exact ⟨hb, q⟩
theorem Inv.pinned {pins : List (Addr × Obj)} {σ : St} {H : Hp} {s : Shared} {fp : List Addr} (I : Inv X pins σ H s) (hf : ∀ b ∈ fp, FpOk X pins H b) (ho : ∀ b ∈ fp, ∃ o, s.heap.get? b = some o ∧ ∀ v, o.data ≠ .cell v) : Inv X (pins ++ pinsAt fp s.heap) σ H s :=
  I.pins_of fun p hp => (List.mem_append.mp hp).elim (fun z => I.pin p (List.mem_append_right _ z)) fun z => by
    obtain ⟨hb, e⟩ := of_pinsAt z
    obtain ⟨f0, f1, f2, _⟩ := hf p.1 hb
    obtain ⟨o, e', d⟩ := ho p.1 hb
    rw [e] at e'; cases e'
    exact ⟨e, f0, f1, f2, d⟩
theorem Inv.unpinned {pins pl : List (Addr × Obj)} {σ : St} {H : Hp} {s : Shared} (I : Inv X (pins ++ pl) σ H s) : Inv X pins σ H s := I.pins_of fun p hp => I.pin p (List.mem_append_right _ (List.mem_append_left _ hp))
theorem ps_for {iter : Expr} {body : List Stmt} {wi : TI} {g : TG} {tb : TS} {pos : Pos} (hp : PassesOwn (model X.prog X.w) X.A X.env X.xe) (hc : X.calm = true) (hi : PI X tg iter wi) (hg : PG X tg g) (hb : PSs X body tb)
    (hs : ∀ x, foldedSetIterable iter X.env x = pure x := by intro _; rfl) : PS X (.For tg iter body [] pos) (tFor wi g tb) := by
  intro pins s σ H D I h
  refine wpAny_For (thn (hi pins s σ H _ I h) fun v s1 h1 => thn h1 fun itv s2 h2 => ?_) hs
  obtain ⟨it, fp, tn, J, H2, e, I2, T, st2, f2, W, ⟨m0, w0⟩, turn⟩ := h2
  subst e
  -- what stays true of the iterator's objects through the loop
  have stat : ∀ {H' : Hp}, (∀ b ∈ fp, H' b = none) → ∀ b ∈ fp, FpOk X pins H' b := fun hn b hb => ⟨hn b hb, (f2 b hb).2⟩
  refine codeAny_forLoop_any (fun n s' => ∃ i σ' H', Inv X pins σ' H' s' ∧ tn i s'.heap ∧ (∀ b ∈ fp, H' b = none) ∧ W i n σ' H') ?_ m0 ⟨0, σ, H2, I2, st2, fun b hb => (f2 b hb).1, w0⟩
  rintro n s3 ⟨i, σ3, H3, I3, st3, fr3, w3⟩
  rcases turn i n σ3 H3 w3 with ⟨stop, qn⟩ | ⟨go, N, hN, step⟩
  · refine wpAny_passesOwn hp (thn (T.done X rfl rfl rfl hc i pins s3 σ3 H3 X.xe I3 (stat fr3) st3 stop) fun r s4 ⟨hr, I4⟩ => ?_)
    subst hr
    exact wpAny_execs_nil ⟨σ3, H3, I4, qn⟩
  · refine wpAny_passesOwn hp (thn (T.item X rfl rfl rfl hc i pins s3 σ3 H3 X.xe I3 (stat fr3) st3 go) fun r s4 ⟨u, hr, h4⟩ => ?_)
    subst hr
    refine wpAny_passesOwn hp (thn h4 fun _ s5 ⟨x, H5, I5, r5, y5, st5, fr5⟩ => ?_)
    have I5' := I5.pinned (stat fr5) (T.obj _ _ st5)
    refine wpAny_passesOwn hp (thn (hg _ s5 σ3 H5 x u _ I5' r5 (step x H5 y5)) fun _ s6 ⟨σ6, H6, I6, q6⟩ => ?_)
    refine wpAny_passesOwn hp (thn (hb _ s6 σ6 H6 _ I6 q6) fun f s7 q7 => ?_)
    have again : ∀ {σ7 : St} {H7 : Hp}, Inv X (pins ++ pinsAt fp s5.heap) σ7 H7 s7 → N σ7 H7 → ∃ m, m < n ∧ ∃ i σ' H', Inv X pins σ' H' s7 ∧ tn i s7.heap ∧ (∀ b ∈ fp, H' b = none) ∧ W i m σ' H' := fun {σ7 H7} I7 n7 => by
      obtain ⟨m', hm, w7⟩ := hN σ7 H7 n7
      refine ⟨m', hm, i + 1, σ7, H7, I7.unpinned, T.keep _ _ _ st5 fun b hb o e => (I7.pin (b, o) (List.mem_append_right _ (List.mem_append_right _ (mem_pinsAt hb e)))).1, fun b hb => ?_, w7⟩
      obtain ⟨o, e, d⟩ := T.obj _ _ st5 b hb
      exact (I7.pin (b, o) (List.mem_append_right _ (List.mem_append_right _ (mem_pinsAt hb e)))).2.1
    cases f with
    | next => obtain ⟨σ7, H7, I7, n7⟩ := q7; exact again I7 n7
    | cont => obtain ⟨σ7, H7, I7, n7⟩ := q7; exact again I7 n7
    | brk => obtain ⟨σ7, H7, I7, q7⟩ := q7; exact ⟨σ7, H7, I7.unpinned, q7⟩
    | ret v => obtain ⟨x7, σ7, H7, I7, r7, q7⟩ := q7; exact ⟨x7, σ7, H7, I7.unpinned, r7, q7⟩
end
theorem for_list {K : PySem.W.Frag} {a : Addr} {xs : List V} {g : TG} {tb : TS} {D : Ends} {σ : St} {H : Hp} (Pv : Nat → St → Hp → Prop) (h0 : Pv 0 σ H) (hl : ∀ i σ H, i ≤ xs.length → Pv i σ H → SqL K H a xs)
    (hs : ∀ i x σ H, xs[i]? = some x → Pv i σ H → g x σ H fun σ2 H2 => tb { D with nx := Pv (i + 1), ct := Pv (i + 1), bk := D.nx } σ2 H2) (hd : ∀ σ H, Pv xs.length σ H → D.nx σ H) :
    ∃ W : Nat → Nat → St → Hp → Prop, (∃ m, W 0 m σ H) ∧ ∀ i m σ H, W i m σ H →
      ((Itl K a).stop i H ∧ D.nx σ H) ∨ ((Itl K a).go i H ∧ ∃ N : St → Hp → Prop, (∀ σ' H', N σ' H' → ∃ m', m' < m ∧ W (i + 1) m' σ' H') ∧ ∀ x H', (Itl K a).yld i H x H' → g x σ H' fun σ2 H2 => tb { D with nx := N, ct := N, bk := D.nx } σ2 H2) := by
  refine ⟨fun i m σ H => m = xs.length - i ∧ i ≤ xs.length ∧ Pv i σ H, ⟨xs.length, by simp, Nat.zero_le _, h0⟩, ?_⟩
  rintro i m σ H ⟨rfl, hi, p⟩
  have q := hl i σ H hi p
  by_cases hlt : i < xs.length
  · refine .inr ⟨⟨xs, xs[i], q, by simp [hlt]⟩, Pv (i + 1), fun σ' H' p' => ⟨xs.length - (i + 1), by omega, rfl, hlt, p'⟩, fun x H' y => ?_⟩
    obtain ⟨e, y⟩ := y
    subst e
    exact hs i x σ _ (y xs q) p
  · have e : i = xs.length := by omega
    subst e
    exact .inl ⟨⟨xs, q, Nat.le_refl _⟩, hd σ H p⟩
theorem for_tup {K : PySem.W.Frag} {a : Addr} {xs : List V} {g : TG} {tb : TS} {D : Ends} {σ : St} {H : Hp} (Pv : Nat → St → Hp → Prop) (h0 : Pv 0 σ H) (hl : ∀ i σ H, i ≤ xs.length → Pv i σ H → SqT K H a xs)
    (hs : ∀ i x σ H, xs[i]? = some x → Pv i σ H → g x σ H fun σ2 H2 => tb { D with nx := Pv (i + 1), ct := Pv (i + 1), bk := D.nx } σ2 H2) (hd : ∀ σ H, Pv xs.length σ H → D.nx σ H) :
    ∃ W : Nat → Nat → St → Hp → Prop, (∃ m, W 0 m σ H) ∧ ∀ i m σ H, W i m σ H →
      ((Itt K a).stop i H ∧ D.nx σ H) ∨ ((Itt K a).go i H ∧ ∃ N : St → Hp → Prop, (∀ σ' H', N σ' H' → ∃ m', m' < m ∧ W (i + 1) m' σ' H') ∧ ∀ x H', (Itt K a).yld i H x H' → g x σ H' fun σ2 H2 => tb { D with nx := N, ct := N, bk := D.nx } σ2 H2) := by
  refine ⟨fun i m σ H => m = xs.length - i ∧ i ≤ xs.length ∧ Pv i σ H, ⟨xs.length, by simp, Nat.zero_le _, h0⟩, ?_⟩
  rintro i m σ H ⟨rfl, hi, p⟩
  have q := hl i σ H hi p
  by_cases hlt : i < xs.length
  · refine .inr ⟨⟨xs, xs[i], q, by simp [hlt]⟩, Pv (i + 1), fun σ' H' p' => ⟨xs.length - (i + 1), by omega, rfl, hlt, p'⟩, fun x H' y => ?_⟩
    obtain ⟨e, y⟩ := y
    subst e
    exact hs i x σ _ (y xs q) p
  · have e : i = xs.length := by omega
    subst e
    exact .inl ⟨⟨xs, q, Nat.le_refl _⟩, hd σ H p⟩
theorem for_range {lo : Int} {n : Nat} {g : TG} {tb : TS} {D : Ends} {σ : St} {H : Hp} (Pv : Nat → St → Hp → Prop) (h0 : Pv 0 σ H)
    (hs : ∀ i σ H, i < n → Pv i σ H → g (.int (lo + i)) σ H fun σ2 H2 => tb { D with nx := Pv (i + 1), ct := Pv (i + 1), bk := D.nx } σ2 H2) (hd : ∀ σ H, Pv n σ H → D.nx σ H) :
    ∃ W : Nat → Nat → St → Hp → Prop, (∃ m, W 0 m σ H) ∧ ∀ i m σ H, W i m σ H →
      ((Itr lo n).stop i H ∧ D.nx σ H) ∨ ((Itr lo n).go i H ∧ ∃ N : St → Hp → Prop, (∀ σ' H', N σ' H' → ∃ m', m' < m ∧ W (i + 1) m' σ' H') ∧ ∀ x H', (Itr lo n).yld i H x H' → g x σ H' fun σ2 H2 => tb { D with nx := N, ct := N, bk := D.nx } σ2 H2) := by
  refine ⟨fun i m σ H => m = n - i ∧ i ≤ n ∧ Pv i σ H, ⟨n, by simp, Nat.zero_le _, h0⟩, ?_⟩
  rintro i m σ H ⟨rfl, hi, p⟩
  by_cases hlt : i < n
  · refine .inr ⟨hlt, Pv (i + 1), fun σ' H' p' => ⟨n - (i + 1), by omega, rfl, hlt, p'⟩, fun x H' y => ?_⟩
    obtain ⟨e, y⟩ := y
    subst e y
    exact hs i σ _ hlt p
  · have e : i = n := by omega
    subst e
    exact .inl ⟨Nat.le_refl _, hd σ H p⟩
end L2
namespace L2
open PySem PySem.Spec PyProof.Rows
abbrev R2 := V → V → Hp → VK → Prop
def OpR (X : Cx) (f : Value → Value → Sem Value) (r : R2) : Prop :=
  ∀ (pins : List (Addr × Obj)) (s : Shared) (σ : St) (H : Hp) (x y : V) (v u : Value) (Q : VK), Inv X pins σ H s → RelV x v → RelV y u → r x y H Q →
    wpAny (model X.prog X.w) X.A (f v u) (EP X pins σ Q) X.xe s
def UnR (X : Cx) (f : Value → Sem Value) (r : V → Hp → VK → Prop) : Prop :=
  ∀ (pins : List (Addr × Obj)) (s : Shared) (σ : St) (H : Hp) (x : V) (v : Value) (Q : VK), Inv X pins σ H s → RelV x v → r x H Q →
    wpAny (model X.prog X.w) X.A (f v) (EP X pins σ Q) X.xe s
def CallR (X : Cx) (f : Value) (r : List V → Hp → VK → Prop) : Prop :=
  ∀ (pins : List (Addr × Obj)) (s : Shared) (σ : St) (H : Hp) (xs : List V) (us : List Value) (Q : VK), Inv X pins σ H s → Vals xs us → r xs H Q →
    wpAny (model X.prog X.w) X.A (call f us) (EP X pins σ Q) X.xe s
def TruR (X : Cx) (r : V → Hp → (Bool → Hp → Prop) → Prop) : Prop :=
  ∀ (pins : List (Addr × Obj)) (s : Shared) (σ : St) (H : Hp) (x : V) (v : Value) (Q : Bool → Hp → Prop), Inv X pins σ H s → RelV x v → r x H Q →
    wpAny (model X.prog X.w) X.A (truthy v) (TP X pins σ Q) X.xe s
def tOp (r : R2) (ta tb : TE) : TE := fun σ H Q => ta σ H fun x H1 => tb σ H1 fun y H2 => r x y H2 Q
def tUn (r : V → Hp → VK → Prop) (ta : TE) : TE := fun σ H Q => ta σ H fun x H1 => r x H1 Q
def rI (C : Int → Int → Prop) (g : Int → Int → V) : R2 := fun x y H Q => ∃ i j, x = .int i ∧ y = .int j ∧ C i j ∧ Q (g i j) H
def rI0 (g : Int → Int → V) : R2 := fun x y H Q => ∃ i j, x = .int i ∧ y = .int j ∧ Q (g i j) H
def rU (g : Int → V) : V → Hp → VK → Prop := fun x H Q => ∃ i, x = .int i ∧ Q (g i) H
section
variable {X : Cx} {a b c : Expr} {ta tb tc : TE} {pos : Pos}
theorem binT (ha : PE X a ta) (hb : PE X b tb) {pins : List (Addr × Obj)} {s : Shared} {σ : St} {H : Hp} {R : V → V → Hp → Prop} (I : Inv X pins σ H s)
    (h : ta σ H fun x H1 => tb σ H1 fun y H2 => R x y H2) {Q : Value → Shared → Prop} {f : Value → Value → Sem Value}
    (hf : ∀ v u s2 x y H2, Inv X pins σ H2 s2 → RelV x v → RelV y u → R x y H2 → wpAny (model X.prog X.w) X.A (f v u) Q X.xe s2) :
    wpAny (model X.prog X.w) X.A (eval a X.env) (fun v s₁ => wpAny (model X.prog X.w) X.A (eval b X.env) (fun u s₂ => wpAny (model X.prog X.w) X.A (f v u) Q X.xe s₂) X.xe s₁) X.xe s := by
  refine thn (ha pins s σ H _ I h) fun v s1 ⟨x, H1, I1, r1, q1⟩ => ?_
  refine thn (hb pins s1 σ H1 _ I1 q1) fun u s2 ⟨y, H2, I2, r2, q2⟩ => ?_
  exact hf v u s2 x y H2 I2 r1 r2 q2
theorem pe_op {op : Operator} {r : R2} (ho : OpR X (binaryOp op) r) (ha : PE X a ta) (hb : PE X b tb) : PE X (.BinOp a op b pos) (tOp r ta tb) := by
  intro pins s σ H Q I h
  exact wpAny_BinOp (binT ha hb I h fun v u s2 x y H2 I2 rx ry q => ho pins s2 σ H2 x y v u Q I2 rx ry q)
theorem pe_un {op : UnaryOp} {r : V → Hp → VK → Prop} (ho : UnR X (unaryOp op) r) (ha : PE X a ta) : PE X (.UnaryOp op a pos) (tUn r ta) := by
  intro pins s σ H Q I h
  exact UnaryOp_ (thn (ha pins s σ H _ I h) fun v s1 ⟨x, H1, I1, r1, q1⟩ => ho pins s1 σ H1 x v Q I1 r1 q1)
theorem opI {f : Value → Value → Sem Value} {C : Int → Int → Prop} {g : Int → Int → Int}
    (rule : ∀ (i j : Int) (t u : Tok) (s : Shared) (Q : Value → Shared → Prop) (E : Value → Shared → Prop), C i j → Q (.int (g i j) s.toks) { s with toks := s.toks + 1 } → wpAny (model X.prog X.w) X.A (f (.int i t) (.int j u)) Q E s) :
    OpR X f (rI C fun i j => .int (g i j)) := by
  intro pins s σ H x y v u Q I rx ry h
  obtain ⟨i, j, rfl, rfl, hc, q⟩ := h
  obtain ⟨t, rfl⟩ := rx
  obtain ⟨t', rfl⟩ := ry
  exact rule i j t t' s _ _ hc ⟨.int (g i j), H, I.tok _, ⟨_, rfl⟩, q⟩
theorem opI0 {f : Value → Value → Sem Value} {g : Int → Int → Int}
    (rule : ∀ (i j : Int) (t u : Tok) (s : Shared) (Q : Value → Shared → Prop) (E : Value → Shared → Prop), Q (.int (g i j) s.toks) { s with toks := s.toks + 1 } → wpAny (model X.prog X.w) X.A (f (.int i t) (.int j u)) Q E s) :
    OpR X f (rI0 fun i j => .int (g i j)) := by
  intro pins s σ H x y v u Q I rx ry h
  obtain ⟨i, j, rfl, rfl, q⟩ := h
  obtain ⟨t, rfl⟩ := rx
  obtain ⟨t', rfl⟩ := ry
  exact rule i j t t' s _ _ ⟨.int (g i j), H, I.tok _, ⟨_, rfl⟩, q⟩
theorem opB0 {f : Value → Value → Sem Value} {g : Int → Int → Bool}
    (rule : ∀ (i j : Int) (t u : Tok) (s : Shared) (Q : Value → Shared → Prop) (E : Value → Shared → Prop), Q (.bool (g i j)) s → wpAny (model X.prog X.w) X.A (f (.int i t) (.int j u)) Q E s) :
    OpR X f (rI0 fun i j => .bl (g i j)) := by
  intro pins s σ H x y v u Q I rx ry h
  obtain ⟨i, j, rfl, rfl, q⟩ := h
  obtain ⟨t, rfl⟩ := rx
  obtain ⟨t', rfl⟩ := ry
  exact rule i j t t' s _ _ ⟨.bl (g i j), H, I, rfl, q⟩
def CDiv (i j : Int) : Prop := 0 < j ∧ j < 1073741824
def CPow (i j : Int) : Prop := 0 ≤ j ∧ j ≤ 1000000 ∧ i.natAbs < 2 ^ 64
def CMul (i j : Int) : Prop := (-(2 ^ 64) < i ∧ i < 2 ^ 64) ∨ (-(2 ^ 64) < j ∧ j < 2 ^ 64)
theorem CMul.ok {i j : Int} (h : CMul i j) : IntMulOk i j := by
  rcases h with ⟨h1, h2⟩ | ⟨h1, h2⟩
  · exact .of_left (intBits_le_64 h1 h2)
  · exact .of_right (intBits_le_64 h1 h2)
theorem two_pow_nn (k : Nat) : (0 : Int) ≤ 2 ^ k := by
  rw [two_pow_cast]
  exact Int.natCast_nonneg _
theorem op_add : OpR X (binaryOp .Add) (rI0 fun i j => .int (i + j)) := opI0 fun _ _ _ _ _ _ _ q => add_int q
theorem op_mul : OpR X (binaryOp .Mult) (rI CMul fun i j => .int (i * j)) := opI fun _ _ _ _ _ _ _ hc q => mul_int q hc.ok
theorem op_fdiv : OpR X (binaryOp .FloorDiv) (rI CDiv fun i j => .int (i / j)) := opI fun i j _ _ _ _ _ hc q => by
  have h1 : (0 : Int) < j := hc.1
  have h2 : j < 1073741824 := hc.2
  exact floordiv_int (by omega) (by rw [Int.fdiv_eq_ediv_of_nonneg i (by omega)]; exact q) (.inl (PyProof.noPylong_small (by omega)))
theorem op_mod : OpR X (binaryOp .Mod) (rI (fun _ j => 0 < j) fun i j => .int (i % j)) := opI fun i j _ _ _ _ _ hc q => by
  have h1 : (0 : Int) < j := hc
  exact mod_int' (by omega) (by rw [Int.fmod_eq_emod_of_nonneg i (by omega)]; exact q)
theorem op_shl : OpR X (binaryOp .LShift) (rI CPow fun i j => .int (i * 2 ^ j.toNat)) := opI fun _ _ _ _ _ _ _ hc q => lshift_int_small hc.1 hc.2.1 hc.2.2 q
theorem op_shr : OpR X (binaryOp .RShift) (rI (fun _ j => 0 ≤ j) fun i j => .int (i / 2 ^ j.toNat)) := opI fun i j _ _ _ _ _ hc q =>
  rshift_int hc (by rw [Int.fdiv_eq_ediv_of_nonneg i (two_pow_nn _)]; exact q)
theorem op_and : OpR X (binaryOp .BitAnd) (rI0 fun i j => .int (Builtin.bitAnd i j)) := opI0 fun _ _ _ _ _ _ _ q => and_int q
theorem unI {f : Value → Sem Value} {g : Int → Int}
    (rule : ∀ (i : Int) (t : Tok) (s : Shared) (Q : Value → Shared → Prop) (E : Value → Shared → Prop), Q (.int (g i) s.toks) { s with toks := s.toks + 1 } → wpAny (model X.prog X.w) X.A (f (.int i t)) Q E s) :
    UnR X f (rU fun i => .int (g i)) := by
  intro pins s σ H x v Q I rx h
  obtain ⟨i, rfl, q⟩ := h
  obtain ⟨t, rfl⟩ := rx
  exact rule i t s _ _ ⟨.int (g i), H, I.tok _, ⟨_, rfl⟩, q⟩
theorem un_neg : UnR X (unaryOp .USub) (rU fun i => .int (-i)) := unI fun _ _ _ _ _ q => neg_int q
end
section
variable {X : Cx} {a b c : Expr} {ta tb tc : TE} {pos : Pos}
theorem fin_bl {pins : List (Addr × Obj)} {σ : St} {H : Hp} {s : Shared} {Q : VK} {k k' : Bool} (I : Inv X pins σ H s) (q : Q (.bl k) H) (e : k = k') : EP X pins σ Q (.bool k') s := by
  subst e
  exact ⟨.bl k, H, I, rfl, q⟩
theorem op_gt : OpR X (compareOp .Gt) (rI0 fun i j => .bl (decide (j < i))) := opB0 fun _ _ _ _ _ _ _ q => gt_int q
theorem op_in_str : OpR X (compareOp .In) (fun x y H Q => ∃ i j, x = .str i ∧ y = .str j ∧ Q (.bl (!(Builtin.Str.occurrences j i 0 j.length 1).isEmpty)) H) := by
  intro pins s σ H x y v u Q I rx ry h
  obtain ⟨i, j, rfl, rfl, q⟩ := h
  obtain ⟨t, rfl⟩ := rx
  obtain ⟨t', rfl⟩ := ry
  exact in_str (fin_bl I q rfl)
theorem OpR.or {f : Value → Value → Sem Value} {r r' : R2} (h : OpR X f r) (h' : OpR X f r') : OpR X f (fun x y H Q => r x y H Q ∨ r' x y H Q) := by
  intro pins s σ H x y v u Q I rx ry q
  rcases q with q | q
  · exact h pins s σ H x y v u Q I rx ry q
  · exact h' pins s σ H x y v u Q I rx ry q
theorem nomark (b : Expr) {op : CmpOp} (h : op ≠ .In := by decide) (h2 : op ≠ .NotIn := by decide) : behindInMarks op b = false := by
  have e1 : (op == CmpOp.In) = false := by cases op <;> first | rfl | exact absurd rfl h
  have e2 : (op == CmpOp.NotIn) = false := by cases op <;> first | rfl | exact absurd rfl h2
  cases b <;> simp [behindInMarks, e1, e2]
theorem pe_cmpR {op : CmpOp} {r : R2} (ho : OpR X (compareOp op) r) (ha : PE X a ta) (hb : PE X b tb) (hm : behindInMarks op b = false) : PE X (.Compare a [op] [b] pos) (tOp r ta tb) := by
  intro pins s σ H Q I h
  exact wpAny_Compare1 (binT ha hb I h fun v u s2 x y H2 I2 rx ry q => ho pins s2 σ H2 x y v u Q I2 rx ry q) hm
def tTest (t : TE) : TT := fun σ H Q => t σ H fun x H' => ∃ k, x = .bl k ∧ Q k H'
theorem pt_cmpR {op : CmpOp} {r : R2} (ho : OpR X (compareOp op) r) (ha : PE X a ta) (hb : PE X b tb) (hm : behindInMarks op b = false) : PT X (.Compare a [op] [b] pos) (tTest (tOp r ta tb)) := by
  intro pins s σ H Q I h
  refine wpAny_isTrue_Compare1 (thn (ha pins s σ H _ I h) fun v s1 ⟨x, H1, I1, r1, q1⟩ => thn (hb pins s1 σ H1 _ I1 q1) fun u s2 ⟨y, H2, I2, r2, q2⟩ =>
    thn (ho pins s2 σ H2 x y v u _ I2 r1 r2 q2) fun c s3 ⟨z, H3, I3, r3, k, e, q3⟩ => ?_) hm
  subst e
  cases r3
  exact wpAny_truthy_bool ⟨H3, I3, q3⟩
def TruV (K : PySem.W.Frag) (x : V) (H : Hp) (k : Bool) : Prop :=
  match x with
  | .non => k = false
  | .bl b => k = b
  | .int i => k = (i != 0)
  | .str y => y.length ≤ sizeLine ∧ k = ((y.length : Int) != 0)
  | .byt y => y.size ≤ sizeLine ∧ k = ((y.size : Int) != 0)
  | .ref p => (∃ xs, SqL K H p xs ∧ k = !xs.isEmpty) ∨ (∃ xs, SqT K H p xs ∧ k = !xs.isEmpty) ∨ ∃ kvs, H p = some (.dK kvs) ∧ k = !kvs.isEmpty
  | _ => False
theorem isEmpty_kv {κ : Type} {kvs : List (κ × V)} {vs : List (κ × Value)} (r : KV kvs vs) : (!vs.isEmpty) = !kvs.isEmpty := by
  cases r <;> rfl
theorem isEmpty_of {xs : List V} {its : List Value} (r : Vals xs its) : (!its.toArray.isEmpty) = !xs.isEmpty := by
  cases r <;> simp
theorem line63 : (sizeLine : Nat) < 2 ^ 63 := by rw [sizeLine_eq]; decide
theorem tru_ok : TruR X (fun x H Q => ∃ k, TruV X.K x H k ∧ Q k H) := by
  intro pins s σ H x v Q I rx h
  obtain ⟨k, e, q⟩ := h
  have hl := line63
  have hs : sizeLine = 16777216 := sizeLine_eq
  cases x with
  | non =>
    cases rx
    have e' : k = false := e
    subst e'
    exact truthy_none ⟨H, I, q⟩
  | bl b =>
    cases rx
    have e' : k = b := e
    subst e'
    exact wpAny_truthy_bool ⟨H, I, q⟩
  | int i =>
    obtain ⟨t, rfl⟩ := rx
    have e' : k = (i != 0) := e
    subst e'
    exact PySem.P.truthy_int ⟨H, I, q⟩
  | str y =>
    obtain ⟨t, rfl⟩ := rx
    obtain ⟨hy, e'⟩ : y.length ≤ sizeLine ∧ k = ((y.length : Int) != 0) := e
    subst e'
    exact PySem.P.truthy_str (by omega) ⟨H, I.tok _, q⟩
  | byt y =>
    obtain ⟨t, rfl⟩ := rx
    obtain ⟨hy, e'⟩ : y.size ≤ sizeLine ∧ k = ((y.size : Int) != 0) := e
    subst e'
    exact PySem.W.truthy_bytes (by omega) ⟨H, I.tok _, q⟩
  | ref p =>
    cases rx
    have e' : (∃ xs, SqL X.K H p xs ∧ k = !xs.isEmpty) ∨ (∃ xs, SqT X.K H p xs ∧ k = !xs.isEmpty) ∨ ∃ kvs, H p = some (.dK kvs) ∧ k = !kvs.isEmpty := e
    rcases e' with ⟨xs, hx, e'⟩ | ⟨xs, hx, e'⟩ | ⟨kvs, hx, e'⟩
    · subst e'
      obtain ⟨its, r, pl, hz⟩ := I.list hx
      have hlen := r.length
      exact wpAny_truthy_list pl.isList (by simp only [List.size_toArray]; omega) ⟨H, I.tok _, by rw [isEmpty_of r]; exact q⟩
    · subst e'
      obtain ⟨its, r, pl, hz⟩ := I.tuple hx
      have hlen := r.length
      exact truthy_tuple pl (by simp only [List.size_toArray]; omega) ⟨H, I.tok _, by rw [isEmpty_of r]; exact q⟩
    · subst e'
      obtain ⟨hz, hS, vs, r, m⟩ : kvs.length ≤ sizeLine ∧ (p == sysModules) = false ∧ ∃ vs, KV kvs vs ∧ s.heap.DictOf (mixKind X.prog X.w) p vs := I.hok p _ hx
      have hlen : kvs.length = vs.length := Paired.length r
      exact wpAny_truthy_dict hS m (by omega) ⟨H, I.tok _, by rw [isEmpty_kv r]; exact q⟩
  | _ => exact (show False from e).elim
theorem pt_truth (ha : PE X a ta) (he : ∀ whole, isTrue a X.env whole = (do let v ← whole; standAt a.pos; holding [v] (truthy v))) :
    PT X a (fun σ H Q => ta σ H fun x H' => ∃ k, TruV X.K x H' k ∧ Q k H') := by
  intro pins s σ H Q I h
  exact isTrue_plain (thn (ha pins s σ H _ I h) fun v s1 ⟨x, H1, I1, r1, q1⟩ => tru_ok pins s1 σ H1 x v Q I1 r1 q1) (he _)
theorem op_add_str : OpR X (binaryOp .Add) (fun x y H Q => ∃ i j, x = .str i ∧ y = .str j ∧ i.length + j.length ≤ sizeLine ∧ Q (.str (i ++ j)) H) := by
  intro pins s σ H x y v u Q I rx ry h
  obtain ⟨i, j, rfl, rfl, hz, q⟩ := h
  obtain ⟨t, rfl⟩ := rx
  obtain ⟨t', rfl⟩ := ry
  exact add_str (fun t' tk => ⟨.str (i ++ j), H, I.tok _, ⟨_, rfl⟩, q⟩) hz
theorem vals1 {x : V} {us : List Value} (r : Vals [x] us) : ∃ u, us = [u] ∧ RelV x u := by
  cases r with
  | cons r1 r2 => cases r2; exact ⟨_, rfl, r1⟩
theorem vals2 {x y : V} {us : List Value} (r : Vals [x, y] us) : ∃ u w', us = [u, w'] ∧ RelV x u ∧ RelV y w' := by
  cases r with
  | cons r1 r2 =>
    cases r2 with
    | cons r3 r4 => cases r4; exact ⟨_, _, rfl, r1, r3⟩
theorem call_int1 : CallR X (.type "int") (fun xs H Q => (∃ i, xs = [.int i] ∧ Q (.int i) H) ∨ ∃ k, xs = [.bl k] ∧ Q (.int (if k then 1 else 0)) H) := by
  intro pins s σ H xs us Q I r h
  rcases h with ⟨i, rfl, q⟩ | ⟨k, rfl, q⟩
  · obtain ⟨u, rfl, t, rfl⟩ := vals1 r
    exact call_int_int ⟨.int i, H, I, ⟨_, rfl⟩, q⟩
  · obtain ⟨u, rfl, r1⟩ := vals1 r
    cases r1
    exact call_int_bool ⟨.int (if k then 1 else 0), H, I.tok _, ⟨_, rfl⟩, q⟩
end
end L2
namespace L2
open PySem PySem.Spec PyProof.Rows
structure ObjM (h : Heap) (x dx C : Addr) (mA : Str → Option Value) : Prop where
  obj : h.get? x = some (PySem.W.instObj C dx)
  ns : h.Ns1 dx mA
  ne : dx ≠ x
theorem lookIn_ns {h : Heap} {dx : Addr} {mA : Str → Option Value} (n : h.Ns1 dx mA) : ∃ od, h.get? dx = some od ∧ ∀ name, PySem.W.lookIn name od = some (mA name) := by
  obtain ⟨o, es, ep, ho, hd, hk, _, hm⟩ := n
  refine ⟨o, ho, fun name => ?_⟩
  have e := hm name
  unfold nsFind findBy at e
  rw [← Array.find?_toList] at e
  unfold PySem.W.lookIn
  rw [hd]
  dsimp only
  split
  · rename_i y q
    rw [q] at e
    exact congrArg some e
  · rename_i q
    rw [q] at e
    have a : es.toList.any (·.refKey) = false := by
      rw [List.any_eq_false]
      intro y hy
      obtain ⟨z, t, hkey⟩ := hk y (Array.mem_toList_iff.mp hy)
      simp [DictEntry.refKey, hkey]
    have a' : ¬ es.toList.any (·.refKey) = true := by rw [a]; exact Bool.false_ne_true
    rw [if_neg a']
    exact congrArg some e
theorem ObjM.look {h : Heap} {x dx C : Addr} {mA : Str → Option Value} (I : ObjM h x dx C mA) : ∃ od, PySem.W.InstAt h x (PySem.W.instObj C dx) C (some od) ∧ ∀ name, PySem.W.lookIn name od = some (mA name) :=
  let ⟨od, ho, hl⟩ := lookIn_ns I.ns
  ⟨od, ⟨I.obj, rfl, rfl, ho⟩, hl⟩
section
variable {prog : Program} {w : World} {A : Around} {E : Value → Shared → Prop} {s : Shared} {K : PySem.W.Frag} {x dx C f : Addr} {mA : Str → Option Value} {name : Str} {v : Value}
end
section
variable {P : Program} {w : World} {H H' : Hp} {h h' : Heap} {a C dx : Addr} {fs fs' : List (Str × V)}
theorem ins_get (hok : HOk P w H h) (e : H a = some (.ins C dx fs)) : ∃ mA, ObjM h a dx C mA ∧ (∀ f, RelO (fs.lookup f) (mA f)) ∧ PySem.Within mA (fs.map (·.1)) ∧ fs.length ≤ 1000 ∧ H dx = some (.own a) := by
  obtain ⟨d, z, ne, ob, mA, n, r, q⟩ := (show ObjOk P w H h a (.ins C dx fs) from hok a _ e)
  exact ⟨mA, ⟨ob, n, ne⟩, r, q, z, d⟩
end
structure Cls (K : PySem.W.Frag) (C : Addr) : Prop where
  pg : PySem.W.plainGet K C Str.empty = true
  hd : PySem.W.hasDictIn K C = true
  po : PySem.W.plainOver K C = true
  sa : PySem.W.findIn K (.ref C) "__setattr__" = some (some (.builtin "object.__setattr__"))
theorem Cls.get {K : PySem.W.Frag} {C : Addr} (c : Cls K C) (f : Str) : PySem.W.plainGet K C f = true := c.pg
structure Con (K : PySem.W.Frag) (C : Addr) (f : Str) (v : V) (u : Value) : Prop where
  at_ : PySem.W.findIn K (.ref C) f = some (some u)
  rel : RelV v u
  get : PySem.W.specialIn K u "__get__" = some none
  cp : PySem.W.copiedNames.contains f = false
structure Meth (K : PySem.W.Frag) (C : Addr) (m : Str) (f : Addr) : Prop where
  at_ : PySem.W.findIn K (.ref C) m = some (some (.ref f))
  fn : PySem.W.isFn K (.ref f) = true
  kp : PySem.W.keepIn K (.ref f) = true
section
variable {X : Cx} {pins : List (Addr × Obj)} {σ : St} {H : Hp} {s : Shared} {a C dx : Addr} {fs : List (Str × V)} {f : Str} {v : V} {A : Around} {E : Value → Shared → Prop}
theorem Inv.made (I : Inv X pins σ H s) : Inv X pins σ (upd (upd H s.heap.objs.size (.own (s.heap.objs.size + 1))) (s.heap.objs.size + 1) (.ins C s.heap.objs.size []))
    { s with heap := (s.heap.push PySem.W.emptyDict).push (PySem.W.instObj C s.heap.objs.size) } := by
  have e1 : (s.heap.push PySem.W.emptyDict).get? s.heap.objs.size = some PySem.W.emptyDict := Heap.get?_push_size s.heap rfl
  have e2 : ((s.heap.push PySem.W.emptyDict).push (PySem.W.instObj C s.heap.objs.size)).get? (s.heap.objs.size + 1) = some (PySem.W.instObj C s.heap.objs.size) := by
    have := Heap.get?_push_size (s.heap.push PySem.W.emptyDict) (o := PySem.W.instObj C s.heap.objs.size) rfl
    rwa [Heap.size_push] at this
  have e3 : (s.heap.push PySem.W.emptyDict).Ns s.heap.objs.size (fun _ => none) := ⟨PySem.W.emptyDict, #[], _, e1, rfl, (fun e he => absurd he (by simp)), fun _ => rfl⟩
  have I1 := I.laid (a := s.heap.objs.size) (o := .own (s.heap.objs.size + 1)) (h' := s.heap.push PySem.W.emptyDict) (t' := s.toks) (fun b u q => Heap.get?_push_of_some _ q) (Nat.le_refl _) ⟨_, e1⟩
  refine I1.laid (a := s.heap.objs.size + 1) (o := .ins C s.heap.objs.size []) (t' := s.toks) (fun b u q => Heap.get?_push_of_some _ q) (Nat.le_of_eq (Heap.size_push _ _)) ?_
  have ne : s.heap.objs.size ≠ s.heap.objs.size + 1 := Nat.ne_of_lt (Nat.lt_succ_self _)
  refine ⟨by rw [upd_ne ne, upd_same], Nat.zero_le _, ne, e2, fun _ => none, (Heap.Ns1.of_empty e3).at fun o q => Heap.get?_push_of_some _ q, fun _ => True.intro, fun y hy => absurd rfl hy⟩
end
section
variable {X : Cx} {o e value : Expr} {f : Str} {pos pos' tpos : Pos} {ta tv : TE}
end
section
variable {X : Cx} {pins : List (Addr × Obj)} {σ : St} {H : Hp} {s : Shared} {A : Around} {E : Value → Shared → Prop} {Q : Value → Shared → Prop} {c : Value} {b : Bool}
inductive TyOf (K : PySem.W.Frag) (H : Hp) : V → Value → Prop where
  | non : TyOf K H .non (.type "NoneType")
  | bl (x : Bool) : TyOf K H (.bl x) (.type "bool")
  | int (i : Int) : TyOf K H (.int i) (.type "int")
  | str (x : Str) : TyOf K H (.str x) (.type "str")
  | flt (x : UInt64) : TyOf K H (.flt x) (.type "float")
  | lst {a : Addr} {xs : List V} (e : H a = some (.lst xs)) : TyOf K H (.ref a) (.type "list")
  | frz {a : Addr} {o : Obj} {xs : List V} (e : H a = some (.frz o (.lst xs))) : TyOf K H (.ref a) (.type "list")
  | tup {a : Addr} {xs : List V} (e : H a = some (.tup xs)) : TyOf K H (.ref a) (.type "tuple")
  | dK {a : Addr} {kvs : List (Key × V)} (e : H a = some (.dK kvs)) : TyOf K H (.ref a) (.type "dict")
  | dT {a : Addr} {kvs : List (List Key × V)} (e : H a = some (.dT kvs)) : TyOf K H (.ref a) (.type "dict")
  | ins {a C dx : Addr} {fs : List (Str × V)} (e : H a = some (.ins C dx fs)) (cl : Cls K C) (ha : PySem.W.findIn K (.ref C) "__class__" = some (some (.builtin "object.__class__")))
      (hn : PySem.W.specialIn K (.builtin "object.__class__") "__get__" = some (some (.builtin "getset_descriptor.__get__"))) (htk : PySem.W.takesIn K (.builtin "object.__class__") = some true)
      (hm : PySem.W.mroIn K C (.type "object") = some true) : TyOf K H (.ref a) (.ref C)
theorem isinst_ok {x : V} {u t : Value} (I : Inv X pins σ H s) (rx : RelV x u) (ty : TyOf X.K H x t) (e : PySem.W.kitOne X.K t c = some b) (h : ∀ tk, Q (.bool b) { s with toks := tk }) :
    wpAny (model X.prog X.w) A (call (.builtin "isinstance") [u, c]) Q E s := by
  cases ty with
  | non => cases (show u = Value.none from rx); exact PySem.W.kia_one PySem.W.kitx_none I.kIn True.intro e (fun z => nomatch z) h
  | bl y => cases (show u = Value.bool y from rx); exact PySem.W.kia_one PySem.W.kitx_bool I.kIn True.intro e (fun z => nomatch z) h
  | int i => obtain ⟨t, q⟩ := (show ∃ t, u = Value.int i t from rx); cases q; exact PySem.W.kia_one PySem.W.kitx_int I.kIn True.intro e (fun z => nomatch z) h
  | str y => obtain ⟨t, q⟩ := (show ∃ t, u = Value.str y t from rx); cases q; exact PySem.W.kia_one PySem.W.kitx_str I.kIn True.intro e (fun z => nomatch z) h
  | flt y => obtain ⟨t, q⟩ := (show ∃ t, u = Value.float y t from rx); cases q; exact PySem.W.kia_one PySem.W.kitx_float I.kIn True.intro e (fun z => nomatch z) h
  | @lst a xs ea =>
    cases (show u = Value.ref a from rx)
    obtain ⟨_, _, n, _, h1⟩ := (show ObjOk X.prog X.w H s.heap a (.lst xs) from I.hok a _ ea)
    exact PySem.W.kia_one PySem.W.kitx_list I.kIn ⟨_, h1, rfl⟩ e (fun z => nomatch z) h
  | @frz a ob xs ea =>
    cases (show u = Value.ref a from rx)
    obtain ⟨_, _, _, n, _, h1⟩ := (show ObjOk X.prog X.w H s.heap a (.frz ob (.lst xs)) from I.hok a _ ea)
    exact PySem.W.kia_one PySem.W.kitx_list I.kIn ⟨_, h1, rfl⟩ e (fun z => nomatch z) h
  | @tup a xs ea =>
    cases (show u = Value.ref a from rx)
    obtain ⟨_, _, _, p⟩ := (show ObjOk X.prog X.w H s.heap a (.tup xs) from I.hok a _ ea)
    obtain ⟨o, h1, h2, _⟩ := p
    exact PySem.W.kia_one PySem.W.kitx_tuple I.kIn ⟨o, h1, h2⟩ e (fun z => nomatch z) h
  | @dK a kvs ea =>
    cases (show u = Value.ref a from rx)
    obtain ⟨_, _, vs, _, p⟩ := (show ObjOk X.prog X.w H s.heap a (.dK kvs) from I.hok a _ ea)
    obtain ⟨o, es, ep, h1, h2, _⟩ := p
    exact PySem.W.kia_one PySem.W.kitx_dict I.kIn ⟨o, h1, h2.1⟩ e (fun z => nomatch z) h
  | @dT a kvs ea =>
    cases (show u = Value.ref a from rx)
    obtain ⟨_, _, xs, _, o, es, ep, h1, h2, _⟩ := (show ObjOk X.prog X.w H s.heap a (.dT kvs) from I.hok a _ ea)
    exact PySem.W.kia_one PySem.W.kitx_dict I.kIn ⟨o, h1, h2.1⟩ e (fun z => nomatch z) h
  | @ins a C dx fs ea cl ha hn htk hm =>
    cases (show u = Value.ref a from rx)
    obtain ⟨mA, O, _⟩ := ins_get I.hok ea
    obtain ⟨od, J, _⟩ := O.look
    exact PySem.W.kia_one (PySem.W.kitx_own (cl.get _) cl.hd ha hn htk hm) I.kIn J e (fun z => nomatch z) h
end
end L2
namespace L2
open PySem PySem.Spec PyProof.Rows
structure Room (k : Nat) (A : Around) : Prop where
  hd : A.handled = none
  dp : A.depth + 3 * k + 5 < recursionLimit
  un : A.units + 16 * k + 200 < cLine
  gd : A.guards = some []
theorem Room.mono {j k : Nat} {A : Around} (r : Room k A) (h : j ≤ k) : Room j A := ⟨r.hd, by have := r.dp; omega, by have := r.un; omega, r.gd⟩
theorem Room.deeper {k : Nat} {A : Around} (r : Room (k + 1) A) (env : Env) : Room k (A.deeper env) :=
  ⟨r.hd, by have := r.dp; show A.depth + 1 + 3 * k + 5 < _; omega, by have := r.un; show A.units + 3 + 16 * k + 200 < _; omega, r.gd⟩
theorem Room.in1 {k : Nat} {A : Around} (r : Room (k + 1) A) : Room k A.in1 :=
  ⟨r.hd, by have := r.dp; show A.depth + 3 * k + 5 < _; omega, by have := r.un; show A.units + 1 + 16 * k + 200 < _; omega, r.gd⟩
theorem Room.depth {k : Nat} {A : Around} (r : Room k A) : A.depth < recursionLimit := by have := r.dp; omega
theorem Room.units {k : Nat} {A : Around} (r : Room k A) : A.units + 64 < cLine := by have := r.un; omega
def tNil : TA := fun _ H Q => Q [] H
def tCons (ta : TE) (tr : TA) : TA := fun σ H Q => ta σ H fun x H1 => tr σ H1 fun xs H2 => Q (x :: xs) H2
section
variable {X : Cx} {e : Expr} {es : List Expr} {te : TE} {t : TA} {pos : Pos}
theorem pa_nil : PA X [] tNil := fun _ _ _ _ H Q I h => Calls.spliced_nil ⟨[], H, I, .nil, h⟩
theorem pa_cons (ha : PE X e te) (hr : PA X es t) (hs : starEach (e :: es) X.env = (false, eval e X.env) :: starEach es X.env := by rfl) : PA X (e :: es) (tCons te t) := by
  intro pos pins s σ H Q I h
  rw [hs]
  show wpAny _ _ (spliced ((false, eval e X.env) :: backTo pos (starEach es X.env))) _ _ s
  refine Calls.spliced_cons (thn (ha pins s σ H _ I h) fun u s1 ⟨x, H1, I1, r1, q1⟩ => ?_)
  exact thn (hr pos pins s1 σ H1 _ I1 q1) fun us s2 ⟨xs, H2, I2, r2, q2⟩ => ⟨x :: xs, H2, I2, .cons r1 r2, q2⟩
def tTup (t : TA) : TE := fun σ H Q => t σ H fun xs H1 => xs.length ≤ sizeLine ∧ ∀ p, H1 p = none → Q (.ref p) (upd H1 p (.tup xs))
def tLst (t : TA) : TE := fun σ H Q => t σ H fun xs H1 => xs.length ≤ sizeLine ∧ ∀ p, H1 p = none → Q (.ref p) (upd H1 p (.lst xs))
theorem pe_tup {x1} (h : PA X es t) : PE X (.Tuple es x1 pos) (tTup t) := by
  intro pins s σ H Q I hq
  refine wpAny_Tuple_spliced (thn (h pos pins s σ H _ I hq) fun us s1 ⟨xs, H1, I1, r, z, q⟩ => ⟨by rw [← r.length]; exact z, ?_⟩)
  have hf : H1 s1.heap.objs.size = none := I1.hok.fresh (Nat.le_refl _)
  refine ⟨.ref s1.heap.objs.size, upd H1 s1.heap.objs.size (.tup xs), I1.laid (t' := s1.toks) (fun b u e => Heap.get?_push_of_some _ e) (Nat.le_refl _) ?_, rfl, q _ hf⟩
  exact ⟨z, us, r, ⟨_, Heap.get?_push_size _ rfl, rfl, _, rfl⟩⟩
theorem pe_lst (h : PA X es t) : PE X (.List es pos) (tLst t) := by
  intro pins s σ H Q I hq
  refine wpAny_List_spliced (thn (h pos pins s σ H _ I hq) fun us s1 ⟨xs, H1, I1, r, z, q⟩ => ⟨by rw [← r.length]; exact z, ?_⟩)
  have hf : H1 s1.heap.objs.size = none := I1.hok.fresh (Nat.le_refl _)
  refine ⟨.ref s1.heap.objs.size, upd H1 s1.heap.objs.size (.lst xs), I1.laid (t' := s1.toks) (fun b u e => Heap.get?_push_of_some _ e) (Nat.le_refl _) ?_, rfl, q _ hf⟩
  exact ⟨z, us, 0, r, Heap.get?_push_size _ rfl⟩
end
abbrev Sp := List V → Hp → VK → XK → Prop
abbrev CXT := List Env → Hp → Shared → XK → Value → Shared → Prop
structure Env0 (P : Program) (w : World) (K : PySem.W.Frag) (mg : Str → Option Value) (base : Heap) (A : Around) (outer : List Env) (s : Shared) (H : Hp) : Prop where
  frames : A.frames = some outer
  mod : Mod K mg base
  bs : ∀ b o, base.get? b = some o → s.heap.get? b = some o ∧ H b = none
  bsz : base.objs.size ≤ s.heap.objs.size
  funs : s.heap.FunFrames base outer
  frf : ∀ b ∈ frs outer, H b = none
  hok : HOk P w H s.heap
  bare : AllBare s.gens
def CE (outer : List Env) (P : Program) (w : World) (H : Hp) (s : Shared) (Q : VK) (u : Value) (s' : Shared) : Prop :=
  ∃ v H', s'.os = s.os ∧ AllBare s'.gens ∧ Un (frs outer) [] H H' s.heap s'.heap ∧ HOk P w H' s'.heap ∧ RelV v u ∧ Q v H'
def CR (CX : CXT) (outer : List Env) (P : Program) (w : World) (H : Hp) (s : Shared) (Q : VK) (E : XK) (r : Result) (s' : Shared) : Prop :=
  match r with
  | .ok (.ret u) => CE outer P w H s Q u s'
  | .ok _ => False
  | .error e => CX outer H s E e s'
structure FnOk (P : Program) (w : World) (K : PySem.W.Frag) (mg : Str → Option Value) (base : Heap) (CX : CXT) (k : Nat) (f : Addr) (fd : FuncData) (ps : List Str) (sp : Sp) : Prop where
  len : ∀ vs H Q E, sp vs H Q E → vs.length = ps.length
  run : ∀ (A : Around) (outer : List Env) (s : Shared) (H : Hp) (args : Args) (us : List Value) (vs : List V) (Q : VK) (E : XK), Room k A → Env0 P w K mg base A outer s H → BindsTo s fd args (ps.zip us) → Vals vs us → sp vs H Q E →
    codeAny (model P w) A (.call (.ref f) args) (CR CX outer P w H s Q E) s
theorem FnOk.mono {P : Program} {w : World} {K : PySem.W.Frag} {mg : Str → Option Value} {base : Heap} {CX : CXT} {j k : Nat} {f : Addr} {fd : FuncData} {ps : List Str} {sp : Sp} (F : FnOk P w K mg base CX j f fd ps sp) (h : j ≤ k) :
    FnOk P w K mg base CX k f fd ps sp := ⟨F.len, fun A outer s H args us vs Q E hr => F.run A outer s H args us vs Q E (hr.mono h)⟩
theorem FnOk.imp {P : Program} {w : World} {K : PySem.W.Frag} {mg : Str → Option Value} {base : Heap} {CX : CXT} {k : Nat} {f : Addr} {fd : FuncData} {ps : List Str} {sp sp' : Sp} (F : FnOk P w K mg base CX k f fd ps sp)
    (h : ∀ vs H Q E, sp' vs H Q E → sp vs H Q E) : FnOk P w K mg base CX k f fd ps sp' :=
  ⟨fun vs H Q E q => F.len vs H Q E (h _ _ _ _ q), fun A outer s H args us vs Q E hr he hb hv hs => F.run A outer s H args us vs Q E hr he hb hv (h _ _ _ _ hs)⟩
theorem Env0.in1 {P : Program} {w : World} {K : PySem.W.Frag} {mg : Str → Option Value} {base : Heap} {A : Around} {outer : List Env} {s : Shared} {H : Hp} (e : Env0 P w K mg base A outer s H) :
    Env0 P w K mg base A.in1 outer s H := ⟨e.frames, e.mod, e.bs, e.bsz, e.funs, e.frf, e.hok, e.bare⟩
section
variable {X : Cx} {pins : List (Addr × Obj)} {σ : St} {H : Hp} {s s' : Shared}
theorem Inv.env0 (I : Inv X pins σ H s) : Env0 X.prog X.w X.K X.mg X.base X.A X.stack s H :=
  ⟨I.ok.frames, I.ok.mod, I.bs, Nat.le_trans I.ok.bsz I.sz, I.stack, I.stkFree, I.hok, I.bare⟩
theorem Inv.after {Q : VK} {u : Value} (I : Inv X pins σ H s) (h : CE X.stack X.prog X.w H s Q u s') : EP X pins σ Q u s' := by
  obtain ⟨v, H', os, bare, un, hok, r, q⟩ := h
  obtain ⟨hh, g, d, t, os'⟩ := s'
  obtain rfl : os' = s.os := os
  exact ⟨v, H', I.call (h' := hh) (g' := g) (d' := d) (t' := t) (ch := []) un hok bare (fun b z => absurd z (by simp)), r, q⟩
end
def tCall (sp : Sp) (dvs : List V) (E : XK) (t : TA) : TE := fun σ H Q => t σ H fun vs H1 => sp (vs ++ dvs) H1 Q E
def Binds (K : PySem.W.Frag) (fd : FuncData) (ps : List Str) (ds : List Value) : Prop :=
  ∀ (s : Shared) (us : List Value), K.In s.heap → (us ++ ds).length = ps.length → BindsTo s fd ⟨us, []⟩ (ps.zip (us ++ ds))
theorem Binds.all {K : PySem.W.Frag} {fd : FuncData} {ps : List Str} (h : ∀ us : List Value, us.length = ps.length → bindArgs fd ⟨us, []⟩ = pure (ps.zip us)) : Binds K fd ps [] := fun s us _ hl => by
  rw [List.append_nil] at hl ⊢
  exact .of_eq (h us hl)
def Passes (CX : CXT) (X : Cx) (E : XK) : Prop := ∀ (pins : List (Addr × Obj)) (σ : St) (H : Hp) (s : Shared) (e : Value) (s' : Shared), Inv X pins σ H s → CX X.stack H s E e s' → X.xe e s'
section
variable {X : Cx} {CX : CXT} {k : Nat} {f C : Addr} {fd : FuncData} {ps : List Str} {sp : Sp} {dvs : List V} {ds : List Value} {E : XK} {x m : Str} {p pos apos : Pos} {e o : Expr} {es : List Expr} {ta : TE} {t : TA}
theorem run_fn {pins : List (Addr × Obj)} {σ : St} {H : Hp} {s : Shared} {Q : VK} {us : List Value} {vs : List V} (F : FnOk X.prog X.w X.K X.mg X.base CX k f fd ps sp) (hr : Room k X.A) (hb : Binds X.K fd ps ds) (hd : Vals dvs ds) (hx : Passes CX X E)
    (I : Inv X pins σ H s) (r : Vals vs us) (h : sp (vs ++ dvs) H Q E) : wpAny (model X.prog X.w) X.A (call (.ref f) us) (EP X pins σ Q) X.xe s := by
  have r2 : Vals (vs ++ dvs) (us ++ ds) := r.append hd
  have hl : (us ++ ds).length = ps.length := by rw [← r2.length]; exact F.len _ _ _ _ h
  refine wpAny_call (codeAny_mono (F.run X.A X.stack s H ⟨us, []⟩ (us ++ ds) (vs ++ dvs) Q E hr I.env0 (hb s us I.kIn hl) r2 h) fun r s' hq => ?_)
  cases r with
  | error e => exact hx pins σ H s e s' I hq
  | ok fl =>
    cases fl with
    | ret u => exact I.after hq
    | next => exact False.elim hq
    | brk => exact False.elim hq
    | cont => exact False.elim hq
theorem pe_call (F : FnOk X.prog X.w X.K X.mg X.base CX k f fd ps sp) (hr : Room k X.A) (hg : Gl X x) (hm : X.mg x = some (.ref f)) (hk : PySem.W.keepIn X.K (.ref f) = true) (hb : Binds X.K fd ps ds) (hd : Vals dvs ds) (hx : Passes CX X E)
    (ha : PA X (e :: es) t) (hdb : (x == ("__debug__" : Str)) = false := by decide) (he : starEach (e :: es) X.env = (false, eval e X.env) :: starEach es X.env := by rfl) (hpl : (backTo pos (starEach es X.env)).any (·.1) = false := by rfl) :
    PE X (.Call (.Name x p) (e :: es) [] pos) (tCall sp dvs E t) := by
  intro pins s σ H Q I h
  refine wpAny_Call_Name_kw (ld_glob I hg hm ?_ hdb)
  refine PySem.W.callWith_K (h₀ := X.base) I.ok.mod.kin hk (thn (ha pos pins s σ H _ I h) fun us s1 ⟨vs, H1, I1, r, q⟩ => ⟨I1.kIn, ?_⟩) he hpl
  exact run_fn F hr hb hd hx I1 r q
structure Mk (K : PySem.W.Frag) (C f : Addr) : Prop where
  makes : PySem.W.makesIn K C = true
  init : PySem.W.findIn K (.ref C) "__init__" = some (some (.ref f))
  fn : PySem.W.isFn K (.ref f) = true
  kp : PySem.W.keepIn K (.ref C) = true
end
section
variable {X : Cx} {CX : CXT} {k : Nat} {f C : Addr} {fd : FuncData} {ps ks : List Str} {sp : Sp} {E : XK} {x m : Str} {p pos apos kpos : Pos} {e o : Expr} {es : List Expr} {kws : List Keyword} {te ta : TE} {t tk : TA} {nm : Option Str}
structure KBinds (K : PySem.W.Frag) (fd : FuncData) (ps ks : List Str) (g : List Value → List Value → List Value) (gV : List V → List V → List V) : Prop where
  to : ∀ (s : Shared) (us ws : List Value), K.In s.heap → (g us ws).length = ps.length → BindsTo s fd ⟨us, ks.zip ws⟩ (ps.zip (g us ws))
  rel : ∀ {vs : List V} {us : List Value} {zs : List V} {ws : List Value}, Vals vs us → Vals zs ws → Vals (gV vs zs) (g us ws)
variable {g : List Value → List Value → List Value} {gV : List V → List V → List V}
end
structure FnScope (N P : List Str) (sc : Scope) : Prop where
  kind : sc.kind = .function
  co : sc.isCoroutine = false
  gen : sc.isGenerator = false
  nd : N.Nodup
  pre : N.take P.length = P
  par : ∀ x ∈ P, sc.names.lookup x = some .local ∨ sc.names.lookup x = some .cell
  nofree : ∀ y ∈ sc.names, y.2 ≠ .free
theorem bindL_out {kindOf : Str → Option NameKind} {x : Str} : ∀ {binds : List (Str × Value)} {m : Str → Option Value}, (∀ v, (x, v) ∉ binds) → bindL kindOf binds m x = m x
  | [], _, _ => rfl
  | (n, v) :: r, m, h => by
    unfold bindL
    rw [bindL_out fun w hw => h w (List.mem_cons_of_mem _ hw)]
    split
    · have : x ≠ n := by rintro rfl; exact h v List.mem_cons_self
      simp [this]
    · rfl
theorem bindC_out {kindOf : Str → Option NameKind} {x : Str} : ∀ {binds : List (Str × Value)} {m : Str → Option Value}, (∀ v, (x, v) ∉ binds) → bindC kindOf binds m x = m x
  | [], _, _ => rfl
  | (n, v) :: r, m, h => by
    unfold bindC
    rw [bindC_out fun w hw => h w (List.mem_cons_of_mem _ hw)]
    split
    · rfl
    · have : x ≠ n := by rintro rfl; exact h v List.mem_cons_self
      simp [this]
theorem bindL_get {kindOf : Str → Option NameKind} {x : Str} {v : Value} : ∀ {P : List Str} {vs : List Value} {i : Nat} {m : Str → Option Value}, P.Nodup → P[i]? = some x → vs[i]? = some v → kindOf x = some .local →
    bindL kindOf (P.zip vs) m x = some v
  | [], _, _, _, _, h, _, _ => by simp at h
  | _ :: _, [], _, _, _, _, h, _ => by simp at h
  | p :: P, w :: vs, 0, m, nd, h1, h2, hk => by
    simp at h1 h2; subst h1; subst h2
    show bindL kindOf ((p, w) :: P.zip vs) m p = _
    unfold bindL
    rw [bindL_out fun v hv => (List.nodup_cons.mp nd).1 (List.of_mem_zip hv).1, if_pos hk]
    simp
  | p :: P, w :: vs, i + 1, m, nd, h1, h2, hk => by
    show bindL kindOf ((p, w) :: P.zip vs) m x = _
    unfold bindL
    exact bindL_get (i := i) (List.nodup_cons.mp nd).2 (by simpa using h1) (by simpa using h2) hk
theorem bindC_get {kindOf : Str → Option NameKind} {x : Str} {v : Value} : ∀ {P : List Str} {vs : List Value} {i : Nat} {m : Str → Option Value}, P.Nodup → P[i]? = some x → vs[i]? = some v → kindOf x ≠ some .local →
    bindC kindOf (P.zip vs) m x = some v
  | [], _, _, _, _, h, _, _ => by simp at h
  | _ :: _, [], _, _, _, _, h, _ => by simp at h
  | p :: P, w :: vs, 0, m, nd, h1, h2, hk => by
    simp at h1 h2; subst h1; subst h2
    show bindC kindOf ((p, w) :: P.zip vs) m p = _
    unfold bindC
    rw [bindC_out fun v hv => (List.nodup_cons.mp nd).1 (List.of_mem_zip hv).1, if_neg hk]
    simp
  | p :: P, w :: vs, i + 1, m, nd, h1, h2, hk => by
    show bindC kindOf ((p, w) :: P.zip vs) m x = _
    unfold bindC
    exact bindC_get (i := i) (List.nodup_cons.mp nd).2 (by simpa using h1) (by simpa using h2) hk
def start (N : List Str) (vs : List V) : St := vs.map some ++ List.replicate (N.length - vs.length) none
def cxOf (CX : CXT) (P : Program) (w : World) (K : PySem.W.Frag) (mg : Str → Option Value) (base : Heap) (N : List Str) (qual : Str) (scope : Scope) (f : Addr) (cd : Value) (A : Around) (outer : List Env) (s : Shared) (H : Hp) (E : XK) : Cx where
  prog := P
  w := w
  K := K
  mg := mg
  base := base
  A := A.deeper (envOfC qual scope s.heap.objs.size f cd)
  N := N
  s₀ := s
  H₀ := H
  env := envOfC qual scope s.heap.objs.size f cd
  outer := outer
  stack := envOfC qual scope s.heap.objs.size f cd :: outer
  ex := []
  calm := true
  fn := fun _ => true
  pn := []
  xe := fun e s' => wpAny (model P w) (A.deeper (envOfC qual scope s.heap.objs.size f cd)) (leaving (envOfC qual scope s.heap.objs.size f cd) e) (fun _ s'' => CX outer H s E e s'') (fun e' s'' => CX outer H s E e' s'') s'
theorem cell_has {sc : Scope} {n : Nat} {x : Str} (h : sc.names.lookup x = some .cell) : ∃ c, (cellsFrom n sc.names []).lookup x = some c := by
  have q := PySem.W.cellsFrom_some sc.names n [] (.inl h)
  exact Option.isSome_iff_exists.mp q
theorem inv_start {CX : CXT} {P : Program} {w : World} {K : PySem.W.Frag} {mg : Str → Option Value} {base : Heap} {N ps : List Str} {qual : Str} {scope : Scope} {f : Addr} {cd : Value} {A : Around} {outer : List Env} {s s1 : Shared} {H : Hp} {E : XK} {us : List Value} {vs : List V}
    (S : FnScope N ps scope) (hd : A.handled = none) (e0 : Env0 P w K mg base A outer s H) (hl : vs.length = ps.length) (r : Vals vs us)
    (x : InCallC s s.heap.objs.size (bindL (envOfC qual scope s.heap.objs.size f cd).kindOf (ps.zip us) fun _ => none) (cellsFrom (s.heap.objs.size + 1) scope.names []) (bindC (envOfC qual scope s.heap.objs.size f cd).kindOf (ps.zip us) fun _ => none) s1) :
    Inv (cxOf CX P w K mg base N qual scope f cd A outer s H E) [] (start N vs) H s1 := by
  have hpl : ps.length ≤ N.length := by have := congrArg List.length S.pre; rw [List.length_take] at this; omega
  obtain ⟨h1, tk, rfl, hk⟩ := x.done
  have noA : ∀ b : Addr, b ∉ (cxOf CX P w K mg base N qual scope f cd A outer s H E).ex := fun b z => absurd (show b ∈ ([] : List Addr) from z) (by simp)
  refine ⟨⟨e0.mod, S.kind, rfl, rfl, Nat.le_refl _, fun y z c h1 h2 => ?_, fun y hy => ?_, fun y c _ h => ?_, fun _ => hd, Around.frames_deeper e0.frames, .inr ⟨rfl, rfl⟩, fun b z => absurd z (noA b), e0.bs, e0.bsz, fun b _ _ => noA b, fun b z => absurd z (noA b), e0.funs, e0.frf⟩,
    rfl, e0.bare, Un.kept hk, ⟨_, x.toInCall.ns, fun i y v h1 h2 h3 => ?_⟩, fun y c h => ⟨_, x.cell y c h⟩, e0.hok.fresh (Nat.le_refl _), fun y c h => ?_, fun p hp => absurd (show p ∈ ([] : List (Addr × Obj)) from hp) (by simp), e0.hok.kept hk, ?_⟩
  · exact name_of_addr x.apart (PySem.mem_of_lookup h1) (PySem.mem_of_lookup h2)
  · have hy : scope.names.lookup y = some .cell ∨ scope.names.lookup y = some .free := hy
    rcases hy with hy | hy
    · exact cell_has hy
    · exact absurd rfl (S.nofree _ (PySem.mem_of_lookup hy))
  · exact Nat.le_of_lt (x.above y c (PySem.mem_of_lookup h))
  · have hi : i < vs.length := by
      unfold start at h2
      by_cases hi : i < vs.length
      · exact hi
      · rw [List.getElem?_append_right (by simpa using hi)] at h2
        rw [List.getElem?_replicate] at h2
        split at h2 <;> cases h2
    have ha : vs[i]? = some v := by
      unfold start at h2
      rw [List.getElem?_append_left (by simpa using hi), List.getElem?_map] at h2
      cases e : vs[i]? with
      | none => rw [e] at h2; cases h2
      | some a => rw [e] at h2; cases h2; rfl
    obtain ⟨u, hu, rv⟩ := r.get ha
    have hp : ps[i]? = some y := by
      rw [← S.pre, List.getElem?_take_of_lt (by omega)]; exact h1
    have ndP : ps.Nodup := by rw [← S.pre]; exact S.nd.sublist (List.take_sublist _ _)
    refine ⟨u, rv, ?_⟩
    rcases S.par y (List.mem_of_getElem? hp) with k | k
    · exact .inl ⟨k, bindL_get ndP hp hu k⟩
    · obtain ⟨c, e⟩ := cell_has (n := s.heap.objs.size + 1) k
      refine .inr ⟨.inl k, c, e, ?_⟩
      have q := x.cell y c e
      rw [bindC_get ndP hp hu (by show scope.names.lookup y ≠ _; rw [k]; decide)] at q
      exact q
  · exact e0.hok.fresh (Nat.le_of_lt (x.above y c (PySem.mem_of_lookup h)))
  · unfold start
    show _ = N.length
    rw [List.length_append, List.length_map, List.length_replicate]
    omega
theorem fn_of {CX : CXT} {P : Program} {w : World} {K : PySem.W.Frag} {mg : Str → Option Value} {base : Heap} {k : Nat} {f : Addr} {name qual : Str} {params : Arguments} {body : List Stmt} {scope : Scope} {dV kV doc pm cdv ct oc : Value} {an od : Option Addr}
    {osl : Array (Option Value)} {N ps : List Str} {sp : Sp} (lk : K.lookup f = some ⟨oc, od, .func (PySem.W.fnOf name qual params body scope dV kV doc pm an cdv ct), osl⟩) (hcd : PySem.W.codeIn K cdv qual = true) (S : FnScope N ps scope)
    (len : ∀ vs H Q E, sp vs H Q E → vs.length = ps.length)
    (hbody : ∀ (A : Around) (outer : List Env) (s : Shared) (H : Hp) (vs : List V) (Q : VK) (E : XK), Room k (A.deeper (envOfC qual scope s.heap.objs.size f cdv)) → sp vs H Q E →
      ∃ t, PSs (cxOf CX P w K mg base N qual scope f cdv A outer s H E) body t ∧ t { nx := fun _ H' => Q .non H', rt := Q } (start N vs) H) :
    FnOk P w K mg base CX (k + 1) f (PySem.W.fnOf name qual params body scope dV kV doc pm an cdv ct) ps sp := by
  refine ⟨len, fun A outer s H args us vs Q E hr e0 hb r hsp => ?_⟩
  have hl := len _ _ _ _ hsp
  have KX : K.In s.heap := e0.mod.kin.keeps fun b o e => (e0.bs b o e).1
  have lim : s.heap.NoLimit := e0.mod.nolimit.keeps fun b o e => (e0.bs b o e).1
  have hkind : ∀ y ∈ ps.zip us, scope.names.lookup y.1 = some .local ∨ (scope.names.lookup y.1 = some .cell ∧ ((cellsFrom (s.heap.objs.size + 1) scope.names []).lookup y.1).isSome = true) := fun ⟨n, v⟩ hy => by
    rcases S.par n (List.of_mem_zip hy).1 with q | q
    · exact .inl q
    · exact .inr ⟨q, PySem.W.cellsFrom_some _ _ _ (.inl q)⟩
  refine codeAny_call_function hr.depth (KX _ _ lk) rfl S.co S.gen rfl (PySem.W.codeRec_of KX hcd) (hb _ _ _ _ ?_)
  refine wpAny_newFunctionEnv_cells S.kind hkind fun env he s1 x => ?_
  subst he
  refine ⟨lim.keeps x.toInCall.keep, codeAny_func ?_⟩
  obtain ⟨t, ht, hq⟩ := hbody A outer s H vs Q E (hr.deeper _) hsp
  have I : Inv (cxOf CX P w K mg base N qual scope f cdv A outer s H E) [] (start N vs) H s1 := inv_start S hr.hd e0 hl r x
  refine wpAny_mono (ht [] s1 (start N vs) H _ I hq) (fun fl s' hs => ?_) fun e s' hs => hs
  have fin : ∀ {σ' : St} {H' : Hp} {v : V} {u : Value}, Inv (cxOf CX P w K mg base N qual scope f cdv A outer s H E) [] σ' H' s' → RelV v u → Q v H' → CE outer P w H s Q u s' :=
    fun {σ' H' v u} J rv q => ⟨v, H', J.os, J.bare, J.base, J.hok, rv, q⟩
  cases fl with
  | ret u =>
    obtain ⟨v, σ', H', J, rv, q⟩ := hs
    exact fin J rv q
  | next =>
    obtain ⟨σ', H', J, q⟩ := hs
    exact fin (v := V.non) (u := Value.none) J rfl q
  | brk =>
    obtain ⟨_, _, _, q⟩ := hs
    exact False.elim q
  | cont =>
    obtain ⟨_, _, _, q⟩ := hs
    exact False.elim q
end L2
namespace L2
open PySem PySem.Spec PyProof.Rows
section
variable {X : Cx} {x : Str} {p pos : Pos} {e : Expr} {es : List Expr} {t : TA} {id T : String} {r : List V → Hp → VK → Prop}
def tCB (r : List V → Hp → VK → Prop) (t : TA) : TE := fun σ H Q => t σ H fun vs H1 => r vs H1 Q
theorem pe_callB (hc : CallR X (.builtin id) r) (hg : Gl X x) (hm : X.mg x = none) (hv : bootBuiltins x = some (.builtin id)) (ha : PA X (e :: es) t) (hn : x ≠ "__name__" := by decide) (hdb : (x == ("__debug__" : Str)) = false := by decide)
    (he : starEach (e :: es) X.env = (false, eval e X.env) :: starEach es X.env := by rfl) (hpl : (backTo pos (starEach es X.env)).any (·.1) = false := by rfl) : PE X (.Call (.Name x p) (e :: es) [] pos) (tCB r t) := by
  intro pins s σ H Q I h
  refine wpAny_Call_Name_kw (ld_blt I hg hm hv ?_ hn hdb)
  exact PyProof.Rows.callWith_builtin1 (thn (ha pos pins s σ H _ I h) fun us s1 ⟨vs, H1, I1, r1, q1⟩ => hc pins s1 σ H1 vs us Q I1 r1 q1) he hpl
theorem pe_callTy (hc : CallR X (.type T) r) (hg : Gl X x) (hm : X.mg x = none) (hv : bootBuiltins x = some (.type T)) (ha : PA X (e :: es) t) (hn : x ≠ "__name__" := by decide) (hdb : (x == ("__debug__" : Str)) = false := by decide)
    (he : starEach (e :: es) X.env = (false, eval e X.env) :: starEach es X.env := by rfl) (hpl : (backTo pos (starEach es X.env)).any (·.1) = false := by rfl) : PE X (.Call (.Name x p) (e :: es) [] pos) (tCB r t) := by
  intro pins s σ H Q I h
  refine wpAny_Call_Name_kw (ld_blt I hg hm hv ?_ hn hdb)
  exact PyProof.Rows.callWith_type1 (thn (ha pos pins s σ H _ I h) fun us s1 ⟨vs, H1, I1, r1, q1⟩ => hc pins s1 σ H1 vs us Q I1 r1 q1) he hpl
end
end L2
namespace HT
open PySem PyProof.Rows
section
open PySem.SeqAt
open PySem.AutoSeq1 (wpAny_loadPart')
open PySem.MeetsSeq PySem.MeetsSeq2 PySem.MeetsSeq3
end
section
variable {prog : Program} {w : World} {A : Around} {E : Value → Shared → Prop} {s : Shared}
def sIx (n d : Nat) : Option Int → Nat
  | none => d
  | some v => if v < 0 then (v + (n : Int)).toNat else min v.toNat n
theorem sIx_nat (n d k : Nat) : sIx n d (some (k : Int)) = min k n := by
  show (if (k : Int) < 0 then ((k : Int) + (n : Int)).toNat else min (k : Int).toNat n) = min k n
  rw [if_neg (by omega), Int.toNat_natCast]
theorem sIx_le (n d : Nat) (hd : d ≤ n) (o : Option Int) : sIx n d o ≤ n := by
  cases o with
  | none => exact hd
  | some v =>
    show (if v < 0 then (v + (n : Int)).toNat else min v.toNat n) ≤ n
    by_cases hv : v < 0
    · rw [if_pos hv]; omega
    · rw [if_neg hv]; exact Nat.min_le_right _ _
theorem clip_eq (v : Int) (n d : Nat) : (if v < 0 then max (v + (n : Int)) 0 else min v (n : Int)) = ((sIx n d (some v) : Nat) : Int) := by
  show (if v < 0 then max (v + (n : Int)) 0 else min v (n : Int)) = (((if v < 0 then (v + (n : Int)).toNat else min v.toNat n) : Nat) : Int)
  by_cases hv : v < 0
  · simp only [if_pos hv]; omega
  · simp only [if_neg hv]; omega
theorem adjust_gen (lo hi : Option Int) (n : Nat) : Builtin.Slice.sliceAdjust lo hi 1 (n : Int) = (((sIx n 0 lo : Nat) : Int), ((sIx n n hi : Nat) : Int)) := by
  have h1 : ¬ ((1 : Int) < 0) := by omega
  unfold Builtin.Slice.sliceAdjust
  simp only [h1, if_false]
  refine Prod.ext ?_ ?_
  · cases lo with
    | none => rfl
    | some v => exact clip_eq v n 0
  · cases hi with
    | none => rfl
    | some v => exact clip_eq v n n
theorem places_gen (i j : Nat) : Builtin.Slice.slicePlaces (i : Int) (j : Int) 1 = j - i := by
  unfold Builtin.Slice.slicePlaces
  have h1 : (1 : Int) > 0 := by omega
  simp only [h1, if_true, Int.ediv_one]
  split <;> omega
theorem slicePart_ {v : Value} {o : Option Int} {Q : Option Int → Shared → Prop} (p : IsPart v o) (h : Q o s) : wpAny (model prog w) A (Builtin.Slice.slicePartIndex v) Q E s := by
  cases p with
  | none => exact slicePart_none h
  | int i t => exact slicePart_int h
theorem sliceApplied_gen {sl : Addr} {vl vu : Value} {lo hi : Option Int} {n : Nat} {Q : Int × Int × Nat → Shared → Prop} (hs : s.heap.IsSliceOf sl vl vu .none) (pl : IsPart vl lo) (pu : IsPart vu hi)
    (h : Q (((sIx n 0 lo : Nat) : Int), 1, sIx n n hi - sIx n 0 lo) s) : wpAny (model prog w) A (Builtin.Slice.sliceApplied (.ref sl) (pure (n : Int))) Q E s := by
  obtain ⟨os, hos, hcs, hds⟩ := id hs
  unfold Builtin.Slice.sliceApplied Builtin.Slice.sliceFields
  refine wpAny_bind (wpAny_bind (wpAny_field hos hds (x := vl) rfl (wpAny_bind (wpAny_field hos hds (x := vu) rfl (wpAny_bind (wpAny_field hos hds (x := .none) rfl (wpAny_pure ?_)))))))
  refine wpAny_bind (slicePart_none ?_)
  show wpAny _ _ (if ((1 : Int) == 0) = true then _ else _) _ _ s
  rw [if_neg (by decide)]
  refine wpAny_bind (slicePart_ pl (wpAny_bind (slicePart_ pu (wpAny_bind (wpAny_pure ?_)))))
  show wpAny _ _ (match Builtin.Slice.sliceAdjust lo hi 1 (n : Int) with | (lo, hi) => pure (lo, (1 : Int), Builtin.Slice.slicePlaces lo hi 1)) _ _ s
  rw [adjust_gen lo hi n]
  show wpAny _ _ (pure (((sIx n 0 lo : Nat) : Int), (1 : Int), Builtin.Slice.slicePlaces ((sIx n 0 lo : Nat) : Int) ((sIx n n hi : Nat) : Int) 1)) _ _ s
  rw [places_gen]
  exact wpAny_pure h
theorem pick_gen (xs : Array Value) (i k : Nat) : ((List.range k).filterMap fun (m : Nat) => xs[((i : Int) + (m : Int) * 1).toNat]?).toArray = ((xs.toList.drop i).take k).toArray := by
  have e : (fun (m : Nat) => xs[((i : Int) + (m : Int) * 1).toNat]?) = fun m => xs[i + m]? := by
    funext m
    have : ((i : Int) + (m : Int) * 1).toNat = i + m := by omega
    rw [this]
  rw [e]
  have := pick_run xs i k
  rw [List.filterMap_map] at this
  have e2 : ((fun x => xs[x]?) ∘ fun x => i + x) = fun m => xs[i + m]? := rfl
  rw [e2] at this
  rw [this]
theorem getItem_tuple_cut {t sl : Addr} {items : Array Value} {vl vu : Value} {lo hi : Option Int} {Q : Value → Shared → Prop} (ht : IsTup s.heap t items) (hs : s.heap.IsSliceOf sl vl vu .none) (pl : IsPart vl lo) (pu : IsPart vu hi)
    (hw : ¬ (sIx items.size 0 lo = 0 ∧ sIx items.size items.size hi = items.size))
    (h : Q (.ref s.heap.objs.size) { s with heap := s.heap.push { cls := .type "tuple", data := .seq ((items.toList.drop (sIx items.size 0 lo)).take (sIx items.size items.size hi - sIx items.size 0 lo)).toArray } })
    (hsz : items.size ≤ sizeLine) : wpAny (model prog w) A (getItem (.ref t) (.ref sl)) Q E s := by
  have htake : sizeOk (.seq ((items.toList.drop (sIx items.size 0 lo)).take (sIx items.size items.size hi - sIx items.size 0 lo)).toArray) := by
    show ((items.toList.drop (sIx items.size 0 lo)).take (sIx items.size items.size hi - sIx items.size 0 lo)).toArray.size ≤ sizeLine
    rw [List.size_toArray, List.length_take, List.length_drop, Array.length_toList]
    omega
  have hj : sIx items.size items.size hi ≤ items.size := sIx_le _ _ (Nat.le_refl _) hi
  obtain ⟨os, hos, hcs, hds⟩ := id hs
  have hTs : s.TypeIs (.ref sl) "slice" := ⟨os, hos, hcs⟩
  unfold getItem
  try with_reducible refine wpAny_holding ?_
  first | refine wpAny_bind (wpAny_pure ?_) | skip
  refine wpAny_bind (wpAny_sequenceKey ht.typeIs (by decide) ?_)
  refine wpAny_bind (wpAny_callSpecial?_slot (name := Str.ofString "__getitem__") ht.typeIs PyProof.Rows.slot_tuple_getitem
    (wpAny_call_entry PyProof.Rows.slot_tuple_getitem ht.typeIs entry_tuple_getitem ?_ (args_tuple_getitem _ _)))
  show wpAny _ _ (Builtin.Tuple.tupleItemsOf (.ref t) >>= _) _ _ s
  refine wpAny_bind (tupleItemsOf_ ht ?_)
  refine wpAny_bind (wpAny_typeOf hTs ?_)
  rw [if_pos (by decide)]
  refine wpAny_bind (sliceApplied_gen hs pl pu ?_)
  have hno : ¬ ((((sIx items.size 0 lo : Nat) : Int) == 0 && (1 : Int) == 1 && (sIx items.size items.size hi - sIx items.size 0 lo) == items.size) = true) := by
    intro q
    rw [Bool.and_eq_true, Bool.and_eq_true] at q
    have q1 : ((sIx items.size 0 lo : Nat) : Int) = 0 := eq_of_beq q.1.1
    have q2 : sIx items.size items.size hi - sIx items.size 0 lo = items.size := eq_of_beq q.2
    exact hw ⟨by omega, by omega⟩
  show wpAny _ _ (if (((sIx items.size 0 lo : Nat) : Int) == 0 && (1 : Int) == 1 && (sIx items.size items.size hi - sIx items.size 0 lo) == items.size) = true then _ else _) _ _ s
  rw [if_neg hno, pick_gen]
  first
    | exact wpAny_bind (m := Builtin.Tuple.tupleExact _) (wpAny_newObj_type (wpAny_pure ⟨_, rfl, wpAny_pure h⟩) htake)
    | exact wpAny_bind (m := Builtin.Tuple.tupleExact _) (wpAny_newObj_type (wpAny_bind (wpAny_pure (wpAny_pure ⟨_, rfl, wpAny_pure h⟩))) htake)
    | exact wpAny_bind (wpAny_bind (m := Builtin.Tuple.tupleExact _) (wpAny_newObj_type (wpAny_pure (wpAny_pure ⟨_, rfl, wpAny_pure h⟩)) htake))
    | exact wpAny_bind (wpAny_bind (m := Builtin.Tuple.tupleExact _) (wpAny_newObj_type (wpAny_pure ⟨_, rfl, wpAny_pure h⟩) htake))
end
end HT
namespace L2
open PySem PySem.Spec PyProof.Rows
abbrev TO := St → Hp → (Option Int → Hp → Prop) → Prop
def PO (X : Cx) (e : Option Expr) (t : TO) : Prop :=
  ∀ (pins : List (Addr × Obj)) (s : Shared) (σ : St) (H : Hp) (Q : Option Int → Hp → Prop), Inv X pins σ H s → t σ H Q →
    wpAny (model X.prog X.w) X.A (evalPart e X.env) (fun u s' => ∃ o H', Inv X pins σ H' s' ∧ IsPart u o ∧ Q o H') X.xe s
def tNoPart : TO := fun _ H Q => Q none H
def tPart (t : TE) : TO := fun σ H Q => t σ H fun x H1 => ∃ i, x = .int i ∧ Q (some i) H1
section
variable {X : Cx} {e : Expr} {te : TE} {lo hi : Option Expr} {tl th : TO} {pos p2 : Pos}
theorem po_none : PO X none tNoPart := by
  intro pins s σ H Q I h
  rw [evalPart_none]
  exact wpAny_pure ⟨none, H, I, .none, h⟩
theorem po_some (h : PE X e te) : PO X (some e) (tPart te) := by
  intro pins s σ H Q I hw
  rw [evalPart_some]
  refine thn (h pins s σ H _ I hw) fun u s1 ⟨x, H1, I1, r1, q1⟩ => ?_
  obtain ⟨i, rfl, q⟩ := q1
  obtain ⟨t, rfl⟩ := r1
  exact ⟨some i, H1, I1, .int i t, q⟩
def SlR (X : Cx) (r : V → Option Int → Option Int → Hp → VK → Prop) : Prop :=
  ∀ (pins : List (Addr × Obj)) (s : Shared) (σ : St) (H : Hp) (x : V) (v vl vu : Value) (lo hi : Option Int) (sl : Addr) (Q : VK), Inv X pins σ H s → RelV x v → s.heap.IsSliceOf sl vl vu .none → IsPart vl lo → IsPart vu hi → r x lo hi H Q →
    ∃ T id, typeLookup (.type T) "__getitem__" = pure (some (.builtin id)) ∧ s.TypeIs v T ∧ wpAny (model X.prog X.w) X.A (getItem v (.ref sl)) (EP X pins σ Q) X.xe s
theorem SlR.or {r r' : V → Option Int → Option Int → Hp → VK → Prop} (h : SlR X r) (h' : SlR X r') : SlR X (fun x lo hi H Q => r x lo hi H Q ∨ r' x lo hi H Q) := by
  intro pins s σ H x v vl vu lo hi sl Q I rx hs pl pu q
  rcases q with q | q
  · exact h pins s σ H x v vl vu lo hi sl Q I rx hs pl pu q
  · exact h' pins s σ H x v vl vu lo hi sl Q I rx hs pl pu q
def tSl (r : V → Option Int → Option Int → Hp → VK → Prop) (te : TE) (tl th : TO) : TE := fun σ H Q => te σ H fun x H1 => tl σ H1 fun l H2 => th σ H2 fun u H3 => r x l u H3 Q
theorem pe_slice {r : V → Option Int → Option Int → Hp → VK → Prop} (hr : SlR X r) (he : PE X e te) (hl : PO X lo tl) (hu : PO X hi th) : PE X (.Subscript e (.Slice lo hi none p2) pos) (tSl r te tl th) := by
  intro pins s σ H Q I h
  refine Subscript_ (thn (he pins s σ H _ I h) fun v s1 ⟨x, H1, I1, r1, q1⟩ => ?_)
  refine wpAny_Slice (thn (hl pins s1 σ H1 _ I1 q1) fun vl s2 ⟨l, H2, I2, pl, q2⟩ => thn (hu pins s2 σ H2 _ I2 q2) fun vu s3 ⟨u, H3, I3, pu, q3⟩ => ?_)
  rw [evalPart_none]
  refine wpAny_pure ?_
  have I4 : Inv X pins σ H3 { s3 with heap := s3.heap.push { cls := .type "slice", data := .fields #[vl, vu, .none] } } := I3.kept (t' := s3.toks) fun b ob q => Heap.get?_push_of_some _ q
  obtain ⟨T, id, hT, ht, hg⟩ := hr pins { s3 with heap := s3.heap.push { cls := .type "slice", data := .fields #[vl, vu, .none] } } σ H3 x v vl vu l u s3.heap.objs.size Q I4 r1 (Heap.IsSliceOf.new ..) pl pu q3
  show wpAny (model X.prog X.w) X.A (subscriptTail e (.Slice lo hi none p2) v (.ref s3.heap.objs.size)) (EP X pins σ Q) X.xe { s3 with heap := s3.heap.push { cls := .type "slice", data := .fields #[vl, vu, .none] } }
  exact tail_any (ops := [.ref s3.heap.objs.size, v]) ht hT hg (by with_unfolding_all rfl)
def cutV (xs : List V) (lo hi : Option Int) : List V := (xs.drop (HT.sIx xs.length 0 lo)).take (HT.sIx xs.length xs.length hi - HT.sIx xs.length 0 lo)
theorem cutV_length (xs : List V) (lo hi : Option Int) : (cutV xs lo hi).length ≤ xs.length := by
  unfold cutV
  rw [List.length_take, List.length_drop]
  omega
def rSlT (K : PySem.W.Frag) : V → Option Int → Option Int → Hp → VK → Prop := fun x lo hi H Q => ∃ a xs, x = .ref a ∧ SqT K H a xs ∧
  ¬ (HT.sIx xs.length 0 lo = 0 ∧ HT.sIx xs.length xs.length hi = xs.length) ∧ ∀ p, H p = none → Q (.ref p) (upd H p (.tup (cutV xs lo hi)))
theorem sl_tup : SlR X (rSlT X.K) := by
  intro pins s σ H x v vl vu lo hi sl Q I rx hs pl pu h
  obtain ⟨a, xs, rfl, hx, hw, q⟩ := h
  cases rx
  obtain ⟨its, r, ht, hz⟩ := I.tuple hx
  have hlen : its.toArray.size = xs.length := by rw [List.size_toArray]; exact r.length.symm
  refine ⟨"tuple", _, PyProof.Rows.slot_tuple_getitem.lookup, ht.typeIs, ?_⟩
  refine HT.getItem_tuple_cut ht hs pl pu (by rw [hlen]; exact hw) ?_ (by rw [hlen]; exact hz)
  rw [hlen]
  refine ⟨.ref s.heap.objs.size, _, I.laid (t' := s.toks) (o := .tup (cutV xs lo hi)) (fun b ob q => Heap.get?_push_of_some _ q) (Nat.le_refl _) ?_, rfl, q _ (I.hok.fresh (Nat.le_refl _))⟩
  exact ⟨Nat.le_trans (cutV_length xs lo hi) hz, _, (r.drop (HT.sIx xs.length 0 lo)).take (HT.sIx xs.length xs.length hi - HT.sIx xs.length 0 lo), IsTup.new _ _⟩
end
end L2
namespace L2
open PySem PySem.Spec PyProof.Rows
def ixN (n : Nat) (i : Int) : Option Nat := if 0 ≤ i then (if i < n then some i.toNat else none) else if -(n : Int) ≤ i then some (i + n).toNat else none
def atI {α : Type} (xs : List α) (i : Int) : Option α := (ixN xs.length i).bind fun j => xs[j]?
theorem ixN_seq {n : Nat} {i : Int} {j : Nat} (h : ixN n i = some j) : seqIndex? i n = some j ∧ j < n ∧ -(n : Int) ≤ i ∧ i < n := by
  unfold ixN at h
  by_cases h0 : 0 ≤ i
  · rw [if_pos h0] at h
    by_cases h1 : i < n
    · rw [if_pos h1] at h
      have e : i.toNat = j := Option.some.inj h
      exact ⟨by rw [seqIndex_of h0 h1, e], by omega, by omega, h1⟩
    · rw [if_neg h1] at h; cases h
  · rw [if_neg h0] at h
    by_cases h1 : -(n : Int) ≤ i
    · rw [if_pos h1] at h
      have e : (i + n).toNat = j := Option.some.inj h
      exact ⟨by rw [seqIndex_neg (by omega) h1, e], by omega, h1, by omega⟩
    · rw [if_neg h1] at h; cases h
theorem atI_get {α : Type} {xs : List α} {i : Int} {v : α} (h : atI xs i = some v) : ∃ j, seqIndex? i xs.length = some j ∧ xs[j]? = some v ∧ j < xs.length ∧ -(xs.length : Int) ≤ i ∧ i < xs.length := by
  unfold atI at h
  cases e : ixN xs.length i with
  | none => rw [e] at h; cases h
  | some j =>
    rw [e] at h
    obtain ⟨h1, h2, h3, h4⟩ := ixN_seq e
    exact ⟨j, h1, h, h2, h3, h4⟩
theorem atI_nat {α : Type} {xs : List α} {j : Nat} {v : α} (h : xs[j]? = some v) : atI xs (j : Int) = some v := by
  have hj : j < xs.length := (List.getElem?_eq_some_iff.mp h).1
  have e : ixN xs.length (j : Int) = some j := by
    unfold ixN
    rw [if_pos (by omega), if_pos (by omega)]; simp
  unfold atI; rw [e]; exact h
def PlainIx (b : Expr) : Prop := ∀ o i, subscripted b false o i = operate [o, i] (getItem o i)
def IxR (X : Cx) (r : R2) : Prop :=
  ∀ (value slice : Expr) (pins : List (Addr × Obj)) (s : Shared) (σ : St) (H : Hp) (x y : V) (v u : Value) (Q : VK), Inv X pins σ H s → RelV x v → RelV y u → r x y H Q →
    subscripted slice false v u = operate [v, u] (getItem v u) → wpAny (model X.prog X.w) X.A (subscriptTail value slice v u) (EP X pins σ Q) X.xe s
def MtR (X : Cx) (id : String) (r : V → List V → Hp → VK → Prop) : Prop :=
  ∀ (pins : List (Addr × Obj)) (s : Shared) (σ : St) (H : Hp) (x : V) (xs : List V) (v : Value) (us : List Value) (Q : VK), Inv X pins σ H s → RelV x v → Vals xs us → r x xs H Q →
    wpAny (model X.prog X.w) X.A (call (.builtin id) (v :: us)) (EP X pins σ Q) X.xe s
section
variable {X : Cx} {a b : Expr} {ta tb : TE} {pos : Pos}
theorem IxR.or {r r' : R2} (h : IxR X r) (h' : IxR X r') : IxR X (fun x y H Q => r x y H Q ∨ r' x y H Q) := by
  intro value slice pins s σ H x y v u Q I rx ry q hs
  rcases q with q | q
  · exact h value slice pins s σ H x y v u Q I rx ry q hs
  · exact h' value slice pins s σ H x y v u Q I rx ry q hs
theorem MtR.or {id : String} {r r' : V → List V → Hp → VK → Prop} (h : MtR X id r) (h' : MtR X id r') : MtR X id (fun x xs H Q => r x xs H Q ∨ r' x xs H Q) := by
  intro pins s σ H x xs v us Q I rx rs q
  rcases q with q | q
  · exact h pins s σ H x xs v us Q I rx rs q
  · exact h' pins s σ H x xs v us Q I rx rs q
theorem pe_ix {r : R2} (hr : IxR X r) (ha : PE X a ta) (hb : PE X b tb) (hs : PlainIx b) : PE X (.Subscript a b pos) (tOp r ta tb) := by
  intro pins s σ H Q I h
  exact Subscript_ (binT ha hb I h fun v u s2 x y H2 I2 rx ry q => hr a b pins s2 σ H2 x y v u Q I2 rx ry q (hs _ _))
def rIxL (K : PySem.W.Frag) : R2 := fun x y H Q => ∃ p xs i v, x = .ref p ∧ y = .int i ∧ SqL K H p xs ∧ atI xs i = some v ∧ Q v H
def rIxT (K : PySem.W.Frag) : R2 := fun x y H Q => ∃ p xs i v, x = .ref p ∧ y = .int i ∧ SqT K H p xs ∧ atI xs i = some v ∧ Q v H
def rIxS : R2 := fun x y H Q => ∃ z i c, x = .str z ∧ y = .int i ∧ z.length ≤ sizeLine ∧ atI z.cps.toList i = some c ∧ Q (.str ⟨#[c]⟩) H
theorem ix_list : IxR X (rIxL X.K) := by
  intro value slice pins s σ H x y v u Q I rx ry h hs
  obtain ⟨p, xs, i, z, rfl, rfl, hq, he, q⟩ := h
  cases rx
  obtain ⟨t, rfl⟩ := ry
  obtain ⟨its, r, pl, hz⟩ := I.list hq
  obtain ⟨j, h1, h2, h3, h4, h5⟩ := atI_get he
  obtain ⟨w, ew, rw'⟩ := r.get h2
  have hl := r.length
  have hn := line63
  have fin : EP X pins σ Q w s := ⟨z, H, I, rw', q⟩
  by_cases h0 : 0 ≤ i
  · have hj : i.toNat = j := by
      rw [seqIndex_of h0 h5] at h1
      exact Option.some.inj h1
    exact item_listR pl.isList h0 (by omega) (by rw [hj]; simpa using ew) fin hs
  · have hj : (i + (its.toArray.size : Int)).toNat = j := by
      rw [seqIndex_neg (by omega) h4] at h1
      rw [List.size_toArray, ← hl]
      exact Option.some.inj h1
    exact subscriptTail_builtinR (x := w) pl.isList.typeIs slot_list_getitem.lookup
      (wpAny_getItem_list_neg (Q := fun r s' => r = w ∧ EP X pins σ Q r s') pl.isList (by omega) (by rw [List.size_toArray] <;> omega) (by omega) (by rw [hj]; simpa using ew) ⟨rfl, fin⟩) hs
theorem ix_tup : IxR X (rIxT X.K) := by
  intro value slice pins s σ H x y v u Q I rx ry h hs
  obtain ⟨p, xs, i, z, rfl, rfl, hq, he, q⟩ := h
  cases rx
  obtain ⟨t, rfl⟩ := ry
  obtain ⟨its, r, pl, hz⟩ := I.tuple hq
  obtain ⟨j, h1, h2, h3, h4, h5⟩ := atI_get he
  obtain ⟨w, ew, rw'⟩ := r.get h2
  have hl := r.length
  have hn := line63
  have fin : EP X pins σ Q w s := ⟨z, H, I, rw', q⟩
  exact subscriptTail_builtinR (x := w) pl.typeIs slot_tuple_getitem.lookup
    (getItem_tuple (j := j) (Q := fun r s' => r = w ∧ EP X pins σ Q r s') pl (by omega) (by omega) (by rw [List.size_toArray, ← hl]; exact h1) (by simpa using ew) ⟨rfl, fin⟩) hs
theorem ix_str : IxR X rIxS := by
  intro value slice pins s σ H x y v u Q I rx ry h hs
  obtain ⟨z, i, c, rfl, rfl, hz, he, q⟩ := h
  obtain ⟨t, rfl⟩ := rx
  obtain ⟨t', rfl⟩ := ry
  obtain ⟨j, h1, h2, h3, h4, h5⟩ := atI_get he
  have hl : z.cps.toList.length = z.length := by simp [Str.length]
  rw [hl] at h1 h4 h5
  have hn := line63
  exact tail_any (typeIs_str s z t) slot_str_getitem.lookup (getItem_str (c := c) (by
    have e1 : decide (i < -(2 ^ 63 : Int)) = false := decide_eq_false (by omega)
    have e2 : decide (i ≥ 2 ^ 63) = false := decide_eq_false (by omega)
    rw [e1, e2, Bool.or_false]) (by rw [h1]; simpa using h2) ⟨.str ⟨#[c]⟩, H, I.tok _, ⟨_, rfl⟩, q⟩) hs
def rIx (K : PySem.W.Frag) : R2 := fun x y H Q => rIxL K x y H Q ∨ rIxT K x y H Q ∨ rIxS x y H Q
theorem ix_seq : IxR X (rIx X.K) := ix_list.or (ix_tup.or ix_str)
theorem Inv.lst {pins : List (Addr × Obj)} {σ : St} {H : Hp} {s : Shared} {p : Addr} {xs : List V} (I : Inv X pins σ H s) (h : H p = some (.lst xs)) :
    ∃ (its : List Value) (n : Nat), Vals xs its ∧ s.heap.get? p = some { cls := .type "list", data := .seq its.toArray n } ∧ xs.length ≤ sizeLine := by
  obtain ⟨z, its, n, r, e⟩ := I.hok p _ h
  exact ⟨its, n, r, e, z⟩
theorem slice_bounds (lo hi : Option Int) (n : Nat) : (sliceBounds lo hi none n).1 = ((HT.sIx n 0 lo : Nat) : Int) ∧ (sliceBounds lo hi none n).2.1 = ((HT.sIx n n hi : Nat) : Int) ∧ (sliceBounds lo hi none n).2.2 = 1 := by
  refine ⟨?_, ?_, rfl⟩
  · cases lo with
    | none => simp [sliceBounds, HT.sIx]
    | some i =>
      simp only [sliceBounds, HT.sIx, Option.getD_none, show (1 : Int) > 0 by decide, if_true]
      by_cases h : i < 0
      · simp only [h, if_true] <;> omega
      · simp only [h, if_false] <;> omega
  · cases hi with
    | none => simp [sliceBounds, HT.sIx]
    | some i =>
      simp only [sliceBounds, HT.sIx, Option.getD_none, show (1 : Int) > 0 by decide, if_true]
      by_cases h : i < 0
      · simp only [h, if_true] <;> omega
      · simp only [h, if_false] <;> omega
theorem slicePick_cut (its : List Value) (lo hi : Option Int) : slicePick its.toArray lo hi none = ((its.drop (HT.sIx its.length 0 lo)).take (HT.sIx its.length its.length hi - HT.sIx its.length 0 lo)).toArray := by
  obtain ⟨h1, h2, h3⟩ := slice_bounds lo hi its.toArray.size
  unfold slicePick
  rw [h1, h2, h3]
  simp only [sliceRange_one, pick_run, List.size_toArray] <;> rfl
def rSlL (K : PySem.W.Frag) : V → Option Int → Option Int → Hp → VK → Prop := fun x lo hi H Q => ∃ a xs, x = .ref a ∧ SqL K H a xs ∧ ∀ p, H p = none → Q (.ref p) (upd H p (.lst (cutV xs lo hi)))
theorem sl_list : SlR X (rSlL X.K) := by
  intro pins s σ H x v vl vu lo hi sl Q I rx hs pl pu h
  obtain ⟨a, xs, rfl, hx, q⟩ := h
  cases rx
  obtain ⟨its, r, ht, hz⟩ := I.list hx
  have hlen := r.length
  refine ⟨"list", _, slot_list_getitem.lookup, ht.isList.typeIs, ?_⟩
  refine wpAny_getItem_list_slice ht.isList hs pl pu .none (by simp) ?_ (by rw [List.size_toArray] <;> omega)
  rw [slicePick_cut, ← hlen]
  refine ⟨.ref s.heap.objs.size, _, I.laid (t' := s.toks) (o := .lst (cutV xs lo hi)) (fun b ob q => Heap.get?_push_of_some _ q) (Nat.le_refl _) ?_, rfl, q _ (I.hok.fresh (Nat.le_refl _))⟩
  exact ⟨Nat.le_trans (cutV_length xs lo hi) hz, _, 0, (r.drop (HT.sIx xs.length 0 lo)).take (HT.sIx xs.length xs.length hi - HT.sIx xs.length 0 lo), Heap.get?_push_size _ rfl⟩
theorem call_len_seq : CallR X (.builtin "len") (fun xs H Q => ∃ p ys, xs = [.ref p] ∧ (SqL X.K H p ys ∨ SqT X.K H p ys) ∧ Q (.int ys.length) H) := by
  intro pins s σ H xs us Q I r h
  obtain ⟨p, ys, rfl, hq, q⟩ := h
  obtain ⟨u, rfl, rx⟩ := vals1 r
  cases rx
  have hn := line63
  rcases hq with hq | hq
  · obtain ⟨its, r', pl, hz⟩ := I.list hq
    have hlen := r'.length
    exact Calls.call_len_list pl.isList (by simp only [List.size_toArray] <;> omega) ⟨.int ys.length, H, I.tok _, ⟨s.toks + 1, by rw [List.size_toArray, hlen]⟩, q⟩
  · obtain ⟨its, r', pl, hz⟩ := I.tuple hq
    have hlen := r'.length
    exact len_tuple pl (by simp only [List.size_toArray] <;> omega) ⟨.int ys.length, H, I.tok _, ⟨s.toks + 1, by rw [List.size_toArray, hlen]⟩, q⟩
theorem call_len_str : CallR X (.builtin "len") (fun xs H Q => ∃ z, xs = [.str z] ∧ z.length ≤ sizeLine ∧ Q (.int z.length) H) := by
  intro pins s σ H xs us Q I r h
  obtain ⟨z, rfl, hz, q⟩ := h
  obtain ⟨u, rfl, t, rfl⟩ := vals1 r
  have hn := line63
  exact len_str (by omega) ⟨.int z.length, H, I.tok _, ⟨_, rfl⟩, q⟩
theorem CallR.or {f : Value} {r r' : List V → Hp → VK → Prop} (h : CallR X f r) (h' : CallR X f r') : CallR X f (fun xs H Q => r xs H Q ∨ r' xs H Q) := by
  intro pins s σ H xs us Q I rs q
  rcases q with q | q
  · exact h pins s σ H xs us Q I rs q
  · exact h' pins s σ H xs us Q I rs q
theorem call_tuple_of : CallR X (.type "tuple") (fun xs H Q => ∃ p ys, xs = [.ref p] ∧ ((SqL X.K H p ys ∧ ∀ l, H l = none → Q (.ref l) (upd H l (.tup ys))) ∨ (SqT X.K H p ys ∧ Q (.ref p) H))) := by
  intro pins s σ H xs us Q I r h
  obtain ⟨p, ys, rfl, h⟩ := h
  obtain ⟨u, rfl, rx⟩ := vals1 r
  cases rx
  rcases h with ⟨hq, q⟩ | ⟨hq, q⟩
  · obtain ⟨its, r', pl, hz⟩ := I.list hq
    have hlen := r'.length
    refine call_tuple_list pl.isList (fun h' kp => ?_) (by simp only [List.size_toArray] <;> omega)
    have I1 : Inv X pins σ H { s with heap := h' } := I.kept (t' := s.toks) kp
    have I2 : Inv X pins σ (upd H h'.objs.size (.tup ys)) { s with heap := h'.push { cls := .type "tuple", data := .seq its.toArray } } :=
      I1.laid (t' := s.toks) (fun b o e => Heap.get?_push_of_some _ e) (Nat.le_refl _) (show ObjOk X.prog X.w _ _ _ (.tup ys) from ⟨hz, its, r', IsTup.new _ _⟩)
    exact ⟨.ref h'.objs.size, _, I2, rfl, q _ (I1.hok.fresh (Nat.le_refl _))⟩
  · obtain ⟨its, r', pl, hz⟩ := I.tuple hq
    exact call_tuple_same pl ⟨.ref p, H, I, rfl, q⟩
def tyV (K : PySem.W.Frag) (T : String) (x : V) (H : Hp) : Prop := match x with
  | .str _ => T = "str"
  | .int _ => T = "int"
  | .ref p => (T = "list" ∧ ∃ xs, SqL K H p xs) ∨ (T = "tuple" ∧ ∃ o, K.lookup p = some o ∧ o.cls = .type "tuple" ∧ o.dict = none) ∨
      (T = "dict" ∧ ((∃ kvs, H p = some (.dK kvs)) ∨ ∃ kvs, H p = some (.dT kvs))) ∨ (T = "set" ∧ ∃ S n, H p = some (.set S n))
  | _ => False
theorem tyV_is {pins : List (Addr × Obj)} {σ : St} {H : Hp} {s : Shared} {T : String} {x : V} {v : Value} (I : Inv X pins σ H s) (r : RelV x v) (ty : tyV X.K T x H) :
    s.TypeIs v T ∧ ∀ a, v = .ref a → ∃ ob, s.heap.get? a = some ob ∧ ob.dict = none := by
  cases x with
  | str z =>
    obtain ⟨t, rfl⟩ := r
    cases (show T = "str" from ty)
    exact ⟨typeIs_str s z t, fun _ e => nomatch e⟩
  | int i =>
    obtain ⟨t, rfl⟩ := r
    cases (show T = "int" from ty)
    exact ⟨typeIs_int s i t, fun _ e => nomatch e⟩
  | ref p =>
    cases r
    rcases ty with ⟨rfl, xs, hq⟩ | ⟨rfl, o, hk, hc, hd⟩ | ⟨rfl, hk⟩ | ⟨rfl, S, n, hk⟩
    · obtain ⟨its, _, pl, _⟩ := I.list hq
      refine ⟨pl.isList.typeIs, fun a e => ?_⟩
      cases e
      obtain ⟨o, n, e, c, hd, _⟩ := pl
      exact ⟨o, e, hd⟩
    · refine ⟨⟨o, I.kIn p o hk, hc⟩, fun a e => ?_⟩
      cases e
      exact ⟨o, I.kIn _ o hk, hd⟩
    · have z : ∃ o, s.heap.get? p = some o ∧ o.ExactDict := by
        rcases hk with ⟨kvs, hk⟩ | ⟨kvs, hk⟩
        · obtain ⟨_, _, _, _, o, _, _, e, ex, _⟩ := I.hok p _ hk
          exact ⟨o, e, ex⟩
        · obtain ⟨_, _, _, _, o, _, _, e, ex, _⟩ := I.hok p _ hk
          exact ⟨o, e, ex⟩
      obtain ⟨o, e, ex⟩ := z
      refine ⟨⟨o, e, ex.1⟩, fun a e2 => ?_⟩
      cases e2
      exact ⟨o, e, ex.2.1⟩
    · obtain ⟨o, _, _, _, e, ex, _⟩ := I.hok p _ hk
      refine ⟨⟨o, e, ex.1⟩, fun a e2 => ?_⟩
      cases e2
      exact ⟨o, e, ex.2.1⟩
  | _ => exact False.elim ty
def tBM0 (K : PySem.W.Frag) (T : String) (r : V → List V → Hp → VK → Prop) (to : TE) : TE := fun σ H Q => to σ H fun x H1 => tyV K T x H1 ∧ r x [] H1 Q
def tBM (K : PySem.W.Frag) (T : String) (r : V → List V → Hp → VK → Prop) (to : TE) (t : TA) : TE := fun σ H Q => to σ H fun x H1 => tyV K T x H1 ∧ t σ H1 fun xs H2 => r x xs H2 Q
variable {o e : Expr} {es : List Expr} {to : TE} {t : TA} {name : Str} {apos cpos : Pos} {T id : String} {r : V → List V → Hp → VK → Prop}
theorem pe_bm0 (pa : PlainAttrs T) (slot : Slot T name id) (hty : typeOf (.builtin id) = pure (.type "method_descriptor")) (hm : MtR X id r) (ho : PE X o to)
    (hbase : attributeBase o name X.env (eval o X.env) = eval o X.env := by rfl) (hline : (apos.endLine == cpos.line) = true := by rfl) : PE X (.Call (.Attribute o name apos) [] [] cpos) (tBM0 X.K T r to) := by
  intro pins s σ H Q I h
  refine wpAny_Call_method0_late hbase hline (thn (ho pins s σ H _ I h) fun v s1 ⟨x, H1, I1, r1, ty, q1⟩ => ?_)
  obtain ⟨h1, h2⟩ := tyV_is I1 r1 ty
  exact ⟨T, id, pa, slot, hty, h1, h2, Calls.callWith_builtin rfl (PySem.evalArgs_none (hm pins s1 σ H1 x [] v [] Q I1 r1 .nil q1))⟩
theorem pe_bm (pa : PlainAttrs T) (slot : Slot T name id) (hty : typeOf (.builtin id) = pure (.type "method_descriptor")) (hm : MtR X id r) (ho : PE X o to) (ha : PA X (e :: es) t)
    (hbase : attributeBase o name X.env (eval o X.env) = eval o X.env := by rfl)
    (hfew : ((backTo cpos (starEach (e :: es) X.env)).all (fun x => !x.1) && (backToKw cpos (keywordEach [] X.env)).all (fun x => x.1.isSome)
      && decide ((e :: es).length + ([] : List Keyword).length + (if ([] : List Keyword).isEmpty then 0 else 1) < 30)) = true := by rfl)
    (hline : (apos.endLine == cpos.line) = true := by rfl) (hs : starEach (e :: es) X.env = (false, eval e X.env) :: starEach es X.env := by rfl) (hplain : (backTo cpos (starEach es X.env)).any (·.1) = false := by rfl) :
    PE X (.Call (.Attribute o name apos) (e :: es) [] cpos) (tBM X.K T r to t) := by
  intro pins s σ H Q I h
  refine wpAny_Call_method_late hbase hfew hline rfl (thn (ho pins s σ H _ I h) fun v s1 ⟨x, H1, I1, r1, ty, q1⟩ => ?_)
  obtain ⟨h1, h2⟩ := tyV_is I1 r1 ty
  refine ⟨T, id, pa, slot, hty, h1, h2, ?_⟩
  have hA := ha cpos pins s1 σ H1 _ I1 q1
  rw [hs] at hA ⊢
  refine Calls.callWith_builtin (by show (false || (backTo cpos (starEach es X.env)).any (·.1)) = false; rw [hplain] <;> rfl) (Calls.evalArgs_plain ?_)
  exact thn hA fun us s2 ⟨vs, H2, I2, r2, q2⟩ => hm pins s2 σ H2 x vs v us Q I2 r1 r2 q2
end
end L2
namespace L2
open PySem PySem.Spec PyProof.Rows
def MtM (X : Cx) (id : String) (r : V → List V → Hp → VK → Prop) : Prop :=
  ∀ (pins : List (Addr × Obj)) (s : Shared) (σ : St) (H : Hp) (x : V) (xs : List V) (v : Value) (us : List Value) (Q : VK), Inv X pins σ H s → RelV x v → Vals xs us → r x xs H Q →
    wpAny (model X.prog X.w) X.A (call (.builtin id) (v :: us)) (EP X pins σ Q) X.xe s
theorem Vals.one : ∀ {x : V} {us : List Value}, Vals [x] us → ∃ u, us = [u] ∧ RelV x u
  | _, _, .cons r .nil => ⟨_, rfl, r⟩
theorem Vals.two : ∀ {x y : V} {us : List Value}, Vals [x, y] us → ∃ u v, us = [u, v] ∧ RelV x u ∧ RelV y v
  | _, _, _, .cons r (.cons q .nil) => ⟨_, _, rfl, r, q⟩
theorem Vals.zero : ∀ {us : List Value}, Vals [] us → us = []
  | _, .nil => rfl
theorem Vals.dropLast {xs : List V} {us : List Value} (h : Vals xs us) : Vals xs.dropLast us.dropLast := by
  induction h with
  | nil => exact .nil
  | cons r t ih =>
    cases t with
    | nil => exact .nil
    | cons q t' => exact .cons r ih
theorem Vals.reverse {xs : List V} {us : List Value} (h : Vals xs us) : Vals xs.reverse us.reverse := by
  induction h with
  | nil => exact .nil
  | cons r t ih => rw [List.reverse_cons, List.reverse_cons]; exact Vals.append ih (.cons r .nil)
section
variable {X : Cx} {pins : List (Addr × Obj)} {σ : St} {H : Hp} {s : Shared} {l b : Addr} {xs ys zs : List V}
theorem Inv.lset {its its' : List Value} {n : Nat} {f : Array Value → Array Value} {t' : Nat} (I : Inv X pins σ H s) (hH : H l = some (.lst xs))
    (e : s.heap.get? l = some { cls := .type "list", data := .seq its.toArray n }) (hf : f its.toArray = its'.toArray) (hv : Vals ys its') (hz : ys.length ≤ sizeLine) :
    Inv X pins σ (upd H l (.lst ys)) { s with heap := s.heap.update l (Obj.mapSeq f), toks := t' } := by
  have q := PySem.IsL.update e f
  rw [hf] at q
  refine I.write (x := l) (e := l) (by rw [hH]; exact trivial) (.inl rfl) (fun b' u hb hu => (Heap.get?_update_other s.heap (Obj.mapSeq f) (Ne.symm hb)).trans hu) ⟨_, q⟩ ?_
  exact ⟨hz, its', _, hv, q⟩
theorem Inv.lnew {its : List Value} {t' : Nat} (I : Inv X pins σ H s) (hv : Vals ys its) (hz : ys.length ≤ sizeLine) :
    Inv X pins σ (upd H s.heap.objs.size (.lst ys)) { s with heap := s.heap.push { cls := .type "list", data := .seq its.toArray }, toks := t' } :=
  I.laid (fun _ _ q => Heap.get?_push_of_some _ q) (Nat.le_refl _) ⟨hz, its, 0, hv, Heap.get?_push_size _ rfl⟩
theorem Inv.fresh (I : Inv X pins σ H s) : H s.heap.objs.size = none := I.hok.fresh (Nat.le_refl _)
theorem Inv.lstM (I : Inv X pins σ H s) (hH : H l = some (.lst xs)) : xs.length ≤ sizeLine ∧ ∃ (its : List Value) (n : Nat), Vals xs its ∧ xs.length = its.length ∧ s.heap.get? l = some { cls := .type "list", data := .seq its.toArray n } := by
  obtain ⟨z, its, n, r, e⟩ := I.hok l _ hH
  exact ⟨z, its, n, r, r.length, e⟩
theorem notLongL {n : Nat} (h : n ≤ sizeLine) : Builtin.List.listTooLong n = false := by
  unfold Builtin.List.listTooLong
  exact decide_eq_false (by omega)
end
section
variable {X : Cx}
def rAppend : V → List V → Hp → VK → Prop := fun x vs H Q => ∃ l xs y, x = .ref l ∧ vs = [y] ∧ H l = some (.lst xs) ∧ xs.length < sizeLine ∧ Q .non (upd H l (.lst (xs ++ [y])))
theorem mt_append : MtM X "list.append" rAppend := by
  intro pins s σ H x vs v us Q I rx rv h
  obtain ⟨l, xs, y, rfl, rfl, hH, hz, q⟩ := h
  cases rx
  obtain ⟨u, rfl, ru⟩ := rv.one
  obtain ⟨z, its, n, r, hl, e⟩ := I.lstM hH
  refine call_meets F.slot_list_append ⟨_, e, rfl⟩ F.entry_list_append (F.args_list_append_2 _ _) (PySem.list_append l its.toArray n u (by rw [List.size_toArray]; omega)) ⟨e, ?_⟩
  refine ⟨.non, _, I.lset (its' := its ++ [u]) hH e (by simp) (r.append (.cons ru .nil)) ?_, rfl, q⟩
  rw [List.length_append, List.length_singleton]
  omega
end
section
variable {prog : Program} {w : World} {A : Around} {E : Value → Shared → Prop} {s : Shared}
end
section
variable {X : Cx}
end
end L2
namespace Att
open PySem PySem.W PySem.Calls PyProof.Rows
theorem ints_of_wellAll {P : Params} {h : Heap} : ∀ (ns : List Int) (vs : List Value), WellAll P h vs (ns.map WData.int) → IntsAre vs ns := by
  intro ns
  induction ns with
  | nil =>
    intro vs w
    rw [List.map_nil] at w
    cases w
    exact .nil
  | cons n ns ih =>
    intro vs w
    rw [List.map_cons] at w
    cases w with
    | cons a b =>
      cases a
      exact .cons _ _ (ih _ b)
theorem script_of {l : OpenLaw} {n : Nat} (hn : l.most = some n) {P : Params} {h : Heap} {args : List WData} {vals : List Value}
    (hpre : l.row.toRowW.claim.pre args = true) (hwl : WellAll P h vals args) :
    ∃ a vs ns, vals = [Value.ref a] ∧ args = [WData.list (ns.map WData.int)] ∧ h.get? a = some { cls := .type "list", data := .seq vs.toArray } ∧ IntsAre vs ns ∧ ns.length ≤ n := by
  have hsh : WShape.hasAll [] args [.list .int] = true := (pre_splitW hpre).1
  have hc : l.pre.holds [] { args := args } = true := (pre_splitW hpre).2
  obtain ⟨d, r, rfl, h1, h2⟩ := hasAllW_cons hsh
  obtain rfl := hasAllW_nil h2
  obtain ⟨xs, rfl, h3⟩ := hasW_list h1
  obtain ⟨ns, rfl⟩ := items_int h3
  have hlen : ns.length ≤ n := by
    unfold OpenLaw.pre at hc
    have h4 : (WTm.not (.lt (.lit (.int (n : Int))) (.len (.arg 0)))).holds [] { args := [.list (ns.map .int)] } = true := by
      have h4 := (holds_andW hc).1
      rw [hn] at h4
      exact h4
    have h5 := condW_of h4 (w_not (w_lt w_lit (w_len_list (w_arg rfl))))
    rw [List.length_map] at h5
    refine Nat.le_of_not_lt fun q => ?_
    have q' : (n : Int) < ((ns.length : Nat) : Int) := by omega
    first
      | (rw [decide_eq_true q'] at h5; exact absurd h5 (by decide))
      | (simp at h5; omega)
  cases hwl with
  | cons w1 w2 =>
    cases w2
    cases w1 with
    | list ho hall => exact ⟨_, _, ns, rfl, rfl, ho, ints_of_wellAll ns _ hall, hlen⟩
theorem post_true (l : OpenLaw) (args : List WData) : l.row.toRowW.claim.post args (.bool true) args = true :=
  postW_of (r := l.row.toRowW) (X := (true == true))
    (show WShape.has [] (.bool true) .bool = true by first | rfl | decide | simp [WShape.has, WShape.arms, WShape.armsAll])
    (show (WTm.eq .res (.lit (.bool true))).value [] { args := args, res := some (.bool true), after := args } = some (.bool (true == true)) from w_eq_bool (w_res rfl) w_lit) rfl
theorem attach_call {l : OpenLaw} {n : Nat} {q : Program} {loose : List Str} {XP : (Str → Option Value) → Heap → Prop} {YP : World → Heap → Prop} {d : DefRec}
    (hn : l.most = some n) (hdf : d.params.defaults = [])
    (call : ∀ (w : World) (s₀ s₁ : Shared) (mg mb : Str → Option Value) (fa : Addr) (o : Obj) (pm cd doc : Value) (a : Addr) (vs : List Value) (ns : List Int),
      Ground q loose [] XP w s₀ mg mb s₁.heap → YP w s₁.heap →
      s₁.heap.get? fa = some o → o.data = .func (docDef d.name d.params d.body d.scope pm cd doc) → s₁.heap.CodeRec cd d.name → mg d.name = some (.ref fa) →
      s₁.heap.get? a = some { cls := .type "list", data := .seq vs.toArray } → IntsAre vs ns → ns.length ≤ n → s₁.gens = #[] →
      codeAny (model l.prog w) callerA (.call (.ref fa) ⟨[.ref a], []⟩) (fun r s' => r = .ok (.ret (.bool true)) ∧ OldK s₁.heap s'.heap ∧ s'.os = s₁.os ∧ AllBare s'.gens) s₁) :
    WalkO q loose XP YP l.row.toRowW d [] (fun f vs => PySem.call f vs) := by
  intro w s₀ s₁ mg mb G Y fa o pm cd doc dV kV ho hd hcd hD hmg hg args vals as hpre hlay hrd hwl hlo
  obtain rfl : dV = .none := Dflts.none hD hdf
  obtain rfl : kV = .none := Dflts.noKw hD
  obtain ⟨a, vs, ns, rfl, rfl, hobj, hints, hlen⟩ := script_of hn hpre hwl
  refine enter_call (codeAny_mono (call w s₀ s₁ mg mb fa o pm cd doc a vs ns G Y ho (fd_plain hd) hcd hmg hobj hints hlen hg) fun r s' hq => ?_)
  obtain ⟨rfl, h2, h3, h4⟩ := hq
  exact ⟨.inl ⟨.bool true, .bool true, [], rfl, fun _ => rfl, .bool true, post_true l _, fun _ => ⟨List.Pairwise.nil, fun _ hm => (nomatch hm)⟩⟩, h2, h3, h4⟩
section
variable {prog : Program} {w : World} {A : Around} {E : Value → Shared → Prop} {s : Shared} {K : Frag}
end
end Att
namespace L2
open PySem PySem.Spec PyProof.Rows
theorem vals_ints : ∀ {vs : List Value} {ns : List Int}, IntsAre vs ns → Vals (ns.map V.int) vs
  | _, _, .nil => .nil
  | _, _, .cons n t h => .cons ⟨t, rfl⟩ (vals_ints h)
def SL (K : PySem.W.Frag) (H : Hp) (a : Addr) (xs : List V) : Prop :=
  Rd H a (.lst xs) ∨ ∃ (its : List Value) (n : Nat), K.lookup a = some { cls := .type "list", data := .seq its.toArray n } ∧ xs.length ≤ sizeLine ∧ Vals xs its
def Only (H : Hp) : Prop := ∀ b, H b = none ∨ ∃ o xs, H b = some (.frz o (.lst xs))
theorem law_call {P : Program} {w : World} {K : PySem.W.Frag} {mg mb : Str → Option Value} {CX : CXT} {k : Nat} {fa a : Addr} {fd : FuncData} {x : Str} {sp : Sp} {s₁ : Shared} {vs : List Value} {ns : List Int}
    (KX : K.In s₁.heap) (hns : s₁.heap.Ns mainGlobals mg) (hb : s₁.heap.Ns builtinsNs mb) (hbb : ∀ x : Str, x ≠ "__name__" → mb x = bootBuiltins x) (hlim : s₁.heap.NoLimit) (hg : s₁.gens = #[])
    (ha : s₁.heap.get? a = some { cls := .type "list", data := .seq vs.toArray }) (hi : IntsAre vs ns) (hl : ns.length ≤ sizeLine) (hr : Room k callerA)
    (F : ∀ base : Heap, K.In base → base.Ns mainGlobals mg → FnOk P w K mg base CX k fa fd [x] sp) (hbind : ∀ (s : Shared) (u : Value), BindsTo s fd ⟨[u], []⟩ [(x, u)])
    (hsp : ∀ H : Hp, Only H → SL K H a (ns.map V.int) → sp [.ref a] H (fun v _ => v = .bl true) fun _ _ _ => False)
    (hCX : ∀ H e s', CX [] H s₁ (fun _ _ _ => False) e s' → False) :
    codeAny (model P w) callerA (.call (.ref fa) ⟨[.ref a], []⟩) (fun r s' => r = .ok (.ret (.bool true)) ∧ OldK s₁.heap s'.heap ∧ s'.os = s₁.os ∧ AllBare s'.gens) s₁ := by
  have rv := vals_ints hi
  have lenV := hi.length
  -- from an abstract heap in which nothing but the script may be tracked
  have core : ∀ H : Hp, Only H → SL K H a (ns.map V.int) → HOk P w H s₁.heap → (∀ b, H b ≠ none → b = a) → (H a ≠ none → K.lookup a = none) →
      codeAny (model P w) callerA (.call (.ref fa) ⟨[.ref a], []⟩) (fun r s' => r = .ok (.ret (.bool true)) ∧ OldK s₁.heap s'.heap ∧ s'.os = s₁.os ∧ AllBare s'.gens) s₁ := by
    intro H hO hS hok hA hK
    have base_of : ∀ {b : Addr} {o : Obj}, s₁.heap.get? b = some o → H b = none → (hidT s₁.heap H).get? b = some o := fun e n => hidT_get e n
    have noA : ∀ {b : Addr} {o : Obj} {es : Array DictEntry} {ep : Nat}, s₁.heap.get? b = some o → o.data = .dict es ep → H b = none := fun {b o es ep} e d => by
      cases q : H b with
      | none => rfl
      | some u =>
        have e' : b = a := hA b (by rw [q]; simp)
        subst e'
        rw [ha] at e; cases e
        have d' : Data.seq vs.toArray _ = Data.dict es ep := d
        cases d'
    have nsK : ∀ {b : Addr} {m : Str → Option Value}, s₁.heap.Ns b m → (hidT s₁.heap H).Ns b m := fun {b m} ⟨o, es, ep, e, d, r⟩ => ⟨o, es, ep, base_of e (noA e d), d, r⟩
    have hKb : K.In (hidT s₁.heap H) := fun b o e => base_of (KX b o e) (by
      cases q : H b with
      | none => rfl
      | some u =>
        have e' : b = a := hA b (by rw [q]; simp)
        subst e'
        rw [hK (by rw [q]; simp)] at e; cases e)
    have hM : Mod K mg (hidT s₁.heap H) := ⟨hKb, nsK hns, ⟨mb, nsK hb, hbb⟩, let ⟨mc, h1, h2⟩ := hlim; ⟨mc, nsK h1, h2⟩⟩
    have e0 : Env0 P w K mg (hidT s₁.heap H) callerA [] s₁ H := ⟨rfl, hM, fun b o e => of_hidT e, Nat.le_of_eq (hidT_size _ _), trivial, fun b hb => absurd (show b ∈ ([] : List Addr) from hb) (by simp), hok, .of_eq hg⟩
    refine codeAny_mono ((F _ hKb (nsK hns)).run callerA [] s₁ H ⟨[.ref a], []⟩ [.ref a] [.ref a] _ _ hr e0 (hbind s₁ (.ref a)) (.cons rfl .nil) (hsp H hO hS)) fun r s' h => ?_
    cases r with
    | error e => exact (hCX H e s' h).elim
    | ok fl =>
      cases fl with
      | next => exact False.elim h
      | brk => exact False.elim h
      | cont => exact False.elim h
      | ret u =>
        obtain ⟨v, H', os, bare, un, hok', r', q⟩ := h
        have q' : v = .bl true := q
        subst q'
        obtain rfl : u = Value.bool true := r'
        refine ⟨rfl, OldK.of_keep fun b o e => ?_, os, bare⟩
        cases q : H b with
        | none => exact un.keep b o e q (by intro z; exact absurd (show b ∈ ([] : List Addr) from z) (by simp)) (by simp)
        | some u =>
          rcases hO b with z | ⟨ob, xs, z⟩
          · rw [q] at z; cases z
          · have z2 := un.frzs b ob _ z
            obtain ⟨e1, _⟩ := hok b _ z
            obtain ⟨e2, _⟩ := hok' b _ z2
            rw [e] at e1; cases e1
            exact e2
  cases hk : K.lookup a with
  | some o =>
    -- the script is one of the module's own objects
    have e := KX a o hk
    rw [ha] at e
    cases e
    refine core (fun _ => none) (fun _ => .inl rfl) (.inr ⟨vs, _, hk, by rw [List.length_map]; exact hl, rv⟩) (fun b u z => by have z' : (none : Option HO) = some u := z; cases z') (fun b z => absurd rfl z) fun z => absurd rfl z
  | none =>
    refine core (fun b => if b = a then some (.frz { cls := .type "list", data := .seq vs.toArray } (.lst (ns.map V.int))) else none) (fun b => ?_) (.inl (.inr ⟨{ cls := .type "list", data := .seq vs.toArray }, if_pos rfl⟩)) (fun b u z => ?_) (fun b z => ?_) fun _ => hk
    · by_cases hb : b = a
      · exact .inr ⟨_, _, if_pos hb⟩
      · exact .inl (if_neg hb)
    · by_cases hb : b = a
      · have z' := (if_pos hb).symm.trans z
        cases z'
        subst hb
        exact ⟨ha, by rw [List.length_map]; exact hl, vs, _, rv, ha⟩
      · have z' := (if_neg hb).symm.trans z
        cases z'
    · by_cases hb : b = a
      · exact hb
      · exact absurd (if_neg hb) z
end L2
namespace L2
open PySem PySem.Spec PyProof.Rows
theorem walk_of {l : PySem.W.OpenLaw} {n k : Nat} {q : Program} {loose : List Str} {XP : (Str → Option Value) → Heap → Prop} {YP : World → Heap → Prop} {d : DefRec} {K : Params → PySem.W.Frag} {CX : World → CXT} {sp : World → Sp} {x : Str}
    (hn : l.most = some n) (hn2 : n ≤ sizeLine) (hdf : d.params.defaults = []) (hr : Room k callerA)
    (hY : ∀ (w : World) (h : Heap), YP w h → (K w.params).In h)
    (F : ∀ (w : World) (mg : Str → Option Value) (fa : Addr) (h : Heap), (K w.params).In h → h.Ns mainGlobals mg → mg d.name = some (.ref fa) →
      ∃ fd : FuncData, (∀ (s : Shared) (u : Value), BindsTo s fd ⟨[u], []⟩ [(x, u)]) ∧
        ∀ base : Heap, (K w.params).In base → base.Ns mainGlobals mg → FnOk l.prog w (K w.params) mg base (CX w) k fa fd [x] (sp w))
    (hsp : ∀ (w : World) (H : Hp) (a : Addr) (ns : List Int), ns.length ≤ n → Only H → SL (K w.params) H a (ns.map V.int) → sp w [.ref a] H (fun v _ => v = .bl true) fun _ _ _ => False)
    (hCX : ∀ (w : World) (H : Hp) (s : Shared) (e : Value) (s' : Shared), CX w [] H s (fun _ _ _ => False) e s' → False) :
    PySem.W.WalkO q loose XP YP l.row.toRowW d [] (fun f vs => PySem.call f vs) := by
  refine Att.attach_call hn hdf fun w s₀ s₁ mg mb fa o pm cd doc a vs ns G Y ho hd hcd hmg hobj hints hlen hg => ?_
  have KX := hY w _ Y
  obtain ⟨fd, hb, hF⟩ := F w mg fa _ KX G.T.g hmg
  exact law_call KX G.T.g G.T.b G.T.builtins G.T.nolimit hg hobj hints (Nat.le_trans hlen hn2) hr hF hb (fun H hO hS => hsp w H a ns hlen hO hS) fun H e s' => hCX w H s₁ e s'
end L2
namespace L2
open PySem PySem.Spec PyProof.Rows
def defArgs (s : Stmt) : Arguments := match s with
  | .FunctionDef _ a _ _ _ _ _ _ _ _ => a
  | _ => { posonlyargs := [], args := [], vararg := none, kwonlyargs := [], kw_defaults := [], kwarg := none, defaults := [] }
def defBody (s : Stmt) : List Stmt := match s with
  | .FunctionDef _ _ b _ _ _ _ _ _ _ => b
  | _ => []
def defScope (s : Stmt) : Scope := match s with
  | .FunctionDef _ _ _ _ _ _ sc _ _ _ => sc
  | _ => { kind := .function, names := [], isGenerator := false, isCoroutine := false }
abbrev CX0 : CXT := fun _ _ _ _ _ _ => False
abbrev E0 : XK := fun _ _ _ => False
theorem pass0 {X : Cx} : Passes CX0 X E0 := fun _ _ _ _ _ _ _ h => h.elim
structure Fun (K : PySem.W.Frag) (x qual : Str) (st : Stmt) (f : Addr) (fd : FuncData) : Prop where
  ex : ∃ (oc : Value) (od : Option Addr) (kV doc pm : Value) (an : Option Addr) (cdv ct : Value) (osl : Array (Option Value)),
    fd = PySem.W.fnOf x qual (defArgs st) (defBody st) (defScope st) .none kV doc pm an cdv ct ∧ K.lookup f = some ⟨oc, od, .func fd, osl⟩ ∧ PySem.W.codeIn K cdv qual = true
  kp : PySem.W.keepIn K (.ref f) = true
section
variable {P : Program} {w : World} {K : PySem.W.Frag} {mg : Str → Option Value} {base : Heap}
theorem Fun.ok {x qual : Str} {st : Stmt} {f : Addr} {fd : FuncData} {N ps : List Str} {k : Nat} {sp : Sp} (F : Fun K x qual st f fd) (S : FnScope N ps (defScope st)) (len : ∀ vs H Q E, sp vs H Q E → vs.length = ps.length)
    (hbody : ∀ (cdv : Value) (A : Around) (outer : List Env) (s : Shared) (H : Hp) (vs : List V) (Q : VK) (E : XK), Room k (A.deeper (envOfC qual (defScope st) s.heap.objs.size f cdv)) → sp vs H Q E →
      ∃ t, PSs (cxOf CX0 P w K mg base N qual (defScope st) f cdv A outer s H E).nox (defBody st) t ∧ t { nx := fun _ H' => Q .non H', rt := Q } (start N vs) H) : FnOk P w K mg base CX0 (k + 1) f fd ps sp := by
  obtain ⟨oc, od, kV, doc, pm, an, cdv, ct, osl, rfl, lk, hcd⟩ := F.ex
  refine fn_of lk hcd S len fun A outer s H vs Q E hr hsp => ?_
  obtain ⟨t, h, q⟩ := hbody cdv A outer s H vs Q E hr hsp
  exact ⟨t, h.nox, q⟩
theorem Fun.binds {x qual : Str} {st : Stmt} {f : Addr} {fd : FuncData} {ps : List Str} (F : Fun K x qual st f fd)
    (h : ∀ (kV doc pm : Value) (an : Option Addr) (cdv ct : Value) (us : List Value), us.length = ps.length → bindArgs (PySem.W.fnOf x qual (defArgs st) (defBody st) (defScope st) .none kV doc pm an cdv ct) ⟨us, []⟩ = pure (ps.zip us)) : Binds K fd ps [] := by
  obtain ⟨oc, od, kV, doc, pm, an, cdv, ct, osl, rfl, lk, hcd⟩ := F.ex
  exact .all (h kV doc pm an cdv ct)
theorem fun_mk {x qual : Str} {st : Stmt} {f : Addr} {oc : Value} {od an : Option Addr} {osl : Array (Option Value)} {kV doc pm cdv ct : Value} (l : K.lookup f = some ⟨oc, od, .func (PySem.W.fnOf x qual (defArgs st) (defBody st) (defScope st) .none kV doc pm an cdv ct), osl⟩)
    (c : PySem.W.codeIn K cdv qual = true) (k : PySem.W.keepIn K (.ref f) = true) : Fun K x qual st f (PySem.W.fnOf x qual (defArgs st) (defBody st) (defScope st) .none kV doc pm an cdv ct) := ⟨⟨oc, od, kV, doc, pm, an, cdv, ct, osl, rfl, l, c⟩, k⟩
end
theorem small1000 {n : Nat} (h : n ≤ 1000) : n < sizeLine := Nat.lt_of_le_of_lt h (by decide)
section
variable {X : Cx}
end
theorem iteF {A B : Prop} (h : B) : if false = true then A else B := by
  rw [if_neg Bool.false_ne_true]
  exact h
theorem iteT {A B : Prop} (h : A) : if true = true then A else B := by
  rw [if_pos rfl]
  exact h
def Same (H H' : Hp) : Prop := ∀ b o, H b = some o → H' b = some o
theorem Same.refl (H : Hp) : Same H H := fun _ _ h => h
theorem Same.trans {H H1 H2 : Hp} (a : Same H H1) (b : Same H1 H2) : Same H H2 := fun c o h => b c o (a c o h)
theorem Same.free {H H' : Hp} (e : Same H H') {l : Addr} (h : H' l = Option.none) : H l = Option.none := by
  cases q : H l with
  | none => rfl
  | some o =>
    rw [e l o q] at h
    cases h
theorem Same.seq {K : PySem.W.Frag} {H H' : Hp} {a : Addr} {xs : List V} (e : Same H H') (h : SqL K H a xs) : SqL K H' a xs := by
  rcases h with (h | ⟨o, h⟩) | h
  · exact .inl (.inl (e _ _ h))
  · exact .inl (.inr ⟨o, e _ _ h⟩)
  · exact .inr h
end L2
set_option Elab.async false
set_option linter.all false
set_option maxRecDepth 100000
namespace L2
open PySem PySem.Spec PyProof.Rows
theorem compLoop_go {prog : Program} {w : World} {A : Around} {R : Result → Shared → Prop} {s : Shared} {elt target iter : Expr} {ifs : List Expr} {scope : Scope} {pos : Pos} {it acc : Value} {env : Env} (I : Nat → Shared → Prop)
    (turn : ∀ n s, I n s → wpAny (model prog w) A (pyNext it) (fun r s₁ => match r with
      | none => R (.ok .next) s₁
      | some v => wpAny (model prog w) A (letOwnedTupleGo target it v) (fun _ s₁' => wpAny (model prog w) A (assign target env v) (fun _ s₂ =>
          wpAny (model prog w) A (forIn ifs true fun c r => if r = true then do let ok ← isTrue c env (eval c env); pure (ForInStep.yield ok) else pure (ForInStep.yield r)) (fun ok s₃ =>
            if ok = true then wpAny (model prog w) A (eval elt env) (fun x s₄ =>
              wpAny (model prog w) A (call (.builtin "list.append") [acc, x]) (fun _ s₅ => ∃ m, m < n ∧ I m s₅) (fun _ _ => False) s₄) (fun _ _ => False) s₃
            else ∃ m, m < n ∧ I m s₃) (fun _ _ => False) s₂) (fun _ _ => False) s₁') (fun _ _ => False) s₁) (fun _ _ => False) s)
    (n : Nat) (h : I n s) :
    codeAny (model prog w) A (.compLoop (.ListComp elt [⟨target, iter, ifs, 0⟩] scope pos) 0 it acc env) R s := by
  refine codeAny_loop rfl I (fun n s hI => ?_) n h
  show wpAny _ A ((compTurn (.ListComp elt [⟨target, iter, ifs, 0⟩] scope pos) 0 it acc env).onRaise (fun x => do noteFrame x env; theTreesLotGoes x)) _ _ s
  refine wpAny_noted ?_
  rw [compTurn_list]
  refine wpAny_bind (wpAny_standAt (wpAny_bind (wpAny_mono (turn n s hI) (fun r s₁ h₁ => ?_) fun _ _ h' => h'.elim)))
  cases r with
  | none => exact wpAny_pure h₁
  | some v =>
    refine wpAny_bind (wpAny_mono h₁ (fun _ s₁' h₁' => ?_) fun _ _ h' => h'.elim)
    refine wpAny_bind (wpAny_mono h₁' (fun _ s₂ h₂ => wpAny_bind (wpAny_mono h₂ (fun ok s₃ h₃ => ?_) fun _ _ h' => h'.elim)) fun _ _ h' => h'.elim)
    cases ok with
    | false => exact wpAny_pure ⟨rfl, h₃⟩
    | true =>
      exact wpAny_bind (wpAny_bind (wpAny_mono h₃ (fun x s₄ h₄ => wpAny_bind (wpAny_mono h₄ (fun _ s₅ h₅ => wpAny_pure (wpAny_pure ⟨rfl, h₅⟩)) fun _ _ h' => h'.elim)) fun _ _ h' => h'.elim))
def clOf (cells : List (Str × Addr)) : List (Str × NameKind) → List (Str × Addr) → List (Str × Addr)
  | [], acc => acc
  | (n, k) :: r, acc => clOf cells r (if k == .free then (n, (cells.lookup n).getD 0) :: acc else acc)
theorem closure_ok {sc : Scope} {env : Env} (h : ∀ y ∈ sc.names, y.2 = .free → ∃ c, env.cells.lookup y.1 = some c) : closureFor sc env = pure (clOf env.cells sc.names []) := by
  unfold closureFor
  generalize ([] : List (Str × Addr)) = acc
  generalize hl : sc.names = names at h
  clear hl
  induction names generalizing acc with
  | nil => rfl
  | cons y r ih =>
    obtain ⟨n, k⟩ := y
    have ih' := fun acc => ih acc fun y hy => h y (List.mem_cons_of_mem _ hy)
    dsimp only at ih' ⊢
    rw [List.forIn_cons]
    by_cases hk : k = .free
    · subst hk
      obtain ⟨c, hc⟩ := h (n, .free) List.mem_cons_self rfl
      simp only [cellOf, hc, beq_self_eq_true, if_true, pure_bind, clOf, Option.getD_some]
      exact ih' _
    · have hb : (k == NameKind.free) = false := by simpa using hk
      simp only [hb, Bool.false_eq_true, if_false, pure_bind, clOf]
      exact ih' _
theorem lookup_clOf {cells : List (Str × Addr)} : ∀ (names : List (Str × NameKind)) (acc : List (Str × Addr)), (∀ y ∈ names, y.2 = .free → ∃ c, cells.lookup y.1 = some c) → (∀ x c, acc.lookup x = some c → cells.lookup x = some c) →
    ∀ x c, (clOf cells names acc).lookup x = some c → cells.lookup x = some c
  | [], _, _, ha, x, c, e => ha x c e
  | (n, k) :: r, acc, h, ha, x, c, e => by
    unfold clOf at e
    refine lookup_clOf r _ (fun y hy => h y (List.mem_cons_of_mem _ hy)) (fun x' c' e' => ?_) x c e
    split at e'
    · rename_i hk
      have hk' : k = .free := by simpa using hk
      obtain ⟨c0, hc0⟩ := h (n, k) List.mem_cons_self hk'
      simp only at hc0
      rw [List.lookup_cons] at e'
      split at e'
      · rename_i hx
        have hx' : x' = n := by simpa using hx
        subst hx'
        rw [hc0] at e'
        simp at e'
        rw [hc0, e']
      · exact ha x' c' e'
    · exact ha x' c' e'
theorem clOf_has {cells : List (Str × Addr)} : ∀ (names : List (Str × NameKind)) (acc : List (Str × Addr)) (x : Str), ((x, NameKind.free) ∈ names ∨ (acc.lookup x).isSome = true) → ((clOf cells names acc).lookup x).isSome = true
  | [], acc, x, h => by
    rcases h with h | h
    · simp at h
    · exact h
  | (n, k) :: r, acc, x, h => by
    unfold clOf
    refine clOf_has r _ x ?_
    rcases h with h | h
    · rcases List.mem_cons.mp h with e | h
      · cases e
        right
        simp
      · exact .inl h
    · right
      split
      · rw [List.lookup_cons]
        split
        · rfl
        · exact h
      · exact h
def compCx (X : Cx) (sc : Scope) (N : List Str) (C : Addr) (s : Shared) (H : Hp) (fp : List Addr) : Cx :=
  { X with N := N, s₀ := s, H₀ := H, env := compEnvC sc (clOf X.env.cells sc.names []) C X.env, outer := X.stack, ex := fp, fn := fun _ => false, pn := [], xe := fun _ _ => False }
def compB (psc sc : Scope) (NX N : List Str) (fs : List (Option Nat)) : Bool :=
  N.length == fs.length && (N.zip fs).all (fun p => match p.2 with | none => true | some j => NX[j]? == some p.1 && sc.names.lookup p.1 == some .free) &&
  sc.names.all (fun y => y.2 != .cell && (y.2 != .free || (psc.names.lookup y.1 == some .cell || psc.names.lookup y.1 == some .free)) && (y.2 != .local || sc.names.lookup y.1 == some .local)) && sc.kind == .function
structure CompOk (psc sc : Scope) (NX N : List Str) (fs : List (Option Nat)) : Prop where
  len : N.length = fs.length
  frees : ∀ (i j : Nat), fs[i]? = some (some j) → ∃ x, N[i]? = some x ∧ NX[j]? = some x ∧ sc.names.lookup x = some .free
  nocell : ∀ y ∈ sc.names, y.2 ≠ .cell
  par : ∀ y ∈ sc.names, y.2 = .free → psc.names.lookup y.1 = some .cell ∨ psc.names.lookup y.1 = some .free
  loc : ∀ y ∈ sc.names, y.2 = .local → sc.names.lookup y.1 = some .local
  kind : sc.kind = .function
theorem CompOk.of {psc sc : Scope} {NX N : List Str} {fs : List (Option Nat)} (h : compB psc sc NX N fs = true) : CompOk psc sc NX N fs := by
  unfold compB at h
  simp only [Bool.and_eq_true, beq_iff_eq, List.all_eq_true, bne_iff_ne, ne_eq, Bool.or_eq_true] at h
  obtain ⟨⟨⟨h1, h2⟩, h3⟩, h4⟩ := h
  refine ⟨h1, fun i j e => ?_, fun y hy => (h3 y hy).1.1, fun y hy e => ?_, fun y hy e => ?_, h4⟩
  · have hi : i < fs.length := (List.getElem?_eq_some_iff.mp e).1
    have hN : i < N.length := by omega
    have hz : (N.zip fs)[i]? = some (N[i], some j) := by
      rw [List.getElem?_zip_eq_some]
      exact ⟨by simp [hN], e⟩
    have := h2 _ (List.mem_of_getElem? hz)
    simp only [Bool.and_eq_true, beq_iff_eq] at this
    exact ⟨N[i], by simp [hN], this.1, this.2⟩
  · rcases (h3 y hy).1.2 with z | z
    · exact absurd e z
    · exact z
  · rcases (h3 y hy).2 with z | z
    · exact absurd e z
    · exact z
theorem relabel_kinds {sc : Scope} {env : Env} {x : Str} {k : NameKind} (nc : ∀ y ∈ sc.names, y.2 ≠ .cell) (h : (relabel sc env).names.lookup x = some k) (hk : k = .cell ∨ k = .free) : (x, NameKind.free) ∈ sc.names := by
  have hm := PySem.mem_of_lookup h
  unfold relabel at hm
  simp only [List.mem_map] at hm
  obtain ⟨⟨n, k'⟩, hy, e⟩ := hm
  dsimp only at e
  split at e
  · rename_i hc
    simp only [Bool.and_eq_true, beq_iff_eq] at hc
    cases e
    rw [hc.1.1] at hy
    exact hy
  · cases e
    rcases hk with z | z
    · exact absurd z (nc _ hy)
    · rw [z] at hy; exact hy
theorem relabel_free {sc : Scope} {env : Env} {x : Str} (h : sc.names.lookup x = some .free) : (relabel sc env).names.lookup x = some .cell ∨ (relabel sc env).names.lookup x = some .free := by
  unfold relabel
  dsimp only
  generalize sc.names = names at h
  induction names with
  | nil => simp at h
  | cons y r ih =>
    obtain ⟨n, k⟩ := y
    rw [List.lookup_cons] at h
    rw [List.map_cons]
    split at h
    · rename_i hx
      cases h
      have : x = n := by simpa using hx
      subst this
      dsimp only
      split
      · left; rw [List.lookup_cons]; simp
      · right; rw [List.lookup_cons]; simp
    · rename_i hx
      dsimp only
      split
      · rw [List.lookup_cons, hx]; exact ih h
      · rw [List.lookup_cons, hx]; exact ih h
end L2
set_option Elab.async false
set_option linter.all false
set_option maxRecDepth 100000
namespace L2
open PySem PySem.Spec PyProof.Rows
section
variable {X : Cx} {pins : List (Addr × Obj)} {σ : St} {H : Hp} {s : Shared} {sc psc : Scope} {N : List Str} {fs : List (Option Nat)} {C : Addr} {fp : List Addr}
theorem comp_cells (I : Inv X pins σ H s) (hp : X.env.scope = psc) (S : CompOk psc sc X.N N fs) : ∀ y ∈ sc.names, y.2 = .free → ∃ c, X.env.cells.lookup y.1 = some c := fun y hy e => by
  refine I.ok.has y.1 ?_
  have := S.par y hy e
  rw [← hp] at this
  exact this
theorem comp_cl (I : Inv X pins σ H s) (hp : X.env.scope = psc) (S : CompOk psc sc X.N N fs) : ∀ x c, (clOf X.env.cells sc.names []).lookup x = some c → X.env.cells.lookup x = some c :=
  lookup_clOf sc.names [] (comp_cells I hp S) fun x c e => by simp at e
theorem compCx_ok (I : Inv X pins σ H s) (hp : X.env.scope = psc) (S : CompOk psc sc X.N N fs) (hf : ∀ b ∈ fp, FpOk X pins H b) (hfl : ∀ b ∈ fp, b < s.heap.objs.size) (hC : s.heap.objs.size ≤ C) : (compCx X sc N C s H fp).Ok where
  mod := I.ok.mod
  kind := S.kind
  glob := I.ok.glob
  blt := I.ok.blt
  above := hC
  inj := fun x y c h1 h2 => I.ok.inj x y c (comp_cl I hp S x c h1) (comp_cl I hp S y c h2)
  has := fun x hx => by
    have hm : (x, NameKind.free) ∈ sc.names := by
      rcases hx with hx | hx
      · exact relabel_kinds S.nocell hx (.inl rfl)
      · exact relabel_kinds S.nocell hx (.inr rfl)
    exact Option.isSome_iff_exists.mp (clOf_has sc.names [] x (.inl hm))
  cab := fun x c h _ => by cases h
  hd := I.ok.hd
  frames := I.ok.frames
  stk := .inl rfl
  exf := fun b hb => ⟨Nat.ne_of_lt (Nat.lt_of_lt_of_le (hfl b hb) hC), fun x c e => (hf b hb).2.2.2.2.1 x c (comp_cl I hp S x c e)⟩
  bs := I.bs
  bsz := Nat.le_trans I.ok.bsz I.sz
  noex := fun b o e hb => by
    rcases (hf b hb).2.2.2.1 with z | z
    · exact I.ok.noex b o e z
    · exact absurd (Nat.lt_of_lt_of_le (Heap.lt_size e) (Nat.le_trans I.ok.bsz z)) (Nat.lt_irrefl _)
  exfs := fun b hb hs => by
    rcases List.mem_cons.mp (I.stkSub b hs) with z | z
    · exact (hf b hb).2.1 z
    · exact (hf b hb).2.2.1 z
  funs := I.stack
  frf := I.stkFree
def inner (fs : List (Option Nat)) (σ : St) : St := fs.map fun o => match o with | none => none | some j => (σ[j]?).getD none
theorem comp_start {h₁ : Heap} {tk : Nat} {D : Addr} {oD : Obj} {m₁ : Str → Option Value} (I : Inv X pins σ H s) (hp : X.env.scope = psc) (S : CompOk psc sc X.N N fs) (hf : ∀ b ∈ fp, FpOk X pins H b) (hfl : ∀ b ∈ fp, b < s.heap.objs.size) (hC : s.heap.objs.size ≤ C)
    (old : ∀ b o, s.heap.get? b = some o → h₁.get? b = some o) (hn : h₁.Ns C m₁) (hD : h₁.get? D = some oD) (hDs : s.heap.objs.size ≤ D) (hDC : D ≠ C) (hDd : ∀ v, oD.data ≠ .cell v) :
    Inv (compCx X sc N C s H fp) [(D, oD)] (inner fs σ) H { s with heap := h₁, toks := tk } := by
  refine ⟨compCx_ok I hp S hf hfl hC, rfl, I.bare, Un.kept old, ⟨m₁, hn, fun i x v e1 e2 e3 => ?_⟩, fun x c e => ?_, I.hok.fresh hC, fun x c e => I.freeC x c (comp_cl I hp S x c e), fun p hpn => ?_, I.hok.kept old, ?_⟩
  · unfold inner at e2
    rw [List.getElem?_map] at e2
    cases hfi : fs[i]? with
    | none => rw [hfi] at e2; cases e2
    | some o =>
      rw [hfi] at e2
      cases o with
      | none => simp at e2
      | some j =>
        simp only [Option.map_some, Option.some.injEq] at e2
        obtain ⟨x', ex, ej, el⟩ := S.frees i j hfi
        have : x' = x := by
          have q : N[i]? = some x := e1
          rw [ex] at q; exact Option.some.inj q
        subst this
        have ev : σ[j]? = some (some v) := by
          cases q : σ[j]? with
          | none => rw [q] at e2; simp at e2
          | some z => rw [q] at e2; simp at e2; rw [e2]
        have kk : X.env.scope.names.lookup x' = some .cell ∨ X.env.scope.names.lookup x' = some .free := by
          rw [hp]; exact S.par (x', .free) (PySem.mem_of_lookup el) rfl
        obtain ⟨m, hm, hl⟩ := I.loc
        obtain ⟨u, r, l⟩ := hl j x' v ej ev (by
          rcases kk with k | k
          · exact .inr (.inl k)
          · exact .inr (.inr k))
        refine ⟨u, r, .inr ⟨relabel_free el, ?_⟩⟩
        rcases l with ⟨k, _⟩ | ⟨_, c, hc, hcell⟩
        · have k' : X.env.scope.names.lookup x' = some .local := k
          rcases kk with z | z <;> rw [z] at k' <;> cases k'
        · obtain ⟨c', hc'⟩ := Option.isSome_iff_exists.mp (clOf_has (cells := X.env.cells) sc.names [] x' (.inl (PySem.mem_of_lookup el)))
          have := comp_cl I hp S x' c' hc'
          rw [hc] at this
          cases this
          obtain ⟨oc, ho, hd⟩ := hcell
          exact ⟨c, hc', oc, old _ _ ho, hd⟩
  · obtain ⟨v, oc, ho, hd⟩ := I.cell x c (comp_cl I hp S x c e)
    exact ⟨v, oc, old _ _ ho, hd⟩
  · have hpn' : p = (D, oD) := by
      rcases List.mem_append.mp hpn with z | z
      · exact absurd (show p ∈ ([] : List (Addr × Obj)) from z) (by simp)
      · simpa using z
    subst hpn'
    refine ⟨hD, I.hok.fresh hDs, hDC, fun hs => ?_, hDd⟩
    have hb : D ∈ X.env.locals :: X.fs := I.stkSub D hs
    rcases List.mem_cons.mp hb with z | z
    · exact absurd (Nat.lt_of_lt_of_le I.lt (by rw [← z]; exact hDs)) (Nat.lt_irrefl _)
    · exact I.nofs hDs z
  · show (inner fs σ).length = N.length
    unfold inner
    rw [List.length_map, S.len]
theorem HOk.adopt {P : Program} {w : World} {H : Hp} {h : Heap} {D : Addr} {ys : List V} {its : List Value} {n : Nat} (ok : HOk P w H h) (hD : H D = none) (ho : h.get? D = some { cls := .type "list", data := .seq its.toArray n }) (r : Vals ys its) (hz : ys.length ≤ sizeLine) :
    HOk P w (upd H D (.lst ys)) h := fun b u e => by
  by_cases hb : b = D
  · subst hb
    rw [upd_same] at e
    cases e
    exact ⟨hz, its, n, r, ho⟩
  · rw [upd_ne hb] at e
    refine (ok b u e).stay (fun c v _ q => q) (fun c q => ?_) fun c xs q => ?_
    · rw [upd_ne (ne_of_none q hD)]; exact q
    · rw [upd_ne (ne_of_none q hD)]; exact q
theorem Un.adopt {fs ex : List Addr} {H H' : Hp} {h h' : Heap} {D : Addr} {o : HO} (u : Un fs ex H H' h h') (hD : h.objs.size ≤ D) (hn : H' D = none) : Un fs ex H (upd H' D o) h h' where
  keep := u.keep
  slot := u.slot
  free := fun b ob q n hx => by rw [upd_ne (Nat.ne_of_lt (Nat.lt_of_lt_of_le (Heap.lt_size q) hD))]; exact u.free b ob q n hx
  there := u.there
  tups := fun b xs q => by rw [upd_ne (ne_of_none (u.tups b xs q) hn)]; exact u.tups b xs q
  frzs := fun b ob x q => by rw [upd_ne (ne_of_none (u.frzs b ob x q) hn)]; exact u.frzs b ob x q
  tbls := fun b ps q => by
    obtain ⟨more, e⟩ := u.tbls b ps q
    exact ⟨more, by rw [upd_ne (ne_of_none e hn)]; exact e⟩
def PIf (Y : Cx) (ifs : List Expr) (tt : TT) : Prop :=
  ∀ (pins : List (Addr × Obj)) (s : Shared) (σ : St) (H : Hp) (Q : Bool → Hp → Prop), Inv Y pins σ H s → tt σ H Q →
    wpAny (model Y.prog Y.w) Y.A (forIn ifs true fun c r => if r = true then do let ok ← isTrue c Y.env (eval c Y.env); pure (ForInStep.yield ok) else pure (ForInStep.yield r)) (TP Y pins σ Q) Y.xe s
def tYes : TT := fun _ H Q => Q true H
theorem pif_nil {Y : Cx} : PIf Y [] tYes := fun _ _ _ H _ I h => wpAny_tests_nil ⟨H, I, h⟩
theorem pif_one {Y : Cx} {c : Expr} {tc : TT} (h : PT Y c tc) : PIf Y [c] tc := fun pins s σ H Q I q => wpAny_tests_one (h pins s σ H Q I q)
def Ext (σ σ2 : St) : Prop := σ.length = σ2.length ∧ ∀ (i : Nat) v, σ[i]? = some (some v) → σ2[i]? = some (some v)
def tComp (wi : TI) (fs : List (Option Nat)) (g : TG) (tt : TT) (te : TE) : TE := fun σ H Q => wi σ H fun J H1 => ∃ W : Nat → Nat → List V → Hp → Prop, (∃ m, W 0 m [] H1) ∧ ∀ i m ys H, W i m ys H →
  (J.stop i H ∧ ys.length ≤ sizeLine ∧ ∀ p, H p = none → Q (.ref p) (upd H p (.lst ys))) ∨
  (J.go i H ∧ ys.length ≤ sizeLine ∧ ∃ N : List V → Hp → Prop, (∀ ys' H', N ys' H' → ∃ m', m' < m ∧ W (i + 1) m' ys' H') ∧ ∀ x H', J.yld i H x H' → g x (inner fs σ) H' fun σ2 H2 => Ext (inner fs σ) σ2 ∧
    tt σ2 H2 fun b H3 => if b = true then te σ2 H3 fun v H4 => N (ys ++ [v]) H4 else N ys H3)
theorem block_go {elt tg iter : Expr} {ifs : List Expr} {pos : Pos} {it : Addr} {tn : Nat → Heap → Prop} {J : It} {g : TG} {tt : TT} {te : TE} {E : Value → Shared → Prop} {RR : Value → Addr → Result → Shared → Prop}
    (hp : X.env.scope = psc) (S : CompOk psc sc X.N N fs) (hc : X.calm = true)
    (hb : ∀ (C : Addr) (s : Shared) (H : Hp) (fp : List Addr), PG (compCx X sc N C s H fp) tg g ∧ PIf (compCx X sc N C s H fp) ifs tt ∧ PE (compCx X sc N C s H fp) elt te)
    (I : Inv X pins σ H s) (T : Turn X.prog X.w X.K tg J fp it tn) (st : tn 0 s.heap) (hf : ∀ b ∈ fp, FpOk X pins H b) {Q : VK}
    (hW : ∃ W : Nat → Nat → List V → Hp → Prop, (∃ m, W 0 m [] H) ∧ ∀ i m ys H, W i m ys H →
      (J.stop i H ∧ ys.length ≤ sizeLine ∧ ∀ p, H p = none → Q (.ref p) (upd H p (.lst ys))) ∨
      (J.go i H ∧ ys.length ≤ sizeLine ∧ ∃ N : List V → Hp → Prop, (∀ ys' H', N ys' H' → ∃ m', m' < m ∧ W (i + 1) m' ys' H') ∧ ∀ x H', J.yld i H x H' → g x (inner fs σ) H' fun σ2 H2 => Ext (inner fs σ) σ2 ∧
        tt σ2 H2 fun b H3 => if b = true then te σ2 H3 fun v H4 => N (ys ++ [v]) H4 else N ys H3))
    (hRR : ∀ (D C : Addr) (s' : Shared) (H' : Hp), (∃ m, s'.heap.Ns C m) → Inv X pins σ H' s' → FpOk X pins H' C → Q (.ref D) H' → RR (.ref D) C (.ok .next) s') :
    wpAny (model X.prog X.w) X.A (newList []) (fun acc s₃ => wpAny (model X.prog X.w) X.A (newFunctionEnv sc X.env.globals (clOf X.env.cells sc.names []) [] X.env.qual none .none (some X.env)) (fun cenv s₄ =>
      codeAny (model X.prog X.w) X.A (.compStart (.ListComp elt [⟨tg, iter, ifs, 0⟩] sc pos) 0 (.ref it) acc { cenv with scope := relabel sc X.env }) (RR acc cenv.locals) s₄) E s₃) E s := by
  refine wpAny_newObj_type (wpAny_newFunctionEnv S.nocell (by intro y hy; simp at hy) (fun h₁ hns₁ hsb₁ => ?_) S.kind)
  dsimp only at hns₁ hsb₁ ⊢
  generalize hH2 : s.heap.push { cls := .type "list", dict := none, data := .seq ([] : List Value).toArray } = G2 at hns₁ hsb₁ ⊢
  have hC : G2.objs.size = s.heap.objs.size + 1 := by rw [← hH2, Heap.size_push]
  have hDC : s.heap.objs.size ≠ G2.objs.size := by rw [hC]; exact Nat.ne_of_lt (Nat.lt_succ_self _)
  have hCle : s.heap.objs.size ≤ G2.objs.size := by rw [hC]; exact Nat.le_succ _
  have below : ∀ b, b < s.heap.objs.size → b ≠ G2.objs.size ∧ b ≠ s.heap.objs.size := fun b hb => ⟨by rw [hC]; exact Nat.ne_of_lt (Nat.lt_succ_of_lt hb), Nat.ne_of_lt hb⟩
  have hfl : ∀ b ∈ fp, b < s.heap.objs.size := fun b hb => by
    obtain ⟨o, e, _⟩ := T.obj _ _ st b hb
    exact Heap.lt_size e
  have old : ∀ b o, s.heap.get? b = some o → h₁.get? b = some o := fun b o e => hsb₁.extBut b o (below b (Heap.lt_size e)).1 (Heap.get?_push_of_some _ (hH2 ▸ Heap.get?_push_of_some _ e))
  have hacc : h₁.get? s.heap.objs.size = some { cls := .type "list", data := .seq ([] : List Value).toArray 0 } := hsb₁.extBut _ _ hDC (Heap.get?_push_of_some _ (hH2 ▸ Heap.get?_push_size _ rfl))
  have st1 : tn 0 h₁ := T.keep _ _ _ st fun b _ o e => old b o e
  obtain ⟨W, ⟨m0, w0⟩, turn⟩ := hW
  obtain ⟨pg, pif, pe⟩ := hb G2.objs.size s H fp
  generalize hY : compCx X sc N G2.objs.size s H fp = Y at pg pif pe
  have Ye : Y.env = compEnvC sc (clOf X.env.cells sc.names []) G2.objs.size X.env := by rw [← hY]; rfl
  have YA : Y.A = X.A := by rw [← hY]; rfl
  have Yp : Y.prog = X.prog := by rw [← hY]; rfl
  have Yw : Y.w = X.w := by rw [← hY]; rfl
  have YK : Y.K = X.K := by rw [← hY]; rfl
  have Yx : Y.xe = fun _ _ => False := by rw [← hY]; rfl
  have Yc : Y.calm = true := by rw [← hY]; exact hc
  have cellN : ∀ x c, X.env.cells.lookup x = some c → c < s.heap.objs.size := fun x c e => by
    obtain ⟨v, q⟩ := I.cell x c e
    exact q.lt
  have loop : ∀ s₃ : Shared, s₃ = { s with heap := h₁, toks := s.toks + ([] : List (Str × Value)).length } →
      codeAny (model X.prog X.w) X.A (.compLoop (.ListComp elt [⟨tg, iter, ifs, 0⟩] sc pos) 0 (.ref it) (.ref s.heap.objs.size) (compEnvC sc (clOf X.env.cells sc.names []) G2.objs.size X.env)) (RR (.ref s.heap.objs.size) G2.objs.size) s₃ := by
    rintro s₃ rfl
    refine compLoop_go (fun n s' => ∃ (i : Nat) (H' : Hp) (ys : List V) (its : List Value) (k : Nat), Vals ys its ∧ Inv Y [(s.heap.objs.size, { cls := .type "list", data := .seq its.toArray k })] (inner fs σ) H' s' ∧ tn i s'.heap ∧ (∀ b ∈ fp, H' b = none) ∧ W i n ys H') ?_ m0
      ⟨0, H, [], [], 0, .nil, hY ▸ comp_start (D := s.heap.objs.size) I hp S hf hfl hCle old hns₁ hacc (Nat.le_refl _) hDC (fun v z => by cases z), st1, fun b hb => (hf b hb).1, w0⟩
    rintro n s1 ⟨i, H1, ys, its, k, rv, I1, st', fr1, w1⟩
    have stat : ∀ {H' : Hp} {pl : List (Addr × Obj)}, (∀ b ∈ fp, H' b = none) → (∀ p ∈ pl, p.1 = s.heap.objs.size) → ∀ b ∈ fp, FpOk Y pl H' b := fun {H' pl} hn hpl b hb => by
      rw [← hY]
      refine ⟨hn b hb, (below b (hfl b hb)).1, fun z => ?_, .inl hb, fun x c e => (hf b hb).2.2.2.2.1 x c (comp_cl I hp S x c e), fun p hpp => ?_⟩
      · rcases List.mem_cons.mp (I.stkSub b z) with z | z
        · exact (hf b hb).2.1 z
        · exact (hf b hb).2.2.1 z
      · have hpp' : p ∈ pl := by
          rcases List.mem_append.mp hpp with z | z
          · exact absurd (show p ∈ ([] : List (Addr × Obj)) from z) (by simp)
          · exact z
        rw [hpl p hpp']
        exact Ne.symm (below b (hfl b hb)).2
    have one : ∀ {o : Obj} (p : Addr × Obj), p ∈ ([(s.heap.objs.size, o)] : List (Addr × Obj)) → p.1 = s.heap.objs.size := fun {o} p hpp => by
      have : p = _ := List.mem_singleton.mp hpp
      rw [this]
    rcases turn i n ys H1 w1 with ⟨stop, hz, qn⟩ | ⟨go, hz, N', hN, step⟩
    · have := T.done Y Yp Yw YK Yc i _ s1 _ H1 (fun _ _ => False) I1 (stat fr1 one) st' stop
      rw [YA] at this
      refine thn this fun r s4 ⟨hr, I4⟩ => ?_
      subst hr
      have Ib := I4.base
      have pinD := I4.pin (s.heap.objs.size, _) (List.mem_append_right _ List.mem_cons_self)
      obtain ⟨mC, hmC, _⟩ := I4.loc
      have e1 : Y.fs = frs X.stack := by rw [← hY]; rfl
      have e2 : Y.ex = fp := by rw [← hY]; rfl
      have e3 : Y.H₀ = H := by rw [← hY]; rfl
      have e4 : Y.s₀ = s := by rw [← hY]; rfl
      have e5 : Y.env.locals = G2.objs.size := by rw [← hY]; rfl
      rw [e1, e2, e3, e4] at Ib
      rw [e5] at hmC
      have hok4 : HOk X.prog X.w H1 s4.heap := by
        have := I4.hok
        rw [Yp, Yw] at this
        exact this
      have freeC : H1 G2.objs.size = none := by have := I4.free; rw [e5] at this; exact this
      have freeC' : upd H1 s.heap.objs.size (.lst ys) G2.objs.size = none := by rw [upd_ne (Ne.symm hDC)]; exact freeC
      have os4 : s4.os = s.os := by have := I4.os; rw [e4] at this; exact this
      refine hRR _ _ s4 (upd H1 s.heap.objs.size (.lst ys)) ⟨mC, hmC⟩ ?_ (I.fpOk hCle freeC') (qn _ pinD.2.1)
      exact I.call' (s' := s4) (ch := fp) os4 (Ib.adopt (Nat.le_refl _) pinD.2.1) (hok4.adopt pinD.2.1 pinD.1 rv hz) I4.bare fun b hb => ⟨(hf b hb).2.2.2.1, (hf b hb).2.1, (hf b hb).2.2.2.2.1, (hf b hb).2.2.2.2.2⟩
    · have := T.item Y Yp Yw YK Yc i _ s1 _ H1 (fun _ _ => False) I1 (stat fr1 one) st' go
      rw [YA] at this
      refine thn this fun r s4 ⟨u, hr, h4⟩ => ?_
      subst hr
      refine thn h4 fun _ s5 ⟨x, H5, I5, r5, y5, st5, fr5⟩ => ?_
      have I5' := I5.pinned (stat fr5 one) (T.obj _ _ st5)
      have a1 := pg _ s5 _ H5 x u _ I5' r5 (step x H5 y5)
      rw [YA, Yp, Yw, Yx, Ye] at a1
      refine thn a1 fun _ s6 ⟨σ6, H6, I6, ext, q6⟩ => ?_
      have a2 := pif _ s6 σ6 H6 _ I6 q6
      rw [YA, Yp, Yw, Yx, Ye] at a2
      refine thn a2 fun b s7 ⟨H7, I7, q7⟩ => ?_
      have back : ∀ {H8 : Hp} {s8 : Shared}, Inv Y ([(s.heap.objs.size, ({ cls := .type "list", data := .seq its.toArray k } : Obj))] ++ pinsAt fp s5.heap) σ6 H8 s8 → Inv Y [(s.heap.objs.size, { cls := .type "list", data := .seq its.toArray k })] (inner fs σ) H8 s8 ∧ tn (i + 1) s8.heap ∧ ∀ b ∈ fp, H8 b = none := fun {H8 s8} I8 =>
        ⟨I8.unpinned.weak ext.1 ext.2, T.keep _ _ _ st5 fun b hb o e => (I8.pin (b, o) (List.mem_append_right _ (List.mem_append_right _ (mem_pinsAt hb e)))).1, fun b hb => by
          obtain ⟨o, e, d⟩ := T.obj _ _ st5 b hb
          exact (I8.pin (b, o) (List.mem_append_right _ (List.mem_append_right _ (mem_pinsAt hb e)))).2.1⟩
      cases b with
      | false =>
        rw [if_neg Bool.false_ne_true] at q7 ⊢
        obtain ⟨m', hm, w7⟩ := hN _ _ q7
        obtain ⟨I7', st7, fr7⟩ := back I7
        exact ⟨m', hm, i + 1, H7, ys, its, k, rv, I7', st7, fr7, w7⟩
      | true =>
        rw [if_pos rfl] at q7 ⊢
        have a3 := pe _ s7 σ6 H7 _ I7 q7
        rw [YA, Yp, Yw, Yx, Ye] at a3
        refine thn a3 fun y s8 ⟨v, H8, I8, r8, q8⟩ => ?_
        obtain ⟨m', hm, w8⟩ := hN _ _ q8
        obtain ⟨I8', st8, fr8⟩ := back I8
        have pinD := I8'.pin (s.heap.objs.size, _) (List.mem_append_right _ List.mem_cons_self)
        refine append_at (hsz := by show its.toArray.size ≤ sizeLine; rw [List.size_toArray, ← rv.length]; exact hz) pinD.1 fun h9 hs9 hD9 => ?_
        have e5 : Y.env.locals = G2.objs.size := by rw [← hY]; rfl
        have I9 : Inv Y [] (inner fs σ) H8 { s8 with heap := h9 } := by
          have J0 : Inv Y [] (inner fs σ) H8 s8 := I8'.pins_of fun p hp => absurd hp (by simp)
          refine J0.turned (t' := s8.toks) (it := s.heap.objs.size) (fun b o hb e => hs9.extBut b o hb e) pinD.2.1 (by rw [e5]; exact hDC) (.inr ?_) (fun x c e => ?_) fun p hp => ?_
          · rw [← hY]; exact Nat.le_refl _
          · rw [← hY] at e
            exact Nat.ne_of_lt (cellN x c (comp_cl I hp S x c e))
          · rw [← hY] at hp
            exact absurd (show p ∈ ([] : List (Addr × Obj)) from hp) (by simp)
        refine ⟨m', hm, i + 1, H8, ys ++ [v], its ++ [y], k + 1, rv.append (.cons r8 .nil), I9.pins_of fun p hp => ?_, T.keep _ _ _ st8 fun b hb o e => hs9.extBut b o (below b (hfl b hb)).2 e, fr8, w8⟩
        have : p = _ := List.mem_singleton.mp hp
        subst this
        refine ⟨?_, pinD.2.1, pinD.2.2.1, pinD.2.2.2.1, fun v z => by cases z⟩
        have e9 : its.toArray.push y = (its ++ [y]).toArray := by simp
        rw [← e9]
        exact hD9
  exact codeAny_compStart_list (loop _ rfl) (T.self _ 0 _ _ _ st1 (loop _ rfl))
theorem Inv.letGo {H' : Hp} {h' : Heap} (I : Inv X pins σ H s) (f : FpOk X pins H C) (hs : Heap.SameBut C s.heap h') : Inv X pins σ H { s with heap := h' } := by
  obtain ⟨f0, f1, f2, f3, f4, f5⟩ := f
  exact I.turned (t' := s.toks) (fun b o hb e => hs.extBut b o hb e) f0 f1 f3 f4 f5
theorem pe_comp {elt tg iter : Expr} {ifs : List Expr} {pos : Pos} {wi : TI} {g : TG} {tt : TT} {te : TE} (psc : Scope) (fs : List (Option Nat)) (N : List Str) (hp : X.env.scope = psc) (S : CompOk psc sc X.N N fs) (hc : X.calm = true) (hi : PI X tg iter wi)
    (hb : ∀ (C : Addr) (s : Shared) (H : Hp) (fp : List Addr), PG (compCx X sc N C s H fp) tg g ∧ PIf (compCx X sc N C s H fp) ifs tt ∧ PE (compCx X sc N C s H fp) elt te)
    (hs : ∀ x, foldedSetIterable iter X.env x = pure x := by intro _; rfl) : PE X (.ListComp elt [⟨tg, iter, ifs, 0⟩] sc pos) (tComp wi fs g tt te) := by
  intro pins s σ H Q I h
  rw [eval_ListComp]
  refine wpAny_comprehension_free (use := none) rfl hs (closure_ok (comp_cells I hp S)) S.kind S.loc (thn (hi pins s σ H _ I h) fun xv s₁ h₁ => thn h₁ fun itv s₂ h₂ => ?_)
  obtain ⟨it, fp, tn, J, H2, e, I2, T, st2, f2, hW⟩ := h₂
  subst e
  refine block_go (RR := fun acc C => compPost (model X.prog X.w) X.A X.xe none (EP X pins σ Q) acc C) hp S hc hb I2 T st2 f2 hW ?_
  intro D C s' H' ⟨m, hm⟩ I' f q
  exact ⟨m, hm, fun h' hs' => ⟨.ref D, H', I'.letGo (H' := H') f hs', rfl, q⟩⟩
end
end L2
set_option Elab.async false
set_option linter.all false
set_option maxRecDepth 100000
namespace L2
open PySem PySem.Spec PyProof.Rows
def NewL (xs : List V) (H : Hp) (Q : VK) : Prop := xs.length ≤ sizeLine ∧ ∀ p, H p = none → Q (.ref p) (upd H p (.lst xs))
def NewT (xs : List V) (H : Hp) (Q : VK) : Prop := xs.length ≤ sizeLine ∧ ∀ p, H p = none → Q (.ref p) (upd H p (.tup xs))
section
variable {t u : TS} {a b c : St → Hp → Prop} {r : VK} {σ : St} {H : Hp} {te ta tb : TE} {tc td : TT} {Q : VK} {i : Nat}
end
section
variable {X : Cx}
def rLenA (K : PySem.W.Frag) : List V → Hp → VK → Prop := fun xs H Q => (∃ p ys, xs = [.ref p] ∧ (SqL K H p ys ∨ SqT K H p ys) ∧ (ys.length ≤ sizeLine → Q (.int ys.length) H)) ∨ ∃ z, xs = [.str z] ∧ z.length ≤ sizeLine ∧ Q (.int z.length) H
theorem call_lenA : CallR X (.builtin "len") (rLenA X.K) := by
  intro pins s σ H xs us Q I r h
  rcases h with ⟨p, ys, e, hq, q⟩ | h
  · refine call_len_seq pins s σ H xs us Q I r ⟨p, ys, e, hq, q ?_⟩
    rcases hq with hq | hq
    · exact (I.list hq).choose_spec.2.2
    · exact (I.tuple hq).choose_spec.2.2
  · exact call_len_str pins s σ H xs us Q I r h
theorem PI.or {tg iter : Expr} {w1 w2 : TI} (h1 : PI X tg iter w1) (h2 : PI X tg iter w2) : PI X tg iter (fun σ H R => w1 σ H R ∨ w2 σ H R) := by
  intro pins s σ H R I h
  rcases h with h | h
  · exact h1 pins s σ H R I h
  · exact h2 pins s σ H R I h
def iSeq (K : PySem.W.Frag) (tl : TE) : TI := fun σ H R => iList K tl σ H R ∨ iTup K tl σ H R
theorem pi_seq {tg l : Expr} {tl : TE} (hl : PE X l tl) : PI X tg l (iSeq X.K tl) := (pi_list hl).or (pi_tup hl)
end
section
variable {K : PySem.W.Frag} {tl : TE} {ta : TA} {g : TG} {tb : TS} {D : Ends} {σ : St} {H : Hp} {a b c : St → Hp → Prop} {r : VK}
def LoopW (J : It) (g : TG) (tb : TS) (D : Ends) (σ : St) (H1 : Hp) : Prop := ∃ W : Nat → Nat → St → Hp → Prop, (∃ m, W 0 m σ H1) ∧ ∀ i m σ H, W i m σ H →
  (J.stop i H ∧ D.nx σ H) ∨ (J.go i H ∧ ∃ N : St → Hp → Prop, (∀ σ' H', N σ' H' → ∃ m', m' < m ∧ W (i + 1) m' σ' H') ∧ ∀ x H', J.yld i H x H' → g x σ H' fun σ2 H2 => tb { D with nx := N, ct := N, bk := D.nx } σ2 H2)
def FL (K : PySem.W.Frag) (g : TG) (tb : TS) (D : Ends) (σ : St) (x : V) (H1 : Hp) : Prop := ∃ a, x = .ref a ∧ (∃ xs, SqL K H1 a xs) ∧ LoopW (Itl K a) g tb D σ H1
def FT (K : PySem.W.Frag) (g : TG) (tb : TS) (D : Ends) (σ : St) (x : V) (H1 : Hp) : Prop := ∃ a, x = .ref a ∧ (∃ xs, SqT K H1 a xs) ∧ LoopW (Itt K a) g tb D σ H1
def FR1 (g : TG) (tb : TS) (D : Ends) (σ : St) (vs : List V) (H1 : Hp) : Prop := ∃ j : Int, vs = [.int j] ∧ -(2 ^ 62) ≤ j ∧ j < 2 ^ 62 ∧ LoopW (Itr 0 j.toNat) g tb D σ H1
def FR2 (g : TG) (tb : TS) (D : Ends) (σ : St) (vs : List V) (H1 : Hp) : Prop := ∃ i j : Int, vs = [.int i, .int j] ∧ (-(2 ^ 62) ≤ i ∧ i < 2 ^ 62 ∧ -(2 ^ 62) ≤ j ∧ j < 2 ^ 62) ∧ LoopW (Itr i (j - i).toNat) g tb D σ H1
theorem FL.of {ad : Addr} {xs : List V} (h : SqL K H ad xs) (Pv : Nat → St → Hp → Prop) (h0 : Pv 0 σ H) (hl : ∀ i σ H, i ≤ xs.length → Pv i σ H → SqL K H ad xs)
    (hs : ∀ i x σ H, xs[i]? = some x → Pv i σ H → g x σ H fun σ2 H2 => tb (Ends.mk (Pv (i + 1)) r a (Pv (i + 1))) σ2 H2) (hd : ∀ σ H, Pv xs.length σ H → a σ H) : FL K g tb (Ends.mk a r b c) σ (.ref ad) H :=
  ⟨ad, rfl, ⟨xs, h⟩, for_list Pv h0 hl hs hd⟩
theorem FT.of {ad : Addr} {xs : List V} (h : SqT K H ad xs) (Pv : Nat → St → Hp → Prop) (h0 : Pv 0 σ H) (hl : ∀ i σ H, i ≤ xs.length → Pv i σ H → SqT K H ad xs)
    (hs : ∀ i x σ H, xs[i]? = some x → Pv i σ H → g x σ H fun σ2 H2 => tb (Ends.mk (Pv (i + 1)) r a (Pv (i + 1))) σ2 H2) (hd : ∀ σ H, Pv xs.length σ H → a σ H) : FT K g tb (Ends.mk a r b c) σ (.ref ad) H :=
  ⟨ad, rfl, ⟨xs, h⟩, for_tup Pv h0 hl hs hd⟩
theorem FR1.of {j : Int} (h1 : -(2 ^ 62) ≤ j) (h2 : j < 2 ^ 62) (Pv : Nat → St → Hp → Prop) (h0 : Pv 0 σ H)
    (hs : ∀ i σ H, i < j.toNat → Pv i σ H → g (.int i) σ H fun σ2 H2 => tb (Ends.mk (Pv (i + 1)) r a (Pv (i + 1))) σ2 H2) (hd : ∀ σ H, Pv j.toNat σ H → a σ H) : FR1 g tb (Ends.mk a r b c) σ [.int j] H :=
  ⟨j, rfl, h1, h2, for_range Pv h0 (fun i σ H hi p => by rw [Int.zero_add]; exact hs i σ H hi p) hd⟩
theorem FR2.of {i j : Int} (h1 : -(2 ^ 62) ≤ i ∧ i < 2 ^ 62 ∧ -(2 ^ 62) ≤ j ∧ j < 2 ^ 62) (Pv : Nat → St → Hp → Prop) (h0 : Pv 0 σ H)
    (hs : ∀ n σ H, n < (j - i).toNat → Pv n σ H → g (.int (i + n)) σ H fun σ2 H2 => tb (Ends.mk (Pv (n + 1)) r a (Pv (n + 1))) σ2 H2) (hd : ∀ σ H, Pv (j - i).toNat σ H → a σ H) : FR2 g tb (Ends.mk a r b c) σ [.int i, .int j] H :=
  ⟨i, j, rfl, h1, for_range Pv h0 (fun n σ H hi p => hs n σ H hi p) hd⟩
def WN (W : Nat → St → Hp → Prop) (m : Nat) (tb : TS) (D : Ends) (σ : St) (H1 : Hp) : Prop := ∃ N : St → Hp → Prop, (∀ σ' H', N σ' H' → ∃ m', m' < m ∧ W m' σ' H') ∧ tb { D with nx := N, ct := N, bk := D.nx } σ H1
theorem WN.of {W : Nat → St → Hp → Prop} {m : Nat} (N : St → Hp → Prop) (hN : ∀ σ' H', N σ' H' → ∃ m', m' < m ∧ W m' σ' H') (h : tb (Ends.mk N r a N) σ H) : WN W m tb (Ends.mk a r b c) σ H := ⟨N, hN, h⟩
variable {tt : TT} {te : TE} {fs : List (Option Nat)} {Q : VK}
def CompW (J : It) (fs : List (Option Nat)) (g : TG) (tt : TT) (te : TE) (σ : St) (Q : VK) (H1 : Hp) : Prop := ∃ W : Nat → Nat → List V → Hp → Prop, (∃ m, W 0 m [] H1) ∧ ∀ i m ys H, W i m ys H →
  (J.stop i H ∧ ys.length ≤ sizeLine ∧ ∀ p, H p = none → Q (.ref p) (upd H p (.lst ys))) ∨
  (J.go i H ∧ ys.length ≤ sizeLine ∧ ∃ N : List V → Hp → Prop, (∀ ys' H', N ys' H' → ∃ m', m' < m ∧ W (i + 1) m' ys' H') ∧ ∀ x H', J.yld i H x H' → g x (inner fs σ) H' fun σ2 H2 => Ext (inner fs σ) σ2 ∧
    tt σ2 H2 fun b H3 => if b = true then te σ2 H3 fun v H4 => N (ys ++ [v]) H4 else N ys H3)
def CL (K : PySem.W.Frag) (fs : List (Option Nat)) (g : TG) (tt : TT) (te : TE) (σ : St) (Q : VK) (x : V) (H1 : Hp) : Prop := ∃ a, x = .ref a ∧ (∃ xs, SqL K H1 a xs) ∧ CompW (Itl K a) fs g tt te σ Q H1
def CT (K : PySem.W.Frag) (fs : List (Option Nat)) (g : TG) (tt : TT) (te : TE) (σ : St) (Q : VK) (x : V) (H1 : Hp) : Prop := ∃ a, x = .ref a ∧ (∃ xs, SqT K H1 a xs) ∧ CompW (Itt K a) fs g tt te σ Q H1
def CR1 (fs : List (Option Nat)) (g : TG) (tt : TT) (te : TE) (σ : St) (Q : VK) (vs : List V) (H1 : Hp) : Prop := ∃ j : Int, vs = [.int j] ∧ -(2 ^ 62) ≤ j ∧ j < 2 ^ 62 ∧ CompW (Itr 0 j.toNat) fs g tt te σ Q H1
theorem CL.of {ad : Addr} {xs : List V} (h : SqL K H ad xs) (Pv : Nat → List V → Hp → Prop) (h0 : Pv 0 [] H) (hl : ∀ i ys H, i ≤ xs.length → Pv i ys H → SqL K H ad xs ∧ ys.length ≤ sizeLine)
    (hs : ∀ i x ys H, xs[i]? = some x → Pv i ys H → g x (inner fs σ) H fun σ2 H2 => Ext (inner fs σ) σ2 ∧ tt σ2 H2 fun b H3 => if b = true then te σ2 H3 fun v H4 => Pv (i + 1) (ys ++ [v]) H4 else Pv (i + 1) ys H3)
    (hd : ∀ ys H, Pv xs.length ys H → ∀ p, H p = none → Q (.ref p) (upd H p (.lst ys))) : CL K fs g tt te σ Q (.ref ad) H := by
  refine ⟨ad, rfl, ⟨xs, h⟩, fun i m ys H => m = xs.length - i ∧ i ≤ xs.length ∧ Pv i ys H, ⟨xs.length, by simp, Nat.zero_le _, h0⟩, ?_⟩
  rintro i m ys H ⟨rfl, hi, p⟩
  obtain ⟨q, hz⟩ := hl i ys H hi p
  by_cases hlt : i < xs.length
  · refine .inr ⟨⟨xs, xs[i], q, by simp [hlt]⟩, hz, Pv (i + 1), fun ys' H' p' => ⟨xs.length - (i + 1), by omega, rfl, hlt, p'⟩, fun x H' y => ?_⟩
    obtain ⟨e, y⟩ := y
    subst e
    exact hs i x ys _ (y xs q) p
  · have e : i = xs.length := by omega
    subst e
    exact .inl ⟨⟨xs, q, Nat.le_refl _⟩, hz, hd ys H p⟩
theorem CT.of {ad : Addr} {xs : List V} (h : SqT K H ad xs) (Pv : Nat → List V → Hp → Prop) (h0 : Pv 0 [] H) (hl : ∀ i ys H, i ≤ xs.length → Pv i ys H → SqT K H ad xs ∧ ys.length ≤ sizeLine)
    (hs : ∀ i x ys H, xs[i]? = some x → Pv i ys H → g x (inner fs σ) H fun σ2 H2 => Ext (inner fs σ) σ2 ∧ tt σ2 H2 fun b H3 => if b = true then te σ2 H3 fun v H4 => Pv (i + 1) (ys ++ [v]) H4 else Pv (i + 1) ys H3)
    (hd : ∀ ys H, Pv xs.length ys H → ∀ p, H p = none → Q (.ref p) (upd H p (.lst ys))) : CT K fs g tt te σ Q (.ref ad) H := by
  refine ⟨ad, rfl, ⟨xs, h⟩, fun i m ys H => m = xs.length - i ∧ i ≤ xs.length ∧ Pv i ys H, ⟨xs.length, by simp, Nat.zero_le _, h0⟩, ?_⟩
  rintro i m ys H ⟨rfl, hi, p⟩
  obtain ⟨q, hz⟩ := hl i ys H hi p
  by_cases hlt : i < xs.length
  · refine .inr ⟨⟨xs, xs[i], q, by simp [hlt]⟩, hz, Pv (i + 1), fun ys' H' p' => ⟨xs.length - (i + 1), by omega, rfl, hlt, p'⟩, fun x H' y => ?_⟩
    obtain ⟨e, y⟩ := y
    subst e
    exact hs i x ys _ (y xs q) p
  · have e : i = xs.length := by omega
    subst e
    exact .inl ⟨⟨xs, q, Nat.le_refl _⟩, hz, hd ys H p⟩
theorem CR1.of {j : Int} (h1 : -(2 ^ 62) ≤ j) (h2 : j < 2 ^ 62) (Pv : Nat → List V → Hp → Prop) (h0 : Pv 0 [] H) (hl : ∀ i ys H, i ≤ j.toNat → Pv i ys H → ys.length ≤ sizeLine)
    (hs : ∀ (i : Nat) ys H, i < j.toNat → Pv i ys H → g (.int i) (inner fs σ) H fun σ2 H2 => Ext (inner fs σ) σ2 ∧ tt σ2 H2 fun b H3 => if b = true then te σ2 H3 fun v H4 => Pv (i + 1) (ys ++ [v]) H4 else Pv (i + 1) ys H3)
    (hd : ∀ ys H, Pv j.toNat ys H → ∀ p, H p = none → Q (.ref p) (upd H p (.lst ys))) : CR1 fs g tt te σ Q [.int j] H := by
  refine ⟨j, rfl, h1, h2, fun i m ys H => m = j.toNat - i ∧ i ≤ j.toNat ∧ Pv i ys H, ⟨j.toNat, by simp, Nat.zero_le _, h0⟩, ?_⟩
  rintro i m ys H ⟨rfl, hi, p⟩
  have hz := hl i ys H hi p
  by_cases hlt : i < j.toNat
  · refine .inr ⟨hlt, hz, Pv (i + 1), fun ys' H' p' => ⟨j.toNat - (i + 1), by omega, rfl, hlt, p'⟩, fun x H' y => ?_⟩
    obtain ⟨e, y⟩ := y
    subst e y
    rw [Int.zero_add]
    exact hs i ys _ hlt p
  · have e : i = j.toNat := by omega
    subst e
    exact .inl ⟨Nat.le_refl _, hz, hd ys H p⟩
end
structure Def (K : PySem.W.Frag) (mg : Str → Option Value) (x : Str) (st : Stmt) : Prop where
  ex : ∃ f fd, Fun K x x st f fd ∧ mg x = some (.ref f)
structure Cal (P : Program) (w : World) (K : PySem.W.Frag) (mg : Str → Option Value) (base : Heap) (k : Nat) (x : Str) (ps : List Str) (sp : Sp) : Prop where
  ex : ∃ f fd, FnOk P w K mg base CX0 k f fd ps sp ∧ mg x = some (.ref f) ∧ PySem.W.keepIn K (.ref f) = true ∧ Binds K fd ps []
def tCal (sp : Sp) (t : TA) : TE := fun σ H Q => t σ H fun vs H1 => sp vs H1 Q E0
section
variable {P : Program} {w : World} {K : PySem.W.Frag} {mg : Str → Option Value} {base : Heap}
theorem Cal.mono {j k : Nat} {x : Str} {ps : List Str} {sp : Sp} (C : Cal P w K mg base j x ps sp) (h : j ≤ k) : Cal P w K mg base k x ps sp := by
  obtain ⟨f, fd, F, r⟩ := C.ex
  exact ⟨f, fd, F.mono h, r⟩
theorem Cal.imp {k : Nat} {x : Str} {ps : List Str} {sp sp' : Sp} (C : Cal P w K mg base k x ps sp) (h : ∀ vs H Q E, sp' vs H Q E → sp vs H Q E) : Cal P w K mg base k x ps sp' := by
  obtain ⟨f, fd, F, r⟩ := C.ex
  exact ⟨f, fd, F.imp h, r⟩
theorem pe_cal {X : Cx} {k : Nat} {x : Str} {ps : List Str} {sp : Sp} {p pos : Pos} {e : Expr} {es : List Expr} {t : TA} (C : Cal X.prog X.w X.K X.mg X.base k x ps sp) (hr : Room k X.A) (ha : PA X (e :: es) t) (hg : Gl X x := by rfl)
    (hdb : (x == ("__debug__" : Str)) = false := by decide) (he : starEach (e :: es) X.env = (false, eval e X.env) :: starEach es X.env := by rfl) (hpl : (backTo pos (starEach es X.env)).any (·.1) = false := by rfl) :
    PE X (.Call (.Name x p) (e :: es) [] pos) (tCal sp t) := by
  obtain ⟨f, fd, F, hm, hk, hb⟩ := C.ex
  have := pe_call (dvs := []) (ds := []) (E := E0) F hr hg hm hk hb .nil pass0 ha hdb he hpl (p := p)
  intro pins s σ H Q I h
  refine this pins s σ H Q I ?_
  unfold tCall
  simp only [List.append_nil]
  exact h
theorem cal_of {x : Str} {st : Stmt} {N ps : List Str} {k : Nat} {sp : Sp} (D : Def K mg x st) (S : FnScope N ps (defScope st))
    (hbi : ∀ (kV doc pm : Value) (an : Option Addr) (cdv ct : Value) (us : List Value), us.length = ps.length → bindArgs (PySem.W.fnOf x x (defArgs st) (defBody st) (defScope st) .none kV doc pm an cdv ct) ⟨us, []⟩ = pure (ps.zip us))
    (len : ∀ vs H Q E, sp vs H Q E → vs.length = ps.length)
    (hbody : ∀ (f : Addr) (cdv : Value) (A : Around) (outer : List Env) (s : Shared) (H : Hp) (vs : List V) (Q : VK) (E : XK), Room k (A.deeper (envOfC x (defScope st) s.heap.objs.size f cdv)) → sp vs H Q E →
      ∃ t, PSs (cxOf CX0 P w K mg base N x (defScope st) f cdv A outer s H E).nox (defBody st) t ∧ t (Ends.mk (fun _ H' => Q .non H') Q (fun _ _ => False) (fun _ _ => False)) (start N vs) H) : Cal P w K mg base (k + 1) x ps sp := by
  obtain ⟨f, fd, F, hm⟩ := D.ex
  exact ⟨f, fd, F.ok S len (fun cdv A outer s H vs Q E hr h => hbody f cdv A outer s H vs Q E hr h), hm, F.kp, F.binds hbi⟩
theorem fn_body {x : Str} {st : Stmt} {f : Addr} {fd : FuncData} {N ps : List Str} {k : Nat} {sp : Sp} (F : Fun K x x st f fd) (S : FnScope N ps (defScope st)) (len : ∀ vs H Q E, sp vs H Q E → vs.length = ps.length)
    (hbody : ∀ (cdv : Value) (A : Around) (outer : List Env) (s : Shared) (H : Hp) (vs : List V) (Q : VK) (E : XK), Room k (A.deeper (envOfC x (defScope st) s.heap.objs.size f cdv)) → sp vs H Q E →
      ∃ t, PSs (cxOf CX0 P w K mg base N x (defScope st) f cdv A outer s H E).nox (defBody st) t ∧ t (Ends.mk (fun _ H' => Q .non H') Q (fun _ _ => False) (fun _ _ => False)) (start N vs) H) : FnOk P w K mg base CX0 (k + 1) f fd ps sp :=
  F.ok S len hbody
end
abbrev D := PyData
mutual
def Is (H : Hp) : D → V → Prop
  | .none, v => v = .non
  | .bool b, v => v = .bl b
  | .int i, v => v = .int i
  | .str x, v => v = .str x
  | .tuple ds, v => ∃ a vs, v = .ref a ∧ H a = some (.tup vs) ∧ IsL H ds vs
  | .list ds, v => ∃ a vs, v = .ref a ∧ Rd H a (.lst vs) ∧ IsL H ds vs
  | .dict _, _ => False
def IsL (H : Hp) : List D → List V → Prop
  | [], vs => vs = []
  | d :: ds, vs => ∃ v r, vs = v :: r ∧ Is H d v ∧ IsL H ds r
end
theorem Same.rd {H H' : Hp} (e : Same H H') {a : Addr} {o : HO} (h : Rd H a o) : Rd H' a o := by
  rcases h with h | ⟨o', h⟩
  · exact .inl (e _ _ h)
  · exact .inr ⟨o', e _ _ h⟩
mutual
theorem Is.mono {H H' : Hp} (e : Same H H') : ∀ (d : D) (v : V), Is H d v → Is H' d v
  | .none, v, h => h
  | .bool b, v, h => h
  | .int i, v, h => h
  | .str x, v, h => h
  | .dict _, v, h => h
  | .tuple ds, v, h => by
    unfold Is at h ⊢
    obtain ⟨a, vs, e1, e2, e3⟩ := h
    exact ⟨a, vs, e1, e _ _ e2, IsL.mono e ds vs e3⟩
  | .list ds, v, h => by
    unfold Is at h ⊢
    obtain ⟨a, vs, e1, e2, e3⟩ := h
    exact ⟨a, vs, e1, e.rd e2, IsL.mono e ds vs e3⟩
theorem IsL.mono {H H' : Hp} (e : Same H H') : ∀ (ds : List D) (vs : List V), IsL H ds vs → IsL H' ds vs
  | [], vs, h => by unfold IsL at h ⊢; exact h
  | d :: ds, vs, h => by
    unfold IsL at h ⊢
    obtain ⟨v, r, e1, e2, e3⟩ := h
    exact ⟨v, r, e1, Is.mono e d v e2, IsL.mono e ds r e3⟩
end
theorem Same.new {H : Hp} {l : Addr} {o : HO} (h : H l = none) : Same H (upd H l o) := fun b u e => by rw [upd_ne (ne_of_none e h)]; exact e
theorem Same.upd {H H1 : Hp} {l : Addr} {o : HO} (e : Same H H1) (h : H l = none) : Same H (upd H1 l o) := fun b u q => by rw [upd_ne (ne_of_none q h)]; exact e b u q
theorem Same.seqT {K : PySem.W.Frag} {H H' : Hp} {a : Addr} {xs : List V} (e : Same H H') (h : SqT K H a xs) : SqT K H' a xs := by
  rcases h with (h | ⟨o, h⟩) | h
  · exact .inl (.inl (e _ _ h))
  · exact .inl (.inr ⟨o, e _ _ h⟩)
  · exact .inr h
mutual
theorem Is.reads {P : Program} {w : World} {H : Hp} {h : Heap} (ok : HOk P w H h) : ∀ (d : D) (v : V) (u : Value), Is H d v → RelV v u → ∃ as, Reads h u d as
  | .none, v, u, i, r => by
    unfold Is at i; subst i; cases r; exact ⟨_, .none⟩
  | .bool b, v, u, i, r => by
    unfold Is at i; subst i; cases r; exact ⟨_, .bool b⟩
  | .int n, v, u, i, r => by
    unfold Is at i; subst i; obtain ⟨t, rfl⟩ := r; exact ⟨_, .int n t⟩
  | .str x, v, u, i, r => by
    unfold Is at i; subst i; obtain ⟨t, rfl⟩ := r; exact ⟨_, .str x t⟩
  | .dict _, v, u, i, r => by unfold Is at i; exact i.elim
  | .tuple ds, v, u, i, r => by
    unfold Is at i
    obtain ⟨a, vs, e1, e2, e3⟩ := i
    subst e1; cases r
    obtain ⟨hz, its, rv, o, ho, hc, n, hd⟩ := ok a _ e2
    obtain ⟨as, ra⟩ := IsL.reads ok ds vs its e3 rv
    exact ⟨_, .tuple ho hc hd (by simpa using ra)⟩
  | .list ds, v, u, i, r => by
    unfold Is at i
    obtain ⟨a, vs, e1, e2, e3⟩ := i
    subst e1; cases r
    obtain ⟨hz, its, n, rv, ho⟩ := e2.ok ok
    obtain ⟨as, ra⟩ := IsL.reads ok ds vs its e3 rv
    exact ⟨_, .list ho rfl rfl (by simpa using ra)⟩
theorem IsL.reads {P : Program} {w : World} {H : Hp} {h : Heap} (ok : HOk P w H h) : ∀ (ds : List D) (vs : List V) (us : List Value), IsL H ds vs → Vals vs us → ∃ as, ReadsAll h us ds as
  | [], vs, us, i, r => by
    unfold IsL at i; subst i; cases r; exact ⟨_, .nil⟩
  | d :: ds, vs, us, i, r => by
    unfold IsL at i
    obtain ⟨v, rr, e1, e2, e3⟩ := i
    subst e1
    cases r with
    | cons r1 r2 =>
      obtain ⟨as, h1⟩ := Is.reads ok d v _ e2 r1
      obtain ⟨bs, h2⟩ := IsL.reads ok ds rr _ e3 r2
      exact ⟨_, .cons h1 h2⟩
end
section
variable {X : Cx}
theorem pe_bty {x : Str} {T : String} {pos : Pos} (hg : Gl X x) (hm : X.mg x = none) (hv : bootBuiltins x = some (.type T)) (hn : x ≠ "__name__" := by decide) (hd : (x == ("__debug__" : Str)) = false := by decide) : PE X (.Name x pos) (tC (.ty T)) :=
  pe_bltn (v := .ty T) hg hm hv rfl hn hd
def kitB (T n : String) : Option Bool := if (Value.type T == Value.type n) = true then some true else if PySem.W.kitMeta n = true then (PySem.fastBuiltinMro T).map (·.contains (.type n)) else none
theorem kit_of {K : PySem.W.Frag} {T n : String} {b : Bool} (h : kitB T n = some b) : PySem.W.kitOne K (.type T) (.type n) = some b := h
def tyD : D → String
  | .none => "NoneType" | .bool _ => "bool" | .int _ => "int" | .str _ => "str" | .tuple _ => "tuple" | .list _ => "list" | .dict _ => "dict"
theorem Is.ty {K : PySem.W.Frag} {H : Hp} {d : D} {v : V} (i : Is H d v) : TyOf K H v (.type (tyD d)) := by
  cases d with
  | none => unfold Is at i; subst i; exact .non
  | bool b => unfold Is at i; subst i; exact .bl b
  | int n => unfold Is at i; subst i; exact .int n
  | str x => unfold Is at i; subst i; exact .str x
  | dict _ => unfold Is at i; exact i.elim
  | tuple ds => unfold Is at i; obtain ⟨a, vs, rfl, e, _⟩ := i; exact .tup e
  | list ds =>
    unfold Is at i; obtain ⟨a, vs, rfl, e, _⟩ := i
    rcases e with e | ⟨o, e⟩
    · exact .lst e
    · exact .frz e
end
theorem NewL.of {xs : List V} {H : Hp} {Q : VK} (hz : xs.length ≤ 100) (q : ∀ p H', Same H H' → H p = none → H' p = some (.lst xs) → Q (.ref p) H') : NewL xs H Q := ⟨by rw [sizeLine_eq]; omega, fun p hp => q p _ (Same.new hp) hp upd_same⟩
theorem NewT.of {xs : List V} {H : Hp} {Q : VK} (hz : xs.length ≤ 100) (q : ∀ p H', Same H H' → H p = none → H' p = some (.tup xs) → Q (.ref p) H') : NewT xs H Q := ⟨by rw [sizeLine_eq]; omega, fun p hp => q p _ (Same.new hp) hp upd_same⟩
end L2
set_option Elab.async false
set_option linter.all false
set_option maxRecDepth 100000
namespace L2
open PySem PySem.Spec PyProof.Rows
section
variable {X : Cx}
def rSlS : V → Option Int → Option Int → Hp → VK → Prop := fun x lo hi H Q => ∃ z, x = .str z ∧ z.length ≤ sizeLine ∧ Q (.str (Txt.slice z lo hi)) H
theorem sl_str : SlR X rSlS := by
  intro pins s σ H x v vl vu lo hi sl Q I rx hs pl pu h
  obtain ⟨z, rfl, hz, q⟩ := h
  obtain ⟨t, rfl⟩ := rx
  have fin : ∀ t' k, EP X pins σ Q (.str (Txt.slice z lo hi) t') { s with toks := k } := fun t' k => ⟨.str (Txt.slice z lo hi), H, I.tok _, ⟨_, rfl⟩, q⟩
  refine ⟨"str", _, F.slot_str_getitem.lookup, typeIs_str _ _ _, ?_⟩
  cases pl with
  | none =>
    cases pu with
    | none => exact wpAny_getItem_str_slice (l := none) (u := none) (st := none) hs rfl (post_val_or_str ⟨Nat.le_trans (Txt.slice_le z _ _) hz, fin⟩)
    | int j tj => exact wpAny_getItem_str_slice (l := none) (u := some (j, tj)) (st := none) hs rfl (post_val_or_str ⟨Nat.le_trans (Txt.slice_le z _ _) hz, fin⟩)
  | int i ti =>
    cases pu with
    | none => exact wpAny_getItem_str_slice (l := some (i, ti)) (u := none) (st := none) hs rfl (post_val_or_str ⟨Nat.le_trans (Txt.slice_le z _ _) hz, fin⟩)
    | int j tj => exact wpAny_getItem_str_slice (l := some (i, ti)) (u := some (j, tj)) (st := none) hs rfl (post_val_or_str ⟨Nat.le_trans (Txt.slice_le z _ _) hz, fin⟩)
def rSlA (K : PySem.W.Frag) : V → Option Int → Option Int → Hp → VK → Prop := fun x lo hi H Q => rSlL K x lo hi H Q ∨ rSlT K x lo hi H Q ∨ rSlS x lo hi H Q
theorem sl_A : SlR X (rSlA X.K) := sl_list.or (sl_tup.or sl_str)
def rSIndex : V → List V → Hp → VK → Prop := fun x xs H Q => ∃ z y, x = .str z ∧ xs = [.str y] ∧ Txt.find z y ≠ -1 ∧ Q (.int (Txt.find z y)) H
theorem mt_sindex (hc : X.calm = true) : MtR X "str.index" rSIndex := by
  intro pins s σ H x xs v us Q I rx rs h
  obtain ⟨z, y, rfl, rfl, hn, q⟩ := h
  obtain ⟨t, rfl⟩ := rx
  obtain ⟨u, rfl, ru⟩ := vals1 rs
  obtain ⟨t', rfl⟩ := ru
  exact index_or (I.ok.hd hc) (fun e => absurd e hn) fun _ _ => ⟨.int _, H, I.tok _, ⟨_, rfl⟩, q⟩
theorem strsAre_of {ns : List Str} : ∀ {us : List Value}, Vals (ns.map V.str) us → StrsAre us ns := by
  induction ns with
  | nil => intro us r; rw [List.map_nil] at r; cases r; exact .nil
  | cons n ns ih =>
    intro us r
    rw [List.map_cons] at r
    cases r with
    | cons r1 r2 =>
      obtain ⟨t, e⟩ := r1
      subst e
      exact .cons n t (ih r2)
def rJoin (K : PySem.W.Frag) : V → List V → Hp → VK → Prop := fun x xs H Q => ∃ z p ys, x = .str z ∧ xs = [.ref p] ∧ SqL K H p (ys.map V.str) ∧ (ys.map (·.length)).sum + ys.length * z.length ≤ 16777216 ∧ Q (.str (Txt.join z ys)) H
theorem mt_join : MtR X "str.join" (rJoin X.K) := by
  intro pins s σ H x xs v us Q I rx rs h
  obtain ⟨z, p, ys, rfl, rfl, hq, hz, q⟩ := h
  obtain ⟨t, rfl⟩ := rx
  obtain ⟨u, rfl, ru⟩ := vals1 rs
  cases ru
  obtain ⟨its, r', pl, _⟩ := I.list hq
  exact join_list pl.isList (by simpa using strsAre_of r') hz fun t' k => ⟨.str _, H, I.tok _, ⟨_, rfl⟩, q⟩
def rBitLen : V → List V → Hp → VK → Prop := fun x xs H Q => ∃ i, x = .int i ∧ xs = [] ∧ Q (.int (Builtin.Int.intBits i)) H
theorem mt_bitlen : MtR X "int.bit_length" rBitLen := by
  intro pins s σ H x xs v us Q I rx rs h
  obtain ⟨i, rfl, rfl, q⟩ := h
  obtain ⟨t, rfl⟩ := rx
  cases rs
  exact call_int_bit_length ⟨.int _, H, I.tok _, ⟨_, rfl⟩, q⟩
abbrev TJ := St → Hp → Str → VK → Prop
def PJ (X : Cx) (vs : List Expr) (t : TJ) : Prop :=
  ∀ (pins : List (Addr × Obj)) (s : Shared) (σ : St) (H : Hp) (acc : Str) (Q : VK), Inv X pins σ H s → acc.length ≤ sizeLine → t σ H acc Q → wpAny (model X.prog X.w) X.A (joinParts acc (evalEach vs X.env)) (EP X pins σ Q) X.xe s
end
end L2
set_option Elab.async false
set_option linter.all false
set_option maxRecDepth 100000
namespace L2
open PySem PySem.Spec PyProof.Rows
abbrev cl (z : Str) : List Nat := z.cps.toList
theorem cl_len (z : Str) : (cl z).length = z.length := by simp [cl, Str.length]
theorem cl_app (x y : Str) : cl (x ++ y) = cl x ++ cl y := by
  show (x.cps ++ y.cps).toList = _
  simp [cl]
theorem cl_ext {x y : Str} (h : cl x = cl y) : x = y := by
  cases x; cases y
  simp only [cl] at h
  congr
  exact Array.ext' h
theorem cl_one (c : Nat) : cl (⟨#[c]⟩ : Str) = [c] := rfl
def cutL {α : Type} (xs : List α) (lo hi : Option Int) : List α := (xs.drop (HT.sIx xs.length 0 lo)).take (HT.sIx xs.length xs.length hi - HT.sIx xs.length 0 lo)
theorem pick_nat (xs : List Nat) (i k : Nat) : ((List.range k).map fun (m : Nat) => ((i : Int) + 1 * (m : Int)).toNat).filterMap (xs[·]?) = (xs.drop i).take k := by
  rw [List.filterMap_map]
  induction k generalizing i with
  | zero => simp
  | succ k ih =>
    rw [List.range_succ_eq_map, List.filterMap_cons, List.filterMap_map]
    have e0 : ((fun x => xs[x]?) ∘ fun m : Nat => ((i : Int) + 1 * (m : Int)).toNat) 0 = xs[i]? := by simp [Function.comp]
    rw [e0]
    have e1 : (((fun x => xs[x]?) ∘ fun m : Nat => ((i : Int) + 1 * (m : Int)).toNat) ∘ Nat.succ) = ((fun x => xs[x]?) ∘ fun m : Nat => (((i + 1 : Nat) : Int) + 1 * (m : Int)).toNat) := by
      funext m
      simp only [Function.comp, Nat.succ_eq_add_one]
      congr 1
      omega
    rw [e1, ih]
    cases h : xs[i]? with
    | none =>
      have hl : xs.length ≤ i := List.getElem?_eq_none_iff.mp h
      simp [List.drop_eq_nil_of_le hl, List.drop_eq_nil_of_le (Nat.le_succ_of_le hl)]
    | some c =>
      obtain ⟨hi, hc⟩ := List.getElem?_eq_some_iff.mp h
      rw [List.drop_eq_getElem_cons hi, List.take_succ_cons, hc]
theorem idx_eq (lo hi : Option Int) (n : Nat) : Builtin.Str.strSliceIndices lo hi 1 n = (List.range (HT.sIx n n hi - HT.sIx n 0 lo)).map fun (m : Nat) => (((HT.sIx n 0 lo : Nat) : Int) + 1 * (m : Int)).toNat := by
  have c : ∀ (v : Option Int) (d : Nat), (match v with | none => (d : Int) | some i => (let i := if i < 0 then i + (n : Int) else i; if (1 : Int) > 0 then max 0 (min i (n : Int)) else max (-1) (min i ((n : Int) - 1)))) = ((HT.sIx n d v : Nat) : Int) := by
    intro v d
    cases v with
    | none => rfl
    | some i =>
      rw [← HT.clip_eq i n d]
      dsimp only
      rw [if_pos (by decide)]
      by_cases hi : i < 0
      · rw [if_pos hi, if_pos hi]; omega
      · rw [if_neg hi, if_neg hi]; omega
  have key : ∀ (x y : Int) (a b : Nat), x = a → y = b → sliceRange x y 1 = (List.range (b - a)).map fun (m : Nat) => ((a : Int) + 1 * (m : Int)).toNat := by
    rintro x y a b rfl rfl
    unfold sliceRange
    dsimp only
    rw [if_pos (by decide)]
    congr 1
    congr 1
    by_cases h : (a : Int) < (b : Int)
    · rw [if_pos h]; omega
    · rw [if_neg h]; omega
  unfold Builtin.Str.strSliceIndices
  dsimp only
  have e1 := c lo 0
  have e2 := c hi n
  dsimp only at e1 e2
  simp only [show (1 : Int) > 0 by decide, if_true] at e1 e2 ⊢
  exact key _ _ _ _ e1 e2
theorem cl_slice (z : Str) (lo hi : Option Int) : cl (Txt.slice z lo hi) = cutL (cl z) lo hi := by
  have hn : (cl z).length = z.length := cl_len z
  unfold Txt.slice cutL
  rw [hn]
  have hle := HT.sIx_le z.length z.length (Nat.le_refl _) hi
  split
  · rename_i h
    rw [idx_eq, List.length_map, List.length_range] at h
    have h' : HT.sIx z.length z.length hi - HT.sIx z.length 0 lo = z.length := by simpa using h
    have h0 : HT.sIx z.length 0 lo = 0 ∨ z.length = 0 := by omega
    rcases h0 with h0 | h0
    · rw [h', h0, List.drop_zero, List.take_of_length_le (by omega)]
    · have : cl z = [] := List.length_eq_zero_iff.mp (by omega)
      rw [this]; simp
  · show (((Builtin.Str.strSliceIndices lo hi 1 z.length).filterMap (z.cps[·]?)).toArray).toList = _
    rw [idx_eq]
    have e : (fun x : Nat => z.cps[x]?) = fun x => (cl z)[x]? := by funext x; simp [cl]
    rw [e]
    exact pick_nat _ _ _
theorem atI_last' {α : Type} (xs : List α) (h : 0 < xs.length) : atI xs (-1) = xs[xs.length - 1]? := by
  unfold atI ixN
  rw [if_neg (by omega), if_pos (by omega)]
  show xs[((-1 : Int) + (xs.length : Int)).toNat]? = _
  congr 1
  omega
end L2
set_option Elab.async false
set_option linter.all false
set_option maxRecDepth 100000
namespace L2
open PySem PySem.Spec PyProof.Rows
section
variable {X : Cx} (K : PySem.W.Frag)
variable {o e : Expr} {es : List Expr} {to : TE} {t : TA} {name : Str} {apos cpos : Pos} {T id : String} {r : V → List V → Hp → VK → Prop}
end
end L2
set_option Elab.async false
set_option linter.all false
set_option maxRecDepth 100000
namespace PySem
open AutoSeq1 (wpAny_loadPart')
section
variable {prog : Program} {w : World} {A : Around} {E : Value → Shared → Prop} {s : Shared}
theorem wpAny_nextOf_tuple_item {it l : Addr} {i : Nat} {items} {x : Value} {Q : Value → Shared → Prop} (hit : s.heap.IsTupleIter it l i)
    (hl : s.heap.IsTuple l items) (hx : items[i]? = some x)
    (hQ : ∀ h', h'.IsTupleIter it l (i + 1) → Heap.SameBut it s.heap h' → Q x { s with heap := h' }) :
    wpAny (model prog w) A (Builtin.SmallTypes.nextOf (.ref it)) Q E s := by
  obtain ⟨o, ho, hc, hd⟩ := id hit
  obtain ⟨ol, hol, _, nl, hdl⟩ := hl
  unfold Builtin.SmallTypes.nextOf
  refine wpAny_bind (wpAny_callSpecial?_slot (name := Str.ofString "__next__") hit.typeIs F.slot_tuple_iterator_next
    (wpAny_call_entry F.slot_tuple_iterator_next hit.typeIs F.entry_tuple_iterator_next ?_ (F.args_tuple_iterator_next_1 _)))
  show wpAny _ _ (field (.ref it) 0 >>= _) _ _ s
  refine wpAny_bind (wpAny_field ho hd (x := .ref l) rfl ?_)
  show wpAny _ _ (if (Value.ref l == Value.none) = true then _ else _) _ _ s
  rw [if_neg (show ¬ ((Value.ref l == Value.none) = true) from Bool.false_ne_true)]
  show wpAny _ _ (field (.ref it) 1 >>= _) _ _ s
  refine wpAny_bind (wpAny_field ho hd (x := .int i 0) rfl ?_)
  show wpAny _ _ (seqItems? (.ref l) >>= _) _ _ s
  refine wpAny_bind (wpAny_seqItems hol hdl ?_)
  simp only [Int.toNat_natCast, hx]
  refine wpAny_bind (wpAny_setField ho hd (by simp) (wpAny_pure ⟨x, rfl, wpAny_pure (hQ _ ?_ (Heap.SameBut.update ..))⟩))
  exact ⟨_, Heap.get?_update_self _ ho (Obj.isFreed_of_fields (Obj.data_mapFields hd _)), (Obj.cls_mapFields ..).trans hc, by
    rw [Obj.data_mapFields hd]; simp [rawInt]⟩
theorem wpAny_nextOf_tuple_end {it l : Addr} {i : Nat} {items} {Q : Value → Shared → Prop} (hh : A.handled = none)
    (hit : s.heap.IsTupleIter it l i) (hl : s.heap.IsTuple l items) (hx : items[i]? = none)
    (hE : ∀ h' e, Heap.ExtBut it s.heap h' → (∃ o, h'.get? e = some o ∧ o.cls = .type "StopIteration") → E (.ref e) { s with heap := h' }) :
    wpAny (model prog w) A (Builtin.SmallTypes.nextOf (.ref it)) Q E s := by
  obtain ⟨o, ho, hc, hd⟩ := id hit
  obtain ⟨ol, hol, _, nl, hdl⟩ := hl
  unfold Builtin.SmallTypes.nextOf
  refine wpAny_bind (wpAny_callSpecial?_slot (name := Str.ofString "__next__") hit.typeIs F.slot_tuple_iterator_next
    (wpAny_call_entry F.slot_tuple_iterator_next hit.typeIs F.entry_tuple_iterator_next ?_ (F.args_tuple_iterator_next_1 _)))
  show wpAny _ _ (field (.ref it) 0 >>= _) _ _ s
  refine wpAny_bind (wpAny_field ho hd (x := .ref l) rfl ?_)
  show wpAny _ _ (if (Value.ref l == Value.none) = true then _ else _) _ _ s
  rw [if_neg (show ¬ ((Value.ref l == Value.none) = true) from Bool.false_ne_true)]
  show wpAny _ _ (field (.ref it) 1 >>= _) _ _ s
  refine wpAny_bind (wpAny_field ho hd (x := .int i 0) rfl ?_)
  show wpAny _ _ (seqItems? (.ref l) >>= _) _ _ s
  refine wpAny_bind (wpAny_seqItems hol hdl ?_)
  simp only [Int.toNat_natCast, hx]
  refine wpAny_bind (wpAny_rule (wpAny_bind (wpAny_setField ho hd (by simp) ?_)))
  show wpAny _ _ (newExc (.type "StopIteration") [] >>= _) _ _ _
  refine wpAny_bind ?_
  simp only [newExc, newTuple]
  refine wpAny_bind (wpAny_newObj_type ?_ (by size_fits))
  refine wpAny_bind (m := firstArgMember _ _) (wpAny_of_eq (a := Value.none) (by first | rfl | (simp only [firstArgMember]; rfl)) ?_)
  refine wpAny_newObj_type ?_ (by size_fits)
  simp only [raiseNew]
  refine wpAny_bind (wpAny_handled ?_)
  first | rw [show A.in1.handled = none from hh] | rw [hh]
  refine wpAny_bind (wpAny_pure (wpAny_throw ?_))
  exact hE _ _ (((Heap.SameBut.update ..).extBut.push _).push _) ⟨_, Heap.get?_push_size _ rfl, rfl⟩
end
theorem Draws.tupleD {prog : Program} {w : World} {A : Around} (hh : A.handled = none) (it l : Addr) (hne : l ≠ it) (items : Array Value) :
    Draws prog w A it [it, l] items.size (fun i v => items[i]? = some v) (fun i h => h.IsTupleIter it l i ∧ h.IsTuple l items) where
  live := fun _ _ st => let ⟨o, ho, _⟩ := st.1; ⟨o, ho⟩
  frame := fun _ _ _ st hk => ⟨st.1.at fun o e => hk it (by simp) o e, let ⟨o, ho, r⟩ := st.2; ⟨o, hk l (by simp) o ho, r⟩⟩
  item := fun i s Q E hi st hQ => by
    refine wpAny_nextOf_tuple_item st.1 st.2 (x := items[i]) (by simp [hi]) fun h' hit' hs' => ?_
    exact hQ _ h' s.toks (by simp [hi]) ⟨hit', st.2.extBut hs'.extBut hne⟩ hs'
  done := fun s Q E st hE => wpAny_nextOf_tuple_end hh st.1 st.2 (by simp) hE
end PySem
set_option Elab.async false
set_option linter.all false
set_option maxRecDepth 100000
namespace L2
open PySem PySem.Spec PyProof.Rows
inductive XD where
  | int (i : Int) | nums (is : List Int)
inductive Dat where
  | non | bl (b : Bool) | int (i : Int) | str (x : Str) | tup (xs : List Dat) | lst (xs : List Dat) | dct (kvs : List (Dat × Dat)) | exc (c : Str) (fs : List (Str × XD))
def clsAt (K : PySem.W.Frag) (c : Str) (C : Addr) : Prop := PySem.W.nsIn K mainGlobals c = some (some (.ref C))
def XIs (e C : Addr) (dct : Option Addr) (h : Heap) : Prop := ∃ o, h.get? e = some o ∧ o.cls = .ref C ∧ o.dict = dct ∧ ∀ c, o.data ≠ .cls c
def XDOk (K : PySem.W.Frag) (H : Hp) : XD → V → Prop
  | .int i, v => v = .int i
  | .nums is, v => ∃ a, v = .ref a ∧ SL K H a (is.map V.int) ∧ is.length ≤ sizeLine
def XFs (K : PySem.W.Frag) (H : Hp) : Option Addr → List (Str × XD) → Prop
  | none, fs => fs = []
  | some dx, fs => ∃ fvs, H dx = some (.xd fvs) ∧ ∀ f, (fs.lookup f = none ∧ fvs.lookup f = none) ∨ ∃ d v, fs.lookup f = some d ∧ fvs.lookup f = some v ∧ XDOk K H d v
def XRp (K : PySem.W.Frag) (H : Hp) (c : Str) (fs : List (Str × XD)) (v : V) : Prop := ∃ e C dct, v = .ref e ∧ H e = some (.ext (XIs e C dct)) ∧ clsAt K c C ∧ XFs K H dct fs
structure SOk (x : Str) : Prop where
  ok : PyData.strOk x = true
  le : x.length ≤ sizeLine
instance (x : Str) : Decidable (SOk x) := decidable_of_iff (PyData.strOk x = true ∧ x.length ≤ sizeLine) ⟨fun h => ⟨h.1, h.2⟩, fun h => ⟨h.ok, h.le⟩⟩
theorem SOk.of {x : Str} (h : PyData.strOk x = true) (h' : x.length ≤ sizeLine) : SOk x := ⟨h, h'⟩
mutual
def Rp (K : PySem.W.Frag) (H : Hp) : Dat → V → Prop
  | .non, v => v = .non
  | .bl b, v => v = .bl b
  | .int i, v => v = .int i
  | .str x, v => v = .str x ∧ SOk x
  | .tup ds, v => ds.length ≤ sizeLine ∧ ∃ a vs, v = .ref a ∧ SqT K H a vs ∧ Rps K H ds vs
  | .lst ds, v => ds.length ≤ sizeLine ∧ ∃ a vs, v = .ref a ∧ SL K H a vs ∧ Rps K H ds vs
  | .dct _, _ => False
  | .exc c fs, v => XRp K H c fs v
def Rps (K : PySem.W.Frag) (H : Hp) : List Dat → List V → Prop
  | [], vs => vs = []
  | d :: ds, vs => ∃ v r, vs = v :: r ∧ Rp K H d v ∧ Rps K H ds r
end
abbrev AS := Addr → Bool
def av (H : Hp) (A : AS) : Hp := fun a => if A a = true then none else H a
theorem av_at {H : Hp} {A : AS} {a : Addr} {o : HO} (h : H a = some o) (hA : A a = false) : av H A a = some o := by unfold av; rw [hA]; exact h
theorem av_of {H : Hp} {A : AS} {a : Addr} {o : HO} (h : av H A a = some o) : A a = false ∧ H a = some o := by
  unfold av at h
  split at h
  · cases h
  · rename_i q; exact ⟨by simpa using q, h⟩
theorem av_same {H : Hp} {A : AS} : Same (av H A) H := fun b o e => (av_of e).2
theorem av_mono {H H' : Hp} {A : AS} (h : Same H H') : Same (av H A) (av H' A) := fun b o e => av_at (h b o (av_of e).2) (av_of e).1
theorem av_less {H : Hp} {A B : AS} (h : ∀ a, B a = true → A a = true) : Same (av H A) (av H B) := fun b o e => by
  obtain ⟨h1, h2⟩ := av_of e
  refine av_at h2 ?_
  cases q : B b with
  | false => rfl
  | true => rw [h b q] at h1; cases h1
def no : AS := fun _ => false
theorem av_no {H : Hp} : av H no = H := by funext a; simp [av, no]
theorem Same.sl {K : PySem.W.Frag} {H H' : Hp} {a : Addr} {xs : List V} (e : Same H H') (h : SL K H a xs) : SL K H' a xs := by
  rcases h with (h | ⟨o, h⟩) | h
  · exact .inl (.inl (e _ _ h))
  · exact .inl (.inr ⟨o, e _ _ h⟩)
  · exact .inr h
theorem SL.sq {K : PySem.W.Frag} {H : Hp} {a : Addr} {xs : List V} (h : SL K H a xs) : SqL K H a xs := by
  rcases h with h | ⟨its, n, h1, h2, h3⟩
  · exact .inl h
  · refine .inr ⟨_, its.toArray, n, h1, rfl, rfl, rfl, ?_, by simpa using h3⟩
    have := h3.length
    simp only [List.size_toArray]; omega
theorem SL.get {X : Cx} {pins : List (Addr × Obj)} {σ : St} {H : Hp} {s : Shared} {a : Addr} {xs : List V} (h : SL X.K H a xs) (I : Inv X pins σ H s) :
    ∃ (its : List Value) (n : Nat), Vals xs its ∧ s.heap.get? a = some { cls := .type "list", data := .seq its.toArray n } ∧ xs.length ≤ sizeLine := by
  rcases h with h | ⟨its, n, h1, h2, h3⟩
  · obtain ⟨z, its, n, r, e⟩ := h.ok I.hok
    exact ⟨its, n, r, e, z⟩
  · exact ⟨its, n, h3, I.kIn _ _ h1, h2⟩
theorem XDOk.mono {K : PySem.W.Frag} {H H' : Hp} (e : Same H H') {d : XD} {v : V} (h : XDOk K H d v) : XDOk K H' d v := by
  cases d with
  | int i => exact h
  | nums is => obtain ⟨a, e1, e2, e3⟩ := h; exact ⟨a, e1, e.sl e2, e3⟩
theorem XFs.mono {K : PySem.W.Frag} {H H' : Hp} (e : Same H H') {dct : Option Addr} {fs : List (Str × XD)} (h : XFs K H dct fs) : XFs K H' dct fs := by
  cases dct with
  | none => exact h
  | some dx =>
    obtain ⟨fvs, e1, e2⟩ := h
    exact ⟨fvs, e _ _ e1, fun f => (e2 f).imp id fun ⟨d, v, a, b, c⟩ => ⟨d, v, a, b, c.mono e⟩⟩
theorem XRp.mono {K : PySem.W.Frag} {H H' : Hp} (e : Same H H') {c : Str} {fs : List (Str × XD)} {v : V} (h : XRp K H c fs v) : XRp K H' c fs v := by
  obtain ⟨x, C, dct, e1, e2, e3, e4⟩ := h
  exact ⟨x, C, dct, e1, e _ _ e2, e3, e4.mono e⟩
mutual
theorem Rp.mono {K : PySem.W.Frag} {H H' : Hp} (e : Same H H') : ∀ {d : Dat} {v : V}, Rp K H d v → Rp K H' d v
  | .non, v, h => by unfold Rp at h ⊢; exact h
  | .bl b, v, h => by unfold Rp at h ⊢; exact h
  | .int i, v, h => by unfold Rp at h ⊢; exact h
  | .str x, v, h => by unfold Rp at h ⊢; exact h
  | .dct _, v, h => by unfold Rp at h; exact h.elim
  | .exc _ _, v, h => by unfold Rp at h ⊢; exact XRp.mono e h
  | .tup ds, v, h => by
    unfold Rp at h ⊢
    obtain ⟨hz, a, vs, e1, e2, e3⟩ := h
    exact ⟨hz, a, vs, e1, e.seqT e2, Rps.mono e e3⟩
  | .lst ds, v, h => by
    unfold Rp at h ⊢
    obtain ⟨hz, a, vs, e1, e2, e3⟩ := h
    exact ⟨hz, a, vs, e1, e.sl e2, Rps.mono e e3⟩
theorem Rps.mono {K : PySem.W.Frag} {H H' : Hp} (e : Same H H') : ∀ {ds : List Dat} {vs : List V}, Rps K H ds vs → Rps K H' ds vs
  | [], vs, h => by unfold Rps at h ⊢; exact h
  | d :: ds, vs, h => by
    unfold Rps at h ⊢
    obtain ⟨v, r, e1, e2, e3⟩ := h
    exact ⟨v, r, e1, Rp.mono e e2, Rps.mono e e3⟩
end
section
variable {K : PySem.W.Frag} {H : Hp}
theorem rps_nil : Rps K H [] [] := by unfold Rps; rfl
theorem rps_cons {d : Dat} {ds : List Dat} {v : V} {vs : List V} (h : Rp K H d v) (t : Rps K H ds vs) : Rps K H (d :: ds) (v :: vs) := by unfold Rps; exact ⟨v, vs, rfl, h, t⟩
theorem rps_of_nil {vs : List V} (h : Rps K H [] vs) : vs = [] := by unfold Rps at h; exact h
theorem rps_of_cons {d : Dat} {ds : List Dat} {vs : List V} (h : Rps K H (d :: ds) vs) : ∃ v r, vs = v :: r ∧ Rp K H d v ∧ Rps K H ds r := by unfold Rps at h; exact h
theorem rps_len : ∀ {ds : List Dat} {vs : List V}, Rps K H ds vs → vs.length = ds.length
  | [], vs, h => by rw [rps_of_nil h]; rfl
  | d :: ds, vs, h => by
    obtain ⟨v, r, e1, e2, e3⟩ := rps_of_cons h
    rw [e1, List.length_cons, List.length_cons, rps_len e3]
theorem rps_get : ∀ {ds : List Dat} {vs : List V} {i : Nat} {d : Dat}, Rps K H ds vs → ds[i]? = some d → ∃ v, vs[i]? = some v ∧ Rp K H d v
  | [], vs, i, d, h, e => by simp at e
  | d' :: ds, vs, 0, d, h, e => by
    obtain ⟨v, r, e1, e2, e3⟩ := rps_of_cons h
    simp at e; subst e
    exact ⟨v, by rw [e1]; rfl, e2⟩
  | d' :: ds, vs, i + 1, d, h, e => by
    obtain ⟨v, r, e1, e2, e3⟩ := rps_of_cons h
    obtain ⟨v', h1, h2⟩ := rps_get (i := i) e3 (by simpa using e)
    exact ⟨v', by rw [e1]; simpa using h1, h2⟩
theorem rps_append : ∀ {ds es : List Dat} {vs us : List V}, Rps K H ds vs → Rps K H es us → Rps K H (ds ++ es) (vs ++ us)
  | [], es, vs, us, h, k => by rw [rps_of_nil h]; exact k
  | d :: ds, es, vs, us, h, k => by
    obtain ⟨v, r, e1, e2, e3⟩ := rps_of_cons h
    subst e1
    exact rps_cons e2 (rps_append e3 k)
theorem rps_take : ∀ (n : Nat) {ds : List Dat} {vs : List V}, Rps K H ds vs → Rps K H (ds.take n) (vs.take n)
  | 0, _, _, _ => by simp only [List.take_zero]; exact rps_nil
  | n + 1, [], vs, h => by rw [rps_of_nil h]; simp only [List.take_nil]; exact rps_nil
  | n + 1, d :: ds, vs, h => by
    obtain ⟨v, r, e1, e2, e3⟩ := rps_of_cons h
    subst e1
    exact rps_cons e2 (rps_take n e3)
theorem rps_drop : ∀ (n : Nat) {ds : List Dat} {vs : List V}, Rps K H ds vs → Rps K H (ds.drop n) (vs.drop n)
  | 0, _, _, h => h
  | n + 1, [], vs, h => by rw [rps_of_nil h]; simp only [List.drop_nil]; exact rps_nil
  | n + 1, d :: ds, vs, h => by
    obtain ⟨v, r, e1, e2, e3⟩ := rps_of_cons h
    subst e1
    exact rps_drop n e3
theorem rps_one {d : Dat} {v : V} (h : Rp K H d v) : Rps K H [d] [v] := rps_cons h rps_nil
theorem rps_ints : ∀ (ns : List Int), Rps K H (ns.map Dat.int) (ns.map V.int)
  | [] => rps_nil
  | n :: ns => rps_cons (by unfold Rp; rfl) (rps_ints ns)
theorem rp_non : Rp K H .non .non := by unfold Rp; rfl
theorem rp_bl {b : Bool} : Rp K H (.bl b) (.bl b) := by unfold Rp; rfl
theorem rp_int {i : Int} : Rp K H (.int i) (.int i) := by unfold Rp; rfl
theorem rp_str {x : Str} (h : SOk x) : Rp K H (.str x) (.str x) := by unfold Rp; exact ⟨rfl, h⟩
theorem rp_tup {a : Addr} {vs : List V} {ds : List Dat} (hz : ds.length ≤ sizeLine) (h : SqT K H a vs) (r : Rps K H ds vs) : Rp K H (.tup ds) (.ref a) := by unfold Rp; exact ⟨hz, a, vs, rfl, h, r⟩
theorem rp_lst {a : Addr} {vs : List V} {ds : List Dat} (hz : ds.length ≤ sizeLine) (h : SL K H a vs) (r : Rps K H ds vs) : Rp K H (.lst ds) (.ref a) := by unfold Rp; exact ⟨hz, a, vs, rfl, h, r⟩
theorem of_non {v : V} (h : Rp K H .non v) : v = .non := by unfold Rp at h; exact h
theorem of_bl {b : Bool} {v : V} (h : Rp K H (.bl b) v) : v = .bl b := by unfold Rp at h; exact h
theorem of_int {i : Int} {v : V} (h : Rp K H (.int i) v) : v = .int i := by unfold Rp at h; exact h
theorem of_str {x : Str} {v : V} (h : Rp K H (.str x) v) : v = .str x ∧ SOk x := by unfold Rp at h; exact h
theorem of_tup {ds : List Dat} {v : V} (h : Rp K H (.tup ds) v) : ∃ a vs, v = .ref a ∧ SqT K H a vs ∧ Rps K H ds vs := by unfold Rp at h; exact h.2
theorem len_tup {ds : List Dat} {v : V} (h : Rp K H (.tup ds) v) : ds.length ≤ sizeLine := by unfold Rp at h; exact h.1
theorem len_lst {ds : List Dat} {v : V} (h : Rp K H (.lst ds) v) : ds.length ≤ sizeLine := by unfold Rp at h; exact h.1
theorem of_lst {ds : List Dat} {v : V} (h : Rp K H (.lst ds) v) : ∃ a vs, v = .ref a ∧ SL K H a vs ∧ Rps K H ds vs := by unfold Rp at h; exact h.2
end
def Pk (K : PySem.W.Frag) (A : AS) (H : Hp) (d : Dat) (v : V) : Prop :=
  Rp K (av H A) d v ∨ ∃ a vs ds, d = .lst ds ∧ v = .ref a ∧ ds.length ≤ sizeLine ∧ H a = some (.lst vs) ∧ Rps K (av H A) ds vs
section
variable {K : PySem.W.Frag} {A : AS} {H H' : Hp} {d : Dat} {v : V}
theorem Pk.mono (e : Same H H') (h : Pk K A H d v) : Pk K A H' d v := by
  rcases h with h | ⟨a, vs, ds, e1, e2, hz, e3, e4⟩
  · exact .inl (h.mono (av_mono e))
  · exact .inr ⟨a, vs, ds, e1, e2, hz, e _ _ e3, e4.mono (av_mono e)⟩
theorem Pk.rp (h : Pk K A H d v) : Rp K H d v := by
  rcases h with h | ⟨a, vs, ds, e1, e2, hz, e3, e4⟩
  · exact h.mono av_same
  · subst e1 e2; exact rp_lst hz (.inl (.inl e3)) (e4.mono av_same)
theorem Pk.lenL {ds : List Dat} (h : Pk K A H (.lst ds) v) : ds.length ≤ sizeLine := len_lst h.rp
theorem Pk.lenT {ds : List Dat} (h : Pk K A H (.tup ds) v) : ds.length ≤ sizeLine := len_tup h.rp
theorem Pk.non (h : Pk K A H .non v) : v = .non := of_non h.rp
theorem Pk.bl {b : Bool} (h : Pk K A H (.bl b) v) : v = .bl b := of_bl h.rp
theorem Pk.int {i : Int} (h : Pk K A H (.int i) v) : v = .int i := of_int h.rp
theorem Pk.str {x : Str} (h : Pk K A H (.str x) v) : v = .str x ∧ SOk x := of_str h.rp
theorem Pk.tup {ds : List Dat} (h : Pk K A H (.tup ds) v) : ∃ a vs, v = .ref a ∧ SqT K H a vs ∧ Rps K (av H A) ds vs := by
  rcases h with h | ⟨a, vs, ds, e1, e2, e3, e4⟩
  · obtain ⟨a, vs, e1, e2, e3⟩ := of_tup h
    exact ⟨a, vs, e1, av_same.seqT e2, e3⟩
  · cases e1
theorem Pk.lst {ds : List Dat} (h : Pk K A H (.lst ds) v) : ∃ a vs, v = .ref a ∧ SL K H a vs ∧ Rps K (av H A) ds vs := by
  rcases h with h | ⟨a, vs, ds', e1, e2, hz, e3, e4⟩
  · obtain ⟨a, vs, e1, e2, e3⟩ := of_lst h
    exact ⟨a, vs, e1, av_same.sl e2, e3⟩
  · cases e1; exact ⟨a, vs, e2, .inl (.inl e3), e4⟩
end
mutual
def eqD : Dat → Dat → Bool
  | .non, .non => true
  | .bl a, .bl b => a == b
  | .bl a, .int j => (if a then 1 else 0) == j
  | .int i, .bl b => i == (if b then 1 else 0)
  | .int i, .int j => i == j
  | .str x, .str y => x == y
  | .lst xs, .lst ys => eqDs xs ys
  | .tup xs, .tup ys => eqDs xs ys
  | _, _ => false
def eqDs : List Dat → List Dat → Bool
  | [], [] => true
  | x :: xs, y :: ys => eqD x y && eqDs xs ys
  | _, _ => false
end
def pd : Nat → Dat → Bool
  | 0, .lst _ => false
  | 0, .tup _ => false
  | n + 1, .lst xs => xs.all (pd n)
  | n + 1, .tup xs => xs.all (pd n)
  | _, .dct _ => false
  | _, .exc _ _ => false
  | _, .non => true
  | _, .bl _ => true
  | _, .int _ => true
  | _, .str _ => true
mutual
def toP : Dat → PyData
  | .non => .none
  | .bl b => .bool b
  | .int i => .int i
  | .str x => .str x
  | .tup xs => .tuple (toPs xs)
  | .lst xs => .list (toPs xs)
  | .dct _ => .none
  | .exc _ _ => .none
def toPs : List Dat → List PyData
  | [] => []
  | x :: xs => toP x :: toPs xs
end
theorem pd_lst {n : Nat} {xs : List Dat} (h : pd n (.lst xs) = true) : ∃ m, n = m + 1 ∧ ∀ x ∈ xs, pd m x = true := by
  cases n with
  | zero => cases h
  | succ n => exact ⟨n, rfl, by simpa [pd] using h⟩
theorem pd_tup {n : Nat} {xs : List Dat} (h : pd n (.tup xs) = true) : ∃ m, n = m + 1 ∧ ∀ x ∈ xs, pd m x = true := by
  cases n with
  | zero => cases h
  | succ n => exact ⟨n, rfl, by simpa [pd] using h⟩
theorem pd_dct {n : Nat} {xs} (h : pd n (.dct xs) = true) : False := by cases n <;> cases h
theorem pd_exc {n : Nat} {c xs} (h : pd n (.exc c xs) = true) : False := by cases n <;> cases h
mutual
theorem eqv_toP : ∀ {n m : Nat} (x y : Dat), pd n x = true → pd m y = true → PyData.eqv (toP x) (toP y) = eqD x y
  | n, m, .dct _, y, h, _ => (pd_dct h).elim
  | n, m, .exc _ _, y, h, _ => (pd_exc h).elim
  | n, m, x, .dct _, _, h => (pd_dct h).elim
  | n, m, x, .exc _ _, _, h => (pd_exc h).elim
  | n, m, .non, .non, _, _ => rfl
  | n, m, .non, .bl _, _, _ => rfl
  | n, m, .non, .int _, _, _ => rfl
  | n, m, .non, .str _, _, _ => rfl
  | n, m, .non, .tup _, _, _ => rfl
  | n, m, .non, .lst _, _, _ => rfl
  | n, m, .bl _, .non, _, _ => rfl
  | n, m, .bl _, .bl _, _, _ => rfl
  | n, m, .bl _, .int _, _, _ => rfl
  | n, m, .bl _, .str _, _, _ => rfl
  | n, m, .bl _, .tup _, _, _ => rfl
  | n, m, .bl _, .lst _, _, _ => rfl
  | n, m, .int _, .non, _, _ => rfl
  | n, m, .int _, .bl _, _, _ => rfl
  | n, m, .int _, .int _, _, _ => rfl
  | n, m, .int _, .str _, _, _ => rfl
  | n, m, .int _, .tup _, _, _ => rfl
  | n, m, .int _, .lst _, _, _ => rfl
  | n, m, .str _, .non, _, _ => rfl
  | n, m, .str _, .bl _, _, _ => rfl
  | n, m, .str _, .int _, _, _ => rfl
  | n, m, .str _, .str _, _, _ => rfl
  | n, m, .str _, .tup _, _, _ => rfl
  | n, m, .str _, .lst _, _, _ => rfl
  | n, m, .lst _, .non, _, _ => rfl
  | n, m, .lst _, .bl _, _, _ => rfl
  | n, m, .lst _, .int _, _, _ => rfl
  | n, m, .lst _, .str _, _, _ => rfl
  | n, m, .lst _, .tup _, _, _ => rfl
  | n, m, .lst xs, .lst ys, h, k => by
    obtain ⟨n', _, hx⟩ := pd_lst h
    obtain ⟨m', _, hy⟩ := pd_lst k
    simp only [toP, PyData.eqv, eqD]
    exact eqvs_toP xs ys hx hy
  | n, m, .tup _, .non, _, _ => rfl
  | n, m, .tup _, .bl _, _, _ => rfl
  | n, m, .tup _, .int _, _, _ => rfl
  | n, m, .tup _, .str _, _, _ => rfl
  | n, m, .tup _, .lst _, _, _ => rfl
  | n, m, .tup xs, .tup ys, h, k => by
    obtain ⟨n', _, hx⟩ := pd_tup h
    obtain ⟨m', _, hy⟩ := pd_tup k
    simp only [toP, PyData.eqv, eqD]
    exact eqvs_toP xs ys hx hy
theorem eqvs_toP : ∀ {n m : Nat} (xs ys : List Dat), (∀ x ∈ xs, pd n x = true) → (∀ y ∈ ys, pd m y = true) → PyData.eqvAll (toPs xs) (toPs ys) = eqDs xs ys
  | n, m, [], [], _, _ => rfl
  | n, m, [], _ :: _, _, _ => rfl
  | n, m, _ :: _, [], _, _ => rfl
  | n, m, x :: xs, y :: ys, hx, hy => by
    simp only [toPs, PyData.eqvAll, eqDs]
    rw [eqv_toP (n := n) (m := m) x y (hx x List.mem_cons_self) (hy y List.mem_cons_self), eqvs_toP (n := n) (m := m) xs ys (fun z hz => hx z (List.mem_cons_of_mem _ hz)) (fun z hz => hy z (List.mem_cons_of_mem _ hz))]
end
mutual
theorem depth_toP : ∀ (n : Nat) (x : Dat), pd n x = true → (toP x).depth ≤ n
  | n, .dct _, h => (pd_dct h).elim
  | n, .exc _ _, h => (pd_exc h).elim
  | n, .non, _ => Nat.zero_le _
  | n, .bl _, _ => Nat.zero_le _
  | n, .int _, _ => Nat.zero_le _
  | n, .str _, _ => Nat.zero_le _
  | n, .lst xs, h => by
    obtain ⟨m, e, hx⟩ := pd_lst h
    subst e
    simp only [toP, PyData.depth]
    exact Nat.succ_le_succ (depths_toP m xs hx)
  | n, .tup xs, h => by
    obtain ⟨m, e, hx⟩ := pd_tup h
    subst e
    simp only [toP, PyData.depth]
    exact Nat.succ_le_succ (depths_toP m xs hx)
theorem depths_toP : ∀ (n : Nat) (xs : List Dat), (∀ x ∈ xs, pd n x = true) → PyData.depthAll (toPs xs) ≤ n
  | n, [], _ => Nat.zero_le _
  | n, x :: xs, h => by
    simp only [toPs, PyData.depthAll]
    exact Nat.max_le.mpr ⟨depth_toP n x (h x List.mem_cons_self), depths_toP n xs fun z hz => h z (List.mem_cons_of_mem _ hz)⟩
end
section
variable {X : Cx} {pins : List (Addr × Obj)} {σ : St} {H : Hp} {s : Shared}
mutual
theorem Rp.reads (I : Inv X pins σ H s) : ∀ {n : Nat} (d : Dat) (v : V) (u : Value), pd n d = true → Rp X.K H d v → RelV v u → ∃ as, Reads s.heap u (toP d) as ∧ (toP d).canLay0 = true
  | n, .dct _, v, u, h, _, _ => (pd_dct h).elim
  | n, .exc _ _, v, u, h, _, _ => (pd_exc h).elim
  | n, .non, v, u, _, i, r => by cases of_non i; cases r; exact ⟨_, .none, rfl⟩
  | n, .bl b, v, u, _, i, r => by cases of_bl i; cases r; exact ⟨_, .bool b, rfl⟩
  | n, .int k, v, u, _, i, r => by cases of_int i; obtain ⟨t, rfl⟩ := r; exact ⟨_, .int k t, rfl⟩
  | n, .str x, v, u, _, i, r => by
    obtain ⟨e, hs⟩ := of_str i
    subst e; obtain ⟨t, rfl⟩ := r
    exact ⟨_, .str x t, hs.ok⟩
  | n, .tup ds, v, u, h, i, r => by
    obtain ⟨m, _, hx⟩ := pd_tup h
    obtain ⟨a, vs, e1, e2, e3⟩ := of_tup i
    subst e1; cases r
    obtain ⟨its, rv, ⟨o, ho, hc, k, hd⟩, _⟩ := I.tuple e2
    obtain ⟨as, ra, hl⟩ := Rps.reads I ds vs its hx e3 rv
    exact ⟨_, .tuple ho hc hd (by simpa using ra), hl⟩
  | n, .lst ds, v, u, h, i, r => by
    obtain ⟨m, _, hx⟩ := pd_lst h
    obtain ⟨a, vs, e1, e2, e3⟩ := of_lst i
    subst e1; cases r
    obtain ⟨its, rv, ⟨o, k, ho, hc, _, hd⟩, _⟩ := I.list e2.sq
    obtain ⟨as, ra, hl⟩ := Rps.reads I ds vs its hx e3 rv
    exact ⟨_, .list ho hc hd (by simpa using ra), hl⟩
theorem Rps.reads (I : Inv X pins σ H s) : ∀ {n : Nat} (ds : List Dat) (vs : List V) (us : List Value), (∀ x ∈ ds, pd n x = true) → Rps X.K H ds vs → Vals vs us → ∃ as, ReadsAll s.heap us (toPs ds) as ∧ PyData.canLayAll0 (toPs ds) = true
  | n, [], vs, us, _, i, r => by
    rw [rps_of_nil i] at r; cases r; exact ⟨_, .nil, rfl⟩
  | n, d :: ds, vs, us, h, i, r => by
    obtain ⟨v, rr, e1, e2, e3⟩ := rps_of_cons i
    subst e1
    cases r with
    | cons r1 r2 =>
      obtain ⟨as, h1, l1⟩ := Rp.reads I d v _ (h d List.mem_cons_self) e2 r1
      obtain ⟨bs, h2, l2⟩ := Rps.reads I ds rr _ (fun z hz => h z (List.mem_cons_of_mem _ hz)) e3 r2
      exact ⟨_, .cons h1 h2, by simp only [toPs, PyData.canLayAll0, l1, l2]; rfl⟩
end
theorem Rp.eqAt (I : Inv X pins σ H s) {A : Around} {n m : Nat} {d e : Dat} {v w : V} {u u' : Value} (hd : pd n d = true) (he : pd m e = true) (hn : n ≤ 60) (hu : A.units + 60 < cLine) (r1 : Rp X.K H d v) (r2 : Rp X.K H e w) (q1 : RelV v u) (q2 : RelV w u') :
    SeqAt.EqAt A s u u' (eqD d e) := by
  obtain ⟨as, a1, a2⟩ := Rp.reads I d v u hd r1 q1
  obtain ⟨bs, b1, b2⟩ := Rp.reads I e w u' he r2 q2
  rw [← eqv_toP d e hd he]
  have := depth_toP n d hd
  exact SeqAt.eqAt_reads _ _ A s u u' as bs a1 b1 a2 b2 (by omega)
end
end L2
set_option Elab.async false
set_option linter.all false
set_option maxRecDepth 100000
namespace L2
open PySem PySem.Spec PyProof.Rows
def Mtb : Option HO → Prop
  | some (.lst _) => True
  | some (.dK _) => True
  | some (.dT _) => True
  | _ => False
def MuOk (A : AS) (H : Hp) : Prop := ∀ a, A a = true → Mtb (H a)
theorem MuOk.new {A : AS} {H : Hp} (m : MuOk A H) {p : Addr} (h : H p = none) : A p = false := by
  cases q : A p with
  | false => rfl
  | true => have := m p q; rw [h] at this; exact this.elim
theorem MuOk.mono {A : AS} {H H' : Hp} (m : MuOk A H) (e : Same H H') : MuOk A H' := fun a h => by
  have := m a h
  cases q : H a with
  | none => rw [q] at this; exact this.elim
  | some o => rw [q] at this; rw [e a o q]; exact this
def ins (A : AS) (p : Addr) : AS := fun a => A a || a == p
theorem ins_self {A : AS} {p : Addr} : ins A p p = true := by simp [ins]
theorem ins_of {A : AS} {p a : Addr} (h : A a = true) : ins A p a = true := by simp [ins, h]
theorem ins_or {A : AS} {p a : Addr} (h : ins A p a = true) : A a = true ∨ a = p := by simpa [ins] using h
theorem ins_ff {A : AS} {p a : Addr} (h : A a = false) (hn : a ≠ p) : ins A p a = false := by simp [ins, h, hn]
structure Step (A : AS) (H : Hp) (A' : AS) (H' : Hp) : Prop where
  keep : ∀ a o, H a = some o → A a = false → H' a = some o
  sub : ∀ a, A' a = true → A a = true ∨ H a = none
theorem Step.refl (A : AS) (H : Hp) : Step A H A H := ⟨fun _ _ h _ => h, fun _ h => .inl h⟩
theorem Step.same {A : AS} {H H' : Hp} (e : Same H H') : Step A H A H' := ⟨fun a o h _ => e a o h, fun _ h => .inl h⟩
theorem Step.trans {A A1 A2 : AS} {H H1 H2 : Hp} (a : Step A H A1 H1) (b : Step A1 H1 A2 H2) : Step A H A2 H2 where
  keep := fun c o h hA => b.keep c o (a.keep c o h hA) (by
    cases q : A1 c with
    | false => rfl
    | true =>
      rcases a.sub c q with z | z
      · rw [z] at hA; cases hA
      · rw [z] at h; cases h)
  sub := fun c h => by
    rcases b.sub c h with z | z
    · exact a.sub c z
    · cases qA : A c with
      | true => exact .inl rfl
      | false =>
        cases q : H c with
        | none => exact .inr rfl
        | some o => rw [a.keep c o q qA] at z; cases z
theorem Step.av {A A' : AS} {H H' : Hp} (s : Step A H A' H') : Same (av H A) (av H' A') := fun b o e => by
  obtain ⟨h1, h2⟩ := av_of e
  refine av_at (s.keep b o h2 h1) ?_
  cases q : A' b with
  | false => rfl
  | true =>
    rcases s.sub b q with z | z
    · rw [z] at h1; cases h1
    · rw [z] at h2; cases h2
inductive Slt where
  | un | fz (d : Dat) | pk (d : Dat) | ow (ds : List Dat)
abbrev Ev := List Slt
def SlotOk (K : PySem.W.Frag) (A : AS) (H : Hp) (o : Addr → Prop) : Slt → Option V → Prop
  | .un, _ => True
  | .fz d, x => ∃ v, x = some v ∧ Rp K (av H A) d v
  | .pk d, x => ∃ v, x = some v ∧ Pk K A H d v
  | .ow ds, x => ∃ a vs, x = some (.ref a) ∧ o a ∧ ds.length ≤ sizeLine ∧ H a = some (.lst vs) ∧ Rps K (av H A) ds vs
structure Bs where
  H₀ : Hp
  R : AS
  st : Bool
structure EnvOk (K : PySem.W.Frag) (B : Bs) (A : AS) (H : Hp) (σ : St) (env : Ev) : Prop where
  h0 : Same B.H₀ H
  r0 : ∀ a, B.R a = true → ∃ o, B.H₀ a = some o
  ra : ∀ a, B.R a = true → A a = true
  ar : ∀ a, A a = true → B.R a = true ∨ B.H₀ a = none
  mu : MuOk A H
  len : σ.length = env.length
  np : B.st = true → ∀ (i : Nat) d, env[i]? ≠ some (.pk d)
  sl : ∃ own : Nat → Addr → Prop, (∀ i j a, own i a → own j a → i = j) ∧ (∀ i a, own i a → A a = true ∧ B.R a = false) ∧
    ∀ (i : Nat) s, env[i]? = some s → ∃ x, σ[i]? = some x ∧ SlotOk K A H (own i) s x
theorem SlotOk.mono {K : PySem.W.Frag} {A : AS} {H H' : Hp} (e : Same H H') {o : Addr → Prop} {s : Slt} {x : Option V} (h : SlotOk K A H o s x) : SlotOk K A H' o s x := by
  cases s with
  | un => trivial
  | fz d => obtain ⟨v, e1, e2⟩ := h; exact ⟨v, e1, e2.mono (av_mono e)⟩
  | pk d => obtain ⟨v, e1, e2⟩ := h; exact ⟨v, e1, e2.mono e⟩
  | ow ds => obtain ⟨a, vs, e1, e2, hz, e3, e4⟩ := h; exact ⟨a, vs, e1, e2, hz, e _ _ e3, e4.mono (av_mono e)⟩
theorem EnvOk.mono {K : PySem.W.Frag} {B : Bs} {A : AS} {H H' : Hp} {σ : St} {env : Ev} (k : EnvOk K B A H σ env) (e : Same H H') : EnvOk K B A H' σ env := by
  obtain ⟨own, h1, h2, h4⟩ := k.sl
  exact ⟨k.h0.trans e, k.r0, k.ra, k.ar, k.mu.mono e, k.len, k.np, own, h1, h2, fun i s q => let ⟨x, q2, q3⟩ := h4 i s q; ⟨x, q2, q3.mono e⟩⟩
def Rm (m : Bool) (K : PySem.W.Frag) (A : AS) (H : Hp) (d : Dat) (v : V) : Prop := match m with
  | true => Pk K A H d v
  | false => Rp K (av H A) d v
theorem Rm.any {m : Bool} {K : PySem.W.Frag} {A : AS} {H : Hp} {d : Dat} {v : V} (h : Rp K (av H A) d v) : Rm m K A H d v := by
  cases m with
  | true => exact .inl h
  | false => exact h
theorem Rm.pk {m : Bool} {K : PySem.W.Frag} {A : AS} {H : Hp} {d : Dat} {v : V} (h : Rm m K A H d v) : Pk K A H d v := by
  cases m with
  | true => exact h
  | false => exact .inl h
theorem Rm.mono {m : Bool} {K : PySem.W.Frag} {A : AS} {H H' : Hp} (e : Same H H') {d : Dat} {v : V} (h : Rm m K A H d v) : Rm m K A H' d v := by
  cases m with
  | true => exact Pk.mono e h
  | false => exact Rp.mono (av_mono e) h
def Rms (m : Bool) (K : PySem.W.Frag) (A : AS) (H : Hp) : List Dat → List V → Prop
  | [], vs => vs = []
  | d :: ds, vs => ∃ v r, vs = v :: r ∧ Rm m K A H d v ∧ Rms m K A H ds r
theorem Rms.mono {m : Bool} {K : PySem.W.Frag} {A : AS} {H H' : Hp} (e : Same H H') : ∀ {ds : List Dat} {vs : List V}, Rms m K A H ds vs → Rms m K A H' ds vs
  | [], _, h => h
  | _ :: _, _, ⟨v, r, e1, e2, e3⟩ => ⟨v, r, e1, e2.mono e, Rms.mono e e3⟩
theorem Rms.rps {K : PySem.W.Frag} {A : AS} {H : Hp} : ∀ {ds : List Dat} {vs : List V}, Rms false K A H ds vs → Rps K (av H A) ds vs
  | [], vs, h => by rw [show vs = [] from h]; exact rps_nil
  | _ :: _, _, ⟨v, r, e1, e2, e3⟩ => by rw [e1]; exact rps_cons e2 (Rms.rps e3)
theorem Rms.one {m : Bool} {K : PySem.W.Frag} {A : AS} {H : Hp} {d : Dat} {vs : List V} (h : Rms m K A H [d] vs) : ∃ v, vs = [v] ∧ Pk K A H d v := by
  obtain ⟨v, r, e1, e2, e3⟩ := h
  exact ⟨v, by rw [e1, show r = [] from e3], e2.pk⟩
theorem Rms.two {m : Bool} {K : PySem.W.Frag} {A : AS} {H : Hp} {d d' : Dat} {vs : List V} (h : Rms m K A H [d, d'] vs) : ∃ v v', vs = [v, v'] ∧ Pk K A H d v ∧ Pk K A H d' v' := by
  obtain ⟨v, r, e1, e2, v', r', e3, e4, e5⟩ := h
  exact ⟨v, v', by rw [e1, e3, show r' = [] from e5], e2.pk, e4.pk⟩
def RegC (m : Bool) (K : PySem.W.Frag) (A : AS) (H : Hp) (d : Dat) (Q : VK) : Prop := ∀ v H', Same H H' → Rm m K A H' d v → Q v H'
def NewC (K : PySem.W.Frag) (A : AS) (H : Hp) (ds : List Dat) (Q : VK) : Prop := ∀ p vs H', ds.length ≤ sizeLine → Same H H' → H p = none → H' p = some (.lst vs) → Rps K (av H' (ins A p)) ds vs → Q (.ref p) H'
section
variable {m : Bool} {K : PySem.W.Frag} {A : AS} {H H' : Hp} {d : Dat} {ds : List Dat} {Q : VK}
theorem RegC.mono (h : RegC m K A H d Q) (e : Same H H') : RegC m K A H' d Q := fun v H2 e2 r => h v H2 (e.trans e2) r
theorem NewC.mono (h : NewC K A H ds Q) (e : Same H H') : NewC K A H' ds Q := fun p vs H2 hz e2 hn hp r => h p vs H2 hz (e.trans e2) (e.free hn) hp r
theorem RegC.any (h : RegC m K A H d Q) : RegC false K A H d Q := fun v H' e r => h v H' e (Rm.any r)
theorem RegC.here {v : V} (h : RegC m K A H d Q) (r : Rp K (av H A) d v) : Q v H := h v H (Same.refl H) (Rm.any r)
theorem RegC.new (h : RegC m K A H (.lst ds) Q) (mu : MuOk A H) : NewC K A H ds Q := fun p vs H' hz e hn hp r => by
  refine h _ H' e (Rm.any (rp_lst hz (.inl (.inl (av_at hp (mu.new hn)))) (r.mono (av_less fun a q => ins_of q))))
theorem NewC.at {vs : List V} (h : NewC K A H ds Q) (hz : ds.length ≤ sizeLine) (r : Rps K (av H A) ds vs) : ∀ p, H p = none → Q (.ref p) (upd H p (.lst vs)) := fun p hp => by
  refine h p vs _ hz (Same.new hp) hp upd_same (r.mono fun b o e => ?_)
  obtain ⟨h1, h2⟩ := av_of e
  have hb : b ≠ p := ne_of_none h2 hp
  exact av_at (by rw [upd_ne hb]; exact h2) (ins_ff h1 hb)
theorem RegC.tup {vs : List V} (h : RegC m K A H (.tup ds) Q) (mu : MuOk A H) (hz : ds.length ≤ sizeLine) (r : Rps K (av H A) ds vs) : ∀ p, H p = none → Q (.ref p) (upd H p (.tup vs)) := fun p hp => by
  refine h _ _ (Same.new hp) (Rm.any (rp_tup hz (.inl (.inl (av_at upd_same (mu.new hp)))) (r.mono (av_mono (Same.new hp)))))
end
def PXd (m : Bool) (X : Cx) (e : Expr) (f : Ev → Option Dat) : Prop := PE X e fun σ H Q => ∃ env R A d, EnvOk X.K R A H σ env ∧ f env = some d ∧ RegC m X.K A H d Q
def PNd (X : Cx) (e : Expr) (f : Ev → Option (List Dat)) : Prop := PE X e fun σ H Q => ∃ env R A ds, EnvOk X.K R A H σ env ∧ f env = some ds ∧ NewC X.K A H ds Q
def PAd (m : Bool) (X : Cx) (es : List Expr) (f : Ev → Option (List Dat)) : Prop := PA X es fun σ H Q => ∃ env R A ds, EnvOk X.K R A H σ env ∧ f env = some ds ∧ ∀ vs H', Same H H' → Rms m X.K A H' ds vs → Q vs H'
def PTd (X : Cx) (e : Expr) (f : Ev → Option Bool) : Prop := PT X e fun σ H Q => ∃ env R A b, EnvOk X.K R A H σ env ∧ f env = some b ∧ ∀ H', Same H H' → Q b H'
def PWd (X : Cx) (e : Expr) (f : Ev → Option Bool) : Prop := PW X e fun σ H Q => ∃ env R A b, EnvOk X.K R A H σ env ∧ f env = some b ∧ ∀ H', Same H H' → Q b H'
theorem PE.weak {X : Cx} {e : Expr} {t t' : TE} (h : PE X e t) (w : ∀ σ H Q, t' σ H Q → t σ H Q) : PE X e t' := fun pins s σ H Q I q => h pins s σ H Q I (w σ H Q q)
theorem PT.weak {X : Cx} {e : Expr} {t t' : TT} (h : PT X e t) (w : ∀ σ H Q, t' σ H Q → t σ H Q) : PT X e t' := fun pins s σ H Q I q => h pins s σ H Q I (w σ H Q q)
theorem PW.weak {X : Cx} {e : Expr} {t t' : TT} (h : PW X e t) (w : ∀ σ H Q, t' σ H Q → t σ H Q) : PW X e t' := fun wh pins s σ H Q I q => h wh pins s σ H Q I (w σ H Q q)
theorem PA.weak {X : Cx} {e : List Expr} {t t' : TA} (h : PA X e t) (w : ∀ σ H Q, t' σ H Q → t σ H Q) : PA X e t' := fun pos pins s σ H Q I q => h pos pins s σ H Q I (w σ H Q q)
theorem PS.weak {X : Cx} {e : Stmt} {t t' : TS} (h : PS X e t) (w : ∀ D σ H, t' D σ H → t D σ H) : PS X e t' := fun pins s σ H D I q => h pins s σ H D I (w D σ H q)
theorem PSs.weak {X : Cx} {e : List Stmt} {t t' : TS} (h : PSs X e t) (w : ∀ D σ H, t' D σ H → t D σ H) : PSs X e t' := fun pins s σ H D I q => h pins s σ H D I (w D σ H q)
section
variable {m : Bool} {X : Cx} {e : Expr} {f : Ev → Option Dat}
theorem PXd.any (h : PXd false X e f) : PXd m X e f := h.weak fun _ _ _ ⟨env, R, A, d, k, q1, q2⟩ => ⟨env, R, A, d, k, q1, q2.any⟩
def dL (g : Ev → Option (List Dat)) : Ev → Option Dat := fun env => (g env).map .lst
theorem PNd.x {g : Ev → Option (List Dat)} (h : PNd X e g) : PXd m X e (dL g) := h.weak fun _ _ _ ⟨env, R, A, d, k, q1, q2⟩ => by
  unfold dL at q1
  cases q : g env with
  | none => rw [q] at q1; cases q1
  | some ds =>
    rw [q] at q1
    cases q1
    exact ⟨env, R, A, ds, k, q, q2.new k.mu⟩
theorem bind_some {α β : Type} {a : Option α} {g : α → Option β} {b : β} (h : a.bind g = some b) : ∃ x, a = some x ∧ g x = some b := by
  cases a with
  | none => cases h
  | some x => exact ⟨x, rfl, h⟩
def dV (i : Nat) : Ev → Option Dat := fun env => match env[i]? with
  | some (.fz d) => some d
  | _ => none
def dP (i : Nat) : Ev → Option Dat := fun env => match env[i]? with
  | some (.fz d) => some d
  | some (.pk d) => some d
  | some (.ow ds) => some (.lst ds)
  | _ => none
theorem EnvOk.fz {R : Bs} {A : AS} {H : Hp} {σ : St} {env : Ev} {i : Nat} {d : Dat} (k : EnvOk X.K R A H σ env) (h : env[i]? = some (.fz d)) : ∃ v, σ[i]? = some (some v) ∧ Rp X.K (av H A) d v := by
  obtain ⟨own, h1, h2, h4⟩ := k.sl
  obtain ⟨x, q2, v, e1, e2⟩ := h4 i _ h
  subst e1
  exact ⟨v, q2, e2⟩
theorem EnvOk.look {R : Bs} {A : AS} {H : Hp} {σ : St} {env : Ev} {i : Nat} {d : Dat} (k : EnvOk X.K R A H σ env) (h : dP i env = some d) : ∃ v, σ[i]? = some (some v) ∧ Pk X.K A H d v := by
  obtain ⟨own, h1, h2, h4⟩ := k.sl
  unfold dP at h
  split at h
  · rename_i z e
    cases h
    obtain ⟨x, q2, v, e1, e2⟩ := h4 i _ e
    subst e1
    exact ⟨v, q2, .inl e2⟩
  · rename_i z e
    cases h
    obtain ⟨x, q2, v, e1, e2⟩ := h4 i _ e
    subst e1
    exact ⟨v, q2, e2⟩
  · rename_i z e
    cases h
    obtain ⟨x, q2, a, vs, e1, e2, hz, e3, e4⟩ := h4 i _ e
    subst e1
    exact ⟨.ref a, q2, .inr ⟨a, vs, z, rfl, rfl, hz, e3, e4⟩⟩
  · cases h
theorem xv (i : Nat) {x : Str} {pos : Pos} (hN : X.N[i]? = some x := by rfl) (hv : Vis X.env.scope x := by first | exact Or.inl rfl | exact Or.inr (Or.inl rfl) | exact Or.inr (Or.inr rfl)) (hd : (x == ("__debug__" : Str)) = false := by decide)
    (hcd : (x == ("__classdict__" : Str)) = false := by decide) : PXd m X (.Name x pos) (dV i) := PXd.any ((pe_var hN hv hd hcd).weak fun σ H Q ⟨env, R, A, d, k, q1, q2⟩ => by
  unfold dV at q1
  split at q1
  · rename_i z e
    cases q1
    obtain ⟨v, h1, h2⟩ := k.fz e
    exact ⟨v, h1, q2.here h2⟩
  · cases q1)
theorem xo (i : Nat) {x : Str} {pos : Pos} (hN : X.N[i]? = some x := by rfl) (hv : Vis X.env.scope x := by first | exact Or.inl rfl | exact Or.inr (Or.inl rfl) | exact Or.inr (Or.inr rfl)) (hd : (x == ("__debug__" : Str)) = false := by decide)
    (hcd : (x == ("__classdict__" : Str)) = false := by decide) : PXd true X (.Name x pos) (dP i) := (pe_var hN hv hd hcd).weak fun σ H Q ⟨env, R, A, d, k, q1, q2⟩ => by
  obtain ⟨v, h1, h2⟩ := k.look q1
  exact ⟨v, h1, q2 v H (Same.refl H) h2⟩
def dC (d : Dat) : Ev → Option Dat := fun _ => some d
theorem xint {i : Int} {j pos} : PXd m X (.Constant (.int i) j pos) (dC (.int i)) := PXd.any (pe_int.weak fun _ _ _ ⟨_, _, _, _, _, q1, q2⟩ => by cases q1; exact q2.here rp_int)
theorem xbl {b : Bool} {j pos} : PXd m X (.Constant (.bool b) j pos) (dC (.bl b)) := PXd.any (pe_bl.weak fun _ _ _ ⟨_, _, _, _, _, q1, q2⟩ => by cases q1; exact q2.here rp_bl)
theorem xstr {x : Str} {j pos} (h : SOk x := by decide +kernel) : PXd m X (.Constant (.str x) j pos) (dC (.str x)) := PXd.any (pe_str.weak fun _ _ _ ⟨_, _, _, _, _, q1, q2⟩ => by cases q1; exact q2.here (rp_str h))
theorem xglob {x : Str} {v : V} {u : Value} {d : Dat} {pos : Pos} (hg : Gl X x) (hm : X.mg x = some u) (r : RelV v u) (hr : ∀ H, Rp X.K H d v) (hd : (x == ("__debug__" : Str)) = false := by decide) : PXd m X (.Name x pos) (dC d) :=
  PXd.any ((pe_glob hg hm r hd).weak fun _ _ _ ⟨_, _, _, _, _, q1, q2⟩ => by cases q1; exact q2.here (hr _))
end
def rD (K : PySem.W.Frag) (F : Dat → Dat → Option Dat) : R2 := fun v u H Q => ∃ A x y d, MuOk A H ∧ F x y = some d ∧ Pk K A H x v ∧ Pk K A H y u ∧ RegC false K A H d Q
def rN (K : PySem.W.Frag) (F : Dat → Dat → Option (List Dat)) : R2 := fun v u H Q => ∃ A x y ds, MuOk A H ∧ F x y = some ds ∧ Pk K A H x v ∧ Pk K A H y u ∧ NewC K A H ds Q
def OpD (X : Cx) (f : Value → Value → Sem Value) (F : Dat → Dat → Option Dat) : Prop := OpR X f (rD X.K F)
def OpN (X : Cx) (f : Value → Value → Sem Value) (F : Dat → Dat → Option (List Dat)) : Prop := OpR X f (rN X.K F)
theorem OpR.weak {X : Cx} {f : Value → Value → Sem Value} {r r' : R2} (h : OpR X f r) (w : ∀ x y H Q, r' x y H Q → r x y H Q) : OpR X f r' := fun pins s σ H x y v u Q I rx ry q => h pins s σ H x y v u Q I rx ry (w _ _ _ _ q)
theorem OpN.d {X : Cx} {f : Value → Value → Sem Value} {F : Dat → Dat → Option (List Dat)} (h : OpN X f F) : OpD X f (fun x y => (F x y).map .lst) := OpR.weak h fun v u H Q ⟨A, x, y, d, mu, e, p1, p2, q⟩ => by
  dsimp only at e
  cases z : F x y with
  | none => rw [z] at e; cases e
  | some ds => rw [z] at e; cases e; exact ⟨A, x, y, ds, mu, z, p1, p2, q.new mu⟩
def dO (F : Dat → Dat → Option α) (f g : Ev → Option Dat) : Ev → Option α := fun env => (f env).bind fun x => (g env).bind fun y => F x y
section
variable {m m1 m2 : Bool} {X : Cx} {a b : Expr} {f g : Ev → Option Dat} {F : Dat → Dat → Option Dat} {G : Dat → Dat → Option (List Dat)} {pos : Pos}
theorem two {r : R2} {σ : St} {H : Hp} {Q : VK} {env : Ev} {R : Bs} {A : AS} {x y : Dat} (k : EnvOk X.K R A H σ env) (e1 : f env = some x) (e2 : g env = some y)
    (h : ∀ v u H2, Same H H2 → Pk X.K A H2 x v → Pk X.K A H2 y u → MuOk A H2 → r v u H2 Q) :
    tOp r (fun σ H Q => ∃ env R A d, EnvOk X.K R A H σ env ∧ f env = some d ∧ RegC m1 X.K A H d Q) (fun σ H Q => ∃ env R A d, EnvOk X.K R A H σ env ∧ g env = some d ∧ RegC m2 X.K A H d Q) σ H Q :=
  ⟨env, R, A, x, k, e1, fun v H1 s1 p1 => ⟨env, R, A, y, k.mono s1, e2, fun u H2 s2 p2 => h v u H2 (s1.trans s2) (p1.pk.mono s2) p2.pk (k.mu.mono (s1.trans s2))⟩⟩
theorem dO_some {α : Type} {F : Dat → Dat → Option α} {env : Ev} {d : α} (h : dO F f g env = some d) : ∃ x y, f env = some x ∧ g env = some y ∧ F x y = some d := by
  obtain ⟨x, e1, h⟩ := bind_some h
  obtain ⟨y, e2, h⟩ := bind_some h
  exact ⟨x, y, e1, e2, h⟩
theorem xop {op : Operator} (ho : OpD X (binaryOp op) F) (ha : PXd m1 X a f) (hb : PXd m2 X b g) : PXd m X (.BinOp a op b pos) (dO F f g) := PXd.any ((pe_op ho ha hb).weak fun σ H Q ⟨env, R, A, d, k, q1, q2⟩ => by
  obtain ⟨x, y, e1, e2, e3⟩ := dO_some q1
  exact two k e1 e2 fun v u H2 s p1 p2 mu => ⟨A, x, y, d, mu, e3, p1, p2, q2.mono s⟩)
theorem xcmp {op : CmpOp} (ho : OpD X (compareOp op) F) (ha : PXd m1 X a f) (hb : PXd m2 X b g) (hm : behindInMarks op b = false) : PXd m X (.Compare a [op] [b] pos) (dO F f g) := PXd.any ((pe_cmpR ho ha hb hm).weak fun σ H Q ⟨env, R, A, d, k, q1, q2⟩ => by
  obtain ⟨x, y, e1, e2, e3⟩ := dO_some q1
  exact two k e1 e2 fun v u H2 s p1 p2 mu => ⟨A, x, y, d, mu, e3, p1, p2, q2.mono s⟩)
def dB (f : Ev → Option Dat) : Ev → Option Bool := fun env => match f env with
  | some (.bl b) => some b
  | _ => none
theorem dB_some {env : Ev} {b : Bool} (h : dB f env = some b) : f env = some (.bl b) := by
  unfold dB at h
  split at h
  · rename_i z e; cases h; exact e
  · cases h
theorem tcmp {op : CmpOp} (ho : OpD X (compareOp op) F) (ha : PXd m1 X a f) (hb : PXd m2 X b g) (hm : behindInMarks op b = false) : PTd X (.Compare a [op] [b] pos) (dB (dO F f g)) := (pt_cmpR ho ha hb hm).weak fun σ H Q ⟨env, R, A, d, k, q1, q2⟩ => by
  obtain ⟨x, y, e1, e2, e3⟩ := dO_some (dB_some q1)
  show tOp (rD X.K F) _ _ σ H (fun x H' => ∃ k, x = .bl k ∧ Q k H')
  exact two k e1 e2 fun v u H2 s p1 p2 mu => ⟨A, x, y, .bl d, mu, e3, p1, p2, fun v H' s' r => ⟨d, r.pk.bl, q2 H' (s.trans s')⟩⟩
theorem xix (ho : IxR X (rD X.K F)) (ha : PXd m1 X a f) (hb : PXd m2 X b g) (hs : PlainIx b) : PXd m X (.Subscript a b pos) (dO F f g) := PXd.any ((pe_ix ho ha hb hs).weak fun σ H Q ⟨env, R, A, d, k, q1, q2⟩ => by
  obtain ⟨x, y, e1, e2, e3⟩ := dO_some q1
  exact two k e1 e2 fun v u H2 s p1 p2 mu => ⟨A, x, y, d, mu, e3, p1, p2, q2.mono s⟩)
end
section
variable {m m1 m2 : Bool} {X : Cx} {a b c : Expr} {rest : List Expr} {f g h : Ev → Option Dat} {t u : Ev → Option Bool} {pos : Pos}
def tAndD (t u : Ev → Option Bool) : Ev → Option Bool := fun env => (t env).bind fun b => if b = true then u env else some false
def tOrD (t u : Ev → Option Bool) : Ev → Option Bool := fun env => (t env).bind fun b => if b = true then some true else u env
def tNotD (t : Ev → Option Bool) : Ev → Option Bool := fun env => (t env).map (!·)
theorem w_and1 (ha : PTd X a t) : PWd X (.BoolOp .And [a] pos) t := pw_and1 ha
theorem w_or1 (ha : PTd X a t) : PWd X (.BoolOp .Or [a] pos) t := pw_or1 ha
theorem w_and (ha : PTd X a t) (hb : PWd X (.BoolOp .And (b :: rest) pos) u) : PWd X (.BoolOp .And (a :: b :: rest) pos) (tAndD t u) := (pw_and ha hb).weak fun σ H Q ⟨env, R, A, d, k, q1, q2⟩ => by
  obtain ⟨x, e1, e2⟩ := bind_some q1
  refine ⟨env, R, A, x, k, e1, fun H1 s1 => ?_⟩
  cases x with
  | true =>
    rw [if_pos rfl] at e2 ⊢
    exact ⟨env, R, A, d, k.mono s1, e2, fun H2 s2 => q2 H2 (s1.trans s2)⟩
  | false =>
    rw [if_neg Bool.false_ne_true] at e2 ⊢
    cases e2
    exact q2 H1 s1
theorem w_or (ha : PTd X a t) (hb : PWd X (.BoolOp .Or (b :: rest) pos) u) : PWd X (.BoolOp .Or (a :: b :: rest) pos) (tOrD t u) := (pw_or ha hb).weak fun σ H Q ⟨env, R, A, d, k, q1, q2⟩ => by
  obtain ⟨x, e1, e2⟩ := bind_some q1
  refine ⟨env, R, A, x, k, e1, fun H1 s1 => ?_⟩
  cases x with
  | true =>
    rw [if_pos rfl] at e2 ⊢
    cases e2
    exact q2 H1 s1
  | false =>
    rw [if_neg Bool.false_ne_true] at e2 ⊢
    exact ⟨env, R, A, d, k.mono s1, e2, fun H2 s2 => q2 H2 (s1.trans s2)⟩
theorem PWd.pt {e : Expr} (h : PWd X e t) : PTd X e t := PW.pt h
theorem tnot (ha : PTd X a t) : PTd X (.UnaryOp .Not a pos) (tNotD t) := (pt_not ha).weak fun σ H Q ⟨env, R, A, d, k, q1, q2⟩ => by
  unfold tNotD at q1
  cases e : t env with
  | none => rw [e] at q1; cases q1
  | some x =>
    rw [e] at q1
    cases q1
    exact ⟨env, R, A, x, k, e, fun H1 s1 => q2 H1 s1⟩
def dAnd (f g : Ev → Option Dat) : Ev → Option Dat := fun env => (dB f env).bind fun b => if b = true then g env else some (.bl false)
def dNot (f : Ev → Option Dat) : Ev → Option Dat := fun env => (dB f env).map fun b => .bl (!b)
def dIf (t : Ev → Option Bool) (f g : Ev → Option Dat) : Ev → Option Dat := fun env => (t env).bind fun b => if b = true then f env else g env
theorem xif (hc : PTd X c t) (ha : PXd m X a f) (hb : PXd m X b g) : PXd m X (.IfExp c a b pos) (dIf t f g) := (pe_ifExp hc ha hb).weak fun σ H Q ⟨env, R, A, d, k, q1, q2⟩ => by
  obtain ⟨x, e1, e2⟩ := bind_some q1
  refine ⟨env, R, A, x, k, e1, fun H1 s1 => ?_⟩
  cases x with
  | true =>
    rw [if_pos rfl] at e2 ⊢
    exact ⟨env, R, A, d, k.mono s1, e2, q2.mono s1⟩
  | false =>
    rw [if_neg Bool.false_ne_true] at e2 ⊢
    exact ⟨env, R, A, d, k.mono s1, e2, q2.mono s1⟩
def truD : Dat → Option Bool
  | .non => some false
  | .bl b => some b
  | .int i => some (i != 0)
  | .str y => some ((y.length : Int) != 0)
  | .lst xs => some (!xs.isEmpty)
  | .tup xs => some (!xs.isEmpty)
  | _ => none
def dT (f : Ev → Option Dat) : Ev → Option Bool := fun env => (f env).bind truD
theorem rps_isEmpty {K : PySem.W.Frag} {H : Hp} {ds : List Dat} {vs : List V} (r : Rps K H ds vs) : vs.isEmpty = ds.isEmpty := by
  cases ds with
  | nil => rw [rps_of_nil r]; rfl
  | cons d ds => obtain ⟨v, r', e, _⟩ := rps_of_cons r; rw [e]; rfl
theorem tval (ha : PXd true X a f) (he : ∀ whole, isTrue a X.env whole = (do let v ← whole; standAt a.pos; holding [v] (truthy v)) := by intro _; rfl) : PTd X a (dT f) := (pt_truth ha he).weak fun σ H Q ⟨env, R, A, b, k, q1, q2⟩ => by
  obtain ⟨x, e1, e2⟩ := bind_some q1
  refine ⟨env, R, A, x, k, e1, fun v H1 s1 p1 => ⟨b, ?_, q2 H1 s1⟩⟩
  have p : Pk X.K A H1 x v := p1
  cases x with
  | non => cases e2; rw [p.non]; rfl
  | bl b' => cases e2; rw [p.bl]; rfl
  | int i => cases e2; rw [p.int]; rfl
  | str y => cases e2; obtain ⟨e, h⟩ := p.str; rw [e]; exact ⟨h.le, rfl⟩
  | lst xs => cases e2; obtain ⟨a', vs, e, h1, h2⟩ := p.lst; rw [e]; exact .inl ⟨vs, h1.sq, by rw [rps_isEmpty h2]⟩
  | tup xs => cases e2; obtain ⟨a', vs, e, h1, h2⟩ := p.tup; rw [e]; exact .inr (.inl ⟨vs, h1, by rw [rps_isEmpty h2]⟩)
  | dct _ => cases e2
  | exc _ _ => cases e2
end
section
variable {m : Bool} {X : Cx} {e : Expr} {es : List Expr} {f : Ev → Option Dat} {fs : Ev → Option (List Dat)} {pos : Pos}
def aNil : Ev → Option (List Dat) := fun _ => some []
def aCons (f : Ev → Option Dat) (fs : Ev → Option (List Dat)) : Ev → Option (List Dat) := fun env => (f env).bind fun d => (fs env).map fun ds => d :: ds
theorem a_nil : PAd m X [] aNil := pa_nil.weak fun σ H Q ⟨env, R, A, ds, k, q1, q2⟩ => by cases q1; exact q2 [] H (Same.refl H) rfl
theorem a_cons (ha : PXd m X e f) (hr : PAd m X es fs) (hs : starEach (e :: es) X.env = (false, eval e X.env) :: starEach es X.env := by rfl) : PAd m X (e :: es) (aCons f fs) := (pa_cons ha hr hs).weak fun σ H Q ⟨env, R, A, ds, k, q1, q2⟩ => by
  obtain ⟨d, e1, e2⟩ := bind_some q1
  cases e3 : fs env with
  | none => rw [e3] at e2; cases e2
  | some r =>
    rw [e3] at e2
    cases e2
    exact ⟨env, R, A, d, k, e1, fun v H1 s1 p1 => ⟨env, R, A, r, k.mono s1, e3, fun vs H2 s2 p2 => q2 (v :: vs) H2 (s1.trans s2) ⟨v, vs, rfl, p1.mono s2, p2⟩⟩⟩
def aTup (fs : Ev → Option (List Dat)) : Ev → Option Dat := fun env => (fs env).bind fun ds => if ds.length ≤ 1000 then some (.tup ds) else none
def aLst (fs : Ev → Option (List Dat)) : Ev → Option (List Dat) := fun env => (fs env).bind fun ds => if ds.length ≤ 1000 then some ds else none
theorem xtup {x1} (h : PAd false X es fs) : PXd m X (.Tuple es x1 pos) (aTup fs) := PXd.any ((pe_tup h).weak fun σ H Q ⟨env, R, A, d, k, q1, q2⟩ => by
  obtain ⟨ds, e1, e2⟩ := bind_some q1
  split at e2
  · rename_i hz
    cases e2
    have hz' : ds.length ≤ sizeLine := Nat.le_of_lt (small1000 hz)
    refine ⟨env, R, A, ds, k, e1, fun vs H1 s1 p1 => ⟨?_, (q2.mono s1).tup (k.mu.mono s1) hz' p1.rps⟩⟩
    rw [rps_len p1.rps]; exact hz'
  · cases e2)
theorem nlst (h : PAd false X es fs) : PNd X (.List es pos) (aLst fs) := (pe_lst h).weak fun σ H Q ⟨env, R, A, d, k, q1, q2⟩ => by
  obtain ⟨ds, e1, e2⟩ := bind_some q1
  split at e2
  · rename_i hz
    cases e2
    have hz' : d.length ≤ sizeLine := Nat.le_of_lt (small1000 hz)
    refine ⟨env, R, A, d, k, e1, fun vs H1 s1 p1 => ⟨?_, (q2.mono s1).at hz' p1.rps⟩⟩
    rw [rps_len p1.rps]; exact hz'
  · cases e2
def CallD (X : Cx) (f : Value) (F : List Dat → Option Dat) : Prop := CallR X f (fun vs H Q => ∃ A ds d, MuOk A H ∧ F ds = some d ∧ Rms true X.K A H ds vs ∧ RegC false X.K A H d Q)
def CallN (X : Cx) (f : Value) (F : List Dat → Option (List Dat)) : Prop := CallR X f (fun vs H Q => ∃ A ds d, MuOk A H ∧ F ds = some d ∧ Rms true X.K A H ds vs ∧ NewC X.K A H d Q)
theorem CallR.weak {f : Value} {r r' : List V → Hp → VK → Prop} (h : CallR X f r) (w : ∀ xs H Q, r' xs H Q → r xs H Q) : CallR X f r' := fun pins s σ H xs us Q I rv q => h pins s σ H xs us Q I rv (w _ _ _ q)
theorem CallN.d {f : Value} {F : List Dat → Option (List Dat)} (h : CallN X f F) : CallD X f (fun ds => (F ds).map .lst) := CallR.weak h fun vs H Q ⟨A, ds, d, mu, e1, p, q⟩ => by
  dsimp only at e1
  cases e : F ds with
  | none => rw [e] at e1; cases e1
  | some r => rw [e] at e1; cases e1; exact ⟨A, ds, r, mu, e, p, q.new mu⟩
def dF (F : List Dat → Option α) (fs : Ev → Option (List Dat)) : Ev → Option α := fun env => (fs env).bind F
variable {x : Str} {p : Pos} {id T : String} {F : List Dat → Option Dat} {G : List Dat → Option (List Dat)}
theorem xcallB (hc : CallD X (.builtin id) F) (hg : Gl X x) (hm : X.mg x = none) (hv : bootBuiltins x = some (.builtin id)) (ha : PAd true X (e :: es) fs) (hn : x ≠ "__name__" := by decide) (hdb : (x == ("__debug__" : Str)) = false := by decide)
    (he : starEach (e :: es) X.env = (false, eval e X.env) :: starEach es X.env := by rfl) (hpl : (backTo pos (starEach es X.env)).any (·.1) = false := by rfl) : PXd m X (.Call (.Name x p) (e :: es) [] pos) (dF F fs) :=
  PXd.any ((pe_callB hc hg hm hv ha hn hdb he hpl).weak fun σ H Q ⟨env, R, A, d, k, q1, q2⟩ => by
    obtain ⟨ds, e1, e2⟩ := bind_some q1
    exact ⟨env, R, A, ds, k, e1, fun vs H1 s1 p1 => ⟨A, ds, d, k.mu.mono s1, e2, p1, q2.mono s1⟩⟩)
theorem xcallT (hc : CallD X (.type T) F) (hg : Gl X x) (hm : X.mg x = none) (hv : bootBuiltins x = some (.type T)) (ha : PAd true X (e :: es) fs) (hn : x ≠ "__name__" := by decide) (hdb : (x == ("__debug__" : Str)) = false := by decide)
    (he : starEach (e :: es) X.env = (false, eval e X.env) :: starEach es X.env := by rfl) (hpl : (backTo pos (starEach es X.env)).any (·.1) = false := by rfl) : PXd m X (.Call (.Name x p) (e :: es) [] pos) (dF F fs) :=
  PXd.any ((pe_callTy hc hg hm hv ha hn hdb he hpl).weak fun σ H Q ⟨env, R, A, d, k, q1, q2⟩ => by
    obtain ⟨ds, e1, e2⟩ := bind_some q1
    exact ⟨env, R, A, ds, k, e1, fun vs H1 s1 p1 => ⟨A, ds, d, k.mu.mono s1, e2, p1, q2.mono s1⟩⟩)
end
section
variable {m m1 : Bool} {X : Cx} {o e : Expr} {es : List Expr} {f : Ev → Option Dat} {fs : Ev → Option (List Dat)} {pos apos cpos : Pos} {name : Str} {T id : String} {α : Type}
def tyOk (T : String) : Dat → Bool
  | .str _ => T == "str"
  | .int _ => T == "int"
  | .lst _ => T == "list"
  | _ => false
theorem tyOk_v {K : PySem.W.Frag} {A : AS} {H : Hp} {d : Dat} {v : V} (h : tyOk T d = true) (p : Pk K A H d v) : tyV K T v H := by
  cases d with
  | str x => rw [p.str.1]; show T = "str"; simpa [tyOk] using h
  | int x => rw [p.int]; show T = "int"; simpa [tyOk] using h
  | lst x => obtain ⟨a, vs, e, h1, h2⟩ := p.lst; rw [e]; exact .inl ⟨by simpa [tyOk] using h, vs, h1.sq⟩
  | _ => cases h
def MtD (X : Cx) (id : String) (F : Dat → List Dat → Option Dat) : Prop := MtR X id (fun v vs H Q => ∃ A x ds d, MuOk A H ∧ F x ds = some d ∧ Pk X.K A H x v ∧ Rms true X.K A H ds vs ∧ RegC false X.K A H d Q)
def dM (T : String) (F : Dat → List Dat → Option α) (f : Ev → Option Dat) (fs : Ev → Option (List Dat)) : Ev → Option α := fun env => (f env).bind fun x => if tyOk T x = true then (fs env).bind fun ds => F x ds else none
theorem dM_some {F : Dat → List Dat → Option α} {env : Ev} {d : α} (h : dM T F f fs env = some d) : ∃ x ds, f env = some x ∧ tyOk T x = true ∧ fs env = some ds ∧ F x ds = some d := by
  obtain ⟨x, e1, h⟩ := bind_some h
  split at h
  · rename_i ht
    obtain ⟨ds, e2, h⟩ := bind_some h
    exact ⟨x, ds, e1, ht, e2, h⟩
  · cases h
theorem MtR.weak {r r' : V → List V → Hp → VK → Prop} (h : MtR X id r) (w : ∀ x xs H Q, r' x xs H Q → r x xs H Q) : MtR X id r' := fun pins s σ H x xs v us Q I rx rv q => h pins s σ H x xs v us Q I rx rv (w _ _ _ _ q)
variable {F : Dat → List Dat → Option Dat} {G : Dat → List Dat → Option (List Dat)}
theorem xbm (pa : PlainAttrs T) (slot : Slot T name id) (hty : typeOf (.builtin id) = pure (.type "method_descriptor")) (hm : MtD X id F) (ho : PXd m1 X o f) (ha : PAd true X (e :: es) fs)
    (hbase : attributeBase o name X.env (eval o X.env) = eval o X.env := by rfl)
    (hfew : ((backTo cpos (starEach (e :: es) X.env)).all (fun x => !x.1) && (backToKw cpos (keywordEach [] X.env)).all (fun x => x.1.isSome)
      && decide ((e :: es).length + ([] : List Keyword).length + (if ([] : List Keyword).isEmpty then 0 else 1) < 30)) = true := by rfl)
    (hline : (apos.endLine == cpos.line) = true := by rfl) (hs : starEach (e :: es) X.env = (false, eval e X.env) :: starEach es X.env := by rfl) (hplain : (backTo cpos (starEach es X.env)).any (·.1) = false := by rfl) :
    PXd m X (.Call (.Attribute o name apos) (e :: es) [] cpos) (dM T F f fs) := PXd.any ((pe_bm pa slot hty hm ho ha hbase hfew hline hs hplain).weak fun σ H Q ⟨env, R, A, d, k, q1, q2⟩ => by
  obtain ⟨x, ds, e1, ht, e2, e3⟩ := dM_some q1
  exact ⟨env, R, A, x, k, e1, fun v H1 s1 p1 => ⟨tyOk_v ht p1.pk, env, R, A, ds, k.mono s1, e2, fun vs H2 s2 p2 => ⟨A, x, ds, d, k.mu.mono (s1.trans s2), e3, p1.pk.mono s2, p2, q2.mono (s1.trans s2)⟩⟩⟩)
def dM0 (T : String) (F : Dat → List Dat → Option α) (f : Ev → Option Dat) : Ev → Option α := fun env => (f env).bind fun x => if tyOk T x = true then F x [] else none
theorem xbm0 (pa : PlainAttrs T) (slot : Slot T name id) (hty : typeOf (.builtin id) = pure (.type "method_descriptor")) (hm : MtD X id F) (ho : PXd m1 X o f)
    (hbase : attributeBase o name X.env (eval o X.env) = eval o X.env := by rfl) (hline : (apos.endLine == cpos.line) = true := by rfl) : PXd m X (.Call (.Attribute o name apos) [] [] cpos) (dM0 T F f) :=
  PXd.any ((pe_bm0 pa slot hty hm ho hbase hline).weak fun σ H Q ⟨env, R, A, d, k, q1, q2⟩ => by
  obtain ⟨x, e1, h⟩ := bind_some q1
  split at h
  · rename_i ht
    exact ⟨env, R, A, x, k, e1, fun v H1 s1 p1 => ⟨tyOk_v ht p1.pk, A, x, [], d, k.mu.mono s1, h, p1.pk, rfl, q2.mono s1⟩⟩
  · cases h)
def POd (X : Cx) (e : Option Expr) (f : Ev → Option (Option Int)) : Prop := PO X e fun σ H Q => ∃ env R A i, EnvOk X.K R A H σ env ∧ f env = some i ∧ ∀ H', Same H H' → Q i H'
def oNone : Ev → Option (Option Int) := fun _ => some none
def oSome (f : Ev → Option Dat) : Ev → Option (Option Int) := fun env => match f env with
  | some (.int i) => some (some i)
  | _ => none
theorem PO.weak {e : Option Expr} {t t' : TO} (h : PO X e t) (w : ∀ σ H Q, t' σ H Q → t σ H Q) : PO X e t' := fun pins s σ H Q I q => h pins s σ H Q I (w σ H Q q)
theorem o_none : POd X none oNone := po_none.weak fun σ H Q ⟨env, R, A, i, k, q1, q2⟩ => by cases q1; exact q2 H (Same.refl H)
theorem o_some (h : PXd m X e f) : POd X (some e) (oSome f) := (po_some h).weak fun σ H Q ⟨env, R, A, i, k, q1, q2⟩ => by
  unfold oSome at q1
  split at q1
  · rename_i n e1
    cases q1
    exact ⟨env, R, A, _, k, e1, fun v H1 s1 p1 => ⟨n, p1.pk.int, q2 H1 s1⟩⟩
  · cases q1
def SlD (X : Cx) (F : Dat → Option Int → Option Int → Option Dat) : Prop := SlR X (fun v lo hi H Q => ∃ A x d, MuOk A H ∧ F x lo hi = some d ∧ Pk X.K A H x v ∧ RegC false X.K A H d Q)
def dS (F : Dat → Option Int → Option Int → Option α) (f : Ev → Option Dat) (g h : Ev → Option (Option Int)) : Ev → Option α := fun env => (f env).bind fun x => (g env).bind fun l => (h env).bind fun u => F x l u
variable {lo hi : Option Expr} {gl gh : Ev → Option (Option Int)} {p2 : Pos}
theorem dS_some {F : Dat → Option Int → Option Int → Option α} {env : Ev} {d : α} (h : dS F f gl gh env = some d) : ∃ x l u, f env = some x ∧ gl env = some l ∧ gh env = some u ∧ F x l u = some d := by
  obtain ⟨x, e1, h⟩ := bind_some h
  obtain ⟨l, e2, h⟩ := bind_some h
  obtain ⟨u, e3, h⟩ := bind_some h
  exact ⟨x, l, u, e1, e2, e3, h⟩
theorem xslice {F : Dat → Option Int → Option Int → Option Dat} (hr : SlD X F) (he : PXd m1 X e f) (hl : POd X lo gl) (hu : POd X hi gh) : PXd m X (.Subscript e (.Slice lo hi none p2) pos) (dS F f gl gh) := PXd.any ((pe_slice hr he hl hu).weak fun σ H Q ⟨env, R, A, d, k, q1, q2⟩ => by
  obtain ⟨x, l, u, e1, e2, e3, e4⟩ := dS_some q1
  exact ⟨env, R, A, x, k, e1, fun v H1 s1 p1 => ⟨env, R, A, l, k.mono s1, e2, fun H2 s2 => ⟨env, R, A, u, k.mono (s1.trans s2), e3, fun H3 s3 => ⟨A, x, d, k.mu.mono ((s1.trans s2).trans s3), e4, p1.pk.mono (s2.trans s3), q2.mono ((s1.trans s2).trans s3)⟩⟩⟩⟩)
def UnD (X : Cx) (g : Value → Sem Value) (F : Dat → Option Dat) : Prop := UnR X g (fun v H Q => ∃ A x d, MuOk A H ∧ F x = some d ∧ Pk X.K A H x v ∧ RegC false X.K A H d Q)
def dU (F : Dat → Option Dat) (f : Ev → Option Dat) : Ev → Option Dat := fun env => (f env).bind F
theorem xun {op : UnaryOp} {F : Dat → Option Dat} (ho : UnD X (unaryOp op) F) (ha : PXd m1 X e f) : PXd m X (.UnaryOp op e pos) (dU F f) := PXd.any ((pe_un ho ha).weak fun σ H Q ⟨env, R, A, d, k, q1, q2⟩ => by
  obtain ⟨x, e1, e2⟩ := bind_some q1
  exact ⟨env, R, A, x, k, e1, fun v H1 s1 p1 => ⟨A, x, d, k.mu.mono s1, e2, p1.pk, q2.mono s1⟩⟩)
end
end L2
set_option Elab.async false
set_option linter.all false
set_option maxRecDepth 100000
namespace L2
open PySem PySem.Spec PyProof.Rows
section
variable {X : Cx}
def iop (C : Int → Int → Prop) [∀ i j, Decidable (C i j)] (g : Int → Int → Dat) : Dat → Dat → Option Dat
  | .int i, .int j => if C i j then some (g i j) else none
  | _, _ => none
theorem op_i {f : Value → Value → Sem Value} {C : Int → Int → Prop} [∀ i j, Decidable (C i j)] {g : Int → Int → V} {G : Int → Int → Dat} (h : OpR X f (rI C g)) (hg : ∀ K H i j, Rp K H (G i j) (g i j)) : OpD X f (iop C G) := h.weak fun v u H Q ⟨A, x, y, d, mu, e, p1, p2, q⟩ => by
  unfold iop at e
  split at e
  · rename_i i j
    split at e
    · rename_i hc
      cases e
      exact ⟨i, j, p1.int, p2.int, hc, q.here (hg _ _ _ _)⟩
    · cases e
  · cases e
theorem op_i0 {f : Value → Value → Sem Value} {g : Int → Int → V} {G : Int → Int → Dat} (h : OpR X f (rI0 g)) (hg : ∀ K H i j, Rp K H (G i j) (g i j)) : OpD X f (iop (fun _ _ => True) G) := h.weak fun v u H Q ⟨A, x, y, d, mu, e, p1, p2, q⟩ => by
  unfold iop at e
  split at e
  · rename_i i j
    rw [if_pos trivial] at e
    cases e
    exact ⟨i, j, p1.int, p2.int, q.here (hg _ _ _ _)⟩
  · cases e
instance : ∀ i j, Decidable (CMul i j) := fun i j => by unfold CMul; infer_instance
instance : ∀ i j, Decidable (CDiv i j) := fun i j => by unfold CDiv; infer_instance
instance : ∀ i j, Decidable (CPow i j) := fun i j => by unfold CPow; infer_instance
def fdivD := iop CDiv fun i j => .int (i / j)
def modD := iop (fun _ j => 0 < j) fun i j => .int (i % j)
def powD := iop CPow fun i j => .int (i ^ j.toNat)
def shlD := iop CPow fun i j => .int (i * 2 ^ j.toNat)
def shrD := iop (fun _ j => 0 ≤ j) fun i j => .int (i / 2 ^ j.toNat)
def andD := iop (fun _ _ => True) fun i j => .int (Builtin.bitAnd i j)
def orD := iop (fun _ _ => True) fun i j => .int (Builtin.bitOr i j)
def ltD := iop (fun _ _ => True) fun i j => .bl (decide (i < j))
def gtD := iop (fun _ _ => True) fun i j => .bl (decide (j < i))
theorem o_fdiv : OpD X (binaryOp .FloorDiv) fdivD := op_i op_fdiv fun _ _ _ _ => rp_int
theorem o_mod : OpD X (binaryOp .Mod) modD := op_i op_mod fun _ _ _ _ => rp_int
theorem o_shl : OpD X (binaryOp .LShift) shlD := op_i op_shl fun _ _ _ _ => rp_int
theorem o_shr : OpD X (binaryOp .RShift) shrD := op_i op_shr fun _ _ _ _ => rp_int
theorem o_and : OpD X (binaryOp .BitAnd) andD := op_i0 op_and fun _ _ _ _ => rp_int
theorem o_gt : OpD X (compareOp .Gt) gtD := op_i0 op_gt fun _ _ _ _ => rp_bl
theorem OpD.or {f : Value → Value → Sem Value} {F G E : Dat → Dat → Option Dat} (h : OpD X f F) (h' : OpD X f G) (he : ∀ x y d, E x y = some d → F x y = some d ∨ G x y = some d) : OpD X f E := fun pins s σ H x y v u Q I rx ry ⟨A, a, b, d, mu, e, p1, p2, q⟩ => by
  rcases he _ _ _ e with e | e
  · exact h pins s σ H x y v u Q I rx ry ⟨A, a, b, d, mu, e, p1, p2, q⟩
  · exact h' pins s σ H x y v u Q I rx ry ⟨A, a, b, d, mu, e, p1, p2, q⟩
def negD : Dat → Option Dat
  | .int i => some (.int (-i))
  | _ => none
theorem UnR.weak {f : Value → Sem Value} {r r' : V → Hp → VK → Prop} (h : UnR X f r) (w : ∀ x H Q, r' x H Q → r x H Q) : UnR X f r' := fun pins s σ H x v Q I rx q => h pins s σ H x v Q I rx (w _ _ _ q)
theorem u_neg : UnD X (unaryOp .USub) negD := UnR.weak un_neg fun v H Q ⟨A, x, d, mu, e, p, q⟩ => by
  unfold negD at e
  split at e
  · cases e; exact ⟨_, p.int, q.here rp_int⟩
  · cases e
theorem strOk_of {x : Str} (h : ∀ c ∈ cl x, c < 0x110000) : PyData.strOk x = true := by
  unfold PyData.strOk
  rw [Array.all_eq_true']
  intro c hc
  exact decide_eq_true (h c (by simpa [cl] using hc))
theorem strOk_at {x : Str} (h : PyData.strOk x = true) : ∀ c ∈ cl x, c < 0x110000 := by
  unfold PyData.strOk at h
  rw [Array.all_eq_true'] at h
  intro c hc
  exact of_decide_eq_true (h c (by simpa [cl] using hc))
theorem strOk_app {x y : Str} (h : PyData.strOk x = true) (k : PyData.strOk y = true) : PyData.strOk (x ++ y) = true := strOk_of fun c hc => by
  rw [cl_app] at hc
  rcases List.mem_append.mp hc with z | z
  · exact strOk_at h c z
  · exact strOk_at k c z
theorem len_app (x y : Str) : (x ++ y).length = x.length + y.length := by rw [← cl_len, cl_app, List.length_append, cl_len, cl_len]
def addS : Dat → Dat → Option Dat
  | .str x, .str y => if x.length + y.length ≤ sizeLine then some (.str (x ++ y)) else none
  | _, _ => none
theorem o_addS : OpD X (binaryOp .Add) addS := op_add_str.weak fun v u H Q ⟨A, x, y, d, mu, e, p1, p2, q⟩ => by
  unfold addS at e
  split at e
  · rename_i i j
    split at e
    · rename_i hz
      cases e
      obtain ⟨e1, k1⟩ := p1.str
      obtain ⟨e2, k2⟩ := p2.str
      exact ⟨i, j, e1, e2, hz, q.here (rp_str (SOk.of (strOk_app k1.ok k2.ok) (by rw [len_app]; exact hz)))⟩
    · cases e
  · cases e
def catL : Dat → Dat → Option (List Dat)
  | .lst xs, .lst ys => if xs.length + ys.length ≤ sizeLine then some (xs ++ ys) else none
  | _, _ => none
theorem n_cat : OpN X (binaryOp .Add) catL := fun pins s σ H x y v u Q I rx ry ⟨A, a, b, d, mu, e, p1, p2, q⟩ => by
  unfold catL at e
  split at e
  · rename_i xs ys
    split at e
    · rename_i hz
      cases e
      obtain ⟨l1, vs, e1, h1, r1⟩ := p1.lst
      obtain ⟨l2, us, e2, h2, r2⟩ := p2.lst
      subst e1 e2
      cases rx
      cases ry
      obtain ⟨its, n, w1, g1, _⟩ := h1.get I
      obtain ⟨its2, n2, w2, g2, _⟩ := h2.get I
      have z1 := w1.length
      have z2 := w2.length
      have z3 := rps_len r1
      have z4 := rps_len r2
      refine PySem.P.add_list g1 g2 ?_ (by rw [List.size_toArray, List.size_toArray]; omega)
      have ea : its.toArray ++ its2.toArray = (its ++ its2).toArray := by simp
      rw [ea]
      exact ⟨.ref _, _, I.lnew (t' := s.toks) (w1.append w2) (by rw [List.length_append]; omega), rfl, q.at (by rw [List.length_append]; exact hz) (rps_append r1 r2) _ I.fresh⟩
    · cases e
  · cases e
def addD : Dat → Dat → Option Dat
  | .int i, .int j => some (.int (i + j))
  | .str x, .str y => if x.length + y.length ≤ sizeLine then some (.str (x ++ y)) else none
  | .lst xs, .lst ys => if xs.length + ys.length ≤ sizeLine then some (.lst (xs ++ ys)) else none
  | _, _ => none
theorem o_addI : OpD X (binaryOp .Add) (iop (fun _ _ => True) fun i j => .int (i + j)) := op_i0 op_add fun _ _ _ _ => rp_int
theorem o_add : OpD X (binaryOp .Add) addD := by
  have h1 := OpD.or (E := fun x y => match x, y with | .int i, .int j => some (.int (i + j)) | .str x, .str y => if x.length + y.length ≤ sizeLine then some (.str (x ++ y)) else none | _, _ => none) (o_addI (X := X)) o_addS (fun x y d e => by
    split at e
    · left; simp [iop]; exact by simpa using e
    · right; simp only [addS]; exact e
    · cases e)
  refine OpD.or h1 n_cat.d fun x y d e => ?_
  unfold addD at e
  split at e
  · left; exact e
  · left; exact e
  · right
    rename_i xs ys
    simp only [catL]
    split at e
    · rename_i hz; cases e; rw [if_pos hz]; rfl
    · cases e
  · cases e
def mulI := iop CMul fun i j => .int (i * j)
theorem o_mulI : OpD X (binaryOp .Mult) mulI := op_i op_mul fun _ _ _ _ => rp_int
def eqF : Dat → Dat → Option Dat := fun x y => if (pd 20 x && pd 20 y) = true then some (.bl (eqD x y)) else none
def neF : Dat → Dat → Option Dat := fun x y => if (pd 20 x && pd 20 y) = true then some (.bl (!eqD x y)) else none
theorem o_eq (hu : X.A.units + 64 < cLine) : OpD X (compareOp .Eq) eqF := fun pins s σ H x y v u Q I rx ry ⟨A, a, b, d, mu, e, p1, p2, q⟩ => by
  unfold eqF at e
  split at e
  · rename_i hp
    rw [Bool.and_eq_true] at hp
    cases e
    obtain ⟨as, a1, a2⟩ := Rp.reads I a x v hp.1 p1.rp rx
    obtain ⟨bs, b1, b2⟩ := Rp.reads I b y u hp.2 p2.rp ry
    have := depth_toP 20 a hp.1
    refine SeqAt.compareEq_reads a1 b1 a2 b2 (by omega) ⟨.bl _, H, I, rfl, ?_⟩
    rw [eqv_toP a b hp.1 hp.2]
    exact q.here rp_bl
  · cases e
theorem o_ne (hu : X.A.units + 64 < cLine) : OpD X (compareOp .NotEq) neF := fun pins s σ H x y v u Q I rx ry ⟨A, a, b, d, mu, e, p1, p2, q⟩ => by
  unfold neF at e
  split at e
  · rename_i hp
    rw [Bool.and_eq_true] at hp
    cases e
    obtain ⟨as, a1, a2⟩ := Rp.reads I a x v hp.1 p1.rp rx
    obtain ⟨bs, b1, b2⟩ := Rp.reads I b y u hp.2 p2.rp ry
    have := depth_toP 20 a hp.1
    refine SeqAt.compareNe_reads a1 b1 a2 b2 (by omega) ⟨.bl _, H, I, rfl, ?_⟩
    rw [eqv_toP a b hp.1 hp.2]
    exact q.here rp_bl
  · cases e
def inS : Str → Str → Bool := fun i j => !(Builtin.Str.occurrences j i 0 j.length 1).isEmpty
def inB : Dat → Dat → Option Bool
  | x, .lst ys => if (pd 20 x && ys.all (pd 20)) = true then some (ys.any fun y => eqD y x) else none
  | x, .tup ys => if (pd 20 x && ys.all (pd 20)) = true then some (ys.any fun y => eqD y x) else none
  | .str i, .str j => some (inS i j)
  | _, _ => none
def inF : Dat → Dat → Option Dat := fun x y => (inB x y).map .bl
def ninF : Dat → Dat → Option Dat := fun x y => (inB x y).map fun b => .bl (!b)
theorem eqAt_items {pins : List (Addr × Obj)} {σ : St} {H : Hp} {s : Shared} (I : Inv X pins σ H s) (hu : X.A.units + 64 < cLine) {a : Dat} {x : V} {v : Value} (ha : pd 20 a = true) (rx : Rp X.K H a x) (qx : RelV x v) :
    ∃ e : Value → Bool, ∀ {ys : List Dat} {vs : List V} {us : List Value}, Rps X.K H ys vs → Vals vs us → (∀ y ∈ ys, pd 20 y = true) → (∀ u ∈ us, SeqAt.EqAt X.A.in1 s u v (e u)) ∧ us.any e = ys.any fun y => eqD y a := by
  classical
  have hu' : X.A.in1.units + 60 < cLine := by show X.A.units + 1 + 60 < cLine; omega
  have key : ∀ {y : Dat} {w : V} {u : Value}, Rp X.K H y w → RelV w u → pd 20 y = true → SeqAt.EqAt X.A.in1 s u v (eqD y a) := fun {y w u} r q h => Rp.eqAt I h ha (by decide) hu' r rx q qx
  let e : Value → Bool := fun u => decide (∃ (y : Dat) (w : V), Rp X.K H y w ∧ RelV w u ∧ pd 20 y = true ∧ eqD y a = true)
  have he : ∀ {y : Dat} {w : V} {u : Value}, Rp X.K H y w → RelV w u → pd 20 y = true → e u = eqD y a := fun {y w u} r q h => by
    cases z : eqD y a with
    | true => exact decide_eq_true ⟨y, w, r, q, h, z⟩
    | false =>
      refine decide_eq_false ?_
      rintro ⟨y', w', r', q', h', z'⟩
      have := q.inj q'
      subst this
      obtain ⟨as, a1, a2⟩ := Rp.reads I y w u h r q
      obtain ⟨bs, b1, b2⟩ := Rp.reads I y' w u h' r' q
      have eqP := SeqAt.Reads.unique _ _ _ _ _ a2 a1 b1
      rw [← eqv_toP y a h ha, eqP, eqv_toP y' a h' ha, z'] at z
      cases z
  refine ⟨e, fun {ys} => ?_⟩
  induction ys with
  | nil => intro vs us r q _; rw [rps_of_nil r] at q; cases q; exact ⟨fun u hu => (by cases hu), rfl⟩
  | cons y ys ih =>
    intro vs us r q hp
    obtain ⟨w, vs', e1, r1, r2⟩ := rps_of_cons r
    subst e1
    cases q with
    | cons q1 q2 =>
      rename_i u us
      obtain ⟨h1, h2⟩ := ih r2 q2 fun z hz => hp z (List.mem_cons_of_mem _ hz)
      have hy := hp y List.mem_cons_self
      refine ⟨fun u' hu' => ?_, ?_⟩
      · rcases List.mem_cons.mp hu' with z | z
        · subst z; rw [he r1 q1 hy]; exact key r1 q1 hy
        · exact h1 u' z
      · rw [List.any_cons, List.any_cons, h2, he r1 q1 hy]
theorem o_in (hu : X.A.units + 64 < cLine) : OpD X (compareOp .In) inF := fun pins s σ H x y v u Q I rx ry ⟨A, a, b, d, mu, e, p1, p2, q⟩ => by
  unfold inF at e
  unfold inB at e
  split at e
  · rename_i ys
    split at e
    · rename_i hp
      rw [Bool.and_eq_true, List.all_eq_true] at hp
      cases e
      obtain ⟨l, vs, e1, h1, r1⟩ := p2.lst
      subst e1
      cases ry
      obtain ⟨its, w1, pl, _⟩ := I.list h1.sq
      obtain ⟨f, hf⟩ := eqAt_items I hu hp.1 p1.rp rx
      obtain ⟨k1, k2⟩ := hf (r1.mono av_same) w1 hp.2
      refine SeqAt.in_listAt f pl.isList (fun w hw => k1 w (by simpa using hw)) ⟨.bl _, H, I, rfl, ?_⟩
      rw [show its.toArray.any f = its.any f by simp, k2]
      exact q.here rp_bl
    · cases e
  · rename_i ys
    split at e
    · rename_i hp
      rw [Bool.and_eq_true, List.all_eq_true] at hp
      cases e
      obtain ⟨l, vs, e1, h1, r1⟩ := p2.tup
      subst e1
      cases ry
      obtain ⟨its, w1, pl, _⟩ := I.tuple h1
      obtain ⟨f, hf⟩ := eqAt_items I hu hp.1 p1.rp rx
      obtain ⟨k1, k2⟩ := hf (r1.mono av_same) w1 hp.2
      refine SeqAt.in_tupleAt f pl (fun w hw => k1 w (by simpa using hw)) ⟨.bl _, H, I, rfl, ?_⟩
      rw [show its.toArray.any f = its.any f by simp, k2]
      exact q.here rp_bl
    · cases e
  · rename_i i j
    cases e
    obtain ⟨e1, k1⟩ := p1.str
    obtain ⟨e2, k2⟩ := p2.str
    exact op_in_str pins s σ H x y v u Q I rx ry ⟨i, j, e1, e2, q.here rp_bl⟩
  · cases e
def ixD : Dat → Dat → Option Dat
  | .lst xs, .int i => atI xs i
  | .tup xs, .int i => atI xs i
  | .str z, .int i => (atI (cl z) i).map fun c => .str ⟨#[c]⟩
  | _, _ => none
theorem atI_rps {K : PySem.W.Frag} {H : Hp} {ds : List Dat} {vs : List V} {i : Int} {d : Dat} (r : Rps K H ds vs) (h : atI ds i = some d) : ∃ v, atI vs i = some v ∧ Rp K H d v := by
  unfold atI at h ⊢
  rw [rps_len r]
  obtain ⟨j, e1, e2⟩ := bind_some h
  obtain ⟨v, h1, h2⟩ := rps_get r e2
  exact ⟨v, by rw [e1]; exact h1, h2⟩
theorem atI_mem {α : Type} {xs : List α} {i : Int} {x : α} (h : atI xs i = some x) : x ∈ xs := by
  unfold atI at h
  obtain ⟨j, e1, e2⟩ := bind_some h
  exact List.mem_of_getElem? e2
theorem sok_one {z : Str} {c : Nat} (h : SOk z) (hc : c ∈ cl z) : SOk ⟨#[c]⟩ := SOk.of (strOk_of fun c' hc' => by
  have : c' = c := by simpa [cl] using hc'
  rw [this]; exact strOk_at h.ok c hc) (by rw [← cl_len]; simp [cl]; decide)
theorem IxR.weak {r r' : R2} (h : IxR X r) (w : ∀ x y H Q, r' x y H Q → r x y H Q) : IxR X r' := fun value slice pins s σ H x y v u Q I rx ry q hs => h value slice pins s σ H x y v u Q I rx ry (w _ _ _ _ q) hs
theorem o_ix : IxR X (rD X.K ixD) := ix_seq.weak fun v u H Q ⟨A, x, y, d, mu, e, p1, p2, q⟩ => by
  unfold ixD at e
  split at e
  · rename_i xs i
    obtain ⟨l, vs, e1, h1, r1⟩ := p1.lst
    obtain ⟨w, h2, r2⟩ := atI_rps r1 e
    exact .inl ⟨l, vs, i, w, e1, p2.int, h1.sq, h2, q.here r2⟩
  · rename_i xs i
    obtain ⟨l, vs, e1, h1, r1⟩ := p1.tup
    obtain ⟨w, h2, r2⟩ := atI_rps r1 e
    exact .inr (.inl ⟨l, vs, i, w, e1, p2.int, h1, h2, q.here r2⟩)
  · rename_i z i
    obtain ⟨e1, k1⟩ := p1.str
    cases hc : atI (cl z) i with
    | none => rw [hc] at e; cases e
    | some c =>
      rw [hc] at e
      cases e
      exact .inr (.inr ⟨z, i, c, e1, p2.int, k1.le, hc, q.here (rp_str (sok_one k1 (atI_mem hc)))⟩)
  · cases e
theorem cut_rps {K : PySem.W.Frag} {H : Hp} {ds : List Dat} {vs : List V} (lo hi : Option Int) (r : Rps K H ds vs) : Rps K H (cutL ds lo hi) (cutV vs lo hi) := by
  unfold cutL cutV
  rw [rps_len r]
  exact rps_take _ (rps_drop _ r)
theorem cutL_mem {α : Type} {xs : List α} {lo hi : Option Int} {x : α} (h : x ∈ cutL xs lo hi) : x ∈ xs := List.mem_of_mem_drop (List.mem_of_mem_take h)
theorem cutL_len {α : Type} {xs : List α} {lo hi : Option Int} {n : Nat} (h : xs.length ≤ n) : (cutL xs lo hi).length ≤ n := by unfold cutL; rw [List.length_take, List.length_drop]; omega
theorem SlR.weak {r r' : V → Option Int → Option Int → Hp → VK → Prop} (h : SlR X r) (w : ∀ x lo hi H Q, r' x lo hi H Q → r x lo hi H Q) : SlR X r' := fun pins s σ H x v vl vu lo hi sl Q I rx hs pl pu q => h pins s σ H x v vl vu lo hi sl Q I rx hs pl pu (w _ _ _ _ _ q)
def slD : Dat → Option Int → Option Int → Option Dat
  | .lst xs, lo, hi => some (.lst (cutL xs lo hi))
  | .str z, lo, hi => some (.str (Txt.slice z lo hi))
  | .tup xs, lo, hi => if HT.sIx xs.length 0 lo = 0 ∧ HT.sIx xs.length xs.length hi = xs.length then none else some (.tup (cutL xs lo hi))
  | _, _, _ => none
theorem slice_sok {z : Str} {lo hi : Option Int} (h : SOk z) : SOk (Txt.slice z lo hi) := SOk.of (strOk_of fun c hc => by
  rw [cl_slice] at hc; exact strOk_at h.ok c (cutL_mem hc)) (Nat.le_trans (Txt.slice_le z _ _) h.le)
theorem o_sl : SlD X slD := sl_A.weak fun v lo hi H Q ⟨A, x, d, mu, e, p1, q⟩ => by
  unfold slD at e
  split at e
  · rename_i xs
    cases e
    obtain ⟨l, vs, e1, h1, r1⟩ := p1.lst
    exact .inl ⟨l, vs, e1, h1.sq, (q.new mu).at (cutL_len p1.lenL) (cut_rps lo hi r1)⟩
  · rename_i z
    cases e
    obtain ⟨e1, k1⟩ := p1.str
    exact .inr (.inr ⟨z, e1, k1.le, q.here (rp_str (slice_sok k1))⟩)
  · rename_i xs
    split at e
    · cases e
    · rename_i hn
      cases e
      obtain ⟨l, vs, e1, h1, r1⟩ := p1.tup
      exact .inr (.inl ⟨l, vs, e1, h1, by rw [rps_len r1]; exact hn, q.tup mu (cutL_len p1.lenT) (cut_rps lo hi r1)⟩)
  · cases e
end
end L2
set_option Elab.async false
set_option linter.all false
set_option maxRecDepth 100000
namespace L2
open PySem PySem.Spec PyProof.Rows
section
variable {X : Cx} {m : Bool}
def lenD : List Dat → Option Dat
  | [.lst xs] => some (.int xs.length)
  | [.tup xs] => some (.int xs.length)
  | [.str z] => some (.int z.length)
  | _ => none
theorem c_len : CallD X (.builtin "len") lenD := call_lenA.weak fun vs H Q ⟨A, ds, d, mu, e, p, q⟩ => by
  unfold lenD at e
  split at e
  · obtain ⟨v, e1, p1⟩ := p.one
    obtain ⟨l, us, e2, h1, r1⟩ := p1.lst
    cases e
    exact .inl ⟨l, us, by rw [e1, e2], .inl h1.sq, fun _ => by rw [rps_len r1]; exact q.here rp_int⟩
  · obtain ⟨v, e1, p1⟩ := p.one
    obtain ⟨l, us, e2, h1, r1⟩ := p1.tup
    cases e
    exact .inl ⟨l, us, by rw [e1, e2], .inr h1, fun _ => by rw [rps_len r1]; exact q.here rp_int⟩
  · obtain ⟨v, e1, p1⟩ := p.one
    obtain ⟨e2, h1⟩ := p1.str
    cases e
    exact .inr ⟨_, by rw [e1, e2], h1.le, q.here rp_int⟩
  · cases e
def listN : List Dat → Option (List Dat)
  | [.lst xs] => some xs
  | [.tup xs] => some xs
  | _ => none
def tupleD : List Dat → Option Dat
  | [.lst xs] => some (.tup xs)
  | [.tup xs] => some (.tup xs)
  | _ => none
theorem c_tuple : CallD X (.type "tuple") tupleD := call_tuple_of.weak fun vs H Q ⟨A, ds, d, mu, e, p, q⟩ => by
  unfold tupleD at e
  split at e
  · obtain ⟨v, e1, p1⟩ := p.one
    obtain ⟨l, us, e2, h1, r1⟩ := p1.lst
    cases e
    exact ⟨l, us, by rw [e1, e2], .inl ⟨h1.sq, q.tup mu p1.lenL r1⟩⟩
  · obtain ⟨v, e1, p1⟩ := p.one
    rcases p1 with p1 | ⟨_, _, _, z, _⟩
    · obtain ⟨l, us, e2, h1, r1⟩ := of_tup p1
      cases e
      exact ⟨l, us, by rw [e1, e2], .inr ⟨av_same.seqT h1, by rw [← e2]; exact q.here p1⟩⟩
    · cases z
  · cases e
def intsD : List Dat → Option (List Int)
  | [] => some []
  | .int i :: r => (intsD r).map (i :: ·)
  | _ => none
def blsD : List Dat → Option (List Bool)
  | [] => some []
  | .bl i :: r => (blsD r).map (i :: ·)
  | _ => none
def strsD : List Dat → Option (List Str)
  | [] => some []
  | .str i :: r => (strsD r).map (i :: ·)
  | _ => none
theorem intsD_map (ns : List Int) : intsD (ns.map .int) = some ns := by
  induction ns with
  | nil => rfl
  | cons n ns ih => rw [List.map_cons, intsD, ih]; rfl
theorem blsD_map (ns : List Bool) : blsD (ns.map .bl) = some ns := by
  induction ns with
  | nil => rfl
  | cons n ns ih => rw [List.map_cons, blsD, ih]; rfl
theorem strsD_map (ns : List Str) : strsD (ns.map .str) = some ns := by
  induction ns with
  | nil => rfl
  | cons n ns ih => rw [List.map_cons, strsD, ih]; rfl
theorem strsD_eq : ∀ {ds : List Dat} {ns : List Str}, strsD ds = some ns → ds = ns.map .str
  | [], _, h => by cases h; rfl
  | d :: ds, ns, h => by
    cases d <;> try cases h
    rename_i i
    rw [strsD] at h
    cases e : strsD ds with
    | none => rw [e] at h; cases h
    | some r => rw [e] at h; cases h; rw [strsD_eq e]; rfl
theorem rps_of_strs {K : PySem.W.Frag} {H : Hp} : ∀ {ns : List Str} {vs : List V}, Rps K H (ns.map .str) vs → vs = ns.map .str ∧ ∀ x ∈ ns, SOk x
  | [], vs, h => ⟨rps_of_nil h, fun x hx => by cases hx⟩
  | n :: ns, vs, h => by
    obtain ⟨v, r, e, h1, h2⟩ := rps_of_cons h
    obtain ⟨e2, h3⟩ := rps_of_strs h2
    exact ⟨by rw [e, (of_str h1).1, e2]; rfl, fun x hx => by
      rcases List.mem_cons.mp hx with z | z
      · rw [z]; exact (of_str h1).2
      · exact h3 x z⟩
def sortI (ns : List Int) : List Int := ns.mergeSort (fun a b => decide (a ≤ b))
theorem sortI_perm (ns : List Int) : (sortI ns).Perm ns := List.mergeSort_perm ns _
theorem sortI_sorted (ns : List Int) : (sortI ns).Pairwise (· ≤ ·) := by
  have := List.pairwise_mergeSort (le := fun a b : Int => decide (a ≤ b)) (by intro a b c h1 h2; simp only [decide_eq_true_eq] at *; omega) (by intro a b; simp only [Bool.or_eq_true, decide_eq_true_eq]; omega) ns
  exact this.imp fun h => of_decide_eq_true h
theorem sorted_unique : ∀ {xs ys : List Int}, xs.Perm ys → xs.Pairwise (· ≤ ·) → ys.Pairwise (· ≤ ·) → xs = ys
  | [], ys, p, _, _ => by rw [List.nil_perm.mp p]
  | x :: xs, [], p, _, _ => by have := p.length_eq; simp at this
  | x :: xs, y :: ys, p, h1, h2 => by
    have hx := List.pairwise_cons.mp h1
    have hy := List.pairwise_cons.mp h2
    have e : x = y := by
      have m1 : x ∈ y :: ys := p.mem_iff.mp List.mem_cons_self
      have m2 : y ∈ x :: xs := p.mem_iff.mpr List.mem_cons_self
      rcases List.mem_cons.mp m1 with z | z
      · exact z
      · rcases List.mem_cons.mp m2 with w | w
        · exact w.symm
        · have a1 := hx.1 y w
          have a2 := hy.1 x z
          omega
    subst e
    rw [sorted_unique (List.Perm.cons_inv p) hx.2 hy.2]
def sortedN : List Dat → Option (List Dat)
  | [.lst xs] => (intsD xs).bind fun ns => if ns.length < 64 then some ((sortI ns).map .int) else none
  | _ => none
def allD : List Dat → Option Dat
  | [.lst xs] => (blsD xs).map fun bs => .bl (bs.all id)
  | _ => none
theorem map_some {α β : Type} {a : Option α} {g : α → β} {b : β} (h : a.map g = some b) : ∃ x, a = some x ∧ g x = b := by
  cases a with
  | none => cases h
  | some x => cases h; exact ⟨x, rfl, rfl⟩
def strI (i : Int) : Str := toString i
def strD : List Dat → Option Dat
  | [.int i] => if i.natAbs.log2 < 1920 ∧ SOk (strI i) then some (.str (strI i)) else none
  | _ => none
def tyN : Dat → Option String
  | .non => some "NoneType" | .bl _ => some "bool" | .int _ => some "int" | .str _ => some "str" | .tup _ => some "tuple" | .lst _ => some "list" | _ => none
def isiB (T : String) (d : Dat) : Option Bool := (tyN d).bind fun t => kitB t T
def dI (T : String) (f : Ev → Option Dat) : Ev → Option Dat := fun env => (f env).bind fun d => (isiB T d).map .bl
theorem isi_go {pins : List (Addr × Obj)} {σ : St} {H : Hp} {s : Shared} {A : Around} {E : Value → Shared → Prop} {Q : Value → Shared → Prop} {d : Dat} {v : V} {u : Value} {T t : String} {b : Bool} (I : Inv X pins σ H s) (r : Rp X.K H d v) (ru : RelV v u) (ht : tyN d = some t) (e : PySem.W.kitOne X.K (.type t) (.type T) = some b) (h : ∀ tk, Q (.bool b) { s with toks := tk }) :
    wpAny (model X.prog X.w) A (call (.builtin "isinstance") [u, .type T]) Q E s := by
  cases d with
  | non => cases ht; rw [of_non r] at ru; exact isinst_ok I ru .non e h
  | bl y => cases ht; rw [of_bl r] at ru; exact isinst_ok I ru (.bl y) e h
  | int y => cases ht; rw [of_int r] at ru; exact isinst_ok I ru (.int y) e h
  | str y => cases ht; rw [(of_str r).1] at ru; exact isinst_ok I ru (.str y) e h
  | tup ds =>
    cases ht
    obtain ⟨a, vs, e1, h1, _⟩ := of_tup r
    subst e1; cases ru
    obtain ⟨its, _, ⟨o, ho, hc, _⟩, _⟩ := I.tuple h1
    exact PySem.W.kia_one PySem.W.kitx_tuple I.kIn ⟨o, ho, hc⟩ e (fun z => nomatch z) h
  | lst ds =>
    cases ht
    obtain ⟨a, vs, e1, h1, _⟩ := of_lst r
    subst e1; cases ru
    obtain ⟨its, n, _, ho, _⟩ := h1.get I
    exact PySem.W.kia_one PySem.W.kitx_list I.kIn ⟨_, ho, rfl⟩ e (fun z => nomatch z) h
  | dct _ => cases ht
  | exc _ _ => cases ht
theorem xisi {e : Expr} {f : Ev → Option Dat} {T : String} {tx : Str} {p p2 pos : Pos} (he : PXd true X e f) (hg : Gl X "isinstance") (hm : X.mg "isinstance" = none) (hv : bootBuiltins "isinstance" = some (.builtin "isinstance")) (hgT : Gl X tx) (hmT : X.mg tx = none) (hvT : bootBuiltins tx = some (.type T)) (hnT : tx ≠ "__name__" := by decide) (hdT : (tx == ("__debug__" : Str)) = false := by decide)
    (hs : starEach [e, .Name tx p2] X.env = (false, eval e X.env) :: starEach [.Name tx p2] X.env := by rfl) : PXd m X (.Call (.Name "isinstance" p) [e, .Name tx p2] [] pos) (dI T f) := by
  have hc : CallR X (.builtin "isinstance") (fun vs H Q => ∃ v A d b, vs = [v, .ty T] ∧ MuOk A H ∧ isiB T d = some b ∧ Pk X.K A H d v ∧ RegC false X.K A H (.bl b) Q) := by
    intro pins s σ H xs us Q I r ⟨v, A, d, b, e1, mu, e2, p1, q⟩
    subst e1
    obtain ⟨u, w', rfl, ru, rw'⟩ := vals2 r
    cases rw'
    obtain ⟨t, ht, hk⟩ := bind_some e2
    exact isi_go I p1.rp ru ht (kit_of hk) fun tk => ⟨.bl b, H, I.tok _, rfl, q.here rp_bl⟩
  refine PXd.any ((pe_callB hc hg hm hv (pa_cons he (pa_cons (pe_bty hgT hmT hvT hnT hdT) pa_nil) hs) (he := hs)).weak fun σ H Q ⟨env, R, A, d, k, q1, q2⟩ => ?_)
  obtain ⟨x, e1, h⟩ := bind_some q1
  obtain ⟨b, e2, h⟩ := map_some h
  subst h
  exact ⟨env, R, A, x, k, e1, fun v H1 s1 p1 => ⟨v, A, x, b, rfl, k.mu.mono s1, e2, p1, q2.mono s1⟩⟩
def bitlenD : Dat → List Dat → Option Dat
  | .int i, [] => some (.int (Builtin.Int.intBits i))
  | _, _ => none
theorem m_bitlen : MtD X "int.bit_length" bitlenD := mt_bitlen.weak fun v vs H Q ⟨A, x, ds, d, mu, e, p, ps, q⟩ => by
  unfold bitlenD at e
  split at e
  · cases e
    exact ⟨_, p.int, ps, q.here rp_int⟩
  · cases e
def joinD : Dat → List Dat → Option Dat
  | .str z, [.lst xs] => (strsD xs).bind fun ys => if (ys.map (·.length)).sum + ys.length * z.length ≤ 16777216 ∧ SOk (Txt.join z ys) then some (.str (Txt.join z ys)) else none
  | _, _ => none
theorem m_join : MtD X "str.join" joinD := mt_join.weak fun v vs H Q ⟨A, x, ds, d, mu, e, p, ps, q⟩ => by
  unfold joinD at e
  split at e
  · rename_i z xs
    obtain ⟨v', e1, p1⟩ := ps.one
    obtain ⟨l, us, e2, h1, r1⟩ := p1.lst
    obtain ⟨ys, hy, e⟩ := bind_some e
    split at e
    · rename_i hc
      cases e
      rw [strsD_eq hy] at r1
      obtain ⟨eu, _⟩ := rps_of_strs r1
      subst eu
      exact ⟨z, l, ys, p.str.1, by rw [e1, e2], h1.sq, hc.1, q.here (rp_str hc.2)⟩
    · cases e
  · cases e
def sindexD : Dat → List Dat → Option Dat
  | .str z, [.str y] => if Txt.find z y ≠ -1 then some (.int (Txt.find z y)) else none
  | _, _ => none
theorem m_sindex (hc : X.calm = true) : MtD X "str.index" sindexD := (mt_sindex hc).weak fun v vs H Q ⟨A, x, ds, d, mu, e, p, ps, q⟩ => by
  unfold sindexD at e
  split at e
  · rename_i z y
    obtain ⟨v', e1, p1⟩ := ps.one
    split at e
    · rename_i hn
      cases e
      exact ⟨z, y, p.str.1, by rw [e1, p1.str.1], hn, q.here rp_int⟩
    · cases e
  · cases e
end
end L2
set_option Elab.async false
set_option linter.all false
set_option maxRecDepth 100000
namespace L2
open PySem PySem.Spec PyProof.Rows
def Adv (st : Bool) (A : AS) (H : Hp) (A1 : AS) (H1 : Hp) : Prop := match st with
  | true => Step A H A1 H1
  | false => A1 = A ∧ Same H H1
theorem Adv.step {st : Bool} {A A1 : AS} {H H1 : Hp} (h : Adv st A H A1 H1) : Step A H A1 H1 := by
  cases st with
  | true => exact h
  | false => obtain ⟨rfl, h⟩ := h; exact Step.same h
def ItOk (st : Bool) (K : PySem.W.Frag) (A : AS) (H : Hp) (ds : List Dat) (J : It) : Prop := ∀ A1 H1, Adv st A H A1 H1 → MuOk A1 H1 →
  (∀ (i : Nat) x, ds[i]? = some x → J.go i H1 ∧ ∀ v H2, J.yld i H1 v H2 → Same H1 H2 ∧ Rp K (av H2 A1) x v) ∧ J.stop ds.length H1
def PId (st : Bool) (X : Cx) (tg iter : Expr) (src : Ev → Option (List Dat)) : Prop := PI X tg iter fun σ H R' => ∃ env R A ds, EnvOk X.K R A H σ env ∧ src env = some ds ∧
  ∀ J H', ds.length ≤ sizeLine → Same H H' → ItOk st X.K A H' ds J → R' J H'
theorem PI.weak {X : Cx} {tg iter : Expr} {t t' : TI} (h : PI X tg iter t) (w : ∀ σ H Q, t' σ H Q → t σ H Q) : PI X tg iter t' := fun pins s σ H Q I q => h pins s σ H Q I (w σ H Q q)
section
variable {st m : Bool} {X : Cx} {tg l : Expr} {f : Ev → Option Dat} {fs : Ev → Option (List Dat)}
def srcL (f : Ev → Option Dat) : Ev → Option (List Dat) := fun env => match f env with
  | some (.lst xs) => some xs
  | some (.tup xs) => some xs
  | _ => none
theorem it_list {K : PySem.W.Frag} {A : AS} {H : Hp} {a : Addr} {vs : List V} {ds : List Dat} (h : ∀ A1 H1, Adv st A H A1 H1 → SqL K H1 a vs) (r : Rps K (av H A) ds vs) : ItOk st K A H ds (Itl K a) := fun A1 H1 adv _ => by
  have h1 := h A1 H1 adv
  have r1 := r.mono adv.step.av
  refine ⟨fun i x e => ?_, ⟨vs, h1, Nat.le_of_eq (rps_len r)⟩⟩
  obtain ⟨v, e1, e2⟩ := rps_get r1 e
  refine ⟨⟨vs, v, h1, e1⟩, fun v' H2 ⟨e3, e4⟩ => ?_⟩
  subst e3
  have := e4 vs h1
  rw [e1] at this
  cases this
  exact ⟨Same.refl _, e2⟩
theorem it_tup {K : PySem.W.Frag} {A : AS} {H : Hp} {a : Addr} {vs : List V} {ds : List Dat} (h : ∀ A1 H1, Adv st A H A1 H1 → SqT K H1 a vs) (r : Rps K (av H A) ds vs) : ItOk st K A H ds (Itt K a) := fun A1 H1 adv _ => by
  have h1 := h A1 H1 adv
  have r1 := r.mono adv.step.av
  refine ⟨fun i x e => ?_, ⟨vs, h1, Nat.le_of_eq (rps_len r)⟩⟩
  obtain ⟨v, e1, e2⟩ := rps_get r1 e
  refine ⟨⟨vs, v, h1, e1⟩, fun v' H2 ⟨e3, e4⟩ => ?_⟩
  subst e3
  have := e4 vs h1
  rw [e1] at this
  cases this
  exact ⟨Same.refl _, e2⟩
theorem i_seq (h : PXd false X l f) : PId st X tg l (srcL f) := (pi_seq h).weak fun σ H R' ⟨env, R, A, ds, k, e, q⟩ => by
  unfold srcL at e
  split at e
  · rename_i xs e1
    cases e
    refine .inl ⟨env, R, A, .lst ds, k, e1, fun v H1 s1 p1 => ?_⟩
    obtain ⟨a, vs, e2, h1, r1⟩ := of_lst (show Rp X.K (av H1 A) (.lst ds) v from p1)
    subst e2
    exact ⟨a, rfl, ⟨vs, (av_same.sl h1).sq⟩, q _ H1 p1.pk.lenL s1 (it_list (vs := vs) (fun A1 H2 adv => (av_same.sl (adv.step.av.sl h1)).sq) r1)⟩
  · rename_i xs e1
    cases e
    refine .inr ⟨env, R, A, .tup ds, k, e1, fun v H1 s1 p1 => ?_⟩
    obtain ⟨a, vs, e2, h1, r1⟩ := of_tup (show Rp X.K (av H1 A) (.tup ds) v from p1)
    subst e2
    exact ⟨a, rfl, ⟨vs, av_same.seqT h1⟩, q _ H1 p1.pk.lenT s1 (it_tup (vs := vs) (fun A1 H2 adv => av_same.seqT (adv.step.av.seqT h1)) r1)⟩
  · cases e
theorem i_seqP (h : PXd true X l f) : PId false X tg l (srcL f) := (pi_seq h).weak fun σ H R' ⟨env, R, A, ds, k, e, q⟩ => by
  unfold srcL at e
  split at e
  · rename_i xs e1
    cases e
    refine .inl ⟨env, R, A, .lst ds, k, e1, fun v H1 s1 p1 => ?_⟩
    obtain ⟨a, vs, e2, h1, r1⟩ := p1.pk.lst
    subst e2
    exact ⟨a, rfl, ⟨vs, h1.sq⟩, q _ H1 p1.pk.lenL s1 (it_list (vs := vs) (fun A1 H2 adv => (adv.2.sl h1).sq) r1)⟩
  · rename_i xs e1
    cases e
    refine .inr ⟨env, R, A, .tup ds, k, e1, fun v H1 s1 p1 => ?_⟩
    obtain ⟨a, vs, e2, h1, r1⟩ := p1.pk.tup
    subst e2
    exact ⟨a, rfl, ⟨vs, h1⟩, q _ H1 p1.pk.lenT s1 (it_tup (vs := vs) (fun A1 H2 adv => adv.2.seqT h1) r1)⟩
  · cases e
def rng (lo : Int) (n : Nat) : List Dat := (List.range n).map fun (k : Nat) => .int (lo + k)
theorem rng_len {lo : Int} {n : Nat} : (rng lo n).length = n := by simp [rng]
theorem it_rng {K : PySem.W.Frag} {A : AS} {H : Hp} {lo : Int} {n : Nat} : ItOk st K A H (rng lo n) (Itr lo n) := fun A1 H1 adv _ => by
  refine ⟨fun i x e => ?_, by show n ≤ (rng lo n).length; simp [rng]⟩
  unfold rng at e
  rw [List.getElem?_map] at e
  by_cases hi : i < n
  · rw [List.getElem?_range hi] at e
    cases e
    exact ⟨hi, fun v H2 ⟨e1, e2⟩ => by subst e1 e2; exact ⟨Same.refl _, rp_int⟩⟩
  · rw [List.getElem?_eq_none (by simpa using hi)] at e
    cases e
def srcR1 (fs : Ev → Option (List Dat)) : Ev → Option (List Dat) := fun env => match fs env with
  | some [.int j] => if -(2 ^ 62) ≤ j ∧ j < 2 ^ 62 ∧ j.toNat ≤ sizeLine then some (rng 0 j.toNat) else none
  | _ => none
theorem i_range1 {a : Expr} {p pos : Pos} (hg : Gl X "range") (hm : X.mg "range" = none) (ha : PAd true X [a] fs) (hs : starEach [a] X.env = [(false, eval a X.env)] := by rfl) : PId st X tg (.Call (.Name "range" p) [a] [] pos) (srcR1 fs) := (pi_range1 hg hm ha hs).weak fun σ H R' ⟨env, R, A, ds, k, e, q⟩ => by
  unfold srcR1 at e
  split at e
  · rename_i j e1
    split at e
    · rename_i hj
      cases e
      refine ⟨env, R, A, _, k, e1, fun vs H1 s1 p1 => ?_⟩
      obtain ⟨v, e2, p2⟩ := p1.one
      exact ⟨j, by rw [e2, p2.int], hj.1, hj.2.1, q _ H1 (by rw [rng_len]; exact hj.2.2) s1 it_rng⟩
    · cases e
  · cases e
def srcC (f : Ev → Option Dat) : Ev → Option (List Dat) := fun env => match f env with
  | some (.str z) => some ((cl z).map fun c => .str ⟨#[c]⟩)
  | _ => none
end
def Agree (is : List Nat) (σ σ' : St) : Prop := σ'.length = σ.length ∧ ∀ j, j ∉ is → σ'[j]? = σ[j]?
def PGd (is : List Nat) (X : Cx) (tg : Expr) (g : Dat → Ev → Option Ev) : Prop := PG X tg fun v σ H Q => ∃ env R A d env', EnvOk X.K R A H σ env ∧ Rp X.K (av H A) d v ∧ g d env = some env' ∧ ∀ σ', EnvOk X.K R A H σ' env' → Agree is σ σ' → Q σ' H
def PGsd (is : List Nat) (X : Cx) (tgs : List Expr) (g : List Dat → Ev → Option Ev) : Prop := PGs X tgs fun vs σ H Q => ∃ env R A ds env', EnvOk X.K R A H σ env ∧ Rps X.K (av H A) ds vs ∧ g ds env = some env' ∧ ∀ σ', EnvOk X.K R A H σ' env' → Agree is σ σ' → Q σ' H
theorem EnvOk.put {K : PySem.W.Frag} {B : Bs} {A : AS} {H : Hp} {σ : St} {env : Ev} (k : EnvOk K B A H σ env) (i : Nat) {d : Dat} {v : V} (r : Rp K (av H A) d v) : EnvOk K B A H (σ.set i (some v)) (env.set i (.fz d)) := by
  obtain ⟨own, h1, h2, h4⟩ := k.sl
  refine ⟨k.h0, k.r0, k.ra, k.ar, k.mu, by rw [List.length_set, List.length_set]; exact k.len, fun hs j d' => ?_, fun j a => j ≠ i ∧ own j a, fun j j' a q q' => h1 j j' a q.2 q'.2, fun j a q => h2 j a q.2, fun j s e => ?_⟩
  · rw [List.getElem?_set]
    split
    · split
      · intro z; cases z
      · intro z; cases z
    · exact k.np hs j d'
  by_cases hj : i = j
  · subst hj
    rw [List.getElem?_set] at e
    rw [if_pos rfl] at e
    split at e
    · rename_i hl
      cases e
      refine ⟨some v, ?_, v, rfl, r⟩
      rw [List.getElem?_set, if_pos rfl, if_pos (by rw [k.len]; exact hl)]
    · cases e
  · rw [List.getElem?_set, if_neg hj] at e
    obtain ⟨x, q1, q2⟩ := h4 j s e
    refine ⟨x, by rw [List.getElem?_set, if_neg hj]; exact q1, ?_⟩
    cases s with
    | un => trivial
    | fz d => exact q2
    | pk d => exact q2
    | ow ds => obtain ⟨a, vs, e1, e2, e3⟩ := q2; exact ⟨a, vs, e1, ⟨Ne.symm hj, e2⟩, e3⟩
theorem PG.weak {X : Cx} {e : Expr} {t t' : TG} (h : PG X e t) (w : ∀ v σ H Q, t' v σ H Q → t v σ H Q) : PG X e t' := fun pins s σ H v u Q I r q => h pins s σ H v u Q I r (w _ _ _ _ q)
theorem PGs.weak {X : Cx} {e : List Expr} {t t' : TGs} (h : PGs X e t) (w : ∀ v σ H Q, t' v σ H Q → t v σ H Q) : PGs X e t' := fun pins s σ H v u Q I r q => h pins s σ H v u Q I r (w _ _ _ _ q)
section
variable {X : Cx} {pos : Pos}
def gset (i : Nat) : Dat → Ev → Option Ev := fun d env => some (env.set i (.fz d))
theorem agree_set {σ : St} {i : Nat} {v : Option V} : Agree [i] σ (σ.set i v) := ⟨by rw [List.length_set], fun j hj => by rw [List.getElem?_set, if_neg (by intro e; exact hj (by simp [e]))]⟩
theorem g_name (i : Nat) {x : Str} (hN : X.N.Nodup) (hi : X.N[i]? = some x) (hx : Loc X.env.scope x) (hf : X.fn x = true ∨ X.env.scope.names.lookup x = some .local := by first | exact .inl rfl | exact .inr rfl | assumption) : PGd [i] X (.Name x pos) (gset i) := (pg_name hN hi hx hf).weak fun v σ H Q ⟨env, R, A, d, env', k, r, e, q⟩ => by
  cases e
  exact q _ (k.put i r) agree_set
def gsNil : List Dat → Ev → Option Ev := fun ds env => match ds with
  | [] => some env
  | _ => none
def gsCons (g : Dat → Ev → Option Ev) (gs : List Dat → Ev → Option Ev) : List Dat → Ev → Option Ev := fun ds env => match ds with
  | d :: ds => (g d env).bind fun env' => gs ds env'
  | _ => none
theorem gs_nil : PGsd [] X [] gsNil := pgs_nil.weak fun vs σ H Q ⟨env, R, A, ds, env', k, r, e, q⟩ => by
  unfold gsNil at e
  split at e
  · cases e
    exact ⟨rps_of_nil r, q σ k ⟨rfl, fun _ _ => rfl⟩⟩
  · cases e
theorem gs_cons {e : Expr} {es : List Expr} {is js : List Nat} {g : Dat → Ev → Option Ev} {gs : List Dat → Ev → Option Ev} (h1 : PGd is X e g) (h2 : PGsd js X es gs)
    (hs : (assignEach (e :: es) X.env).map (·.2) = assign e X.env :: (assignEach es X.env).map (·.2) := by rfl) : PGsd (is ++ js) X (e :: es) (gsCons g gs) := (pgs_cons h1 h2 hs).weak fun vs σ H Q ⟨env, R, A, ds, env', k, r, e, q⟩ => by
  unfold gsCons at e
  split at e
  · rename_i d ds'
    obtain ⟨env1, e1, e2⟩ := bind_some e
    obtain ⟨v, us, ev, r1, r2⟩ := rps_of_cons r
    refine ⟨v, us, ev, env, R, A, d, env1, k, r1, e1, fun σ1 k1 a1 => ⟨env1, R, A, ds', env', k1, r2, e2, fun σ2 k2 a2 => q σ2 k2 ⟨by rw [a2.1, a1.1], fun j hj => ?_⟩⟩⟩
    rw [List.mem_append, not_or] at hj
    rw [a2.2 j hj.2, a1.2 j hj.1]
  · cases e
def gtup (n : Nat) (gs : List Dat → Ev → Option Ev) : Dat → Ev → Option Ev := fun d env => match d with
  | .tup ds => if ds.length = n then gs ds env else none
  | _ => none
theorem g_tup {es : List Expr} {k : Nat} {is : List Nat} {gs : List Dat → Ev → Option Ev} {n : Nat} (hc : X.calm = true) (h : PGsd is X es gs)
    (hn : (assignEach es X.env).length = n := by rfl) (hst : (assignEach es X.env).findIdx? (·.1) = none := by rfl) : PGd is X (.Tuple es k pos) (gtup n gs) := (pg_tup hc h hn hst).weak fun v σ H Q ⟨env, R, A, d, env', k, r, e, q⟩ => by
  unfold gtup at e
  split at e
  · rename_i ds
    split at e
    · rename_i hl
      obtain ⟨a, vs, ev, h1, r1⟩ := of_tup r
      exact ⟨a, vs, ev, av_same.seqT h1, by rw [rps_len r1]; exact hl, env, R, A, ds, env', k, r1, e, q⟩
    · cases e
  · cases e
end
def innerD (fs : List (Option Nat)) (env : Ev) : Ev := fs.map fun o => match o with
  | none => .un
  | some j => match env[j]? with
    | some (.fz d) => .fz d
    | some (.pk d) => .pk d
    | some (.ow ds) => .pk (.lst ds)
    | _ => .un
theorem EnvOk.inn {K : PySem.W.Frag} {B : Bs} {A : AS} {H : Hp} {σ : St} {env : Ev} (k : EnvOk K B A H σ env) (fs : List (Option Nat)) : EnvOk K ⟨H, A, false⟩ A H (inner fs σ) (innerD fs env) := by
  obtain ⟨own, h1, h2, h4⟩ := k.sl
  refine ⟨Same.refl H, fun a h => ?_, fun _ h => h, fun _ h => .inl h, k.mu, by simp [inner, innerD], fun z => (by cases z), fun _ _ => False, fun _ _ _ h => h.elim, fun _ _ h => h.elim, fun i s e => ?_⟩
  · have := k.mu a h
    cases q : H a with
    | none => rw [q] at this; exact this.elim
    | some o => exact ⟨o, q⟩
  · unfold innerD at e
    rw [List.getElem?_map] at e
    unfold inner
    rw [List.getElem?_map]
    cases hf : fs[i]? with
    | none => rw [hf] at e; cases e
    | some o =>
      rw [hf] at e
      cases o with
      | none => cases e; exact ⟨_, rfl, trivial⟩
      | some j =>
        simp only [Option.map_some, Option.some.injEq] at e ⊢
        refine ⟨_, rfl, ?_⟩
        split at e
        · rename_i d hd
          obtain ⟨x, q1, q2⟩ := h4 j _ hd
          subst e
          rw [q1]; exact q2
        · rename_i d hd
          obtain ⟨x, q1, q2⟩ := h4 j _ hd
          subst e
          rw [q1]; exact q2
        · rename_i ds hd
          obtain ⟨x, q1, a, vs, e1, _, hz, e3, e4⟩ := h4 j _ hd
          subst e
          rw [q1]
          exact ⟨.ref a, e1, .inr ⟨a, vs, ds, rfl, rfl, hz, e3, e4⟩⟩
        · subst e; trivial
def compL (g : Dat → Ev → Option Ev) (t : Ev → Option Bool) (f : Ev → Option Dat) (env : Ev) : List Dat → Option (List Dat)
  | [] => some []
  | x :: xs => (g x env).bind fun env1 => (t env1).bind fun b => if b = true then (f env1).bind fun y => (compL g t f env xs).map (y :: ·) else compL g t f env xs
def dComp (src : Ev → Option (List Dat)) (fs : List (Option Nat)) (g : Dat → Ev → Option Ev) (t : Ev → Option Bool) (f : Ev → Option Dat) : Ev → Option (List Dat) := fun env => (src env).bind fun ds => compL g t f (innerD fs env) ds
theorem compL_len {g : Dat → Ev → Option Ev} {t : Ev → Option Bool} {f : Ev → Option Dat} {env : Ev} : ∀ {xs ys : List Dat}, compL g t f env xs = some ys → ys.length ≤ xs.length
  | [], ys, h => by cases h; exact Nat.le_refl _
  | x :: xs, ys, h => by
    rw [compL] at h
    obtain ⟨env1, e1, h⟩ := bind_some h
    obtain ⟨b, e2, h⟩ := bind_some h
    split at h
    · obtain ⟨y, e3, h⟩ := bind_some h
      obtain ⟨zs, e4, h⟩ := map_some h
      subst h
      exact Nat.succ_le_succ (compL_len e4)
    · exact Nat.le_succ_of_le (compL_len h)
def PFd (X : Cx) (ifs : List Expr) (t : Ev → Option Bool) : Prop := PIf X ifs fun σ H Q => ∃ env R A b, EnvOk X.K R A H σ env ∧ t env = some b ∧ ∀ H', Same H H' → Q b H'
def tTrue : Ev → Option Bool := fun _ => some true
theorem PIf.weak {X : Cx} {e : List Expr} {t t' : TT} (h : PIf X e t) (w : ∀ σ H Q, t' σ H Q → t σ H Q) : PIf X e t' := fun pins s σ H Q I q => h pins s σ H Q I (w σ H Q q)
theorem f_nil {X : Cx} : PFd X [] tTrue := (pif_nil (Y := X)).weak fun σ H Q ⟨env, R, A, b, k, e, q⟩ => by cases e; exact q H (Same.refl H)
theorem f_one {X : Cx} {c : Expr} {t : Ev → Option Bool} (h : PTd X c t) : PFd X [c] t := pif_one h
section
variable {X : Cx} {sc : Scope}
theorem comp_go {J : It} {fs : List (Option Nat)} {is : List Nat} {g : Dat → Ev → Option Ev} {t : Ev → Option Bool} {f : Ev → Option Dat} {σ : St} {H1 : Hp} {Q : VK} {K : PySem.W.Frag} {A : AS} {B : Bs} {env : Ev} {ds ys : List Dat}
    (hfs : ∀ i ∈ is, fs[i]? = some none) (k : EnvOk K B A H1 σ env) (hJ : ItOk false K A H1 ds J) (hz : ds.length ≤ sizeLine) (hc : compL g t f (innerD fs env) ds = some ys) (q : NewC K A H1 ys Q) :
    ∃ W : Nat → Nat → List V → Hp → Prop, (∃ m, W 0 m [] H1) ∧ ∀ i m zs H, W i m zs H →
      (J.stop i H ∧ zs.length ≤ sizeLine ∧ ∀ p, H p = none → Q (.ref p) (upd H p (.lst zs))) ∨
      (J.go i H ∧ zs.length ≤ sizeLine ∧ ∃ N : List V → Hp → Prop, (∀ ys' H', N ys' H' → ∃ m', m' < m ∧ W (i + 1) m' ys' H') ∧ ∀ x H', J.yld i H x H' → (∃ env R A d env', EnvOk K R A H' (inner fs σ) env ∧ Rp K (av H' A) d x ∧ g d env = some env' ∧ ∀ σ', EnvOk K R A H' σ' env' → Agree is (inner fs σ) σ' →
        (Ext (inner fs σ) σ' ∧ ∃ env R A b, EnvOk K R A H' σ' env ∧ t env = some b ∧ ∀ H3, Same H' H3 → if b = true then ∃ env R A d, EnvOk K R A H3 σ' env ∧ f env = some d ∧ RegC false K A H3 d (fun v H4 => N (zs ++ [v]) H4) else N zs H3))) := by
  have hl := compL_len hc
  refine ⟨fun i m zs H => m = ds.length - i ∧ i ≤ ds.length ∧ Same H1 H ∧ ∃ us rest, compL g t f (innerD fs env) (ds.drop i) = some rest ∧ us ++ rest = ys ∧ Rps K (av H A) us zs,
    ⟨ds.length, by simp, Nat.zero_le _, Same.refl _, [], ys, by simpa using hc, rfl, rps_nil⟩, ?_⟩
  rintro i m zs H ⟨rfl, hi, s1, us, rest, e1, e2, r⟩
  have hzs : zs.length ≤ sizeLine := by
    rw [rps_len r]
    have : us.length ≤ ys.length := by rw [← e2, List.length_append]; omega
    omega
  obtain ⟨hgo, hstop⟩ := hJ A H ⟨rfl, s1⟩ (k.mono s1).mu
  by_cases hlt : i < ds.length
  · have hx : ds[i]? = some ds[i] := by simp [hlt]
    obtain ⟨go, yl⟩ := hgo i _ hx
    rw [List.drop_eq_getElem_cons hlt, compL] at e1
    obtain ⟨env1, b1, e1⟩ := bind_some e1
    obtain ⟨b, b2, e1⟩ := bind_some e1
    refine .inr ⟨go, hzs, fun zs' H' => i + 1 ≤ ds.length ∧ Same H1 H' ∧ ∃ us rest, compL g t f (innerD fs env) (ds.drop (i + 1)) = some rest ∧ us ++ rest = ys ∧ Rps K (av H' A) us zs',
      fun zs' H' h => ⟨ds.length - (i + 1), by omega, rfl, h⟩, fun x H' hy => ?_⟩
    obtain ⟨s2, rx⟩ := yl x H' hy
    refine ⟨innerD fs env, ⟨H1, A, false⟩, A, ds[i], env1, (k.inn fs).mono (s1.trans s2), rx, b1, fun σ' k' ag => ⟨⟨ag.1.symm, fun j v ej => ?_⟩, env1, ⟨H1, A, false⟩, A, b, k', b2, fun H3 s3 => ?_⟩⟩
    · have hj : j ∉ is := fun hj => by
        have := hfs j hj
        unfold inner at ej
        rw [List.getElem?_map, this] at ej
        cases ej
      rw [ag.2 j hj]; exact ej
    · cases b with
      | true =>
        rw [if_pos rfl] at e1 ⊢
        obtain ⟨y, b3, e1⟩ := bind_some e1
        obtain ⟨rest', b4, e1⟩ := map_some e1
        subst e1
        refine ⟨env1, ⟨H1, A, false⟩, A, y, k'.mono s3, b3, fun v H4 s4 rv => ⟨hlt, ((s1.trans s2).trans s3).trans s4, us ++ [y], rest', b4, by rw [List.append_assoc]; exact e2, rps_append (r.mono (av_mono ((s2.trans s3).trans s4))) (rps_one rv)⟩⟩
      | false =>
        rw [if_neg Bool.false_ne_true] at e1 ⊢
        exact ⟨hlt, (s1.trans s2).trans s3, us, rest, e1, e2, r.mono (av_mono (s2.trans s3))⟩
  · have e : i = ds.length := by omega
    subst e
    rw [List.drop_length, compL] at e1
    cases e1
    rw [List.append_nil] at e2
    subst e2
    exact .inl ⟨hstop, hzs, (q.mono s1).at (by omega) r⟩
variable {elt tg iter : Expr} {ifs : List Expr} {pos : Pos} {src : Ev → Option (List Dat)} {is : List Nat} {g : Dat → Ev → Option Ev} {t : Ev → Option Bool} {f : Ev → Option Dat}
theorem n_comp (psc : Scope) (fs : List (Option Nat)) (N : List Str) (hp : X.env.scope = psc) (S : CompOk psc sc X.N N fs) (hc : X.calm = true) (hi : PId false X tg iter src)
    (hb : ∀ (C : Addr) (s : Shared) (H : Hp) (fp : List Addr), PGd is (compCx X sc N C s H fp) tg g ∧ PFd (compCx X sc N C s H fp) ifs t ∧ PXd false (compCx X sc N C s H fp) elt f)
    (hfs : ∀ i ∈ is, fs[i]? = some none) (hs : ∀ x, foldedSetIterable iter X.env x = pure x := by intro _; rfl) : PNd X (.ListComp elt [⟨tg, iter, ifs, 0⟩] sc pos) (dComp src fs g t f) := by
  refine PE.weak (pe_comp (g := fun v σ H Q => ∃ env R A d env', EnvOk X.K R A H σ env ∧ Rp X.K (av H A) d v ∧ g d env = some env' ∧ ∀ σ', EnvOk X.K R A H σ' env' → Agree is σ σ' → Q σ' H) (tt := fun σ H Q => ∃ env R A b, EnvOk X.K R A H σ env ∧ t env = some b ∧ ∀ H', Same H H' → Q b H') (te := fun σ H Q => ∃ env R A d, EnvOk X.K R A H σ env ∧ f env = some d ∧ RegC false X.K A H d Q) psc fs N hp S hc hi hb hs) fun σ H Q ⟨env, R, A, ys, k, e, q⟩ => ?_
  obtain ⟨ds, e1, e2⟩ := bind_some e
  exact ⟨env, R, A, ds, k, e1, fun J H1 hz s1 hJ => comp_go hfs (k.mono s1) hJ hz e2 (q.mono s1)⟩
end
end L2
set_option Elab.async false
set_option linter.all false
set_option maxRecDepth 100000
namespace L2
open PySem PySem.Spec PyProof.Rows
def TrX (h base : Heap) (e T : Addr) (cls : Value) (dct : Option Addr) (fl : Value) : Prop :=
  ∃ oe vs oT ts, h.get? e = some oe ∧ oe.cls = cls ∧ oe.dict = dct ∧ oe.data = .fields vs ∧ vs[1]? = some (.ref T) ∧ base.get? T = none ∧ T ≠ e ∧ h.get? T = some oT ∧ oT.data = .fields ts ∧ ts[3]? = some fl
def KpX (l : List Env) (ch : List Addr) (h h' : Heap) : Prop := ∀ b o, h.get? b = some o → b ∉ ch → (b ∉ frs l → h'.get? b = some o) ∧ ∃ sl, h'.get? b = some { o with slots := sl }
theorem KpX.trans {l : List Env} {ch : List Addr} {h h1 h2 : Heap} (a : KpX l ch h h1) (b : KpX l ch h1 h2) : KpX l ch h h2 := fun c o q hc => by
  obtain ⟨k1, sl, k2⟩ := a c o q hc
  obtain ⟨k3, sl', k4⟩ := b c _ k2 hc
  refine ⟨fun hl => ?_, sl', k4⟩
  exact (b c o (k1 hl) hc).1 hl
theorem KpX.weak {l : List Env} {ch ch' : List Addr} {h h1 : Heap} (a : KpX l ch h h1) (s : ∀ b ∈ ch, b ∈ ch') : KpX l ch' h h1 := fun c o q hc => a c o q fun z => hc (s c z)
theorem KpX.of {l : List Env} {ch : List Addr} {h h1 : Heap} (a : ∀ b o, h.get? b = some o → b ∉ ch → h1.get? b = some o) : KpX l ch h h1 := fun c o q hc => ⟨fun _ => a c o q hc, o.slots, a c o q hc⟩
section
variable {M : Model} {A : Around} {E : Value → Shared → Prop} {s : Shared}
end
end L2
set_option Elab.async false
set_option linter.all false
set_option maxRecDepth 100000
namespace L2
open PySem PySem.Spec PyProof.Rows
inductive Fl where
  | next (env : Ev) | ret (d : Dat) | brk (env : Ev) | cont (env : Ev) | exc (env : Ev) (c : Str) (fs : List (Str × XD)) | no
def NwT (K : PySem.W.Frag) (B : Bs) (H' : Hp) (d : Dat) (v : V) : Prop := ∀ ds, d = .lst ds → ∃ p vs, v = .ref p ∧ B.H₀ p = none ∧ H' p = some (.lst vs) ∧ ds.length ≤ sizeLine ∧ Rps K (av H' (ins B.R p)) ds vs
structure XSt (X : Cx) (pins : List (Addr × Obj)) (H : Hp) (h : Heap) (e C : Addr) (dct : Option Addr) : Prop where
  lo : X.s₀.heap.objs.size ≤ e
  un : H e = none
  ob : (∃ o vs, h.get? e = some o ∧ o.cls = .ref C ∧ o.dict = dct ∧ o.data = .fields vs ∧ vs[1]? = some .none) ∨ ∃ T, X.s₀.heap.objs.size ≤ T ∧ H T = none ∧ (∀ p ∈ X.pn ++ pins, p.1 ≠ T) ∧ TrX h X.base e T (.ref C) dct .none
  pe : ∀ p ∈ X.pn ++ pins, p.1 ≠ e
def XW (X : Cx) (A : AS) (H : Hp) (σ : St) (c : Str) (fs : List (Str × XD)) : Prop :=
  ∀ (pins : List (Addr × Obj)) (s : Shared) (e C : Addr) (dct : Option Addr), Inv X pins σ H s → clsAt X.K c C → XSt X pins H s.heap e C dct → XFs X.K (av H A) dct fs → X.xe (.ref e) s
def FlOk (fr : Bool) (X : Cx) (B : Bs) (A : AS) (H : Hp) (D : Ends) : Fl → Prop
  | .next env' => ∀ A' H' σ', Step A H A' H' → EnvOk X.K B A' H' σ' env' → D.nx σ' H'
  | .brk env' => ∀ A' H' σ', Step A H A' H' → EnvOk X.K B A' H' σ' env' → D.bk σ' H'
  | .cont env' => ∀ A' H' σ', Step A H A' H' → EnvOk X.K B A' H' σ' env' → D.ct σ' H'
  | .ret d => ∀ v H', Same B.H₀ H' → Rp X.K (av H' B.R) d v → (fr = true → NwT X.K B H' d v) → D.rt v H'
  | .exc env' c fs => ∀ A' H' σ', Step A H A' H' → EnvOk X.K B A' H' σ' env' → XW X A' H' σ' c fs
  | .no => False
def tS (fr : Bool) (X : Cx) (g : Ev → Fl) : TS := fun D σ H => ∃ env B A, EnvOk X.K B A H σ env ∧ B.st = true ∧ FlOk fr X B A H D (g env)
def PSd (fr : Bool) (X : Cx) (st : Stmt) (g : Ev → Fl) : Prop := PS X st (tS fr X g)
def PBd (fr : Bool) (X : Cx) (st : List Stmt) (g : Ev → Fl) : Prop := PSs X st (tS fr X g)
theorem FlOk.step {fr : Bool} {X : Cx} {B : Bs} {A A' : AS} {H H' : Hp} {D : Ends} {r : Fl} (h : FlOk fr X B A H D r) (s : Step A H A' H') : FlOk fr X B A' H' D r := by
  cases r with
  | next e => exact fun A2 H2 σ2 s2 k => h A2 H2 σ2 (s.trans s2) k
  | brk e => exact fun A2 H2 σ2 s2 k => h A2 H2 σ2 (s.trans s2) k
  | cont e => exact fun A2 H2 σ2 s2 k => h A2 H2 σ2 (s.trans s2) k
  | ret d => exact h
  | exc e c fs => exact fun A2 H2 σ2 s2 k => h A2 H2 σ2 (s.trans s2) k
  | no => exact h
section
variable {fr m : Bool} {X : Cx} {st : Stmt} {rest a b : List Stmt} {e c : Expr} {g h : Ev → Fl} {f : Ev → Option Dat} {fs : Ev → Option (List Dat)} {t : Ev → Option Bool} {pos : Pos}
def bNil : Ev → Fl := fun env => .next env
def bCons (g h : Ev → Fl) : Ev → Fl := fun env => match g env with
  | .next env' => h env'
  | r => r
theorem b_nil : PBd fr X [] bNil := pss_nil.weak fun D σ H ⟨env, B, A, k, hst, q⟩ => q A H σ (Step.refl A H) k
theorem b_cons (h1 : PSd fr X st g) (h2 : PBd fr X rest h) : PBd fr X (st :: rest) (bCons g h) := (pss_cons h1 h2).weak fun D σ H ⟨env, B, A, k, hst, q⟩ => by
  refine ⟨env, B, A, k, hst, ?_⟩
  unfold bCons at q
  split at q
  · rename_i env' e
    rw [e]
    exact fun A' H' σ' s k' => ⟨env', B, A', k', hst, q.step s⟩
  · rename_i r hn
    cases e : g env with
    | next env' => exact absurd e (hn env')
    | brk e' => rw [e] at q; exact q
    | cont e' => rw [e] at q; exact q
    | ret d => rw [e] at q; exact q
    | exc e' c fs => rw [e] at q; exact q
    | no => rw [e] at q; exact q
theorem b_one (h1 : PSd fr X st g) : PBd fr X [st] g := pss_one h1
def sIf (t : Ev → Option Bool) (g h : Ev → Fl) : Ev → Fl := fun env => match t env with
  | some true => g env
  | some false => h env
  | none => .no
theorem s_if (hc : PTd X c t) (ha : PBd fr X a g) (hb : PBd fr X b h) : PSd fr X (.If c a b pos) (sIf t g h) := (ps_if hc ha hb).weak fun D σ H ⟨env, B, A, k, hst, q⟩ => by
  unfold sIf at q
  split at q
  · rename_i e
    refine ⟨env, B, A, true, k, e, fun H' s => ?_⟩
    exact iteT ⟨env, B, A, k.mono s, hst, q.step (Step.same s)⟩
  · rename_i e
    refine ⟨env, B, A, false, k, e, fun H' s => ?_⟩
    exact iteF ⟨env, B, A, k.mono s, hst, q.step (Step.same s)⟩
  · exact q.elim
def sRet (f : Ev → Option Dat) : Ev → Fl := fun env => match f env with
  | some d => .ret d
  | none => .no
theorem ret_ok {B : Bs} {A : AS} {H H' : Hp} {σ : St} {env : Ev} {d : Dat} {v : V} (k : EnvOk X.K B A H σ env) (s : Same H H') (r : Rp X.K (av H' A) d v) : Same B.H₀ H' ∧ Rp X.K (av H' B.R) d v := ⟨k.h0.trans s, r.mono (av_less k.ra)⟩
theorem s_ret (he : PXd false X e f) : PSd false X (.Return (some e) pos) (sRet f) := (ps_ret he).weak fun D σ H ⟨env, B, A, k, hst, q⟩ => by
  unfold sRet at q
  split at q
  · rename_i d e
    exact ⟨env, B, A, d, k, e, fun v H' s r => q v H' (ret_ok k s r).1 (ret_ok k s r).2 (fun z => by cases z)⟩
  · exact q.elim
theorem new_ok {B : Bs} {A : AS} {H H' : Hp} {σ : St} {env : Ev} {ds : List Dat} {p : Addr} {vs : List V} (k : EnvOk X.K B A H σ env) (hz : ds.length ≤ sizeLine) (s : Same H H') (hn : H p = none) (hp : H' p = some (.lst vs)) (r : Rps X.K (av H' (ins A p)) ds vs) : B.H₀ p = none ∧ B.R p = false ∧ Rps X.K (av H' (ins B.R p)) ds vs := by
  have h0 : B.H₀ p = none := k.h0.free hn
  refine ⟨h0, ?_, r.mono (av_less fun a ha => ?_)⟩
  · cases q : B.R p with
    | false => rfl
    | true => obtain ⟨o, ho⟩ := k.r0 p q; rw [h0] at ho; cases ho
  · rcases ins_or ha with z | z
    · exact ins_of (k.ra a z)
    · subst z; exact ins_self
theorem s_retN (he : PNd X e fs) : PSd fr X (.Return (some e) pos) (sRet (dL fs)) := (ps_ret he).weak fun D σ H ⟨env, B, A, k, hst, q⟩ => by
  unfold sRet at q
  split at q
  · rename_i d e
    obtain ⟨ds, e1, e2⟩ := map_some e
    subst e2
    refine ⟨env, B, A, ds, k, e1, fun p vs H' hz s hn hp r => ?_⟩
    obtain ⟨h1, h2, h3⟩ := new_ok k hz s hn hp r
    refine q (.ref p) H' (k.h0.trans s) (rp_lst hz (.inl (.inl (av_at hp h2))) (h3.mono (av_less fun a ha => ins_of ha))) fun _ ds' ed => ?_
    cases ed
    exact ⟨p, vs, rfl, h1, hp, hz, h3⟩
  · exact q.elim
theorem np_set {env : Ev} {i : Nat} {s : Slt} (h : ∀ (j : Nat) d, env[j]? ≠ some (.pk d)) (hs : ∀ d, s ≠ .pk d) : ∀ (j : Nat) d, (env.set i s)[j]? ≠ some (.pk d) := fun j d => by
  rw [List.getElem?_set]
  split
  · split
    · intro z; exact hs d (Option.some.inj z)
    · intro z; cases z
  · exact h j d
theorem EnvOk.own {K : PySem.W.Frag} {B : Bs} {A : AS} {H : Hp} {σ : St} {env : Ev} {i : Nat} {ds : List Dat} (k : EnvOk K B A H σ env) (hst : B.st = true) (h : env[i]? = some (.ow ds)) :
    ∃ a vs, σ[i]? = some (some (.ref a)) ∧ H a = some (.lst vs) ∧ Rps K (av H A) ds vs ∧ ds.length ≤ sizeLine ∧ A a = true ∧ B.R a = false ∧ B.H₀ a = none ∧
      (∀ ds' vs', ds'.length ≤ sizeLine → Rps K (av H A) ds' vs' → Step A H A (upd H a (.lst vs')) ∧ EnvOk K B A (upd H a (.lst vs')) σ (env.set i (.ow ds'))) ∧
      Step A H (fun b => A b && b != a) H ∧ EnvOk K B (fun b => A b && b != a) H σ (env.set i (.fz (.lst ds))) := by
  obtain ⟨own, h1, h2, h4⟩ := k.sl
  obtain ⟨x, q1, a, vs, e1, e2, hz, e3, e4⟩ := h4 i _ h
  subst e1
  obtain ⟨hA, hR⟩ := h2 i a e2
  have h0 : B.H₀ a = none := by
    rcases k.ar a hA with z | z
    · rw [z] at hR; cases hR
    · exact z
  have avs : ∀ vs', Same (av H A) (av (upd H a (.lst vs')) A) := fun vs' b o e => by
    obtain ⟨z1, z2⟩ := av_of e
    have hb : b ≠ a := by intro z; rw [z, hA] at z1; cases z1
    exact av_at (by rw [upd_ne hb]; exact z2) z1
  refine ⟨a, vs, q1, e3, e4, hz, hA, hR, h0, fun ds' vs' hz' r' => ⟨⟨fun b o hb hAb => ?_, fun b hb => .inl hb⟩, ?_⟩, ⟨fun b o hb _ => hb, fun b hb => .inl ?_⟩, ?_⟩
  · have hn : b ≠ a := by intro z; rw [z, hA] at hAb; cases hAb
    rw [upd_ne hn]; exact hb
  · refine ⟨fun b o hb => ?_, k.r0, k.ra, k.ar, fun b hb => ?_, by rw [List.length_set]; exact k.len, fun hs j d' => np_set (k.np hs) (fun _ z => by cases z) j d', own, h1, h2, fun j s e => ?_⟩
    · have hn : b ≠ a := ne_of_none hb h0
      rw [upd_ne hn]; exact k.h0 b o hb
    · by_cases hn : b = a
      · subst hn; rw [upd_same]; trivial
      · rw [upd_ne hn]; exact k.mu b hb
    · by_cases hj : i = j
      · subst hj
        rw [List.getElem?_set, if_pos rfl] at e
        split at e
        · cases e
          exact ⟨_, q1, a, vs', rfl, e2, hz', upd_same, r'.mono (avs vs')⟩
        · cases e
      · rw [List.getElem?_set, if_neg hj] at e
        obtain ⟨x, p1, p2⟩ := h4 j s e
        refine ⟨x, p1, ?_⟩
        cases s with
        | un => trivial
        | fz d => obtain ⟨v, z1, z2⟩ := p2; exact ⟨v, z1, z2.mono (avs vs')⟩
        | pk d =>
          exact absurd e (k.np hst j d)
        | ow es =>
          obtain ⟨b, us, z1, z2, z3, z4, z5⟩ := p2
          have hn : b ≠ a := fun z => hj (h1 i j a e2 (z ▸ z2))
          exact ⟨b, us, z1, z2, z3, by rw [upd_ne hn]; exact z4, z5.mono (avs vs')⟩
  · rw [Bool.and_eq_true] at hb; exact hb.1
  · have less : Same (av H A) (av H fun b => A b && b != a) := av_less fun b hb => by rw [Bool.and_eq_true] at hb; exact hb.1
    refine ⟨k.h0, k.r0, fun b hb => ?_, fun b hb => ?_, fun b hb => ?_, by rw [List.length_set]; exact k.len, fun hs j d' => np_set (k.np hs) (fun _ z => by cases z) j d', fun j b => j ≠ i ∧ own j b, fun j j' b z z' => h1 j j' b z.2 z'.2, fun j b z => ?_, fun j s e => ?_⟩
    · have hn : b ≠ a := by intro z; rw [z, hR] at hb; cases hb
      simp [k.ra b hb, hn]
    · rw [Bool.and_eq_true] at hb; exact k.ar b hb.1
    · rw [Bool.and_eq_true] at hb; exact k.mu b hb.1
    · have hn : b ≠ a := fun w => z.1 (h1 j i a (w ▸ z.2) e2)
      simp [(h2 j b z.2).1, (h2 j b z.2).2, hn]
    · by_cases hj : i = j
      · subst hj
        rw [List.getElem?_set, if_pos rfl] at e
        split at e
        · cases e
          exact ⟨_, q1, .ref a, rfl, rp_lst hz (.inl (.inl (av_at e3 (by simp)))) (e4.mono less)⟩
        · cases e
      · rw [List.getElem?_set, if_neg hj] at e
        obtain ⟨x, p1, p2⟩ := h4 j s e
        refine ⟨x, p1, ?_⟩
        cases s with
        | un => trivial
        | fz d => obtain ⟨v, z1, z2⟩ := p2; exact ⟨v, z1, z2.mono less⟩
        | pk d =>
          obtain ⟨v, z1, z2⟩ := p2
          refine ⟨v, z1, ?_⟩
          rcases z2 with z2 | ⟨b, us, es, y1, y2, y3, y4, y5⟩
          · exact .inl (z2.mono less)
          · exact .inr ⟨b, us, es, y1, y2, y3, y4, y5.mono less⟩
        | ow es =>
          obtain ⟨b, us, z1, z2, z3, z4, z5⟩ := p2
          exact ⟨b, us, z1, ⟨Ne.symm hj, z2⟩, z3, z4, z5.mono less⟩
def frz (i : Nat) : Ev → Ev := fun env => match env[i]? with
  | some (.ow ds) => env.set i (.fz (.lst ds))
  | _ => env
def sRetO (i : Nat) : Ev → Fl := fun env => match env[i]? with
  | some (.ow ds) => .ret (.lst ds)
  | _ => .no
def sSet (i : Nat) (f : Ev → Option Dat) : Ev → Fl := fun env => match f env with
  | some d => .next (env.set i (.fz d))
  | none => .no
def sOwn (i : Nat) (f : Ev → Option (List Dat)) : Ev → Fl := fun env => match f env with
  | some ds => .next (env.set i (.ow ds))
  | none => .no
theorem EnvOk.putO {K : PySem.W.Frag} {B : Bs} {A : AS} {H H' : Hp} {σ : St} {env : Ev} (k : EnvOk K B A H σ env) (hst : B.st = true) (i : Nat) {ds : List Dat} {p : Addr} {vs : List V} (hz : ds.length ≤ sizeLine) (s : Same H H') (hn : H p = none) (hp : H' p = some (.lst vs)) (r : Rps K (av H' (ins A p)) ds vs) :
    Step A H (ins A p) H' ∧ EnvOk K B (ins A p) H' (σ.set i (some (.ref p))) (env.set i (.ow ds)) := by
  have st : Step A H (ins A p) H' := ⟨fun a o h _ => s a o h, fun a h => by
    rcases ins_or h with z | z
    · exact .inl z
    · rw [z]; exact .inr hn⟩
  have hAp : A p = false := k.mu.new hn
  have h0 : B.H₀ p = none := k.h0.free hn
  obtain ⟨own, h1, h2, h4⟩ := k.sl
  refine ⟨st, k.h0.trans s, k.r0, fun a h => ins_of (k.ra a h), fun a h => ?_, fun a h => ?_, by rw [List.length_set, List.length_set]; exact k.len, fun hs j d' => np_set (k.np hs) (fun _ z => by cases z) j d',
    fun j a => (j ≠ i ∧ own j a) ∨ (j = i ∧ a = p), fun j j' a z z' => ?_, fun j a z => ?_, fun j sl e => ?_⟩
  · rcases ins_or h with z | z
    · exact k.ar a z
    · rw [z]; exact .inr h0
  · rcases ins_or h with z | z
    · exact k.mu.mono s a z
    · rw [z, hp]; trivial
  · rcases z with z | z <;> rcases z' with z' | z'
    · exact h1 j j' a z.2 z'.2
    · have := (h2 j a z.2).1; rw [z'.2, hAp] at this; cases this
    · have := (h2 j' a z'.2).1; rw [z.2, hAp] at this; cases this
    · rw [z.1, z'.1]
  · rcases z with z | z
    · exact ⟨ins_of (h2 j a z.2).1, (h2 j a z.2).2⟩
    · refine ⟨by rw [z.2]; exact ins_self, ?_⟩
      cases q : B.R a with
      | false => rfl
      | true => obtain ⟨o, ho⟩ := k.r0 a q; rw [z.2, h0] at ho; cases ho
  · by_cases hj : i = j
    · subst hj
      rw [List.getElem?_set, if_pos rfl] at e
      split at e
      · rename_i hl
        cases e
        exact ⟨some (.ref p), by rw [List.getElem?_set, if_pos rfl, if_pos (by rw [k.len]; exact hl)], p, vs, rfl, .inr ⟨rfl, rfl⟩, hz, hp, r⟩
      · cases e
    · rw [List.getElem?_set, if_neg hj] at e
      obtain ⟨x, p1, p2⟩ := h4 j sl e
      refine ⟨x, by rw [List.getElem?_set, if_neg hj]; exact p1, ?_⟩
      cases sl with
      | un => trivial
      | fz d => obtain ⟨v, z1, z2⟩ := p2; exact ⟨v, z1, z2.mono st.av⟩
      | pk d => exact absurd e (k.np hst j d)
      | ow es =>
        obtain ⟨b, us, z1, z2, z3, z4, z5⟩ := p2
        exact ⟨b, us, z1, .inl ⟨Ne.symm hj, z2⟩, z3, s _ _ z4, z5.mono st.av⟩
theorem s_set (i : Nat) {x : Str} {pos' : Pos} (hN : X.N.Nodup) (hi : X.N[i]? = some x) (hx : Loc X.env.scope x) (he : PXd false X e f) (hs : swapsWith e (some (.Name x pos')) pos.line X.env = pure false := by rfl)
    (hf : X.fn x = true ∨ X.env.scope.names.lookup x = some .local := by first | exact .inl rfl | exact .inr rfl | assumption) : PSd fr X (.Assign [.Name x pos'] e pos) (sSet i f) := (ps_set hN hi hx he hs hf).weak fun D σ H ⟨env, B, A, k, hst, q⟩ => by
  unfold sSet at q
  split at q
  · rename_i d e
    exact ⟨env, B, A, d, k, e, fun v H' s r => q A H' _ (Step.same s) ((k.mono s).put i r)⟩
  · exact q.elim
theorem s_own (i : Nat) {x : Str} {pos' : Pos} (hN : X.N.Nodup) (hi : X.N[i]? = some x) (hx : Loc X.env.scope x) (he : PNd X e fs) (hs : swapsWith e (some (.Name x pos')) pos.line X.env = pure false := by rfl)
    (hf : X.fn x = true ∨ X.env.scope.names.lookup x = some .local := by first | exact .inl rfl | exact .inr rfl | assumption) : PSd fr X (.Assign [.Name x pos'] e pos) (sOwn i fs) := (ps_set hN hi hx he hs hf).weak fun D σ H ⟨env, B, A, k, hst, q⟩ => by
  unfold sOwn at q
  split at q
  · rename_i ds e
    refine ⟨env, B, A, ds, k, e, fun p vs H' hz s hn hp r => ?_⟩
    obtain ⟨h1, h2⟩ := k.putO hst i hz s hn hp r
    exact q _ H' _ h1 h2
  · exact q.elim
variable {sc : Scope} {elt tg iter : Expr} {ifs : List Expr} {src : Ev → Option (List Dat)} {is : List Nat} {gg : Dat → Ev → Option Ev} {tt : Ev → Option Bool}
def sAsg (f : Ev → Option Dat) (g : Dat → Ev → Option Ev) : Ev → Fl := fun env => match (f env).bind fun d => g d env with
  | some env' => .next env'
  | none => .no
theorem s_asg {tg e : Expr} {is : List Nat} {g : Dat → Ev → Option Ev} (he : PXd false X e f) (hg : PGd is X tg g) (hs : swapsWithSole [tg] e pos.line X.env = pure false := by rfl) (hw : swappedStores [tg] e X.env = pure none := by rfl) (h1 : (assignEach [tg] X.env).map (·.2) = [assign tg X.env] := by rfl) : PSd fr X (.Assign [tg] e pos) (sAsg f g) := (ps_asg he hg hs hw h1).weak fun D σ H ⟨env, B, A, k, hst, q⟩ => by
  unfold sAsg at q
  split at q
  · rename_i env' e
    obtain ⟨d, e1, e2⟩ := bind_some e
    exact ⟨env, B, A, d, k, e1, fun v H' s r => ⟨env, B, A, d, env', k.mono s, r, e2, fun σ' k' _ => q A H' σ' (Step.same s) k'⟩⟩
  · exact q.elim
def forL (g : Dat → Ev → Option Ev) (body : Ev → Fl) : List Dat → Ev → Fl
  | [], env => .next env
  | x :: xs, env => match g x env with
    | none => .no
    | some env1 => match body env1 with
      | .next e => forL g body xs e
      | .cont e => forL g body xs e
      | .brk e => .next e
      | .ret d => .ret d
      | .exc e c fs => .exc e c fs
      | .no => .no
def sFor (src : Ev → Option (List Dat)) (g : Dat → Ev → Option Ev) (body : Ev → Fl) : Ev → Fl := fun env => match src env with
  | none => .no
  | some ds => forL g body ds env
theorem s_for {body : List Stmt} (hp : PassesOwn (model X.prog X.w) X.A X.env X.xe) (hc : X.calm = true) (hi : PId true X tg iter src) (hg : PGd is X tg gg) (hb : PBd fr X body g)
    (hs : ∀ x, foldedSetIterable iter X.env x = pure x := by intro _; rfl) : PSd fr X (.For tg iter body [] pos) (sFor src gg g) := (ps_for hp hc hi hg hb hs).weak fun D σ H ⟨env, B, A, k, hst, q⟩ => by
  unfold sFor at q
  split at q
  · exact q.elim
  rename_i ds e
  refine ⟨env, B, A, ds, k, e, fun J H1 hz s1 hJ => ?_⟩
  refine ⟨fun i m σ' H' => m = ds.length - i ∧ i ≤ ds.length ∧ ∃ A' env', Step A H1 A' H' ∧ EnvOk X.K B A' H' σ' env' ∧ FlOk fr X B A' H' D (forL gg g (ds.drop i) env'),
    ⟨ds.length, by simp, Nat.zero_le _, A, env, Step.refl A H1, k.mono s1, by simpa using q.step (Step.same s1)⟩, ?_⟩
  rintro i m σ' H' ⟨rfl, hi', A', env', s', k', q'⟩
  obtain ⟨hgo, hstop⟩ := hJ A' H' s' k'.mu
  by_cases hlt : i < ds.length
  · obtain ⟨go, yl⟩ := hgo i _ (show ds[i]? = some ds[i] by simp [hlt])
    refine .inr ⟨go, fun σ2 H2 => i + 1 ≤ ds.length ∧ ∃ A2 env2, Step A H1 A2 H2 ∧ EnvOk X.K B A2 H2 σ2 env2 ∧ FlOk fr X B A2 H2 D (forL gg g (ds.drop (i + 1)) env2), fun σ2 H2 z => ⟨ds.length - (i + 1), by omega, rfl, z⟩, fun x H2 hy => ?_⟩
    obtain ⟨s2, rx⟩ := yl x H2 hy
    rw [List.drop_eq_getElem_cons hlt, forL] at q'
    split at q'
    · exact q'.elim
    rename_i env1 e1
    refine ⟨env', B, A', ds[i], env1, k'.mono s2, rx, e1, fun σ3 k3 _ => ⟨env1, B, A', k3, hst, ?_⟩⟩
    have st2 : Step A' H' A' H2 := Step.same s2
    split at q'
    · rename_i e2 eb
      rw [eb]
      exact fun A4 H4 σ4 s4 k4 => ⟨hlt, A4, e2, s'.trans (st2.trans s4), k4, q'.step (st2.trans s4)⟩
    · rename_i e2 eb
      rw [eb]
      exact fun A4 H4 σ4 s4 k4 => ⟨hlt, A4, e2, s'.trans (st2.trans s4), k4, q'.step (st2.trans s4)⟩
    · rename_i e2 eb
      rw [eb]
      exact fun A4 H4 σ4 s4 k4 => q' A4 H4 σ4 (st2.trans s4) k4
    · rename_i d eb
      rw [eb]
      exact q'
    · rename_i e2 c2 f2 eb
      rw [eb]
      exact fun A4 H4 σ4 s4 k4 => q' A4 H4 σ4 (st2.trans s4) k4
    · exact q'.elim
  · have e : i = ds.length := by omega
    subst e
    rw [List.drop_length, forL] at q'
    exact .inl ⟨hstop, q' A' H' σ' (Step.refl _ _) k'⟩
def whileN (t : Ev → Option Bool) (body : Ev → Fl) : Nat → Ev → Fl
  | 0, _ => .no
  | n + 1, env => match t env with
    | none => .no
    | some false => .next env
    | some true => match body env with
      | .next e => whileN t body n e
      | .cont e => whileN t body n e
      | .brk e => .next e
      | .ret d => .ret d
      | .exc e c fs => .exc e c fs
      | .no => .no
theorem whileN_mono {t : Ev → Option Bool} {body : Ev → Fl} : ∀ {n : Nat} {env : Ev} (k : Nat), whileN t body n env ≠ .no → whileN t body (n + k) env = whileN t body n env
  | 0, env, k, h => absurd rfl h
  | n + 1, env, k, h => by
    rw [show n + 1 + k = (n + k) + 1 by omega]
    simp only [whileN] at h ⊢
    split
    · rfl
    · rfl
    · rename_i e1
      simp only [e1] at h
      split
      · rename_i e2 eb; simp only [eb] at h; exact whileN_mono k h
      · rename_i e2 eb; simp only [eb] at h; exact whileN_mono k h
      · rfl
      · rfl
      · rfl
      · rfl
open Classical in
noncomputable def sWhile (t : Ev → Option Bool) (body : Ev → Fl) : Ev → Fl := fun env => if h : ∃ n, whileN t body n env ≠ .no then whileN t body (Classical.choose h) env else .no
theorem sWhile_eq {t : Ev → Option Bool} {body : Ev → Fl} {n : Nat} {env : Ev} (h : whileN t body n env ≠ .no) : sWhile t body env = whileN t body n env := by
  unfold sWhile
  have hx : ∃ n, whileN t body n env ≠ .no := ⟨n, h⟩
  rw [dif_pos hx]
  have hc := Classical.choose_spec hx
  have e1 := whileN_mono n hc
  have e2 := whileN_mono (Classical.choose hx) h
  rw [← e1, ← e2, Nat.add_comm]
theorem s_while {body : List Stmt} (hp : PassesOwn (model X.prog X.w) X.A X.env X.xe) (hc : PTd X c t) (hb : PBd fr X body g) : PSd fr X (.While c body [] pos) (sWhile t g) := (ps_while hp hc hb).weak fun D σ H ⟨env, B, A, k, hst, q⟩ => by
  unfold sWhile at q
  split at q
  · rename_i hx
    refine ⟨fun n σ' H' => ∃ A' env', EnvOk X.K B A' H' σ' env' ∧ FlOk fr X B A' H' D (whileN t g n env'), ⟨_, A, env, k, q⟩, ?_⟩
    rintro n σ' H' ⟨A', env', k', q'⟩
    cases n with
    | zero => exact q'.elim
    | succ n =>
      rw [whileN] at q'
      split at q'
      · exact q'.elim
      · rename_i e1
        refine ⟨env', B, A', false, k', e1, fun H1 s1 => ?_⟩
        refine iteF ?_
        exact q' A' H1 σ' (Step.same s1) (k'.mono s1)
      · rename_i e1
        refine ⟨env', B, A', true, k', e1, fun H1 s1 => ?_⟩
        refine iteT ?_
        refine ⟨fun σ2 H2 => ∃ A2 env2, EnvOk X.K B A2 H2 σ2 env2 ∧ FlOk fr X B A2 H2 D (whileN t g n env2), fun σ2 H2 z => ⟨n, Nat.lt_succ_self n, z⟩, env', B, A', k'.mono s1, hst, ?_⟩
        have st2 : Step A' H' A' H1 := Step.same s1
        split at q'
        · rename_i e2 eb
          rw [eb]
          exact fun A4 H4 σ4 s4 k4 => ⟨A4, e2, k4, q'.step (st2.trans s4)⟩
        · rename_i e2 eb
          rw [eb]
          exact fun A4 H4 σ4 s4 k4 => ⟨A4, e2, k4, q'.step (st2.trans s4)⟩
        · rename_i e2 eb
          rw [eb]
          exact fun A4 H4 σ4 s4 k4 => q' A4 H4 σ4 (st2.trans s4) k4
        · rename_i d eb
          rw [eb]
          exact q'
        · rename_i e2 c2 f2 eb
          rw [eb]
          exact fun A4 H4 σ4 s4 k4 => q' A4 H4 σ4 (st2.trans s4) k4
        · exact q'.elim
  · exact q.elim
def MtU (X : Cx) (id : String) (F : List Dat → List Dat → Option (List Dat)) : Prop := MtR X id (fun v us H Q => ∃ A a vs ds as ds', MuOk A H ∧ v = .ref a ∧ H a = some (.lst vs) ∧ Rps X.K (av H A) ds vs ∧ Rms false X.K A H as us ∧ F ds as = some ds' ∧ ∀ w vs', ds'.length ≤ sizeLine → Rps X.K (av H A) ds' vs' → Q w (upd H a (.lst vs')))
def sMeth (i : Nat) (F : List Dat → List Dat → Option (List Dat)) (fs : Ev → Option (List Dat)) : Ev → Fl := fun env => match env[i]? with
  | some (.ow ds) => match (fs env).bind fun as => F ds as with
    | some ds' => .next (env.set i (.ow ds'))
    | none => .no
  | _ => .no
theorem s_meth (i : Nat) {x : Str} {es : List Expr} {name : Str} {id : String} {F : List Dat → List Dat → Option (List Dat)} {p apos cpos : Pos} (slot : Slot "list" name id) (hty : typeOf (.builtin id) = pure (.type "method_descriptor")) (hm : MtU X id F) (ha : PAd false X (e :: es) fs)
    (hN : X.N[i]? = some x := by rfl) (hv : Vis X.env.scope x := by first | exact Or.inl rfl | exact Or.inr (Or.inl rfl) | exact Or.inr (Or.inr rfl)) (hd : (x == ("__debug__" : Str)) = false := by decide) (hcd : (x == ("__classdict__" : Str)) = false := by decide)
    (hsw : swapsWith (.Call (.Attribute (.Name x p) name apos) (e :: es) [] cpos) none pos.line X.env = pure false := by rfl)
    (hbase : attributeBase (.Name x p) name X.env (eval (.Name x p) X.env) = eval (.Name x p) X.env := by rfl)
    (hfew : ((backTo cpos (starEach (e :: es) X.env)).all (fun x => !x.1) && (backToKw cpos (keywordEach [] X.env)).all (fun x => x.1.isSome)
      && decide ((e :: es).length + ([] : List Keyword).length + (if ([] : List Keyword).isEmpty then 0 else 1) < 30)) = true := by rfl)
    (hline : (apos.endLine == cpos.line) = true := by rfl) (hs : starEach (e :: es) X.env = (false, eval e X.env) :: starEach es X.env := by rfl) (hplain : (backTo cpos (starEach es X.env)).any (·.1) = false := by rfl) :
    PSd fr X (.Expr (.Call (.Attribute (.Name x p) name apos) (e :: es) [] cpos) pos) (sMeth i F fs) := (ps_expr (pe_bm PySem.F.plainAttrs_list slot hty hm (pe_var hN hv hd hcd) ha hbase hfew hline hs hplain) hsw).weak fun D σ H ⟨env, B, A, k, hst, q⟩ => by
  unfold sMeth at q
  split at q
  · rename_i ds e
    split at q
    · rename_i ds' e2
      obtain ⟨as, e3, e4⟩ := bind_some e2
      obtain ⟨a, vs, h1, h2, h3, _⟩ := k.own hst e
      refine ⟨.ref a, h1, .inl ⟨rfl, vs, SqL.of h2⟩, env, B, A, as, k, e3, fun us H2 s2 rs => ?_⟩
      have k2 := k.mono s2
      obtain ⟨a', vs', g1, g2, g3, _, _, _, _, g4, _⟩ := k2.own hst e
      rw [h1] at g1
      cases g1
      refine ⟨A, a, vs', ds, as, ds', k2.mu, rfl, g2, g3, rs, e4, fun w vs2 hz r2 => ?_⟩
      obtain ⟨z1, z2⟩ := g4 ds' vs2 hz r2
      exact q A _ σ ((Step.same s2).trans z1) z2
    · exact q.elim
  · exact q.elim
def appendF : List Dat → List Dat → Option (List Dat)
  | ds, [d] => if ds.length < sizeLine then some (ds ++ [d]) else none
  | _, _ => none
theorem m_append : MtU X "list.append" appendF := MtR.weak (id := "list.append") mt_append fun v us H Q ⟨A, a, vs, ds, as, ds', mu, e1, h1, r1, r2, e2, q⟩ => by
  unfold appendF at e2
  split at e2
  · rename_i d
    split at e2
    · rename_i hl
      cases e2
      obtain ⟨w, us', e3, r3, e4⟩ := r2
      refine ⟨a, vs, w, e1, by rw [e3, show us' = [] from e4], h1, by rw [rps_len r1]; exact hl, q _ _ (by simp; omega) (rps_append r1 (rps_one r3))⟩
    · cases e2
  · cases e2
end
inductive Rs where
  | ok (d : Dat) | exc (c : Str) (fs : List (Str × XD)) | no
def startD (n : Nat) (ds : List Dat) : Ev := ds.map .fz ++ List.replicate (n - ds.length) .un
def runD (n p : Nat) (g : Ev → Fl) : List Dat → Rs := fun ds => if ds.length = p then (match g (startD n ds) with
  | .ret d => .ok d
  | .next _ => .ok .non
  | .exc _ c fs => .exc c fs
  | _ => .no) else .no
def spD (K : PySem.W.Frag) (fr : Bool) (p : Nat) (F : List Dat → Rs) : Sp := fun vs H Q _ => vs.length = p ∧ ∃ ds R d, MuOk R H ∧ Rps K (av H R) ds vs ∧ F ds = .ok d ∧ ∀ v H', Same H H' → Rp K (av H' R) d v → (fr = true → NwT K ⟨H, R, true⟩ H' d v) → Q v H'
structure CalD (P : Program) (w : World) (K : PySem.W.Frag) (mg : Str → Option Value) (base : Heap) (k : Nat) (x : Str) (ps : List Str) (fr : Bool) (F : List Dat → Rs) : Prop where
  cal : Cal P w K mg base k x ps (spD K fr ps.length F)
  len : ∀ ds d, F ds = .ok d → ds.length = ps.length
theorem Mtb.some {o : Option HO} (h : Mtb o) : ∃ u, o = Option.some u := by
  cases o with
  | none => exact h.elim
  | some u => exact ⟨u, rfl⟩
theorem start_ok {K : PySem.W.Frag} {H : Hp} {R : AS} {N : List Str} {ds : List Dat} {vs : List V} (mu : MuOk R H) (r : Rps K (av H R) ds vs) (hl : ds.length ≤ N.length) : EnvOk K ⟨H, R, true⟩ R H (start N vs) (startD N.length ds) := by
  have hn := rps_len r
  refine ⟨Same.refl H, fun a h => (mu a h).some, fun _ h => h, fun _ h => .inl h, mu, by simp [start, startD]; omega, fun _ i d => ?_, fun _ _ => False, fun _ _ _ h => h.elim, fun _ _ h => h.elim, fun i s e => ?_⟩
  · unfold startD
    rw [List.getElem?_append]
    split
    · rw [List.getElem?_map]
      cases ds[i]? <;> simp
    · rw [List.getElem?_replicate]
      split <;> simp
  · unfold startD at e
    unfold start
    rw [List.getElem?_append] at e ⊢
    simp only [List.length_map] at e ⊢
    rw [hn]
    split at e
    · rename_i hi
      rw [if_pos hi]
      rw [List.getElem?_map] at e ⊢
      cases hd : ds[i]? with
      | none => rw [hd] at e; cases e
      | some d =>
        rw [hd] at e
        cases e
        obtain ⟨v, h1, h2⟩ := rps_get r hd
        rw [h1]
        exact ⟨some v, rfl, v, rfl, h2⟩
    · rename_i hi
      rw [if_neg hi]
      rw [List.getElem?_replicate] at e ⊢
      split at e
      · rename_i h2
        cases e
        rw [if_pos h2]
        exact ⟨none, rfl, trivial⟩
      · cases e
theorem run_body {fr : Bool} {X : Cx} {N : List Str} {p : Nat} {g : Ev → Fl} {ds : List Dat} {d : Dat} {R : AS} {H : Hp} {vs : List V} {Q : VK} (hp : p ≤ N.length) (mu : MuOk R H) (r : Rps X.K (av H R) ds vs) (hF : runD N.length p g ds = .ok d)
    (q : ∀ v H', Same H H' → Rp X.K (av H' R) d v → (fr = true → NwT X.K ⟨H, R, true⟩ H' d v) → Q v H') :
    tS fr X g (Ends.mk (fun _ H' => Q .non H') Q (fun _ _ => False) (fun _ _ => False)) (start N vs) H := by
  unfold runD at hF
  split at hF
  · rename_i hl
    refine ⟨startD N.length ds, ⟨H, R, true⟩, R, start_ok mu r (by omega), rfl, ?_⟩
    split at hF
    · rename_i d' e
      cases hF
      rw [e]
      exact fun v H' s r n => q v H' s r n
    · rename_i env e
      cases hF
      rw [e]
      exact fun A' H' σ' s k => q .non H' k.h0 rp_non (fun _ ds e => by cases e)
    · cases hF
    · cases hF
  · cases hF
section
variable {P : Program} {w : World} {K : PySem.W.Frag} {mg : Str → Option Value} {base : Heap}
theorem runD_len {n p : Nat} {g : Ev → Fl} {ds : List Dat} {d : Dat} (h : runD n p g ds = .ok d) : ds.length = p := by
  unfold runD at h
  split at h
  · assumption
  · cases h
theorem cal_d {x : Str} {st : Stmt} {N ps : List Str} {k : Nat} {fr : Bool} {g : Ev → Fl} (D : Def K mg x st) (S : FnScope N ps (defScope st))
    (hbi : ∀ (kV doc pm : Value) (an : Option Addr) (cdv ct : Value) (us : List Value), us.length = ps.length → bindArgs (PySem.W.fnOf x x (defArgs st) (defBody st) (defScope st) .none kV doc pm an cdv ct) ⟨us, []⟩ = pure (ps.zip us))
    (hb : ∀ (f : Addr) (cdv : Value) (A : Around) (outer : List Env) (s : Shared) (H : Hp) (E : XK), Room k (A.deeper (envOfC x (defScope st) s.heap.objs.size f cdv)) → PBd fr (cxOf CX0 P w K mg base N x (defScope st) f cdv A outer s H E).nox (defBody st) g) :
    CalD P w K mg base (k + 1) x ps fr (runD N.length ps.length g) := by
  have hpl : ps.length ≤ N.length := by have := congrArg List.length S.pre; rw [List.length_take] at this; omega
  refine ⟨cal_of D S hbi (fun vs H Q E h => h.1) fun f cdv A outer s H vs Q E hr ⟨hl, ds, R, d, mu, r, hF, q⟩ => ⟨_, hb f cdv A outer s H E hr, ?_⟩, fun ds d h => runD_len h⟩
  exact run_body hpl mu r hF q
theorem CalD.mono {j k : Nat} {x : Str} {ps : List Str} {fr : Bool} {F : List Dat → Rs} (C : CalD P w K mg base j x ps fr F) (h : j ≤ k) : CalD P w K mg base k x ps fr F := ⟨C.cal.mono h, C.len⟩
def spLaw (K : PySem.W.Frag) : Sp := fun vs H Q _ => ∃ (a : Addr) (ns : List Int), vs = [.ref a] ∧ SL K H a (ns.map V.int) ∧ ns.length ≤ 63 ∧ ∀ H', Q (.bl true) H'
theorem law_d {x : Str} {st : Stmt} {f : Addr} {fd : FuncData} {N ps : List Str} {k : Nat} {g : Ev → Fl} (F : Fun K x x st f fd) (S : FnScope N ps (defScope st)) (hps : ps.length = 1)
    (hb : ∀ (cdv : Value) (A : Around) (outer : List Env) (s : Shared) (H : Hp) (E : XK), Room k (A.deeper (envOfC x (defScope st) s.heap.objs.size f cdv)) → PBd false (cxOf CX0 P w K mg base N x (defScope st) f cdv A outer s H E).nox (defBody st) g)
    (law : ∀ ns : List Int, ns.length ≤ 63 → runD N.length 1 g [.lst (ns.map .int)] = .ok (.bl true)) : FnOk P w K mg base CX0 (k + 1) f fd ps (spLaw K) := by
  have hpl : ps.length ≤ N.length := by have := congrArg List.length S.pre; rw [List.length_take] at this; omega
  refine fn_body F S (fun vs H Q E ⟨a, ns, e, _⟩ => by rw [e, hps]; rfl) fun cdv A outer s H vs Q E hr ⟨a, ns, e, hS, hl, q⟩ => ⟨_, hb cdv A outer s H E hr, ?_⟩
  subst e
  refine run_body (R := no) (d := .bl true) (by omega) (fun a h => by cases h) (ds := [.lst (ns.map .int)]) ?_ (law ns hl) fun v H' _ r _ => by rw [of_bl r]; exact q H'
  rw [av_no]
  refine rps_one (rp_lst ?_ hS (rps_ints ns))
  rw [List.length_map]
  exact Nat.le_of_lt (small1000 (by omega))
variable {X : Cx} {m : Bool} {fr : Bool} {F : List Dat → Rs} {k : Nat} {x : Str} {ps : List Str} {e : Expr} {es : List Expr} {fs : Ev → Option (List Dat)} {p pos : Pos}
def okR : Rs → Option Dat
  | .ok d => some d
  | _ => none
theorem okR_some {r : Rs} {d : Dat} (h : okR r = some d) : r = .ok d := by cases r <;> cases h; rfl
def dCal (F : List Dat → Rs) (fs : Ev → Option (List Dat)) : Ev → Option Dat := fun env => (fs env).bind fun ds => okR (F ds)
theorem xcal (C : CalD X.prog X.w X.K X.mg X.base k x ps fr F) (hr : Room k X.A) (ha : PAd false X (e :: es) fs) (hg : Gl X x := by rfl)
    (hdb : (x == ("__debug__" : Str)) = false := by decide) (he : starEach (e :: es) X.env = (false, eval e X.env) :: starEach es X.env := by rfl) (hpl : (backTo pos (starEach es X.env)).any (·.1) = false := by rfl) :
    PXd m X (.Call (.Name x p) (e :: es) [] pos) (dCal F fs) := PXd.any ((pe_cal C.cal hr ha hg hdb he hpl).weak fun σ H Q ⟨env, R, A, d, k, q1, q2⟩ => by
  obtain ⟨ds, e1, e2⟩ := bind_some q1
  have e3 := okR_some e2
  refine ⟨env, R, A, ds, k, e1, fun vs H1 s1 rs => ⟨by rw [rps_len rs.rps]; exact C.len ds d e3, ds, A, d, k.mu.mono s1, rs.rps, e3, fun v H' s r _ => q2 v H' (s1.trans s) r⟩⟩)
def lstR : Rs → Option (List Dat)
  | .ok (.lst ds) => some ds
  | _ => none
def dCalN (F : List Dat → Rs) (fs : Ev → Option (List Dat)) : Ev → Option (List Dat) := fun env => (fs env).bind fun ds => lstR (F ds)
mutual
def pureD : Dat → Bool
  | .lst _ => false
  | .dct _ => false
  | .exc _ _ => false
  | .tup xs => pureDs xs
  | .non => true
  | .bl _ => true
  | .int _ => true
  | .str _ => true
def pureDs : List Dat → Bool
  | [] => true
  | x :: xs => pureD x && pureDs xs
end
theorem sqT_av {K : PySem.W.Frag} {H : Hp} {A : AS} {a : Addr} {vs : List V} (mu : MuOk A H) (h : SqT K H a vs) : SqT K (av H A) a vs := by
  rcases h with h | h
  · left
    have hA : A a = false := by
      cases q : A a with
      | false => rfl
      | true =>
        have := mu a q
        rcases h with h | ⟨o, h⟩ <;> rw [h] at this <;> exact this.elim
    rcases h with h | ⟨o, h⟩
    · exact .inl (av_at h hA)
    · exact .inr ⟨o, av_at h hA⟩
  · exact .inr h
mutual
theorem Rp.pure {K : PySem.W.Frag} {H : Hp} {A : AS} (mu : MuOk A H) : ∀ {d : Dat} {v : V}, pureD d = true → Rp K H d v → Rp K (av H A) d v
  | .non, v, _, r => by rw [of_non r]; exact rp_non
  | .bl b, v, _, r => by rw [of_bl r]; exact rp_bl
  | .int b, v, _, r => by rw [of_int r]; exact rp_int
  | .str b, v, _, r => by obtain ⟨e, h⟩ := of_str r; rw [e]; exact rp_str h
  | .lst _, v, h, _ => by cases h
  | .dct _, v, h, _ => by cases h
  | .exc _ _, v, h, _ => by cases h
  | .tup xs, v, h, r => by
    obtain ⟨a, vs, e, h1, h2⟩ := of_tup r
    subst e
    exact rp_tup (len_tup r) (sqT_av mu h1) (Rps.pure mu (by simpa [pureD] using h) h2)
theorem Rps.pure {K : PySem.W.Frag} {H : Hp} {A : AS} (mu : MuOk A H) : ∀ {ds : List Dat} {vs : List V}, pureDs ds = true → Rps K H ds vs → Rps K (av H A) ds vs
  | [], vs, _, r => by rw [rps_of_nil r]; exact rps_nil
  | d :: ds, vs, h, r => by
    obtain ⟨v, us, e, r1, r2⟩ := rps_of_cons r
    subst e
    rw [pureDs, Bool.and_eq_true] at h
    exact rps_cons (Rp.pure mu h.1 r1) (Rps.pure mu h.2 r2)
end
def dCalP (F : List Dat → Rs) (fs : Ev → Option (List Dat)) : Ev → Option Dat := fun env => (fs env).bind fun ds => (okR (F ds)).bind fun d => if pureD d = true then some d else none
end
end L2
set_option Elab.async false
set_option linter.all false
set_option maxRecDepth 100000
namespace L2
open PySem PySem.Spec PyProof.Rows
section
variable {X : Cx} {m : Bool}
structure Glo (K : PySem.W.Frag) (mg : Str → Option Value) (x : Str) (d : Dat) : Prop where
  ex : ∃ v u, mg x = some u ∧ RelV v u ∧ ∀ H, Rp K H d v
theorem Glo.x {x : Str} {d : Dat} {p : Pos} (G : Glo X.K X.mg x d) (hg : Gl X x) (hd : (x == ("__debug__" : Str)) = false := by decide) : PXd m X (.Name x p) (dC d) := by
  obtain ⟨v, u, h1, h2, h3⟩ := G.ex
  exact xglob hg h1 h2 h3 hd
end
end L2
set_option Elab.async false
set_option linter.all false
set_option maxRecDepth 100000
namespace L2
open PySem PySem.Spec PyProof.Rows
section
variable {st m : Bool} {X : Cx} {l : Expr} {es : List Expr} {f : Ev → Option Dat} {tk : Nat} {tpos : Pos}
def numb : Nat → List Dat → List Dat
  | _, [] => []
  | k, x :: xs => .tup [.int k, x] :: numb (k + 1) xs
def srcE (f : Ev → Option Dat) : Ev → Option (List Dat) := fun env => (srcL f env).map (numb 0)
end
end L2
set_option Elab.async false
set_option linter.all false
set_option maxRecDepth 100000
namespace PySem
open Sem (wp)
open AutoSeq1 (wpAny_loadPart')
namespace F
end F
section
variable {prog : Program} {w : World} {A : Around} {E : Value → Shared → Prop} {s : Shared}
end
section
variable {prog : Program} {w : World} {A : Around} {s : Shared} {R : Result → Shared → Prop}
variable {I : Addr} {fp wr : List Addr} {G : Array GenState → Array GenState → Prop} {n : Nat} {P : Nat → Value → Prop} {St : Nat → Shared → Prop}
end
section
variable {prog : Program} {w : World} {A : Around} {E : Value → Shared → Prop} {s : Shared}
variable {I : Addr} {fp wr : List Addr} {n : Nat} {P : Nat → Value → Prop} {St : Nat → Shared → Prop}
end
section
variable {prog : Program} {w : World} {A : Around}
end
end PySem
set_option Elab.async false
set_option linter.all false
set_option maxRecDepth 100000
namespace L2
open PySem PySem.Spec PyProof.Rows
section
variable {X : Cx} {m : Bool} {e : Expr} {f : Ev → Option Dat} {fs : Ev → Option (List Dat)}
def downTo : Nat → List Dat
  | 0 => []
  | n + 1 => .int n :: downTo n
def downI : Nat → List Int
  | 0 => []
  | n + 1 => (n : Int) :: downI n
theorem downTo_eq : ∀ n, downTo n = (downI n).map .int
  | 0 => rfl
  | n + 1 => by rw [downTo, downI, List.map_cons, downTo_eq n]
def dLRR (fs : Ev → Option (List Dat)) : Ev → Option (List Dat) := fun env => match fs env with
  | some [.int n] => if 0 ≤ n ∧ n ≤ 1000 then some (downTo n.toNat) else none
  | _ => none
def intD : List Dat → Option Dat
  | [.int i] => some (.int i)
  | [.bl b] => some (.int (if b then 1 else 0))
  | _ => none
theorem c_int : CallD X (.type "int") intD := call_int1.weak fun vs H Q ⟨A, ds, d, mu, e, p, q⟩ => by
  unfold intD at e
  split at e
  · obtain ⟨v, e1, p1⟩ := p.one
    cases e
    exact .inl ⟨_, by rw [e1, p1.int], q.here rp_int⟩
  · obtain ⟨v, e1, p1⟩ := p.one
    cases e
    exact .inr ⟨_, by rw [e1, p1.bl], q.here rp_int⟩
  · cases e
def mulS : Dat → Dat → Option Dat
  | .str x, .int k => if 1 ≤ k ∧ k ≤ 1000 ∧ x.length ≤ 1000 then some (.str (Txt.mul x k)) else none
  | _, _ => none
theorem mem_reps {α : Type} (x : Array α) (c : α) : ∀ (n : Nat) (acc : Array α), c ∈ (List.replicate n x).foldl (· ++ ·) acc → c ∈ acc ∨ c ∈ x
  | 0, acc, h => .inl h
  | n + 1, acc, h => by
    rw [List.replicate_succ, List.foldl_cons] at h
    rcases mem_reps x c n _ h with h | h
    · rcases Array.mem_append.mp h with h | h
      · exact .inl h
      · exact .inr h
    · exact .inr h
theorem strOk_mul {x : Str} {k : Int} (h : PyData.strOk x = true) : PyData.strOk (Txt.mul x k) = true := by
  unfold Txt.mul
  split
  · unfold PyData.strOk Str.empty; simp
  · split
    · exact h
    · unfold PyData.strOk at h ⊢
      rw [Array.all_eq_true'] at h ⊢
      intro c hc
      rcases mem_reps x.cps c _ _ hc with z | z
      · simp at z
      · exact h c z
theorem o_mulS : OpD X (binaryOp .Mult) mulS := fun pins s σ H x y v u Q I rx ry ⟨A, a, b, d, mu, e, p1, p2, q⟩ => by
  unfold mulS at e
  split at e
  · rename_i z k
    split at e
    · rename_i hz
      cases e
      obtain ⟨e1, k1⟩ := p1.str
      have e2 := p2.int
      subst e1 e2
      obtain ⟨t, rfl⟩ := rx
      obtain ⟨t', rfl⟩ := ry
      have hl : (Txt.mul z k).length ≤ 1000 * 1000 := len_mul_leN hz.2.2 hz.2.1
      refine SB.mul (mulOk_of 1000 1000 hz.2.2 hz.2.1 (by omega) (by decide) (by decide)) fun t' k' => ⟨.str (Txt.mul z k), H, I.tok _, ⟨_, rfl⟩, q.here (rp_str (SOk.of (strOk_mul k1.ok) (Nat.le_trans hl (by decide))))⟩
    · cases e
  · cases e
def mulE : Dat → Dat → Option Dat
  | .int i, .int j => mulI (.int i) (.int j)
  | .str x, .int k => mulS (.str x) (.int k)
  | _, _ => none
theorem o_mulE : OpD X (binaryOp .Mult) mulE := OpD.or o_mulI o_mulS fun x y d e => by
  unfold mulE at e
  split at e
  · exact .inl e
  · exact .inr e
  · cases e
def sMeth0 (i : Nat) (F : List Dat → List Dat → Option (List Dat)) : Ev → Fl := fun env => match env[i]? with
  | some (.ow ds) => match F ds [] with
    | some ds' => .next (env.set i (.ow ds'))
    | none => .no
  | _ => .no
def clearF : List Dat → List Dat → Option (List Dat)
  | _, [] => some []
  | _, _ => none
end
end L2
set_option Elab.async false
set_option linter.all false
set_option maxRecDepth 100000
namespace L2
open PySem
section
variable {prog : Program} {w : World} {A : Around} {E : Value → Shared → Prop} {h : Heap} {g : Array GenState} {d : Drawn} {t : Nat} {os : OsState}
variable {nm q : Str} {C N : Addr} {bs bm bmB : List Value} {hdct : Bool} {sn : List Str} {sub : List Value} {ab : Bool} {col : Option Bool} {dd : Option Addr} {k0 k1 k2 k3 k5 : Option Value} {B Bn newId nid initId inN : String} {bmN : List Value}
end
end L2
set_option Elab.async false
set_option linter.all false
set_option maxRecDepth 100000
namespace L2
open PySem
section
variable {M : Model} {A : Around} {E : Value → Shared → Prop} {env : Env}
variable {nm q : Str} {C N : Addr} {bs bm : List Value} {hdct : Bool} {sn : List Str} {sub : List Value} {ab : Bool} {col : Option Bool} {dd : Option Addr} {k0 k1 k2 k3 k5 : Option Value} {newId : String}
end
end L2
set_option Elab.async false
set_option linter.all false
set_option maxRecDepth 100000
namespace L2
open PySem
section
variable {prog : Program} {w : World} {A : Around} {E : Value → Shared → Prop} {h : Heap} {g : Array GenState} {d : Drawn} {t : Nat} {os : OsState}
variable {nm q : Str} {C N : Addr} {bs bm bmB : List Value} {hdct : Bool} {sn : List Str} {sub : List Value} {ab : Bool} {col : Option Bool} {dd : Option Addr} {k0 k1 k2 k3 k5 : Option Value} {newId nid : String}
end
end L2
set_option Elab.async false
set_option linter.all false
set_option maxRecDepth 100000
namespace L2
open PySem PySem.Spec PyProof.Rows PySem.W
open PySem.Builtin PySem.Builtin.ObjectAttr
def veMro : List Value := [.type "ValueError", .type "Exception", .type "BaseException", .type "object"]
section
variable {prog : Program} {w : World} {A : Around} {E : Value → Shared → Prop} {s : Shared} {K : Frag} {x C a b : Addr} {cd : ClassData} {R : Result → Shared → Prop} {v : Value} {name : Str}
end
section
variable {prog : Program} {w : World} {A : Around} {E : Value → Shared → Prop} {h : Heap} {g : Array GenState} {d : Drawn} {t : Nat} {os : OsState} {x C : Addr} {v : Value} {name : Str} {oC : Obj} {cd : ClassData}
end
end L2
set_option Elab.async false
set_option linter.all false
set_option maxRecDepth 100000
namespace L2
open PySem PySem.Spec PyProof.Rows PySem.W
open PySem.Builtin PySem.Builtin.ObjectAttr
section
variable {prog : Program} {w : World} {A : Around} {E : Value → Shared → Prop} {h : Heap} {g : Array GenState} {d : Drawn} {t : Nat} {os : OsState} {x C dx : Addr} {v : Value} {name : Str} {oC o : Obj} {cd : ClassData} {K : Frag} {mA : Str → Option Value}
end
end L2
set_option Elab.async false
set_option linter.all false
set_option maxRecDepth 100000
namespace L2
open PySem PySem.Spec PyProof.Rows PySem.W
open PySem.Builtin PySem.Builtin.ObjectAttr
section
variable {prog : Program} {w : World} {A : Around} {E : Value → Shared → Prop} {h : Heap} {g : Array GenState} {d : Drawn} {t : Nat} {os : OsState} {x C : Addr} {o : Obj} {K : Frag}
structure XCls (K : Frag) (C : Addr) : Prop where
  cd : ∃ cd, clsIn K C = some cd ∧ cd.hasDict = true ∧ ∃ a b, cd.mro = .ref a :: .ref b :: veMro
  cl : findIn K (.ref C) "__class__" = some (some (.builtin "object.__class__"))
  ga : findIn K (.ref C) "__getattribute__" = some (some (.builtin "BaseException.__getattribute__"))
  gh : findIn K (.ref C) "__getattr__" = some none
  sa : findIn K (.ref C) "__setattr__" = some (some (.builtin "object.__setattr__"))
theorem XCls.sub (c : XCls K C) (X : K.In h) (T : String) (hT : veMro.contains (.type T) = true) {M : Model} : Looks M h (isSubtype (.ref C) (.type T)) true := by
  obtain ⟨cd, hc, _, a, b, hm⟩ := c.cd
  have hT2 : Value.type T ∈ veMro := by simpa using hT
  exact looks_mroIn X (by unfold mroIn; rw [hc, Option.bind_some, hm]; simp [hT2])
end
end L2
set_option Elab.async false
set_option linter.all false
set_option maxRecDepth 100000
namespace L2
open PySem PySem.Spec PyProof.Rows
def CXv (P : Program) (w : World) (base : Heap) : CXT := fun outer H s E ev s' => ∃ e C dct T H', ev = .ref e ∧ s'.os = s.os ∧ AllBare s'.gens ∧ Un (frs outer) [] H H' s.heap s'.heap ∧ HOk P w H' s'.heap ∧
  s.heap.objs.size ≤ e ∧ s.heap.objs.size ≤ T ∧ H' e = none ∧ H' T = none ∧ TrX s'.heap base e T (.ref C) dct .none ∧ E (.ref C) dct H'
end L2
set_option Elab.async false
set_option linter.all false
set_option maxRecDepth 100000
namespace L2
open PySem PySem.Spec PyProof.Rows
def OutOk (K : PySem.W.Frag) (fr : Bool) (R : AS) (H : Hp) (Q : VK) (E : XK) : Rs → Prop
  | .ok d => ∀ v H', Same H H' → Rp K (av H' R) d v → (fr = true → NwT K ⟨H, R, true⟩ H' d v) → Q v H'
  | .exc c fs => ∀ C dct H', Same H H' → clsAt K c C → XFs K (av H' R) dct fs → E (.ref C) dct H'
  | .no => False
def spX (K : PySem.W.Frag) (fr : Bool) (p : Nat) (F : List Dat → Rs) : Sp := fun vs H Q E => vs.length = p ∧ ∃ ds R, MuOk R H ∧ Rps K (av H R) ds vs ∧ OutOk K fr R H Q E (F ds)
structure CalX (P : Program) (w : World) (K : PySem.W.Frag) (mg : Str → Option Value) (base : Heap) (k : Nat) (x : Str) (ps : List Str) (fr : Bool) (F : List Dat → Rs) : Prop where
  ex : ∃ f fd, FnOk P w K mg base (CXv P w base) k f fd ps (spX K fr ps.length F) ∧ mg x = some (.ref f) ∧ PySem.W.keepIn K (.ref f) = true ∧ Binds K fd ps []
  len : ∀ ds, F ds ≠ .no → ds.length = ps.length
section
variable {P : Program} {w : World} {K : PySem.W.Frag} {mg : Str → Option Value} {base : Heap}
end
section
variable {X : Cx} {m fr fr' : Bool} {F : List Dat → Rs} {k : Nat} {x : Str} {ps : List Str} {e : Expr} {es : List Expr} {fs : Ev → Option (List Dat)} {p pos : Pos}
end
end L2
set_option Elab.async false
set_option linter.all false
set_option maxRecDepth 100000
namespace L2
open PySem PySem.Spec PyProof.Rows
section
variable {X : Cx}
end
end L2
set_option Elab.async false
set_option linter.all false
set_option maxRecDepth 100000
namespace L2
open PySem PySem.Spec PyProof.Rows PySem.W
def xcIn (K : Frag) (C fI D : Addr) : Bool := match K.lookup C with
  | some ⟨.type "type", _, .cls cd, sl⟩ => (match cd.mro, sl.toList with
    | .ref C' :: bm, [_, _, _, _, some (.builtin n), _] => C' == C && n == "ValueError.__new__" && !cd.hasDel && cd.hasDict && bm == .ref D :: veMro && tailIn K veMro bm && nsOkIn K cd.ns && nsIn K cd.ns "__init__" == some (some (.ref fI))
    | _, _ => false)
  | _ => false
def XNw (e C : Addr) (dct : Option Addr) (h : Heap) : Prop := ∃ t : Addr, h.get? e = some { cls := .ref C, dict := dct, data := .fields #[.ref t, .none, .none, .none, .bool false, .none] }
structure BaseC (K : Frag) (mg : Str → Option Value) (D : Addr) : Prop where
  mg : mg "CalmError" = some (.ref D)
  ga : specialIn K (.ref D) "__getattribute__" = some (some (.builtin "type.__getattribute__"))
  rd : readsIn K D (.type "type") = true
  fi : findCls K (.ref D) (.type "type") "__init__" = some (.val (.builtin "ValueError.__init__"))
section
variable {X : Cx} {e : Expr} {es : List Expr} {t : TA} {p apos pos pos' : Pos} {D : Addr}
end
end L2
set_option Elab.async false
set_option linter.all false
set_option maxRecDepth 100000
namespace L2
open PySem PySem.Spec PyProof.Rows PySem.W
def spG (K : Frag) (C : Addr) (p : Nat) (G : List Dat → Option (List (Str × XD))) : Sp := fun vs H Q _ => ∃ e ws ds R fl, vs = .ref e :: ws ∧ ws.length = p ∧ H e = some (.ext (XNw e C none)) ∧ MuOk R H ∧ R e = false ∧ Rps K (av H R) ds ws ∧ G ds = some fl ∧
  ∀ H' dct, (∀ c o, c ≠ e → H c = some o → H' c = some o) → H' e = some (.ext (XNw e C dct)) → XFs K (av H' R) dct fl → Q .non H'
structure XMake (P : Program) (w : World) (K : Frag) (mg : Str → Option Value) (base : Heap) (k : Nat) (c : Str) (p : Nat) (G : List Dat → Option (List (Str × XD))) : Prop where
  ex : ∃ C fI D fd ps, clsAt K c C ∧ mg c = some (.ref C) ∧ keepIn K (.ref C) = true ∧ xcIn K C fI D = true ∧ XCls K C ∧ isFn K (.ref fI) = true ∧ FnOk P w K mg base CX0 k fI fd ps (spG K C p G) ∧ Binds K fd ps []
  len : ∀ ds fl, G ds = some fl → ds.length = p
  few : p ≤ 10
def drp (H : Hp) (a : Addr) : Hp := fun b => if b = a then none else H b
theorem drp_ne {H : Hp} {a b : Addr} (h : b ≠ a) : drp H a b = H b := by unfold drp; rw [if_neg h]
theorem drp_self {H : Hp} {a : Addr} : drp H a a = none := by unfold drp; rw [if_pos rfl]
theorem drp_none {H : Hp} {a b : Addr} (h : H b = none) : drp H a b = none := by unfold drp; split <;> first | rfl | exact h
theorem Inv.drop {X : Cx} {pins : List (Addr × Obj)} {σ : St} {H : Hp} {s : Shared} {a : Addr} {g : Heap → Prop} (I : Inv X pins σ H s) (ha : H a = some (.ext g)) : Inv X pins σ (drp H a) s := by
  have ne : ∀ {b : Addr} {o : HO}, H b = some o → (∀ g, o ≠ .ext g) → drp H a b = some o := fun {b o} q n => by rw [drp_ne (fun z => by rw [z, ha] at q; exact n _ (Option.some.inj q).symm)]; exact q
  refine ⟨I.ok, I.os, I.bare, ⟨I.base.keep, I.base.slot, fun b o q n hx => drp_none (I.base.free b o q n hx), I.base.there, fun b xs q => ne (I.base.tups b xs q) (fun _ z => by cases z), fun b o u q => ne (I.base.frzs b o u q) (fun _ z => by cases z), fun b ps q => ?_⟩, I.loc, I.cell, drp_none I.free, fun x c e => drp_none (I.freeC x c e), fun p hp => ?_, fun b o q => ?_, I.len⟩
  · obtain ⟨more, z⟩ := I.base.tbls b ps q
    exact ⟨more, ne z (fun _ z => by cases z)⟩
  · obtain ⟨h1, h2, h3⟩ := I.pin p hp
    exact ⟨h1, drp_none h2, h3⟩
  · have hb : b ≠ a := fun z => by rw [z, drp_self] at q; cases q
    rw [drp_ne hb] at q
    exact (I.hok b o q).stay (fun _ _ _ w => w) (fun c w => ne w (fun _ z => by cases z)) fun c xs w => ne w (fun _ z => by cases z)
section
variable {X : Cx} {fr : Bool} {e : Expr} {es : List Expr} {fs : Ev → Option (List Dat)} {p pos cpos : Pos} {k n : Nat} {c : Str} {G : List Dat → Option (List (Str × XD))}
end
end L2
set_option Elab.async false
set_option linter.all false
set_option maxRecDepth 100000
namespace L2
open PySem PySem.Spec PyProof.Rows PySem.W
section
variable {P : Program} {w : World} {K : Frag} {mg : Str → Option Value} {base : Heap}
end
end L2
set_option Elab.async false
set_option linter.all false
set_option maxRecDepth 100000
namespace L2
open PySem PySem.Spec PyProof.Rows PySem.W
section
variable {X : Cx} {pins : List (Addr × Obj)} {σ : St} {H : Hp} {s : Shared}
end
end L2
set_option Elab.async false
set_option linter.all false
set_option maxRecDepth 100000
namespace L2
open PySem PySem.Spec PyProof.Rows PySem.W
section
variable {X : Cx} {fr : Bool} {g h : Ev → Fl} {body : List Stmt} {b₀ : Stmt} {suite : List Stmt} {T n : Str} {np hpos pos : Pos} {i : Nat} {sub : Str → Bool} {DT : Addr}
end
end L2
set_option Elab.async false
set_option linter.all false
set_option maxRecDepth 100000
namespace L2
open PySem PySem.Spec PyProof.Rows PySem.W
section
variable {X : Cx} {m : Bool} {e : Expr} {f : Ev → Option Dat} {p p2 pos : Pos}
def XD.d : XD → Dat
  | .int i => .int i
  | .nums is => .lst (is.map .int)
end
end L2
set_option Elab.async false
set_option linter.all false
set_option maxRecDepth 100000
namespace L2
open PySem
def Ris (xs : Array Nat) : Prop := ∀ i k (h1 : i < k) (h2 : k < xs.size), xs[i] < xs[k]
theorem below_go (xs : Array Nat) (j : Nat) (hr : Ris xs) : ∀ (fuel lo hi : Nat), hi - lo ≤ fuel → lo ≤ hi → hi ≤ xs.size → (∀ k (h : k < xs.size), k < lo → xs[k] < j) → (∀ k (h : k < xs.size), hi ≤ k → j ≤ xs[k]) →
    SetTable.below.go xs j fuel lo hi ≤ xs.size ∧ (∀ k (h : k < xs.size), k < SetTable.below.go xs j fuel lo hi → xs[k] < j) ∧ (∀ k (h : k < xs.size), SetTable.below.go xs j fuel lo hi ≤ k → j ≤ xs[k])
  | 0, lo, hi, hf, hl, hh, h1, h2 => by
    have : lo = hi := by omega
    subst this
    exact ⟨hh, h1, h2⟩
  | fuel + 1, lo, hi, hf, hl, hh, h1, h2 => by
    rw [SetTable.below.go]
    split
    · rename_i hlt
      dsimp only
      have hm : (lo + hi) / 2 < xs.size := by omega
      have hg : xs.getD ((lo + hi) / 2) j = xs[(lo + hi) / 2] := by simp [Array.getD, hm]
      rw [hg]
      split
      · rename_i hx
        refine below_go xs j hr fuel _ _ (by omega) (by omega) hh (fun k h hk => ?_) h2
        rcases Nat.lt_or_ge k ((lo + hi) / 2) with h3 | h3
        · exact Nat.lt_trans (hr k _ h3 hm) hx
        · have : k = (lo + hi) / 2 := by omega
          subst this; exact hx
      · rename_i hx
        refine below_go xs j hr fuel _ _ (by omega) (by omega) (by omega) h1 (fun k h hk => ?_)
        rcases Nat.lt_or_ge ((lo + hi) / 2) k with h3 | h3
        · exact Nat.le_of_lt (Nat.lt_of_le_of_lt (Nat.le_of_not_lt hx) (hr _ k h3 h))
        · have : k = (lo + hi) / 2 := by omega
          subst this; exact Nat.le_of_not_lt hx
    · have : lo = hi := by omega
      subst this
      exact ⟨hh, h1, h2⟩
theorem below_spec {xs : Array Nat} (hr : Ris xs) (j : Nat) : SetTable.below xs j ≤ xs.size ∧ (∀ k (h : k < xs.size), k < SetTable.below xs j → xs[k] < j) ∧ (∀ k (h : k < xs.size), SetTable.below xs j ≤ k → j ≤ xs[k]) :=
  below_go xs j hr xs.size 0 xs.size (by omega) (Nat.zero_le _) (Nat.le_refl _) (fun k h hk => by omega) (fun k h hk => by omega)
theorem ris_list {xs : Array Nat} : Ris xs ↔ xs.toList.Pairwise (· < ·) := by
  rw [List.pairwise_iff_getElem]
  constructor
  · intro h i j hi hj hij
    have := h i j hij (by simpa using hj)
    simpa using this
  · intro h i j hij hj
    have := h i j (by simp; omega) (by simpa using hj) hij
    simpa using this
theorem insert_list {α : Type} (xs : Array α) (p : Nat) (x : α) (hp : p ≤ xs.size) : (SetTable.insertAt xs p x).toList = xs.toList.take p ++ x :: xs.toList.drop p := by
  unfold SetTable.insertAt
  simp
  rw [List.take_of_length_le (by rw [List.length_drop, Array.length_toList]; exact Nat.le_refl _)]
theorem insert_ris {xs : Array Nat} (hr : Ris xs) {j : Nat} (hn : ¬ xs[SetTable.below xs j]? = some j) : Ris (SetTable.insertAt xs (SetTable.below xs j) j) := by
  obtain ⟨a, b, c⟩ := below_spec hr j
  rw [ris_list, insert_list _ _ _ a, List.pairwise_append]
  have hp := ris_list.mp hr
  refine ⟨hp.sublist (List.take_sublist _ _), List.pairwise_cons.mpr ⟨fun y hy => ?_, hp.sublist (List.drop_sublist _ _)⟩, fun y hy z hz => ?_⟩
  · obtain ⟨k, hk, rfl⟩ := List.mem_iff_getElem.mp hy
    rw [List.length_drop, Array.length_toList] at hk
    have hk2 : SetTable.below xs j + k < xs.size := by omega
    have h1 := c _ hk2 (by omega)
    rw [List.getElem_drop, Array.getElem_toList]
    rcases Nat.eq_or_lt_of_le h1 with h2 | h2
    · exfalso
      apply hn
      have hb : SetTable.below xs j < xs.size := by omega
      rw [Array.getElem?_eq_getElem hb]
      congr 1
      have h3 := c _ hb (Nat.le_refl _)
      rcases Nat.eq_zero_or_pos k with h0 | h0
      · subst h0; simpa using h2.symm
      · have := hr (SetTable.below xs j) (SetTable.below xs j + k) (by omega) hk2
        omega
    · exact h2
  · obtain ⟨k, hk, rfl⟩ := List.mem_iff_getElem.mp hy
    rw [List.length_take, Array.length_toList] at hk
    have hk2 : k < xs.size := by omega
    rw [List.getElem_take, Array.getElem_toList]
    have h1 := b k hk2 (by omega)
    rcases List.mem_cons.mp hz with rfl | hz
    · exact h1
    · obtain ⟨m, hm, rfl⟩ := List.mem_iff_getElem.mp hz
      rw [List.length_drop, Array.length_toList] at hm
      have h2 := c (SetTable.below xs j + m) (by omega) (by omega)
      rw [List.getElem_drop, Array.getElem_toList]
      omega
structure TOk (t : SetTable) : Prop where
  ris : Ris t.place
  dum : t.dummies = #[]
theorem empty_ris : Ris #[] := fun i k h1 h2 => by simp at h2
theorem TOk.fresh (a b : Nat) (led : Bool) : TOk (SetTable.fresh a b led) := ⟨empty_ris, rfl⟩
theorem has_none (j : Nat) : SetTable.has #[] j = false := by unfold SetTable.has; simp
theorem slot_empty {t : SetTable} (h : TOk t) {j : Nat} (e : t.slot j = .empty) : ¬ t.place[SetTable.below t.place j]? = some j := by
  unfold SetTable.slot at e
  dsimp only at e
  split at e
  · cases e
  · rename_i hn; intro z; apply hn; rw [z]; simp
theorem TOk.put {t : SetTable} (h : TOk t) {j : Nat} (e : t.slot j = .empty) : TOk (t.put j).1 := by
  unfold SetTable.put
  exact ⟨insert_ris h.ris (slot_empty h e), by dsimp only; rw [h.dum, has_none, if_neg (by decide)]⟩
end L2
set_option Elab.async false
set_option linter.all false
set_option maxRecDepth 100000
namespace L2
open PySem PySem.Spec PyProof.Rows
def ival : Value → Int
  | .int i _ => i
  | _ => 0
def ivals (es : Array (Int × Value)) : List Int := es.toList.map fun e => ival e.2
def setObj (es : Array (Int × Value)) (ep : Nat) (t : SetTable) : Obj := { cls := .type "set", dict := none, data := .set es ep t, slots := #[] }
def SK (P : Program) (w : World) (h : Heap) (a : Addr) (led : Bool) (ks : List Int) : Prop :=
  ∃ es ep t, h.get? a = some (setObj es ep t) ∧ ElemsOf (intKind P w) es.toList ∧ (ivals es).Perm ks ∧ es.size < scanBound ∧ t.fits es.size = true ∧ TOk t ∧ t.led = led
section
variable {P : Program} {w : World} {A : Around} {E : Value → Shared → Prop} {s : Shared}
def addK (ks : List Int) (k : Int) : List Int := if k ∈ ks then ks else ks ++ [k]
end
end L2
set_option Elab.async false
set_option linter.all false
set_option maxRecDepth 100000
namespace L2
open PySem PySem.Spec PyProof.Rows
theorem SK.heap {P : Program} {w : World} {h h' : Heap} {a : Addr} {led : Bool} {ks : List Int} (hS : SK P w h a led ks) (e : ∀ o, h.get? a = some o → h'.get? a = some o) : SK P w h' a led ks := by
  obtain ⟨es, ep, t, ho, r⟩ := hS
  exact ⟨es, ep, t, e _ ho, r⟩
section
variable {P : Program} {w : World} {A : Around} {R : Result → Shared → Prop} {I : Addr} {fp wr : List Addr} {G : Array GenState → Array GenState → Prop} {n : Nat} {Pv : Nat → Value → Prop} {St : Nat → Shared → Prop}
end
end L2
set_option Elab.async false
set_option linter.all false
set_option maxRecDepth 100000
namespace L2
open PySem PySem.Spec PyProof.Rows
section
variable {P : Program} {w : World} {A : Around} {E : Value → Shared → Prop} {s : Shared}
end
end L2
set_option Elab.async false
set_option linter.all false
set_option maxRecDepth 100000
namespace PySem
namespace F
end F
end PySem
namespace L2
open PySem PySem.Spec PyProof.Rows
end L2
set_option Elab.async false
set_option linter.all false
set_option maxRecDepth 100000
namespace L2
open PySem PySem.Spec PyProof.Rows
section
variable {P : Program} {w : World} {A : Around} {E : Value → Shared → Prop} {s : Shared}
end
end L2
set_option Elab.async false
set_option linter.all false
set_option maxRecDepth 100000
namespace L2
open PySem PySem.Spec PyProof.Rows
section
variable {P : Program} {w : World} {A : Around} {E : Value → Shared → Prop} {s : Shared}
end
end L2
set_option Elab.async false
set_option linter.all false
set_option maxRecDepth 100000
namespace PySem.F
end PySem.F
namespace L2
open PySem PySem.Spec PyProof.Rows
section
variable {P : Program} {w : World} {A : Around} {E : Value → Shared → Prop} {s : Shared}
end
end L2
set_option Elab.async false
set_option linter.all false
set_option maxRecDepth 100000
namespace L2
open PySem PySem.Spec PyProof.Rows
section
variable {P : Program} {w : World} {A : Around} {E : Value → Shared → Prop} {s : Shared}
end
end L2
set_option Elab.async false
set_option linter.all false
set_option maxRecDepth 100000
namespace Sq
open PySem PyProof PyProof.Rows
structure Bse (a₀ : Array Keyed) (p : Array (Nat × Nat × Nat)) (st : SortSt) : Prop where
  perm : (arrOf st).Perm a₀
  kind : kindOf st = oneType'
  fail : failedOf st = none
  pend : pendingOf st = p
abbrev ky (x : Keyed) : Int := numOf x.1
section
variable {prog : Program} {w : World} {A : Around} {E : Value → Shared → Prop} {s : Shared} {a₀ : Array Keyed} {p : Array (Nat × Nat × Nat)}
theorem Bse.size {st : SortSt} (h : Bse a₀ p st) : (arrOf st).size = a₀.size := h.perm.size_eq
theorem Bse.set {st : SortSt} (h : Bse a₀ p st) {xs : Array Keyed} (q : xs.Perm (arrOf st)) : Bse a₀ p (setArr st xs) := ⟨q.trans h.perm, h.kind, h.fail, h.pend⟩
theorem Bse.int {st : SortSt} (h : Bse a₀ p st) (h0 : IntKeys a₀) : IntKeys (arrOf st) := fun q hq => h0 q ((Array.perm_iff_toList_perm.mp h.perm).mem_iff.mp hq)
end
end Sq
set_option Elab.async false
set_option linter.all false
set_option maxRecDepth 100000
namespace Sq
open PySem PyProof PyProof.Rows
section
variable {prog : Program} {w : World} {A : Around} {E : Value → Shared → Prop} {s : Shared} {a₀ : Array Keyed} {p : Array (Nat × Nat × Nat)}
end
end Sq
set_option Elab.async false
set_option linter.all false
set_option maxRecDepth 100000
namespace Sq
open PySem PyProof PyProof.Rows
def gal : Bool → Keyed → Array Keyed → Nat → Nat → Nat → StateT SortSt Sem (Option Nat) := sortPriv% PySem.Builtin.gallop
section
variable {prog : Program} {w : World} {A : Around} {E : Value → Shared → Prop} {s : Shared}
end
end Sq
set_option Elab.async false
set_option linter.all false
set_option maxRecDepth 100000
namespace Sq
open PySem PyProof PyProof.Rows
def Srt (r : Int → Int → Prop) (l : List Keyed) : Prop := l.Pairwise fun x y => r (ky x) (ky y)
structure Mg (r : Int → Int → Prop) (a b out : List Keyed) (ia ib : Nat) : Prop where
  perm : (out ++ (a.drop ia ++ b.drop ib)).Perm (a ++ b)
  srt : Srt r out
  le : ∀ x ∈ out, ∀ y, y ∈ a.drop ia ∨ y ∈ b.drop ib → r (ky x) (ky y)
section
variable {r : Int → Int → Prop} {a b out : List Keyed} {ia ib : Nat}
theorem srt_drop {l : List Keyed} (h : Srt r l) (i : Nat) : Srt r (l.drop i) := List.Pairwise.sublist (List.drop_sublist i l) h
theorem srt_head {l : List Keyed} (h : Srt r l) {i : Nat} (hi : i < l.length) : ∀ y ∈ l.drop (i + 1), r (ky l[i]) (ky y) := by
  have h2 := srt_drop h i
  rw [List.drop_eq_getElem_cons hi] at h2
  exact (List.pairwise_cons.mp h2).1
theorem Mg.start (hb : 0 < b.length) (h1 : ∀ y ∈ a, r (ky b[0]) (ky y)) (hs : Srt r b) : Mg r a b [b[0]] 0 1 where
  perm := by
    have e : b = b[0] :: b.drop 1 := by rw [← List.drop_eq_getElem_cons hb, List.drop_zero]
    have : ([b[0]] ++ (a.drop 0 ++ b.drop 1)).Perm (a ++ (b[0] :: b.drop 1)) := by
      rw [List.drop_zero]
      exact (List.perm_middle (a := b[0]) (l₁ := a) (l₂ := b.drop 1)).symm
    rw [← e] at this
    exact this
  srt := List.pairwise_singleton _ _
  le := fun x hx y hy => by
    rw [List.mem_singleton.mp hx]
    rcases hy with hy | hy
    · rw [List.drop_zero] at hy; exact h1 y hy
    · exact srt_head hs hb y hy
end
end Sq
set_option Elab.async false
set_option linter.all false
set_option maxRecDepth 100000
namespace Sq
open PySem PyProof PyProof.Rows
def sGal (g : Nat) : StateT SortSt Sem Unit := modify fun st => SortSt.mk' (kindOf st) (arrOf st) (pendingOf st) g (failedOf st)
abbrev endA (a b out : Array Keyed) (ia ib : Nat) : Array Keyed := out ++ a.extract ia a.size ++ b.extract ib b.size
abbrev endB (a b out : Array Keyed) (ia ib : Nat) : Array Keyed := out ++ b.extract ib b.size ++ a.extract ia a.size
abbrev SM := StateT SortSt Sem
abbrev S5 := Option (Array Keyed) × Array Keyed × Nat × Nat × Nat × Nat
abbrev S6 := Option (Array Keyed) × Array Keyed × Nat × Nat × Nat × Nat × Nat
def g3 (a b out : Array Keyed) (ia ib mg ac bc : Nat) : SM (ForInStep S6) := do
  let x ← elem' a ia
  if (ia + 1 + 1 == a.size) = true then pure (.done (some (endB a b (out.push x) (ia + 1) ib), out.push x, ia + 1, ib, mg, ac, bc))
  else if (decide (ac < 7) && decide (bc < 7)) = true then pure (.done (none, out.push x, ia + 1, ib, mg, ac, bc))
  else pure (.yield (none, out.push x, ia + 1, ib, mg, ac, bc))
def g2 (a b out : Array Keyed) (ia ib mg ac bc : Nat) : SM (ForInStep S6) := do
  let x ← elem' b ib
  if (ib + 1 == b.size) = true then pure (.done (some (endA a b (out.push x) ia (ib + 1)), out.push x, ia, ib + 1, mg, ac, bc))
  else do
    let y ← elem' a ia
    match ← gal true y b (ib + 1) (b.size - (ib + 1)) 0 with
    | some k =>
      if k > 0 then
        if (ib + 1 + k == b.size) = true then pure (.done (some (endA a b (out.push x ++ b.extract (ib + 1) (ib + 1 + k)) ia (ib + 1 + k)), out.push x ++ b.extract (ib + 1) (ib + 1 + k), ia, ib + 1 + k, mg, ac, k))
        else g3 a b (out.push x ++ b.extract (ib + 1) (ib + 1 + k)) ia (ib + 1 + k) mg ac k
      else g3 a b (out.push x) ia (ib + 1) mg ac k
    | _ => pure (.done (some (endA a b (out.push x) ia (ib + 1)), out.push x, ia, ib + 1, mg, ac, bc))
def g1 (a b out : Array Keyed) (ia ib mg ac bc : Nat) : SM (ForInStep S6) := do
  sGal mg
  let x ← elem' b ib
  match ← gal false x a ia (a.size - ia) 0 with
  | some k =>
    if k > 0 then
      if (ia + k + 1 == a.size) = true then pure (.done (some (endB a b (out ++ a.extract ia (ia + k)) (ia + k) ib), out ++ a.extract ia (ia + k), ia + k, ib, mg, k, bc))
      else if (ia + k == a.size) = true then pure (.done (some (endA a b (out ++ a.extract ia (ia + k)) (ia + k) ib), out ++ a.extract ia (ia + k), ia + k, ib, mg, k, bc))
      else g2 a b (out ++ a.extract ia (ia + k)) (ia + k) ib mg k bc
    else g2 a b out ia ib mg k bc
  | _ => pure (.done (some (endA a b out ia ib), out, ia, ib, mg, ac, bc))
def f1 (a b : Array Keyed) (mg : Nat) (z : S5) : SM (ForInStep S5) := do
  let x ← elem' b z.2.2.2.1
  let y ← elem' a z.2.2.1
  match ← lt' x y with
  | some c =>
    if c = true then do
      let x ← elem' b z.2.2.2.1
      if (z.2.2.2.1 + 1 == b.size) = true then pure (.done (some (endA a b (z.2.1.push x) z.2.2.1 (z.2.2.2.1 + 1)), z.2.1.push x, z.2.2.1, z.2.2.2.1 + 1, 0, z.2.2.2.2.2 + 1))
      else if z.2.2.2.2.2 + 1 ≥ mg then pure (.done (none, z.2.1.push x, z.2.2.1, z.2.2.2.1 + 1, 0, z.2.2.2.2.2 + 1))
      else pure (.yield (none, z.2.1.push x, z.2.2.1, z.2.2.2.1 + 1, 0, z.2.2.2.2.2 + 1))
    else do
      let y ← elem' a z.2.2.1
      if (z.2.2.1 + 1 + 1 == a.size) = true then pure (.done (some (endB a b (z.2.1.push y) (z.2.2.1 + 1) z.2.2.2.1), z.2.1.push y, z.2.2.1 + 1, z.2.2.2.1, z.2.2.2.2.1 + 1, 0))
      else if z.2.2.2.2.1 + 1 ≥ mg then pure (.done (none, z.2.1.push y, z.2.2.1 + 1, z.2.2.2.1, z.2.2.2.2.1 + 1, 0))
      else pure (.yield (none, z.2.1.push y, z.2.2.1 + 1, z.2.2.2.1, z.2.2.2.2.1 + 1, 0))
  | _ => pure (.done (some (endA a b z.2.1 z.2.2.1 z.2.2.2.1), z.2.1, z.2.2.1, z.2.2.2.1, z.2.2.2.2.1, z.2.2.2.2.2))
structure Cxm (a b : Array Keyed) : Prop where
  ia : IntKeys a
  ib : IntKeys b
  sa : Srt (· ≤ ·) a.toList
  sb : Srt (· ≤ ·) b.toList
  lst : ∀ y ∈ b.toList, ∀ i, ∀ (hi : i < a.toList.length), i + 1 = a.toList.length → ky y ≤ ky a.toList[i]
structure Okm (a b out : Array Keyed) (ia ib : Nat) : Prop where
  mg : Mg (· ≤ ·) a.toList b.toList out.toList ia ib
  ha : ia + 1 < a.size
  hb : ib < b.size
structure Sm (st st' : SortSt) : Prop where
  k : kindOf st' = kindOf st
  a : arrOf st' = arrOf st
  p : pendingOf st' = pendingOf st
  f : failedOf st' = failedOf st
theorem Sm.refl (st : SortSt) : Sm st st := ⟨rfl, rfl, rfl, rfl⟩
theorem Sm.trans {s1 s2 s3 : SortSt} (h : Sm s1 s2) (k : Sm s2 s3) : Sm s1 s3 := ⟨k.k.trans h.k, k.a.trans h.a, k.p.trans h.p, k.f.trans h.f⟩
section
variable {prog : Program} {w : World} {A : Around} {E : Value → Shared → Prop} {s : Shared} {a b : Array Keyed} {n0 : Nat}
end
end Sq
set_option Elab.async false
set_option linter.all false
set_option maxRecDepth 100000
namespace Sq
open PySem PyProof PyProof.Rows
section
variable {prog : Program} {w : World} {A : Around} {E : Value → Shared → Prop} {s : Shared} {a b : Array Keyed} {n0 : Nat}
end
end Sq
set_option Elab.async false
set_option linter.all false
set_option maxRecDepth 100000
namespace Sq
open PySem PyProof PyProof.Rows
abbrev enA (a b out : Array Keyed) (na nb : Nat) : Array Keyed := a.extract 0 na ++ b.extract 0 nb ++ out.reverse
abbrev enB (a b out : Array Keyed) (na nb : Nat) : Array Keyed := b.extract 0 nb ++ a.extract 0 na ++ out.reverse
abbrev T5 := Option (Array Keyed) × Nat × Nat × Array Keyed × Nat × Nat
abbrev T6 := Option (Array Keyed) × Nat × Nat × Array Keyed × Nat × Nat × Nat
def h3 (a b : Array Keyed) (na nb : Nat) (out : Array Keyed) (mg ac bc : Nat) : SM (ForInStep T6) := do
  let x ← elem' a (na - 1)
  if (na - 1 == 0) = true then pure (.done (some (enA a b (out.push x) (na - 1) nb), na - 1, nb, out.push x, mg, ac, bc))
  else if (decide (ac < 7) && decide (bc < 7)) = true then pure (.done (none, na - 1, nb, out.push x, mg, ac, bc))
  else pure (.yield (none, na - 1, nb, out.push x, mg, ac, bc))
def h2 (a b : Array Keyed) (na nb : Nat) (out : Array Keyed) (mg ac bc : Nat) : SM (ForInStep T6) := do
  let x ← elem' b (nb - 1)
  if (nb - 1 == 1) = true then pure (.done (some (enB a b (out.push x) na (nb - 1)), na, nb - 1, out.push x, mg, ac, bc))
  else do
    let y ← elem' a (na - 1)
    match ← gal true y b 0 (nb - 1) (nb - 1 - 1) with
    | some t =>
      if nb - 1 - t > 0 then
        if (t == 1) = true then pure (.done (some (enB a b (out.push x ++ (b.extract t (nb - 1)).reverse) na t), na, t, out.push x ++ (b.extract t (nb - 1)).reverse, mg, ac, nb - 1 - t))
        else if (t == 0) = true then pure (.done (some (enA a b (out.push x ++ (b.extract t (nb - 1)).reverse) na t), na, t, out.push x ++ (b.extract t (nb - 1)).reverse, mg, ac, nb - 1 - t))
        else h3 a b na t (out.push x ++ (b.extract t (nb - 1)).reverse) mg ac (nb - 1 - t)
      else h3 a b na (nb - 1) (out.push x) mg ac (nb - 1 - t)
    | _ => pure (.done (some (enA a b (out.push x) na (nb - 1)), na, nb - 1, out.push x, mg, ac, bc))
def h1 (a b : Array Keyed) (na nb : Nat) (out : Array Keyed) (mg ac bc : Nat) : SM (ForInStep T6) := do
  sGal mg
  let x ← elem' b (nb - 1)
  match ← gal false x a 0 na (na - 1) with
  | some t =>
    if na - t > 0 then
      if (t == 0) = true then pure (.done (some (enA a b (out ++ (a.extract t na).reverse) t nb), t, nb, out ++ (a.extract t na).reverse, mg, na - t, bc))
      else h2 a b t nb (out ++ (a.extract t na).reverse) mg (na - t) bc
    else h2 a b na nb out mg (na - t) bc
  | _ => pure (.done (some (enA a b out na nb), na, nb, out, mg, ac, bc))
def hB (a b : Array Keyed) (z : T6) : SM (ForInStep T6) :=
  if z.2.2.2.2.1 > 1 then h1 a b z.2.1 z.2.2.1 z.2.2.2.1 (z.2.2.2.2.1 - 1) z.2.2.2.2.2.1 z.2.2.2.2.2.2
  else h1 a b z.2.1 z.2.2.1 z.2.2.2.1 z.2.2.2.2.1 z.2.2.2.2.2.1 z.2.2.2.2.2.2
def k1 (a b : Array Keyed) (mg : Nat) (z : T5) : SM (ForInStep T5) := do
  let x ← elem' b (z.2.2.1 - 1)
  let y ← elem' a (z.2.1 - 1)
  match ← lt' x y with
  | some c =>
    if c = true then do
      let y ← elem' a (z.2.1 - 1)
      if (z.2.1 - 1 == 0) = true then pure (.done (some (enA a b (z.2.2.2.1.push y) (z.2.1 - 1) z.2.2.1), z.2.1 - 1, z.2.2.1, z.2.2.2.1.push y, z.2.2.2.2.1 + 1, 0))
      else if z.2.2.2.2.1 + 1 ≥ mg then pure (.done (none, z.2.1 - 1, z.2.2.1, z.2.2.2.1.push y, z.2.2.2.2.1 + 1, 0))
      else pure (.yield (none, z.2.1 - 1, z.2.2.1, z.2.2.2.1.push y, z.2.2.2.2.1 + 1, 0))
    else do
      let x ← elem' b (z.2.2.1 - 1)
      if (z.2.2.1 - 1 == 1) = true then pure (.done (some (enB a b (z.2.2.2.1.push x) z.2.1 (z.2.2.1 - 1)), z.2.1, z.2.2.1 - 1, z.2.2.2.1.push x, 0, z.2.2.2.2.2 + 1))
      else if z.2.2.2.2.2 + 1 ≥ mg then pure (.done (none, z.2.1, z.2.2.1 - 1, z.2.2.2.1.push x, 0, z.2.2.2.2.2 + 1))
      else pure (.yield (none, z.2.1, z.2.2.1 - 1, z.2.2.2.1.push x, 0, z.2.2.2.2.2 + 1))
  | _ => pure (.done (some (enA a b z.2.2.2.1 z.2.1 z.2.2.1), z.2.1, z.2.2.1, z.2.2.2.1, z.2.2.2.2.1, z.2.2.2.2.2))
def gE (x y : Int) : Prop := y ≤ x
abbrev Mh (a b out : Array Keyed) (na nb : Nat) : Prop := Mg gE b.toList.reverse a.toList.reverse out.toList (b.size - nb) (a.size - na)
structure Cxh (a b : Array Keyed) : Prop where
  ia : IntKeys a
  ib : IntKeys b
  sa : Srt (· ≤ ·) a.toList
  sb : Srt (· ≤ ·) b.toList
  fst : ∀ y ∈ a.toList, K b 0 ≤ ky y
end Sq
set_option Elab.async false
set_option linter.all false
set_option maxRecDepth 100000
namespace Sq
open PySem PyProof PyProof.Rows
structure Okh (a b out : Array Keyed) (na nb : Nat) : Prop where
  mg : Mh a b out na nb
  a1 : 0 < na
  a2 : na ≤ a.size
  b1 : 1 < nb
  b2 : nb ≤ b.size
section
variable {prog : Program} {w : World} {A : Around} {E : Value → Shared → Prop} {s : Shared} {a b : Array Keyed} {n0 : Nat}
end
end Sq
set_option Elab.async false
set_option linter.all false
set_option maxRecDepth 100000
namespace Sq
open PySem PyProof PyProof.Rows
section
variable {prog : Program} {w : World} {A : Around} {E : Value → Shared → Prop} {s : Shared} {a₀ : Array Keyed}
end
end Sq
set_option Elab.async false
set_option linter.all false
set_option maxRecDepth 100000
namespace Sq
open PySem PyProof PyProof.Rows
section
variable {prog : Program} {w : World} {A : Around} {E : Value → Shared → Prop} {s : Shared} {a₀ : Array Keyed}
end
end Sq
set_option Elab.async false
set_option linter.all false
set_option maxRecDepth 100000
namespace Sq
open PySem PyProof PyProof.Rows
section
variable {prog : Program} {w : World} {A : Around} {E : Value → Shared → Prop} {s : Shared}
end
end Sq
set_option Elab.async false
set_option linter.all false
set_option maxRecDepth 100000
namespace L2
open PySem PySem.Spec PyProof.Rows
section
variable {P : Program} {w : World} {A : Around} {E : Value → Shared → Prop} {s : Shared}
end
section
variable {X : Cx} {e : Expr} {fs : Ev → Option (List Dat)}
theorem Inv.drawn {pins : List (Addr × Obj)} {σ : St} {H : Hp} {s : Shared} (d : Drawn) (I : Inv X pins σ H s) : Inv X pins σ H { s with drawn := d } := ⟨I.ok, I.os, I.bare, I.base, I.loc, I.cell, I.free, I.freeC, I.pin, I.hok, I.len⟩
def dSS (fs : Ev → Option (List Dat)) : Ev → Option (List Dat) := fun env => match fs env with
  | some [.lst xs] => (intsD xs).bind fun ns => if ns.length ≤ 64 then some ((sortI (ns.foldl addK [])).map .int) else none
  | _ => none
end
end L2
set_option Elab.async false
set_option linter.all false
set_option maxRecDepth 100000
set_option maxHeartbeats 4000000
namespace L2
open PySem PySem.Spec PyProof.Rows
section
variable {X : Cx}
end
end L2
set_option Elab.async false
set_option linter.all false
set_option maxRecDepth 100000
namespace L2
open PySem PySem.Spec PyProof.Rows PySem.W
section
variable {X : Cx} {m fr : Bool} {e : Expr} {f : Ev → Option Dat} {g h : Ev → Fl} {p p2 pos : Pos} {body : List Stmt} {b₀ : Stmt} {suite : List Stmt} {T n tx : Str} {np hpos : Pos} {i : Nat} {sub : Str → Bool} {sb : Str → Option Bool}
end
section
variable {K : Frag} {mg : Str → Option Value}
end
end L2
set_option Elab.async false
set_option linter.all false
set_option maxRecDepth 100000
namespace L2
open PySem PySem.Spec PyProof.Rows PySem.W
section
variable {X : Cx}
theorem mt_extendS : MtR X "list.extend" (fun x vs H Q => ∃ l b xs zs, x = .ref l ∧ vs = [.ref b] ∧ H l = some (.lst xs) ∧ SL X.K H b zs ∧ xs.length + zs.length ≤ sizeLine ∧ Q .non (upd H l (.lst (xs ++ zs)))) := by
  intro pins s σ H x vs v us Q I rx rv h
  obtain ⟨l, b, xs, zs, rfl, rfl, hH, hB, hz, q⟩ := h
  cases rx
  obtain ⟨u, rfl, ru⟩ := rv.one
  cases ru
  obtain ⟨z, its, n, r, hl, e⟩ := I.lstM hH
  obtain ⟨its2, n2, r2, e2, hz2⟩ := hB.get I
  have hl2 := r2.length
  have hsz : its.toArray.size + its2.toArray.size ≤ sizeLine := by rw [List.size_toArray, List.size_toArray]; omega
  have hlong : ¬ (!its.toArray.isEmpty && Builtin.List.listTooLong (its.toArray.size + its2.toArray.size)) = true := by
    rw [notLongL hsz, Bool.and_false]
    exact Bool.false_ne_true
  refine call_meets PySem.F.slot_list_extend ⟨_, e, rfl⟩ PySem.F.entry_list_extend (PySem.F.args_list_extend_2 _ _)
    (AutoSeq1.list_extend_list_list_0 l its.toArray n b its2.toArray n2 hlong (by rw [List.size_toArray]; omega) (by omega)) ⟨e, e2, ?_⟩
  refine ⟨.non, _, I.lset (its' := its ++ its2) hH e (by simp) (r.append r2) ?_, rfl, q⟩
  rw [List.length_append]
  omega
def extendF : List Dat → List Dat → Option (List Dat)
  | ds, [.lst es] => if ds.length + es.length ≤ sizeLine then some (ds ++ es) else none
  | _, _ => none
theorem m_extend : MtU X "list.extend" extendF := MtR.weak (id := "list.extend") mt_extendS fun v us H Q ⟨A, a, vs, ds, as, ds', mu, e1, h1, r1, r2, e2, q⟩ => by
  unfold extendF at e2
  split at e2
  · rename_i es
    split at e2
    · rename_i hl
      cases e2
      obtain ⟨w, us', e3, r3, e4⟩ := r2
      obtain ⟨b, zs, e5, hS, r5⟩ := of_lst r3
      subst e5
      have l1 := rps_len r1
      have l2 := rps_len r5
      refine ⟨a, b, vs, zs, e1, by rw [e3, show us' = [] from e4], h1, av_same.sl hS, by omega, q _ _ (by rw [List.length_append]; exact hl) (rps_append r1 r5)⟩
    · cases e2
  · cases e2
end
def jdNil : Ev → Str → Option Str := fun _ acc => some acc
def jdLit (c : Str) (r : Ev → Str → Option Str) : Ev → Str → Option Str := fun env acc => if (acc ++ c).length ≤ sizeLine then r env (acc ++ c) else none
def jdFmt (f : Ev → Option Dat) (r : Ev → Str → Option Str) : Ev → Str → Option Str := fun env acc => (f env).bind fun d => match d with
  | .str y => if (acc ++ y).length ≤ sizeLine then r env (acc ++ y) else none
  | .int i => if i.natAbs.log2 < 1920 ∧ (acc ++ strI i).length ≤ sizeLine then r env (acc ++ strI i) else none
  | _ => none
def dJ (r : Ev → Str → Option Str) : Ev → Option Dat := fun env => (r env Str.empty).bind fun z => if SOk z then some (.str z) else none
theorem PJ.weak {X : Cx} {e : List Expr} {t t' : TJ} (h : PJ X e t) (w : ∀ σ H acc Q, t' σ H acc Q → t σ H acc Q) : PJ X e t' := fun pins s σ H acc Q I hz q => h pins s σ H acc Q I hz (w σ H acc Q q)
section
variable {X : Cx} {m : Bool} {e : Expr} {f : Ev → Option Dat} {pos : Pos} {vs : List Expr} {r : Ev → Str → Option Str}
end
end L2
set_option Elab.async false
set_option linter.all false
set_option maxRecDepth 100000
namespace L2
open PySem PySem.Spec PyProof.Rows PySem.W PySem.Builtin PySem.Builtin.Str
section
variable {X : Cx}
end
end L2
namespace L2
open PySem PySem.Spec PyProof.Rows PySem.W
end L2
set_option Elab.async false
set_option linter.all false
set_option maxRecDepth 100000
namespace L2
open PySem PySem.Spec PyProof.Rows PySem.W
section
variable {X : Cx} {fr : Bool} {p pos cpos : Pos} {k n : Nat} {c : Str} {G : List Dat → Option (List (Str × XD))}
end
section
variable {P : Program} {w : World} {K : Frag} {mg : Str → Option Value} {base : Heap}
end
end L2
set_option Elab.async false
set_option linter.all false
set_option maxRecDepth 100000
namespace L2
open PySem PySem.Spec PyProof.Rows PySem.W
section
variable {X : Cx} {pos pos' : Pos}
end
end L2
set_option Elab.async false
set_option linter.all false
set_option maxRecDepth 100000
namespace L2
open PySem PySem.Spec PyProof.Rows PySem.W
section
variable {P : Program} {w : World} {K : Frag} {mg : Str → Option Value} {base : Heap}
end
end L2
set_option Elab.async false
set_option linter.all false
set_option maxRecDepth 100000
namespace L2
open PySem PySem.Spec PyProof.Rows PySem.W
end L2
set_option Elab.async false
set_option linter.all false
set_option maxRecDepth 100000
namespace L2
open PySem PySem.Spec PyProof.Rows PySem.W
section
variable {M : Model} {A : Around} {E : Value → Shared → Prop} {s : Shared}
end
end L2
set_option Elab.async false
set_option linter.all false
set_option maxRecDepth 100000
namespace L2
open PySem PySem.Spec PyProof.Rows PySem.W
section
variable {M : Model} {A : Around} {E : Value → Shared → Prop} {s : Shared}
end
end L2
set_option Elab.async false
set_option linter.all false
set_option maxRecDepth 100000
namespace L2
open PySem PySem.Spec PyProof.Rows
section
variable {P : Program} {w : World} {K : PySem.W.Frag} {mg : Str → Option Value} {base : Heap}
end
end L2
set_option Elab.async false
set_option linter.all false
set_option maxRecDepth 100000
set_option maxHeartbeats 4000000
namespace K81
open PySem PySem.Spec PyProof.Rows L2
noncomputable def g_names : Ev → Fl := (sRet (dL (dComp (srcL (dO ixD (dV 0) (dC (.int 0)))) [none, none] (gtup 2 (gsCons (gset 0) (gsCons (gset 1) gsNil))) tTrue (dV 0))))
noncomputable def F_names : List Dat → Rs := runD 1 1 g_names
noncomputable def g_has_one : Ev → Fl := (sRet (dO eqF (dO andD (dO shrD (dV 0) (dV 1)) (dC (.int 1))) (dC (.int 1))))
noncomputable def F_has_one : List Dat → Rs := runD 2 2 g_has_one
noncomputable def g_ones : Ev → Fl := (sRet (dL (dComp (srcR1 (aCons (dM0 "int" bitlenD (dV 0)) aNil)) [none, some 0] (gset 0) (dT (dCal F_has_one (aCons (dV 1) (aCons (dV 0) aNil)))) (dV 0))))
noncomputable def F_ones : List Dat → Rs := runD 1 1 g_ones
noncomputable def g_shown_level : Ev → Fl := (sRet (dIf (dT (dV 1)) (dV 0) (dO addD (dC (.str "-")) (dV 0))))
noncomputable def F_shown_level : List Dat → Rs := runD 2 2 g_shown_level
noncomputable def g_shown_row : Ev → Fl := (bCons (sIf (dB (dO eqF (dO ixD (dV 1) (dC (.int 0))) (dC (.int 0)))) (sRet (dC (.str "always"))) bNil)
      (sRet (dM "str" joinD (dC (.str " ")) (aCons (dL (dComp (srcL (dCal F_ones (aCons (dO ixD (dV 1) (dC (.int 0))) aNil))) [none, some 0, some 1] (gset 0) tTrue (dCal F_shown_level (aCons (dO ixD (dV 1) (dV 0)) (aCons (dCal F_has_one (aCons (dO ixD (dV 2) (dC (.int 1))) (aCons (dV 0) aNil))) aNil))))) aNil))))
noncomputable def F_shown_row : List Dat → Rs := runD 2 2 g_shown_row
noncomputable def g_shown_gates : Ev → Fl := (bCons (sOwn 2 (aLst aNil))
      (bCons (sFor (srcL (dV 1)) (gset 3) (sMeth 2 extendF (aCons (dL (dComp (srcL (dV 3)) [none, some 0] (gset 0) tTrue (dCal F_shown_row (aCons (dV 1) (aCons (dV 0) aNil))))) aNil)))
      (sRet (dIf (dB (dO eqF (dF lenD (aCons (dP 2) aNil)) (dC (.int 0)))) (dC (.str "never")) (dM "str" joinD (dC (.str " | ")) (aCons (dP 2) aNil))))))
noncomputable def F_shown_gates : List Dat → Rs := runD 4 2 g_shown_gates
noncomputable def g_shown_net : Ev → Fl := (bCons (sSet 2 (dCal F_names (aCons (dV 0) aNil)))
      (bCons (sOwn 3 (aLst aNil))
      (bCons (sFor (srcL (dV 1)) (gset 4) (bCons (sMeth 3 appendF (aCons (dM "str" joinD (dC (.str " ")) (aCons (dL (aLst (aCons (dO ixD (dV 2) (dO ixD (dV 4) (dC (.int 0)))) (aCons (dC (.str "up")) (aCons (dCal F_shown_gates (aCons (dV 2) (aCons (dO ixD (dV 4) (dC (.int 1))) aNil))) aNil))))) aNil)) aNil))
      (sMeth 3 appendF (aCons (dM "str" joinD (dC (.str " ")) (aCons (dL (aLst (aCons (dO ixD (dV 2) (dO ixD (dV 4) (dC (.int 0)))) (aCons (dC (.str "down")) (aCons (dCal F_shown_gates (aCons (dV 2) (aCons (dO ixD (dV 4) (dC (.int 2))) aNil))) aNil))))) aNil)) aNil))))
      (sRet (dM "str" joinD (dC (.str "\n")) (aCons (dP 3) aNil))))))
noncomputable def F_shown_net : List Dat → Rs := runD 5 2 g_shown_net
noncomputable def g__law_mix : Ev → Fl := (bCons (sSet 2 (dO addD (dO mulE (dC (.int 7919)) (dV 1)) (dC (.int 12345))))
      (bCons (sIf (dB (dO gtD (dF lenD (aCons (dV 0) aNil)) (dC (.int 0)))) (bCons (sSet 2 (dO addD (dV 2) (dO fdivD (dV 1) (dF lenD (aCons (dV 0) aNil)))))
      (sSet 2 (dO addD (dV 2) (dO mulE (dO ixD (dV 0) (dO modD (dV 1) (dF lenD (aCons (dV 0) aNil)))) (dC (.int 6364136223846793005)))))) bNil)
      (sRet (dO modD (dO mulE (dV 2) (dC (.int 48271))) (dC (.int 1000000000039))))))
noncomputable def F__law_mix : List Dat → Rs := runD 3 2 g__law_mix
noncomputable def g__law_name : Ev → Fl := (bCons (sSet 1 (dC (.str "")))
      (bCons (sSet 2 (dO fdivD (dV 0) (dC (.int 8))))
      (bCons (sFor (srcR1 (aCons (dO addD (dC (.int 1)) (dO modD (dV 0) (dC (.int 8)))) aNil)) (gset 3) (bCons (sSet 1 (dO addD (dV 1) (dO ixD (dC (.str "abcdefghijklmnopqrstuvwxyz")) (dO modD (dV 2) (dC (.int 26))))))
      (sSet 2 (dO fdivD (dV 2) (dC (.int 26))))))
      (sRet (dV 1)))))
noncomputable def F__law_name : List Dat → Rs := runD 4 1 g__law_name
noncomputable def g__law_wires : Ev → Fl := (bCons (sSet 1 (dCal F__law_mix (aCons (dV 0) (aCons (dC (.int 0)) aNil))))
      (bCons (sSet 2 (dO ixD (dL (aLst (aCons (dO addD (dC (.int 1)) (dO modD (dO fdivD (dV 1) (dC (.int 4))) (dC (.int 10)))) (aCons (dC (.int 10)) aNil)))) (dF intD (aCons (dO eqF (dO modD (dV 1) (dC (.int 4))) (dC (.int 1))) aNil))))
      (bCons (sSet 3 (dC (.str "abcdefghijklmnopqrstuvwxyz")))
      (bCons (sOwn 4 (aLst aNil))
      (bCons (sFor (srcR1 (aCons (dV 2) aNil)) (gset 5) (bCons (sSet 6 (dCal F__law_mix (aCons (dV 0) (aCons (dO addD (dC (.int 1)) (dV 5)) aNil))))
      (bCons (sSet 7 (dCal F__law_name (aCons (dV 6) aNil)))
      (bCons (sIf (tAndD (dB (dO gtD (dV 5) (dC (.int 0)))) (dB (dO eqF (dO modD (dO fdivD (dV 6) (dC (.int 8))) (dC (.int 2))) (dC (.int 0))))) (bCons (sSet 8 (dO modD (dO fdivD (dV 6) (dC (.int 16))) (dF lenD (aCons (dO ixD (dP 4) (dC (.int 0))) aNil))))
      (bCons (sSet 7 (dO ixD (dP 4) (dC (.int 0))))
      (sSet 7 (dO addD (dO addD (dS slD (dV 7) oNone (oSome (dV 8))) (dO ixD (dV 3) (dO modD (dO fdivD (dV 6) (dC (.int 128))) (dC (.int 26))))) (dS slD (dV 7) (oSome (dO addD (dV 8) (dC (.int 1)))) oNone))))) bNil)
      (bCons (sWhile (tOrD (dB (dO inF (dV 7) (dP 4))) (dB (dO inF (dV 7) (dL (aLst (aCons (dC (.str "given")) (aCons (dC (.str "made")) (aCons (dC (.str "up")) (aCons (dC (.str "down")) (aCons (dC (.str "start")) aNil)))))))))) (sSet 7 (dO addD (dS slD (dV 7) oNone (oSome (dU negD (dC (.int 1))))) (dO ixD (dV 3) (dO modD (dO addD (dM "str" sindexD (dV 3) (aCons (dO ixD (dV 7) (dU negD (dC (.int 1)))) aNil)) (dC (.int 1))) (dC (.int 26)))))))
      (sMeth 4 appendF (aCons (dV 7) aNil)))))))
      (bCons (sSet 9 (dO fdivD (dV 1) (dC (.int 64))))
      (sRet (dL (dComp (srcR1 (aCons (dV 2) aNil)) [none, some 4, some 9] (gset 0) tTrue (aTup (aCons (dO ixD (dP 1) (dV 0)) (aCons (dO ixD (dL (aLst (aCons (dC (.str "given")) (aCons (dC (.str "made")) aNil)))) (dO modD (dO fdivD (dV 2) (dO addD (dC (.int 1)) (dO mulE (dC (.int 7)) (dV 0)))) (dC (.int 2)))) aNil))))))))))))
noncomputable def F__law_wires : List Dat → Rs := runD 10 1 g__law_wires
noncomputable def g__law_row : Ev → Fl := (bCons (sIf (dB (dO eqF (dO modD (dV 0) (dC (.int 6))) (dC (.int 0)))) (sRet (aTup (aCons (dC (.int 0)) (aCons (dC (.int 0)) aNil)))) bNil)
      (bCons (sSet 2 (dO modD (dO fdivD (dV 0) (dC (.int 6))) (dO shlD (dC (.int 1)) (dV 1))))
      (sRet (aTup (aCons (dV 2) (aCons (dO andD (dO modD (dO fdivD (dV 0) (dC (.int 65536))) (dO shlD (dC (.int 1)) (dV 1))) (dV 2)) aNil))))))
noncomputable def F__law_row : List Dat → Rs := runD 3 2 g__law_row
noncomputable def g__law_gates : Ev → Fl := (bCons (sOwn 3 (aLst aNil))
      (bCons (sFor (srcR1 (aCons (dO modD (dCal F__law_mix (aCons (dV 0) (aCons (dV 1) aNil))) (dC (.int 3))) aNil)) (gset 4) (bCons (sSet 5 (dO modD (dO fdivD (dO fdivD (dCal F__law_mix (aCons (dV 0) (aCons (dV 1) aNil))) (dC (.int 4))) (dO addD (dC (.int 1)) (dO mulE (dC (.int 5)) (dV 4)))) (dC (.int 4))))
      (sMeth 3 appendF (aCons (dF tupleD (aCons (dL (dComp (srcR1 (aCons (dV 5) aNil)) [none, some 2, some 0, some 1, some 4] (gset 0) tTrue (dCal F__law_row (aCons (dCal F__law_mix (aCons (dV 2) (aCons (dO addD (dO addD (dO addD (dV 3) (dC (.int 1))) (dO mulE (dC (.int 3)) (dV 4))) (dV 0)) aNil))) (aCons (dV 1) aNil))))) aNil)) aNil))))
      (sRet (dF tupleD (aCons (dP 3) aNil)))))
noncomputable def F__law_gates : List Dat → Rs := runD 6 3 g__law_gates
noncomputable def g__law_row_text : Ev → Fl := (bCons (sAsg (dV 0) (gtup 2 (gsCons (gset 2) (gsCons (gset 3) gsNil))))
      (bCons (sOwn 4 (aLst aNil))
      (bCons (sFor (srcR1 (aCons (dF lenD (aCons (dV 1) aNil)) aNil)) (gset 5) (sIf (dB (dO eqF (dO modD (dO fdivD (dV 2) (dO shlD (dC (.int 1)) (dV 5))) (dC (.int 2))) (dC (.int 1)))) (sMeth 4 appendF (aCons (dO addD (dO ixD (dL (aLst (aCons (dC (.str "-")) (aCons (dC (.str "")) aNil)))) (dO modD (dO fdivD (dV 3) (dO shlD (dC (.int 1)) (dV 5))) (dC (.int 2)))) (dO ixD (dO ixD (dV 1) (dV 5)) (dC (.int 0)))) aNil)) bNil))
      (bCons (sIf (dB (dO eqF (dP 4) (dL (aLst aNil)))) (sRet (dC (.str "always"))) bNil)
      (sRet (dM "str" joinD (dC (.str " ")) (aCons (dP 4) aNil)))))))
noncomputable def F__law_row_text : List Dat → Rs := runD 6 2 g__law_row_text
noncomputable def g__law_gates_text : Ev → Fl := (bCons (sOwn 2 (aLst aNil))
      (bCons (sFor (srcL (dV 0)) (gset 3) (sFor (srcL (dV 3)) (gset 4) (sMeth 2 appendF (aCons (dCal F__law_row_text (aCons (dV 4) (aCons (dV 1) aNil))) aNil))))
      (bCons (sIf (dB (dO eqF (dP 2) (dL (aLst aNil)))) (sRet (dC (.str "never"))) bNil)
      (sRet (dM "str" joinD (dC (.str " | ")) (aCons (dP 2) aNil))))))
noncomputable def F__law_gates_text : List Dat → Rs := runD 5 2 g__law_gates_text
noncomputable def g_law : Ev → Fl := (bCons (sSet 1 (dCal F__law_wires (aCons (dV 0) aNil)))
      (bCons (sOwn 2 (aLst aNil))
      (bCons (sOwn 3 (aLst aNil))
      (bCons (sFor (srcR1 (aCons (dF lenD (aCons (dV 1) aNil)) aNil)) (gset 4) (sIf (dB (dO eqF (dO ixD (dO ixD (dV 1) (dV 4)) (dC (.int 1))) (dC (.str "made")))) (bCons (sSet 5 (dCal F__law_gates (aCons (dV 0) (aCons (dO addD (dC (.int 20)) (dO mulE (dC (.int 20)) (dV 4))) (aCons (dF lenD (aCons (dV 1) aNil)) aNil)))))
      (bCons (sSet 6 (dCal F__law_gates (aCons (dV 0) (aCons (dO addD (dC (.int 30)) (dO mulE (dC (.int 20)) (dV 4))) (aCons (dF lenD (aCons (dV 1) aNil)) aNil)))))
      (bCons (sMeth 2 appendF (aCons (aTup (aCons (dV 4) (aCons (dV 5) (aCons (dV 6) aNil)))) aNil))
      (bCons (sMeth 3 appendF (aCons (dO addD (dO addD (dO ixD (dO ixD (dV 1) (dV 4)) (dC (.int 0))) (dC (.str " up "))) (dCal F__law_gates_text (aCons (dV 5) (aCons (dV 1) aNil)))) aNil))
      (sMeth 3 appendF (aCons (dO addD (dO addD (dO ixD (dO ixD (dV 1) (dV 4)) (dC (.int 0))) (dC (.str " down "))) (dCal F__law_gates_text (aCons (dV 6) (aCons (dV 1) aNil)))) aNil)))))) bNil))
      (bCons (sSet 7 (aTup (aCons (dF tupleD (aCons (dV 1) aNil)) (aCons (aTup (aCons (aTup (aCons (dC (.int 0)) (aCons (dC (.bl true)) (aCons (aTup (aCons (dC (.int 0)) aNil)) (aCons (aTup (aCons (dC (.int 1)) aNil)) aNil))))) (aCons (aTup (aCons (dC (.int 0)) (aCons (dC (.bl false)) (aCons (aTup (aCons (dC (.int 1)) aNil)) (aCons (aTup (aCons (dC (.int 0)) aNil)) aNil))))) aNil))) (aCons (dC (.int 1)) (aCons (dC (.int 0)) aNil))))))
      (bCons (sSet 8 (dM "str" joinD (dC (.str "\n")) (aCons (dP 3) aNil)))
      (bCons (sSet 9 (dCal F_shown_net (aCons (dV 7) (aCons (dF tupleD (aCons (dP 2) aNil)) aNil))))
      (bCons (sIf (tOrD (tNotD (dT (dI "str" (dV 9)))) (dB (dO neF (dV 9) (dV 8)))) (sRet (dC (.bl false))) bNil)
      (bCons (sSet 1 (dS slD (dV 1) oNone (oSome (dC (.int 1)))))
      (bCons (sSet 10 (dL (aLst (aCons (aTup (aCons (aTup (aCons (dO ixD (dO ixD (dV 1) (dC (.int 0))) (dC (.int 0))) (aCons (dC (.str "made")) aNil))) aNil)) (aCons (dO ixD (dV 7) (dC (.int 1))) (aCons (dC (.int 1)) (aCons (dC (.int 0)) aNil)))))))
      (bCons (sSet 11 (dCal F__law_row (aCons (dCal F__law_mix (aCons (dV 0) (aCons (dC (.int 300)) aNil))) (aCons (dC (.int 1)) aNil))))
      (bCons (sSet 12 (dO addD (dO addD (dO addD (dO addD (dO ixD (dO ixD (dV 1) (dC (.int 0))) (dC (.int 0))) (dC (.str " up never\n"))) (dO ixD (dO ixD (dV 1) (dC (.int 0))) (dC (.int 0)))) (dC (.str " down "))) (dCal F__law_row_text (aCons (dV 11) (aCons (dV 1) aNil)))))
      (bCons (sIf (dB (dO neF (dCal F_shown_net (aCons (dF tupleD (aCons (dV 10) aNil)) (aCons (aTup (aCons (aTup (aCons (dC (.int 0)) (aCons (aTup aNil) (aCons (aTup (aCons (aTup (aCons (dV 11) aNil)) aNil)) aNil)))) aNil)) aNil))) (dV 12))) (sRet (dC (.bl false))) bNil)
      (sRet (dO eqF (dCal F_shown_net (aCons (dV 7) (aCons (dF tupleD (aCons (dP 2) aNil)) aNil))) (dV 8))))))))))))))))
noncomputable def F_law : List Dat → Rs := runD 13 1 g_law
end K81
set_option Elab.async false
set_option linter.all false
set_option maxRecDepth 100000
set_option maxHeartbeats 4000000
namespace K81
open PySem PySem.Spec PyProof.Rows L2
def top (i : Nat) : Stmt := PySem.Challenge.pw_calmwires_k81_nets_shown.main.body.getD i (.Pass ⟨0, 0, 0, 0⟩)
abbrev s_names : Stmt := top 1
theorem sc_names : FnScope ["graph"] ["graph"] (defScope s_names) := ⟨rfl, rfl, rfl, by decide +kernel, rfl, by decide +kernel, by decide +kernel⟩
abbrev s_has_one : Stmt := top 3
theorem sc_has_one : FnScope ["number", "place"] ["number", "place"] (defScope s_has_one) := ⟨rfl, rfl, rfl, by decide +kernel, rfl, by decide +kernel, by decide +kernel⟩
abbrev s_ones : Stmt := top 2
theorem sc_ones : FnScope ["number"] ["number"] (defScope s_ones) := ⟨rfl, rfl, rfl, by decide +kernel, rfl, by decide +kernel, by decide +kernel⟩
abbrev s_shown_level : Stmt := top 8
theorem sc_shown_level : FnScope ["name", "up"] ["name", "up"] (defScope s_shown_level) := ⟨rfl, rfl, rfl, by decide +kernel, rfl, by decide +kernel, by decide +kernel⟩
abbrev s_shown_row : Stmt := top 7
theorem sc_shown_row : FnScope ["known", "row"] ["known", "row"] (defScope s_shown_row) := ⟨rfl, rfl, rfl, by decide +kernel, rfl, by decide +kernel, by decide +kernel⟩
abbrev s_shown_gates : Stmt := top 6
theorem sc_shown_gates : FnScope ["known", "gates", "rows", "gate"] ["known", "gates"] (defScope s_shown_gates) := ⟨rfl, rfl, rfl, by decide +kernel, rfl, by decide +kernel, by decide +kernel⟩
abbrev s_shown_net : Stmt := top 5
theorem sc_shown_net : FnScope ["graph", "net", "known", "rows", "part"] ["graph", "net"] (defScope s_shown_net) := ⟨rfl, rfl, rfl, by decide +kernel, rfl, by decide +kernel, by decide +kernel⟩
abbrev s__law_mix : Stmt := top 10
theorem sc__law_mix : FnScope ["_law_script", "_law_k", "_law_number"] ["_law_script", "_law_k"] (defScope s__law_mix) := ⟨rfl, rfl, rfl, by decide +kernel, rfl, by decide +kernel, by decide +kernel⟩
abbrev s__law_name : Stmt := top 11
theorem sc__law_name : FnScope ["_law_cell", "_law_word", "_law_rest", "_law_k"] ["_law_cell"] (defScope s__law_name) := ⟨rfl, rfl, rfl, by decide +kernel, rfl, by decide +kernel, by decide +kernel⟩
abbrev s__law_wires : Stmt := top 12
theorem sc__law_wires : FnScope ["_law_script", "_law_cell", "_law_many", "_law_letters", "_law_words", "_law_k", "_law_more", "_law_word", "_law_at", "_law_kinds"] ["_law_script"] (defScope s__law_wires) := ⟨rfl, rfl, rfl, by decide +kernel, rfl, by decide +kernel, by decide +kernel⟩
abbrev s__law_row : Stmt := top 13
theorem sc__law_row : FnScope ["_law_cell", "_law_many", "_law_care"] ["_law_cell", "_law_many"] (defScope s__law_row) := ⟨rfl, rfl, rfl, by decide +kernel, rfl, by decide +kernel, by decide +kernel⟩
abbrev s__law_gates : Stmt := top 14
theorem sc__law_gates : FnScope ["_law_script", "_law_first", "_law_many", "_law_gates_here", "_law_k", "_law_size"] ["_law_script", "_law_first", "_law_many"] (defScope s__law_gates) := ⟨rfl, rfl, rfl, by decide +kernel, rfl, by decide +kernel, by decide +kernel⟩
abbrev s__law_row_text : Stmt := top 15
theorem sc__law_row_text : FnScope ["_law_row_here", "_law_wires_here", "_law_care", "_law_level", "_law_words", "_law_wire"] ["_law_row_here", "_law_wires_here"] (defScope s__law_row_text) := ⟨rfl, rfl, rfl, by decide +kernel, rfl, by decide +kernel, by decide +kernel⟩
abbrev s__law_gates_text : Stmt := top 16
theorem sc__law_gates_text : FnScope ["_law_gates_here", "_law_wires_here", "_law_texts", "_law_gate", "_law_row_here"] ["_law_gates_here", "_law_wires_here"] (defScope s__law_gates_text) := ⟨rfl, rfl, rfl, by decide +kernel, rfl, by decide +kernel, by decide +kernel⟩
abbrev s_law : Stmt := top 17
theorem sc_law : FnScope ["_law_script", "_law_wires_here", "_law_net", "_law_rows", "_law_wire", "_law_rises", "_law_falls", "_law_graph", "_law_due", "_law_got", "_law_first", "_law_one", "_law_text"] ["_law_script"] (defScope s_law) := ⟨rfl, rfl, rfl, by decide +kernel, rfl, by decide +kernel, by decide +kernel⟩
structure Txt (K : PySem.W.Frag) (mg : Str → Option Value) : Prop where
  b_int : mg "int" = none
  b_isinstance : mg "isinstance" = none
  b_len : mg "len" = none
  b_range : mg "range" = none
  b_str : mg "str" = none
  b_tuple : mg "tuple" = none
section
variable {P : Program} {w : World} {K : PySem.W.Frag} {mg : Str → Option Value} {base : Heap}
end
end K81
set_option Elab.async false
set_option linter.all false
set_option maxRecDepth 100000
set_option maxHeartbeats 4000000
namespace K81
open PySem PySem.Spec PyProof.Rows L2
section
variable {P : Program} {w : World} {K : PySem.W.Frag} {mg : Str → Option Value} {base : Heap}
theorem c_names (Df : Def K mg "names" s_names) (T : Txt K mg)   : CalD P w K mg base 1 "names" ["graph"] true F_names :=
  cal_d (N := ["graph"]) (ps := ["graph"]) (st := s_names) (k := 0) (g := g_names) Df sc_names (fun _ _ _ _ _ _ us hl => match us, hl with | [_], _ => rfl) (fun f cdv A outer s H E hr => (by
      unfold g_names
      refine (b_one (s_retN ?c0))
      case c0 => exact n_comp (defScope s_names) [none, none] ["name", "kind"] rfl (show CompOk (defScope s_names) _ ["graph"] ["name", "kind"] [none, none] from CompOk.of (by decide +kernel)) rfl (i_seqP (xix (m := true) o_ix (xv (m := true) 0) (xint (m := true)) (fun _ _ => rfl))) (fun _ _ _ _ => ⟨(g_tup (n := 2) rfl (gs_cons (g_name 0 (show (["name", "kind"] : List Str).Nodup from by decide +kernel) rfl (Or.inl rfl)) (gs_cons (g_name 1 (show (["name", "kind"] : List Str).Nodup from by decide +kernel) rfl (Or.inl rfl)) gs_nil))), f_nil, (xv (m := false) 0)⟩) (by decide)))
end
end K81
set_option Elab.async false
set_option linter.all false
set_option maxRecDepth 100000
set_option maxHeartbeats 4000000
namespace K81
open PySem PySem.Spec PyProof.Rows L2
section
variable {P : Program} {w : World} {K : PySem.W.Frag} {mg : Str → Option Value} {base : Heap}
theorem c_has_one (Df : Def K mg "has_one" s_has_one) (T : Txt K mg)   : CalD P w K mg base 1 "has_one" ["number", "place"] false F_has_one :=
  cal_d (N := ["number", "place"]) (ps := ["number", "place"]) (st := s_has_one) (k := 0) (g := g_has_one) Df sc_has_one (fun _ _ _ _ _ _ us hl => match us, hl with | [_, _], _ => rfl) (fun f cdv A outer s H E hr => (by
      unfold g_has_one
      exact (b_one (s_ret (xcmp (m := false) (o_eq hr.units) (xop (m := true) o_and (xop (m := true) o_shr (xv (m := true) 0) (xv (m := true) 1)) (xint (m := true))) (xint (m := true)) (nomark _))))))
end
end K81
set_option Elab.async false
set_option linter.all false
set_option maxRecDepth 100000
set_option maxHeartbeats 4000000
namespace K81
open PySem PySem.Spec PyProof.Rows L2
section
variable {P : Program} {w : World} {K : PySem.W.Frag} {mg : Str → Option Value} {base : Heap}
theorem c_ones (Df : Def K mg "ones" s_ones) (T : Txt K mg)  (C_has_one : CalD P w K mg base 1 "has_one" ["number", "place"] false F_has_one) : CalD P w K mg base 2 "ones" ["number"] true F_ones :=
  cal_d (N := ["number"]) (ps := ["number"]) (st := s_ones) (k := 1) (g := g_ones) Df sc_ones (fun _ _ _ _ _ _ us hl => match us, hl with | [_], _ => rfl) (fun f cdv A outer s H E hr => (by
      unfold g_ones
      refine (b_one (s_retN ?c0))
      case c0 => exact n_comp (defScope s_ones) [none, some 0] ["place", "number"] rfl (show CompOk (defScope s_ones) _ ["number"] ["place", "number"] [none, some 0] from CompOk.of (by decide +kernel)) rfl (i_range1 (by rfl) T.b_range (a_cons (xbm0 (m := true) PySem.F.plainAttrs_int PySem.F.slot_int_bit_length PySem.F.type_int_bit_length m_bitlen (xv (m := true) 0)) a_nil)) (fun _ _ _ _ => ⟨(g_name 0 (show (["place", "number"] : List Str).Nodup from by decide +kernel) rfl (Or.inl rfl)), (f_one (tval (xcal (m := true) C_has_one (hr.mono (by omega)) (a_cons (xv (m := false) 1) (a_cons (xv (m := false) 0) a_nil))))), (xv (m := false) 0)⟩) (by decide)))
end
end K81
set_option Elab.async false
set_option linter.all false
set_option maxRecDepth 100000
set_option maxHeartbeats 4000000
namespace K81
open PySem PySem.Spec PyProof.Rows L2
section
variable {P : Program} {w : World} {K : PySem.W.Frag} {mg : Str → Option Value} {base : Heap}
theorem c_shown_level (Df : Def K mg "shown_level" s_shown_level) (T : Txt K mg)   : CalD P w K mg base 1 "shown_level" ["name", "up"] false F_shown_level :=
  cal_d (N := ["name", "up"]) (ps := ["name", "up"]) (st := s_shown_level) (k := 0) (g := g_shown_level) Df sc_shown_level (fun _ _ _ _ _ _ us hl => match us, hl with | [_, _], _ => rfl) (fun f cdv A outer s H E hr => (by
      unfold g_shown_level
      exact (b_one (s_ret (xif (m := false) (tval (xv (m := true) 1)) (xv (m := false) 0) (xop (m := false) o_add (xstr (m := true)) (xv (m := true) 0)))))))
end
end K81
set_option Elab.async false
set_option linter.all false
set_option maxRecDepth 100000
set_option maxHeartbeats 4000000
namespace K81
open PySem PySem.Spec PyProof.Rows L2
section
variable {P : Program} {w : World} {K : PySem.W.Frag} {mg : Str → Option Value} {base : Heap}
theorem c_shown_row (Df : Def K mg "shown_row" s_shown_row) (T : Txt K mg)  (C_shown_level : CalD P w K mg base 1 "shown_level" ["name", "up"] false F_shown_level) (C_has_one : CalD P w K mg base 1 "has_one" ["number", "place"] false F_has_one) (C_ones : CalD P w K mg base 2 "ones" ["number"] true F_ones) : CalD P w K mg base 3 "shown_row" ["known", "row"] false F_shown_row :=
  cal_d (N := ["known", "row"]) (ps := ["known", "row"]) (st := s_shown_row) (k := 2) (g := g_shown_row) Df sc_shown_row (fun _ _ _ _ _ _ us hl => match us, hl with | [_, _], _ => rfl) (fun f cdv A outer s H E hr => (by
      unfold g_shown_row
      refine (b_cons (s_if (tcmp (o_eq hr.units) (xix (m := true) o_ix (xv (m := true) 1) (xint (m := true)) (fun _ _ => rfl)) (xint (m := true)) (nomark _)) (b_one (s_ret (xstr (m := false)))) b_nil)
      (b_one (s_ret (xbm (m := false) PySem.F.plainAttrs_str PySem.F.slot_str_join PySem.F.type_str_join m_join (xstr (m := true)) (a_cons (PNd.x (m := true) ?c0) a_nil)))))
      case c0 => exact n_comp (defScope s_shown_row) [none, some 0, some 1] ["wire", "known", "row"] rfl (show CompOk (defScope s_shown_row) _ ["known", "row"] ["wire", "known", "row"] [none, some 0, some 1] from CompOk.of (by decide +kernel)) rfl (i_seqP (xcal (m := true) C_ones (hr.mono (by omega)) (a_cons (xix (m := false) o_ix (xv (m := true) 1) (xint (m := true)) (fun _ _ => rfl)) a_nil))) (fun _ _ _ _ => ⟨(g_name 0 (show (["wire", "known", "row"] : List Str).Nodup from by decide +kernel) rfl (Or.inl rfl)), f_nil, (xcal (m := false) C_shown_level (hr.mono (by omega)) (a_cons (xix (m := false) o_ix (xv (m := true) 1) (xv (m := true) 0) (fun _ _ => rfl)) (a_cons (xcal (m := false) C_has_one (hr.mono (by omega)) (a_cons (xix (m := false) o_ix (xv (m := true) 2) (xint (m := true)) (fun _ _ => rfl)) (a_cons (xv (m := false) 0) a_nil))) a_nil)))⟩) (by decide)))
end
end K81
set_option Elab.async false
set_option linter.all false
set_option maxRecDepth 100000
set_option maxHeartbeats 4000000
namespace K81
open PySem PySem.Spec PyProof.Rows L2
section
variable {P : Program} {w : World} {K : PySem.W.Frag} {mg : Str → Option Value} {base : Heap}
theorem c_shown_gates (Df : Def K mg "shown_gates" s_shown_gates) (T : Txt K mg)  (C_shown_row : CalD P w K mg base 3 "shown_row" ["known", "row"] false F_shown_row) : CalD P w K mg base 4 "shown_gates" ["known", "gates"] false F_shown_gates :=
  cal_d (N := ["known", "gates", "rows", "gate"]) (ps := ["known", "gates"]) (st := s_shown_gates) (k := 3) (g := g_shown_gates) Df sc_shown_gates (fun _ _ _ _ _ _ us hl => match us, hl with | [_, _], _ => rfl) (fun f cdv A outer s H E hr => (by
      unfold g_shown_gates
      refine (b_cons (s_own 2 sc_shown_gates.nd rfl (Or.inl rfl) (nlst a_nil))
      (b_cons (s_for PassesOwn.never rfl (i_seq (xv (m := false) 1)) (g_name 3 sc_shown_gates.nd rfl (Or.inl rfl)) (b_one (s_meth 2 PySem.F.slot_list_extend PySem.F.type_list_extend m_extend (a_cons (PNd.x (m := false) ?c0) a_nil))))
      (b_one (s_ret (xif (m := false) (tcmp (o_eq hr.units) (xcallB (m := true) c_len (by rfl) T.b_len (by decide +kernel) (a_cons (xo 2) a_nil)) (xint (m := true)) (nomark _)) (xstr (m := false)) (xbm (m := false) PySem.F.plainAttrs_str PySem.F.slot_str_join PySem.F.type_str_join m_join (xstr (m := true)) (a_cons (xo 2) a_nil)))))))
      case c0 => exact n_comp (defScope s_shown_gates) [none, some 0] ["row", "known"] rfl (show CompOk (defScope s_shown_gates) _ ["known", "gates", "rows", "gate"] ["row", "known"] [none, some 0] from CompOk.of (by decide +kernel)) rfl (i_seqP (xv (m := true) 3)) (fun _ _ _ _ => ⟨(g_name 0 (show (["row", "known"] : List Str).Nodup from by decide +kernel) rfl (Or.inl rfl)), f_nil, (xcal (m := false) C_shown_row (hr.mono (by omega)) (a_cons (xv (m := false) 1) (a_cons (xv (m := false) 0) a_nil)))⟩) (by decide)))
end
end K81
set_option Elab.async false
set_option linter.all false
set_option maxRecDepth 100000
set_option maxHeartbeats 4000000
namespace K81
open PySem PySem.Spec PyProof.Rows L2
section
variable {P : Program} {w : World} {K : PySem.W.Frag} {mg : Str → Option Value} {base : Heap}
theorem c_shown_net (Df : Def K mg "shown_net" s_shown_net) (T : Txt K mg)  (C_names : CalD P w K mg base 1 "names" ["graph"] true F_names) (C_shown_gates : CalD P w K mg base 4 "shown_gates" ["known", "gates"] false F_shown_gates) : CalD P w K mg base 5 "shown_net" ["graph", "net"] false F_shown_net :=
  cal_d (N := ["graph", "net", "known", "rows", "part"]) (ps := ["graph", "net"]) (st := s_shown_net) (k := 4) (g := g_shown_net) Df sc_shown_net (fun _ _ _ _ _ _ us hl => match us, hl with | [_, _], _ => rfl) (fun f cdv A outer s H E hr => (by
      unfold g_shown_net
      exact (b_cons (s_set 2 sc_shown_net.nd rfl (Or.inl rfl) (xcal (m := false) C_names (hr.mono (by omega)) (a_cons (xv (m := false) 0) a_nil)))
      (b_cons (s_own 3 sc_shown_net.nd rfl (Or.inl rfl) (nlst a_nil))
      (b_cons (s_for PassesOwn.never rfl (i_seq (xv (m := false) 1)) (g_name 4 sc_shown_net.nd rfl (Or.inl rfl)) (b_cons (s_meth 3 PySem.F.slot_list_append PySem.F.type_list_append m_append (a_cons (xbm (m := false) PySem.F.plainAttrs_str PySem.F.slot_str_join PySem.F.type_str_join m_join (xstr (m := true)) (a_cons (PNd.x (m := true) (nlst (a_cons (xix (m := false) o_ix (xv (m := true) 2) (xix (m := true) o_ix (xv (m := true) 4) (xint (m := true)) (fun _ _ => rfl)) (fun _ _ => rfl)) (a_cons (xstr (m := false)) (a_cons (xcal (m := false) C_shown_gates (hr.mono (by omega)) (a_cons (xv (m := false) 2) (a_cons (xix (m := false) o_ix (xv (m := true) 4) (xint (m := true)) (fun _ _ => rfl)) a_nil))) a_nil))))) a_nil)) a_nil))
      (b_one (s_meth 3 PySem.F.slot_list_append PySem.F.type_list_append m_append (a_cons (xbm (m := false) PySem.F.plainAttrs_str PySem.F.slot_str_join PySem.F.type_str_join m_join (xstr (m := true)) (a_cons (PNd.x (m := true) (nlst (a_cons (xix (m := false) o_ix (xv (m := true) 2) (xix (m := true) o_ix (xv (m := true) 4) (xint (m := true)) (fun _ _ => rfl)) (fun _ _ => rfl)) (a_cons (xstr (m := false)) (a_cons (xcal (m := false) C_shown_gates (hr.mono (by omega)) (a_cons (xv (m := false) 2) (a_cons (xix (m := false) o_ix (xv (m := true) 4) (xint (m := true)) (fun _ _ => rfl)) a_nil))) a_nil))))) a_nil)) a_nil)))))
      (b_one (s_ret (xbm (m := false) PySem.F.plainAttrs_str PySem.F.slot_str_join PySem.F.type_str_join m_join (xstr (m := true)) (a_cons (xo 3) a_nil)))))))))
end
end K81
set_option Elab.async false
set_option linter.all false
set_option maxRecDepth 100000
set_option maxHeartbeats 4000000
namespace K81
open PySem PySem.Spec PyProof.Rows L2
section
variable {P : Program} {w : World} {K : PySem.W.Frag} {mg : Str → Option Value} {base : Heap}
theorem c__law_mix (Df : Def K mg "_law_mix" s__law_mix) (T : Txt K mg)   : CalD P w K mg base 1 "_law_mix" ["_law_script", "_law_k"] false F__law_mix :=
  cal_d (N := ["_law_script", "_law_k", "_law_number"]) (ps := ["_law_script", "_law_k"]) (st := s__law_mix) (k := 0) (g := g__law_mix) Df sc__law_mix (fun _ _ _ _ _ _ us hl => match us, hl with | [_, _], _ => rfl) (fun f cdv A outer s H E hr => (by
      unfold g__law_mix
      exact (b_cons (s_set 2 sc__law_mix.nd rfl (Or.inl rfl) (xop (m := false) o_add (xop (m := true) o_mulE (xint (m := true)) (xv (m := true) 1)) (xint (m := true))))
      (b_cons (s_if (tcmp o_gt (xcallB (m := true) c_len (by rfl) T.b_len (by decide +kernel) (a_cons (xv (m := true) 0) a_nil)) (xint (m := true)) (nomark _)) (b_cons (s_set 2 sc__law_mix.nd rfl (Or.inl rfl) (xop (m := false) o_add (xv (m := true) 2) (xop (m := true) o_fdiv (xv (m := true) 1) (xcallB (m := true) c_len (by rfl) T.b_len (by decide +kernel) (a_cons (xv (m := true) 0) a_nil)))))
      (b_one (s_set 2 sc__law_mix.nd rfl (Or.inl rfl) (xop (m := false) o_add (xv (m := true) 2) (xop (m := true) o_mulE (xix (m := true) o_ix (xv (m := true) 0) (xop (m := true) o_mod (xv (m := true) 1) (xcallB (m := true) c_len (by rfl) T.b_len (by decide +kernel) (a_cons (xv (m := true) 0) a_nil))) (fun _ _ => rfl)) (xint (m := true))))))) b_nil)
      (b_one (s_ret (xop (m := false) o_mod (xop (m := true) o_mulE (xv (m := true) 2) (xint (m := true))) (xint (m := true)))))))))
end
end K81
set_option Elab.async false
set_option linter.all false
set_option maxRecDepth 100000
set_option maxHeartbeats 4000000
namespace K81
open PySem PySem.Spec PyProof.Rows L2
section
variable {P : Program} {w : World} {K : PySem.W.Frag} {mg : Str → Option Value} {base : Heap}
theorem c__law_name (Df : Def K mg "_law_name" s__law_name) (T : Txt K mg)   : CalD P w K mg base 1 "_law_name" ["_law_cell"] false F__law_name :=
  cal_d (N := ["_law_cell", "_law_word", "_law_rest", "_law_k"]) (ps := ["_law_cell"]) (st := s__law_name) (k := 0) (g := g__law_name) Df sc__law_name (fun _ _ _ _ _ _ us hl => match us, hl with | [_], _ => rfl) (fun f cdv A outer s H E hr => (by
      unfold g__law_name
      exact (b_cons (s_set 1 sc__law_name.nd rfl (Or.inl rfl) (xstr (m := false)))
      (b_cons (s_set 2 sc__law_name.nd rfl (Or.inl rfl) (xop (m := false) o_fdiv (xv (m := true) 0) (xint (m := true))))
      (b_cons (s_for PassesOwn.never rfl (i_range1 (by rfl) T.b_range (a_cons (xop (m := true) o_add (xint (m := true)) (xop (m := true) o_mod (xv (m := true) 0) (xint (m := true)))) a_nil)) (g_name 3 sc__law_name.nd rfl (Or.inl rfl)) (b_cons (s_set 1 sc__law_name.nd rfl (Or.inl rfl) (xop (m := false) o_add (xv (m := true) 1) (xix (m := true) o_ix (xstr (m := true)) (xop (m := true) o_mod (xv (m := true) 2) (xint (m := true))) (fun _ _ => rfl))))
      (b_one (s_set 2 sc__law_name.nd rfl (Or.inl rfl) (xop (m := false) o_fdiv (xv (m := true) 2) (xint (m := true)))))))
      (b_one (s_ret (xv (m := false) 1))))))))
end
end K81
set_option Elab.async false
set_option linter.all false
set_option maxRecDepth 100000
set_option maxHeartbeats 4000000
namespace K81
open PySem PySem.Spec PyProof.Rows L2
section
variable {P : Program} {w : World} {K : PySem.W.Frag} {mg : Str → Option Value} {base : Heap}
theorem c__law_wires (Df : Def K mg "_law_wires" s__law_wires) (T : Txt K mg)  (C__law_mix : CalD P w K mg base 1 "_law_mix" ["_law_script", "_law_k"] false F__law_mix) (C__law_name : CalD P w K mg base 1 "_law_name" ["_law_cell"] false F__law_name) : CalD P w K mg base 2 "_law_wires" ["_law_script"] true F__law_wires :=
  cal_d (N := ["_law_script", "_law_cell", "_law_many", "_law_letters", "_law_words", "_law_k", "_law_more", "_law_word", "_law_at", "_law_kinds"]) (ps := ["_law_script"]) (st := s__law_wires) (k := 1) (g := g__law_wires) Df sc__law_wires (fun _ _ _ _ _ _ us hl => match us, hl with | [_], _ => rfl) (fun f cdv A outer s H E hr => (by
      unfold g__law_wires
      refine (b_cons (s_set 1 sc__law_wires.nd rfl (Or.inl rfl) (xcal (m := false) C__law_mix (hr.mono (by omega)) (a_cons (xv (m := false) 0) (a_cons (xint (m := false)) a_nil))))
      (b_cons (s_set 2 sc__law_wires.nd rfl (Or.inl rfl) (xix (m := false) o_ix (PNd.x (m := true) (nlst (a_cons (xop (m := false) o_add (xint (m := true)) (xop (m := true) o_mod (xop (m := true) o_fdiv (xv (m := true) 1) (xint (m := true))) (xint (m := true)))) (a_cons (xint (m := false)) a_nil)))) (xcallT (m := true) c_int (by rfl) T.b_int (by decide +kernel) (a_cons (xcmp (m := true) (o_eq hr.units) (xop (m := true) o_mod (xv (m := true) 1) (xint (m := true))) (xint (m := true)) (nomark _)) a_nil)) (fun _ _ => rfl)))
      (b_cons (s_set 3 sc__law_wires.nd rfl (Or.inl rfl) (xstr (m := false)))
      (b_cons (s_own 4 sc__law_wires.nd rfl (Or.inr rfl) (nlst a_nil))
      (b_cons (s_for PassesOwn.never rfl (i_range1 (by rfl) T.b_range (a_cons (xv (m := true) 2) a_nil)) (g_name 5 sc__law_wires.nd rfl (Or.inl rfl)) (b_cons (s_set 6 sc__law_wires.nd rfl (Or.inl rfl) (xcal (m := false) C__law_mix (hr.mono (by omega)) (a_cons (xv (m := false) 0) (a_cons (xop (m := false) o_add (xint (m := true)) (xv (m := true) 5)) a_nil))))
      (b_cons (s_set 7 sc__law_wires.nd rfl (Or.inl rfl) (xcal (m := false) C__law_name (hr.mono (by omega)) (a_cons (xv (m := false) 6) a_nil)))
      (b_cons (s_if (PWd.pt (w_and (tcmp o_gt (xv (m := true) 5) (xint (m := true)) (nomark _)) (w_and1 (tcmp (o_eq hr.units) (xop (m := true) o_mod (xop (m := true) o_fdiv (xv (m := true) 6) (xint (m := true))) (xint (m := true))) (xint (m := true)) (nomark _))))) (b_cons (s_set 8 sc__law_wires.nd rfl (Or.inl rfl) (xop (m := false) o_mod (xop (m := true) o_fdiv (xv (m := true) 6) (xint (m := true))) (xcallB (m := true) c_len (by rfl) T.b_len (by decide +kernel) (a_cons (xix (m := true) o_ix (xo 4) (xint (m := true)) (fun _ _ => rfl)) a_nil))))
      (b_cons (s_set 7 sc__law_wires.nd rfl (Or.inl rfl) (xix (m := false) o_ix (xo 4) (xint (m := true)) (fun _ _ => rfl)))
      (b_one (s_set 7 sc__law_wires.nd rfl (Or.inl rfl) (xop (m := false) o_add (xop (m := true) o_add (xslice (m := true) o_sl (xv (m := true) 7) o_none (o_some (xv (m := true) 8))) (xix (m := true) o_ix (xv (m := true) 3) (xop (m := true) o_mod (xop (m := true) o_fdiv (xv (m := true) 6) (xint (m := true))) (xint (m := true))) (fun _ _ => rfl))) (xslice (m := true) o_sl (xv (m := true) 7) (o_some (xop (m := true) o_add (xv (m := true) 8) (xint (m := true)))) o_none)))))) b_nil)
      (b_cons (s_while PassesOwn.never (PWd.pt (w_or (tcmp (o_in hr.units) (xv (m := true) 7) (xo 4) (by rfl)) (w_or1 (tcmp (o_in hr.units) (xv (m := true) 7) (PNd.x (m := true) (nlst (a_cons (xstr (m := false)) (a_cons (xstr (m := false)) (a_cons (xstr (m := false)) (a_cons (xstr (m := false)) (a_cons (xstr (m := false)) a_nil))))))) (by rfl))))) (b_one (s_set 7 sc__law_wires.nd rfl (Or.inl rfl) (xop (m := false) o_add (xslice (m := true) o_sl (xv (m := true) 7) o_none (o_some (xun (m := true) u_neg (xint (m := true))))) (xix (m := true) o_ix (xv (m := true) 3) (xop (m := true) o_mod (xop (m := true) o_add (xbm (m := true) PySem.F.plainAttrs_str PySem.F.slot_str_index PySem.F.type_str_index (m_sindex rfl) (xv (m := true) 3) (a_cons (xix (m := true) o_ix (xv (m := true) 7) (xun (m := true) u_neg (xint (m := true))) (fun _ _ => rfl)) a_nil)) (xint (m := true))) (xint (m := true))) (fun _ _ => rfl))))))
      (b_one (s_meth 4 PySem.F.slot_list_append PySem.F.type_list_append m_append (a_cons (xv (m := false) 7) a_nil))))))))
      (b_cons (s_set 9 sc__law_wires.nd rfl (Or.inr rfl) (xop (m := false) o_fdiv (xv (m := true) 1) (xint (m := true))))
      (b_one (s_retN ?c0))))))))
      case c0 => exact n_comp (defScope s__law_wires) [none, some 4, some 9] ["_law_k", "_law_words", "_law_kinds"] rfl (show CompOk (defScope s__law_wires) _ ["_law_script", "_law_cell", "_law_many", "_law_letters", "_law_words", "_law_k", "_law_more", "_law_word", "_law_at", "_law_kinds"] ["_law_k", "_law_words", "_law_kinds"] [none, some 4, some 9] from CompOk.of (by decide +kernel)) rfl (i_range1 (by rfl) T.b_range (a_cons (xv (m := true) 2) a_nil)) (fun _ _ _ _ => ⟨(g_name 0 (show (["_law_k", "_law_words", "_law_kinds"] : List Str).Nodup from by decide +kernel) rfl (Or.inl rfl)), f_nil, (xtup (m := false) (a_cons (xix (m := false) o_ix (xo 1) (xv (m := true) 0) (fun _ _ => rfl)) (a_cons (xix (m := false) o_ix (PNd.x (m := true) (nlst (a_cons (xstr (m := false)) (a_cons (xstr (m := false)) a_nil)))) (xop (m := true) o_mod (xop (m := true) o_fdiv (xv (m := true) 2) (xop (m := true) o_add (xint (m := true)) (xop (m := true) o_mulE (xint (m := true)) (xv (m := true) 0)))) (xint (m := true))) (fun _ _ => rfl)) a_nil)))⟩) (by decide)))
end
end K81
set_option Elab.async false
set_option linter.all false
set_option maxRecDepth 100000
set_option maxHeartbeats 4000000
namespace K81
open PySem PySem.Spec PyProof.Rows L2
section
variable {P : Program} {w : World} {K : PySem.W.Frag} {mg : Str → Option Value} {base : Heap}
theorem c__law_row (Df : Def K mg "_law_row" s__law_row) (T : Txt K mg)   : CalD P w K mg base 1 "_law_row" ["_law_cell", "_law_many"] false F__law_row :=
  cal_d (N := ["_law_cell", "_law_many", "_law_care"]) (ps := ["_law_cell", "_law_many"]) (st := s__law_row) (k := 0) (g := g__law_row) Df sc__law_row (fun _ _ _ _ _ _ us hl => match us, hl with | [_, _], _ => rfl) (fun f cdv A outer s H E hr => (by
      unfold g__law_row
      exact (b_cons (s_if (tcmp (o_eq hr.units) (xop (m := true) o_mod (xv (m := true) 0) (xint (m := true))) (xint (m := true)) (nomark _)) (b_one (s_ret (xtup (m := false) (a_cons (xint (m := false)) (a_cons (xint (m := false)) a_nil))))) b_nil)
      (b_cons (s_set 2 sc__law_row.nd rfl (Or.inl rfl) (xop (m := false) o_mod (xop (m := true) o_fdiv (xv (m := true) 0) (xint (m := true))) (xop (m := true) o_shl (xint (m := true)) (xv (m := true) 1))))
      (b_one (s_ret (xtup (m := false) (a_cons (xv (m := false) 2) (a_cons (xop (m := false) o_and (xop (m := true) o_mod (xop (m := true) o_fdiv (xv (m := true) 0) (xint (m := true))) (xop (m := true) o_shl (xint (m := true)) (xv (m := true) 1))) (xv (m := true) 2)) a_nil)))))))))
end
end K81
set_option Elab.async false
set_option linter.all false
set_option maxRecDepth 100000
set_option maxHeartbeats 4000000
namespace K81
open PySem PySem.Spec PyProof.Rows L2
section
variable {P : Program} {w : World} {K : PySem.W.Frag} {mg : Str → Option Value} {base : Heap}
theorem c__law_gates (Df : Def K mg "_law_gates" s__law_gates) (T : Txt K mg)  (C__law_mix : CalD P w K mg base 1 "_law_mix" ["_law_script", "_law_k"] false F__law_mix) (C__law_row : CalD P w K mg base 1 "_law_row" ["_law_cell", "_law_many"] false F__law_row) : CalD P w K mg base 2 "_law_gates" ["_law_script", "_law_first", "_law_many"] false F__law_gates :=
  cal_d (N := ["_law_script", "_law_first", "_law_many", "_law_gates_here", "_law_k", "_law_size"]) (ps := ["_law_script", "_law_first", "_law_many"]) (st := s__law_gates) (k := 1) (g := g__law_gates) Df sc__law_gates (fun _ _ _ _ _ _ us hl => match us, hl with | [_, _, _], _ => rfl) (fun f cdv A outer s H E hr => (by
      unfold g__law_gates
      refine (b_cons (s_own 3 sc__law_gates.nd rfl (Or.inl rfl) (nlst a_nil))
      (b_cons (s_for PassesOwn.never rfl (i_range1 (by rfl) T.b_range (a_cons (xop (m := true) o_mod (xcal (m := true) C__law_mix (hr.mono (by omega)) (a_cons (xv (m := false) 0) (a_cons (xv (m := false) 1) a_nil))) (xint (m := true))) a_nil)) (g_name 4 sc__law_gates.nd rfl (Or.inr rfl)) (b_cons (s_set 5 sc__law_gates.nd rfl (Or.inl rfl) (xop (m := false) o_mod (xop (m := true) o_fdiv (xop (m := true) o_fdiv (xcal (m := true) C__law_mix (hr.mono (by omega)) (a_cons (xv (m := false) 0) (a_cons (xv (m := false) 1) a_nil))) (xint (m := true))) (xop (m := true) o_add (xint (m := true)) (xop (m := true) o_mulE (xint (m := true)) (xv (m := true) 4)))) (xint (m := true))))
      (b_one (s_meth 3 PySem.F.slot_list_append PySem.F.type_list_append m_append (a_cons (xcallT (m := false) c_tuple (by rfl) T.b_tuple (by decide +kernel) (a_cons (PNd.x (m := true) ?c0) a_nil)) a_nil)))))
      (b_one (s_ret (xcallT (m := false) c_tuple (by rfl) T.b_tuple (by decide +kernel) (a_cons (xo 3) a_nil))))))
      case c0 => exact n_comp (defScope s__law_gates) [none, some 2, some 0, some 1, some 4] ["_law_j", "_law_many", "_law_script", "_law_first", "_law_k"] rfl (show CompOk (defScope s__law_gates) _ ["_law_script", "_law_first", "_law_many", "_law_gates_here", "_law_k", "_law_size"] ["_law_j", "_law_many", "_law_script", "_law_first", "_law_k"] [none, some 2, some 0, some 1, some 4] from CompOk.of (by decide +kernel)) rfl (i_range1 (by rfl) T.b_range (a_cons (xv (m := true) 5) a_nil)) (fun _ _ _ _ => ⟨(g_name 0 (show (["_law_j", "_law_many", "_law_script", "_law_first", "_law_k"] : List Str).Nodup from by decide +kernel) rfl (Or.inl rfl)), f_nil, (xcal (m := false) C__law_row (hr.mono (by omega)) (a_cons (xcal (m := false) C__law_mix (hr.mono (by omega)) (a_cons (xv (m := false) 2) (a_cons (xop (m := false) o_add (xop (m := true) o_add (xop (m := true) o_add (xv (m := true) 3) (xint (m := true))) (xop (m := true) o_mulE (xint (m := true)) (xv (m := true) 4))) (xv (m := true) 0)) a_nil))) (a_cons (xv (m := false) 1) a_nil)))⟩) (by decide)))
end
end K81
set_option Elab.async false
set_option linter.all false
set_option maxRecDepth 100000
set_option maxHeartbeats 4000000
namespace K81
open PySem PySem.Spec PyProof.Rows L2
section
variable {P : Program} {w : World} {K : PySem.W.Frag} {mg : Str → Option Value} {base : Heap}
theorem c__law_row_text (Df : Def K mg "_law_row_text" s__law_row_text) (T : Txt K mg)   : CalD P w K mg base 1 "_law_row_text" ["_law_row_here", "_law_wires_here"] false F__law_row_text :=
  cal_d (N := ["_law_row_here", "_law_wires_here", "_law_care", "_law_level", "_law_words", "_law_wire"]) (ps := ["_law_row_here", "_law_wires_here"]) (st := s__law_row_text) (k := 0) (g := g__law_row_text) Df sc__law_row_text (fun _ _ _ _ _ _ us hl => match us, hl with | [_, _], _ => rfl) (fun f cdv A outer s H E hr => (by
      unfold g__law_row_text
      exact (b_cons (s_asg (xv (m := false) 0) (g_tup (n := 2) rfl (gs_cons (g_name 2 sc__law_row_text.nd rfl (Or.inl rfl)) (gs_cons (g_name 3 sc__law_row_text.nd rfl (Or.inl rfl)) gs_nil))))
      (b_cons (s_own 4 sc__law_row_text.nd rfl (Or.inl rfl) (nlst a_nil))
      (b_cons (s_for PassesOwn.never rfl (i_range1 (by rfl) T.b_range (a_cons (xcallB (m := true) c_len (by rfl) T.b_len (by decide +kernel) (a_cons (xv (m := true) 1) a_nil)) a_nil)) (g_name 5 sc__law_row_text.nd rfl (Or.inl rfl)) (b_one (s_if (tcmp (o_eq hr.units) (xop (m := true) o_mod (xop (m := true) o_fdiv (xv (m := true) 2) (xop (m := true) o_shl (xint (m := true)) (xv (m := true) 5))) (xint (m := true))) (xint (m := true)) (nomark _)) (b_one (s_meth 4 PySem.F.slot_list_append PySem.F.type_list_append m_append (a_cons (xop (m := false) o_add (xix (m := true) o_ix (PNd.x (m := true) (nlst (a_cons (xstr (m := false)) (a_cons (xstr (m := false)) a_nil)))) (xop (m := true) o_mod (xop (m := true) o_fdiv (xv (m := true) 3) (xop (m := true) o_shl (xint (m := true)) (xv (m := true) 5))) (xint (m := true))) (fun _ _ => rfl)) (xix (m := true) o_ix (xix (m := true) o_ix (xv (m := true) 1) (xv (m := true) 5) (fun _ _ => rfl)) (xint (m := true)) (fun _ _ => rfl))) a_nil))) b_nil)))
      (b_cons (s_if (tcmp (o_eq hr.units) (xo 4) (PNd.x (m := true) (nlst a_nil)) (nomark _)) (b_one (s_ret (xstr (m := false)))) b_nil)
      (b_one (s_ret (xbm (m := false) PySem.F.plainAttrs_str PySem.F.slot_str_join PySem.F.type_str_join m_join (xstr (m := true)) (a_cons (xo 4) a_nil))))))))))
end
end K81
set_option Elab.async false
set_option linter.all false
set_option maxRecDepth 100000
set_option maxHeartbeats 4000000
namespace K81
open PySem PySem.Spec PyProof.Rows L2
section
variable {P : Program} {w : World} {K : PySem.W.Frag} {mg : Str → Option Value} {base : Heap}
theorem c__law_gates_text (Df : Def K mg "_law_gates_text" s__law_gates_text) (T : Txt K mg)  (C__law_row_text : CalD P w K mg base 1 "_law_row_text" ["_law_row_here", "_law_wires_here"] false F__law_row_text) : CalD P w K mg base 2 "_law_gates_text" ["_law_gates_here", "_law_wires_here"] false F__law_gates_text :=
  cal_d (N := ["_law_gates_here", "_law_wires_here", "_law_texts", "_law_gate", "_law_row_here"]) (ps := ["_law_gates_here", "_law_wires_here"]) (st := s__law_gates_text) (k := 1) (g := g__law_gates_text) Df sc__law_gates_text (fun _ _ _ _ _ _ us hl => match us, hl with | [_, _], _ => rfl) (fun f cdv A outer s H E hr => (by
      unfold g__law_gates_text
      exact (b_cons (s_own 2 sc__law_gates_text.nd rfl (Or.inl rfl) (nlst a_nil))
      (b_cons (s_for PassesOwn.never rfl (i_seq (xv (m := false) 0)) (g_name 3 sc__law_gates_text.nd rfl (Or.inl rfl)) (b_one (s_for PassesOwn.never rfl (i_seq (xv (m := false) 3)) (g_name 4 sc__law_gates_text.nd rfl (Or.inl rfl)) (b_one (s_meth 2 PySem.F.slot_list_append PySem.F.type_list_append m_append (a_cons (xcal (m := false) C__law_row_text (hr.mono (by omega)) (a_cons (xv (m := false) 4) (a_cons (xv (m := false) 1) a_nil))) a_nil))))))
      (b_cons (s_if (tcmp (o_eq hr.units) (xo 2) (PNd.x (m := true) (nlst a_nil)) (nomark _)) (b_one (s_ret (xstr (m := false)))) b_nil)
      (b_one (s_ret (xbm (m := false) PySem.F.plainAttrs_str PySem.F.slot_str_join PySem.F.type_str_join m_join (xstr (m := true)) (a_cons (xo 2) a_nil)))))))))
end
end K81
set_option Elab.async false
set_option linter.all false
set_option maxRecDepth 100000
set_option maxHeartbeats 4000000
namespace K81
open PySem PySem.Spec PyProof.Rows L2
section
variable {P : Program} {w : World} {K : PySem.W.Frag} {mg : Str → Option Value} {base : Heap}
theorem c_law {f : Addr} {fd : FuncData} (Df : Fun K "law" "law" s_law f fd) (T : Txt K mg)  (C__law_wires : CalD P w K mg base 2 "_law_wires" ["_law_script"] true F__law_wires) (C_shown_net : CalD P w K mg base 5 "shown_net" ["graph", "net"] false F_shown_net) (C__law_row : CalD P w K mg base 1 "_law_row" ["_law_cell", "_law_many"] false F__law_row) (C__law_mix : CalD P w K mg base 1 "_law_mix" ["_law_script", "_law_k"] false F__law_mix) (C__law_row_text : CalD P w K mg base 1 "_law_row_text" ["_law_row_here", "_law_wires_here"] false F__law_row_text) (C__law_gates : CalD P w K mg base 2 "_law_gates" ["_law_script", "_law_first", "_law_many"] false F__law_gates) (C__law_gates_text : CalD P w K mg base 2 "_law_gates_text" ["_law_gates_here", "_law_wires_here"] false F__law_gates_text) (hl : ∀ ns : List Int, ns.length ≤ 63 → F_law [.lst (ns.map .int)] = .ok (.bl true)) : FnOk P w K mg base CX0 6 f fd ["_law_script"] (spLaw K) :=
  law_d (N := ["_law_script", "_law_wires_here", "_law_net", "_law_rows", "_law_wire", "_law_rises", "_law_falls", "_law_graph", "_law_due", "_law_got", "_law_first", "_law_one", "_law_text"]) (ps := ["_law_script"]) (st := s_law) (g := g_law) Df sc_law rfl (fun cdv A outer s H E hr => (by
      unfold g_law
      exact (b_cons (s_set 1 sc_law.nd rfl (Or.inl rfl) (xcal (m := false) C__law_wires (hr.mono (by omega)) (a_cons (xv (m := false) 0) a_nil)))
      (b_cons (s_own 2 sc_law.nd rfl (Or.inl rfl) (nlst a_nil))
      (b_cons (s_own 3 sc_law.nd rfl (Or.inl rfl) (nlst a_nil))
      (b_cons (s_for PassesOwn.never rfl (i_range1 (by rfl) T.b_range (a_cons (xcallB (m := true) c_len (by rfl) T.b_len (by decide +kernel) (a_cons (xv (m := true) 1) a_nil)) a_nil)) (g_name 4 sc_law.nd rfl (Or.inl rfl)) (b_one (s_if (tcmp (o_eq hr.units) (xix (m := true) o_ix (xix (m := true) o_ix (xv (m := true) 1) (xv (m := true) 4) (fun _ _ => rfl)) (xint (m := true)) (fun _ _ => rfl)) (xstr (m := true)) (nomark _)) (b_cons (s_set 5 sc_law.nd rfl (Or.inl rfl) (xcal (m := false) C__law_gates (hr.mono (by omega)) (a_cons (xv (m := false) 0) (a_cons (xop (m := false) o_add (xint (m := true)) (xop (m := true) o_mulE (xint (m := true)) (xv (m := true) 4))) (a_cons (xcallB (m := false) c_len (by rfl) T.b_len (by decide +kernel) (a_cons (xv (m := true) 1) a_nil)) a_nil)))))
      (b_cons (s_set 6 sc_law.nd rfl (Or.inl rfl) (xcal (m := false) C__law_gates (hr.mono (by omega)) (a_cons (xv (m := false) 0) (a_cons (xop (m := false) o_add (xint (m := true)) (xop (m := true) o_mulE (xint (m := true)) (xv (m := true) 4))) (a_cons (xcallB (m := false) c_len (by rfl) T.b_len (by decide +kernel) (a_cons (xv (m := true) 1) a_nil)) a_nil)))))
      (b_cons (s_meth 2 PySem.F.slot_list_append PySem.F.type_list_append m_append (a_cons (xtup (m := false) (a_cons (xv (m := false) 4) (a_cons (xv (m := false) 5) (a_cons (xv (m := false) 6) a_nil)))) a_nil))
      (b_cons (s_meth 3 PySem.F.slot_list_append PySem.F.type_list_append m_append (a_cons (xop (m := false) o_add (xop (m := true) o_add (xix (m := true) o_ix (xix (m := true) o_ix (xv (m := true) 1) (xv (m := true) 4) (fun _ _ => rfl)) (xint (m := true)) (fun _ _ => rfl)) (xstr (m := true))) (xcal (m := true) C__law_gates_text (hr.mono (by omega)) (a_cons (xv (m := false) 5) (a_cons (xv (m := false) 1) a_nil)))) a_nil))
      (b_one (s_meth 3 PySem.F.slot_list_append PySem.F.type_list_append m_append (a_cons (xop (m := false) o_add (xop (m := true) o_add (xix (m := true) o_ix (xix (m := true) o_ix (xv (m := true) 1) (xv (m := true) 4) (fun _ _ => rfl)) (xint (m := true)) (fun _ _ => rfl)) (xstr (m := true))) (xcal (m := true) C__law_gates_text (hr.mono (by omega)) (a_cons (xv (m := false) 6) (a_cons (xv (m := false) 1) a_nil)))) a_nil))))))) b_nil)))
      (b_cons (s_set 7 sc_law.nd rfl (Or.inl rfl) (xtup (m := false) (a_cons (xcallT (m := false) c_tuple (by rfl) T.b_tuple (by decide +kernel) (a_cons (xv (m := true) 1) a_nil)) (a_cons (xtup (m := false) (a_cons (xtup (m := false) (a_cons (xint (m := false)) (a_cons (xbl (m := false)) (a_cons (xtup (m := false) (a_cons (xint (m := false)) a_nil)) (a_cons (xtup (m := false) (a_cons (xint (m := false)) a_nil)) a_nil))))) (a_cons (xtup (m := false) (a_cons (xint (m := false)) (a_cons (xbl (m := false)) (a_cons (xtup (m := false) (a_cons (xint (m := false)) a_nil)) (a_cons (xtup (m := false) (a_cons (xint (m := false)) a_nil)) a_nil))))) a_nil))) (a_cons (xint (m := false)) (a_cons (xint (m := false)) a_nil))))))
      (b_cons (s_set 8 sc_law.nd rfl (Or.inl rfl) (xbm (m := false) PySem.F.plainAttrs_str PySem.F.slot_str_join PySem.F.type_str_join m_join (xstr (m := true)) (a_cons (xo 3) a_nil)))
      (b_cons (s_set 9 sc_law.nd rfl (Or.inl rfl) (xcal (m := false) C_shown_net (hr.mono (by omega)) (a_cons (xv (m := false) 7) (a_cons (xcallT (m := false) c_tuple (by rfl) T.b_tuple (by decide +kernel) (a_cons (xo 2) a_nil)) a_nil))))
      (b_cons (s_if (PWd.pt (w_or (tnot (tval (xisi (m := true) (T := "str") (xv (m := true) 9) (by rfl) T.b_isinstance (by decide +kernel) (by rfl) T.b_str (by decide +kernel)))) (w_or1 (tcmp (o_ne hr.units) (xv (m := true) 9) (xv (m := true) 8) (nomark _))))) (b_one (s_ret (xbl (m := false)))) b_nil)
      (b_cons (s_set 1 sc_law.nd rfl (Or.inl rfl) (xslice (m := false) o_sl (xv (m := true) 1) o_none (o_some (xint (m := true)))))
      (b_cons (s_set 10 sc_law.nd rfl (Or.inl rfl) (PNd.x (m := false) (nlst (a_cons (xtup (m := false) (a_cons (xtup (m := false) (a_cons (xix (m := false) o_ix (xix (m := true) o_ix (xv (m := true) 1) (xint (m := true)) (fun _ _ => rfl)) (xint (m := true)) (fun _ _ => rfl)) (a_cons (xstr (m := false)) a_nil))) a_nil)) (a_cons (xix (m := false) o_ix (xv (m := true) 7) (xint (m := true)) (fun _ _ => rfl)) (a_cons (xint (m := false)) (a_cons (xint (m := false)) a_nil)))))))
      (b_cons (s_set 11 sc_law.nd rfl (Or.inl rfl) (xcal (m := false) C__law_row (hr.mono (by omega)) (a_cons (xcal (m := false) C__law_mix (hr.mono (by omega)) (a_cons (xv (m := false) 0) (a_cons (xint (m := false)) a_nil))) (a_cons (xint (m := false)) a_nil))))
      (b_cons (s_set 12 sc_law.nd rfl (Or.inl rfl) (xop (m := false) o_add (xop (m := true) o_add (xop (m := true) o_add (xop (m := true) o_add (xix (m := true) o_ix (xix (m := true) o_ix (xv (m := true) 1) (xint (m := true)) (fun _ _ => rfl)) (xint (m := true)) (fun _ _ => rfl)) (xstr (m := true))) (xix (m := true) o_ix (xix (m := true) o_ix (xv (m := true) 1) (xint (m := true)) (fun _ _ => rfl)) (xint (m := true)) (fun _ _ => rfl))) (xstr (m := true))) (xcal (m := true) C__law_row_text (hr.mono (by omega)) (a_cons (xv (m := false) 11) (a_cons (xv (m := false) 1) a_nil)))))
      (b_cons (s_if (tcmp (o_ne hr.units) (xcal (m := true) C_shown_net (hr.mono (by omega)) (a_cons (xcallT (m := false) c_tuple (by rfl) T.b_tuple (by decide +kernel) (a_cons (xv (m := true) 10) a_nil)) (a_cons (xtup (m := false) (a_cons (xtup (m := false) (a_cons (xint (m := false)) (a_cons (xtup (m := false) a_nil) (a_cons (xtup (m := false) (a_cons (xtup (m := false) (a_cons (xv (m := false) 11) a_nil)) a_nil)) a_nil)))) a_nil)) a_nil))) (xv (m := true) 12) (nomark _)) (b_one (s_ret (xbl (m := false)))) b_nil)
      (b_one (s_ret (xcmp (m := false) (o_eq hr.units) (xcal (m := true) C_shown_net (hr.mono (by omega)) (a_cons (xv (m := false) 7) (a_cons (xcallT (m := false) c_tuple (by rfl) T.b_tuple (by decide +kernel) (a_cons (xo 2) a_nil)) a_nil))) (xv (m := true) 8) (nomark _))))))))))))))))))) hl
end
end K81
set_option Elab.async false
set_option linter.all false
set_option maxRecDepth 100000
set_option maxHeartbeats 4000000
namespace K13
open PySem PySem.Spec PyProof.Rows L2
noncomputable def g_names : Ev → Fl := (sRet (dL (dComp (srcL (dO ixD (dV 0) (dC (.int 0)))) [none, none] (gtup 2 (gsCons (gset 0) (gsCons (gset 1) gsNil))) tTrue (dV 0))))
noncomputable def F_names : List Dat → Rs := runD 1 1 g_names
noncomputable def g_has_one : Ev → Fl := (sRet (dO eqF (dO andD (dO shrD (dV 0) (dV 1)) (dC (.int 1))) (dC (.int 1))))
noncomputable def F_has_one : List Dat → Rs := runD 2 2 g_has_one
noncomputable def g_ones : Ev → Fl := (sRet (dL (dComp (srcR1 (aCons (dM0 "int" bitlenD (dV 0)) aNil)) [none, some 0] (gset 0) (dT (dCal F_has_one (aCons (dV 1) (aCons (dV 0) aNil)))) (dV 0))))
noncomputable def F_ones : List Dat → Rs := runD 1 1 g_ones
noncomputable def g_written : Ev → Fl := (sRet (dL (dComp (srcL (dV 0)) [none] (gset 0) tTrue (dF strD (aCons (dV 0) aNil)))))
noncomputable def F_written : List Dat → Rs := runD 1 1 g_written
noncomputable def g_start_row : Ev → Fl := (bCons (sSet 3 (dL (dComp (srcL (dCal F_ones (aCons (dV 1) aNil))) [none, some 2] (gset 0) tTrue (dO ixD (dV 1) (dV 0)))))
      (sRet (dM "str" joinD (dC (.str " ")) (aCons (dO addD (dO addD (dO addD (dL (aLst (aCons (dC (.str "start")) aNil))) (dCal F_written (aCons (dCal F_ones (aCons (dV 0) aNil)) aNil))) (dL (aLst (aCons (dC (.str ":")) aNil)))) (dV 3)) aNil))))
noncomputable def F_start_row : List Dat → Rs := runD 4 3 g_start_row
noncomputable def g_step_row : Ev → Fl := (bCons (sSet 2 (dL (aLst (aCons (dIf (dT (dO ixD (dV 0) (dC (.int 1)))) (dC (.str "up")) (dC (.str "down"))) (aCons (dO ixD (dV 1) (dO ixD (dV 0) (dC (.int 0)))) (aCons (dC (.str ":")) aNil))))))
      (sRet (dM "str" joinD (dC (.str " ")) (aCons (dO addD (dO addD (dO addD (dV 2) (dCal F_written (aCons (dO ixD (dV 0) (dC (.int 2))) aNil))) (dL (aLst (aCons (dC (.str "->")) aNil)))) (dCal F_written (aCons (dO ixD (dV 0) (dC (.int 3))) aNil))) aNil))))
noncomputable def F_step_row : List Dat → Rs := runD 3 2 g_step_row
noncomputable def g_shown : Ev → Fl := (bCons (sSet 1 (dCal F_names (aCons (dV 0) aNil)))
      (bCons (sOwn 2 (dComp (srcL (dO ixD (dV 0) (dC (.int 0)))) [none, none] (gtup 2 (gsCons (gset 0) (gsCons (gset 1) gsNil))) tTrue (dJ (jdFmt (dV 1) (jdLit " " (jdFmt (dV 0) jdNil))))))
      (bCons (sMeth 2 extendF (aCons (dL (dComp (srcL (dO ixD (dV 0) (dC (.int 1)))) [none, some 1] (gset 0) tTrue (dCal F_step_row (aCons (dV 0) (aCons (dV 1) aNil))))) aNil))
      (bCons (sMeth 2 appendF (aCons (dCal F_start_row (aCons (dO ixD (dV 0) (dC (.int 2))) (aCons (dO ixD (dV 0) (dC (.int 3))) (aCons (dV 1) aNil)))) aNil))
      (sRet (dM "str" joinD (dC (.str "\n")) (aCons (dP 2) aNil)))))))
noncomputable def F_shown : List Dat → Rs := runD 3 1 g_shown
noncomputable def F__law_alike : Nat → List Dat → Rs
  | 0 => fun _ => .no
  | fl + 1 => runD 3 2 ((bCons (sIf (dT (dI "bool" (dV 1))) (sRet (dAnd (dI "bool" (dV 0)) (dO eqF (dV 0) (dV 1)))) bNil)
      (bCons (sIf (dT (dI "int" (dV 1))) (sRet (dAnd (dI "int" (dV 0)) (dAnd (dNot (dI "bool" (dV 0))) (dO eqF (dV 0) (dV 1))))) bNil)
      (bCons (sIf (dT (dI "str" (dV 1))) (sRet (dAnd (dI "str" (dV 0)) (dO eqF (dV 0) (dV 1)))) bNil)
      (bCons (sIf (dT (dI "tuple" (dV 1))) (sIf (tNotD (dT (dI "tuple" (dV 0)))) (sRet (dC (.bl false))) bNil) (sIf (tNotD (dT (dI "list" (dV 0)))) (sRet (dC (.bl false))) bNil))
      (bCons (sIf (dB (dO neF (dF lenD (aCons (dV 0) aNil)) (dF lenD (aCons (dV 1) aNil)))) (sRet (dC (.bl false))) bNil)
      (bCons (sFor (srcR1 (aCons (dF lenD (aCons (dV 1) aNil)) aNil)) (gset 2) (sIf (tNotD (dT (dCal (F__law_alike fl) (aCons (dO ixD (dV 0) (dV 2)) (aCons (dO ixD (dV 1) (dV 2)) aNil))))) (sRet (dC (.bl false))) bNil))
      (sRet (dC (.bl true))))))))))
noncomputable def g__law_mix : Ev → Fl := (bCons (sSet 2 (dO addD (dO mulE (dC (.int 7919)) (dV 1)) (dC (.int 12345))))
      (bCons (sIf (dB (dO gtD (dF lenD (aCons (dV 0) aNil)) (dC (.int 0)))) (bCons (sSet 2 (dO addD (dV 2) (dO fdivD (dV 1) (dF lenD (aCons (dV 0) aNil)))))
      (sSet 2 (dO addD (dV 2) (dO mulE (dO ixD (dV 0) (dO modD (dV 1) (dF lenD (aCons (dV 0) aNil)))) (dC (.int 6364136223846793005)))))) bNil)
      (sRet (dO modD (dO mulE (dV 2) (dC (.int 48271))) (dC (.int 1000000000039))))))
noncomputable def F__law_mix : List Dat → Rs := runD 3 2 g__law_mix
noncomputable def g__law_name : Ev → Fl := (bCons (sSet 1 (dC (.str "")))
      (bCons (sSet 2 (dO fdivD (dV 0) (dC (.int 8))))
      (bCons (sFor (srcR1 (aCons (dO addD (dC (.int 1)) (dO modD (dV 0) (dC (.int 8)))) aNil)) (gset 3) (bCons (sSet 1 (dO addD (dV 1) (dO ixD (dC (.str "abcdefghijklmnopqrstuvwxyz")) (dO modD (dV 2) (dC (.int 26))))))
      (sSet 2 (dO fdivD (dV 2) (dC (.int 26))))))
      (sRet (dV 1)))))
noncomputable def F__law_name : List Dat → Rs := runD 4 1 g__law_name
noncomputable def g__law_wire_names : Ev → Fl := (bCons (sOwn 3 (aLst aNil))
      (bCons (sSet 4 (dC (.str "abcdefghijklmnopqrstuvwxyz")))
      (bCons (sFor (srcR1 (aCons (dV 2) aNil)) (gset 5) (bCons (sSet 6 (dCal F__law_mix (aCons (dV 0) (aCons (dO addD (dV 1) (dV 5)) aNil))))
      (bCons (sSet 7 (dCal F__law_name (aCons (dV 6) aNil)))
      (bCons (sIf (tAndD (dB (dO gtD (dV 5) (dC (.int 0)))) (dB (dO eqF (dO modD (dO fdivD (dV 6) (dC (.int 8))) (dC (.int 2))) (dC (.int 0))))) (bCons (sSet 8 (dO modD (dO fdivD (dV 6) (dC (.int 16))) (dF lenD (aCons (dO ixD (dP 3) (dC (.int 0))) aNil))))
      (bCons (sSet 7 (dO ixD (dP 3) (dC (.int 0))))
      (sSet 7 (dO addD (dO addD (dS slD (dV 7) oNone (oSome (dV 8))) (dO ixD (dV 4) (dO modD (dO fdivD (dV 6) (dC (.int 128))) (dC (.int 26))))) (dS slD (dV 7) (oSome (dO addD (dV 8) (dC (.int 1)))) oNone))))) bNil)
      (bCons (sWhile (tOrD (dB (dO inF (dV 7) (dP 3))) (dB (dO inF (dV 7) (dL (aLst (aCons (dC (.str "given")) (aCons (dC (.str "made")) (aCons (dC (.str "up")) (aCons (dC (.str "down")) (aCons (dC (.str "start")) aNil)))))))))) (sSet 7 (dO addD (dS slD (dV 7) oNone (oSome (dU negD (dC (.int 1))))) (dO ixD (dV 4) (dO modD (dO addD (dM "str" sindexD (dV 4) (aCons (dO ixD (dV 7) (dU negD (dC (.int 1)))) aNil)) (dC (.int 1))) (dC (.int 26)))))))
      (sMeth 3 appendF (aCons (dV 7) aNil)))))))
      (sRetO 3))))
noncomputable def F__law_wire_names : List Dat → Rs := runD 9 3 g__law_wire_names
noncomputable def g__law_spots : Ev → Fl := (bCons (sSet 1 (dO ixD (dL (aLst (aCons (dO addD (dC (.int 1)) (dO modD (dO fdivD (dV 0) (dC (.int 8))) (dC (.int 4)))) (aCons (dO addD (dC (.int 1)) (dO modD (dO fdivD (dV 0) (dC (.int 8))) (dC (.int 30)))) aNil)))) (dF intD (aCons (dO eqF (dO modD (dV 0) (dC (.int 8))) (dC (.int 3))) aNil))))
      (bCons (sSet 2 (dO addD (dC (.int 1)) (dO mulE (dC (.int 2)) (dO modD (dO fdivD (dV 0) (dC (.int 16384))) (dC (.int 32))))))
      (sRet (dF tupleD (aCons (dL (dF sortedN (aCons (dL (dComp (srcR1 (aCons (dV 1) aNil)) [none, some 0, some 2] (gset 0) tTrue (dO modD (dO addD (dO fdivD (dV 1) (dC (.int 256))) (dO mulE (dV 0) (dV 2))) (dC (.int 64))))) aNil))) aNil)))))
noncomputable def F__law_spots : List Dat → Rs := runD 3 1 g__law_spots
noncomputable def g__law_graph : Ev → Fl := (bCons (sSet 2 (dCal F__law_mix (aCons (dV 0) (aCons (dV 1) aNil))))
      (bCons (sSet 3 (dO ixD (dL (aLst (aCons (dO addD (dC (.int 1)) (dO modD (dO fdivD (dV 2) (dC (.int 4))) (dC (.int 10)))) (aCons (dC (.int 10)) aNil)))) (dF intD (aCons (dO eqF (dO modD (dV 2) (dC (.int 4))) (dC (.int 1))) aNil))))
      (bCons (sSet 4 (dCal F__law_wire_names (aCons (dV 0) (aCons (dO addD (dV 1) (dC (.int 1))) (aCons (dV 3) aNil)))))
      (bCons (sSet 5 (dCal F__law_mix (aCons (dV 0) (aCons (dO addD (dV 1) (dC (.int 11))) aNil))))
      (bCons (sOwn 6 (aLst aNil))
      (bCons (sFor (srcR1 (aCons (dV 3) aNil)) (gset 7) (sMeth 6 appendF (aCons (aTup (aCons (dO ixD (dV 4) (dV 7)) (aCons (dO ixD (dL (aLst (aCons (dC (.str "given")) (aCons (dC (.str "made")) aNil)))) (dO modD (dO fdivD (dV 5) (dO addD (dC (.int 1)) (dO mulE (dC (.int 7)) (dV 7)))) (dC (.int 2)))) aNil))) aNil)))
      (bCons (sOwn 8 (aLst aNil))
      (bCons (sFor (srcR1 (aCons (dO ixD (dL (aLst (aCons (dO addD (dC (.int 1)) (dO modD (dO fdivD (dV 2) (dC (.int 64))) (dC (.int 24)))) (aCons (dC (.int 24)) aNil)))) (dF intD (aCons (dO eqF (dO modD (dO fdivD (dV 2) (dC (.int 4096))) (dC (.int 4))) (dC (.int 1))) aNil))) aNil)) (gset 7) (bCons (sSet 9 (dCal F__law_mix (aCons (dV 0) (aCons (dO addD (dO addD (dV 1) (dC (.int 15))) (dO mulE (dC (.int 2)) (dV 7))) aNil))))
      (bCons (sSet 10 (dCal F__law_spots (aCons (dO fdivD (dV 9) (dC (.int 64))) aNil)))
      (bCons (sSet 11 (dCal F__law_spots (aCons (dCal F__law_mix (aCons (dV 0) (aCons (dO addD (dO addD (dV 1) (dC (.int 16))) (dO mulE (dC (.int 2)) (dV 7))) aNil))) aNil)))
      (sMeth 8 appendF (aCons (aTup (aCons (dO modD (dV 9) (dV 3)) (aCons (dO eqF (dO modD (dO fdivD (dV 9) (dC (.int 16))) (dC (.int 2))) (dC (.int 1))) (aCons (dV 11) (aCons (dV 10) aNil))))) aNil))))))
      (bCons (sSet 12 (dO modD (dCal F__law_mix (aCons (dV 0) (aCons (dO addD (dV 1) (dC (.int 12))) aNil))) (dO powD (dC (.int 2)) (dC (.int 32)))))
      (bCons (sSet 13 (dO addD (dO mulE (dO modD (dCal F__law_mix (aCons (dV 0) (aCons (dO addD (dV 1) (dC (.int 13))) aNil))) (dO powD (dC (.int 2)) (dC (.int 32)))) (dO powD (dC (.int 2)) (dC (.int 32)))) (dV 12)))
      (sRet (aTup (aCons (dF tupleD (aCons (dP 6) aNil)) (aCons (dF tupleD (aCons (dP 8) aNil)) (aCons (dV 13) (aCons (dO modD (dO modD (dCal F__law_mix (aCons (dV 0) (aCons (dO addD (dV 1) (dC (.int 14))) aNil))) (dO powD (dC (.int 2)) (dC (.int 10)))) (dO shlD (dC (.int 1)) (dV 3))) aNil))))))))))))))))
noncomputable def F__law_graph : List Dat → Rs := runD 14 2 g__law_graph
noncomputable def g__law_places : Ev → Fl := (bCons (sOwn 1 (aLst aNil))
      (bCons (sSet 2 (dC (.int 0)))
      (bCons (sWhile (dB (dO gtD (dV 0) (dC (.int 0)))) (bCons (sIf (dB (dO eqF (dO modD (dV 0) (dC (.int 2))) (dC (.int 1)))) (sMeth 1 appendF (aCons (dV 2) aNil)) bNil)
      (bCons (sSet 0 (dO fdivD (dV 0) (dC (.int 2))))
      (sSet 2 (dO addD (dV 2) (dC (.int 1)))))))
      (sRetO 1))))
noncomputable def F__law_places : List Dat → Rs := runD 3 1 g__law_places
noncomputable def g__law_step_words : Ev → Fl := (bCons (sAsg (dV 1) (gtup 4 (gsCons (gset 2) (gsCons (gset 3) (gsCons (gset 4) (gsCons (gset 5) gsNil))))))
      (bCons (sSet 6 (dL (aLst (aCons (dO ixD (dL (aLst (aCons (dC (.str "down")) (aCons (dC (.str "up")) aNil)))) (dF intD (aCons (dV 3) aNil))) (aCons (dO ixD (dO ixD (dV 0) (dV 2)) (dC (.int 0))) (aCons (dC (.str ":")) aNil))))))
      (sRet (dO addD (dO addD (dO addD (dV 6) (dL (dComp (srcL (dV 4)) [none] (gset 0) tTrue (dF strD (aCons (dV 0) aNil))))) (dL (aLst (aCons (dC (.str "->")) aNil)))) (dL (dComp (srcL (dV 5)) [none] (gset 0) tTrue (dF strD (aCons (dV 0) aNil))))))))
noncomputable def F__law_step_words : List Dat → Rs := runD 7 2 g__law_step_words
noncomputable def g__law_rows : Ev → Fl := (bCons (sAsg (dV 0) (gtup 4 (gsCons (gset 1) (gsCons (gset 2) (gsCons (gset 3) (gsCons (gset 4) gsNil))))))
      (bCons (sOwn 5 (dComp (srcL (dV 1)) [none, none] (gtup 2 (gsCons (gset 0) (gsCons (gset 1) gsNil))) tTrue (dO addD (dO addD (dV 1) (dC (.str " "))) (dV 0))))
      (bCons (sFor (srcL (dV 2)) (gset 6) (sMeth 5 appendF (aCons (dM "str" joinD (dC (.str " ")) (aCons (dCal F__law_step_words (aCons (dV 1) (aCons (dV 6) aNil))) aNil)) aNil)))
      (bCons (sSet 7 (dO addD (dO addD (dL (aLst (aCons (dC (.str "start")) aNil))) (dL (dComp (srcL (dCal F__law_places (aCons (dV 3) aNil))) [none] (gset 0) tTrue (dF strD (aCons (dV 0) aNil))))) (dL (aLst (aCons (dC (.str ":")) aNil)))))
      (bCons (sMeth 5 appendF (aCons (dM "str" joinD (dC (.str " ")) (aCons (dO addD (dV 7) (dL (dComp (srcL (dCal F__law_places (aCons (dV 4) aNil))) [none, some 1] (gset 0) tTrue (dO ixD (dO ixD (dV 1) (dV 0)) (dC (.int 0)))))) aNil)) aNil))
      (sRetO 5))))))
noncomputable def F__law_rows : List Dat → Rs := runD 8 1 g__law_rows
noncomputable def g_law : Ev → Fl := (bCons (sSet 1 (dCal F__law_graph (aCons (dV 0) (aCons (dC (.int 0)) aNil))))
      (bCons (sSet 2 (dM "str" joinD (dC (.str "\n")) (aCons (dCal F__law_rows (aCons (dV 1) aNil)) aNil)))
      (bCons (sIf (tNotD (dT (dCal (F__law_alike 2) (aCons (dCal F_shown (aCons (dV 1) aNil)) (aCons (dV 2) aNil))))) (sRet (dC (.bl false))) bNil)
      (bCons (sSet 3 (dCal F__law_graph (aCons (dV 0) (aCons (dC (.int 80)) aNil))))
      (bCons (sIf (tNotD (dT (dCal (F__law_alike 2) (aCons (dCal F_shown (aCons (dV 3) aNil)) (aCons (dM "str" joinD (dC (.str "\n")) (aCons (dCal F__law_rows (aCons (dV 3) aNil)) aNil)) aNil))))) (sRet (dC (.bl false))) bNil)
      (sRet (dCal (F__law_alike 2) (aCons (dCal F_shown (aCons (dV 1) aNil)) (aCons (dV 2) aNil)))))))))
noncomputable def F_law : List Dat → Rs := runD 4 1 g_law
end K13
set_option Elab.async false
set_option linter.all false
set_option maxRecDepth 100000
set_option maxHeartbeats 4000000
namespace K12
open PySem PySem.Spec PyProof.Rows L2
def c_LETTERS : Dat := .str "abcdefghijklmnopqrstuvwxyz"
def c_LONGEST_NAME : Dat := .int 8
def c_WORDS : Dat := .tup [.str "given", .str "made", .str "up", .str "down", .str "start"]
noncomputable def g_is_name : Ev → Fl := (bCons (sIf (tOrD (dB (dO ltD (dF lenD (aCons (dV 0) aNil)) (dC (.int 1)))) (tOrD (dB (dO gtD (dF lenD (aCons (dV 0) aNil)) (dC c_LONGEST_NAME))) (dB (dO inF (dV 0) (dC c_WORDS))))) (sRet (dC (.bl false))) bNil)
      (sRet (dF allD (aCons (dL (dComp (srcC (dV 0)) [none] (gset 0) tTrue (dO inF (dV 0) (dC c_LETTERS)))) aNil))))
noncomputable def F_is_name : List Dat → Rs := runD 1 1 g_is_name
noncomputable def g_names : Ev → Fl := (sRet (dL (dComp (srcL (dO ixD (dV 0) (dC (.int 0)))) [none, none] (gtup 2 (gsCons (gset 0) (gsCons (gset 1) gsNil))) tTrue (dV 0))))
noncomputable def F_names : List Dat → Rs := runD 1 1 g_names
noncomputable def g_is_made : Ev → Fl := (sRet (dO eqF (dO ixD (dO ixD (dO ixD (dV 0) (dC (.int 0))) (dV 1)) (dC (.int 1))) (dC (.str "made"))))
noncomputable def F_is_made : List Dat → Rs := runD 2 2 g_is_made
noncomputable def g_made : Ev → Fl := (sRet (dL (dComp (srcR1 (aCons (dF lenD (aCons (dO ixD (dV 0) (dC (.int 0))) aNil)) aNil)) [none, some 0] (gset 0) (dT (dCal F_is_made (aCons (dV 1) (aCons (dV 0) aNil)))) (dV 0))))
noncomputable def F_made : List Dat → Rs := runD 1 1 g_made
noncomputable def g_steps_of : Ev → Fl := (sRet (dL (dComp (srcE (dO ixD (dV 0) (dC (.int 1)))) [none, none, some 1, some 2] (gtup 2 (gsCons (gset 0) (gsCons (gset 1) gsNil))) (tAndD (dB (dO eqF (dO ixD (dV 1) (dC (.int 0))) (dV 2))) (dB (dO eqF (dO ixD (dV 1) (dC (.int 1))) (dV 3)))) (dV 0))))
noncomputable def F_steps_of : List Dat → Rs := runD 3 3 g_steps_of
noncomputable def F__law_alike : Nat → List Dat → Rs
  | 0 => fun _ => .no
  | fl + 1 => runD 3 2 ((bCons (sIf (dT (dI "bool" (dV 1))) (sRet (dAnd (dI "bool" (dV 0)) (dO eqF (dV 0) (dV 1)))) bNil)
      (bCons (sIf (dT (dI "int" (dV 1))) (sRet (dAnd (dI "int" (dV 0)) (dAnd (dNot (dI "bool" (dV 0))) (dO eqF (dV 0) (dV 1))))) bNil)
      (bCons (sIf (dT (dI "str" (dV 1))) (sRet (dAnd (dI "str" (dV 0)) (dO eqF (dV 0) (dV 1)))) bNil)
      (bCons (sIf (dT (dI "tuple" (dV 1))) (sIf (tNotD (dT (dI "tuple" (dV 0)))) (sRet (dC (.bl false))) bNil) (sIf (tNotD (dT (dI "list" (dV 0)))) (sRet (dC (.bl false))) bNil))
      (bCons (sIf (dB (dO neF (dF lenD (aCons (dV 0) aNil)) (dF lenD (aCons (dV 1) aNil)))) (sRet (dC (.bl false))) bNil)
      (bCons (sFor (srcR1 (aCons (dF lenD (aCons (dV 1) aNil)) aNil)) (gset 2) (sIf (tNotD (dT (dCal (F__law_alike fl) (aCons (dO ixD (dV 0) (dV 2)) (aCons (dO ixD (dV 1) (dV 2)) aNil))))) (sRet (dC (.bl false))) bNil))
      (sRet (dC (.bl true))))))))))
noncomputable def g__law_mix : Ev → Fl := (bCons (sSet 2 (dO addD (dO mulE (dC (.int 7919)) (dV 1)) (dC (.int 12345))))
      (bCons (sIf (dB (dO gtD (dF lenD (aCons (dV 0) aNil)) (dC (.int 0)))) (bCons (sSet 2 (dO addD (dV 2) (dO fdivD (dV 1) (dF lenD (aCons (dV 0) aNil)))))
      (sSet 2 (dO addD (dV 2) (dO mulE (dO ixD (dV 0) (dO modD (dV 1) (dF lenD (aCons (dV 0) aNil)))) (dC (.int 6364136223846793005)))))) bNil)
      (sRet (dO modD (dO mulE (dV 2) (dC (.int 48271))) (dC (.int 1000000000039))))))
noncomputable def F__law_mix : List Dat → Rs := runD 3 2 g__law_mix
noncomputable def g__law_name : Ev → Fl := (bCons (sSet 1 (dC (.str "")))
      (bCons (sSet 2 (dO fdivD (dV 0) (dC (.int 8))))
      (bCons (sFor (srcR1 (aCons (dO addD (dC (.int 1)) (dO modD (dV 0) (dC (.int 8)))) aNil)) (gset 3) (bCons (sSet 1 (dO addD (dV 1) (dO ixD (dC (.str "abcdefghijklmnopqrstuvwxyz")) (dO modD (dV 2) (dC (.int 26))))))
      (sSet 2 (dO fdivD (dV 2) (dC (.int 26))))))
      (sRet (dV 1)))))
noncomputable def F__law_name : List Dat → Rs := runD 4 1 g__law_name
noncomputable def g__law_wire_names : Ev → Fl := (bCons (sOwn 3 (aLst aNil))
      (bCons (sSet 4 (dC (.str "abcdefghijklmnopqrstuvwxyz")))
      (bCons (sFor (srcR1 (aCons (dV 2) aNil)) (gset 5) (bCons (sSet 6 (dCal F__law_mix (aCons (dV 0) (aCons (dO addD (dV 1) (dV 5)) aNil))))
      (bCons (sSet 7 (dCal F__law_name (aCons (dV 6) aNil)))
      (bCons (sIf (tAndD (dB (dO gtD (dV 5) (dC (.int 0)))) (dB (dO eqF (dO modD (dO fdivD (dV 6) (dC (.int 8))) (dC (.int 2))) (dC (.int 0))))) (bCons (sSet 8 (dO modD (dO fdivD (dV 6) (dC (.int 16))) (dF lenD (aCons (dO ixD (dP 3) (dC (.int 0))) aNil))))
      (bCons (sSet 7 (dO ixD (dP 3) (dC (.int 0))))
      (sSet 7 (dO addD (dO addD (dS slD (dV 7) oNone (oSome (dV 8))) (dO ixD (dV 4) (dO modD (dO fdivD (dV 6) (dC (.int 128))) (dC (.int 26))))) (dS slD (dV 7) (oSome (dO addD (dV 8) (dC (.int 1)))) oNone))))) bNil)
      (bCons (sWhile (tOrD (dB (dO inF (dV 7) (dP 3))) (dB (dO inF (dV 7) (dL (aLst (aCons (dC (.str "given")) (aCons (dC (.str "made")) (aCons (dC (.str "up")) (aCons (dC (.str "down")) (aCons (dC (.str "start")) aNil)))))))))) (sSet 7 (dO addD (dS slD (dV 7) oNone (oSome (dU negD (dC (.int 1))))) (dO ixD (dV 4) (dO modD (dO addD (dM "str" sindexD (dV 4) (aCons (dO ixD (dV 7) (dU negD (dC (.int 1)))) aNil)) (dC (.int 1))) (dC (.int 26)))))))
      (sMeth 3 appendF (aCons (dV 7) aNil)))))))
      (sRetO 3))))
noncomputable def F__law_wire_names : List Dat → Rs := runD 9 3 g__law_wire_names
noncomputable def g__law_spots : Ev → Fl := (bCons (sSet 1 (dO ixD (dL (aLst (aCons (dO addD (dC (.int 1)) (dO modD (dO fdivD (dV 0) (dC (.int 8))) (dC (.int 4)))) (aCons (dO addD (dC (.int 1)) (dO modD (dO fdivD (dV 0) (dC (.int 8))) (dC (.int 30)))) aNil)))) (dF intD (aCons (dO eqF (dO modD (dV 0) (dC (.int 8))) (dC (.int 3))) aNil))))
      (bCons (sSet 2 (dO addD (dC (.int 1)) (dO mulE (dC (.int 2)) (dO modD (dO fdivD (dV 0) (dC (.int 16384))) (dC (.int 32))))))
      (sRet (dF tupleD (aCons (dL (dF sortedN (aCons (dL (dComp (srcR1 (aCons (dV 1) aNil)) [none, some 0, some 2] (gset 0) tTrue (dO modD (dO addD (dO fdivD (dV 1) (dC (.int 256))) (dO mulE (dV 0) (dV 2))) (dC (.int 64))))) aNil))) aNil)))))
noncomputable def F__law_spots : List Dat → Rs := runD 3 1 g__law_spots
noncomputable def g__law_graph : Ev → Fl := (bCons (sSet 2 (dCal F__law_mix (aCons (dV 0) (aCons (dV 1) aNil))))
      (bCons (sSet 3 (dO ixD (dL (aLst (aCons (dO addD (dC (.int 1)) (dO modD (dO fdivD (dV 2) (dC (.int 4))) (dC (.int 10)))) (aCons (dC (.int 10)) aNil)))) (dF intD (aCons (dO eqF (dO modD (dV 2) (dC (.int 4))) (dC (.int 1))) aNil))))
      (bCons (sSet 4 (dCal F__law_wire_names (aCons (dV 0) (aCons (dO addD (dV 1) (dC (.int 1))) (aCons (dV 3) aNil)))))
      (bCons (sSet 5 (dCal F__law_mix (aCons (dV 0) (aCons (dO addD (dV 1) (dC (.int 11))) aNil))))
      (bCons (sOwn 6 (aLst aNil))
      (bCons (sFor (srcR1 (aCons (dV 3) aNil)) (gset 7) (sMeth 6 appendF (aCons (aTup (aCons (dO ixD (dV 4) (dV 7)) (aCons (dO ixD (dL (aLst (aCons (dC (.str "given")) (aCons (dC (.str "made")) aNil)))) (dO modD (dO fdivD (dV 5) (dO addD (dC (.int 1)) (dO mulE (dC (.int 7)) (dV 7)))) (dC (.int 2)))) aNil))) aNil)))
      (bCons (sOwn 8 (aLst aNil))
      (bCons (sFor (srcR1 (aCons (dO ixD (dL (aLst (aCons (dO addD (dC (.int 1)) (dO modD (dO fdivD (dV 2) (dC (.int 64))) (dC (.int 24)))) (aCons (dC (.int 24)) aNil)))) (dF intD (aCons (dO eqF (dO modD (dO fdivD (dV 2) (dC (.int 4096))) (dC (.int 4))) (dC (.int 1))) aNil))) aNil)) (gset 7) (bCons (sSet 9 (dCal F__law_mix (aCons (dV 0) (aCons (dO addD (dO addD (dV 1) (dC (.int 15))) (dO mulE (dC (.int 2)) (dV 7))) aNil))))
      (bCons (sSet 10 (dCal F__law_spots (aCons (dO fdivD (dV 9) (dC (.int 64))) aNil)))
      (bCons (sSet 11 (dCal F__law_spots (aCons (dCal F__law_mix (aCons (dV 0) (aCons (dO addD (dO addD (dV 1) (dC (.int 16))) (dO mulE (dC (.int 2)) (dV 7))) aNil))) aNil)))
      (sMeth 8 appendF (aCons (aTup (aCons (dO modD (dV 9) (dV 3)) (aCons (dO eqF (dO modD (dO fdivD (dV 9) (dC (.int 16))) (dC (.int 2))) (dC (.int 1))) (aCons (dV 11) (aCons (dV 10) aNil))))) aNil))))))
      (bCons (sSet 12 (dO modD (dCal F__law_mix (aCons (dV 0) (aCons (dO addD (dV 1) (dC (.int 12))) aNil))) (dO powD (dC (.int 2)) (dC (.int 32)))))
      (bCons (sSet 13 (dO addD (dO mulE (dO modD (dCal F__law_mix (aCons (dV 0) (aCons (dO addD (dV 1) (dC (.int 13))) aNil))) (dO powD (dC (.int 2)) (dC (.int 32)))) (dO powD (dC (.int 2)) (dC (.int 32)))) (dV 12)))
      (sRet (aTup (aCons (dF tupleD (aCons (dP 6) aNil)) (aCons (dF tupleD (aCons (dP 8) aNil)) (aCons (dV 13) (aCons (dO modD (dO modD (dCal F__law_mix (aCons (dV 0) (aCons (dO addD (dV 1) (dC (.int 14))) aNil))) (dO powD (dC (.int 2)) (dC (.int 10)))) (dO shlD (dC (.int 1)) (dV 3))) aNil))))))))))))))))
noncomputable def F__law_graph : List Dat → Rs := runD 14 2 g__law_graph
noncomputable def g__law_is_name : Ev → Fl := (bCons (sIf (tOrD (dB (dO eqF (dV 0) (dC (.str "")))) (tOrD (dB (dO gtD (dF lenD (aCons (dV 0) aNil)) (dC (.int 8)))) (dB (dO inF (dV 0) (dL (aLst (aCons (dC (.str "given")) (aCons (dC (.str "made")) (aCons (dC (.str "up")) (aCons (dC (.str "down")) (aCons (dC (.str "start")) aNil))))))))))) (sRet (dC (.bl false))) bNil)
      (bCons (sFor (srcC (dV 0)) (gset 1) (sIf (dB (dO ninF (dV 1) (dC (.str "abcdefghijklmnopqrstuvwxyz")))) (sRet (dC (.bl false))) bNil))
      (sRet (dC (.bl true)))))
noncomputable def F__law_is_name : List Dat → Rs := runD 2 1 g__law_is_name
noncomputable def g__law_texts : Ev → Fl := (bCons (sSet 2 (dCal F__law_mix (aCons (dV 0) (aCons (dC (.int 70)) aNil))))
      (bCons (sSet 3 (dC (.str " !\"#$&'()*+,-./0123456789:;<=>?@ABCDEFGHIJKLMNOPQRSTUVWXYZ[\\]^_`{|}~")))
      (bCons (sSet 3 (dO addD (dV 3) (dC (.str "abcdefghijklmnopqrstuvwxyz"))))
      (bCons (sSet 4 (dO modD (dV 2) (dF lenD (aCons (dV 1) aNil))))
      (bCons (sSet 5 (dO ixD (dV 3) (dO modD (dO fdivD (dV 2) (dC (.int 16))) (dF lenD (aCons (dV 3) aNil)))))
      (bCons (sSet 6 (dO addD (dO addD (dS slD (dV 1) oNone (oSome (dV 4))) (dV 5)) (dS slD (dV 1) (oSome (dO addD (dV 4) (dO modD (dO fdivD (dV 2) (dC (.int 4096))) (dC (.int 2))))) oNone)))
      (bCons (sSet 7 (dS slD (dO mulE (dV 1) (dC (.int 11))) oNone (oSome (dO addD (dC (.int 7)) (dO modD (dO fdivD (dV 2) (dC (.int 8192))) (dC (.int 5)))))))
      (sRet (dL (aLst (aCons (dV 1) (aCons (dV 6) (aCons (dV 7) (aCons (dC (.str "given")) (aCons (dC (.str "made")) (aCons (dC (.str "up")) (aCons (dC (.str "down")) (aCons (dC (.str "start")) (aCons (dC (.str "")) (aCons (dS slD (dV 1) (oSome (dC (.int 1))) oNone) (aCons (dO addD (dV 1) (dC (.str "s"))) aNil)))))))))))))))))))))
noncomputable def F__law_texts : List Dat → Rs := runD 8 2 g__law_texts
noncomputable def g__law_steps_right : Ev → Fl := (bCons (sAsg (dV 0) (gtup 4 (gsCons (gset 2) (gsCons (gset 3) (gsCons (gset 4) (gsCons (gset 5) gsNil))))))
      (bCons (sFor (srcL (dV 1)) (gset 6) (sFor (srcL (aTup (aCons (dC (.bl true)) (aCons (dC (.bl false)) aNil)))) (gset 7) (bCons (sSet 8 (dL (dComp (srcR1 (aCons (dF lenD (aCons (dV 3) aNil)) aNil)) [none, some 6, some 7, some 3] (gset 0) (tAndD (dB (dO eqF (dO ixD (dO ixD (dV 3) (dV 0)) (dC (.int 0))) (dV 1))) (dB (dO eqF (dO ixD (dO ixD (dV 3) (dV 0)) (dC (.int 1))) (dV 2)))) (dV 0))))
      (bCons (sOwn 9 (dCalN F_steps_of (aCons (dV 0) (aCons (dV 6) (aCons (dV 7) aNil)))))
      (bCons (sIf (tNotD (dT (dCalP (F__law_alike 3) (aCons (dP 9) (aCons (dV 8) aNil))))) (sRet (dC (.bl false))) bNil)
      (bCons (sMeth 9 appendF (aCons (dC (.int 0)) aNil))
      (sIf (tNotD (dT (dCal (F__law_alike 3) (aCons (dCal F_steps_of (aCons (dV 0) (aCons (dV 6) (aCons (dV 7) aNil)))) (aCons (dV 8) aNil))))) (sRet (dC (.bl false))) bNil)))))))
      (sRet (dC (.bl true)))))
noncomputable def F__law_steps_right : List Dat → Rs := runD 10 2 g__law_steps_right
noncomputable def g_law : Ev → Fl := (bCons (sSet 1 (dCal F__law_graph (aCons (dV 0) (aCons (dC (.int 0)) aNil))))
      (bCons (sAsg (dV 1) (gtup 4 (gsCons (gset 2) (gsCons (gset 3) (gsCons (gset 4) (gsCons (gset 5) gsNil))))))
      (bCons (sSet 6 (dL (dComp (srcL (dV 2)) [none] (gset 0) tTrue (dO ixD (dV 0) (dC (.int 0))))))
      (bCons (sSet 7 (dL (dComp (srcR1 (aCons (dF lenD (aCons (dV 2) aNil)) aNil)) [none, some 2] (gset 0) (dB (dO eqF (dO ixD (dO ixD (dV 1) (dV 0)) (dC (.int 1))) (dC (.str "made")))) (dV 0))))
      (bCons (sOwn 8 (dCalN F_names (aCons (dV 1) aNil)))
      (bCons (sOwn 9 (dCalN F_made (aCons (dV 1) aNil)))
      (bCons (sIf (tOrD (tNotD (dT (dCalP (F__law_alike 3) (aCons (dP 8) (aCons (dV 6) aNil))))) (tNotD (dT (dCalP (F__law_alike 3) (aCons (dP 9) (aCons (dV 7) aNil)))))) (sRet (dC (.bl false))) bNil)
      (bCons (sMeth0 8 clearF)
      (bCons (sMeth 9 appendF (aCons (dC (.int 0)) aNil))
      (bCons (sIf (tOrD (tNotD (dT (dCal (F__law_alike 3) (aCons (dCal F_names (aCons (dV 1) aNil)) (aCons (dV 6) aNil))))) (tNotD (dT (dCal (F__law_alike 3) (aCons (dCal F_made (aCons (dV 1) aNil)) (aCons (dV 7) aNil)))))) (sRet (dC (.bl false))) bNil)
      (bCons (sFor (srcL (dCal F__law_texts (aCons (dV 0) (aCons (dO ixD (dV 6) (dU negD (dC (.int 1)))) aNil)))) (gset 10) (sIf (tNotD (dT (dCal (F__law_alike 3) (aCons (dCal F_is_name (aCons (dV 10) aNil)) (aCons (dCal F__law_is_name (aCons (dV 10) aNil)) aNil))))) (sRet (dC (.bl false))) bNil))
      (sRet (dCal F__law_steps_right (aCons (dV 1) (aCons (dL (dLRR (aCons (dF lenD (aCons (dV 2) aNil)) aNil))) aNil)))))))))))))))
noncomputable def F_law : List Dat → Rs := runD 11 1 g_law
end K12
set_option Elab.async false
set_option linter.all false
set_option maxRecDepth 100000
namespace L2
open PySem PySem.Spec PyProof.Rows
def Gd (r : Fl) (N : Ev → Prop) (R : Dat → Prop) : Prop := match r with
  | .next e => N e
  | .ret d => R d
  | _ => False
structure Go (r : Fl) (N : Ev → Prop) (R : Dat → Prop) : Prop where
  of : Gd r N R
section
variable {N : Ev → Prop} {R : Dat → Prop} {g h : Ev → Fl} {f : Ev → Option Dat} {fs : Ev → Option (List Dat)} {t : Ev → Option Bool} {env : Ev} {d : Dat} {ds : List Dat} {i : Nat}
theorem Go.next {e : Ev} (q : N e) : Go (.next e) N R := ⟨q⟩
theorem Go.ret {d : Dat} (q : R d) : Go (.ret d) N R := ⟨q⟩
theorem Go.mono {N' : Ev → Prop} {R' : Dat → Prop} {r : Fl} (q : Go r N R) (hN : ∀ e, N e → N' e) (hR : ∀ d, R d → R' d) : Go r N' R' := by
  cases r with
  | next e => exact ⟨hN e q.of⟩
  | ret d => exact ⟨hR d q.of⟩
  | _ => exact q.of.elim
theorem go_nil (q : N env) : Go (bNil env) N R := ⟨q⟩
theorem go_cons (q : Go (g env) (fun e => Go (h e) N R) R) : Go (bCons g h env) N R := by
  unfold bCons
  cases e : g env with
  | next e' => rw [e] at q; exact q.of
  | ret d => rw [e] at q; exact ⟨q.of⟩
  | _ => rw [e] at q; exact q.of.elim
theorem go_set (e : f env = some d) (q : N (env.set i (.fz d))) : Go (sSet i f env) N R := by unfold sSet; rw [e]; exact ⟨q⟩
theorem go_own (e : fs env = some ds) (q : N (env.set i (.ow ds))) : Go (sOwn i fs env) N R := by unfold sOwn; rw [e]; exact ⟨q⟩
theorem go_ret (e : f env = some d) (q : R d) : Go (sRet f env) N R := by unfold sRet; rw [e]; exact ⟨q⟩
theorem go_retO (e : env[i]? = some (.ow ds)) (q : R (.lst ds)) : Go (sRetO i env) N R := by unfold sRetO; rw [e]; exact ⟨q⟩
theorem go_ifT (e : t env = some true) (q : Go (g env) N R) : Go (sIf t g h env) N R := by unfold sIf; rw [e]; exact q
theorem go_ifF (e : t env = some false) (q : Go (h env) N R) : Go (sIf t g h env) N R := by unfold sIf; rw [e]; exact q
theorem go_if {b : Bool} (e : t env = some b) (q1 : b = true → Go (g env) N R) (q2 : b = false → Go (h env) N R) : Go (sIf t g h env) N R := by
  cases b with
  | true => exact go_ifT e (q1 rfl)
  | false => exact go_ifF e (q2 rfl)
theorem go_asg {gg : Dat → Ev → Option Ev} {env' : Ev} (e : f env = some d) (e2 : gg d env = some env') (q : N env') : Go (sAsg f gg env) N R := by
  unfold sAsg; rw [e]; dsimp only [Option.bind]; rw [e2]; exact ⟨q⟩
theorem go_meth {F : List Dat → List Dat → Option (List Dat)} {ds' as : List Dat} (e : env[i]? = some (.ow ds)) (e2 : fs env = some as) (e3 : F ds as = some ds') (q : N (env.set i (.ow ds'))) : Go (sMeth i F fs env) N R := by
  unfold sMeth; rw [e]; dsimp only; rw [e2]; dsimp only [Option.bind]; rw [e3]; exact ⟨q⟩
theorem go_meth0 {F : List Dat → List Dat → Option (List Dat)} {ds' : List Dat} (e : env[i]? = some (.ow ds)) (e3 : F ds [] = some ds') (q : N (env.set i (.ow ds'))) : Go (sMeth0 i F env) N R := by
  unfold sMeth0; rw [e]; dsimp only; rw [e3]; exact ⟨q⟩
theorem go_forL {gg : Dat → Ev → Option Ev} (P : Nat → Ev → Prop) : ∀ (ds : List Dat) (k : Nat) (env : Ev), P k env → (∀ i d e, ds[i]? = some d → P (k + i) e → ∃ e1, gg d e = some e1 ∧ Go (g e1) (P (k + i + 1)) R) → (∀ e, P (k + ds.length) e → N e) → Go (forL gg g ds env) N R
  | [], k, env, h0, _, hN => ⟨hN env h0⟩
  | d :: ds, k, env, h0, hs, hN => by
    obtain ⟨e1, a1, a2⟩ := hs 0 d env rfl h0
    rw [forL, a1]
    dsimp only
    cases e : g e1 with
    | next e' =>
      rw [e] at a2
      exact go_forL P ds (k + 1) e' a2.of (fun i d e hi hp => by
        have := hs (i + 1) d e (by simpa using hi) (by rw [show k + (i + 1) = k + 1 + i by omega]; exact hp)
        rw [show k + 1 + i + 1 = k + (i + 1) + 1 by omega]; exact this) (fun e hp => hN e (by rw [List.length_cons, show k + (ds.length + 1) = k + 1 + ds.length by omega]; exact hp))
    | ret d' => rw [e] at a2; exact ⟨a2.of⟩
    | _ => rw [e] at a2; exact a2.of.elim
theorem go_for {src : Ev → Option (List Dat)} {gg : Dat → Ev → Option Ev} (P : Nat → Ev → Prop) (e : src env = some ds) (h0 : P 0 env) (hs : ∀ i d e, ds[i]? = some d → P i e → ∃ e1, gg d e = some e1 ∧ Go (g e1) (P (i + 1)) R) (hN : ∀ e, P ds.length e → N e) : Go (sFor src gg g env) N R := by
  unfold sFor
  rw [e]
  exact go_forL P ds 0 env h0 (fun i d e hi hp => by simpa using hs i d e hi (by simpa using hp)) (fun e hp => hN e (by simpa using hp))
theorem Go.ne {r : Fl} (q : Go r N R) : r ≠ .no := fun z => by rw [z] at q; exact q.of
theorem go_while (W : Nat → Ev → Prop) {n : Nat} (h0 : W n env) (hs : ∀ n e, W n e → (t e = some false ∧ N e) ∨ (t e = some true ∧ Go (g e) (fun e' => ∃ m, m < n ∧ W m e') R)) : Go (sWhile t g env) N R := by
  have key : ∀ n e, W n e → Go (whileN t g (n + 1) e) N R := by
    intro n
    induction n using Nat.strongRecOn with
    | _ n ih =>
      intro e hw
      rcases hs n e hw with ⟨a, b⟩ | ⟨a, b⟩
      · rw [whileN, a]; exact ⟨b⟩
      · rw [whileN, a]
        dsimp only
        cases eg : g e with
        | next e' =>
          rw [eg] at b
          obtain ⟨m, hm, hw'⟩ := b.of
          have q := ih m hm e' hw'
          dsimp only
          have := whileN_mono (n - (m + 1)) q.ne
          rw [show m + 1 + (n - (m + 1)) = n by omega] at this
          rw [this]; exact q
        | ret d => rw [eg] at b; exact ⟨b.of⟩
        | _ => rw [eg] at b; exact b.of.elim
  have q := key n env h0
  rw [sWhile_eq q.ne]; exact q
theorem run_of {n p : Nat} (hp : ds.length = p) (q : Go (g (startD n ds)) (fun _ => R .non) R) : ∃ d, runD n p g ds = .ok d ∧ R d := by
  unfold runD
  rw [if_pos hp]
  cases e : g (startD n ds) with
  | next e' => rw [e] at q; exact ⟨_, rfl, q.of⟩
  | ret d => rw [e] at q; exact ⟨_, rfl, q.of⟩
  | _ => rw [e] at q; exact q.of.elim
end
theorem compL_map {g : Dat → Ev → Option Ev} {t : Ev → Option Bool} {f : Ev → Option Dat} {env : Ev} (p : Dat → Bool) (y : Dat → Dat) : ∀ (xs : List Dat), (∀ x ∈ xs, ∃ e1, g x env = some e1 ∧ t e1 = some (p x) ∧ (p x = true → f e1 = some (y x))) → compL g t f env xs = some ((xs.filter p).map y)
  | [], _ => rfl
  | x :: xs, h => by
    obtain ⟨e1, a1, a2, a3⟩ := h x List.mem_cons_self
    have ih := compL_map p y xs fun z hz => h z (List.mem_cons_of_mem _ hz)
    rw [compL, a1]
    dsimp only [Option.bind]
    rw [a2]
    dsimp only
    cases hp : p x with
    | true => rw [if_pos rfl, a3 hp]; dsimp only; rw [ih, List.filter_cons, hp, if_pos rfl]; rfl
    | false => rw [if_neg (by decide), ih, List.filter_cons, hp, if_neg (by decide)]
theorem rng_get {lo : Int} {n i : Nat} {d : Dat} (h : (rng lo n)[i]? = some d) : i < n ∧ d = .int (lo + i) := by
  unfold rng at h
  rw [List.getElem?_map] at h
  by_cases hi : i < n
  · rw [List.getElem?_range hi] at h
    exact ⟨hi, (Option.some.inj h).symm⟩
  · rw [List.getElem?_eq_none (by simpa using hi)] at h
    cases h
theorem srcR1_eq {fs : Ev → Option (List Dat)} {env : Ev} {n : Nat} (h : fs env = some [.int n]) (hn : n ≤ 100000) : srcR1 fs env = some (rng 0 n) := by
  unfold srcR1
  rw [h]
  dsimp only
  rw [if_pos ⟨by omega, by omega, by rw [sizeLine_eq]; simp; omega⟩, Int.toNat_natCast]
theorem mulI_ok {i j : Int} (h : CMul i j) : mulE (.int i) (.int j) = some (.int (i * j)) := if_pos h
theorem modD_ok {i j : Int} (h : 0 < j) : modD (.int i) (.int j) = some (.int (i % j)) := if_pos h
theorem fdivD_ok {i j : Int} (h : CDiv i j) : fdivD (.int i) (.int j) = some (.int (i / j)) := if_pos h
theorem dO_ok {α : Type} {F : Dat → Dat → Option α} {f g : Ev → Option Dat} {env : Ev} {x y : Dat} {z : α} (h1 : f env = some x) (h2 : g env = some y) (h3 : F x y = some z) : dO F f g env = some z := by unfold dO; rw [h1, h2]; exact h3
theorem dF_ok {α : Type} {F : List Dat → Option α} {fs : Ev → Option (List Dat)} {env : Ev} {xs : List Dat} {z : α} (h1 : fs env = some xs) (h3 : F xs = some z) : dF F fs env = some z := by unfold dF; rw [h1]; exact h3
theorem aCons_ok {f : Ev → Option Dat} {fs : Ev → Option (List Dat)} {env : Ev} {x : Dat} {xs : List Dat} (h1 : f env = some x) (h2 : fs env = some xs) : aCons f fs env = some (x :: xs) := by unfold aCons; rw [h1, h2]; rfl
theorem dCal_ok {F : List Dat → Rs} {fs : Ev → Option (List Dat)} {env : Ev} {xs : List Dat} {d : Dat} (h1 : fs env = some xs) (h2 : F xs = .ok d) : dCal F fs env = some d := by unfold dCal; rw [h1]; show okR (F xs) = _; rw [h2]; rfl
theorem dB_ok {f : Ev → Option Dat} {env : Ev} {b : Bool} (h : f env = some (.bl b)) : dB f env = some b := by unfold dB; rw [h]
end L2
set_option Elab.async false
set_option linter.all false
set_option maxRecDepth 100000
namespace K12
open PySem PySem.Spec PyProof.Rows L2
abbrev scr (ns : List Int) : Dat := .lst (ns.map .int)
theorem atI_nat' {α : Type} {xs : List α} {j : Nat} {x : α} (h : xs[j]? = some x) : atI xs (j : Int) = some x := atI_nat h
theorem mix_ok (ns : List Int) (k : Int) (hl : ns.length ≤ 63) (h0 : 0 ≤ k) (h1 : k < 100000) : ∃ r : Int, F__law_mix [scr ns, .int k] = .ok (.int r) ∧ 0 ≤ r ∧ r < 1000000000039 := by
  have := run_of (n := 3) (p := 2) (ds := [scr ns, .int k]) (g := g__law_mix) (R := fun d => ∃ r : Int, d = .int r ∧ 0 ≤ r ∧ r < 1000000000039) rfl ?_
  · obtain ⟨d, e, r, rfl, h⟩ := this
    exact ⟨r, e, h⟩
  show Go (g__law_mix [.fz (scr ns), .fz (.int k), .un]) _ _
  unfold g__law_mix
  have fin : ∀ z : Int, Go (sRet (dO modD (dO mulE (dV 2) (dC (.int 48271))) (dC (.int 1000000000039))) [.fz (scr ns), .fz (.int k), .fz (.int z)]) (fun _ => False) (fun d => ∃ r : Int, d = .int r ∧ 0 ≤ r ∧ r < 1000000000039) := fun z => by
    refine go_ret (d := .int (z * 48271 % 1000000000039)) (dO_ok (dO_ok rfl rfl (mulI_ok (.inr (by omega)))) rfl (modD_ok (by omega))) ⟨_, rfl, ?_, ?_⟩
    · exact Int.emod_nonneg _ (by omega)
    · exact Int.emod_lt_of_pos _ (by omega)
  refine go_cons (go_set (d := .int (7919 * k + 12345)) (dO_ok (dO_ok rfl rfl (mulI_ok (.inl (by omega)))) rfl rfl) ?_)
  dsimp only [List.set]
  refine go_cons (go_if (b := decide ((0 : Int) < ((ns.map Dat.int).length : Int))) rfl (fun hb => ?_) (fun hb => ?_))
  · have hp : 0 < ns.length := by have := of_decide_eq_true hb; rw [List.length_map] at this; omega
    have el : ((ns.map Dat.int).length : Int) = ns.length := by rw [List.length_map]
    have e1 : 0 ≤ k % (ns.length : Int) := Int.emod_nonneg _ (by omega)
    have e2 : k % (ns.length : Int) < ns.length := Int.emod_lt_of_pos _ (by omega)
    obtain ⟨j, hj⟩ : ∃ j : Nat, k % (ns.length : Int) = j := ⟨_, (Int.toNat_of_nonneg e1).symm⟩
    have hjl : j < ns.length := by omega
    have hix : atI (ns.map Dat.int) (k % ((ns.map Dat.int).length : Int)) = some (.int ns[j]) := by rw [el, hj]; exact atI_nat' (by simp [hjl])
    refine go_cons (go_set (d := .int (7919 * k + 12345 + k / ((ns.map Dat.int).length : Int))) (dO_ok rfl (dO_ok rfl rfl (fdivD_ok ⟨by omega, by omega⟩)) rfl) ?_)
    dsimp only [List.set]
    refine go_set (d := .int (7919 * k + 12345 + k / ((ns.map Dat.int).length : Int) + ns[j] * 6364136223846793005)) (dO_ok rfl (dO_ok (dO_ok rfl (dO_ok rfl rfl (modD_ok (by omega))) hix) rfl (mulI_ok (.inr (by omega)))) rfl) ?_
    dsimp only [List.set]
    exact (fin _).mono (fun _ h => h.elim) fun _ h => h
  · refine go_nil ?_
    exact (fin _).mono (fun _ h => h.elim) fun _ h => h
def Low (z : Str) : Prop := ∀ c ∈ cl z, 97 ≤ c ∧ c ≤ 122
abbrev letters : Str := "abcdefghijklmnopqrstuvwxyz"
theorem letters_list : cl letters = List.range' 97 26 := by decide +kernel
theorem letters_at {j : Int} (h0 : 0 ≤ j) (h1 : j < 26) : atI (cl letters) j = some (97 + j.toNat) := by
  obtain ⟨n, rfl⟩ : ∃ n : Nat, j = n := ⟨j.toNat, (Int.toNat_of_nonneg h0).symm⟩
  refine atI_nat ?_
  rw [letters_list, List.getElem?_range' (by omega)]
  simp
theorem low_add {z : Str} {c : Nat} (h : Low z) (h1 : 97 ≤ c) (h2 : c ≤ 122) : Low (z ++ (⟨#[c]⟩ : Str)) := by
  intro d hd
  rw [cl_app, cl_one] at hd
  rcases List.mem_append.mp hd with h' | h'
  · exact h d h'
  · rw [List.mem_singleton.mp h']; exact ⟨h1, h2⟩
theorem low_empty : Low "" := fun d hd => by
  have e : cl ("" : Str) = [] := by decide +kernel
  rw [e] at hd
  cases hd
theorem ix_letters {j : Int} (h0 : 0 ≤ j) (h1 : j < 26) : ixD (.str letters) (.int j) = some (.str ⟨#[97 + j.toNat]⟩) := by
  show (atI (cl letters) j).map _ = _
  rw [letters_at h0 h1]; rfl
theorem addS_ok {x y : Str} (h : x.length + y.length ≤ 1000) : addD (.str x) (.str y) = some (.str (x ++ y)) := if_pos (Nat.le_trans h (by decide))
theorem name_ok (c : Int) (h0 : 0 ≤ c) : ∃ z : Str, F__law_name [.int c] = .ok (.str z) ∧ 1 ≤ z.length ∧ z.length ≤ 8 ∧ Low z := by
  have := run_of (n := 4) (p := 1) (ds := [.int c]) (g := g__law_name) (R := fun d => ∃ z : Str, d = .str z ∧ 1 ≤ z.length ∧ z.length ≤ 8 ∧ Low z) rfl ?_
  · obtain ⟨d, e, r, rfl, h⟩ := this
    exact ⟨r, e, h⟩
  show Go (g__law_name [.fz (.int c), .un, .un, .un]) _ _
  unfold g__law_name
  refine go_cons (go_set (d := .str "") rfl ?_)
  refine go_cons (go_set (d := .int (c / 8)) (dO_ok rfl rfl (fdivD_ok ⟨by omega, by omega⟩)) ?_)
  dsimp only [List.set]
  obtain ⟨m, hm⟩ : ∃ m : Nat, 1 + c % 8 = m := ⟨(1 + c % 8).toNat, by omega⟩
  refine go_cons (go_for (ds := rng 0 m) (fun i e => ∃ (z : Str) (r : Int) (v : Slt), e = [.fz (.int c), .fz (.str z), .fz (.int r), v] ∧ 0 ≤ r ∧ z.length = i ∧ Low z) (srcR1_eq (aCons_ok (by rw [← hm]; exact dO_ok rfl (dO_ok rfl rfl (modD_ok (by omega))) rfl) rfl) (by omega)) ⟨"", c / 8, .un, rfl, by omega, by decide, low_empty⟩ ?_ ?_)
  · rintro i d e hi ⟨z, r, v, rfl, hr, hz, hlow⟩
    obtain ⟨hi1, rfl⟩ := rng_get hi
    refine ⟨_, rfl, ?_⟩
    dsimp only [List.set]
    have hx := ix_letters (j := r % 26) (by omega) (by omega)
    refine go_cons (go_set (dO_ok rfl (dO_ok rfl (dO_ok rfl rfl (modD_ok (by omega))) hx) (addS_ok (by show z.length + 1 ≤ _; omega))) ?_)
    refine go_set (d := .int (r / 26)) (dO_ok rfl rfl (fdivD_ok ⟨by omega, by omega⟩)) ?_
    dsimp only [List.set]
    exact ⟨_, _, _, rfl, by omega, by rw [len_app]; show _ + 1 = _; omega, low_add hlow (by omega) (by omega)⟩
  · rintro e ⟨z, r, v, rfl, hr, hz, hlow⟩
    rw [rng_len] at hz
    exact go_ret (d := .str z) rfl ⟨z, rfl, by omega, by omega, hlow⟩
end K12
set_option Elab.async false
set_option linter.all false
set_option maxRecDepth 100000
namespace K12
open PySem PySem.Spec PyProof.Rows L2
theorem nodup_le {α : Type} [BEq α] [LawfulBEq α] : ∀ (l b : List α), l.Nodup → (∀ x ∈ l, x ∈ b) → l.length ≤ b.length
  | [], b, _, _ => Nat.zero_le _
  | x :: l, b, nd, h => by
    have hx := h x List.mem_cons_self
    have h2 := nodup_le l (b.erase x) (List.nodup_cons.mp nd).2 fun y hy => by
      have hne : y ≠ x := fun e => (List.nodup_cons.mp nd).1 (e ▸ hy)
      exact (List.mem_erase_of_ne hne).mpr (h y (List.mem_cons_of_mem _ hy))
    have h3 := List.length_erase_of_mem hx
    have h4 : 0 < b.length := List.length_pos_of_mem hx
    rw [List.length_cons]
    omega
def kept5 : List Str := ["given", "made", "up", "down", "start"]
def NameOk (z : Str) : Prop := 1 ≤ z.length ∧ z.length ≤ 8 ∧ Low z ∧ z ∉ kept5
def turnW (p : List Nat) (c k : Nat) : Str := ⟨(p ++ [97 + (c - 97 + k) % 26]).toArray⟩
theorem cl_turnW (p : List Nat) (c k : Nat) : cl (turnW p c k) = p ++ [97 + (c - 97 + k) % 26] := rfl
theorem turnW_inj {p : List Nat} {c j k : Nat} (hj : j < 26) (hk : k < 26) (h : turnW p c j = turnW p c k) : j = k := by
  have e := congrArg cl h
  rw [cl_turnW, cl_turnW] at e
  have e2 := List.append_cancel_left e
  simp only [List.cons.injEq, and_true] at e2
  omega
theorem turnW_many {p : List Nat} {c n : Nat} {bad : List Str} (hn : n ≤ 26) (h : ∀ j < n, turnW p c j ∈ bad) : n ≤ bad.length := by
  have := nodup_le ((List.range n).map (turnW p c)) bad (by
    rw [List.nodup_iff_pairwise_ne, List.pairwise_map]
    refine List.Pairwise.imp_of_mem ?_ (List.nodup_range (n := n))
    intro a b ha hb hne e
    have h1 := List.mem_range.mp ha
    have h2 := List.mem_range.mp hb
    exact hne (turnW_inj (by omega) (by omega) e)) (fun x hx => by
      obtain ⟨j, hj, rfl⟩ := List.mem_map.mp hx
      exact h j (List.mem_range.mp hj))
  simpa using this
theorem find_letter : ∀ k : Nat, k < 26 → Txt.find letters ⟨#[97 + k]⟩ = (k : Int) := by
  have h : ∀ k ∈ List.range 26, Txt.find letters ⟨#[97 + k]⟩ = (k : Int) := by decide +kernel
  exact fun k hk => h k (List.mem_range.mpr hk)
theorem split_last {z : Str} (h : 1 ≤ z.length) : ∃ p c, cl z = p ++ [c] := by
  have hl : (cl z).length = z.length := cl_len z
  have hne : cl z ≠ [] := fun e => by rw [e] at hl; simp at hl; omega
  exact ⟨(cl z).dropLast, (cl z).getLast hne, (List.dropLast_concat_getLast hne).symm⟩
theorem cut_last {z : Str} {p : List Nat} {c : Nat} (h : cl z = p ++ [c]) : cl (Txt.slice z none (some (-1))) = p := by
  rw [cl_slice, h]
  unfold cutL
  have hn : (p ++ [c]).length = p.length + 1 := by simp
  have e1 : HT.sIx (p ++ [c]).length 0 none = 0 := rfl
  have e2 : HT.sIx (p ++ [c]).length (p ++ [c]).length (some (-1)) = p.length := by
    unfold HT.sIx
    dsimp only
    rw [if_pos (by decide), hn]
    omega
  rw [e1, e2, List.drop_zero, Nat.sub_zero]
  simp
theorem in_strs (z : Str) (ws : List Str) : (ws.map Dat.str).any (fun y => eqD y (.str z)) = decide (z ∈ ws) := by
  induction ws with
  | nil => simp
  | cons w ws ih =>
    rw [List.map_cons, List.any_cons, ih]
    have : eqD (.str w) (.str z) = (w == z) := by unfold eqD; rfl
    rw [this]
    by_cases e : w = z
    · subst e; simp
    · have e' : (w == z) = false := by simpa using e
      have e2 : ¬ z = w := fun q => e q.symm
      rw [e']; simp [e2]
theorem pd_str (n : Nat) (z : Str) : pd n (.str z) = true := by cases n <;> rfl
theorem pd_strs (ws : List Str) : (ws.map Dat.str).all (pd 20) = true := by
  induction ws with
  | nil => rfl
  | cons w ws ih => rw [List.map_cons, List.all_cons, ih, pd_str]; rfl
theorem inB_lst (z : Str) (ws : List Str) : inB (.str z) (.lst (ws.map .str)) = some (decide (z ∈ ws)) := by
  unfold inB
  dsimp only
  rw [pd_strs, pd_str, Bool.and_self, if_pos rfl, in_strs]
theorem inB_tup (z : Str) (ws : List Str) : inB (.str z) (.tup (ws.map .str)) = some (decide (z ∈ ws)) := by
  unfold inB
  dsimp only
  rw [pd_strs, pd_str, Bool.and_self, if_pos rfl, in_strs]
theorem inF_lst (z : Str) (ws : List Str) : inF (.str z) (.lst (ws.map .str)) = some (.bl (decide (z ∈ ws))) := by unfold inF; rw [inB_lst]; rfl
theorem inF_tup (z : Str) (ws : List Str) : inF (.str z) (.tup (ws.map .str)) = some (.bl (decide (z ∈ ws))) := by unfold inF; rw [inB_tup]; rfl
theorem tOr_ok {t u : Ev → Option Bool} {env : Ev} {a b : Bool} (h1 : t env = some a) (h2 : a = false → u env = some b) : tOrD t u env = some (a || b) := by
  unfold tOrD; rw [h1]; cases a with
  | true => rfl
  | false => exact h2 rfl
theorem tAnd_ok {t u : Ev → Option Bool} {env : Ev} {a b : Bool} (h1 : t env = some a) (h2 : a = true → u env = some b) : tAndD t u env = some (a && b) := by
  unfold tAndD; rw [h1]; cases a with
  | false => rfl
  | true => exact h2 rfl
theorem dS_ok {F : Dat → Option Int → Option Int → Option Dat} {f : Ev → Option Dat} {l h : Ev → Option (Option Int)} {env : Ev} {x z : Dat} {a b : Option Int} (h1 : f env = some x) (h2 : l env = some a) (h3 : h env = some b) (h4 : F x a b = some z) : dS F f l h env = some z := by
  unfold dS; rw [h1, h2, h3]; exact h4
theorem oSome_ok {f : Ev → Option Dat} {env : Ev} {i : Int} (h : f env = some (.int i)) : oSome f env = some (some i) := by unfold oSome; rw [h]
theorem slS_ok (z : Str) (a b : Option Int) : slD (.str z) a b = some (.str (Txt.slice z a b)) := rfl
theorem eqI (i j : Int) : eqF (.int i) (.int j) = some (.bl (i == j)) := rfl
theorem ixL_nat {xs : List Dat} {j : Nat} {x : Dat} (h : xs[j]? = some x) : ixD (.lst xs) (.int j) = some x := atI_nat h
theorem ixT_nat {xs : List Dat} {j : Nat} {x : Dat} (h : xs[j]? = some x) : ixD (.tup xs) (.int j) = some x := atI_nat h
theorem slice_to (w0 : Str) {n0 : Nat} (h : n0 ≤ w0.length) : cl (Txt.slice w0 none (some (n0 : Int))) = (cl w0).take n0 := by
  have hcl : (cl w0).length = w0.length := cl_len w0
  rw [cl_slice]; unfold cutL
  rw [HT.sIx_nat]
  show (List.drop 0 (cl w0)).take (min n0 (cl w0).length - 0) = _
  rw [List.drop_zero, Nat.sub_zero, Nat.min_eq_left (by omega)]
theorem slice_from (w0 : Str) {n0 : Nat} (h : n0 ≤ w0.length) : cl (Txt.slice w0 (some (n0 : Int)) none) = (cl w0).drop n0 := by
  have hcl : (cl w0).length = w0.length := cl_len w0
  rw [cl_slice]; unfold cutL
  rw [HT.sIx_nat]
  show (List.drop (min n0 (cl w0).length) (cl w0)).take ((cl w0).length - min n0 (cl w0).length) = _
  rw [Nat.min_eq_left (by omega), List.take_of_length_le (by rw [List.length_drop]; exact Nat.le_refl _)]
abbrev wenv (ns : List Int) (first many : Int) (ws : List Str) (v1 v2 v3 v4 : Slt) : Ev := [.fz (scr ns), .fz (.int first), .fz (.int many), .ow (ws.map .str), .fz (.str letters), v1, v2, v3, v4]
theorem wire_names_ok (ns : List Int) (first many : Int) (hl : ns.length ≤ 63) (h0 : 0 ≤ first) (h1 : first < 10000) (h2 : 1 ≤ many) (h3 : many ≤ 10) :
    ∃ ws : List Str, F__law_wire_names [scr ns, .int first, .int many] = .ok (.lst (ws.map .str)) ∧ (ws.length : Int) = many ∧ (∀ z ∈ ws, NameOk z) ∧ ws.Nodup := by
  have := run_of (n := 9) (p := 3) (ds := [scr ns, .int first, .int many]) (g := g__law_wire_names) (R := fun d => ∃ ws : List Str, d = .lst (ws.map .str) ∧ (ws.length : Int) = many ∧ (∀ z ∈ ws, NameOk z) ∧ ws.Nodup) rfl ?_
  · obtain ⟨d, e, r, rfl, h⟩ := this
    exact ⟨r, e, h⟩
  show Go (g__law_wire_names [.fz (scr ns), .fz (.int first), .fz (.int many), .un, .un, .un, .un, .un, .un]) _ _
  unfold g__law_wire_names
  refine go_cons (go_own (ds := []) rfl ?_)
  refine go_cons (go_set (d := .str letters) rfl ?_)
  dsimp only [List.set]
  obtain ⟨m, hm⟩ : ∃ m : Nat, many = m := ⟨many.toNat, by omega⟩
  refine go_cons (go_for (ds := rng 0 m) (fun i e => ∃ (ws : List Str) (v1 v2 v3 v4 : Slt), e = wenv ns first many ws v1 v2 v3 v4 ∧ ws.length = i ∧ (∀ z ∈ ws, NameOk z) ∧ ws.Nodup) (srcR1_eq (aCons_ok (by rw [← hm]; rfl) rfl) (by omega))
    ⟨[], .un, .un, .un, .un, rfl, rfl, by simp, List.nodup_nil⟩ ?_ ?_)
  · rintro i d e hi ⟨ws, v1, v2, v3, v4, rfl, hwl, hok, hnd⟩
    obtain ⟨hi1, rfl⟩ := rng_get hi
    refine ⟨_, rfl, ?_⟩
    dsimp only [List.set]
    obtain ⟨cell, ec, c0, c1⟩ := mix_ok ns (first + (0 + (i : Int))) hl (by omega) (by omega)
    refine go_cons (go_set (dCal_ok (xs := [scr ns, .int (first + (0 + (i : Int)))]) rfl ec) ?_)
    obtain ⟨z0, en, z1, z2, z3⟩ := name_ok cell c0
    refine go_cons (go_set (dCal_ok (xs := [.int cell]) rfl en) ?_)
    dsimp only [List.set]
    refine go_cons (Go.mono (N := fun e => ∃ (z : Str) (v : Slt), e = wenv ns first many ws (.fz (.int (0 + (i : Int)))) (.fz (.int cell)) (.fz (.str z)) v ∧ 1 ≤ z.length ∧ z.length ≤ 8 ∧ Low z) ?_ ?_ fun _ h => h)
    · refine go_if (tAnd_ok (a := decide ((0 : Int) < 0 + (i : Int))) (b := cell / 8 % 2 == 0) rfl fun _ => dB_ok (dO_ok (dO_ok (dO_ok rfl rfl (fdivD_ok ⟨by omega, by omega⟩)) rfl (modD_ok (by omega))) rfl rfl)) (fun hb => ?_) (fun hb => go_nil ⟨z0, v4, rfl, z1, z2, z3⟩)
      have hp' : 0 < i := by
        have := (Bool.and_eq_true _ _ ▸ hb).1
        have := of_decide_eq_true this
        omega
      have hg : (ws.map Dat.str)[0]? = some (.str (ws[0]'(by omega))) := by simp [show 0 < ws.length by omega]
      have hm0 : ws[0]'(by omega) ∈ ws := List.getElem_mem _
      generalize ws[0]'(by omega) = w0 at hg hm0
      obtain ⟨a1, a2, a3, _⟩ := hok w0 hm0
      have b1 : 0 ≤ cell / 16 % (w0.length : Int) := Int.emod_nonneg _ (by omega)
      have b2 : cell / 16 % (w0.length : Int) < w0.length := Int.emod_lt_of_pos _ (by omega)
      refine go_cons (go_set (d := .int (cell / 16 % (w0.length : Int))) (dO_ok (dO_ok rfl rfl (fdivD_ok ⟨by omega, by omega⟩)) (dF_ok (aCons_ok (dO_ok rfl rfl (ixL_nat (j := 0) hg)) rfl) rfl) (modD_ok (by omega))) ?_)
      generalize cell / 16 % (w0.length : Int) = at0 at b1 b2 ⊢
      obtain ⟨n0, rfl⟩ : ∃ n : Nat, at0 = n := ⟨at0.toNat, (Int.toNat_of_nonneg b1).symm⟩
      refine go_cons (go_set (d := .str w0) (dO_ok rfl rfl (ixL_nat (j := 0) hg)) ?_)
      dsimp only [List.set]
      have hx := ix_letters (j := cell / 128 % 26) (by omega) (by omega)
      have hcl : (cl w0).length = w0.length := cl_len w0
      have e1 := slice_to w0 (n0 := n0) (by omega)
      have e2 : cl (Txt.slice w0 (some ((n0 : Int) + 1)) none) = (cl w0).drop (n0 + 1) := by
        rw [show ((n0 : Int) + 1) = ((n0 + 1 : Nat) : Int) by omega]; exact slice_from w0 (by omega)
      have hh1 := cl_len (Txt.slice w0 none (some (n0 : Int)))
      have hh2 := cl_len (Txt.slice w0 (some ((n0 : Int) + 1)) none)
      rw [e1, List.length_take] at hh1
      rw [e2, List.length_drop] at hh2
      refine go_set (dO_ok (dO_ok (dS_ok rfl rfl (oSome_ok rfl) (slS_ok w0 none (some (n0 : Int)))) (dO_ok rfl (dO_ok (dO_ok rfl rfl (fdivD_ok ⟨by omega, by omega⟩)) rfl (modD_ok (by omega))) hx) (addS_ok (by show _ + 1 ≤ _; omega))) (dS_ok rfl (oSome_ok (i := (n0 : Int) + 1) rfl) rfl (slS_ok w0 (some ((n0 : Int) + 1)) none)) (addS_ok (by rw [len_app]; show _ + 1 + _ ≤ _; omega))) ?_
      dsimp only [List.set]
      refine ⟨_, _, rfl, ?_, ?_, ?_⟩
      · rw [len_app, len_app]; show 1 ≤ _ + 1 + _; omega
      · rw [len_app, len_app]; show _ + 1 + _ ≤ 8; omega
      · intro d hd
        rw [cl_app, cl_app, e1, e2, cl_one] at hd
        rcases List.mem_append.mp hd with hd | hd
        · rcases List.mem_append.mp hd with hd | hd
          · exact a3 d (List.mem_of_mem_take hd)
          · rw [List.mem_singleton.mp hd]; omega
        · exact a3 d (List.mem_of_mem_drop hd)
    · rintro e ⟨z, v, rfl, y1, y2, y3⟩
      obtain ⟨p, c, hpc⟩ := split_last y1
      have hc := y3 c (by rw [hpc]; simp)
      have hpl : p.length + 1 = z.length := by rw [← cl_len z, hpc]; simp
      have hpw : ∀ d ∈ p, 97 ≤ d ∧ d ≤ 122 := fun d hd => y3 d (by rw [hpc]; simp [hd])
      have hz0 : z = turnW p c 0 := cl_ext (by rw [cl_turnW, hpc]; congr 2; omega)
      have hbl : (ws ++ kept5).length ≤ 14 := by rw [List.length_append]; show ws.length + 5 ≤ 14; omega
      refine go_cons (go_while (n := (ws ++ kept5).length - 0) (fun m e => ∃ k, m = (ws ++ kept5).length - k ∧ k ≤ (ws ++ kept5).length ∧ (∀ j < k, turnW p c j ∈ ws ++ kept5) ∧ e = wenv ns first many ws (.fz (.int (0 + (i : Int)))) (.fz (.int cell)) (.fz (.str (turnW p c k))) v)
        ⟨0, rfl, Nat.zero_le _, fun j hj => absurd hj (Nat.not_lt_zero _), by rw [← hz0]⟩ ?_)
      rintro m e ⟨k, rfl, hk, hbad, rfl⟩
      have hzl : (turnW p c k).length = z.length := by rw [← cl_len, cl_turnW, List.length_append]; exact hpl
      have ht : ∀ b, decide (turnW p c k ∈ ws ++ kept5) = b → tOrD (dB (dO inF (dV 7) (dP 3))) (dB (dO inF (dV 7) (dL (aLst (aCons (dC (.str "given")) (aCons (dC (.str "made")) (aCons (dC (.str "up")) (aCons (dC (.str "down")) (aCons (dC (.str "start")) aNil))))))))) (wenv ns first many ws (.fz (.int (0 + (i : Int)))) (.fz (.int cell)) (.fz (.str (turnW p c k))) v) = some b := fun b hb => by
        rw [← hb]
        have := tOr_ok (t := dB (dO inF (dV 7) (dP 3))) (u := dB (dO inF (dV 7) (dL (aLst (aCons (dC (.str "given")) (aCons (dC (.str "made")) (aCons (dC (.str "up")) (aCons (dC (.str "down")) (aCons (dC (.str "start")) aNil))))))))) (env := wenv ns first many ws (.fz (.int (0 + (i : Int)))) (.fz (.int cell)) (.fz (.str (turnW p c k))) v) (dB_ok (dO_ok rfl rfl (inF_lst (turnW p c k) ws))) (fun _ => dB_ok (dO_ok rfl rfl (inF_lst (turnW p c k) kept5)))
        rw [this]
        congr 1
        by_cases g1 : turnW p c k ∈ ws <;> by_cases g2 : turnW p c k ∈ kept5 <;> simp [g1, g2]
      by_cases hmem : turnW p c k ∈ ws ++ kept5
      · refine .inr ⟨ht true (decide_eq_true hmem), ?_⟩
        have hk1 : k + 1 ≤ (ws ++ kept5).length := turnW_many (p := p) (c := c) (by omega) fun j hj => by
          rcases Nat.lt_or_ge j k with h | h
          · exact hbad j h
          · have : j = k := by omega
            subst this; exact hmem
        have hf := find_letter ((c - 97 + k) % 26) (by omega)
        have hlast : ixD (.str (turnW p c k)) (.int (-1)) = some (.str ⟨#[97 + (c - 97 + k) % 26]⟩) := by
          show (atI (cl (turnW p c k)) (-1)).map _ = _
          rw [atI_last' _ (by rw [cl_turnW]; simp), cl_turnW]
          simp
        have hsx : sindexD (.str letters) [.str ⟨#[97 + (c - 97 + k) % 26]⟩] = some (.int (((c - 97 + k) % 26 : Nat) : Int)) := by
          unfold sindexD
          dsimp only
          rw [hf, if_pos (by omega)]
        have hx := ix_letters (j := ((((c - 97 + k) % 26 : Nat) : Int) + 1) % 26) (by omega) (by omega)
        have hneg : dU negD (dC (.int 1)) (wenv ns first many ws (.fz (.int (0 + (i : Int)))) (.fz (.int cell)) (.fz (.str (turnW p c k))) v) = some (.int (-1)) := rfl
        have hsi : dM "str" sindexD (dV 4) (aCons (dO ixD (dV 7) (dU negD (dC (.int 1)))) aNil) (wenv ns first many ws (.fz (.int (0 + (i : Int)))) (.fz (.int cell)) (.fz (.str (turnW p c k))) v) = some (.int (((c - 97 + k) % 26 : Nat) : Int)) := by
          have ha : aCons (dO ixD (dV 7) (dU negD (dC (.int 1)))) aNil (wenv ns first many ws (.fz (.int (0 + (i : Int)))) (.fz (.int cell)) (.fz (.str (turnW p c k))) v) = some [.str ⟨#[97 + (c - 97 + k) % 26]⟩] := aCons_ok (dO_ok rfl hneg hlast) rfl
          unfold dM
          rw [ha]
          exact hsx
        have hsl := Txt.slice_le (turnW p c k) none (some (-1))
        refine go_set (dO_ok (dS_ok rfl rfl (oSome_ok hneg) (slS_ok (turnW p c k) none (some (-1)))) (dO_ok rfl (dO_ok (dO_ok hsi rfl rfl) rfl (modD_ok (by omega))) hx) (addS_ok (by show _ + 1 ≤ _; omega))) ?_
        have ew : Txt.slice (turnW p c k) none (some (-1)) ++ (⟨#[97 + (((((c - 97 + k) % 26 : Nat) : Int) + 1) % 26).toNat]⟩ : Str) = turnW p c (k + 1) := by
          refine cl_ext ?_
          rw [cl_app, cut_last (cl_turnW p c k), cl_turnW, cl_one]
          congr 2
          omega
        rw [ew]
        refine ⟨(ws ++ kept5).length - (k + 1), by omega, k + 1, rfl, hk1, fun j hj => ?_, rfl⟩
        rcases Nat.lt_or_ge j k with h | h
        · exact hbad j h
        · have : j = k := by omega
          subst this; exact hmem
      · refine .inl ⟨ht false (decide_eq_false hmem), ?_⟩
        rw [List.mem_append, not_or] at hmem
        refine go_meth (ds := ws.map .str) (as := [.str (turnW p c k)]) (ds' := (ws ++ [turnW p c k]).map .str) rfl rfl (by unfold appendF; dsimp only; rw [if_pos (by rw [List.length_map, sizeLine_eq]; omega), List.map_append]; rfl) ?_
        dsimp only [List.set]
        refine ⟨ws ++ [turnW p c k], _, _, _, _, rfl, by rw [List.length_append, List.length_singleton]; omega, ?_, ?_⟩
        · intro y hy
          rcases List.mem_append.mp hy with hy | hy
          · exact hok y hy
          · rw [List.mem_singleton.mp hy]
            refine ⟨by omega, by omega, fun d hd => ?_, hmem.2⟩
            rw [cl_turnW] at hd
            rcases List.mem_append.mp hd with hd | hd
            · exact hpw d hd
            · rw [List.mem_singleton.mp hd]; omega
        · refine List.nodup_append.mpr ⟨hnd, List.nodup_cons.mpr ⟨by simp, List.nodup_nil⟩, fun a ha b hb => ?_⟩
          rw [List.mem_singleton.mp hb]
          intro e
          exact hmem.1 (e ▸ ha)
  · rintro e ⟨ws, v1, v2, v3, v4, rfl, hwl, hok, hnd⟩
    rw [rng_len] at hwl
    exact go_retO (ds := ws.map .str) rfl ⟨ws, rfl, by omega, hok, hnd⟩
end K12
set_option Elab.async false
set_option linter.all false
set_option maxRecDepth 100000
namespace K12
open PySem PySem.Spec PyProof.Rows L2
theorem pick (x y : Dat) (b : Bool) : ixD (.lst [x, y]) (.int (if b then 1 else 0)) = some (if b then y else x) := by cases b <;> rfl
theorem pick2 (x y : Dat) {j : Int} (h0 : 0 ≤ j) (h1 : j < 2) : ixD (.lst [x, y]) (.int j) = some (if j = 1 then y else x) := by
  rcases (show j = 0 ∨ j = 1 by omega) with rfl | rfl <;> rfl
theorem int_b (b : Bool) : intD [.bl b] = some (.int (if b then 1 else 0)) := rfl
def Spots (ks : List Int) : Prop := 1 ≤ ks.length ∧ ks.length ≤ 30 ∧ (∀ k ∈ ks, 0 ≤ k ∧ k < 64) ∧ ks.Pairwise (· < ·)
theorem far_inj : ∀ t ∈ List.range 32, ∀ i ∈ List.range 30, ∀ j ∈ List.range 30, (i * (1 + 2 * t)) % 64 = (j * (1 + 2 * t)) % 64 → i = j := by decide +kernel
theorem rng_eq (m : Nat) : rng 0 m = ((List.range m).map fun k : Nat => (k : Int)).map Dat.int := by
  unfold rng
  rw [List.map_map]
  apply List.map_congr_left
  intro k _
  show Dat.int (0 + (k : Int)) = Dat.int (k : Int)
  rw [Int.zero_add]
theorem spots_ok (c : Int) (h0 : 0 ≤ c) : ∃ ks : List Int, F__law_spots [.int c] = .ok (.tup (ks.map .int)) ∧ Spots ks := by
  have := run_of (n := 3) (p := 1) (ds := [.int c]) (g := g__law_spots) (R := fun d => ∃ ks : List Int, d = .tup (ks.map .int) ∧ Spots ks) rfl ?_
  · obtain ⟨d, e, r, rfl, h⟩ := this
    exact ⟨r, e, h⟩
  show Go (g__law_spots [.fz (.int c), .un, .un]) _ _
  unfold g__law_spots
  obtain ⟨mz, m, hmz, hm, hm1, hm2⟩ : ∃ (mz : Int) (m : Nat), mz = (m : Int) ∧ (if (c % 8 == 3) = true then Dat.int (1 + c / 8 % 30) else .int (1 + c / 8 % 4)) = .int mz ∧ 1 ≤ m ∧ m ≤ 30 := by
    split
    · exact ⟨1 + c / 8 % 30, (1 + c / 8 % 30).toNat, by omega, rfl, by omega, by omega⟩
    · exact ⟨1 + c / 8 % 4, (1 + c / 8 % 4).toNat, by omega, rfl, by omega, by omega⟩
  refine go_cons (go_set (d := .int mz) (by rw [← hm]; exact dO_ok (x := .lst [.int (1 + c / 8 % 4), .int (1 + c / 8 % 30)]) rfl (dF_ok (aCons_ok (dO_ok (dO_ok rfl rfl (modD_ok (by omega))) rfl (eqI _ _)) rfl) (int_b _)) (pick _ _ _)) ?_)
  dsimp only [List.set]
  refine go_cons (go_set (d := .int (1 + 2 * (c / 16384 % 32))) (dO_ok rfl (dO_ok rfl (dO_ok (dO_ok rfl rfl (fdivD_ok ⟨by omega, by omega⟩)) rfl (modD_ok (by omega))) (mulI_ok (.inl (by omega)))) rfl) ?_)
  dsimp only [List.set]
  generalize hfar : 1 + 2 * (c / 16384 % 32) = far
  have hcomp : compL (gset 0) tTrue (dO modD (dO addD (dO fdivD (dV 1) (dC (.int 256))) (dO mulE (dV 0) (dV 2))) (dC (.int 64))) [.un, .fz (.int c), .fz (.int far)] (rng 0 m) = some ((((List.range m).map fun k : Nat => (c / 256 + (k : Int) * far) % 64)).map .int) := by
    rw [compL_map (fun _ => true) (fun d => match d with | .int k => .int ((c / 256 + k * far) % 64) | d => d)]
    · rw [List.filter_eq_self.mpr (fun _ _ => rfl), rng_eq, List.map_map, List.map_map]
      rw [List.map_map]
      rfl
    · intro x hx
      rw [rng_eq] at hx
      obtain ⟨k, _, rfl⟩ := List.mem_map.mp hx
      refine ⟨[.fz (.int k), .fz (.int c), .fz (.int far)], rfl, rfl, fun _ => ?_⟩
      exact dO_ok (dO_ok (dO_ok rfl rfl (fdivD_ok ⟨by omega, by omega⟩)) (dO_ok rfl rfl (mulI_ok (.inr (by omega)))) rfl) rfl (modD_ok (by omega))
  have hd : dComp (srcR1 (aCons (dV 1) aNil)) [none, some 0, some 2] (gset 0) tTrue (dO modD (dO addD (dO fdivD (dV 1) (dC (.int 256))) (dO mulE (dV 0) (dV 2))) (dC (.int 64))) [.fz (.int c), .fz (.int mz), .fz (.int far)] = some ((((List.range m).map fun k : Nat => (c / 256 + (k : Int) * far) % 64)).map .int) := by
    unfold dComp
    rw [srcR1_eq (n := m) (by rw [← hmz]; rfl) (by omega)]
    exact hcomp
  generalize hks : (List.range m).map (fun k : Nat => (c / 256 + (k : Int) * far) % 64) = ks at hd
  have hlen : ks.length = m := by rw [← hks, List.length_map, List.length_range]
  have hall : ∀ k ∈ ks, 0 ≤ k ∧ k < 64 := fun k hk => by
    rw [← hks] at hk
    obtain ⟨j, _, rfl⟩ := List.mem_map.mp hk
    omega
  have hnd : ks.Nodup := by
    rw [← hks]
    unfold List.Nodup
    rw [List.pairwise_map]
    refine List.Pairwise.imp_of_mem (fun {i j} hi hj hlt => ?_) List.pairwise_lt_range
    have hi := List.mem_range.mp hi
    have hj := List.mem_range.mp hj
    obtain ⟨t, ht, ht1⟩ : ∃ t : Nat, far = ((1 + 2 * t : Nat) : Int) ∧ t < 32 := ⟨(c / 16384 % 32).toNat, by omega, by omega⟩
    rw [ht]
    intro e
    have key := far_inj t (List.mem_range.mpr ht1) i (List.mem_range.mpr (by omega)) j (List.mem_range.mpr (by omega))
    have e1 : (i : Int) * ((1 + 2 * t : Nat) : Int) = ((i * (1 + 2 * t) : Nat) : Int) := by push_cast; rfl
    have e2 : (j : Int) * ((1 + 2 * t : Nat) : Int) = ((j * (1 + 2 * t) : Nat) : Int) := by push_cast; rfl
    rw [e1, e2] at e
    generalize i * (1 + 2 * t) = p at e key
    generalize j * (1 + 2 * t) = q at e key
    have := key (by omega)
    omega
  have hs : sortedN [.lst (ks.map .int)] = some ((sortI ks).map .int) := by
    unfold sortedN
    dsimp only
    rw [intsD_map]
    show (if ks.length < 64 then _ else _) = _
    rw [if_pos (by omega)]
  refine go_ret (d := .tup ((sortI ks).map .int)) (dF_ok (aCons_ok (x := .lst ((sortI ks).map .int)) ?_ rfl) rfl) ⟨sortI ks, rfl, ?_, ?_, ?_, List.Pairwise.imp (fun {a b} h => Int.lt_iff_le_and_ne.mpr h) (List.Pairwise.and (sortI_sorted ks) ((sortI_perm ks).nodup_iff.mpr hnd))⟩
  · unfold dL
    rw [dF_ok (aCons_ok (x := .lst (ks.map .int)) (by show Option.map Dat.lst _ = _; rw [hd]; rfl) rfl) hs]
    rfl
  · rw [(sortI_perm ks).length_eq]; omega
  · rw [(sortI_perm ks).length_eq]; omega
  · exact fun k hk => hall k ((sortI_perm ks).mem_iff.mp hk)
structure Step' where
  w : Int
  up : Bool
  takes : List Int
  fills : List Int
def wireD (w : Str × Bool) : Dat := .tup [.str w.1, .str (if w.2 then "made" else "given")]
def stepD (s : Step') : Dat := .tup [.int s.w, .bl s.up, .tup (s.takes.map .int), .tup (s.fills.map .int)]
structure Gr where
  wires : List (Str × Bool)
  steps : List Step'
  marks : Int
  code : Int
def Gr.d (G : Gr) : Dat := .tup [.tup (G.wires.map wireD), .tup (G.steps.map stepD), .int G.marks, .int G.code]
structure Gr.Ok (G : Gr) : Prop where
  w1 : 1 ≤ G.wires.length
  w2 : G.wires.length ≤ 10
  nm : ∀ w ∈ G.wires, NameOk w.1
  nd : (G.wires.map (·.1)).Nodup
  s1 : 1 ≤ G.steps.length
  s2 : G.steps.length ≤ 24
  sw : ∀ s ∈ G.steps, 0 ≤ s.w ∧ s.w < G.wires.length ∧ Spots s.takes ∧ Spots s.fills
  m0 : 0 ≤ G.marks
  m1 : G.marks < 2 ^ 64
  c0 : 0 ≤ G.code
  c1 : G.code < 2 ^ G.wires.length
theorem aTup_ok {fs : Ev → Option (List Dat)} {env : Ev} {xs : List Dat} (h : fs env = some xs) (hl : xs.length ≤ 1000) : aTup fs env = some (.tup xs) := by unfold aTup; rw [h]; exact if_pos hl
theorem append_ok {ds : List Dat} {d : Dat} (h : ds.length ≤ 1000) : appendF ds [d] = some (ds ++ [d]) := if_pos (Nat.lt_of_le_of_lt h (by decide))
theorem graph_ok (ns : List Int) (first : Int) (hl : ns.length ≤ 63) (h0 : 0 ≤ first) (h1 : first < 1000) : ∃ G : Gr, F__law_graph [scr ns, .int first] = .ok G.d ∧ G.Ok := by
  have := run_of (n := 14) (p := 2) (ds := [scr ns, .int first]) (g := g__law_graph) (R := fun d => ∃ G : Gr, d = G.d ∧ G.Ok) rfl ?_
  · obtain ⟨d, e, r, rfl, h⟩ := this
    exact ⟨r, e, h⟩
  show Go (g__law_graph [.fz (scr ns), .fz (.int first), .un, .un, .un, .un, .un, .un, .un, .un, .un, .un, .un, .un]) _ _
  unfold g__law_graph
  obtain ⟨cell, ec, c0, c1⟩ := mix_ok ns first hl (by omega) (by omega)
  refine go_cons (go_set (dCal_ok (xs := [scr ns, .int first]) rfl ec) ?_)
  obtain ⟨mz, m, hmz, hm, hm1, hm2⟩ : ∃ (mz : Int) (m : Nat), mz = (m : Int) ∧ (if (cell % 4 == 1) = true then Dat.int 10 else .int (1 + cell / 4 % 10)) = .int mz ∧ 1 ≤ m ∧ m ≤ 10 := by
    split
    · exact ⟨10, 10, rfl, rfl, by omega, by omega⟩
    · exact ⟨1 + cell / 4 % 10, (1 + cell / 4 % 10).toNat, by omega, rfl, by omega, by omega⟩
  refine go_cons (go_set (d := .int mz) (by rw [← hm]; exact dO_ok (x := .lst [.int (1 + cell / 4 % 10), .int 10]) rfl (dF_ok (aCons_ok (dO_ok (dO_ok rfl rfl (modD_ok (by omega))) rfl (eqI _ _)) rfl) (int_b _)) (pick _ _ _)) ?_)
  dsimp only [List.set]
  obtain ⟨ws, ews, hwl, hwo, hwn⟩ := wire_names_ok ns (first + 1) mz hl (by omega) (by omega) (by omega) (by omega)
  refine go_cons (go_set (dCal_ok (xs := [scr ns, .int (first + 1), .int mz]) rfl ews) ?_)
  obtain ⟨kinds, ek, k0, k1⟩ := mix_ok ns (first + 11) hl (by omega) (by omega)
  refine go_cons (go_set (dCal_ok (xs := [scr ns, .int (first + 11)]) rfl ek) ?_)
  refine go_cons (go_own (ds := []) rfl ?_)
  dsimp only [List.set]
  refine go_cons (go_for (ds := rng 0 m) (fun i e => ∃ (wr : List (Str × Bool)) (v : Slt), e = [.fz (scr ns), .fz (.int first), .fz (.int cell), .fz (.int mz), .fz (.lst (ws.map .str)), .fz (.int kinds), .ow (wr.map wireD), v, .un, .un, .un, .un, .un, .un] ∧ wr.length = i ∧ wr.map (·.1) = ws.take i)
    (srcR1_eq (aCons_ok (by rw [← hmz]; rfl) rfl) (by omega)) ⟨[], .un, rfl, rfl, by simp⟩ ?_ ?_)
  · rintro i d e hi ⟨wr, v, rfl, hwr, hwt⟩
    obtain ⟨hi1, rfl⟩ := rng_get hi
    rw [Int.zero_add]
    refine ⟨_, rfl, ?_⟩
    have hiw : i < ws.length := by omega
    have hg : (ws.map Dat.str)[i]? = some (.str ws[i]) := by simp [hiw]
    have p1 := pick2 (.str "given") (.str "made") (j := kinds / (1 + 7 * (i : Int)) % 2) (by omega) (by omega)
    refine go_meth (ds := wr.map wireD) (as := [wireD (ws[i], decide (kinds / (1 + 7 * (i : Int)) % 2 = 1))]) (ds' := (wr ++ [(ws[i], decide (kinds / (1 + 7 * (i : Int)) % 2 = 1))]).map wireD) rfl (aCons_ok ?_ rfl) ?_ ?_
    · refine Eq.trans (aTup_ok (aCons_ok (dO_ok rfl rfl (ixL_nat hg)) (aCons_ok (dO_ok (x := .lst [.str "given", .str "made"]) rfl (dO_ok (dO_ok rfl (dO_ok rfl (dO_ok rfl rfl (mulI_ok (.inl (by omega)))) rfl) (fdivD_ok ⟨by omega, by omega⟩)) rfl (modD_ok (by omega))) p1) rfl)) (by simp)) ?_
      unfold wireD
      by_cases hb : kinds / (1 + 7 * (i : Int)) % 2 = 1 <;> simp [hb]
    · rw [append_ok (by rw [List.length_map]; omega), List.map_append]; rfl
    · dsimp only [List.set]
      refine ⟨_, _, rfl, by rw [List.length_append, List.length_singleton]; omega, ?_⟩
      rw [List.map_append, hwt, List.take_succ, List.getElem?_eq_getElem hiw]
      rfl
  rintro e ⟨wr, v, rfl, hwr, hwt⟩
  rw [rng_len] at hwr hwt
  refine go_cons (go_own (ds := []) rfl ?_)
  dsimp only [List.set]
  obtain ⟨qz, q, hqz, hq, hq1, hq2⟩ : ∃ (qz : Int) (q : Nat), qz = (q : Int) ∧ (if (cell / 4096 % 4 == 1) = true then Dat.int 24 else .int (1 + cell / 64 % 24)) = .int qz ∧ 1 ≤ q ∧ q ≤ 24 := by
    split
    · exact ⟨24, 24, rfl, rfl, by omega, by omega⟩
    · exact ⟨1 + cell / 64 % 24, (1 + cell / 64 % 24).toNat, by omega, rfl, by omega, by omega⟩
  refine go_cons (go_for (ds := rng 0 q) (fun i e => ∃ (ss : List Step') (v v1 v2 v3 : Slt), e = [.fz (scr ns), .fz (.int first), .fz (.int cell), .fz (.int mz), .fz (.lst (ws.map .str)), .fz (.int kinds), .ow (wr.map wireD), v, .ow (ss.map stepD), v1, v2, v3, .un, .un] ∧ ss.length = i ∧ ∀ s ∈ ss, 0 ≤ s.w ∧ s.w < mz ∧ Spots s.takes ∧ Spots s.fills)
    (srcR1_eq (aCons_ok (by rw [← hqz, ← hq]; exact dO_ok (x := .lst [.int (1 + cell / 64 % 24), .int 24]) rfl (dF_ok (aCons_ok (dO_ok (dO_ok (dO_ok rfl rfl (fdivD_ok ⟨by omega, by omega⟩)) rfl (modD_ok (by omega))) rfl (eqI _ _)) rfl) (int_b _)) (pick _ _ _)) rfl) (by omega)) ⟨[], v, .un, .un, .un, rfl, rfl, by simp⟩ ?_ ?_)
  · rintro i d e hi ⟨ss, v, v1, v2, v3, rfl, hss, hso⟩
    obtain ⟨hi1, rfl⟩ := rng_get hi
    rw [Int.zero_add]
    refine ⟨_, rfl, ?_⟩
    dsimp only [List.set]
    obtain ⟨more, em, m0, m1⟩ := mix_ok ns (first + 15 + 2 * (i : Int)) hl (by omega) (by omega)
    refine go_cons (go_set (dCal_ok (xs := [scr ns, .int (first + 15 + 2 * (i : Int))]) (aCons_ok rfl (aCons_ok (dO_ok rfl (dO_ok rfl rfl (mulI_ok (.inl (by omega)))) rfl) rfl)) em) ?_)
    obtain ⟨fills, ef, hf⟩ := spots_ok (more / 64) (by omega)
    refine go_cons (go_set (dCal_ok (xs := [.int (more / 64)]) (aCons_ok (dO_ok rfl rfl (fdivD_ok ⟨by omega, by omega⟩)) rfl) ef) ?_)
    obtain ⟨mo2, em2, m20, m21⟩ := mix_ok ns (first + 16 + 2 * (i : Int)) hl (by omega) (by omega)
    obtain ⟨takes, et, ht⟩ := spots_ok mo2 m20
    refine go_cons (go_set (dCal_ok (xs := [.int mo2]) (aCons_ok (dCal_ok (xs := [scr ns, .int (first + 16 + 2 * (i : Int))]) (aCons_ok rfl (aCons_ok (dO_ok rfl (dO_ok rfl rfl (mulI_ok (.inl (by omega)))) rfl) rfl)) em2) rfl) et) ?_)
    dsimp only [List.set]
    refine go_meth (ds := ss.map stepD) (as := [stepD ⟨more % mz, more / 16 % 2 == 1, takes, fills⟩]) (ds' := (ss ++ [(⟨more % mz, more / 16 % 2 == 1, takes, fills⟩ : Step')]).map stepD) rfl (aCons_ok (aTup_ok (aCons_ok (dO_ok rfl rfl (modD_ok (by omega))) (aCons_ok (dO_ok (dO_ok (dO_ok rfl rfl (fdivD_ok ⟨by omega, by omega⟩)) rfl (modD_ok (by omega))) rfl (eqI _ _)) rfl)) (by simp)) rfl) ?_ ?_
    · rw [append_ok (by rw [List.length_map]; omega), List.map_append]; rfl
    · dsimp only [List.set]
      refine ⟨_, _, _, _, _, rfl, by rw [List.length_append, List.length_singleton]; omega, fun s hs => ?_⟩
      rcases List.mem_append.mp hs with hs | hs
      · exact hso s hs
      · rw [List.mem_singleton.mp hs]
        exact ⟨Int.emod_nonneg _ (by omega), Int.emod_lt_of_pos _ (by omega), ht, hf⟩
  rintro e ⟨ss, v, v1, v2, v3, rfl, hss, hso⟩
  rw [rng_len] at hss
  obtain ⟨a1, ea1, a10, a11⟩ := mix_ok ns (first + 12) hl (by omega) (by omega)
  obtain ⟨a2, ea2, a20, a21⟩ := mix_ok ns (first + 13) hl (by omega) (by omega)
  obtain ⟨a3, ea3, a30, a31⟩ := mix_ok ns (first + 14) hl (by omega) (by omega)
  refine go_cons (go_set (d := .int (a1 % 2 ^ 32)) (dO_ok (dCal_ok (xs := [scr ns, .int (first + 12)]) rfl ea1) (y := .int (2 ^ 32)) rfl (modD_ok (by omega))) ?_)
  refine go_cons (go_set (d := .int (a2 % 2 ^ 32 * 2 ^ 32 + a1 % 2 ^ 32)) (dO_ok (dO_ok (dO_ok (dCal_ok (xs := [scr ns, .int (first + 13)]) rfl ea2) (y := .int (2 ^ 32)) rfl (modD_ok (by omega))) (y := .int (2 ^ 32)) rfl (mulI_ok (.inr (by omega)))) rfl rfl) ?_)
  dsimp only [List.set]
  have hpw : (0 : Int) < 1 * 2 ^ ((mz : Int)).toNat := by rw [Int.one_mul]; exact Int.pow_pos (by omega)
  have hsh : shlD (.int 1) (.int mz) = some (.int (1 * 2 ^ ((mz : Int)).toNat)) := if_pos ⟨by omega, by omega, by decide⟩
  refine go_ret (d := Gr.d ⟨wr, ss, a2 % 2 ^ 32 * 2 ^ 32 + a1 % 2 ^ 32, a3 % 2 ^ 10 % (1 * 2 ^ ((mz : Int)).toNat)⟩) (aTup_ok (aCons_ok rfl (aCons_ok rfl (aCons_ok rfl (aCons_ok (dO_ok (dO_ok (dCal_ok (xs := [scr ns, .int (first + 14)]) rfl ea3) (y := .int (2 ^ 10)) rfl (modD_ok (by omega))) (dO_ok rfl rfl hsh) (modD_ok hpw)) rfl)))) (by simp)) ⟨_, rfl, ?_⟩
  have hn : wr.map (·.1) = ws := by rw [hwt, List.take_of_length_le (by omega)]
  exact { w1 := by show 1 ≤ wr.length; omega
          w2 := by show wr.length ≤ 10; omega
          nm := fun w hw => hwo w.1 (by rw [← hn]; exact List.mem_map_of_mem hw)
          nd := by show (wr.map (·.1)).Nodup; rw [hn]; exact hwn
          s1 := by show 1 ≤ ss.length; omega
          s2 := by show ss.length ≤ 24; omega
          sw := fun s hs => by show 0 ≤ s.w ∧ s.w < wr.length ∧ _; rw [hwr, ← hmz]; exact hso s hs
          m0 := by show 0 ≤ a2 % 2 ^ 32 * 2 ^ 32 + a1 % 2 ^ 32; omega
          m1 := by show a2 % 2 ^ 32 * 2 ^ 32 + a1 % 2 ^ 32 < 2 ^ 64; omega
          c0 := Int.emod_nonneg _ (by omega)
          c1 := by
            show a3 % 2 ^ 10 % (1 * 2 ^ ((mz : Int)).toNat) < 2 ^ wr.length
            rw [hwr, hmz, Int.toNat_natCast, Int.one_mul]
            exact Int.emod_lt_of_pos _ (Int.pow_pos (by omega)) }
end K12
set_option Elab.async false
set_option linter.all false
set_option maxRecDepth 100000
namespace K12
open PySem PySem.Spec PyProof.Rows L2
theorem k_bb : kitB "bool" "bool" = some true := by decide +kernel
theorem k_ib : kitB "int" "bool" = some false := by decide +kernel
theorem k_ii : kitB "int" "int" = some true := by decide +kernel
theorem k_sb : kitB "str" "bool" = some false := by decide +kernel
theorem k_si : kitB "str" "int" = some false := by decide +kernel
theorem k_ss : kitB "str" "str" = some true := by decide +kernel
theorem k_lb : kitB "list" "bool" = some false := by decide +kernel
theorem k_li : kitB "list" "int" = some false := by decide +kernel
theorem k_ls : kitB "list" "str" = some false := by decide +kernel
theorem k_lt : kitB "list" "tuple" = some false := by decide +kernel
theorem k_ll : kitB "list" "list" = some true := by decide +kernel
theorem dI_ok {f : Ev → Option Dat} {env : Ev} {d : Dat} {t T : String} {b : Bool} (h : f env = some d) (ht : tyN d = some t) (hk : kitB t T = some b) : dI T f env = some (.bl b) := by
  unfold dI; rw [h]; show (isiB T d).map _ = _; unfold isiB; rw [ht]; show Option.map _ (kitB t T) = _; rw [hk]; rfl
theorem dT_ok {f : Ev → Option Dat} {env : Ev} {b : Bool} (h : f env = some (.bl b)) : dT f env = some b := by unfold dT; rw [h]; rfl
theorem dAndT {f g : Ev → Option Dat} {env : Ev} {d : Dat} (h : f env = some (.bl true)) (h2 : g env = some d) : dAnd f g env = some d := by unfold dAnd; rw [dB_ok h]; exact h2
theorem dNot_ok {f : Ev → Option Dat} {env : Ev} {b : Bool} (h : f env = some (.bl b)) : dNot f env = some (.bl (!b)) := by unfold dNot; rw [dB_ok h]; rfl
theorem tNot_ok {t : Ev → Option Bool} {env : Ev} {b : Bool} (h : t env = some b) : tNotD t env = some (!b) := by unfold tNotD; rw [h]; rfl
theorem ok_of {r : Rs} {d0 : Dat} (h : ∃ d, r = .ok d ∧ d = d0) : r = .ok d0 := by obtain ⟨d, e, rfl⟩ := h; exact e
theorem eqF_int (i : Int) : eqF (.int i) (.int i) = some (.bl true) := by unfold eqF; rw [if_pos (by rfl)]; unfold eqD; simp
theorem eqF_str (i : Str) : eqF (.str i) (.str i) = some (.bl true) := by unfold eqF; rw [if_pos (by rfl)]; unfold eqD; simp
theorem eqF_bl (i : Bool) : eqF (.bl i) (.bl i) = some (.bl true) := by unfold eqF; rw [if_pos (by rfl)]; unfold eqD; simp
theorem ali_int (fl : Nat) (i : Int) : F__law_alike (fl + 1) [.int i, .int i] = .ok (.bl true) := by
  refine ok_of (run_of (n := 3) (p := 2) (ds := [.int i, .int i]) (R := fun d => d = .bl true) rfl ?_)
  show Go (bCons _ _ [.fz (.int i), .fz (.int i), .un]) _ _
  refine go_cons (go_ifF (dT_ok (dI_ok rfl rfl k_ib)) (go_nil ?_))
  refine go_cons (go_ifT (dT_ok (dI_ok rfl rfl k_ii)) (go_ret (dAndT (dI_ok rfl rfl k_ii) (dAndT (dNot_ok (dI_ok rfl rfl k_ib)) (dO_ok rfl rfl (eqF_int i)))) rfl))
theorem ali_str (fl : Nat) (i : Str) : F__law_alike (fl + 1) [.str i, .str i] = .ok (.bl true) := by
  refine ok_of (run_of (n := 3) (p := 2) (ds := [.str i, .str i]) (R := fun d => d = .bl true) rfl ?_)
  show Go (bCons _ _ [.fz (.str i), .fz (.str i), .un]) _ _
  refine go_cons (go_ifF (dT_ok (dI_ok rfl rfl k_sb)) (go_nil ?_))
  refine go_cons (go_ifF (dT_ok (dI_ok rfl rfl k_si)) (go_nil ?_))
  refine go_cons (go_ifT (dT_ok (dI_ok rfl rfl k_ss)) (go_ret (dAndT (dI_ok rfl rfl k_ss) (dO_ok rfl rfl (eqF_str i))) rfl))
theorem ali_bl (fl : Nat) (i : Bool) : F__law_alike (fl + 1) [.bl i, .bl i] = .ok (.bl true) := by
  refine ok_of (run_of (n := 3) (p := 2) (ds := [.bl i, .bl i]) (R := fun d => d = .bl true) rfl ?_)
  show Go (bCons _ _ [.fz (.bl i), .fz (.bl i), .un]) _ _
  refine go_cons (go_ifT (dT_ok (dI_ok rfl rfl k_bb)) (go_ret (dAndT (dI_ok rfl rfl k_bb) (dO_ok rfl rfl (eqF_bl i))) rfl))
theorem neF_len (n : Int) : neF (.int n) (.int n) = some (.bl false) := by unfold neF; rw [if_pos (by rfl)]; unfold eqD; simp
theorem ali_lst (fl : Nat) (xs : List Dat) (hl : xs.length ≤ 1000) (h : ∀ x ∈ xs, F__law_alike fl [x, x] = .ok (.bl true)) : F__law_alike (fl + 1) [.lst xs, .lst xs] = .ok (.bl true) := by
  refine ok_of (run_of (n := 3) (p := 2) (ds := [.lst xs, .lst xs]) (R := fun d => d = .bl true) rfl ?_)
  show Go (bCons _ _ [.fz (.lst xs), .fz (.lst xs), .un]) _ _
  refine go_cons (go_ifF (dT_ok (dI_ok rfl rfl k_lb)) (go_nil ?_))
  refine go_cons (go_ifF (dT_ok (dI_ok rfl rfl k_li)) (go_nil ?_))
  refine go_cons (go_ifF (dT_ok (dI_ok rfl rfl k_ls)) (go_nil ?_))
  refine go_cons (go_ifF (dT_ok (dI_ok rfl rfl k_lt)) (go_ifF (tNot_ok (dT_ok (dI_ok rfl rfl k_ll))) (go_nil ?_)))
  refine go_cons (go_ifF (dB_ok (dO_ok rfl rfl (neF_len _))) (go_nil ?_))
  refine go_cons (go_for (ds := rng 0 xs.length) (fun i e => ∃ v, e = [.fz (.lst xs), .fz (.lst xs), v]) (srcR1_eq (aCons_ok rfl rfl) (by omega)) ⟨.un, rfl⟩ ?_ ?_)
  · rintro i d e hi ⟨v, rfl⟩
    obtain ⟨hi1, rfl⟩ := rng_get hi
    rw [Int.zero_add]
    refine ⟨_, rfl, ?_⟩
    dsimp only [List.set]
    have hx : ixD (.lst xs) (.int i) = some xs[i] := ixL_nat (List.getElem?_eq_getElem hi1)
    refine go_ifF (tNot_ok (b := true) (dT_ok (dCal_ok (xs := [xs[i], xs[i]]) (aCons_ok (dO_ok rfl rfl hx) (aCons_ok (dO_ok rfl rfl hx) rfl)) (h _ (List.getElem_mem hi1))))) (go_nil ⟨_, rfl⟩)
  · rintro e ⟨v, rfl⟩
    exact go_ret rfl rfl
theorem ali_ints (fl : Nat) (ns : List Int) (hl : ns.length ≤ 1000) : F__law_alike (fl + 2) [.lst (ns.map .int), .lst (ns.map .int)] = .ok (.bl true) :=
  ali_lst (fl + 1) _ (by rw [List.length_map]; exact hl) fun x hx => by obtain ⟨i, _, rfl⟩ := List.mem_map.mp hx; exact ali_int fl i
theorem ali_strs (fl : Nat) (ns : List Str) (hl : ns.length ≤ 1000) : F__law_alike (fl + 2) [.lst (ns.map .str), .lst (ns.map .str)] = .ok (.bl true) :=
  ali_lst (fl + 1) _ (by rw [List.length_map]; exact hl) fun x hx => by obtain ⟨i, _, rfl⟩ := List.mem_map.mp hx; exact ali_str fl i
variable {G : Gr}
theorem dL_ok {g : Ev → Option (List Dat)} {env : Ev} {ds : List Dat} (h : g env = some ds) : dL g env = some (.lst ds) := by unfold dL; rw [h]; rfl
theorem dComp_ok {src : Ev → Option (List Dat)} {fs : List (Option Nat)} {g : Dat → Ev → Option Ev} {t : Ev → Option Bool} {f : Ev → Option Dat} {env env' : Ev} {xs ys : List Dat} (h1 : src env = some xs) (h2 : innerD fs env = env') (h3 : compL g t f env' xs = some ys) : dComp src fs g t f env = some ys := by
  unfold dComp; rw [h1, h2]; exact h3
theorem srcT_ok {f : Ev → Option Dat} {env : Ev} {xs : List Dat} (h : f env = some (.tup xs)) : srcL f env = some xs := by unfold srcL; rw [h]
theorem srcE_ok {f : Ev → Option Dat} {env : Ev} {xs : List Dat} (h : f env = some (.tup xs)) : srcE f env = some (numb 0 xs) := by unfold srcE; rw [srcT_ok h]; rfl
def Gr.names (G : Gr) : List Str := G.wires.map (·.1)
theorem compL_all {g : Dat → Ev → Option Ev} {t : Ev → Option Bool} {f : Ev → Option Dat} {env : Ev} {α : Type} (D : α → Dat) (y : α → Dat) : ∀ (xs : List α), (∀ x ∈ xs, ∃ e1, g (D x) env = some e1 ∧ t e1 = some true ∧ f e1 = some (y x)) → compL g t f env (xs.map D) = some (xs.map y)
  | [], _ => rfl
  | x :: xs, h => by
    obtain ⟨e1, a1, a2, a3⟩ := h x List.mem_cons_self
    have ih := compL_all D y xs fun z hz => h z (List.mem_cons_of_mem _ hz)
    rw [List.map_cons, compL, a1]
    dsimp only [Option.bind]
    rw [a2]
    dsimp only
    rw [if_pos rfl, a3]
    dsimp only
    rw [ih]
    rfl
theorem names_ok (G : Gr) : F_names [G.d] = .ok (.lst (G.names.map .str)) := by
  refine ok_of (run_of (n := 1) (p := 1) (ds := [G.d]) (g := g_names) (R := fun d => d = .lst (G.names.map .str)) rfl ?_)
  show Go (g_names [.fz G.d]) _ _
  unfold g_names
  refine go_ret (dL_ok (dComp_ok (xs := G.wires.map wireD) (env' := [.un, .un]) (srcT_ok rfl) rfl (compL_all wireD (fun w => .str w.1) G.wires fun w _ => ⟨_, rfl, rfl, rfl⟩))) ?_
  unfold Gr.names
  rw [List.map_map]; rfl
def places {α : Type} (p : α → Bool) : Nat → List α → List Int
  | _, [] => []
  | k, x :: xs => if p x = true then (k : Int) :: places p (k + 1) xs else places p (k + 1) xs
theorem comp_numb {g : Dat → Ev → Option Ev} {t : Ev → Option Bool} {f : Ev → Option Dat} {env : Ev} {α : Type} (D : α → Dat) (p : α → Bool) : ∀ (xs : List α) (k : Nat), (∀ x ∈ xs, ∀ n : Int, ∃ e1, g (.tup [.int n, D x]) env = some e1 ∧ t e1 = some (p x) ∧ f e1 = some (.int n)) → compL g t f env (numb k (xs.map D)) = some ((places p k xs).map .int)
  | [], _, _ => rfl
  | x :: xs, k, h => by
    obtain ⟨e1, a1, a2, a3⟩ := h x List.mem_cons_self k
    have ih := comp_numb D p xs (k + 1) fun z hz => h z (List.mem_cons_of_mem _ hz)
    rw [List.map_cons, numb, compL, a1]
    dsimp only [Option.bind]
    rw [a2]
    dsimp only
    rw [places]
    cases hp : p x with
    | true => rw [if_pos rfl, a3]; dsimp only; rw [ih, if_pos rfl]; rfl
    | false => rw [if_neg (by decide), ih, if_neg (by decide)]
theorem comp_rng {t : Ev → Option Bool} {f : Ev → Option Dat} {g : Dat → Ev → Option Ev} {env : Ev} {α : Type} (p : α → Bool) : ∀ (xs : List α) (k : Nat), (∀ i x, xs[i]? = some x → ∃ e1, g (.int ((k + i : Nat) : Int)) env = some e1 ∧ t e1 = some (p x) ∧ f e1 = some (.int ((k + i : Nat) : Int))) → compL g t f env ((List.range' k xs.length).map fun i : Nat => Dat.int (i : Int)) = some ((places p k xs).map .int)
  | [], _, _ => rfl
  | x :: xs, k, h => by
    obtain ⟨e1, a1, a2, a3⟩ := h 0 x rfl
    have ih := comp_rng p xs (k + 1) fun i z hz => by
      have := h (i + 1) z (by simpa using hz)
      rw [show k + 1 + i = k + (i + 1) by omega]; exact this
    rw [List.length_cons, List.range'_succ, List.map_cons, compL, show (k : Int) = ((k + 0 : Nat) : Int) from rfl, a1]
    dsimp only [Option.bind]
    rw [a2]
    dsimp only
    rw [places]
    cases hp : p x with
    | true => rw [if_pos rfl, a3]; dsimp only; rw [ih, if_pos rfl]; rfl
    | false => rw [if_neg (by decide), ih, if_neg (by decide)]
theorem rng_range' (n : Nat) : rng 0 n = (List.range' 0 n).map fun i : Nat => Dat.int (i : Int) := by
  rw [rng_eq, List.map_map, ← List.range_eq_range']; rfl
theorem places_len {α : Type} (p : α → Bool) : ∀ (xs : List α) (k : Nat), (places p k xs).length ≤ xs.length
  | [], _ => Nat.le_refl _
  | x :: xs, k => by
    have := places_len p xs (k + 1)
    rw [places]; split
    · rw [List.length_cons, List.length_cons]; omega
    · rw [List.length_cons]; omega
theorem eq_made (b : Bool) : eqF (.str (if b then "made" else "given")) (.str "made") = some (.bl b) := by
  cases b
  · show eqF (.str "given") (.str "made") = _
    unfold eqF; rw [if_pos (by rfl)]; unfold eqD
    rw [show (("given" : Str) == "made") = false by decide +kernel]
  · exact eqF_str _
def Gr.own (G : Gr) : List Int := places (fun w : Str × Bool => w.2) 0 G.wires
theorem is_made_ok (G : Gr) (i : Nat) (w : Str × Bool) (h : G.wires[i]? = some w) : F_is_made [G.d, .int (i : Int)] = .ok (.bl w.2) := by
  refine ok_of (run_of (n := 2) (p := 2) (ds := [G.d, .int (i : Int)]) (g := g_is_made) (R := fun d => d = .bl w.2) rfl ?_)
  show Go (g_is_made [.fz G.d, .fz (.int (i : Int))]) _ _
  unfold g_is_made
  exact go_ret (dO_ok (dO_ok (dO_ok (dO_ok rfl rfl rfl) rfl (ixT_nat (x := wireD w) (by rw [List.getElem?_map, h]; rfl))) rfl rfl) rfl (eq_made w.2)) rfl
theorem made_ok (G : Gr) (hl : G.wires.length ≤ 1000) : F_made [G.d] = .ok (.lst (G.own.map .int)) := by
  refine ok_of (run_of (n := 1) (p := 1) (ds := [G.d]) (g := g_made) (R := fun d => d = .lst (G.own.map .int)) rfl ?_)
  show Go (g_made [.fz G.d]) _ _
  unfold g_made
  have hlen : lenD [.tup (G.wires.map wireD)] = some (.int (G.wires.length : Int)) := by show some (Dat.int _) = _; rw [List.length_map]
  refine go_ret (dL_ok (dComp_ok (xs := rng 0 G.wires.length) (env' := [.un, .fz G.d]) (srcR1_eq (aCons_ok (dF_ok (aCons_ok (dO_ok rfl rfl rfl) rfl) hlen) rfl) (by omega)) rfl ?_)) rfl
  rw [rng_range']
  exact comp_rng (fun w : Str × Bool => w.2) G.wires 0 fun i w hw => ⟨[.fz (.int ((0 + i : Nat) : Int)), .fz G.d], rfl, dT_ok (dCal_ok (xs := [G.d, .int ((0 + i : Nat) : Int)]) rfl (by rw [Nat.zero_add]; exact is_made_ok G i w hw)), rfl⟩
theorem eqI' (i j : Int) : eqF (.int i) (.int j) = some (.bl (i == j)) := rfl
theorem eqB' (i j : Bool) : eqF (.bl i) (.bl j) = some (.bl (i == j)) := rfl
def Gr.of (G : Gr) (w : Int) (up : Bool) : List Int := places (fun s : Step' => s.w == w && s.up == up) 0 G.steps
theorem steps_of_ok (G : Gr) (w : Int) (up : Bool) : F_steps_of [G.d, .int w, .bl up] = .ok (.lst ((G.of w up).map .int)) := by
  refine ok_of (run_of (n := 3) (p := 3) (ds := [G.d, .int w, .bl up]) (g := g_steps_of) (R := fun d => d = .lst ((G.of w up).map .int)) rfl ?_)
  show Go (g_steps_of [.fz G.d, .fz (.int w), .fz (.bl up)]) _ _
  unfold g_steps_of
  exact go_ret (dL_ok (dComp_ok (xs := numb 0 (G.steps.map stepD)) (env' := [.un, .un, .fz (.int w), .fz (.bl up)]) (srcE_ok rfl) rfl (comp_numb stepD (fun s => s.w == w && s.up == up) G.steps 0 fun s _ n => ⟨[.fz (.int n), .fz (stepD s), .fz (.int w), .fz (.bl up)], rfl, tAnd_ok (dB_ok (dO_ok (dO_ok rfl rfl rfl) rfl (eqI' s.w w))) (fun _ => dB_ok (dO_ok (dO_ok rfl rfl rfl) rfl (eqB' s.up up))), rfl⟩))) rfl
end K12
set_option Elab.async false
set_option linter.all false
set_option maxRecDepth 100000
namespace K12
open PySem PySem.Spec PyProof.Rows L2
def nameB (z : Str) : Bool := if (decide ((z.length : Int) < 1) || (decide ((8 : Int) < (z.length : Int)) || decide (z ∈ kept5))) = true then false else (cl z).all fun c => inS ⟨#[c]⟩ letters
theorem bls_map (bs : List Bool) : allD [.lst (bs.map .bl)] = some (.bl (bs.all id)) := by unfold allD; dsimp only; rw [blsD_map]; rfl
theorem is_name_ok (z : Str) : F_is_name [.str z] = .ok (.bl (nameB z)) := by
  refine ok_of (run_of (n := 1) (p := 1) (ds := [.str z]) (g := g_is_name) (R := fun d => d = .bl (nameB z)) rfl ?_)
  show Go (g_is_name [.fz (.str z)]) _ _
  unfold g_is_name
  refine go_cons (go_if (tOr_ok (a := decide ((z.length : Int) < 1)) (b := decide ((8 : Int) < (z.length : Int)) || decide (z ∈ kept5)) rfl fun _ => tOr_ok rfl fun _ => dB_ok (dO_ok rfl rfl (inF_tup z kept5))) (fun hb => ?_) (fun hb => go_nil ?_))
  · exact go_ret rfl (by unfold nameB; rw [if_pos hb])
  · refine go_ret (d := .bl ((cl z).all fun c => inS ⟨#[c]⟩ letters)) (dF_ok (aCons_ok (dL_ok (ds := ((cl z).map fun c => inS ⟨#[c]⟩ letters).map .bl) (dComp_ok (xs := (cl z).map fun c => Dat.str ⟨#[c]⟩) (env' := [.un]) rfl rfl ?_)) rfl) ?_) (by unfold nameB; rw [if_neg (by rw [hb]; decide)])
    · rw [compL_all (fun c => Dat.str ⟨#[c]⟩) (fun c => .bl (inS ⟨#[c]⟩ letters)) (cl z) fun c _ => ⟨[.fz (.str ⟨#[c]⟩)], rfl, rfl, rfl⟩, List.map_map]; rfl
    · rw [bls_map, List.all_map]; rfl
theorem str_empty (z : Str) : (z == ("" : Str)) = decide ((z.length : Int) < 1) := by
  have e0 : cl ("" : Str) = [] := by decide +kernel
  by_cases h : z = ""
  · subst h
    rw [show (("" : Str) == "") = true by simp]
    symm
    apply decide_eq_true
    rw [← cl_len, e0]; decide
  · rw [show (z == ("" : Str)) = false by simpa using h]
    symm
    apply decide_eq_false
    intro hz
    apply h
    refine cl_ext ?_
    rw [e0]
    apply List.eq_nil_of_length_eq_zero
    rw [cl_len]; omega
theorem eqS' (i j : Str) : eqF (.str i) (.str j) = some (.bl (i == j)) := rfl
theorem law_is_name_ok (z : Str) : F__law_is_name [.str z] = .ok (.bl (nameB z)) := by
  refine ok_of (run_of (n := 2) (p := 1) (ds := [.str z]) (g := g__law_is_name) (R := fun d => d = .bl (nameB z)) rfl ?_)
  show Go (g__law_is_name [.fz (.str z), .un]) _ _
  unfold g__law_is_name
  have hc : tOrD (dB (dO eqF (dV 0) (dC (.str "")))) (tOrD (dB (dO gtD (dF lenD (aCons (dV 0) aNil)) (dC (.int 8)))) (dB (dO inF (dV 0) (dL (aLst (aCons (dC (.str "given")) (aCons (dC (.str "made")) (aCons (dC (.str "up")) (aCons (dC (.str "down")) (aCons (dC (.str "start")) aNil)))))))))) [.fz (.str z), .un] = some (decide ((z.length : Int) < 1) || (decide ((8 : Int) < (z.length : Int)) || decide (z ∈ kept5))) := by
    rw [← str_empty]
    exact tOr_ok (dB_ok (dO_ok rfl rfl (eqS' z ""))) fun _ => tOr_ok rfl fun _ => dB_ok (dO_ok rfl rfl (inF_lst z kept5))
  refine go_cons (go_if hc (fun hb => ?_) (fun hb => go_nil ?_))
  · exact go_ret rfl (by unfold nameB; rw [if_pos hb])
  have hne : ¬ (decide ((z.length : Int) < 1) || (decide ((8 : Int) < (z.length : Int)) || decide (z ∈ kept5))) = true := by rw [hb]; decide
  refine go_cons (go_for (ds := (cl z).map fun c => Dat.str ⟨#[c]⟩) (fun i e => (∃ v, e = [.fz (.str z), v]) ∧ ∀ j, j < i → ∀ c, (cl z)[j]? = some c → inS ⟨#[c]⟩ letters = true) rfl ⟨⟨.un, rfl⟩, fun j hj => by omega⟩ ?_ ?_)
  · rintro i d e hi ⟨⟨v, rfl⟩, hall⟩
    rw [List.getElem?_map] at hi
    obtain ⟨c, hc1, rfl⟩ := map_some hi
    refine ⟨[.fz (.str z), .fz (.str ⟨#[c]⟩)], rfl, ?_⟩
    refine go_if (b := !(inS ⟨#[c]⟩ letters)) rfl (fun hq => ?_) (fun hq => go_nil ⟨⟨_, rfl⟩, fun j hj c' hc' => ?_⟩)
    · refine go_ret rfl ?_
      unfold nameB
      rw [if_neg hne]
      have : (cl z).all (fun c => inS ⟨#[c]⟩ letters) = false := List.all_eq_false.mpr ⟨c, List.mem_of_getElem? hc1, by simpa using hq⟩
      rw [this]
    · rcases Nat.lt_or_ge j i with hlt | hge
      · exact hall j hlt c' hc'
      · have : j = i := by omega
        subst this
        rw [hc1] at hc'
        cases hc'
        simpa using hq
  · rintro e ⟨⟨v, rfl⟩, hall⟩
    refine go_ret rfl ?_
    unfold nameB
    rw [if_neg hne]
    have : (cl z).all (fun c => inS ⟨#[c]⟩ letters) = true := List.all_eq_true.mpr fun c hc2 => by
      obtain ⟨j, hj, rfl⟩ := List.mem_iff_getElem.mp hc2
      exact hall j (by rw [List.length_map]; exact hj) _ (List.getElem?_eq_getElem hj)
    rw [this]
abbrev signs : Str := " !\"#$&'()*+,-./0123456789:;<=>?@ABCDEFGHIJKLMNOPQRSTUVWXYZ[\\]^_`{|}~"
theorem signs_len : (signs ++ letters).length = 94 := by decide +kernel
theorem texts_ok (ns : List Int) (w : Str) (hl : ns.length ≤ 63) (w1 : 1 ≤ w.length) (w2 : w.length ≤ 8) : ∃ zs : List Str, F__law_texts [scr ns, .str w] = .ok (.lst (zs.map .str)) ∧ zs.length ≤ 100 := by
  have := run_of (n := 8) (p := 2) (ds := [scr ns, .str w]) (g := g__law_texts) (R := fun d => ∃ zs : List Str, d = .lst (zs.map .str) ∧ zs.length ≤ 100) rfl ?_
  · obtain ⟨d, e, r, rfl, h⟩ := this
    exact ⟨r, e, h⟩
  show Go (g__law_texts [.fz (scr ns), .fz (.str w), .un, .un, .un, .un, .un, .un]) _ _
  unfold g__law_texts
  obtain ⟨cell, ec, c0, c1⟩ := mix_ok ns 70 hl (by omega) (by omega)
  refine go_cons (go_set (dCal_ok (xs := [scr ns, .int 70]) rfl ec) ?_)
  refine go_cons (go_set (d := .str signs) rfl ?_)
  refine go_cons (go_set (d := .str (signs ++ letters)) (dO_ok rfl rfl (addS_ok (by decide +kernel))) ?_)
  dsimp only [List.set]
  generalize hS : signs ++ letters = S
  have hSl : S.length = 94 := by rw [← hS]; exact signs_len
  have b1 : 0 ≤ cell % (w.length : Int) := Int.emod_nonneg _ (by omega)
  have b2 : cell % (w.length : Int) < w.length := Int.emod_lt_of_pos _ (by omega)
  refine go_cons (go_set (d := .int (cell % (w.length : Int))) (dO_ok rfl rfl (modD_ok (by omega))) ?_)
  generalize cell % (w.length : Int) = at0 at b1 b2
  have g1 : 0 ≤ cell / 16 % (S.length : Int) := Int.emod_nonneg _ (by omega)
  have g2 : cell / 16 % (S.length : Int) < S.length := Int.emod_lt_of_pos _ (by omega)
  obtain ⟨n, hn⟩ : ∃ n : Nat, cell / 16 % (S.length : Int) = n := ⟨_, (Int.toNat_of_nonneg g1).symm⟩
  have hcl : (cl S).length = S.length := cl_len S
  have hnl : n < (cl S).length := by omega
  have hix : ixD (.str S) (.int (cell / 16 % (S.length : Int))) = some (.str ⟨#[(cl S)[n]]⟩) := by
    show (atI (cl S) _).map _ = _
    rw [hn, atI_nat (List.getElem?_eq_getElem hnl)]; rfl
  refine go_cons (go_set (dO_ok rfl (dO_ok (dO_ok rfl rfl (fdivD_ok ⟨by omega, by omega⟩)) rfl (modD_ok (by omega))) hix) ?_)
  generalize (cl S)[n] = sg
  dsimp only [List.set]
  have s1 := Txt.slice_le w none (some at0)
  have s2 := Txt.slice_le w (some (at0 + cell / 4096 % 2)) none
  refine go_cons (go_set (dO_ok (dO_ok (dS_ok rfl rfl (oSome_ok rfl) (slS_ok w none (some at0))) rfl (addS_ok (by show _ + 1 ≤ _; omega))) (dS_ok rfl (oSome_ok (i := at0 + cell / 4096 % 2) (dO_ok rfl (dO_ok (dO_ok rfl rfl (fdivD_ok ⟨by omega, by omega⟩)) rfl (modD_ok (by omega))) rfl)) rfl (slS_ok w (some (at0 + cell / 4096 % 2)) none)) (addS_ok (by rw [len_app]; show _ + 1 + _ ≤ _; omega))) ?_)
  have hmul : mulE (.str w) (.int 11) = some (.str (Txt.mul w 11)) := if_pos ⟨by omega, by omega, by omega⟩
  refine go_cons (go_set (dS_ok (dO_ok rfl rfl hmul) rfl (oSome_ok (i := 7 + cell / 8192 % 5) (dO_ok rfl (dO_ok (dO_ok rfl rfl (fdivD_ok ⟨by omega, by omega⟩)) rfl (modD_ok (by omega))) rfl)) (slS_ok (Txt.mul w 11) none (some (7 + cell / 8192 % 5)))) ?_)
  dsimp only [List.set]
  generalize Txt.slice w none (some at0) ++ (⟨#[sg]⟩ : Str) ++ Txt.slice w (some (at0 + cell / 4096 % 2)) none = t6
  generalize Txt.slice (Txt.mul w 11) none (some (7 + cell / 8192 % 5)) = t7
  refine go_ret (d := .lst ([w, t6, t7, "given", "made", "up", "down", "start", "", Txt.slice w (some 1) none, w ++ ("s" : Str)].map .str)) (dL_ok ?_) ⟨_, rfl, by simp⟩
  have hlast : dO addD (dV 1) (dC (.str "s")) [.fz (scr ns), .fz (.str w), .fz (.int cell), .fz (.str S), .fz (.int at0), .fz (.str ⟨#[sg]⟩), .fz (.str t6), .fz (.str t7)] = some (.str (w ++ ("s" : Str))) := dO_ok rfl rfl (addS_ok (by rw [show ("s" : Str).length = 1 by decide +kernel]; omega))
  unfold aLst
  rw [aCons_ok rfl (aCons_ok rfl (aCons_ok rfl (aCons_ok rfl (aCons_ok rfl (aCons_ok rfl (aCons_ok rfl (aCons_ok rfl (aCons_ok rfl (aCons_ok rfl (aCons_ok hlast rfl))))))))))]
  rfl
theorem dCalN_ok {F : List Dat → Rs} {fs : Ev → Option (List Dat)} {env : Ev} {xs ds : List Dat} (h1 : fs env = some xs) (h2 : F xs = .ok (.lst ds)) : dCalN F fs env = some ds := by unfold dCalN; rw [h1]; show lstR (F xs) = _; rw [h2]; rfl
theorem dCalP_ok {F : List Dat → Rs} {fs : Ev → Option (List Dat)} {env : Ev} {xs : List Dat} {b : Bool} (h1 : fs env = some xs) (h2 : F xs = .ok (.bl b)) : dCalP F fs env = some (.bl b) := by unfold dCalP; rw [h1]; show (okR (F xs)).bind _ = _; rw [h2]; rfl
abbrev senv (G : Gr) (ord : Dat) (v6 v7 v8 v9 : Slt) : Ev := [.fz G.d, .fz ord, .fz (.tup (G.wires.map wireD)), .fz (.tup (G.steps.map stepD)), .fz (.int G.marks), .fz (.int G.code), v6, v7, v8, v9]
theorem due_ok (G : Gr) (hG : G.Ok) (ord : Dat) (w : Int) (up : Bool) (v8 v9 : Slt) : dComp (srcR1 (aCons (dF lenD (aCons (dV 3) aNil)) aNil)) [none, some 6, some 7, some 3] (gset 0) (tAndD (dB (dO eqF (dO ixD (dO ixD (dV 3) (dV 0)) (dC (.int 0))) (dV 1))) (dB (dO eqF (dO ixD (dO ixD (dV 3) (dV 0)) (dC (.int 1))) (dV 2)))) (dV 0) (senv G ord (.fz (.int w)) (.fz (.bl up)) v8 v9) = some ((G.of w up).map .int) := by
  have h2 := hG.s2
  refine dComp_ok (xs := rng 0 G.steps.length) (env' := [.un, .fz (.int w), .fz (.bl up), .fz (.tup (G.steps.map stepD))]) (srcR1_eq (aCons_ok (dF_ok (aCons_ok rfl rfl) (by show some (Dat.int ((G.steps.map stepD).length : Int)) = _; rw [List.length_map])) rfl) (by omega)) rfl ?_
  rw [rng_range']
  refine comp_rng (fun s : Step' => s.w == w && s.up == up) G.steps 0 fun i s hs => ?_
  rw [Nat.zero_add]
  have hx : ixD (.tup (G.steps.map stepD)) (.int i) = some (stepD s) := ixT_nat (by rw [List.getElem?_map, hs]; rfl)
  exact ⟨[.fz (.int i), .fz (.int w), .fz (.bl up), .fz (.tup (G.steps.map stepD))], rfl, tAnd_ok (dB_ok (dO_ok (dO_ok (dO_ok rfl rfl hx) rfl rfl) rfl (eqI' s.w w))) (fun _ => dB_ok (dO_ok (dO_ok (dO_ok rfl rfl hx) rfl rfl) rfl (eqB' s.up up))), rfl⟩
theorem of_len (G : Gr) (hG : G.Ok) (w : Int) (up : Bool) : (G.of w up).length ≤ 24 := Nat.le_trans (places_len _ _ _) hG.s2
theorem steps_right_ok (G : Gr) (hG : G.Ok) (ord : List Int) : F__law_steps_right [G.d, .lst (ord.map .int)] = .ok (.bl true) := by
  refine ok_of (run_of (n := 10) (p := 2) (ds := [G.d, .lst (ord.map .int)]) (g := g__law_steps_right) (R := fun d => d = .bl true) rfl ?_)
  show Go (g__law_steps_right [.fz G.d, .fz (.lst (ord.map .int)), .un, .un, .un, .un, .un, .un, .un, .un]) _ _
  unfold g__law_steps_right
  refine go_cons (go_asg (d := G.d) (env' := senv G (.lst (ord.map .int)) .un .un .un .un) rfl rfl ?_)
  refine go_cons (go_for (ds := ord.map .int) (fun _ e => ∃ v6 v7 v8 v9, e = senv G (.lst (ord.map .int)) v6 v7 v8 v9) rfl ⟨_, _, _, _, rfl⟩ ?_ ?_)
  · rintro i d e hi ⟨v6, v7, v8, v9, rfl⟩
    rw [List.getElem?_map] at hi
    obtain ⟨w, _, rfl⟩ := map_some hi
    refine ⟨senv G (.lst (ord.map .int)) (.fz (.int w)) v7 v8 v9, rfl, ?_⟩
    refine go_for (ds := [.bl true, .bl false]) (fun _ e => ∃ v7 v8 v9, e = senv G (.lst (ord.map .int)) (.fz (.int w)) v7 v8 v9) rfl ⟨_, _, _, rfl⟩ ?_ (fun e ⟨a, b, c, h⟩ => ⟨_, a, b, c, h⟩)
    rintro j d e hj ⟨v7, v8, v9, rfl⟩
    have hd : ∃ up, d = .bl up := by
      have := List.mem_of_getElem? hj
      rcases List.mem_cons.mp this with h | h
      · exact ⟨_, h⟩
      · exact ⟨_, List.mem_singleton.mp h⟩
    obtain ⟨up, rfl⟩ := hd
    refine ⟨senv G (.lst (ord.map .int)) (.fz (.int w)) (.fz (.bl up)) v8 v9, rfl, ?_⟩
    have hlen := of_len G hG w up
    refine go_cons (go_set (d := .lst ((G.of w up).map .int)) (dL_ok (due_ok G hG _ w up v8 v9)) ?_)
    refine go_cons (go_own (ds := (G.of w up).map .int) (dCalN_ok (xs := [G.d, .int w, .bl up]) rfl (steps_of_ok G w up)) ?_)
    refine go_cons (go_ifF (tNot_ok (b := true) (dT_ok (dCalP_ok (xs := [.lst ((G.of w up).map .int), .lst ((G.of w up).map .int)]) rfl (ali_ints 1 _ (by omega))))) (go_nil ?_))
    refine go_cons (go_meth (ds := (G.of w up).map .int) (as := [.int 0]) rfl rfl (append_ok (by rw [List.length_map]; omega)) ?_)
    refine go_ifF (tNot_ok (b := true) (dT_ok (dCal_ok (xs := [.lst ((G.of w up).map .int), .lst ((G.of w up).map .int)]) (aCons_ok (dCal_ok (xs := [G.d, .int w, .bl up]) rfl (steps_of_ok G w up)) rfl) (ali_ints 1 _ (by omega))))) (go_nil ?_)
    exact ⟨_, _, _, rfl⟩
  · rintro e ⟨v6, v7, v8, v9, rfl⟩
    exact go_ret rfl rfl
theorem law_ok (ns : List Int) (hl : ns.length ≤ 63) : F_law [.lst (ns.map .int)] = .ok (.bl true) := by
  refine ok_of (run_of (n := 11) (p := 1) (ds := [scr ns]) (g := g_law) (R := fun d => d = .bl true) rfl ?_)
  show Go (g_law [.fz (scr ns), .un, .un, .un, .un, .un, .un, .un, .un, .un, .un]) _ _
  unfold g_law
  obtain ⟨G, eG, hG⟩ := graph_ok ns 0 hl (by omega) (by omega)
  have hw1 := hG.w1
  have hw2 := hG.w2
  have hnl : G.names.length = G.wires.length := by unfold Gr.names; rw [List.length_map]
  have hol : G.own.length ≤ 10 := Nat.le_trans (places_len _ _ _) hw2
  refine go_cons (go_set (dCal_ok (xs := [scr ns, .int 0]) rfl eG) ?_)
  refine go_cons (go_asg (d := G.d) (env' := [.fz (scr ns), .fz G.d, .fz (.tup (G.wires.map wireD)), .fz (.tup (G.steps.map stepD)), .fz (.int G.marks), .fz (.int G.code), .un, .un, .un, .un, .un]) rfl rfl ?_)
  refine go_cons (go_set (d := .lst (G.names.map .str)) (dL_ok (dComp_ok (xs := G.wires.map wireD) (env' := [.un]) rfl rfl ?_)) ?_)
  · rw [compL_all wireD (fun w => .str w.1) G.wires fun w _ => ⟨[.fz (wireD w)], rfl, rfl, rfl⟩]
    unfold Gr.names; rw [List.map_map]; rfl
  refine go_cons (go_set (d := .lst (G.own.map .int)) (dL_ok (dComp_ok (xs := rng 0 G.wires.length) (env' := [.un, .fz (.tup (G.wires.map wireD))]) (srcR1_eq (aCons_ok (dF_ok (aCons_ok rfl rfl) (by show some (Dat.int ((G.wires.map wireD).length : Int)) = _; rw [List.length_map])) rfl) (by omega)) rfl ?_)) ?_)
  · rw [rng_range']
    refine comp_rng (fun w : Str × Bool => w.2) G.wires 0 fun i w hs => ?_
    rw [Nat.zero_add]
    have hx : ixD (.tup (G.wires.map wireD)) (.int i) = some (wireD w) := ixT_nat (by rw [List.getElem?_map, hs]; rfl)
    exact ⟨[.fz (.int i), .fz (.tup (G.wires.map wireD))], rfl, dB_ok (dO_ok (dO_ok (dO_ok rfl rfl hx) rfl rfl) rfl (eq_made w.2)), rfl⟩
  refine go_cons (go_own (dCalN_ok (xs := [G.d]) rfl (names_ok G)) ?_)
  refine go_cons (go_own (dCalN_ok (xs := [G.d]) rfl (made_ok G (by have := hG.w2; omega))) ?_)
  have a1 : F__law_alike 3 [.lst (G.names.map .str), .lst (G.names.map .str)] = .ok (.bl true) := ali_strs 1 _ (by omega)
  have a2 : F__law_alike 3 [.lst (G.own.map .int), .lst (G.own.map .int)] = .ok (.bl true) := ali_ints 1 _ (by omega)
  refine go_cons (go_ifF (tOr_ok (a := false) (b := false) (tNot_ok (b := true) (dT_ok (dCalP_ok (xs := [.lst (G.names.map .str), .lst (G.names.map .str)]) rfl a1))) fun _ => tNot_ok (b := true) (dT_ok (dCalP_ok (xs := [.lst (G.own.map .int), .lst (G.own.map .int)]) rfl a2))) (go_nil ?_))
  refine go_cons (go_meth0 (ds := G.names.map .str) (ds' := []) rfl rfl ?_)
  refine go_cons (go_meth (ds := G.own.map .int) (as := [.int 0]) rfl rfl (append_ok (by rw [List.length_map]; omega)) ?_)
  refine go_cons (go_ifF (tOr_ok (a := false) (b := false) (tNot_ok (b := true) (dT_ok (dCal_ok (xs := [.lst (G.names.map .str), .lst (G.names.map .str)]) (aCons_ok (dCal_ok (xs := [G.d]) rfl (names_ok G)) rfl) a1))) fun _ => tNot_ok (b := true) (dT_ok (dCal_ok (xs := [.lst (G.own.map .int), .lst (G.own.map .int)]) (aCons_ok (dCal_ok (xs := [G.d]) rfl (made_ok G (by have := hG.w2; omega))) rfl) a2))) (go_nil ?_))
  have hne : G.names ≠ [] := fun e => by rw [e] at hnl; simp at hnl; omega
  have hlast : ixD (.lst (G.names.map .str)) (.int (-1)) = some (.str (G.names.getLast hne)) := by
    show atI _ (-1) = _
    rw [atI_last' _ (by rw [List.length_map]; omega), List.length_map, List.getElem?_map, List.getLast_eq_getElem hne, List.getElem?_eq_getElem (by omega)]
    rfl
  have hnm : NameOk (G.names.getLast hne) := by
    have := List.getLast_mem hne
    unfold Gr.names at this
    obtain ⟨w, hw, e⟩ := List.mem_map.mp this
    rw [show G.names.getLast hne = w.1 from e.symm]
    exact hG.nm w hw
  obtain ⟨zs, ez, hz⟩ := texts_ok ns (G.names.getLast hne) hl hnm.1 hnm.2.1
  refine go_cons (go_for (ds := zs.map .str) (fun _ e => ∃ v10, e = [.fz (scr ns), .fz G.d, .fz (.tup (G.wires.map wireD)), .fz (.tup (G.steps.map stepD)), .fz (.int G.marks), .fz (.int G.code), .fz (.lst (G.names.map .str)), .fz (.lst (G.own.map .int)), .ow [], .ow (G.own.map .int ++ [.int 0]), v10]) ?_ ⟨_, rfl⟩ ?_ ?_)
  · unfold srcL
    rw [dCal_ok (xs := [scr ns, .str (G.names.getLast hne)]) (aCons_ok rfl (aCons_ok (dO_ok rfl (y := .int (-1)) rfl hlast) rfl)) ez]
  · rintro i d e hi ⟨v, rfl⟩
    rw [List.getElem?_map] at hi
    obtain ⟨z, _, rfl⟩ := map_some hi
    refine ⟨_, rfl, ?_⟩
    refine go_ifF (tNot_ok (b := true) (dT_ok (dCal_ok (xs := [.bl (nameB z), .bl (nameB z)]) (aCons_ok (dCal_ok (xs := [.str z]) rfl (is_name_ok z)) (aCons_ok (dCal_ok (xs := [.str z]) rfl (law_is_name_ok z)) rfl)) (ali_bl 2 _)))) (go_nil ⟨_, rfl⟩)
  · rintro e ⟨v, rfl⟩
    refine go_ret (dCal_ok (xs := [G.d, .lst ((downI G.wires.length).map .int)]) (aCons_ok rfl (aCons_ok (dL_ok ?_) rfl)) (steps_right_ok G hG _)) rfl
    unfold dLRR
    rw [aCons_ok (dF_ok (aCons_ok rfl rfl) (by show some (Dat.int ((G.wires.map wireD).length : Int)) = some (Dat.int (G.wires.length : Int)); rw [List.length_map])) rfl]
    dsimp only
    rw [if_pos ⟨by omega, by omega⟩, downTo_eq, Int.toNat_natCast]
end K12
set_option Elab.async false
set_option linter.all false
set_option maxRecDepth 100000
set_option maxHeartbeats 4000000
namespace K11
open PySem PySem.Spec PyProof.Rows L2
noncomputable def g_bits : Ev → Fl := (bCons (sSet 1 (dC (.int 0)))
      (bCons (sFor (srcL (dV 0)) (gset 2) (sSet 1 (dO orD (dV 1) (dO shlD (dC (.int 1)) (dV 2)))))
      (sRet (dV 1))))
noncomputable def F_bits : List Dat → Rs := runD 3 1 g_bits
noncomputable def g_has_one : Ev → Fl := (sRet (dO eqF (dO andD (dO shrD (dV 0) (dV 1)) (dC (.int 1))) (dC (.int 1))))
noncomputable def F_has_one : List Dat → Rs := runD 2 2 g_has_one
noncomputable def g_ones : Ev → Fl := (sRet (dL (dComp (srcR1 (aCons (dM0 "int" bitlenD (dV 0)) aNil)) [none, some 0] (gset 0) (dT (dCal F_has_one (aCons (dV 1) (aCons (dV 0) aNil)))) (dV 0))))
noncomputable def F_ones : List Dat → Rs := runD 1 1 g_ones
noncomputable def g__law_cell_at : Ev → Fl := (bCons (sIf (dB (dO ltD (dV 1) (dF lenD (aCons (dV 0) aNil)))) (sRet (dO ixD (dV 0) (dV 1))) bNil)
      (sRet (dC (.int 0))))
noncomputable def F__law_cell_at : List Dat → Rs := runD 2 2 g__law_cell_at
noncomputable def F__law_alike : Nat → List Dat → Rs
  | 0 => fun _ => .no
  | fl + 1 => runD 3 2 ((bCons (sIf (dT (dI "bool" (dV 1))) (sRet (dAnd (dI "bool" (dV 0)) (dO eqF (dV 0) (dV 1)))) bNil)
      (bCons (sIf (dT (dI "int" (dV 1))) (sRet (dAnd (dI "int" (dV 0)) (dAnd (dNot (dI "bool" (dV 0))) (dO eqF (dV 0) (dV 1))))) bNil)
      (bCons (sIf (dT (dI "str" (dV 1))) (sRet (dAnd (dI "str" (dV 0)) (dO eqF (dV 0) (dV 1)))) bNil)
      (bCons (sIf (dT (dI "tuple" (dV 1))) (sIf (tNotD (dT (dI "tuple" (dV 0)))) (sRet (dC (.bl false))) bNil) (sIf (tNotD (dT (dI "list" (dV 0)))) (sRet (dC (.bl false))) bNil))
      (bCons (sIf (dB (dO neF (dF lenD (aCons (dV 0) aNil)) (dF lenD (aCons (dV 1) aNil)))) (sRet (dC (.bl false))) bNil)
      (bCons (sFor (srcR1 (aCons (dF lenD (aCons (dV 1) aNil)) aNil)) (gset 2) (sIf (tNotD (dT (dCal (F__law_alike fl) (aCons (dO ixD (dV 0) (dV 2)) (aCons (dO ixD (dV 1) (dV 2)) aNil))))) (sRet (dC (.bl false))) bNil))
      (sRet (dC (.bl true))))))))))
noncomputable def g__law_places : Ev → Fl := (bCons (sOwn 1 (aLst aNil))
      (bCons (sSet 2 (dC (.int 0)))
      (bCons (sWhile (dB (dO gtD (dV 0) (dC (.int 0)))) (bCons (sIf (dB (dO eqF (dO modD (dV 0) (dC (.int 2))) (dC (.int 1)))) (sMeth 1 appendF (aCons (dV 2) aNil)) bNil)
      (bCons (sSet 0 (dO fdivD (dV 0) (dC (.int 2))))
      (sSet 2 (dO addD (dV 2) (dC (.int 1)))))))
      (sRetO 1))))
noncomputable def F__law_places : List Dat → Rs := runD 3 1 g__law_places
noncomputable def g__law_number : Ev → Fl := (bCons (sSet 1 (dC (.int 0)))
      (bCons (sOwn 2 (aLst aNil))
      (bCons (sFor (srcL (dV 0)) (gset 3) (sIf (dB (dO ninF (dV 3) (dP 2))) (bCons (sMeth 2 appendF (aCons (dV 3) aNil))
      (bCons (sSet 4 (dC (.int 1)))
      (bCons (sFor (srcR1 (aCons (dV 3) aNil)) (gset 5) (sSet 4 (dO mulE (dV 4) (dC (.int 2)))))
      (sSet 1 (dO addD (dV 1) (dV 4)))))) bNil))
      (sRet (dV 1)))))
noncomputable def F__law_number : List Dat → Rs := runD 6 1 g__law_number
noncomputable def g_law : Ev → Fl := (bCons (sSet 1 (dL (dComp (srcL (dS slD (dV 0) (oSome (dC (.int 1))) (oSome (dC (.int 64))))) [none] (gset 0) tTrue (dO modD (dV 0) (dC (.int 100))))))
      (bCons (sSet 2 (dL (dF listN (aCons (dV 1) aNil))))
      (bCons (sSet 3 (dCal F_bits (aCons (dV 2) aNil)))
      (bCons (sIf (tOrD (tNotD (dT (dCal (F__law_alike 2) (aCons (dV 3) (aCons (dCal F__law_number (aCons (dV 1) aNil)) aNil))))) (dB (dO neF (dV 2) (dV 1)))) (sRet (dC (.bl false))) bNil)
      (bCons (sIf (tOrD (tNotD (dT (dCal (F__law_alike 2) (aCons (dCal F_ones (aCons (dV 3) aNil)) (aCons (dL (dSS (aCons (dV 1) aNil))) aNil))))) (tNotD (dT (dCal (F__law_alike 2) (aCons (dCal F_bits (aCons (dF tupleD (aCons (dV 1) aNil)) aNil)) (aCons (dV 3) aNil)))))) (sRet (dC (.bl false))) bNil)
      (bCons (sSet 4 (dO addD (dO modD (dCal F__law_cell_at (aCons (dV 0) (aCons (dC (.int 0)) aNil))) (dO powD (dC (.int 2)) (dC (.int 60)))) (dO mulE (dO modD (dCal F__law_cell_at (aCons (dV 0) (aCons (dC (.int 1)) aNil))) (dO powD (dC (.int 2)) (dC (.int 40)))) (dO powD (dC (.int 2)) (dC (.int 60))))))
      (bCons (sOwn 5 (dCalN F_ones (aCons (dV 4) aNil)))
      (bCons (sSet 6 (dCal F__law_places (aCons (dV 4) aNil)))
      (bCons (sIf (tOrD (tNotD (dT (dCalP (F__law_alike 2) (aCons (dP 5) (aCons (dV 6) aNil))))) (tNotD (dT (dCal (F__law_alike 2) (aCons (dCalP F_bits (aCons (dP 5) aNil)) (aCons (dV 4) aNil)))))) (sRet (dC (.bl false))) bNil)
      (bCons (sMeth 5 appendF (aCons (dC (.int 7)) aNil))
      (sRet (dAnd (dCal (F__law_alike 2) (aCons (dCal F_ones (aCons (dV 4) aNil)) (aCons (dV 6) aNil))) (dAnd (dCal (F__law_alike 2) (aCons (dCal F_bits (aCons (dL (aLst aNil)) aNil)) (aCons (dC (.int 0)) aNil))) (dCal (F__law_alike 2) (aCons (dCal F_ones (aCons (dC (.int 0)) aNil)) (aCons (dL (aLst aNil)) aNil))))))))))))))))
noncomputable def F_law : List Dat → Rs := runD 7 1 g_law
end K11
set_option Elab.async false
set_option linter.all false
set_option maxRecDepth 100000
namespace K11
open PySem PySem.Spec PyProof.Rows L2
theorem bitOr_nat (a b : Nat) : Builtin.bitOr (a : Int) (b : Int) = ((a ||| b : Nat) : Int) := by
  unfold Builtin.bitOr Builtin.bitAnd Builtin.bitNot
  have h1 : decide (0 ≤ -(a : Int) - 1) = false := by simp; omega
  have h2 : decide (0 ≤ -(b : Int) - 1) = false := by simp; omega
  rw [h1, h2]
  dsimp only
  rw [show (-(-(a : Int) - 1) - 1).toNat = a by omega, show (-(-(b : Int) - 1) - 1).toNat = b by omega]
  omega
theorem bitAnd_nat (a b : Nat) : Builtin.bitAnd (a : Int) (b : Int) = ((a &&& b : Nat) : Int) := by
  unfold Builtin.bitAnd
  rw [show decide (0 ≤ (a : Int)) = true by simp, show decide (0 ≤ (b : Int)) = true by simp]
  simp
def bitsN (ps : List Nat) : Nat := ps.foldl (fun a p => a ||| 2 ^ p) 0
theorem bits_from (ps : List Nat) : ∀ (a j : Nat), (ps.foldl (fun a p => a ||| 2 ^ p) a).testBit j = (a.testBit j || decide (j ∈ ps)) := by
  induction ps with
  | nil => intro a j; simp
  | cons p ps ih =>
    intro a j
    rw [List.foldl_cons, ih, Nat.testBit_or, Nat.testBit_two_pow]
    by_cases h : j = p
    · subst h; simp
    · have h' : ¬ p = j := fun e => h e.symm
      simp [h, h']
theorem bitsN_at (ps : List Nat) (j : Nat) : (bitsN ps).testBit j = decide (j ∈ ps) := by unfold bitsN; rw [bits_from]; simp
theorem bitsN_ext {ps qs : List Nat} (h : ∀ j, j ∈ ps ↔ j ∈ qs) : bitsN ps = bitsN qs := Nat.eq_of_testBit_eq fun j => by rw [bitsN_at, bitsN_at]; simp [h]
def onesN (n k : Nat) : List Nat := (List.range k).filter n.testBit
theorem onesN_mem {n k : Nat} (h : n < 2 ^ k) (j : Nat) : j ∈ onesN n k ↔ n.testBit j = true := by
  unfold onesN
  rw [List.mem_filter, List.mem_range]
  refine ⟨fun q => q.2, fun q => ⟨?_, q⟩⟩
  rcases Nat.lt_or_ge j k with h1 | h1
  · exact h1
  · have := Nat.testBit_lt_two_pow (Nat.lt_of_lt_of_le h (Nat.pow_le_pow_right (by decide) h1))
    rw [this] at q; cases q
theorem bits_ones {n k : Nat} (h : n < 2 ^ k) : bitsN (onesN n k) = n := Nat.eq_of_testBit_eq fun j => by
  rw [bitsN_at, Bool.eq_iff_iff, decide_eq_true_eq]; exact onesN_mem h j
theorem onesN_sorted (n k : Nat) : (onesN n k).Pairwise (· < ·) := List.Pairwise.filter _ List.pairwise_lt_range
theorem onesN_eq {n k m : Nat} (h : n < 2 ^ k) (h' : n < 2 ^ m) : onesN n k = onesN n m := by
  rcases Nat.le_total k m with hle | hle
  · obtain ⟨d, rfl⟩ := Nat.exists_eq_add_of_le hle
    unfold onesN
    rw [List.range_add, List.filter_append]
    rw [show ((List.range d).map (k + ·)).filter n.testBit = [] from ?_, List.append_nil]
    rw [List.filter_eq_nil_iff]
    intro j hj
    obtain ⟨i, _, rfl⟩ := List.mem_map.mp hj
    rw [Nat.testBit_lt_two_pow (Nat.lt_of_lt_of_le h (Nat.pow_le_pow_right (by decide) (Nat.le_add_right _ _)))]
    decide
  · obtain ⟨d, rfl⟩ := Nat.exists_eq_add_of_le hle
    unfold onesN
    rw [List.range_add, List.filter_append]
    rw [show ((List.range d).map (m + ·)).filter n.testBit = [] from ?_, List.append_nil]
    rw [List.filter_eq_nil_iff]
    intro j hj
    obtain ⟨i, _, rfl⟩ := List.mem_map.mp hj
    rw [Nat.testBit_lt_two_pow (Nat.lt_of_lt_of_le h' (Nat.pow_le_pow_right (by decide) (Nat.le_add_right _ _)))]
    decide
theorem add_place {a p : Nat} (h : a.testBit p = false) : a + 2 ^ p = a ||| 2 ^ p := by
  apply Nat.eq_of_testBit_eq
  intro j
  have e1 : a = 2 ^ p * (a / 2 ^ p) + a % 2 ^ p := (Nat.div_add_mod a (2 ^ p)).symm
  have hm : a % 2 ^ p < 2 ^ p := Nat.mod_lt _ (Nat.two_pow_pos p)
  have ev : a / 2 ^ p % 2 = 0 := by
    rw [Nat.testBit_eq_decide_div_mod_eq] at h
    have := of_decide_eq_false h
    omega
  have e2 : a + 2 ^ p = 2 ^ p * (a / 2 ^ p + 1) + a % 2 ^ p := by rw [Nat.mul_add, Nat.mul_one]; omega
  rw [e2, Nat.testBit_two_pow_mul_add _ hm, Nat.testBit_or, Nat.testBit_two_pow]
  rw [show a.testBit j = (2 ^ p * (a / 2 ^ p) + a % 2 ^ p).testBit j by rw [← e1], Nat.testBit_two_pow_mul_add _ hm]
  by_cases hj : j < p
  · simp [hj]; omega
  · rw [if_neg hj, if_neg hj]
    rcases Nat.lt_or_eq_of_le (Nat.le_of_not_lt hj) with h1 | h1
    · obtain ⟨i, hi⟩ : ∃ i, j - p = i + 1 := ⟨j - p - 1, by omega⟩
      rw [hi, Nat.testBit_succ, Nat.testBit_succ]
      rw [show (a / 2 ^ p + 1) / 2 = a / 2 ^ p / 2 by omega]
      have : ¬ p = j := by omega
      simp [this]
    · subst h1
      simp
      omega
end K11
set_option Elab.async false
set_option linter.all false
set_option maxRecDepth 100000
namespace K11
open PySem PySem.Spec PyProof.Rows L2
open K12 (k_bb k_ib k_ii k_sb k_si k_ss k_lb k_li k_ls k_lt k_ll dI_ok dT_ok dAndT dNot_ok tNot_ok ok_of eqF_int eqF_str eqF_bl neF_len ixL_nat ixT_nat tOr_ok tAnd_ok dS_ok oSome_ok dL_ok dComp_ok append_ok compL_all rng_eq eqI)
theorem ali_int (fl : Nat) (i : Int) : F__law_alike (fl + 1) [.int i, .int i] = .ok (.bl true) := by
  refine ok_of (run_of (n := 3) (p := 2) (ds := [.int i, .int i]) (R := fun d => d = .bl true) rfl ?_)
  show Go (bCons _ _ [.fz (.int i), .fz (.int i), .un]) _ _
  refine go_cons (go_ifF (dT_ok (dI_ok rfl rfl k_ib)) (go_nil ?_))
  refine go_cons (go_ifT (dT_ok (dI_ok rfl rfl k_ii)) (go_ret (dAndT (dI_ok rfl rfl k_ii) (dAndT (dNot_ok (dI_ok rfl rfl k_ib)) (dO_ok rfl rfl (eqF_int i)))) rfl))
theorem ali_str (fl : Nat) (i : Str) : F__law_alike (fl + 1) [.str i, .str i] = .ok (.bl true) := by
  refine ok_of (run_of (n := 3) (p := 2) (ds := [.str i, .str i]) (R := fun d => d = .bl true) rfl ?_)
  show Go (bCons _ _ [.fz (.str i), .fz (.str i), .un]) _ _
  refine go_cons (go_ifF (dT_ok (dI_ok rfl rfl k_sb)) (go_nil ?_))
  refine go_cons (go_ifF (dT_ok (dI_ok rfl rfl k_si)) (go_nil ?_))
  refine go_cons (go_ifT (dT_ok (dI_ok rfl rfl k_ss)) (go_ret (dAndT (dI_ok rfl rfl k_ss) (dO_ok rfl rfl (eqF_str i))) rfl))
theorem ali_bl (fl : Nat) (i : Bool) : F__law_alike (fl + 1) [.bl i, .bl i] = .ok (.bl true) := by
  refine ok_of (run_of (n := 3) (p := 2) (ds := [.bl i, .bl i]) (R := fun d => d = .bl true) rfl ?_)
  show Go (bCons _ _ [.fz (.bl i), .fz (.bl i), .un]) _ _
  refine go_cons (go_ifT (dT_ok (dI_ok rfl rfl k_bb)) (go_ret (dAndT (dI_ok rfl rfl k_bb) (dO_ok rfl rfl (eqF_bl i))) rfl))
theorem neF_len (n : Int) : neF (.int n) (.int n) = some (.bl false) := by unfold neF; rw [if_pos (by rfl)]; unfold eqD; simp
theorem ali_lst (fl : Nat) (xs : List Dat) (hl : xs.length ≤ 1000) (h : ∀ x ∈ xs, F__law_alike fl [x, x] = .ok (.bl true)) : F__law_alike (fl + 1) [.lst xs, .lst xs] = .ok (.bl true) := by
  refine ok_of (run_of (n := 3) (p := 2) (ds := [.lst xs, .lst xs]) (R := fun d => d = .bl true) rfl ?_)
  show Go (bCons _ _ [.fz (.lst xs), .fz (.lst xs), .un]) _ _
  refine go_cons (go_ifF (dT_ok (dI_ok rfl rfl k_lb)) (go_nil ?_))
  refine go_cons (go_ifF (dT_ok (dI_ok rfl rfl k_li)) (go_nil ?_))
  refine go_cons (go_ifF (dT_ok (dI_ok rfl rfl k_ls)) (go_nil ?_))
  refine go_cons (go_ifF (dT_ok (dI_ok rfl rfl k_lt)) (go_ifF (tNot_ok (dT_ok (dI_ok rfl rfl k_ll))) (go_nil ?_)))
  refine go_cons (go_ifF (dB_ok (dO_ok rfl rfl (neF_len _))) (go_nil ?_))
  refine go_cons (go_for (ds := rng 0 xs.length) (fun i e => ∃ v, e = [.fz (.lst xs), .fz (.lst xs), v]) (srcR1_eq (aCons_ok rfl rfl) (by omega)) ⟨.un, rfl⟩ ?_ ?_)
  · rintro i d e hi ⟨v, rfl⟩
    obtain ⟨hi1, rfl⟩ := rng_get hi
    rw [Int.zero_add]
    refine ⟨_, rfl, ?_⟩
    dsimp only [List.set]
    have hx : ixD (.lst xs) (.int i) = some xs[i] := ixL_nat (List.getElem?_eq_getElem hi1)
    refine go_ifF (tNot_ok (b := true) (dT_ok (dCal_ok (xs := [xs[i], xs[i]]) (aCons_ok (dO_ok rfl rfl hx) (aCons_ok (dO_ok rfl rfl hx) rfl)) (h _ (List.getElem_mem hi1))))) (go_nil ⟨_, rfl⟩)
  · rintro e ⟨v, rfl⟩
    exact go_ret rfl rfl
theorem ali_ints (fl : Nat) (ns : List Int) (hl : ns.length ≤ 1000) : F__law_alike (fl + 2) [.lst (ns.map .int), .lst (ns.map .int)] = .ok (.bl true) :=
  ali_lst (fl + 1) _ (by rw [List.length_map]; exact hl) fun x hx => by obtain ⟨i, _, rfl⟩ := List.mem_map.mp hx; exact ali_int fl i
theorem ali_strs (fl : Nat) (ns : List Str) (hl : ns.length ≤ 1000) : F__law_alike (fl + 2) [.lst (ns.map .str), .lst (ns.map .str)] = .ok (.bl true) :=
  ali_lst (fl + 1) _ (by rw [List.length_map]; exact hl) fun x hx => by obtain ⟨i, _, rfl⟩ := List.mem_map.mp hx; exact ali_str fl i
theorem toI (ps : List Nat) : (ps.map fun p : Nat => (p : Int)).map Dat.int = ps.map fun p : Nat => Dat.int (p : Int) := by rw [List.map_map]; rfl
abbrev natsD (ps : List Nat) : List Dat := (ps.map fun p : Nat => (p : Int)).map Dat.int
theorem shl1 (p : Nat) (hp : p ≤ 1000) : shlD (.int 1) (.int (p : Int)) = some (.int ((2 ^ p : Nat) : Int)) := by
  have : shlD (.int 1) (.int (p : Int)) = some (.int (1 * 2 ^ ((p : Int)).toNat)) := if_pos ⟨by omega, by omega, by decide⟩
  rw [this, Int.toNat_natCast, Int.one_mul]; congr 2
theorem bits_go (ps : List Nat) (hp : ∀ p ∈ ps, p ≤ 1000) (d : Dat) (hd : srcL (dV 0) [.fz d, .fz (.int 0), .un] = some (natsD ps)) : F_bits [d] = .ok (.int (bitsN ps : Int)) := by
  refine ok_of (run_of (n := 3) (p := 1) (ds := [d]) (g := g_bits) (R := fun d => d = .int (bitsN ps : Int)) rfl ?_)
  show Go (g_bits [.fz d, .un, .un]) _ _
  unfold g_bits
  refine go_cons (go_set (d := .int 0) rfl ?_)
  refine go_cons (go_for (ds := natsD ps) (fun i e => ∃ (z : Int) (v : Slt), e = [.fz d, .fz (.int z), v] ∧ z = (((ps.take i).foldl (fun a p => a ||| 2 ^ p) 0 : Nat) : Int)) hd ⟨0, .un, rfl, rfl⟩ ?_ ?_)
  · rintro i x e hi ⟨z, v, rfl, rfl⟩
    rw [List.getElem?_map, List.getElem?_map] at hi
    obtain ⟨y, hy, rfl⟩ := map_some hi
    obtain ⟨p, hq, rfl⟩ := map_some hy
    have hpp := hp p (List.mem_of_getElem? hq)
    refine ⟨_, rfl, ?_⟩
    refine go_set (d := .int ((((ps.take (i + 1)).foldl (fun a p => a ||| 2 ^ p) 0 : Nat)) : Int)) (dO_ok rfl (dO_ok rfl rfl (shl1 p hpp)) ?_) ⟨_, _, rfl, rfl⟩
    show some (Dat.int (Builtin.bitOr _ _)) = _
    rw [bitOr_nat, List.take_succ, hq, List.foldl_append]; rfl
  · rintro e ⟨z, v, rfl, rfl⟩
    refine go_ret rfl ?_
    rw [List.length_map, List.length_map, List.take_of_length_le (Nat.le_refl _)]; rfl
theorem bits_lst (ps : List Nat) (hp : ∀ p ∈ ps, p ≤ 1000) : F_bits [.lst (natsD ps)] = .ok (.int (bitsN ps : Int)) := bits_go ps hp _ rfl
theorem bits_tup (ps : List Nat) (hp : ∀ p ∈ ps, p ≤ 1000) : F_bits [.tup (natsD ps)] = .ok (.int (bitsN ps : Int)) := bits_go ps hp _ rfl
theorem bitsI (n : Nat) : n < 2 ^ Builtin.Int.intBits (n : Int) := by
  unfold Builtin.Int.intBits
  by_cases h0 : n = 0
  · subst h0; decide
  · have hb : (((n : Int)) == 0) = false := by simpa using h0
    rw [hb]
    simp only [Bool.false_eq_true, if_false, Int.natAbs_natCast]
    exact Nat.lt_log2_self
theorem bits_small {n k : Nat} (h : n < 2 ^ k) : Builtin.Int.intBits (n : Int) ≤ k := by
  unfold Builtin.Int.intBits
  by_cases h0 : n = 0
  · subst h0; simp
  · have hb : (((n : Int)) == 0) = false := by simpa using h0
    rw [hb]
    simp only [Bool.false_eq_true, if_false, Int.natAbs_natCast]
    have := (Nat.log2_lt h0).mpr h
    omega
theorem ones_ok (n k : Nat) (h : n < 2 ^ k) (hk : k ≤ 1000) : F_ones [.int (n : Int)] = .ok (.lst (natsD (onesN n k))) := by
  refine ok_of (run_of (n := 1) (p := 1) (ds := [.int (n : Int)]) (g := g_ones) (R := fun d => d = .lst (natsD (onesN n k))) rfl ?_)
  show Go (g_ones [.fz (.int (n : Int))]) _ _
  unfold g_ones
  have hs := bits_small h
  rw [onesN_eq h (bitsI n)]
  refine go_ret (dL_ok (dComp_ok (xs := rng 0 (Builtin.Int.intBits (n : Int))) (env' := [.un, .fz (.int (n : Int))]) (srcR1_eq (aCons_ok rfl rfl) (by omega)) rfl ?_)) rfl
  rw [compL_map (fun d => match d with | .int j => n.testBit j.toNat | _ => false) (fun d => d)]
  · rw [rng_eq]
    unfold onesN
    rw [List.map_map, List.filter_map, List.map_id', natsD, List.map_map]
    rfl
  · intro x hx
    rw [rng_eq] at hx
    obtain ⟨j, hj, rfl⟩ := List.mem_map.mp hx
    obtain ⟨j, _, rfl⟩ := List.mem_map.mp hj
    refine ⟨[.fz (.int (j : Int)), .fz (.int (n : Int))], rfl, ?_, fun _ => rfl⟩
    have h1 : shrD (.int (n : Int)) (.int (j : Int)) = some (.int ((n / 2 ^ j : Nat) : Int)) := by
      have : shrD (.int (n : Int)) (.int (j : Int)) = some (.int ((n : Int) / 2 ^ ((j : Int)).toNat)) := by unfold shrD iop; dsimp only; rw [if_pos (by omega)]
      rw [this, Int.toNat_natCast]; congr 2
    have h2 : andD (.int ((n / 2 ^ j : Nat) : Int)) (.int 1) = some (.int ((n / 2 ^ j % 2 : Nat) : Int)) := by
      show some (Dat.int (Builtin.bitAnd ((n / 2 ^ j : Nat) : Int) ((1 : Nat) : Int))) = _
      rw [bitAnd_nat, Nat.and_one_is_mod]
    refine dT_ok (dCal_ok (xs := [.int (n : Int), .int (j : Int)]) rfl ?_)
    refine ok_of (run_of (n := 2) (p := 2) (ds := [.int (n : Int), .int (j : Int)]) (g := g_has_one) (R := fun d => d = .bl _) rfl ?_)
    show Go (g_has_one [.fz (.int (n : Int)), .fz (.int (j : Int))]) _ _
    unfold g_has_one
    refine go_ret (d := .bl (n.testBit j)) (dO_ok (dO_ok (dO_ok rfl rfl h1) rfl h2) rfl ?_) rfl
    show some (Dat.bl (((n / 2 ^ j % 2 : Nat) : Int) == 1)) = _
    rw [Nat.testBit_eq_decide_div_mod_eq]
    generalize n / 2 ^ j % 2 = q
    congr 2
    rw [Bool.eq_iff_iff, beq_iff_eq, decide_eq_true_eq]
    omega
end K11
set_option Elab.async false
set_option linter.all false
set_option maxRecDepth 100000
namespace K11
open PySem PySem.Spec PyProof.Rows L2
open K12 (k_bb k_ib k_ii k_sb k_si k_ss k_lb k_li k_ls k_lt k_ll dI_ok dT_ok dAndT dNot_ok tNot_ok ok_of eqF_int eqF_str eqF_bl neF_len ixL_nat ixT_nat tOr_ok tAnd_ok dS_ok oSome_ok dL_ok dComp_ok append_ok compL_all rng_eq eqI)
theorem dCalN_ok' {F : List Dat → Rs} {fs : Ev → Option (List Dat)} {env : Ev} {xs ds : List Dat} (h1 : fs env = some xs) (h2 : F xs = .ok (.lst ds)) : dCalN F fs env = some ds := by unfold dCalN; rw [h1]; show lstR (F xs) = _; rw [h2]; rfl
theorem dCalP_ok' {F : List Dat → Rs} {fs : Ev → Option (List Dat)} {env : Ev} {xs : List Dat} {d : Dat} (h1 : fs env = some xs) (h2 : F xs = .ok d) (hd : pureD d = true := by rfl) : dCalP F fs env = some d := by unfold dCalP; rw [h1]; show (okR (F xs)).bind _ = _; rw [h2]; show (if pureD d = true then some d else none) = _; rw [if_pos hd]
theorem pd_int (n : Nat) (i : Int) : pd n (.int i) = true := by cases n <;> rfl
theorem pd_nats (ps : List Nat) : (natsD ps).all (pd 20) = true := List.all_eq_true.mpr fun x hx => by
  obtain ⟨i, _, rfl⟩ := List.mem_map.mp hx
  exact pd_int 20 i
theorem in_nats (p : Nat) (ps : List Nat) : inB (.int (p : Int)) (.lst (natsD ps)) = some (decide (p ∈ ps)) := by
  unfold inB
  dsimp only
  rw [pd_nats, pd_int, Bool.and_self, if_pos rfl]
  congr 1
  rw [Bool.eq_iff_iff, List.any_eq_true, decide_eq_true_eq]
  constructor
  · rintro ⟨x, hx, he⟩
    obtain ⟨i, hi, rfl⟩ := List.mem_map.mp hx
    obtain ⟨q, hq, rfl⟩ := List.mem_map.mp hi
    have : ((q : Int) == (p : Int)) = true := by unfold eqD at he; exact he
    have : q = p := by have h9 := eq_of_beq this; omega
    exact this ▸ hq
  · intro h
    refine ⟨.int (p : Int), List.mem_map_of_mem (List.mem_map_of_mem h), ?_⟩
    unfold eqD; simp
theorem nin_nats (p : Nat) (ps : List Nat) : ninF (.int (p : Int)) (.lst (natsD ps)) = some (.bl (!decide (p ∈ ps))) := by unfold ninF; rw [in_nats]; rfl
theorem number_ok (ps : List Nat) (hl : ps.length ≤ 100) (hp : ∀ p ∈ ps, p ≤ 1000) : F__law_number [.lst (natsD ps)] = .ok (.int (bitsN ps : Int)) := by
  refine ok_of (run_of (n := 6) (p := 1) (ds := [.lst (natsD ps)]) (g := g__law_number) (R := fun d => d = .int (bitsN ps : Int)) rfl ?_)
  show Go (g__law_number [.fz (.lst (natsD ps)), .un, .un, .un, .un, .un]) _ _
  unfold g__law_number
  refine go_cons (go_set (d := .int 0) rfl ?_)
  refine go_cons (go_own (ds := []) rfl ?_)
  refine go_cons (go_for (ds := natsD ps) (fun i e => ∃ (z : Int) (se : List Nat) (v1 v2 v3 : Slt), e = [.fz (.lst (natsD ps)), .fz (.int z), .ow (natsD se), v1, v2, v3] ∧ z = ((bitsN (ps.take i) : Nat) : Int) ∧ se.length ≤ i ∧ ∀ j, j ∈ se ↔ j ∈ ps.take i) rfl ⟨0, [], .un, .un, .un, rfl, rfl, Nat.le_refl _, by simp⟩ ?_ ?_)
  · rintro i x e hi ⟨z, se, v1, v2, v3, rfl, rfl, hsl, hse⟩
    rw [List.getElem?_map, List.getElem?_map] at hi
    obtain ⟨y, hy, rfl⟩ := map_some hi
    obtain ⟨p, hq, rfl⟩ := map_some hy
    have hpp := hp p (List.mem_of_getElem? hq)
    have hil : i < ps.length := (List.getElem?_eq_some_iff.mp hq).1
    have htk : ps.take (i + 1) = ps.take i ++ [p] := by rw [List.take_succ, hq]; rfl
    refine ⟨_, rfl, ?_⟩
    refine go_if (dB_ok (dO_ok rfl rfl (nin_nats p se))) (fun hb => ?_) (fun hb => go_nil ?_)
    · have hns : p ∉ se := by simpa using hb
      have hnt : p ∉ ps.take i := fun h => hns ((hse p).mpr h)
      refine go_cons (go_meth (ds := natsD se) (as := [.int (p : Int)]) (ds' := natsD (se ++ [p])) rfl rfl (by rw [append_ok (by rw [List.length_map, List.length_map]; omega)]; simp [natsD]) ?_)
      refine go_cons (go_set (d := .int 1) rfl ?_)
      refine go_cons (go_for (ds := rng 0 p) (fun k e => ∃ (o : Int) (v : Slt), e = [.fz (.lst (natsD ps)), .fz (.int ((bitsN (ps.take i) : Nat) : Int)), .ow (natsD (se ++ [p])), .fz (.int (p : Int)), .fz (.int o), v] ∧ o = ((2 ^ k : Nat) : Int)) (srcR1_eq (aCons_ok rfl rfl) (by omega)) ⟨1, v3, rfl, rfl⟩ ?_ ?_)
      · rintro k d e hk ⟨o, v, rfl, rfl⟩
        obtain ⟨hk1, rfl⟩ := rng_get hk
        refine ⟨_, rfl, ?_⟩
        refine go_set (d := .int (((2 ^ k : Nat) : Int) * 2)) (dO_ok rfl rfl (mulI_ok (.inr (by omega)))) ⟨_, _, rfl, ?_⟩
        rw [Nat.pow_succ]; push_cast; rfl
      · rintro e ⟨o, v, rfl, rfl⟩
        rw [rng_len]
        refine go_set (d := .int (((bitsN (ps.take i) : Nat) : Int) + ((2 ^ p : Nat) : Int))) (dO_ok rfl rfl rfl) ⟨_, se ++ [p], _, _, _, rfl, ?_, by rw [List.length_append, List.length_singleton]; omega, fun j => ?_⟩
        · rw [htk]
          unfold bitsN
          rw [List.foldl_append]
          show _ = (((ps.take i).foldl (fun a p => a ||| 2 ^ p) 0 ||| 2 ^ p : Nat) : Int)
          have hap := add_place (a := bitsN (ps.take i)) (p := p) (by rw [bitsN_at]; simpa using hnt)
          unfold bitsN at hap
          rw [← hap, Int.natCast_add]
        · rw [htk, List.mem_append, List.mem_append, hse j]
    · have hin : p ∈ se := by simpa using hb
      have hit := (hse p).mp hin
      refine ⟨_, se, _, _, _, rfl, ?_, by omega, fun j => ?_⟩
      · congr 1
        refine bitsN_ext fun j => ?_
        rw [htk, List.mem_append, List.mem_singleton]
        exact ⟨.inl, fun h => h.elim id fun h => h ▸ hit⟩
      · rw [htk, List.mem_append, List.mem_singleton, hse j]
        exact ⟨.inl, fun h => h.elim id fun h => h ▸ hit⟩
  · rintro e ⟨z, se, v1, v2, v3, rfl, rfl, hsl, hse⟩
    refine go_ret rfl ?_
    rw [List.length_map, List.length_map, List.take_of_length_le (Nat.le_refl _)]
theorem places_ok (n k : Nat) (h : n < 2 ^ k) (hk : k ≤ 1000) : F__law_places [.int (n : Int)] = .ok (.lst (natsD (onesN n k))) := by
  refine ok_of (run_of (n := 3) (p := 1) (ds := [.int (n : Int)]) (g := g__law_places) (R := fun d => d = .lst (natsD (onesN n k))) rfl ?_)
  show Go (g__law_places [.fz (.int (n : Int)), .un, .un]) _ _
  unfold g__law_places
  refine go_cons (go_own (ds := []) rfl ?_)
  refine go_cons (go_set (d := .int 0) rfl ?_)
  refine go_cons (go_while (n := n) (fun m e => ∃ (i : Nat) (a b : Int), m = n / 2 ^ i ∧ i ≤ k ∧ e = [.fz (.int a), .ow (natsD (onesN n i)), .fz (.int b)] ∧ a = ((n / 2 ^ i : Nat) : Int) ∧ b = (i : Int)) ⟨0, n, 0, by simp, Nat.zero_le _, by simp [onesN], by simp, rfl⟩ ?_)
  rintro m e ⟨i, a, b, rfl, hi, rfl, rfl, rfl⟩
  by_cases hz : n / 2 ^ i = 0
  · refine .inl ⟨dB_ok (b := false) (dO_ok rfl rfl ?_), go_retO (ds := natsD (onesN n k)) ?_ rfl⟩
    · show some (Dat.bl (decide ((0 : Int) < ((n / 2 ^ i : Nat) : Int)))) = _
      rw [hz]; rfl
    · have : n < 2 ^ i := by
        rcases Nat.lt_or_ge n (2 ^ i) with h1 | h1
        · exact h1
        · have := Nat.div_pos h1 (Nat.two_pow_pos i); omega
      rw [onesN_eq h this]; rfl
  · have hpos : 0 < n / 2 ^ i := Nat.pos_of_ne_zero hz
    have hik : i < k := by
      rcases Nat.lt_or_ge i k with h1 | h1
      · exact h1
      · have h2 := Nat.div_eq_of_lt (Nat.lt_of_lt_of_le h (Nat.pow_le_pow_right (by decide) h1))
        omega
    have hol : (onesN n i).length ≤ i := by unfold onesN; exact Nat.le_trans (List.length_filter_le _ _) (by simp)
    refine .inr ⟨dB_ok (b := true) (dO_ok rfl rfl ?_), ?_⟩
    · show some (Dat.bl (decide ((0 : Int) < ((n / 2 ^ i : Nat) : Int)))) = _
      rw [decide_eq_true (by exact_mod_cast hpos)]
    have hsucc : onesN n (i + 1) = onesN n i ++ (if n.testBit i = true then [i] else []) := by
      unfold onesN
      rw [List.range_succ, List.filter_append]
      congr 1
      by_cases hb : n.testBit i = true <;> simp [hb]
    have hdiv : n / 2 ^ (i + 1) = n / 2 ^ i / 2 := by rw [Nat.pow_succ, Nat.div_div_eq_div_mul]
    have htb : n.testBit i = decide (n / 2 ^ i % 2 = 1) := Nat.testBit_eq_decide_div_mod_eq
    refine go_cons (Go.mono (N := fun e => e = [.fz (.int ((n / 2 ^ i : Nat) : Int)), .ow (natsD (onesN n (i + 1))), .fz (.int (i : Int))]) ?_ ?_ fun _ h => h)
    · refine go_if (b := decide (n / 2 ^ i % 2 = 1)) (dB_ok (dO_ok (dO_ok rfl rfl (modD_ok (by omega))) rfl ?_)) (fun hb => ?_) (fun hb => ?_)
      · show some (Dat.bl ((((n / 2 ^ i : Nat) : Int) % 2) == 1)) = _
        generalize n / 2 ^ i = q
        congr 2
        rw [Bool.eq_iff_iff, beq_iff_eq, decide_eq_true_eq]
        omega
      · refine go_meth (ds := natsD (onesN n i)) (as := [.int (i : Int)]) (ds' := natsD (onesN n (i + 1))) rfl rfl ?_ rfl
        rw [append_ok (by rw [List.length_map, List.length_map]; omega), hsucc, htb, hb, if_pos rfl]
        simp [natsD]
      · refine go_nil ?_
        rw [hsucc, htb, hb, if_neg (by decide), List.append_nil]
    · rintro e rfl
      refine go_cons (go_set (d := .int (((n / 2 ^ i : Nat) : Int) / 2)) (dO_ok rfl rfl (fdivD_ok ⟨by omega, by omega⟩)) ?_)
      refine go_set (d := .int ((i : Int) + 1)) rfl ⟨n / 2 ^ (i + 1), ?_, i + 1, _, _, rfl, by omega, rfl, ?_, by push_cast; rfl⟩
      · rw [hdiv]; omega
      · rw [hdiv]; push_cast; rfl
theorem addK_mem (ks : List Int) (k x : Int) : x ∈ addK ks k ↔ x ∈ ks ∨ x = k := by
  unfold addK
  split
  · rename_i h; exact ⟨.inl, fun q => q.elim id fun q => q ▸ h⟩
  · rw [List.mem_append, List.mem_singleton]
theorem addK_nodup {ks : List Int} (h : ks.Nodup) (k : Int) : (addK ks k).Nodup := by
  unfold addK
  split
  · exact h
  · rename_i hn
    refine List.nodup_append.mpr ⟨h, List.nodup_cons.mpr ⟨by simp, List.nodup_nil⟩, fun a ha b hb => ?_⟩
    rw [List.mem_singleton.mp hb]; intro e; exact hn (e ▸ ha)
theorem fold_addK (ns : List Int) : ∀ ks : List Int, ks.Nodup → (ns.foldl addK ks).Nodup ∧ ∀ x, x ∈ ns.foldl addK ks ↔ x ∈ ks ∨ x ∈ ns := by
  induction ns with
  | nil => intro ks h; exact ⟨h, by simp⟩
  | cons n ns ih =>
    intro ks h
    obtain ⟨a, b⟩ := ih (addK ks n) (addK_nodup h n)
    rw [List.foldl_cons]
    refine ⟨a, fun x => ?_⟩
    rw [b x, addK_mem, List.mem_cons, or_assoc]
theorem bitsN_lt {ps : List Nat} {k : Nat} (h : ∀ p ∈ ps, p < k) : bitsN ps < 2 ^ k := Nat.lt_pow_two_of_testBit _ fun i hi => by
  rw [bitsN_at]
  apply decide_eq_false
  intro hm
  have := h i hm
  omega
theorem ss_ok (ps : List Nat) (hl : ps.length < 64) (hp : ∀ p ∈ ps, p < 100) {fs : Ev → Option (List Dat)} {env : Ev} (h : fs env = some [.lst (natsD ps)]) : dSS fs env = some (natsD (onesN (bitsN ps) 100)) := by
  unfold dSS
  rw [h]
  dsimp only
  rw [intsD_map]
  show (if (ps.map fun p : Nat => (p : Int)).length ≤ 64 then _ else _) = _
  rw [if_pos (by rw [List.length_map]; exact Nat.le_of_lt hl)]
  congr 2
  obtain ⟨a, b⟩ := fold_addK (ps.map fun p : Nat => (p : Int)) [] List.nodup_nil
  have hs := onesN_sorted (bitsN ps) 100
  refine sorted_unique ((sortI_perm _).trans ((List.perm_ext_iff_of_nodup a ?_).mpr fun x => ?_)) (sortI_sorted _) ?_
  · rw [List.nodup_iff_pairwise_ne, List.pairwise_map]
    exact hs.imp fun h => by omega
  · rw [b x]
    simp only [List.not_mem_nil, false_or, List.mem_map]
    constructor
    · rintro ⟨p, hp', rfl⟩
      exact ⟨p, (onesN_mem (bitsN_lt hp) p).mpr (by rw [bitsN_at]; simpa using hp'), rfl⟩
    · rintro ⟨p, hp', rfl⟩
      have := (onesN_mem (bitsN_lt hp) p).mp hp'
      rw [bitsN_at] at this
      exact ⟨p, of_decide_eq_true this, rfl⟩
  · rw [List.pairwise_map]
    exact hs.imp fun h => by omega
theorem cell_ok (ns : List Int) (k : Nat) : ∃ z : Int, F__law_cell_at [.lst (ns.map .int), .int (k : Int)] = .ok (.int z) := by
  have := run_of (n := 2) (p := 2) (ds := [.lst (ns.map .int), .int (k : Int)]) (g := g__law_cell_at) (R := fun d => ∃ z : Int, d = .int z) rfl ?_
  · obtain ⟨d, e, z, rfl⟩ := this; exact ⟨z, e⟩
  show Go (g__law_cell_at [.fz (.lst (ns.map .int)), .fz (.int (k : Int))]) _ _
  unfold g__law_cell_at
  refine go_cons (go_if (b := decide ((k : Int) < ((ns.map Dat.int).length : Int))) rfl (fun hb => ?_) (fun hb => go_nil (go_ret rfl ⟨_, rfl⟩)))
  have hk : k < ns.length := by have := of_decide_eq_true hb; rw [List.length_map] at this; omega
  exact go_ret (dO_ok rfl rfl (ixL_nat (x := .int ns[k]) (by simp [hk]))) ⟨_, rfl⟩
theorem neF_refl (ps : List Nat) : neF (.lst (natsD ps)) (.lst (natsD ps)) = some (.bl false) := by
  have hpd : pd 20 (.lst (natsD ps)) = true := List.all_eq_true.mpr fun x hx => by
    obtain ⟨i, _, rfl⟩ := List.mem_map.mp hx
    exact pd_int 19 i
  have he : ∀ qs : List Nat, eqDs (natsD qs) (natsD qs) = true := fun qs => by
    induction qs with
    | nil => unfold eqDs; rfl
    | cons q qs ih =>
      show eqDs (.int (q : Int) :: natsD qs) (.int (q : Int) :: natsD qs) = true
      unfold eqDs; rw [ih]; unfold eqD; simp
  unfold neF
  rw [hpd, Bool.and_self, if_pos rfl]
  unfold eqD
  rw [he]; rfl
theorem ali_nats (ps : List Nat) (hl : ps.length ≤ 1000) : F__law_alike 2 [.lst (natsD ps), .lst (natsD ps)] = .ok (.bl true) := ali_ints 0 _ (by rw [List.length_map]; exact hl)
theorem law_ok (ns : List Int) (hl : ns.length ≤ 63) : F_law [.lst (ns.map .int)] = .ok (.bl true) := by
  refine ok_of (run_of (n := 7) (p := 1) (ds := [.lst (ns.map .int)]) (g := g_law) (R := fun d => d = .bl true) rfl ?_)
  show Go (g_law [.fz (.lst (ns.map .int)), .un, .un, .un, .un, .un, .un]) _ _
  unfold g_law
  generalize hps : (cutL ns (some 1) (some 64)).map (fun c => (c % 100).toNat) = ps
  have hcl : (cutL ns (some 1) (some 64)).length ≤ 62 := by
    unfold cutL
    rw [List.length_take, List.length_drop]
    have : 1 ≤ ns.length → HT.sIx ns.length 0 (some 1) = 1 := fun h => by rw [show (1 : Int) = ((1 : Nat) : Int) from rfl, HT.sIx_nat]; omega
    rcases Nat.eq_zero_or_pos ns.length with h0 | h0
    · omega
    · rw [this h0]; omega
  have hpl : ps.length ≤ 62 := by rw [← hps, List.length_map]; exact hcl
  have hp : ∀ p ∈ ps, p < 100 := fun p hm => by
    rw [← hps] at hm
    obtain ⟨c, _, rfl⟩ := List.mem_map.mp hm
    omega
  have hp' : ∀ p ∈ ps, p ≤ 1000 := fun p hm => by have := hp p hm; omega
  have hB : bitsN ps < 2 ^ 100 := bitsN_lt hp
  have h1 : dComp (srcL (dS slD (dV 0) (oSome (dC (.int 1))) (oSome (dC (.int 64))))) [none] (gset 0) tTrue (dO modD (dV 0) (dC (.int 100))) [.fz (.lst (ns.map .int)), .un, .un, .un, .un, .un, .un] = some (natsD ps) := by
    refine dComp_ok (xs := (cutL ns (some 1) (some 64)).map .int) (env' := [.un]) ?_ rfl ?_
    · show some (cutL (ns.map Dat.int) (some 1) (some 64)) = _
      unfold cutL
      rw [List.length_map, List.map_take, List.map_drop]
    · rw [compL_all Dat.int (fun c => .int (((c % 100).toNat : Nat) : Int)) _ fun c _ => ⟨[.fz (.int c)], rfl, rfl, ?_⟩]
      · rw [← hps, natsD, List.map_map, List.map_map]; rfl
      · refine dO_ok rfl rfl ?_
        rw [modD_ok (by omega)]
        congr 2
        omega
  refine go_cons (go_set (dL_ok h1) ?_)
  refine go_cons (go_set (d := .lst (natsD ps)) rfl ?_)
  refine go_cons (go_set (dCal_ok (xs := [.lst (natsD ps)]) rfl (bits_lst ps hp')) ?_)
  have aI : ∀ z : Int, F__law_alike 2 [.int z, .int z] = .ok (.bl true) := fun z => ali_int 1 z
  refine go_cons (go_ifF (tOr_ok (a := false) (b := false) (tNot_ok (b := true) (dT_ok (dCal_ok (xs := [.int (bitsN ps : Int), .int (bitsN ps : Int)]) (aCons_ok rfl (aCons_ok (dCal_ok (xs := [.lst (natsD ps)]) rfl (number_ok ps (by omega) hp')) rfl)) (aI _)))) fun _ => dB_ok (dO_ok rfl rfl (neF_refl ps))) (go_nil ?_))
  have ho := ones_ok (bitsN ps) 100 hB (by omega)
  have hon : ∀ n, (onesN n 100).length ≤ 1000 := fun n => by unfold onesN; exact Nat.le_trans (List.length_filter_le _ _) (by simp)
  refine go_cons (go_ifF (tOr_ok (a := false) (b := false) (tNot_ok (b := true) (dT_ok (dCal_ok (xs := [.lst (natsD (onesN (bitsN ps) 100)), .lst (natsD (onesN (bitsN ps) 100))]) (aCons_ok (dCal_ok (xs := [.int (bitsN ps : Int)]) rfl ho) (aCons_ok (dL_ok (ss_ok ps (by omega) hp rfl)) rfl)) (ali_nats _ (hon _))))) fun _ => tNot_ok (b := true) (dT_ok (dCal_ok (xs := [.int (bitsN ps : Int), .int (bitsN ps : Int)]) (aCons_ok (dCal_ok (xs := [.tup (natsD ps)]) rfl (bits_tup ps hp')) rfl) (aI _)))) (go_nil ?_))
  obtain ⟨c0, e0⟩ := cell_ok ns 0
  obtain ⟨c1, e1⟩ := cell_ok ns 1
  obtain ⟨G, hG⟩ : ∃ G : Nat, c0 % 2 ^ 60 + c1 % 2 ^ 40 * 2 ^ 60 = (G : Int) := ⟨(c0 % 2 ^ 60 + c1 % 2 ^ 40 * 2 ^ 60).toNat, by omega⟩
  have hGl : G < 2 ^ 100 := by omega
  refine go_cons (go_set (d := .int (G : Int)) (by rw [← hG]; exact dO_ok (dO_ok (dCal_ok (xs := [.lst (ns.map .int), .int 0]) rfl e0) (y := .int (2 ^ 60)) rfl (modD_ok (by omega))) (dO_ok (dO_ok (dCal_ok (xs := [.lst (ns.map .int), .int 1]) rfl e1) (y := .int (2 ^ 40)) rfl (modD_ok (by omega))) (y := .int (2 ^ 60)) rfl (mulI_ok (.inr (by omega)))) rfl) ?_)
  have hoG := ones_ok G 100 hGl (by omega)
  have hpG := places_ok G 100 hGl (by omega)
  have hle : ∀ p ∈ onesN G 100, p ≤ 1000 := fun p hm => by have := List.mem_range.mp (List.mem_filter.mp hm).1; omega
  have hbG := bits_lst (onesN G 100) hle
  rw [bits_ones hGl] at hbG
  refine go_cons (go_own (dCalN_ok' (xs := [.int (G : Int)]) rfl hoG) ?_)
  refine go_cons (go_set (dCal_ok (xs := [.int (G : Int)]) rfl hpG) ?_)
  refine go_cons (go_ifF (tOr_ok (a := false) (b := false) (tNot_ok (b := true) (dT_ok (dCalP_ok' (xs := [.lst (natsD (onesN G 100)), .lst (natsD (onesN G 100))]) rfl (ali_nats _ (hon _))))) fun _ => tNot_ok (b := true) (dT_ok (dCal_ok (xs := [.int (G : Int), .int (G : Int)]) (aCons_ok (dCalP_ok' (xs := [.lst (natsD (onesN G 100))]) rfl hbG) rfl) (aI _)))) (go_nil ?_))
  refine go_cons (go_meth (ds := natsD (onesN G 100)) (as := [.int 7]) rfl rfl (append_ok (by rw [List.length_map, List.length_map]; exact hon _)) ?_)
  have b0 := bits_lst [] (by simp)
  have o0 := ones_ok 0 100 (by decide) (by omega)
  have en : onesN 0 100 = [] := by unfold onesN; rw [List.filter_eq_nil_iff]; intro j _; simp
  rw [en] at o0
  refine go_ret (dAndT (dCal_ok (xs := [.lst (natsD (onesN G 100)), .lst (natsD (onesN G 100))]) (aCons_ok (dCal_ok (xs := [.int (G : Int)]) rfl hoG) rfl) (ali_nats _ (hon _))) (dAndT (dCal_ok (xs := [.int 0, .int 0]) (aCons_ok (dCal_ok (xs := [.lst []]) rfl b0) rfl) (aI 0)) (dCal_ok (xs := [.lst [], .lst []]) (aCons_ok (dCal_ok (xs := [.int 0]) rfl o0) rfl) (ali_nats [] (by simp))))) rfl
end K11
set_option Elab.async false
set_option linter.all false
set_option maxRecDepth 100000
namespace K13
open PySem PySem.Spec PyProof.Rows L2
open K12 (Gr Step' wireD stepD graph_ok k_ss k_sb k_si dI_ok dT_ok dNot_ok dAndT tNot_ok ok_of dL_ok dComp_ok srcT_ok compL_all aTup_ok append_ok ixT_nat ixL_nat NameOk Spots eqF_str Low)
open K11 (onesN natsD onesN_mem)
theorem extend_ok {xs ys : List Dat} (h : xs.length + ys.length ≤ 1000) : extendF xs [.lst ys] = some (xs ++ ys) := if_pos (Nat.le_trans h (by decide))
theorem aLst_ok {fs : Ev → Option (List Dat)} {env : Ev} {xs : List Dat} (h : fs env = some xs) (hl : xs.length ≤ 1000) : aLst fs env = some xs := by unfold aLst; rw [h]; exact if_pos (Nat.le_trans hl (by decide))
theorem dM_ok {T : String} {F : Dat → List Dat → Option Dat} {f : Ev → Option Dat} {fs : Ev → Option (List Dat)} {env : Ev} {x : Dat} {ds : List Dat} {z : Dat} (h1 : f env = some x) (ht : tyOk T x = true) (h2 : fs env = some ds) (h3 : F x ds = some z) : dM T F f fs env = some z := by unfold dM; rw [h1]; show (if tyOk T x = true then _ else _) = _; rw [if_pos ht, h2]; exact h3
structure Wd (B : Nat) (y : Str) : Prop where
  ok : PyData.strOk y = true
  le : y.length ≤ B
def Wds (B : Nat) (ys : List Str) : Prop := ∀ y ∈ ys, Wd B y
theorem fold_mem (sep : Str) (c : Nat) : ∀ (r : List Str) (acc : Array Nat), c ∈ r.foldl (fun acc q => acc ++ sep.cps ++ q.cps) acc → c ∈ acc ∨ c ∈ sep.cps ∨ ∃ y ∈ r, c ∈ y.cps
  | [], acc, h => .inl h
  | y :: r, acc, h => by
    rcases fold_mem sep c r _ h with z | z | ⟨w, hw, z⟩
    · rw [Array.mem_append, Array.mem_append] at z
      rcases z with (z | z) | z
      · exact .inl z
      · exact .inr (.inl z)
      · exact .inr (.inr ⟨y, List.mem_cons_self, z⟩)
    · exact .inr (.inl z)
    · exact .inr (.inr ⟨w, List.mem_cons_of_mem _ hw, z⟩)
theorem at_ok {x : Str} (h : PyData.strOk x = true) {c : Nat} (hc : c ∈ x.cps) : decide (c < 0x110000) = true := by
  unfold PyData.strOk at h
  rw [Array.all_eq_true'] at h
  exact h c hc
theorem join_sok {z : Str} (hz : PyData.strOk z = true) : ∀ {ys : List Str}, (∀ y ∈ ys, PyData.strOk y = true) → PyData.strOk (Txt.join z ys) = true
  | [], _ => by show PyData.strOk Str.empty = true; decide +kernel
  | p :: r, h => by
    show PyData.strOk (⟨r.foldl (fun acc q => acc ++ z.cps ++ q.cps) p.cps⟩ : Str) = true
    unfold PyData.strOk
    rw [Array.all_eq_true']
    intro c hc
    rcases fold_mem z c r p.cps hc with k | k | ⟨y, hy, k⟩
    · exact at_ok (h p List.mem_cons_self) k
    · exact at_ok hz k
    · exact at_ok (h y (List.mem_cons_of_mem _ hy)) k
theorem sum_le {B : Nat} : ∀ {ys : List Str}, (∀ y ∈ ys, y.length ≤ B) → (ys.map (·.length)).sum ≤ B * ys.length
  | [], _ => by simp
  | y :: ys, h => by
    have h1 := h y List.mem_cons_self
    have h2 := sum_le (ys := ys) fun z hz => h z (List.mem_cons_of_mem _ hz)
    rw [List.map_cons, List.sum_cons, List.length_cons, Nat.mul_add]
    omega
theorem join_ok {z : Str} {ys : List Str} (hz : z.length = 1) (hk : PyData.strOk z = true) (h : Wds 5000 ys) (hl : ys.length ≤ 200) : joinD (.str z) [.lst (ys.map .str)] = some (.str (Txt.join z ys)) := by
  have h1 := sum_le fun y hy => (h y hy).le
  have h3 : 5000 * ys.length ≤ 5000 * 200 := Nat.mul_le_mul_left _ hl
  have h2 : (Txt.join z ys).length = (ys.map (·.length)).sum + (ys.length - 1) * z.length := size_glued z ys
  unfold joinD
  dsimp only
  rw [strsD_map]
  refine if_pos ⟨by rw [hz]; omega, SOk.of (join_sok hk fun y hy => (h y hy).ok) ?_⟩
  have : (1000000 + 400 : Nat) ≤ sizeLine := by decide
  rw [h2, hz]
  omega
theorem join_wd {z : Str} {ys : List Str} {B n : Nat} (hz : z.length = 1) (hk : PyData.strOk z = true) (h : Wds B ys) (hl : ys.length ≤ n) : Wd (B * n + n) (Txt.join z ys) := by
  have h1 := sum_le fun y hy => (h y hy).le
  have h2 : (Txt.join z ys).length = (ys.map (·.length)).sum + (ys.length - 1) * z.length := size_glued z ys
  have h3 : B * ys.length ≤ B * n := Nat.mul_le_mul_left _ hl
  exact ⟨join_sok hk fun y hy => (h y hy).ok, by rw [h2, hz]; omega⟩
theorem name_wd {z : Str} (h : NameOk z) : Wd 8 z := ⟨strOk_of fun c hc => by have := h.2.2.1 c hc; omega, h.2.1⟩
def onesI (n : Int) (k : Nat) : List Int := (onesN n.toNat k).map fun p : Nat => (p : Int)
theorem blank1 : (" " : Str).length = 1 := by decide +kernel
theorem blankOk : PyData.strOk " " = true := by decide +kernel
theorem wds_cons {B : Nat} {y : Str} {ys : List Str} (h : Wd B y) (k : Wds B ys) : Wds B (y :: ys) := fun z hz => by
  rcases List.mem_cons.mp hz with e | e
  · subst e; exact h
  · exact k z e
theorem wds_nil {B : Nat} : Wds B [] := fun _ h => nomatch h
theorem nm_wd {nm : List Str} (h : Wds 8 nm) (i : Nat) : Wd 8 (nm.getD i "") := by
  by_cases hi : i < nm.length
  · have e : nm.getD i "" = nm[i] := by simp [List.getD, hi]
    rw [e]; exact h _ (List.getElem_mem hi)
  · have e : nm.getD i "" = "" := by simp [List.getD, Nat.not_lt.mp hi]
    rw [e]; exact ⟨by decide +kernel, by decide +kernel⟩
theorem onesI_mem {n : Int} {k : Nat} (h0 : 0 ≤ n) (h1 : n < 2 ^ k) {i : Int} (h : i ∈ onesI n k) : 0 ≤ i ∧ i < k ∧ n.toNat.testBit i.toNat = true := by
  unfold onesI at h
  obtain ⟨p, hp, rfl⟩ := List.mem_map.mp h
  have hr : p < k := List.mem_range.mp (List.mem_filter.mp hp).1
  have ht : n.toNat.testBit p = true := (List.mem_filter.mp hp).2
  exact ⟨by omega, by omega, by rw [Int.toNat_natCast]; exact ht⟩
end K13
set_option Elab.async false
set_option linter.all false
set_option maxRecDepth 100000
namespace K13
open PySem PySem.Spec PyProof.Rows L2
open K12 (Gr Step' wireD stepD graph_ok k_ss k_sb k_si dI_ok dT_ok dNot_ok dAndT tNot_ok ok_of dL_ok dComp_ok srcT_ok compL_all aTup_ok append_ok ixT_nat ixL_nat NameOk Spots eqF_str Low pick int_b)
theorem srcS_ok {f : Ev → Option Dat} {env : Ev} {xs : List Dat} (h : f env = some (.lst xs)) : srcL f env = some xs := by unfold srcL; rw [h]
theorem dIf_ok {t : Ev → Option Bool} {f g : Ev → Option Dat} {env : Ev} {b : Bool} {x y : Dat} (h : t env = some b) (h1 : f env = some x) (h2 : g env = some y) : dIf t f g env = some (if b = true then x else y) := by
  unfold dIf
  rw [h]
  show (if b = true then f env else g env) = _
  cases b
  · exact h2
  · exact h1
theorem nm_ix {nm : List Str} {i : Int} (h0 : 0 ≤ i) (h1 : i < nm.length) : ixD (.lst (nm.map .str)) (.int i) = some (.str (nm.getD i.toNat "")) := by
  obtain ⟨n, rfl⟩ : ∃ n : Nat, i = n := ⟨i.toNat, by omega⟩
  have hn : n < nm.length := by omega
  refine ixL_nat ?_
  rw [Int.toNat_natCast]
  simp [hn, List.getD]
structure NmOk (nm : List Str) : Prop where
  l1 : nm.length ≤ 10
  wd : Wds 8 nm
theorem ones_lt {nm : List Str} {c : Int} (c0 : 0 ≤ c) (c1 : c < 2 ^ nm.length) (cle : c < 2 ^ 64) {i : Int} (hi : i ∈ onesI c 64) : 0 ≤ i ∧ i < nm.length := by
    obtain ⟨h1, h2, h3⟩ := onesI_mem (k := 64) c0 cle hi
    refine ⟨h1, ?_⟩
    apply Classical.byContradiction
    intro hno
    have hc : c.toNat < 2 ^ i.toNat := by
      have e1 : c.toNat < 2 ^ nm.length := by
        have : ((c.toNat : Nat) : Int) < ((2 ^ nm.length : Nat) : Int) := by push_cast; omega
        exact_mod_cast this
      exact Nat.lt_of_lt_of_le e1 (Nat.pow_le_pow_right (by omega) (by omega))
    rw [Nat.testBit_lt_two_pow hc] at h3
    cases h3
end K13
set_option Elab.async false
set_option linter.all false
set_option maxRecDepth 100000
namespace L2
open PySem PySem.Spec PyProof.Rows
theorem in_strs (z : Str) (ws : List Str) : (ws.map Dat.str).any (fun y => eqD y (.str z)) = decide (z ∈ ws) := by
  induction ws with
  | nil => simp
  | cons w ws ih =>
    rw [List.map_cons, List.any_cons, ih]
    have : eqD (.str w) (.str z) = (w == z) := by unfold eqD; rfl
    rw [this]
    by_cases e : w = z
    · subst e; simp
    · have e' : (w == z) = false := by simpa using e
      have e2 : ¬ z = w := fun q => e q.symm
      rw [e']; simp [e2]
theorem pd_str (n : Nat) (z : Str) : pd n (.str z) = true := by cases n <;> rfl
theorem pd_strs (ws : List Str) : (ws.map Dat.str).all (pd 20) = true := by
  induction ws with
  | nil => rfl
  | cons w ws ih => rw [List.map_cons, List.all_cons, ih, pd_str]; rfl
theorem inB_lst (z : Str) (ws : List Str) : inB (.str z) (.lst (ws.map .str)) = some (decide (z ∈ ws)) := by
  unfold inB
  dsimp only
  rw [pd_strs, pd_str, Bool.and_self, if_pos rfl, in_strs]
theorem inB_tup (z : Str) (ws : List Str) : inB (.str z) (.tup (ws.map .str)) = some (decide (z ∈ ws)) := by
  unfold inB
  dsimp only
  rw [pd_strs, pd_str, Bool.and_self, if_pos rfl, in_strs]
theorem inF_lst (z : Str) (ws : List Str) : inF (.str z) (.lst (ws.map .str)) = some (.bl (decide (z ∈ ws))) := by unfold inF; rw [inB_lst]; rfl
theorem inF_tup (z : Str) (ws : List Str) : inF (.str z) (.tup (ws.map .str)) = some (.bl (decide (z ∈ ws))) := by unfold inF; rw [inB_tup]; rfl
theorem tOr_ok {t u : Ev → Option Bool} {env : Ev} {a b : Bool} (h1 : t env = some a) (h2 : a = false → u env = some b) : tOrD t u env = some (a || b) := by
  unfold tOrD; rw [h1]; cases a with
  | true => rfl
  | false => exact h2 rfl
theorem tAnd_ok {t u : Ev → Option Bool} {env : Ev} {a b : Bool} (h1 : t env = some a) (h2 : a = true → u env = some b) : tAndD t u env = some (a && b) := by
  unfold tAndD; rw [h1]; cases a with
  | false => rfl
  | true => exact h2 rfl
theorem dS_ok {F : Dat → Option Int → Option Int → Option Dat} {f : Ev → Option Dat} {l h : Ev → Option (Option Int)} {env : Ev} {x z : Dat} {a b : Option Int} (h1 : f env = some x) (h2 : l env = some a) (h3 : h env = some b) (h4 : F x a b = some z) : dS F f l h env = some z := by
  unfold dS; rw [h1, h2, h3]; exact h4
theorem oSome_ok {f : Ev → Option Dat} {env : Ev} {i : Int} (h : f env = some (.int i)) : oSome f env = some (some i) := by unfold oSome; rw [h]
theorem slS_ok (z : Str) (a b : Option Int) : slD (.str z) a b = some (.str (Txt.slice z a b)) := rfl
theorem eqI (i j : Int) : eqF (.int i) (.int j) = some (.bl (i == j)) := rfl
theorem ixL_nat {xs : List Dat} {j : Nat} {x : Dat} (h : xs[j]? = some x) : ixD (.lst xs) (.int j) = some x := atI_nat h
theorem ixT_nat {xs : List Dat} {j : Nat} {x : Dat} (h : xs[j]? = some x) : ixD (.tup xs) (.int j) = some x := atI_nat h
theorem pick (x y : Dat) (b : Bool) : ixD (.lst [x, y]) (.int (if b then 1 else 0)) = some (if b then y else x) := by cases b <;> rfl
theorem pick2 (x y : Dat) {j : Int} (h0 : 0 ≤ j) (h1 : j < 2) : ixD (.lst [x, y]) (.int j) = some (if j = 1 then y else x) := by
  rcases (show j = 0 ∨ j = 1 by omega) with rfl | rfl <;> rfl
theorem int_b (b : Bool) : intD [.bl b] = some (.int (if b then 1 else 0)) := rfl
theorem rng_eq (m : Nat) : rng 0 m = ((List.range m).map fun k : Nat => (k : Int)).map Dat.int := by
  unfold rng
  rw [List.map_map]
  apply List.map_congr_left
  intro k _
  show Dat.int (0 + (k : Int)) = Dat.int (k : Int)
  rw [Int.zero_add]
theorem aTup_ok {fs : Ev → Option (List Dat)} {env : Ev} {xs : List Dat} (h : fs env = some xs) (hl : xs.length ≤ 1000) : aTup fs env = some (.tup xs) := by unfold aTup; rw [h]; exact if_pos hl
theorem append_ok {ds : List Dat} {d : Dat} (h : ds.length ≤ 1000) : appendF ds [d] = some (ds ++ [d]) := if_pos (Nat.lt_of_le_of_lt h (by decide))
abbrev scr (ns : List Int) : Dat := .lst (ns.map .int)
abbrev letters : Str := "abcdefghijklmnopqrstuvwxyz"
theorem letters_list : cl letters = List.range' 97 26 := by decide +kernel
theorem letters_at {j : Int} (h0 : 0 ≤ j) (h1 : j < 26) : atI (cl letters) j = some (97 + j.toNat) := by
  obtain ⟨n, rfl⟩ : ∃ n : Nat, j = n := ⟨j.toNat, (Int.toNat_of_nonneg h0).symm⟩
  refine atI_nat ?_
  rw [letters_list, List.getElem?_range' (by omega)]
  simp
theorem ix_letters {j : Int} (h0 : 0 ≤ j) (h1 : j < 26) : ixD (.str letters) (.int j) = some (.str ⟨#[97 + j.toNat]⟩) := by
  show (atI (cl letters) j).map _ = _
  rw [letters_at h0 h1]; rfl
theorem addS_ok {x y : Str} (h : x.length + y.length ≤ 1000) : addD (.str x) (.str y) = some (.str (x ++ y)) := if_pos (Nat.le_trans h (by decide))
theorem k_bb : kitB "bool" "bool" = some true := by decide +kernel
theorem k_ib : kitB "int" "bool" = some false := by decide +kernel
theorem k_ii : kitB "int" "int" = some true := by decide +kernel
theorem k_sb : kitB "str" "bool" = some false := by decide +kernel
theorem k_si : kitB "str" "int" = some false := by decide +kernel
theorem k_ss : kitB "str" "str" = some true := by decide +kernel
theorem k_lb : kitB "list" "bool" = some false := by decide +kernel
theorem k_li : kitB "list" "int" = some false := by decide +kernel
theorem k_ls : kitB "list" "str" = some false := by decide +kernel
theorem k_lt : kitB "list" "tuple" = some false := by decide +kernel
theorem k_ll : kitB "list" "list" = some true := by decide +kernel
theorem dI_ok {f : Ev → Option Dat} {env : Ev} {d : Dat} {t T : String} {b : Bool} (h : f env = some d) (ht : tyN d = some t) (hk : kitB t T = some b) : dI T f env = some (.bl b) := by
  unfold dI; rw [h]; show (isiB T d).map _ = _; unfold isiB; rw [ht]; show Option.map _ (kitB t T) = _; rw [hk]; rfl
theorem dT_ok {f : Ev → Option Dat} {env : Ev} {b : Bool} (h : f env = some (.bl b)) : dT f env = some b := by unfold dT; rw [h]; rfl
theorem dAndT {f g : Ev → Option Dat} {env : Ev} {d : Dat} (h : f env = some (.bl true)) (h2 : g env = some d) : dAnd f g env = some d := by unfold dAnd; rw [dB_ok h]; exact h2
theorem dNot_ok {f : Ev → Option Dat} {env : Ev} {b : Bool} (h : f env = some (.bl b)) : dNot f env = some (.bl (!b)) := by unfold dNot; rw [dB_ok h]; rfl
theorem tNot_ok {t : Ev → Option Bool} {env : Ev} {b : Bool} (h : t env = some b) : tNotD t env = some (!b) := by unfold tNotD; rw [h]; rfl
theorem ok_of {r : Rs} {d0 : Dat} (h : ∃ d, r = .ok d ∧ d = d0) : r = .ok d0 := by obtain ⟨d, e, rfl⟩ := h; exact e
theorem eqF_int (i : Int) : eqF (.int i) (.int i) = some (.bl true) := by unfold eqF; rw [if_pos (by rfl)]; unfold eqD; simp
theorem eqF_str (i : Str) : eqF (.str i) (.str i) = some (.bl true) := by unfold eqF; rw [if_pos (by rfl)]; unfold eqD; simp
theorem eqF_bl (i : Bool) : eqF (.bl i) (.bl i) = some (.bl true) := by unfold eqF; rw [if_pos (by rfl)]; unfold eqD; simp
theorem neF_len (n : Int) : neF (.int n) (.int n) = some (.bl false) := by unfold neF; rw [if_pos (by rfl)]; unfold eqD; simp
theorem dL_ok {g : Ev → Option (List Dat)} {env : Ev} {ds : List Dat} (h : g env = some ds) : dL g env = some (.lst ds) := by unfold dL; rw [h]; rfl
theorem dComp_ok {src : Ev → Option (List Dat)} {fs : List (Option Nat)} {g : Dat → Ev → Option Ev} {t : Ev → Option Bool} {f : Ev → Option Dat} {env env' : Ev} {xs ys : List Dat} (h1 : src env = some xs) (h2 : innerD fs env = env') (h3 : compL g t f env' xs = some ys) : dComp src fs g t f env = some ys := by
  unfold dComp; rw [h1, h2]; exact h3
theorem srcT_ok {f : Ev → Option Dat} {env : Ev} {xs : List Dat} (h : f env = some (.tup xs)) : srcL f env = some xs := by unfold srcL; rw [h]
theorem srcE_ok {f : Ev → Option Dat} {env : Ev} {xs : List Dat} (h : f env = some (.tup xs)) : srcE f env = some (numb 0 xs) := by unfold srcE; rw [srcT_ok h]; rfl
theorem compL_all {g : Dat → Ev → Option Ev} {t : Ev → Option Bool} {f : Ev → Option Dat} {env : Ev} {α : Type} (D : α → Dat) (y : α → Dat) : ∀ (xs : List α), (∀ x ∈ xs, ∃ e1, g (D x) env = some e1 ∧ t e1 = some true ∧ f e1 = some (y x)) → compL g t f env (xs.map D) = some (xs.map y)
  | [], _ => rfl
  | x :: xs, h => by
    obtain ⟨e1, a1, a2, a3⟩ := h x List.mem_cons_self
    have ih := compL_all D y xs fun z hz => h z (List.mem_cons_of_mem _ hz)
    rw [List.map_cons, compL, a1]
    dsimp only [Option.bind]
    rw [a2]
    dsimp only
    rw [if_pos rfl, a3]
    dsimp only
    rw [ih]
    rfl
theorem rng_range' (n : Nat) : rng 0 n = (List.range' 0 n).map fun i : Nat => Dat.int (i : Int) := by
  rw [rng_eq, List.map_map, ← List.range_eq_range']; rfl
theorem eq_made (b : Bool) : eqF (.str (if b then "made" else "given")) (.str "made") = some (.bl b) := by
  cases b
  · show eqF (.str "given") (.str "made") = _
    unfold eqF; rw [if_pos (by rfl)]; unfold eqD
    rw [show (("given" : Str) == "made") = false by decide +kernel]
  · exact eqF_str _
theorem eqB' (i j : Bool) : eqF (.bl i) (.bl j) = some (.bl (i == j)) := rfl
theorem bitOr_nat (a b : Nat) : Builtin.bitOr (a : Int) (b : Int) = ((a ||| b : Nat) : Int) := by
  unfold Builtin.bitOr Builtin.bitAnd Builtin.bitNot
  have h1 : decide (0 ≤ -(a : Int) - 1) = false := by simp; omega
  have h2 : decide (0 ≤ -(b : Int) - 1) = false := by simp; omega
  rw [h1, h2]
  dsimp only
  rw [show (-(-(a : Int) - 1) - 1).toNat = a by omega, show (-(-(b : Int) - 1) - 1).toNat = b by omega]
  omega
theorem bitAnd_nat (a b : Nat) : Builtin.bitAnd (a : Int) (b : Int) = ((a &&& b : Nat) : Int) := by
  unfold Builtin.bitAnd
  rw [show decide (0 ≤ (a : Int)) = true by simp, show decide (0 ≤ (b : Int)) = true by simp]
  simp
def bitsN (ps : List Nat) : Nat := ps.foldl (fun a p => a ||| 2 ^ p) 0
theorem bits_from (ps : List Nat) : ∀ (a j : Nat), (ps.foldl (fun a p => a ||| 2 ^ p) a).testBit j = (a.testBit j || decide (j ∈ ps)) := by
  induction ps with
  | nil => intro a j; simp
  | cons p ps ih =>
    intro a j
    rw [List.foldl_cons, ih, Nat.testBit_or, Nat.testBit_two_pow]
    by_cases h : j = p
    · subst h; simp
    · have h' : ¬ p = j := fun e => h e.symm
      simp [h, h']
theorem bitsN_at (ps : List Nat) (j : Nat) : (bitsN ps).testBit j = decide (j ∈ ps) := by unfold bitsN; rw [bits_from]; simp
theorem bitsN_ext {ps qs : List Nat} (h : ∀ j, j ∈ ps ↔ j ∈ qs) : bitsN ps = bitsN qs := Nat.eq_of_testBit_eq fun j => by rw [bitsN_at, bitsN_at]; simp [h]
def onesN (n k : Nat) : List Nat := (List.range k).filter n.testBit
theorem onesN_mem {n k : Nat} (h : n < 2 ^ k) (j : Nat) : j ∈ onesN n k ↔ n.testBit j = true := by
  unfold onesN
  rw [List.mem_filter, List.mem_range]
  refine ⟨fun q => q.2, fun q => ⟨?_, q⟩⟩
  rcases Nat.lt_or_ge j k with h1 | h1
  · exact h1
  · have := Nat.testBit_lt_two_pow (Nat.lt_of_lt_of_le h (Nat.pow_le_pow_right (by decide) h1))
    rw [this] at q; cases q
theorem bits_ones {n k : Nat} (h : n < 2 ^ k) : bitsN (onesN n k) = n := Nat.eq_of_testBit_eq fun j => by
  rw [bitsN_at, Bool.eq_iff_iff, decide_eq_true_eq]; exact onesN_mem h j
theorem onesN_sorted (n k : Nat) : (onesN n k).Pairwise (· < ·) := List.Pairwise.filter _ List.pairwise_lt_range
theorem onesN_eq {n k m : Nat} (h : n < 2 ^ k) (h' : n < 2 ^ m) : onesN n k = onesN n m := by
  rcases Nat.le_total k m with hle | hle
  · obtain ⟨d, rfl⟩ := Nat.exists_eq_add_of_le hle
    unfold onesN
    rw [List.range_add, List.filter_append]
    rw [show ((List.range d).map (k + ·)).filter n.testBit = [] from ?_, List.append_nil]
    rw [List.filter_eq_nil_iff]
    intro j hj
    obtain ⟨i, _, rfl⟩ := List.mem_map.mp hj
    rw [Nat.testBit_lt_two_pow (Nat.lt_of_lt_of_le h (Nat.pow_le_pow_right (by decide) (Nat.le_add_right _ _)))]
    decide
  · obtain ⟨d, rfl⟩ := Nat.exists_eq_add_of_le hle
    unfold onesN
    rw [List.range_add, List.filter_append]
    rw [show ((List.range d).map (m + ·)).filter n.testBit = [] from ?_, List.append_nil]
    rw [List.filter_eq_nil_iff]
    intro j hj
    obtain ⟨i, _, rfl⟩ := List.mem_map.mp hj
    rw [Nat.testBit_lt_two_pow (Nat.lt_of_lt_of_le h' (Nat.pow_le_pow_right (by decide) (Nat.le_add_right _ _)))]
    decide
theorem add_place {a p : Nat} (h : a.testBit p = false) : a + 2 ^ p = a ||| 2 ^ p := by
  apply Nat.eq_of_testBit_eq
  intro j
  have e1 : a = 2 ^ p * (a / 2 ^ p) + a % 2 ^ p := (Nat.div_add_mod a (2 ^ p)).symm
  have hm : a % 2 ^ p < 2 ^ p := Nat.mod_lt _ (Nat.two_pow_pos p)
  have ev : a / 2 ^ p % 2 = 0 := by
    rw [Nat.testBit_eq_decide_div_mod_eq] at h
    have := of_decide_eq_false h
    omega
  have e2 : a + 2 ^ p = 2 ^ p * (a / 2 ^ p + 1) + a % 2 ^ p := by rw [Nat.mul_add, Nat.mul_one]; omega
  rw [e2, Nat.testBit_two_pow_mul_add _ hm, Nat.testBit_or, Nat.testBit_two_pow]
  rw [show a.testBit j = (2 ^ p * (a / 2 ^ p) + a % 2 ^ p).testBit j by rw [← e1], Nat.testBit_two_pow_mul_add _ hm]
  by_cases hj : j < p
  · simp [hj]; omega
  · rw [if_neg hj, if_neg hj]
    rcases Nat.lt_or_eq_of_le (Nat.le_of_not_lt hj) with h1 | h1
    · obtain ⟨i, hi⟩ : ∃ i, j - p = i + 1 := ⟨j - p - 1, by omega⟩
      rw [hi, Nat.testBit_succ, Nat.testBit_succ]
      rw [show (a / 2 ^ p + 1) / 2 = a / 2 ^ p / 2 by omega]
      have : ¬ p = j := by omega
      simp [this]
    · subst h1
      simp
      omega
theorem toI (ps : List Nat) : (ps.map fun p : Nat => (p : Int)).map Dat.int = ps.map fun p : Nat => Dat.int (p : Int) := by rw [List.map_map]; rfl
abbrev natsD (ps : List Nat) : List Dat := (ps.map fun p : Nat => (p : Int)).map Dat.int
theorem shl1 (p : Nat) (hp : p ≤ 1000) : shlD (.int 1) (.int (p : Int)) = some (.int ((2 ^ p : Nat) : Int)) := by
  have : shlD (.int 1) (.int (p : Int)) = some (.int (1 * 2 ^ ((p : Int)).toNat)) := if_pos ⟨by omega, by omega, by decide⟩
  rw [this, Int.toNat_natCast, Int.one_mul]; congr 2
theorem bitsI (n : Nat) : n < 2 ^ Builtin.Int.intBits (n : Int) := by
  unfold Builtin.Int.intBits
  by_cases h0 : n = 0
  · subst h0; decide
  · have hb : (((n : Int)) == 0) = false := by simpa using h0
    rw [hb]
    simp only [Bool.false_eq_true, if_false, Int.natAbs_natCast]
    exact Nat.lt_log2_self
theorem bits_small {n k : Nat} (h : n < 2 ^ k) : Builtin.Int.intBits (n : Int) ≤ k := by
  unfold Builtin.Int.intBits
  by_cases h0 : n = 0
  · subst h0; simp
  · have hb : (((n : Int)) == 0) = false := by simpa using h0
    rw [hb]
    simp only [Bool.false_eq_true, if_false, Int.natAbs_natCast]
    have := (Nat.log2_lt h0).mpr h
    omega
theorem dCalN_ok' {F : List Dat → Rs} {fs : Ev → Option (List Dat)} {env : Ev} {xs ds : List Dat} (h1 : fs env = some xs) (h2 : F xs = .ok (.lst ds)) : dCalN F fs env = some ds := by unfold dCalN; rw [h1]; show lstR (F xs) = _; rw [h2]; rfl
theorem dCalP_ok' {F : List Dat → Rs} {fs : Ev → Option (List Dat)} {env : Ev} {xs : List Dat} {d : Dat} (h1 : fs env = some xs) (h2 : F xs = .ok d) (hd : pureD d = true := by rfl) : dCalP F fs env = some d := by unfold dCalP; rw [h1]; show (okR (F xs)).bind _ = _; rw [h2]; show (if pureD d = true then some d else none) = _; rw [if_pos hd]
theorem pd_int (n : Nat) (i : Int) : pd n (.int i) = true := by cases n <;> rfl
theorem pd_nats (ps : List Nat) : (natsD ps).all (pd 20) = true := List.all_eq_true.mpr fun x hx => by
  obtain ⟨i, _, rfl⟩ := List.mem_map.mp hx
  exact pd_int 20 i
theorem in_nats (p : Nat) (ps : List Nat) : inB (.int (p : Int)) (.lst (natsD ps)) = some (decide (p ∈ ps)) := by
  unfold inB
  dsimp only
  rw [pd_nats, pd_int, Bool.and_self, if_pos rfl]
  congr 1
  rw [Bool.eq_iff_iff, List.any_eq_true, decide_eq_true_eq]
  constructor
  · rintro ⟨x, hx, he⟩
    obtain ⟨i, hi, rfl⟩ := List.mem_map.mp hx
    obtain ⟨q, hq, rfl⟩ := List.mem_map.mp hi
    have : ((q : Int) == (p : Int)) = true := by unfold eqD at he; exact he
    have : q = p := by have h9 := eq_of_beq this; omega
    exact this ▸ hq
  · intro h
    refine ⟨.int (p : Int), List.mem_map_of_mem (List.mem_map_of_mem h), ?_⟩
    unfold eqD; simp
theorem nin_nats (p : Nat) (ps : List Nat) : ninF (.int (p : Int)) (.lst (natsD ps)) = some (.bl (!decide (p ∈ ps))) := by unfold ninF; rw [in_nats]; rfl
theorem bitsN_lt {ps : List Nat} {k : Nat} (h : ∀ p ∈ ps, p < k) : bitsN ps < 2 ^ k := Nat.lt_pow_two_of_testBit _ fun i hi => by
  rw [bitsN_at]
  apply decide_eq_false
  intro hm
  have := h i hm
  omega
theorem neF_refl (ps : List Nat) : neF (.lst (natsD ps)) (.lst (natsD ps)) = some (.bl false) := by
  have hpd : pd 20 (.lst (natsD ps)) = true := List.all_eq_true.mpr fun x hx => by
    obtain ⟨i, _, rfl⟩ := List.mem_map.mp hx
    exact pd_int 19 i
  have he : ∀ qs : List Nat, eqDs (natsD qs) (natsD qs) = true := fun qs => by
    induction qs with
    | nil => unfold eqDs; rfl
    | cons q qs ih =>
      show eqDs (.int (q : Int) :: natsD qs) (.int (q : Int) :: natsD qs) = true
      unfold eqDs; rw [ih]; unfold eqD; simp
  unfold neF
  rw [hpd, Bool.and_self, if_pos rfl]
  unfold eqD
  rw [he]; rfl
theorem bls_map (bs : List Bool) : allD [.lst (bs.map .bl)] = some (.bl (bs.all id)) := by unfold allD; dsimp only; rw [blsD_map]; rfl
theorem shrN (n j : Nat) : shrD (.int (n : Int)) (.int (j : Int)) = some (.int ((n / 2 ^ j : Nat) : Int)) := by
  have : shrD (.int (n : Int)) (.int (j : Int)) = some (.int ((n : Int) / 2 ^ ((j : Int)).toNat)) := by unfold shrD iop; dsimp only; rw [if_pos (by omega)]
  rw [this, Int.toNat_natCast]; congr 2
theorem and1N (n j : Nat) : andD (.int ((n / 2 ^ j : Nat) : Int)) (.int 1) = some (.int (if n.testBit j then 1 else 0)) := by
  show some (Dat.int (Builtin.bitAnd ((n / 2 ^ j : Nat) : Int) ((1 : Nat) : Int))) = _
  rw [bitAnd_nat, Nat.and_one_is_mod, Nat.testBit_eq_decide_div_mod_eq]
  generalize n / 2 ^ j = q
  congr 2
  rcases (show q % 2 = 0 ∨ q % 2 = 1 by omega) with h | h <;> simp [h]
theorem andN (a b : Nat) : andD (.int (a : Int)) (.int (b : Int)) = some (.int ((a &&& b : Nat) : Int)) := by
  show some (Dat.int (Builtin.bitAnd _ _)) = _
  rw [bitAnd_nat]
theorem eq1_bit (b : Bool) : eqF (.int (if b then 1 else 0)) (.int 1) = some (.bl b) := by cases b <;> rfl
theorem aLst_ok {fs : Ev → Option (List Dat)} {env : Ev} {xs : List Dat} (h : fs env = some xs) (hl : xs.length ≤ 1000) : aLst fs env = some xs := by unfold aLst; rw [h]; exact if_pos (Nat.le_trans hl (by decide))
theorem natsD_map (ps : List Nat) : natsD ps = ps.map fun p : Nat => Dat.int (p : Int) := toI ps
theorem compL_ex {g : Dat → Ev → Option Ev} {f : Ev → Option Dat} {env : Ev} {α : Type} (D : α → Dat) (P : α → Prop) : ∀ (xs : List Dat), (∀ x ∈ xs, ∃ (e1 : Ev) (y : α), g x env = some e1 ∧ f e1 = some (D y) ∧ P y) → ∃ ys : List α, compL g tTrue f env xs = some (ys.map D) ∧ ys.length = xs.length ∧ ∀ y ∈ ys, P y
  | [], _ => ⟨[], rfl, rfl, fun _ h => nomatch h⟩
  | x :: xs, h => by
    obtain ⟨e1, y, a1, a2, a3⟩ := h x List.mem_cons_self
    obtain ⟨ys, b1, b2, b3⟩ := compL_ex D P xs fun z hz => h z (List.mem_cons_of_mem _ hz)
    refine ⟨y :: ys, ?_, by rw [List.length_cons, List.length_cons, b2], fun z hz => ?_⟩
    · rw [compL, a1]
      dsimp only [Option.bind, tTrue]
      rw [if_pos rfl, a2]
      dsimp only
      rw [b1]
      rfl
    · rcases List.mem_cons.mp hz with e | e
      · exact e ▸ a3
      · exact b3 z e
theorem rng_mem {lo : Int} {n : Nat} {d : Dat} (h : d ∈ rng lo n) : ∃ i : Nat, i < n ∧ d = .int (lo + i) := by
  obtain ⟨i, hi, e⟩ := List.getElem_of_mem h
  have := rng_get (lo := lo) (n := n) (i := i) (d := d) (by rw [List.getElem?_eq_getElem hi, e])
  exact ⟨i, this.1, this.2⟩
end L2
set_option Elab.async false
set_option linter.all false
set_option maxRecDepth 100000
set_option maxHeartbeats 4000000
namespace K81
open PySem PySem.Spec PyProof.Rows L2
open K12 (NameOk turnW cl_turnW turnW_many find_letter split_last cut_last slice_to slice_from kept5 Low low_add wireD)
open K13 (Wd Wds wds_cons wds_nil name_wd join_sok sum_le nm_wd)
abbrev scr (ns : List Int) : Dat := .lst (ns.map .int)
theorem mx_eq : F__law_mix = K12.F__law_mix := rfl
theorem nm_eq : F__law_name = K12.F__law_name := rfl
theorem mix_ok (ns : List Int) (k : Int) (hl : ns.length ≤ 63) (h0 : 0 ≤ k) (h1 : k < 100000) : ∃ r : Int, F__law_mix [scr ns, .int k] = .ok (.int r) ∧ 0 ≤ r ∧ r < 1000000000039 := by rw [mx_eq]; exact K12.mix_ok ns k hl h0 h1
theorem name_ok (c : Int) (h0 : 0 ≤ c) : ∃ z : Str, F__law_name [.int c] = .ok (.str z) ∧ 1 ≤ z.length ∧ z.length ≤ 8 ∧ Low z := by rw [nm_eq]; exact K12.name_ok c h0
abbrev wenv (ns : List Int) (cell many : Int) (ws : List Str) (v1 v2 v3 v4 : Slt) : Ev := [.fz (scr ns), .fz (.int cell), .fz (.int many), .fz (.str letters), .ow (ws.map .str), v1, v2, v3, v4, .un]
theorem wires_ok (ns : List Int) (hl : ns.length ≤ 63) :
    ∃ wr : List (Str × Bool), F__law_wires [scr ns] = .ok (.lst (wr.map wireD)) ∧ 1 ≤ wr.length ∧ wr.length ≤ 10 ∧ (∀ w ∈ wr, NameOk w.1) := by
  have := run_of (n := 10) (p := 1) (ds := [scr ns]) (g := g__law_wires) (R := fun d => ∃ wr : List (Str × Bool), d = .lst (wr.map wireD) ∧ 1 ≤ wr.length ∧ wr.length ≤ 10 ∧ (∀ w ∈ wr, NameOk w.1)) rfl ?_
  · obtain ⟨d, e, r, rfl, h⟩ := this
    exact ⟨r, e, h⟩
  show Go (g__law_wires [.fz (scr ns), .un, .un, .un, .un, .un, .un, .un, .un, .un]) _ _
  unfold g__law_wires
  obtain ⟨cell0, ec0, d0, d1⟩ := mix_ok ns 0 hl (by omega) (by omega)
  refine go_cons (go_set (dCal_ok (xs := [scr ns, .int 0]) rfl ec0) ?_)
  obtain ⟨mz, m, hmz, hm, hm1, hm2⟩ : ∃ (mz : Int) (m : Nat), mz = (m : Int) ∧ (if (cell0 % 4 == 1) = true then Dat.int 10 else .int (1 + cell0 / 4 % 10)) = .int mz ∧ 1 ≤ m ∧ m ≤ 10 := by
    split
    · exact ⟨10, 10, rfl, rfl, by omega, by omega⟩
    · exact ⟨1 + cell0 / 4 % 10, (1 + cell0 / 4 % 10).toNat, by omega, rfl, by omega, by omega⟩
  refine go_cons (go_set (d := .int mz) (by rw [← hm]; exact dO_ok (x := .lst [.int (1 + cell0 / 4 % 10), .int 10]) rfl (dF_ok (aCons_ok (dO_ok (dO_ok rfl rfl (modD_ok (by omega))) rfl (eqI _ _)) rfl) (int_b _)) (pick _ _ _)) ?_)
  refine go_cons (go_set (d := .str letters) rfl ?_)
  refine go_cons (go_own (ds := []) rfl ?_)
  dsimp only [List.set]
  refine go_cons (go_for (ds := rng 0 m) (fun i e => ∃ (ws : List Str) (v1 v2 v3 v4 : Slt), e = wenv ns cell0 mz ws v1 v2 v3 v4 ∧ ws.length = i ∧ (∀ z ∈ ws, NameOk z)) (srcR1_eq (aCons_ok (by rw [← hmz]; rfl) rfl) (by omega))
    ⟨[], .un, .un, .un, .un, rfl, rfl, by simp⟩ ?_ ?_)
  · rintro i d e hi ⟨ws, v1, v2, v3, v4, rfl, hwl, hok⟩
    obtain ⟨hi1, rfl⟩ := rng_get hi
    refine ⟨_, rfl, ?_⟩
    dsimp only [List.set]
    obtain ⟨cell, ec, c0, c1⟩ := mix_ok ns (1 + (0 + (i : Int))) hl (by omega) (by omega)
    refine go_cons (go_set (dCal_ok (xs := [scr ns, .int (1 + (0 + (i : Int)))]) rfl ec) ?_)
    obtain ⟨z0, en, z1, z2, z3⟩ := name_ok cell c0
    refine go_cons (go_set (dCal_ok (xs := [.int cell]) rfl en) ?_)
    dsimp only [List.set]
    refine go_cons (Go.mono (N := fun e => ∃ (z : Str) (v : Slt), e = wenv ns cell0 mz ws (.fz (.int (0 + (i : Int)))) (.fz (.int cell)) (.fz (.str z)) v ∧ 1 ≤ z.length ∧ z.length ≤ 8 ∧ Low z) ?_ ?_ fun _ h => h)
    · refine go_if (tAnd_ok (a := decide ((0 : Int) < 0 + (i : Int))) (b := cell / 8 % 2 == 0) rfl fun _ => dB_ok (dO_ok (dO_ok (dO_ok rfl rfl (fdivD_ok ⟨by omega, by omega⟩)) rfl (modD_ok (by omega))) rfl rfl)) (fun hb => ?_) (fun hb => go_nil ⟨z0, v4, rfl, z1, z2, z3⟩)
      have hp' : 0 < i := by
        have := (Bool.and_eq_true _ _ ▸ hb).1
        have := of_decide_eq_true this
        omega
      have hg : (ws.map Dat.str)[0]? = some (.str (ws[0]'(by omega))) := by simp [show 0 < ws.length by omega]
      have hm0 : ws[0]'(by omega) ∈ ws := List.getElem_mem _
      generalize ws[0]'(by omega) = w0 at hg hm0
      obtain ⟨a1, a2, a3, _⟩ := hok w0 hm0
      have b1 : 0 ≤ cell / 16 % (w0.length : Int) := Int.emod_nonneg _ (by omega)
      have b2 : cell / 16 % (w0.length : Int) < w0.length := Int.emod_lt_of_pos _ (by omega)
      refine go_cons (go_set (d := .int (cell / 16 % (w0.length : Int))) (dO_ok (dO_ok rfl rfl (fdivD_ok ⟨by omega, by omega⟩)) (dF_ok (aCons_ok (dO_ok rfl rfl (ixL_nat (j := 0) hg)) rfl) rfl) (modD_ok (by omega))) ?_)
      generalize cell / 16 % (w0.length : Int) = at0 at b1 b2 ⊢
      obtain ⟨n0, rfl⟩ : ∃ n : Nat, at0 = n := ⟨at0.toNat, (Int.toNat_of_nonneg b1).symm⟩
      refine go_cons (go_set (d := .str w0) (dO_ok rfl rfl (ixL_nat (j := 0) hg)) ?_)
      dsimp only [List.set]
      have hx := ix_letters (j := cell / 128 % 26) (by omega) (by omega)
      have hcl : (cl w0).length = w0.length := cl_len w0
      have e1 := slice_to w0 (n0 := n0) (by omega)
      have e2 : cl (Txt.slice w0 (some ((n0 : Int) + 1)) none) = (cl w0).drop (n0 + 1) := by
        rw [show ((n0 : Int) + 1) = ((n0 + 1 : Nat) : Int) by omega]; exact slice_from w0 (by omega)
      have hh1 := cl_len (Txt.slice w0 none (some (n0 : Int)))
      have hh2 := cl_len (Txt.slice w0 (some ((n0 : Int) + 1)) none)
      rw [e1, List.length_take] at hh1
      rw [e2, List.length_drop] at hh2
      refine go_set (dO_ok (dO_ok (dS_ok rfl rfl (oSome_ok rfl) (slS_ok w0 none (some (n0 : Int)))) (dO_ok rfl (dO_ok (dO_ok rfl rfl (fdivD_ok ⟨by omega, by omega⟩)) rfl (modD_ok (by omega))) hx) (addS_ok (by show _ + 1 ≤ _; omega))) (dS_ok rfl (oSome_ok (i := (n0 : Int) + 1) rfl) rfl (slS_ok w0 (some ((n0 : Int) + 1)) none)) (addS_ok (by rw [len_app]; show _ + 1 + _ ≤ _; omega))) ?_
      dsimp only [List.set]
      refine ⟨_, _, rfl, ?_, ?_, ?_⟩
      · rw [len_app, len_app]; show 1 ≤ _ + 1 + _; omega
      · rw [len_app, len_app]; show _ + 1 + _ ≤ 8; omega
      · intro d hd
        rw [cl_app, cl_app, e1, e2, cl_one] at hd
        rcases List.mem_append.mp hd with hd | hd
        · rcases List.mem_append.mp hd with hd | hd
          · exact a3 d (List.mem_of_mem_take hd)
          · rw [List.mem_singleton.mp hd]; omega
        · exact a3 d (List.mem_of_mem_drop hd)
    · rintro e ⟨z, v, rfl, y1, y2, y3⟩
      obtain ⟨p, c, hpc⟩ := split_last y1
      have hc := y3 c (by rw [hpc]; simp)
      have hpl : p.length + 1 = z.length := by rw [← cl_len z, hpc]; simp
      have hpw : ∀ d ∈ p, 97 ≤ d ∧ d ≤ 122 := fun d hd => y3 d (by rw [hpc]; simp [hd])
      have hz0 : z = turnW p c 0 := cl_ext (by rw [cl_turnW, hpc]; congr 2; omega)
      have hbl : (ws ++ kept5).length ≤ 14 := by rw [List.length_append]; show ws.length + 5 ≤ 14; omega
      refine go_cons (go_while (n := (ws ++ kept5).length - 0) (fun m e => ∃ k, m = (ws ++ kept5).length - k ∧ k ≤ (ws ++ kept5).length ∧ (∀ j < k, turnW p c j ∈ ws ++ kept5) ∧ e = wenv ns cell0 mz ws (.fz (.int (0 + (i : Int)))) (.fz (.int cell)) (.fz (.str (turnW p c k))) v)
        ⟨0, rfl, Nat.zero_le _, fun j hj => absurd hj (Nat.not_lt_zero _), by rw [← hz0]⟩ ?_)
      rintro m e ⟨k, rfl, hk, hbad, rfl⟩
      have hzl : (turnW p c k).length = z.length := by rw [← cl_len, cl_turnW, List.length_append]; exact hpl
      have ht : ∀ b, decide (turnW p c k ∈ ws ++ kept5) = b → tOrD (dB (dO inF (dV 7) (dP 4))) (dB (dO inF (dV 7) (dL (aLst (aCons (dC (.str "given")) (aCons (dC (.str "made")) (aCons (dC (.str "up")) (aCons (dC (.str "down")) (aCons (dC (.str "start")) aNil))))))))) (wenv ns cell0 mz ws (.fz (.int (0 + (i : Int)))) (.fz (.int cell)) (.fz (.str (turnW p c k))) v) = some b := fun b hb => by
        rw [← hb]
        have := tOr_ok (t := dB (dO inF (dV 7) (dP 4))) (u := dB (dO inF (dV 7) (dL (aLst (aCons (dC (.str "given")) (aCons (dC (.str "made")) (aCons (dC (.str "up")) (aCons (dC (.str "down")) (aCons (dC (.str "start")) aNil))))))))) (env := wenv ns cell0 mz ws (.fz (.int (0 + (i : Int)))) (.fz (.int cell)) (.fz (.str (turnW p c k))) v) (dB_ok (dO_ok rfl rfl (inF_lst (turnW p c k) ws))) (fun _ => dB_ok (dO_ok rfl rfl (inF_lst (turnW p c k) kept5)))
        rw [this]
        congr 1
        by_cases g1 : turnW p c k ∈ ws <;> by_cases g2 : turnW p c k ∈ kept5 <;> simp [g1, g2]
      by_cases hmem : turnW p c k ∈ ws ++ kept5
      · refine .inr ⟨ht true (decide_eq_true hmem), ?_⟩
        have hk1 : k + 1 ≤ (ws ++ kept5).length := turnW_many (p := p) (c := c) (by omega) fun j hj => by
          rcases Nat.lt_or_ge j k with h | h
          · exact hbad j h
          · have : j = k := by omega
            subst this; exact hmem
        have hf := find_letter ((c - 97 + k) % 26) (by omega)
        have hlast : ixD (.str (turnW p c k)) (.int (-1)) = some (.str ⟨#[97 + (c - 97 + k) % 26]⟩) := by
          show (atI (cl (turnW p c k)) (-1)).map _ = _
          rw [atI_last' _ (by rw [cl_turnW]; simp), cl_turnW]
          simp
        have hsx : sindexD (.str letters) [.str ⟨#[97 + (c - 97 + k) % 26]⟩] = some (.int (((c - 97 + k) % 26 : Nat) : Int)) := by
          unfold sindexD
          dsimp only
          rw [hf, if_pos (by omega)]
        have hx := ix_letters (j := ((((c - 97 + k) % 26 : Nat) : Int) + 1) % 26) (by omega) (by omega)
        have hneg : dU negD (dC (.int 1)) (wenv ns cell0 mz ws (.fz (.int (0 + (i : Int)))) (.fz (.int cell)) (.fz (.str (turnW p c k))) v) = some (.int (-1)) := rfl
        have hsi : dM "str" sindexD (dV 3) (aCons (dO ixD (dV 7) (dU negD (dC (.int 1)))) aNil) (wenv ns cell0 mz ws (.fz (.int (0 + (i : Int)))) (.fz (.int cell)) (.fz (.str (turnW p c k))) v) = some (.int (((c - 97 + k) % 26 : Nat) : Int)) := by
          have ha : aCons (dO ixD (dV 7) (dU negD (dC (.int 1)))) aNil (wenv ns cell0 mz ws (.fz (.int (0 + (i : Int)))) (.fz (.int cell)) (.fz (.str (turnW p c k))) v) = some [.str ⟨#[97 + (c - 97 + k) % 26]⟩] := aCons_ok (dO_ok rfl hneg hlast) rfl
          unfold dM
          rw [ha]
          exact hsx
        have hsl := Txt.slice_le (turnW p c k) none (some (-1))
        refine go_set (dO_ok (dS_ok rfl rfl (oSome_ok hneg) (slS_ok (turnW p c k) none (some (-1)))) (dO_ok rfl (dO_ok (dO_ok hsi rfl rfl) rfl (modD_ok (by omega))) hx) (addS_ok (by show _ + 1 ≤ _; omega))) ?_
        have ew : Txt.slice (turnW p c k) none (some (-1)) ++ (⟨#[97 + (((((c - 97 + k) % 26 : Nat) : Int) + 1) % 26).toNat]⟩ : Str) = turnW p c (k + 1) := by
          refine cl_ext ?_
          rw [cl_app, cut_last (cl_turnW p c k), cl_turnW, cl_one]
          congr 2
          omega
        rw [ew]
        refine ⟨(ws ++ kept5).length - (k + 1), by omega, k + 1, rfl, hk1, fun j hj => ?_, rfl⟩
        rcases Nat.lt_or_ge j k with h | h
        · exact hbad j h
        · have : j = k := by omega
          subst this; exact hmem
      · refine .inl ⟨ht false (decide_eq_false hmem), ?_⟩
        rw [List.mem_append, not_or] at hmem
        refine go_meth (ds := ws.map .str) (as := [.str (turnW p c k)]) (ds' := (ws ++ [turnW p c k]).map .str) rfl rfl (by rw [append_ok (by rw [List.length_map]; omega), List.map_append]; rfl) ?_
        dsimp only [List.set]
        refine ⟨ws ++ [turnW p c k], _, _, _, _, rfl, by rw [List.length_append, List.length_singleton]; omega, ?_⟩
        intro y hy
        rcases List.mem_append.mp hy with hy | hy
        · exact hok y hy
        · rw [List.mem_singleton.mp hy]
          refine ⟨by omega, by omega, fun d hd => ?_, hmem.2⟩
          rw [cl_turnW] at hd
          rcases List.mem_append.mp hd with hd | hd
          · exact hpw d hd
          · rw [List.mem_singleton.mp hd]; omega
  · rintro e ⟨ws, v1, v2, v3, v4, rfl, hwl, hok⟩
    rw [rng_len] at hwl
    refine go_cons (go_set (d := .int (cell0 / 64)) (dO_ok rfl rfl (fdivD_ok ⟨by omega, by omega⟩)) ?_)
    dsimp only [List.set]
    generalize cell0 / 64 = kinds
    obtain ⟨wr, hwr, hlen, hall⟩ := compL_ex (g := gset 0) (f := aTup (aCons (dO ixD (dP 1) (dV 0)) (aCons (dO ixD (dL (aLst (aCons (dC (.str "given")) (aCons (dC (.str "made")) aNil)))) (dO modD (dO fdivD (dV 2) (dO addD (dC (.int 1)) (dO mulE (dC (.int 7)) (dV 0)))) (dC (.int 2)))) aNil))) (env := [.un, .pk (.lst (ws.map .str)), .fz (.int kinds)]) wireD (fun w => NameOk w.1) (rng 0 m) fun x hx => by
      obtain ⟨i, hi, rfl⟩ := rng_mem hx
      rw [Int.zero_add]
      have hiw : i < ws.length := by omega
      have hg : (ws.map Dat.str)[i]? = some (.str ws[i]) := by simp [hiw]
      have p1 := pick2 (.str "given") (.str "made") (j := kinds / (1 + 7 * (i : Int)) % 2) (by omega) (by omega)
      refine ⟨[.fz (.int i), .pk (.lst (ws.map .str)), .fz (.int kinds)], (ws[i], decide (kinds / (1 + 7 * (i : Int)) % 2 = 1)), rfl, ?_, hok _ (List.getElem_mem hiw)⟩
      refine Eq.trans (aTup_ok (aCons_ok (dO_ok rfl rfl (ixL_nat hg)) (aCons_ok (dO_ok (x := .lst [.str "given", .str "made"]) rfl (dO_ok (dO_ok rfl (dO_ok rfl (dO_ok rfl rfl (mulI_ok (.inl (by omega)))) rfl) (fdivD_ok ⟨by omega, by omega⟩)) rfl (modD_ok (by omega))) p1) rfl)) (by simp)) ?_
      unfold wireD
      by_cases hb : kinds / (1 + 7 * (i : Int)) % 2 = 1 <;> simp [hb]
    rw [rng_len] at hlen
    refine go_ret (d := .lst (wr.map wireD)) (dL_ok (dComp_ok (xs := rng 0 m) (env' := [.un, .pk (.lst (ws.map .str)), .fz (.int kinds)]) (srcR1_eq (aCons_ok (by rw [← hmz]; rfl) rfl) (by omega)) rfl hwr)) ⟨wr, rfl, by omega, by omega, hall⟩
end K81
set_option Elab.async false
set_option linter.all false
set_option maxRecDepth 100000
set_option maxHeartbeats 4000000
namespace K81
open PySem PySem.Spec PyProof.Rows L2
open K12 (NameOk wireD)
open K13 (Wd Wds wds_cons wds_nil name_wd join_sok sum_le nm_wd)
abbrev Rw := Nat × Nat
def rowD (r : Rw) : Dat := .tup [.int (r.1 : Int), .int (r.2 : Int)]
def gateD (g : List Rw) : Dat := .tup (g.map rowD)
def gatesD (gs : List (List Rw)) : Dat := .tup (gs.map gateD)
structure GsOk (n : Nat) (gs : List (List Rw)) : Prop where
  l : gs.length ≤ 2
  g : ∀ g ∈ gs, g.length ≤ 3 ∧ ∀ r ∈ g, r.1 < 2 ^ n
theorem row_ok (c : Int) (n : Nat) (h0 : 0 ≤ c) (hn : n ≤ 10) : ∃ r : Rw, F__law_row [.int c, .int (n : Int)] = .ok (rowD r) ∧ r.1 < 2 ^ n := by
  have := run_of (n := 3) (p := 2) (ds := [.int c, .int (n : Int)]) (g := g__law_row) (R := fun d => ∃ r : Rw, d = rowD r ∧ r.1 < 2 ^ n) rfl ?_
  · obtain ⟨d, e, r, rfl, h⟩ := this
    exact ⟨r, e, h⟩
  show Go (g__law_row [.fz (.int c), .fz (.int (n : Int)), .un]) _ _
  unfold g__law_row
  refine go_cons (go_if (b := c % 6 == 0) (dB_ok (dO_ok (dO_ok rfl rfl (modD_ok (by omega))) rfl (eqI _ _))) (fun _ => ?_) (fun _ => go_nil ?_))
  · exact go_ret (d := rowD (0, 0)) rfl ⟨(0, 0), rfl, Nat.two_pow_pos n⟩
  have hp : (0 : Int) < ((2 ^ n : Nat) : Int) := by exact_mod_cast Nat.two_pow_pos n
  obtain ⟨a, ha⟩ : ∃ a : Nat, c / 6 % ((2 ^ n : Nat) : Int) = (a : Int) := ⟨_, (Int.toNat_of_nonneg (Int.emod_nonneg _ (by omega))).symm⟩
  obtain ⟨b, hb⟩ : ∃ b : Nat, c / 65536 % ((2 ^ n : Nat) : Int) = (b : Int) := ⟨_, (Int.toNat_of_nonneg (Int.emod_nonneg _ (by omega))).symm⟩
  have hlt : c / 6 % ((2 ^ n : Nat) : Int) < ((2 ^ n : Nat) : Int) := Int.emod_lt_of_pos _ hp
  refine go_cons (go_set (d := .int (a : Int)) (dO_ok (dO_ok rfl rfl (fdivD_ok ⟨by omega, by omega⟩)) (dO_ok rfl rfl (shl1 n (by omega))) (by rw [modD_ok hp, ha])) ?_)
  exact go_ret (d := rowD (a, b &&& a)) (aTup_ok (aCons_ok rfl (aCons_ok (dO_ok (dO_ok (dO_ok rfl rfl (fdivD_ok ⟨by omega, by omega⟩)) (dO_ok rfl rfl (shl1 n (by omega))) (by rw [modD_ok hp, hb])) rfl (andN b a)) rfl)) (by simp)) ⟨_, rfl, by rw [ha] at hlt; exact_mod_cast hlt⟩
theorem gates_ok (ns : List Int) (first : Int) (n : Nat) (hl : ns.length ≤ 63) (h0 : 0 ≤ first) (h1 : first < 10000) (hn : n ≤ 10) : ∃ gs : List (List Rw), F__law_gates [scr ns, .int first, .int (n : Int)] = .ok (gatesD gs) ∧ GsOk n gs := by
  have := run_of (n := 6) (p := 3) (ds := [scr ns, .int first, .int (n : Int)]) (g := g__law_gates) (R := fun d => ∃ gs : List (List Rw), d = gatesD gs ∧ GsOk n gs) rfl ?_
  · obtain ⟨d, e, r, rfl, h⟩ := this
    exact ⟨r, e, h⟩
  show Go (g__law_gates [.fz (scr ns), .fz (.int first), .fz (.int (n : Int)), .un, .un, .un]) _ _
  unfold g__law_gates
  refine go_cons (go_own (ds := []) rfl ?_)
  obtain ⟨c, ec, c0, c1⟩ := mix_ok ns first hl h0 (by omega)
  obtain ⟨m, hm, hm3⟩ : ∃ m : Nat, c % 3 = (m : Int) ∧ m ≤ 2 := ⟨(c % 3).toNat, by omega, by omega⟩
  refine go_cons (go_for (ds := rng 0 m) (fun i e => ∃ (gs : List (List Rw)) (v4 v5 : Slt), e = [.fz (scr ns), .fz (.int first), .fz (.int (n : Int)), .ow (gs.map gateD), v4, v5] ∧ gs.length = i ∧ ∀ g ∈ gs, g.length ≤ 3 ∧ ∀ r ∈ g, r.1 < 2 ^ n) (srcR1_eq (aCons_ok (by rw [← hm]; exact dO_ok (dCal_ok (xs := [scr ns, .int first]) rfl ec) rfl (modD_ok (by omega))) rfl) (by omega)) ⟨[], .un, .un, rfl, rfl, by simp⟩ ?_ ?_)
  · rintro i d e hi ⟨gs, v4, v5, rfl, hgl, hok⟩
    obtain ⟨hi1, rfl⟩ := rng_get hi
    rw [Int.zero_add]
    refine ⟨_, rfl, ?_⟩
    dsimp only [List.set]
    obtain ⟨q, hq, hq3⟩ : ∃ q : Nat, c / 4 / (1 + 5 * (i : Int)) % 4 = (q : Int) ∧ q ≤ 3 := ⟨(c / 4 / (1 + 5 * (i : Int)) % 4).toNat, by omega, by omega⟩
    obtain ⟨rs, ers, hrl, hrk⟩ := compL_ex (g := gset 0) (f := dCal F__law_row (aCons (dCal F__law_mix (aCons (dV 2) (aCons (dO addD (dO addD (dO addD (dV 3) (dC (.int 1))) (dO mulE (dC (.int 3)) (dV 4))) (dV 0)) aNil))) (aCons (dV 1) aNil))) (env := [.un, .fz (.int (n : Int)), .fz (scr ns), .fz (.int first), .fz (.int (i : Int))]) rowD (fun r => r.1 < 2 ^ n) (rng 0 q) fun x hx => by
      obtain ⟨j, hj, rfl⟩ := rng_mem hx
      rw [Int.zero_add]
      obtain ⟨y, ey, y0, y1⟩ := mix_ok ns (first + 1 + 3 * (i : Int) + (j : Int)) hl (by omega) (by omega)
      obtain ⟨r, er, hr⟩ := row_ok y n y0 hn
      exact ⟨[.fz (.int (j : Int)), .fz (.int (n : Int)), .fz (scr ns), .fz (.int first), .fz (.int (i : Int))], r, rfl, dCal_ok (xs := [.int y, .int (n : Int)]) (aCons_ok (dCal_ok (xs := [scr ns, .int (first + 1 + 3 * (i : Int) + (j : Int))]) (aCons_ok rfl (aCons_ok (dO_ok (dO_ok (dO_ok rfl rfl rfl) (dO_ok rfl rfl (mulI_ok (.inl (by omega)))) rfl) rfl rfl) rfl)) ey) rfl) er, hr⟩
    rw [rng_len] at hrl
    refine go_cons (go_set (d := .int (q : Int)) (by rw [← hq]; exact dO_ok (dO_ok (dO_ok (dCal_ok (xs := [scr ns, .int first]) rfl ec) rfl (fdivD_ok ⟨by omega, by omega⟩)) (dO_ok rfl (dO_ok rfl rfl (mulI_ok (.inl (by omega)))) rfl) (fdivD_ok ⟨by omega, by omega⟩)) rfl (modD_ok (by omega))) ?_)
    refine go_meth (ds := gs.map gateD) (as := [gateD rs]) (ds' := (gs ++ [rs]).map gateD) rfl (aCons_ok (dF_ok (aCons_ok (dL_ok (dComp_ok (xs := rng 0 q) (env' := [.un, .fz (.int (n : Int)), .fz (scr ns), .fz (.int first), .fz (.int (i : Int))]) (srcR1_eq (aCons_ok rfl rfl) (by omega)) rfl ers)) rfl) rfl) rfl) (by rw [append_ok (by rw [List.length_map]; omega), List.map_append]; rfl) ⟨gs ++ [rs], _, _, rfl, by rw [List.length_append, List.length_singleton]; omega, fun g hg => ?_⟩
    rcases List.mem_append.mp hg with hg | hg
    · exact hok g hg
    · rw [List.mem_singleton.mp hg]; exact ⟨by omega, hrk⟩
  · rintro e ⟨gs, v4, v5, rfl, hgl, hok⟩
    rw [rng_len] at hgl
    exact go_ret (d := gatesD gs) (dF_ok (aCons_ok rfl rfl) rfl) ⟨gs, rfl, ⟨by omega, hok⟩⟩
def lvW (b : Bool) (z : Str) : Str := if b = true then z else ("-" : Str) ++ z
def rowWs (nm : List Str) (r : Rw) : List Str := (onesN r.1 nm.length).map fun i => lvW (r.2.testBit i) (nm.getD i "")
def rowT (nm : List Str) (r : Rw) : Str := if r.1 = 0 then "always" else Txt.join " " (rowWs nm r)
def gatesR (nm : List Str) (gs : List (List Rw)) : List Str := gs.flatMap fun g => g.map (rowT nm)
def gatesT (nm : List Str) (gs : List (List Rw)) : Str := if gatesR nm gs = [] then "never" else Txt.join " | " (gatesR nm gs)
theorem blank1 : (" " : Str).length = 1 := by decide +kernel
theorem blankOk : PyData.strOk " " = true := by decide +kernel
theorem bar3 : (" | " : Str).length = 3 := by decide +kernel
theorem barOk : PyData.strOk " | " = true := by decide +kernel
theorem dash1 : ("-" : Str).length = 1 := by decide +kernel
theorem dashOk : PyData.strOk "-" = true := by decide +kernel
theorem join_ok {z : Str} {ys : List Str} (hz : z.length ≤ 3) (hk : PyData.strOk z = true) (h : Wds 5000 ys) (hl : ys.length ≤ 100) : joinD (.str z) [.lst (ys.map .str)] = some (.str (Txt.join z ys)) := by
  have h1 := sum_le fun y hy => (h y hy).le
  have h3 : 5000 * ys.length ≤ 5000 * 100 := Nat.mul_le_mul_left _ hl
  have h2 : (Txt.join z ys).length = (ys.map (·.length)).sum + (ys.length - 1) * z.length := size_glued z ys
  have h4 : (ys.length - 1) * z.length ≤ 100 * 3 := Nat.mul_le_mul (by omega) hz
  unfold joinD
  dsimp only
  rw [strsD_map]
  have : (1000000 + 400 : Nat) ≤ sizeLine := by decide
  have h5 : ys.length * z.length ≤ 100 * 3 := Nat.mul_le_mul hl hz
  refine if_pos ⟨?_, SOk.of (join_sok hk fun y hy => (h y hy).ok) ?_⟩
  · generalize ys.length * z.length = q2 at *
    generalize (ys.length - 1) * z.length = q at *
    omega
  · rw [h2]
    generalize (ys.length - 1) * z.length = q at *
    omega
theorem join_wd {z : Str} {ys : List Str} {B n : Nat} (hz : z.length ≤ 3) (hk : PyData.strOk z = true) (h : Wds B ys) (hl : ys.length ≤ n) : Wd (B * n + n * 3) (Txt.join z ys) := by
  have h1 := sum_le fun y hy => (h y hy).le
  have h2 : (Txt.join z ys).length = (ys.map (·.length)).sum + (ys.length - 1) * z.length := size_glued z ys
  have h3 : B * ys.length ≤ B * n := Nat.mul_le_mul_left _ hl
  have h4 : (ys.length - 1) * z.length ≤ n * 3 := Nat.mul_le_mul (by omega) hz
  exact ⟨join_sok hk fun y hy => (h y hy).ok, by rw [h2]; omega⟩
theorem wd_le {B C : Nat} {z : Str} (h : Wd B z) (hc : B ≤ C) : Wd C z := ⟨h.ok, Nat.le_trans h.le hc⟩
theorem lvW_wd {b : Bool} {z : Str} (h : Wd 8 z) : Wd 9 (lvW b z) := by
  cases b with
  | true => exact wd_le h (by omega)
  | false => exact ⟨strOk_app dashOk h.ok, by have := h.le; show (("-" : Str) ++ z).length ≤ 9; rw [len_app, dash1]; omega⟩
theorem onesN_len (n k : Nat) : (onesN n k).length ≤ k := by
  unfold onesN
  exact Nat.le_trans (List.length_filter_le _ _) (by simp)
theorem rowWs_wds {nm : List Str} (hn : Wds 8 nm) (r : Rw) : Wds 9 (rowWs nm r) := fun y hy => by
  unfold rowWs at hy
  obtain ⟨i, _, rfl⟩ := List.mem_map.mp hy
  exact lvW_wd (nm_wd hn i)
theorem rowWs_len (nm : List Str) (r : Rw) : (rowWs nm r).length ≤ nm.length := by unfold rowWs; rw [List.length_map]; exact onesN_len _ _
theorem rowT_wd {nm : List Str} (hn : Wds 8 nm) (hl : nm.length ≤ 10) (r : Rw) : Wd 120 (rowT nm r) := by
  unfold rowT
  split
  · exact ⟨by decide +kernel, by decide +kernel⟩
  · exact wd_le (join_wd (n := 10) (by rw [blank1]; omega) blankOk (rowWs_wds hn r) (Nat.le_trans (rowWs_len nm r) hl)) (by omega)
theorem gatesR_wds {nm : List Str} (hn : Wds 8 nm) (hl : nm.length ≤ 10) (gs : List (List Rw)) : Wds 120 (gatesR nm gs) := fun y hy => by
  unfold gatesR at hy
  obtain ⟨g, _, hg⟩ := List.mem_flatMap.mp hy
  obtain ⟨r, _, rfl⟩ := List.mem_map.mp hg
  exact rowT_wd hn hl r
theorem flat_len {α β : Type} (f : α → List β) (k : Nat) : ∀ (xs : List α), (∀ x ∈ xs, (f x).length ≤ k) → (xs.flatMap f).length ≤ k * xs.length
  | [], _ => by simp
  | x :: xs, h => by
    have h1 := h x List.mem_cons_self
    have h2 := flat_len f k xs fun y hy => h y (List.mem_cons_of_mem _ hy)
    rw [List.flatMap_cons, List.length_append, List.length_cons, Nat.mul_add]
    omega
theorem gatesR_len {nm : List Str} {n : Nat} {gs : List (List Rw)} (h : GsOk n gs) : (gatesR nm gs).length ≤ 6 := by
  have h1 := flat_len (fun g : List Rw => g.map (rowT nm)) 3 gs fun g hg => by rw [List.length_map]; exact (h.g g hg).1
  have := h.l
  unfold gatesR
  omega
theorem gatesT_wd {nm : List Str} (hn : Wds 8 nm) (hl : nm.length ≤ 10) {n : Nat} {gs : List (List Rw)} (h : GsOk n gs) : Wd 740 (gatesT nm gs) := by
  unfold gatesT
  split
  · exact ⟨by decide +kernel, by decide +kernel⟩
  · exact wd_le (join_wd (n := 6) (by rw [bar3]; omega) barOk (gatesR_wds hn hl gs) (gatesR_len h)) (by omega)
theorem one_ok (n p : Nat) : F_has_one [.int (n : Int), .int (p : Int)] = .ok (.bl (n.testBit p)) := by
  refine ok_of (run_of (n := 2) (p := 2) (ds := [.int (n : Int), .int (p : Int)]) (g := g_has_one) (R := fun d => d = .bl (n.testBit p)) rfl ?_)
  show Go (g_has_one [.fz (.int (n : Int)), .fz (.int (p : Int))]) _ _
  unfold g_has_one
  exact go_ret (dO_ok (dO_ok (dO_ok rfl rfl (shrN n p)) rfl (and1N n p)) rfl (eq1_bit _)) rfl
theorem o_eq : F_ones = K11.F_ones := rfl
theorem ones_ok (n k : Nat) (h : n < 2 ^ k) (hk : k ≤ 1000) : F_ones [.int (n : Int)] = .ok (.lst (natsD (onesN n k))) := by
  rw [o_eq]; exact K11.ones_ok n k h hk
theorem level_ok (z : Str) (b : Bool) (h : z.length ≤ 8) : F_shown_level [.str z, .bl b] = .ok (.str (lvW b z)) := by
  refine ok_of (run_of (n := 2) (p := 2) (ds := [.str z, .bl b]) (g := g_shown_level) (R := fun d => d = .str (lvW b z)) rfl ?_)
  show Go (g_shown_level [.fz (.str z), .fz (.bl b)]) _ _
  unfold g_shown_level
  refine go_ret (d := if b = true then .str z else .str (("-" : Str) ++ z)) (K13.dIf_ok (dT_ok rfl) rfl (dO_ok rfl rfl (addS_ok (by rw [dash1]; omega)))) ?_
  cases b <;> rfl
theorem nm_ix {nm : List Str} {i : Nat} (h1 : i < nm.length) : ixD (.lst (nm.map .str)) (.int (i : Int)) = some (.str (nm.getD i "")) := by
  refine ixL_nat ?_
  simp [h1, List.getD]
theorem ones_lt {n k i : Nat} (h : i ∈ onesN n k) : i < k := List.mem_range.mp (List.mem_filter.mp h).1
theorem shown_row_ok {nm : List Str} (hn : Wds 8 nm) (hl : nm.length ≤ 10) (r : Rw) (hr : r.1 < 2 ^ nm.length) : F_shown_row [.lst (nm.map .str), rowD r] = .ok (.str (rowT nm r)) := by
  refine ok_of (run_of (n := 2) (p := 2) (ds := [.lst (nm.map .str), rowD r]) (g := g_shown_row) (R := fun d => d = .str (rowT nm r)) rfl ?_)
  show Go (g_shown_row [.fz (.lst (nm.map .str)), .fz (rowD r)]) _ _
  unfold g_shown_row
  refine go_cons (go_if (b := decide (r.1 = 0)) (dB_ok (dO_ok (dO_ok rfl rfl rfl) rfl ?_)) (fun hb => ?_) (fun hb => go_nil ?_))
  · show some (Dat.bl (((r.1 : Nat) : Int) == 0)) = _
    congr 2
    rw [Bool.eq_iff_iff, beq_iff_eq, decide_eq_true_eq]
    omega
  · refine go_ret rfl ?_
    unfold rowT
    rw [if_pos (of_decide_eq_true hb)]
  · have h2 := rowWs_wds hn r
    have h3 := rowWs_len nm r
    have hcomp : compL (gset 0) tTrue (dCal F_shown_level (aCons (dO ixD (dV 1) (dV 0)) (aCons (dCal F_has_one (aCons (dO ixD (dV 2) (dC (.int 1))) (aCons (dV 0) aNil))) aNil))) [.un, .fz (.lst (nm.map .str)), .fz (rowD r)] (natsD (onesN r.1 nm.length)) = some ((rowWs nm r).map .str) := by
      rw [natsD_map, compL_all (fun p : Nat => Dat.int (p : Int)) (fun i => .str (lvW (r.2.testBit i) (nm.getD i ""))) (onesN r.1 nm.length) fun i hi => ⟨[.fz (.int (i : Int)), .fz (.lst (nm.map .str)), .fz (rowD r)], rfl, rfl, dCal_ok (xs := [.str (nm.getD i ""), .bl (r.2.testBit i)]) (aCons_ok (dO_ok rfl rfl (nm_ix (ones_lt hi))) (aCons_ok (dCal_ok (xs := [.int (r.2 : Int), .int (i : Int)]) (aCons_ok (dO_ok rfl rfl rfl) rfl) (one_ok _ _)) rfl)) (level_ok _ _ (nm_wd hn i).le)⟩]
      unfold rowWs
      rw [List.map_map]
      rfl
    refine go_ret (K13.dM_ok rfl rfl (aCons_ok (dL_ok (dComp_ok (xs := natsD (onesN r.1 nm.length)) (env' := [.un, .fz (.lst (nm.map .str)), .fz (rowD r)]) (K13.srcS_ok (dCal_ok (xs := [.int (r.1 : Int)]) (aCons_ok (dO_ok rfl rfl rfl) rfl) (ones_ok r.1 nm.length hr (by omega)))) rfl hcomp)) rfl) (join_ok (by rw [blank1]; omega) blankOk (fun y hy => wd_le (h2 y hy) (by omega)) (by omega))) ?_
    unfold rowT
    rw [if_neg (of_decide_eq_false hb)]
theorem shown_gates_ok {nm : List Str} (hn : Wds 8 nm) (hl : nm.length ≤ 10) {gs : List (List Rw)} (h : GsOk nm.length gs) : F_shown_gates [.lst (nm.map .str), gatesD gs] = .ok (.str (gatesT nm gs)) := by
  refine ok_of (run_of (n := 4) (p := 2) (ds := [.lst (nm.map .str), gatesD gs]) (g := g_shown_gates) (R := fun d => d = .str (gatesT nm gs)) rfl ?_)
  show Go (g_shown_gates [.fz (.lst (nm.map .str)), .fz (gatesD gs), .un, .un]) _ _
  unfold g_shown_gates
  have hgl := gatesR_len (nm := nm) h
  have hw := gatesR_wds hn hl gs
  have hl2 := h.l
  refine go_cons (go_own (ds := []) rfl ?_)
  refine go_cons (go_for (ds := gs.map gateD) (fun i e => ∃ v : Slt, e = [.fz (.lst (nm.map .str)), .fz (gatesD gs), .ow ((gatesR nm (gs.take i)).map .str), v]) rfl ⟨.un, rfl⟩ ?_ ?_)
  · rintro i d e hi ⟨v, rfl⟩
    rw [List.getElem?_map] at hi
    obtain ⟨g, hg, rfl⟩ := map_some hi
    have hgo := h.g g (List.mem_of_getElem? hg)
    have hT : GsOk nm.length (gs.take i) := ⟨by rw [List.length_take]; omega, fun g hg => h.g g (List.mem_of_mem_take hg)⟩
    have hTl := gatesR_len (nm := nm) hT
    refine ⟨_, rfl, ?_⟩
    refine go_meth (ds := (gatesR nm (gs.take i)).map .str) (as := [.lst ((g.map (rowT nm)).map .str)]) (ds' := (gatesR nm (gs.take (i + 1))).map .str) rfl (aCons_ok (dL_ok (dComp_ok (xs := g.map rowD) (env' := [.un, .fz (.lst (nm.map .str))]) (srcT_ok rfl) rfl ?_)) rfl) ?_ ⟨_, rfl⟩
    · rw [compL_all rowD (fun r => .str (rowT nm r)) g fun r hr => ⟨[.fz (rowD r), .fz (.lst (nm.map .str))], rfl, rfl, dCal_ok (xs := [.lst (nm.map .str), rowD r]) rfl (shown_row_ok hn hl r (hgo.2 r hr))⟩, List.map_map]
      rfl
    · rw [K13.extend_ok (by rw [List.length_map, List.length_map, List.length_map]; omega), ← List.map_append]
      unfold gatesR
      rw [List.take_succ, hg, List.flatMap_append]
      simp
  · rintro e ⟨v, rfl⟩
    rw [List.length_map, List.take_of_length_le (Nat.le_refl _)]
    refine go_ret (K13.dIf_ok (b := decide (gatesR nm gs = [])) (dB_ok (dO_ok (dF_ok (aCons_ok rfl rfl) rfl) rfl ?_)) rfl (K13.dM_ok rfl rfl (aCons_ok rfl rfl) (join_ok (by rw [bar3]; omega) barOk (fun y hy => wd_le (hw y hy) (by omega)) (by omega)))) ?_
    · show some (Dat.bl ((((gatesR nm gs).map Dat.str).length : Int) == 0)) = _
      congr 2
      rw [Bool.eq_iff_iff, beq_iff_eq, decide_eq_true_eq, List.length_map]
      constructor
      · intro q; exact List.length_eq_zero_iff.mp (by omega)
      · intro q; rw [q]; rfl
    · unfold gatesT
      by_cases q : gatesR nm gs = [] <;> simp [q]
theorem fdivN (n j : Nat) (h : 0 < j) (h2 : j < 1073741824) : fdivD (.int (n : Int)) (.int (j : Int)) = some (.int ((n / j : Nat) : Int)) := by rw [fdivD_ok ⟨by omega, by omega⟩]; push_cast; rfl
theorem mod2N (n j : Nat) : modD (.int ((n / 2 ^ j : Nat) : Int)) (.int 2) = some (.int (if n.testBit j then 1 else 0)) := by
  rw [modD_ok (by omega), Nat.testBit_eq_decide_div_mod_eq]
  generalize n / 2 ^ j = q
  by_cases h : q % 2 = 1
  · simp [h]; omega
  · simp [h]; omega
theorem pow_small {i : Nat} (h : i ≤ 10) : 2 ^ i < 1073741824 := Nat.lt_of_le_of_lt (Nat.pow_le_pow_right (by omega) h) (by decide)
theorem emp_app (z : Str) : ("" : Str) ++ z = z := cl_ext (by rw [cl_app, show cl ("" : Str) = [] by decide +kernel]; rfl)
theorem lv_add {b : Bool} {z : Str} (h : z.length ≤ 8) : addD (if b = true then .str "" else .str "-") (.str z) = some (.str (lvW b z)) := by
  cases b with
  | true =>
    show addD (.str "") (.str z) = _
    rw [addS_ok (by have : ("" : Str).length = 0 := (by decide +kernel); omega), emp_app]
    rfl
  | false => exact addS_ok (by rw [dash1]; omega)
theorem pd_lst {ws : List Str} : pd 20 (.lst (ws.map .str)) = true := List.all_eq_true.mpr fun x hx => by
  obtain ⟨i, _, rfl⟩ := List.mem_map.mp hx
  exact pd_str 19 i
theorem eq_nil (ws : List Str) : eqF (.lst (ws.map .str)) (.lst []) = some (.bl (decide (ws = []))) := by
  unfold eqF
  rw [pd_lst, Bool.true_and, if_pos (by rfl)]
  unfold eqD
  cases ws with
  | nil => unfold eqDs; rfl
  | cons w ws => show some (Dat.bl (eqDs (.str w :: ws.map .str) [])) = _; unfold eqDs; simp
theorem onesN_succ (n i : Nat) : onesN n (i + 1) = onesN n i ++ (if n.testBit i = true then [i] else []) := by
  unfold onesN
  rw [List.range_succ, List.filter_append]
  congr 1
  by_cases hb : n.testBit i = true <;> simp [hb]
theorem rowWs_nil {nm : List Str} {r : Rw} (hr : r.1 < 2 ^ nm.length) : rowWs nm r = [] ↔ r.1 = 0 := by
  unfold rowWs
  rw [List.map_eq_nil_iff]
  constructor
  · intro h
    apply Nat.eq_of_testBit_eq
    intro j
    rw [Nat.zero_testBit]
    cases hb : r.1.testBit j with
    | false => rfl
    | true =>
      have := (onesN_mem hr j).mpr hb
      rw [h] at this
      cases this
  · intro h
    rw [h]
    unfold onesN
    rw [List.filter_eq_nil_iff]
    intro j _
    rw [Nat.zero_testBit]
    decide
theorem row_text_ok {wr : List (Str × Bool)} (hl : wr.length ≤ 10) (hn : Wds 8 (wr.map (·.1))) (r : Rw) (hr : r.1 < 2 ^ wr.length) : F__law_row_text [rowD r, .lst (wr.map wireD)] = .ok (.str (rowT (wr.map (·.1)) r)) := by
  refine ok_of (run_of (n := 6) (p := 2) (ds := [rowD r, .lst (wr.map wireD)]) (g := g__law_row_text) (R := fun d => d = .str (rowT (wr.map (·.1)) r)) rfl ?_)
  show Go (g__law_row_text [.fz (rowD r), .fz (.lst (wr.map wireD)), .un, .un, .un, .un]) _ _
  unfold g__law_row_text
  refine go_cons (go_asg (d := rowD r) (env' := [.fz (rowD r), .fz (.lst (wr.map wireD)), .fz (.int (r.1 : Int)), .fz (.int (r.2 : Int)), .un, .un]) rfl rfl ?_)
  refine go_cons (go_own (ds := []) rfl ?_)
  refine go_cons (go_for (ds := rng 0 wr.length) (fun i e => ∃ v : Slt, e = [.fz (rowD r), .fz (.lst (wr.map wireD)), .fz (.int (r.1 : Int)), .fz (.int (r.2 : Int)), .ow (((onesN r.1 i).map fun j => lvW (r.2.testBit j) ((wr.map (·.1)).getD j "")).map .str), v]) (srcR1_eq (aCons_ok (dF_ok (aCons_ok rfl rfl) (by show some (Dat.int ((wr.map wireD).length : Int)) = _; rw [List.length_map])) rfl) (by omega)) ⟨.un, rfl⟩ ?_ ?_)
  · rintro i d e hi ⟨v, rfl⟩
    obtain ⟨hi1, rfl⟩ := rng_get hi
    rw [Int.zero_add]
    refine ⟨_, rfl, ?_⟩
    dsimp only [List.set]
    have hp := pow_small (i := i) (by omega)
    have hol := onesN_len r.1 i
    have h8 := (nm_wd hn i).le
    have hx : ixD (.lst (wr.map wireD)) (.int (i : Int)) = some (wireD wr[i]) := ixL_nat (by simp [hi1])
    have hg : (wr.map fun w : Str × Bool => w.1).getD i ("" : Str) = wr[i].1 := by simp [hi1, List.getD]
    refine go_if (b := r.1.testBit i) (dB_ok (dO_ok (dO_ok (dO_ok rfl (dO_ok rfl rfl (shl1 i (by omega))) (fdivN r.1 (2 ^ i) (Nat.two_pow_pos i) hp)) rfl (mod2N r.1 i)) rfl (eq1_bit _))) (fun hb => ?_) (fun hb => go_nil ?_)
    · refine go_meth (ds := ((onesN r.1 i).map fun j => lvW (r.2.testBit j) ((wr.map (·.1)).getD j "")).map .str) (as := [.str (lvW (r.2.testBit i) ((wr.map (·.1)).getD i ""))]) (ds' := ((onesN r.1 (i + 1)).map fun j => lvW (r.2.testBit j) ((wr.map (·.1)).getD j "")).map .str) rfl (aCons_ok (dO_ok (dO_ok (x := .lst [.str "-", .str ""]) rfl (dO_ok (dO_ok rfl (dO_ok rfl rfl (shl1 i (by omega))) (fdivN r.2 (2 ^ i) (Nat.two_pow_pos i) hp)) rfl (mod2N r.2 i)) (pick _ _ _)) (dO_ok (dO_ok rfl rfl hx) rfl (by rw [hg]; rfl)) (lv_add h8)) rfl) ?_ ⟨_, rfl⟩
      rw [append_ok (by rw [List.length_map, List.length_map]; omega), onesN_succ, if_pos hb]
      simp
    · refine ⟨.fz (.int (i : Int)), ?_⟩
      rw [onesN_succ, hb, if_neg (by decide), List.append_nil]
  · rintro e ⟨v, rfl⟩
    rw [rng_len]
    have e1 : ((onesN r.1 wr.length).map fun j => lvW (r.2.testBit j) ((wr.map (·.1)).getD j "")) = rowWs (wr.map (·.1)) r := by unfold rowWs; rw [List.length_map]
    rw [e1]
    have h2 := rowWs_wds hn r
    have h3 := rowWs_len (wr.map (·.1)) r
    rw [List.length_map] at h3
    refine go_cons (go_if (dB_ok (dO_ok rfl (y := .lst []) rfl (eq_nil _))) (fun hb => ?_) (fun hb => go_nil ?_))
    · refine go_ret rfl ?_
      unfold rowT
      rw [if_pos ((rowWs_nil (by rw [List.length_map]; exact hr)).mp (of_decide_eq_true hb))]
    · refine go_ret (K13.dM_ok rfl rfl (aCons_ok rfl rfl) (join_ok (by rw [blank1]; omega) blankOk (fun y hy => wd_le (h2 y hy) (by omega)) (by omega))) ?_
      unfold rowT
      rw [if_neg fun q => of_decide_eq_false hb ((rowWs_nil (by rw [List.length_map]; exact hr)).mpr q)]
theorem gates_text_ok {wr : List (Str × Bool)} (hl : wr.length ≤ 10) (hn : Wds 8 (wr.map (·.1))) {gs : List (List Rw)} (h : GsOk wr.length gs) : F__law_gates_text [gatesD gs, .lst (wr.map wireD)] = .ok (.str (gatesT (wr.map (·.1)) gs)) := by
  refine ok_of (run_of (n := 5) (p := 2) (ds := [gatesD gs, .lst (wr.map wireD)]) (g := g__law_gates_text) (R := fun d => d = .str (gatesT (wr.map (·.1)) gs)) rfl ?_)
  show Go (g__law_gates_text [.fz (gatesD gs), .fz (.lst (wr.map wireD)), .un, .un, .un]) _ _
  unfold g__law_gates_text
  generalize hnm : wr.map (·.1) = nm at *
  have hnl : nm.length = wr.length := by rw [← hnm, List.length_map]
  have hgl := gatesR_len (nm := nm) h
  have hw := gatesR_wds hn (by omega) gs
  have hl2 := h.l
  refine go_cons (go_own (ds := []) rfl ?_)
  refine go_cons (go_for (ds := gs.map gateD) (fun i e => ∃ v w : Slt, e = [.fz (gatesD gs), .fz (.lst (wr.map wireD)), .ow ((gatesR nm (gs.take i)).map .str), v, w]) rfl ⟨.un, .un, rfl⟩ ?_ ?_)
  · rintro i d e hi ⟨v, w, rfl⟩
    rw [List.getElem?_map] at hi
    obtain ⟨g, hg, rfl⟩ := map_some hi
    have hgo := h.g g (List.mem_of_getElem? hg)
    have hT : GsOk wr.length (gs.take i) := ⟨by rw [List.length_take]; omega, fun g hg => h.g g (List.mem_of_mem_take hg)⟩
    have hTl := gatesR_len (nm := nm) hT
    refine ⟨_, rfl, ?_⟩
    refine go_for (ds := g.map rowD) (fun j e => ∃ w : Slt, e = [.fz (gatesD gs), .fz (.lst (wr.map wireD)), .ow ((gatesR nm (gs.take i) ++ (g.take j).map (rowT nm)).map .str), .fz (gateD g), w]) (srcT_ok rfl) ⟨w, by simp⟩ ?_ ?_
    · rintro j d e hj ⟨w, rfl⟩
      rw [List.getElem?_map] at hj
      obtain ⟨r, hr, rfl⟩ := map_some hj
      refine ⟨_, rfl, ?_⟩
      have hr2 := hgo.2 r (List.mem_of_getElem? hr)
      refine go_meth (ds := (gatesR nm (gs.take i) ++ (g.take j).map (rowT nm)).map .str) (as := [.str (rowT nm r)]) (ds' := (gatesR nm (gs.take i) ++ (g.take (j + 1)).map (rowT nm)).map .str) rfl (aCons_ok (dCal_ok (xs := [rowD r, .lst (wr.map wireD)]) rfl (by rw [← hnm]; exact row_text_ok hl (by rw [hnm]; exact hn) r hr2)) rfl) ?_ ⟨_, rfl⟩
      have hgj : (g.take j).length ≤ 3 := by rw [List.length_take]; omega
      rw [append_ok (by rw [List.length_map, List.length_append, List.length_map]; omega), List.take_succ, hr]
      simp
    · rintro e ⟨w, rfl⟩
      refine ⟨.fz (gateD g), w, ?_⟩
      rw [List.length_map, List.take_of_length_le (Nat.le_refl _), List.take_succ, hg]
      unfold gatesR
      rw [List.flatMap_append]
      simp
  · rintro e ⟨v, w, rfl⟩
    rw [List.length_map, List.take_of_length_le (Nat.le_refl _)]
    refine go_cons (go_if (dB_ok (dO_ok rfl (y := .lst []) rfl (eq_nil _))) (fun hb => ?_) (fun hb => go_nil ?_))
    · refine go_ret rfl ?_
      unfold gatesT
      rw [if_pos (of_decide_eq_true hb)]
    · refine go_ret (K13.dM_ok rfl rfl (aCons_ok rfl rfl) (join_ok (by rw [bar3]; omega) barOk (fun y hy => wd_le (hw y hy) (by omega)) (by omega))) ?_
      unfold gatesT
      rw [if_neg (of_decide_eq_false hb)]
end K81
set_option Elab.async false
set_option linter.all false
set_option maxRecDepth 100000
set_option maxHeartbeats 400000
namespace K81
open PySem PySem.Spec PyProof.Rows L2
open K12 (NameOk wireD Gr Step')
open K13 (Wd Wds wds_cons wds_nil name_wd join_sok sum_le nm_wd)
abbrev Part := Nat × List (List Rw) × List (List Rw)
def partD (p : Part) : Dat := .tup [.int (p.1 : Int), gatesD p.2.1, gatesD p.2.2]
def lineW (a u b : Str) : Str := Txt.join " " [a, u, b]
def partR (nm : List Str) (p : Part) : List Str := [lineW (nm.getD p.1 "") "up" (gatesT nm p.2.1), lineW (nm.getD p.1 "") "down" (gatesT nm p.2.2)]
def netR (nm : List Str) (ps : List Part) : List Str := ps.flatMap (partR nm)
def PartOk (n : Nat) (p : Part) : Prop := p.1 < n ∧ GsOk n p.2.1 ∧ GsOk n p.2.2
theorem line_wds {nm : List Str} (hn : Wds 8 nm) (hl : nm.length ≤ 10) {n : Nat} {gs : List (List Rw)} (h : GsOk n gs) (i : Nat) {u : Str} (hu : Wd 8 u) : Wds 740 [nm.getD i "", u, gatesT nm gs] :=
  wds_cons (wd_le (nm_wd hn i) (by omega)) (wds_cons (wd_le hu (by omega)) (wds_cons (gatesT_wd hn hl h) wds_nil))
theorem up_wd : Wd 8 "up" := ⟨by decide +kernel, by decide +kernel⟩
theorem down_wd : Wd 8 "down" := ⟨by decide +kernel, by decide +kernel⟩
theorem partR_wds {nm : List Str} (hn : Wds 8 nm) (hl : nm.length ≤ 10) {n : Nat} {p : Part} (h : PartOk n p) : Wds 5000 (partR nm p) :=
  wds_cons (wd_le (join_wd (n := 3) (by rw [blank1]; omega) blankOk (line_wds hn hl h.2.1 p.1 up_wd) (by simp)) (by omega)) (wds_cons (wd_le (join_wd (n := 3) (by rw [blank1]; omega) blankOk (line_wds hn hl h.2.2 p.1 down_wd) (by simp)) (by omega)) wds_nil)
theorem netR_wds {nm : List Str} (hn : Wds 8 nm) (hl : nm.length ≤ 10) {n : Nat} {ps : List Part} (h : ∀ p ∈ ps, PartOk n p) : Wds 5000 (netR nm ps) := fun y hy => by
  unfold netR at hy
  obtain ⟨p, hp, hy⟩ := List.mem_flatMap.mp hy
  exact partR_wds hn hl (h p hp) y hy
theorem netR_len (nm : List Str) (ps : List Part) : (netR nm ps).length ≤ 2 * ps.length := flat_len (partR nm) 2 ps fun p _ => by unfold partR; simp
theorem nl1 : ("\n" : Str).length = 1 := by decide +kernel
theorem nlOk : PyData.strOk "\n" = true := by decide +kernel
theorem n_eq : F_names = K12.F_names := rfl
theorem line_ok {nm : List Str} (hn : Wds 8 nm) (hl : nm.length ≤ 10) {n : Nat} {gs : List (List Rw)} (h : GsOk n gs) (i : Nat) {u : Str} (hu : Wd 8 u) : joinD (.str " ") [.lst [.str (nm.getD i ""), .str u, .str (gatesT nm gs)]] = some (.str (lineW (nm.getD i "") u (gatesT nm gs))) :=
  join_ok (ys := [nm.getD i "", u, gatesT nm gs]) (by rw [blank1]; omega) blankOk (fun y hy => wd_le (line_wds hn hl h i hu y hy) (by omega)) (by simp)
theorem shown_net_ok {G : Gr} (hn : Wds 8 G.names) (hl : G.names.length ≤ 10) {ps : List Part} (hp : ∀ p ∈ ps, PartOk G.names.length p) (hpl : ps.length ≤ 10) : F_shown_net [G.d, .tup (ps.map partD)] = .ok (.str (Txt.join "\n" (netR G.names ps))) := by
  refine ok_of (run_of (n := 5) (p := 2) (ds := [G.d, .tup (ps.map partD)]) (g := g_shown_net) (R := fun d => d = .str (Txt.join "\n" (netR G.names ps))) rfl ?_)
  show Go (g_shown_net [.fz G.d, .fz (.tup (ps.map partD)), .un, .un, .un]) _ _
  unfold g_shown_net
  have hN : F_names [G.d] = .ok (.lst (G.names.map .str)) := by rw [n_eq]; exact K12.names_ok G
  generalize G.names = nm at *
  have hw := netR_wds hn hl hp
  have hnl := netR_len nm ps
  refine go_cons (go_set (dCal_ok (xs := [G.d]) rfl hN) ?_)
  refine go_cons (go_own (ds := []) rfl ?_)
  refine go_cons (go_for (ds := ps.map partD) (fun i e => ∃ v : Slt, e = [.fz G.d, .fz (.tup (ps.map partD)), .fz (.lst (nm.map .str)), .ow ((netR nm (ps.take i)).map .str), v]) (srcT_ok rfl) ⟨.un, rfl⟩ ?_ ?_)
  · rintro i d e hi ⟨v, rfl⟩
    rw [List.getElem?_map] at hi
    obtain ⟨p, hq, rfl⟩ := map_some hi
    have hpo := hp p (List.mem_of_getElem? hq)
    have hTl := netR_len nm (ps.take i)
    rw [List.length_take] at hTl
    refine ⟨_, rfl, ?_⟩
    dsimp only [List.set]
    refine go_cons (go_meth (ds := (netR nm (ps.take i)).map .str) (as := [.str (lineW (nm.getD p.1 "") "up" (gatesT nm p.2.1))]) (ds' := (netR nm (ps.take i) ++ [lineW (nm.getD p.1 "") "up" (gatesT nm p.2.1)]).map .str) rfl (aCons_ok (K13.dM_ok rfl rfl (aCons_ok (dL_ok (aLst_ok (aCons_ok (dO_ok rfl (dO_ok rfl rfl rfl) (nm_ix hpo.1)) (aCons_ok rfl (aCons_ok (dCal_ok (xs := [.lst (nm.map .str), gatesD p.2.1]) (aCons_ok rfl (aCons_ok (dO_ok rfl rfl rfl) rfl)) (shown_gates_ok hn hl hpo.2.1)) rfl))) (by simp))) rfl) (line_ok hn hl hpo.2.1 p.1 up_wd)) rfl) ?_ ?_)
    · rw [append_ok (by rw [List.length_map]; omega), List.map_append]; rfl
    refine go_meth (ds := (netR nm (ps.take i) ++ [lineW (nm.getD p.1 "") "up" (gatesT nm p.2.1)]).map .str) (as := [.str (lineW (nm.getD p.1 "") "down" (gatesT nm p.2.2))]) (ds' := (netR nm (ps.take (i + 1))).map .str) rfl (aCons_ok (K13.dM_ok rfl rfl (aCons_ok (dL_ok (aLst_ok (aCons_ok (dO_ok rfl (dO_ok rfl rfl rfl) (nm_ix hpo.1)) (aCons_ok rfl (aCons_ok (dCal_ok (xs := [.lst (nm.map .str), gatesD p.2.2]) (aCons_ok rfl (aCons_ok (dO_ok rfl rfl rfl) rfl)) (shown_gates_ok hn hl hpo.2.2)) rfl))) (by simp))) rfl) (line_ok hn hl hpo.2.2 p.1 down_wd)) rfl) ?_ ⟨_, rfl⟩
    rw [append_ok (by rw [List.length_map, List.length_append, List.length_singleton]; omega)]
    unfold netR
    rw [List.take_succ, hq, List.flatMap_append]
    simp [partR]
  · rintro e ⟨v, rfl⟩
    rw [List.length_map, List.take_of_length_le (Nat.le_refl _)]
    exact go_ret (K13.dM_ok rfl rfl (aCons_ok rfl rfl) (join_ok (by rw [nl1]; omega) nlOk hw (by omega))) rfl
theorem line3 (a u b m : Str) (h : m.cps = (" " : Str).cps ++ u.cps ++ (" " : Str).cps) : a ++ m ++ b = lineW a u b := by
  show (⟨a.cps ++ m.cps ++ b.cps⟩ : Str) = ⟨a.cps ++ (" " : Str).cps ++ u.cps ++ (" " : Str).cps ++ b.cps⟩
  rw [h]
  simp only [Array.append_assoc]
theorem line_up (a b : Str) : a ++ (" up " : Str) ++ b = lineW a "up" b := line3 a "up" b " up " (by decide +kernel)
theorem line_down (a b : Str) : a ++ (" down " : Str) ++ b = lineW a "down" b := line3 a "down" b " down " (by decide +kernel)
def two : List Step' := [⟨0, true, [0], [1]⟩, ⟨0, false, [1], [0]⟩]
theorem neF_str (z : Str) : neF (.str z) (.str z) = some (.bl false) := by unfold neF; rw [if_pos (by rfl)]; unfold eqD; simp
theorem cut1 (x : Dat) (xs : List Dat) : cutL (x :: xs) none (some 1) = [x] := by
  unfold cutL
  have e1 : HT.sIx (x :: xs).length 0 none = 0 := rfl
  have e2 : HT.sIx (x :: xs).length (x :: xs).length (some 1) = 1 := by
    rw [show (1 : Int) = ((1 : Nat) : Int) from rfl, HT.sIx_nat, List.length_cons]
    omega
  rw [e1, e2]
  rfl
theorem last_text (z t : Str) : z ++ (" up never\n" : Str) ++ z ++ (" down " : Str) ++ t = Txt.join "\n" [lineW z "up" "never", lineW z "down" t] := by
  rw [← line_up, ← line_down]
  show (⟨z.cps ++ (" up never\n" : Str).cps ++ z.cps ++ (" down " : Str).cps ++ t.cps⟩ : Str) = ⟨(z.cps ++ (" up " : Str).cps ++ ("never" : Str).cps) ++ ("\n" : Str).cps ++ (z.cps ++ (" down " : Str).cps ++ t.cps)⟩
  rw [show (" up never\n" : Str).cps = (" up " : Str).cps ++ ("never" : Str).cps ++ ("\n" : Str).cps by decide +kernel]
  simp only [Array.append_assoc]
theorem names_wds {wr : List (Str × Bool)} (hn : ∀ w ∈ wr, NameOk w.1) : Wds 8 (wr.map (·.1)) := fun y hy => by
  obtain ⟨w, hw, rfl⟩ := List.mem_map.mp hy
  exact name_wd (hn w hw)
theorem law_ok (ns : List Int) (hl : ns.length ≤ 63) : F_law [.lst (ns.map .int)] = .ok (.bl true) := by
  refine ok_of (run_of (n := 13) (p := 1) (ds := [scr ns]) (g := g_law) (R := fun d => d = .bl true) rfl ?_)
  show Go (g_law [.fz (scr ns), .un, .un, .un, .un, .un, .un, .un, .un, .un, .un, .un, .un]) _ _
  unfold g_law
  obtain ⟨wr, ew, w1, w2, hno⟩ := wires_ok ns hl
  have hn := names_wds hno
  have hnl : (wr.map (·.1)).length = wr.length := List.length_map _
  refine go_cons (go_set (dCal_ok (xs := [scr ns]) rfl ew) ?_)
  refine go_cons (go_own (ds := []) rfl ?_)
  refine go_cons (go_own (ds := []) rfl ?_)
  dsimp only [List.set]
  refine go_cons (go_for (ds := rng 0 wr.length) (fun i e => ∃ (ps : List Part) (v4 v5 v6 : Slt), e = [.fz (scr ns), .fz (.lst (wr.map wireD)), .ow (ps.map partD), .ow ((netR (wr.map (·.1)) ps).map .str), v4, v5, v6, .un, .un, .un, .un, .un, .un] ∧ ps.length ≤ i ∧ ∀ p ∈ ps, PartOk wr.length p) (srcR1_eq (aCons_ok (dF_ok (aCons_ok rfl rfl) (by show some (Dat.int ((wr.map wireD).length : Int)) = _; rw [List.length_map])) rfl) (by omega)) ⟨[], .un, .un, .un, rfl, by simp, by simp⟩ ?_ ?_)
  · rintro i d e hi ⟨ps, v4, v5, v6, rfl, hpl, hpo⟩
    obtain ⟨hi1, rfl⟩ := rng_get hi
    rw [Int.zero_add]
    refine ⟨_, rfl, ?_⟩
    dsimp only [List.set]
    have hx : ixD (.lst (wr.map wireD)) (.int (i : Int)) = some (wireD wr[i]) := ixL_nat (by simp [hi1])
    have hg : (wr.map fun w : Str × Bool => w.1).getD i ("" : Str) = wr[i].1 := by simp [hi1, List.getD]
    refine go_if (b := wr[i].2) (dB_ok (dO_ok (dO_ok (dO_ok rfl rfl hx) rfl rfl) rfl (eq_made wr[i].2))) (fun hb => ?_) (fun hb => go_nil ⟨ps, _, _, _, rfl, by omega, hpo⟩)
    have hlen : lenD [.lst (wr.map wireD)] = some (.int (wr.length : Int)) := by show some (Dat.int ((wr.map wireD).length : Int)) = _; rw [List.length_map]
    obtain ⟨ga, ea, oa⟩ := gates_ok ns (20 + 20 * (i : Int)) wr.length hl (by omega) (by omega) w2
    obtain ⟨gb, eb, ob⟩ := gates_ok ns (30 + 20 * (i : Int)) wr.length hl (by omega) (by omega) w2
    refine go_cons (go_set (d := gatesD ga) (dCal_ok (xs := [scr ns, .int (20 + 20 * (i : Int)), .int (wr.length : Int)]) (aCons_ok rfl (aCons_ok (dO_ok rfl (dO_ok rfl rfl (mulI_ok (.inl (by omega)))) rfl) (aCons_ok (dF_ok (aCons_ok rfl rfl) hlen) rfl))) ea) ?_)
    refine go_cons (go_set (d := gatesD gb) (dCal_ok (xs := [scr ns, .int (30 + 20 * (i : Int)), .int (wr.length : Int)]) (aCons_ok rfl (aCons_ok (dO_ok rfl (dO_ok rfl rfl (mulI_ok (.inl (by omega)))) rfl) (aCons_ok (dF_ok (aCons_ok rfl rfl) hlen) rfl))) eb) ?_)
    dsimp only [List.set]
    have h8 := (nm_wd hn i).le
    rw [hg] at h8
    have hwa := (gatesT_wd hn (by omega) oa).le
    have hwb := (gatesT_wd hn (by omega) ob).le
    have hrl := netR_len (wr.map (·.1)) ps
    have l1 : (" up " : Str).length = 4 := by decide +kernel
    have l2 : (" down " : Str).length = 6 := by decide +kernel
    refine go_cons (go_meth (ds := ps.map partD) (as := [partD (i, ga, gb)]) (ds' := (ps ++ [(i, ga, gb)]).map partD) rfl (aCons_ok (aTup_ok (aCons_ok rfl (aCons_ok rfl (aCons_ok rfl rfl))) (by simp)) rfl) (by rw [append_ok (by rw [List.length_map]; omega), List.map_append]; rfl) ?_)
    dsimp only [List.set]
    refine go_cons (go_meth (ds := (netR (wr.map (·.1)) ps).map .str) (as := [.str (wr[i].1 ++ (" up " : Str) ++ gatesT (wr.map (·.1)) ga)]) (ds' := (netR (wr.map (·.1)) ps ++ [lineW wr[i].1 "up" (gatesT (wr.map (·.1)) ga)]).map .str) rfl (aCons_ok (dO_ok (dO_ok (dO_ok (dO_ok rfl rfl hx) rfl rfl) rfl (addS_ok (by rw [l1]; omega))) (dCal_ok (xs := [gatesD ga, .lst (wr.map wireD)]) rfl (gates_text_ok w2 hn oa)) (addS_ok (by rw [len_app, l1]; omega))) rfl) (by rw [append_ok (by rw [List.length_map]; omega), line_up, List.map_append]; rfl) ?_)
    dsimp only [List.set]
    refine go_meth (ds := (netR (wr.map (·.1)) ps ++ [lineW wr[i].1 "up" (gatesT (wr.map (·.1)) ga)]).map .str) (as := [.str (wr[i].1 ++ (" down " : Str) ++ gatesT (wr.map (·.1)) gb)]) (ds' := (netR (wr.map (·.1)) (ps ++ [(i, ga, gb)])).map .str) rfl (aCons_ok (dO_ok (dO_ok (dO_ok (dO_ok rfl rfl hx) rfl rfl) rfl (addS_ok (by rw [l2]; omega))) (dCal_ok (xs := [gatesD gb, .lst (wr.map wireD)]) rfl (gates_text_ok w2 hn ob)) (addS_ok (by rw [len_app, l2]; omega))) rfl) ?_ ⟨ps ++ [(i, ga, gb)], _, _, _, rfl, by rw [List.length_append, List.length_singleton]; omega, fun p hp => ?_⟩
    · rw [append_ok (by rw [List.length_map, List.length_append, List.length_singleton]; omega), line_down]
      unfold netR
      rw [List.flatMap_append]
      show _ = some (((ps.flatMap (partR (wr.map fun w : Str × Bool => w.1))) ++ (partR (wr.map fun w : Str × Bool => w.1) (i, ga, gb) ++ [])).map Dat.str)
      unfold partR
      dsimp only
      rw [hg]
      simp
    · rcases List.mem_append.mp hp with hp | hp
      · exact hpo p hp
      · rw [List.mem_singleton.mp hp]; exact ⟨hi1, oa, ob⟩
  · rintro e ⟨ps, v4, v5, v6, rfl, hpl, hpo⟩
    rw [rng_len] at hpl
    have hw := netR_wds hn (by omega) hpo
    have hrl := netR_len (wr.map (·.1)) ps
    have hS : F_shown_net [(Gr.mk wr two 1 0).d, .tup (ps.map partD)] = .ok (.str (Txt.join "\n" (netR (wr.map (·.1)) ps))) := shown_net_ok (G := Gr.mk wr two 1 0) hn (by show (wr.map (·.1)).length ≤ 10; omega) (by show ∀ p ∈ ps, PartOk (wr.map (·.1)).length p; rw [hnl]; exact hpo) (by omega)
    refine go_cons (go_set (d := (Gr.mk wr two 1 0).d) (aTup_ok (aCons_ok (dF_ok (aCons_ok rfl rfl) rfl) (aCons_ok rfl (aCons_ok rfl (aCons_ok rfl rfl)))) (by simp)) ?_)
    dsimp only [List.set]
    generalize hnr : netR (wr.map (·.1)) ps = nr at *
    refine go_cons (go_set (d := .str (Txt.join "\n" nr)) (K13.dM_ok (x := .str "\n") (ds := [.lst (nr.map .str)]) rfl rfl (aCons_ok rfl rfl) (join_ok (ys := nr) (by rw [nl1]; omega) nlOk hw (by omega))) ?_)
    dsimp only [List.set]
    refine go_cons (go_set (d := .str (Txt.join "\n" nr)) (dCal_ok (xs := [(Gr.mk wr two 1 0).d, .tup (ps.map partD)]) (aCons_ok rfl (aCons_ok (dF_ok (aCons_ok rfl rfl) rfl) rfl)) hS) ?_)
    dsimp only [List.set]
    refine go_cons (go_ifF (tOr_ok (a := false) (b := false) (tNot_ok (b := true) (dT_ok (dI_ok rfl rfl k_ss))) fun _ => dB_ok (dO_ok rfl rfl (neF_str _))) (go_nil ?_))
    obtain ⟨w, rest, rfl⟩ : ∃ w rest, wr = w :: rest := by
      cases wr with
      | nil => simp at w1
      | cons w rest => exact ⟨w, rest, rfl⟩
    have hwn : NameOk w.1 := hno w List.mem_cons_self
    have h1n : Wds 8 ([w].map (·.1)) := wds_cons (name_wd hwn) wds_nil
    refine go_cons (go_set (d := .lst [wireD w]) (dS_ok rfl rfl (oSome_ok rfl) (by show some (Dat.lst (cutL (wireD w :: rest.map wireD) none (some 1))) = _; rw [cut1])) ?_)
    refine go_cons (go_set (d := .lst [.tup [.tup [.str w.1, .str "made"]], .tup (two.map K12.stepD), .int 1, .int 0]) (dL_ok (aLst_ok (aCons_ok (aTup_ok (aCons_ok (aTup_ok (aCons_ok (dO_ok (dO_ok rfl rfl rfl) rfl rfl) (aCons_ok rfl rfl)) (by simp)) rfl) (by simp)) (aCons_ok (dO_ok rfl rfl rfl) (aCons_ok rfl (aCons_ok rfl rfl)))) (by simp))) ?_)
    obtain ⟨y, ey, y0, y1⟩ := mix_ok ns 300 hl (by omega) (by omega)
    obtain ⟨r, er, hr⟩ := row_ok y 1 y0 (by omega)
    refine go_cons (go_set (d := rowD r) (dCal_ok (xs := [.int y, .int 1]) (aCons_ok (dCal_ok (xs := [scr ns, .int 300]) rfl ey) rfl) er) ?_)
    dsimp only [List.set]
    have ht := row_text_ok (wr := [w]) (by simp) h1n r hr
    have hG1 : GsOk 1 [[r]] := ⟨by simp, fun g hg => by rw [List.mem_singleton.mp hg]; exact ⟨by simp, fun r' h' => by rw [List.mem_singleton.mp h']; exact hr⟩⟩
    have hG0 : GsOk 1 [] := ⟨by simp, fun g hg => nomatch hg⟩
    have hS1 : F_shown_net [(Gr.mk [(w.1, true)] two 1 0).d, .tup (([(0, [], [[r]])] : List Part).map partD)] = .ok (.str (Txt.join "\n" (netR [w.1] [(0, [], [[r]])]))) := shown_net_ok (G := Gr.mk [(w.1, true)] two 1 0) (by exact h1n) (by show 1 ≤ 10; omega) (fun p hp => by rw [List.mem_singleton.mp hp]; exact ⟨Nat.lt_succ_self 0, hG0, hG1⟩) (by simp)
    have h8 := hwn.2.1
    have hrw := (rowT_wd h1n (by simp) r).le
    have l1 : (" up never\n" : Str).length = 10 := by decide +kernel
    have l2 : (" down " : Str).length = 6 := by decide +kernel
    have eT : w.1 ++ (" up never\n" : Str) ++ w.1 ++ (" down " : Str) ++ rowT ([w].map (·.1)) r = Txt.join "\n" (netR [w.1] [(0, [], [[r]])]) := by
      rw [last_text]
      rfl
    refine go_cons (go_set (d := .str (Txt.join "\n" (netR [w.1] [(0, [], [[r]])]))) (by
      rw [← eT]
      exact dO_ok (dO_ok (dO_ok (dO_ok (dO_ok (dO_ok rfl rfl rfl) rfl rfl) rfl (addS_ok (by rw [l1]; omega))) (dO_ok (dO_ok rfl rfl rfl) rfl rfl) (addS_ok (by rw [len_app, l1]; omega))) rfl (addS_ok (by rw [len_app, len_app, l1, l2]; omega))) (dCal_ok (xs := [rowD r, .lst [wireD w]]) rfl ht) (addS_ok (by rw [len_app, len_app, len_app, l1, l2]; omega))) ?_)
    refine go_cons (go_ifF (dB_ok (dO_ok (dCal_ok (xs := [(Gr.mk [(w.1, true)] two 1 0).d, .tup (([(0, [], [[r]])] : List Part).map partD)]) (aCons_ok (dF_ok (aCons_ok rfl rfl) rfl) (aCons_ok (aTup_ok (aCons_ok (aTup_ok (aCons_ok rfl (aCons_ok rfl (aCons_ok (aTup_ok (aCons_ok (aTup_ok (aCons_ok rfl rfl) (by simp)) rfl) (by simp)) rfl))) (by simp)) rfl) (by simp)) rfl)) hS1) rfl (neF_str _))) (go_nil ?_))
    exact go_ret (dO_ok (dCal_ok (xs := [(Gr.mk (w :: rest) two 1 0).d, .tup (ps.map partD)]) (aCons_ok rfl (aCons_ok (dF_ok (aCons_ok rfl rfl) rfl) rfl)) hS) rfl (eqF_str _)) rfl
end K81
set_option Elab.async false
set_option linter.all false
set_option maxRecDepth 100000
set_option maxHeartbeats 4000000
namespace K81
open PySem PySem.Spec PyProof.Rows L2
theorem all_mk {l : PySem.W.OpenLaw} {w : World} {K : PySem.W.Frag} {h : Heap} {mg : Str → Option Value} {fa : Addr} (X : K.In h) (G : h.Ns mainGlobals mg) (hfa : mg "law" = some (.ref fa))
    {f0 : Addr} {od0 an0 : Option Addr} {sl0 : Array (Option Value)} {oc0 kV0 dc0 pm0 cd0 ct0 : Value}
    {f1 : Addr} {od1 an1 : Option Addr} {sl1 : Array (Option Value)} {oc1 kV1 dc1 pm1 cd1 ct1 : Value}
    {f2 : Addr} {od2 an2 : Option Addr} {sl2 : Array (Option Value)} {oc2 kV2 dc2 pm2 cd2 ct2 : Value}
    {f3 : Addr} {od3 an3 : Option Addr} {sl3 : Array (Option Value)} {oc3 kV3 dc3 pm3 cd3 ct3 : Value}
    {f4 : Addr} {od4 an4 : Option Addr} {sl4 : Array (Option Value)} {oc4 kV4 dc4 pm4 cd4 ct4 : Value}
    {f5 : Addr} {od5 an5 : Option Addr} {sl5 : Array (Option Value)} {oc5 kV5 dc5 pm5 cd5 ct5 : Value}
    {f6 : Addr} {od6 an6 : Option Addr} {sl6 : Array (Option Value)} {oc6 kV6 dc6 pm6 cd6 ct6 : Value}
    {f7 : Addr} {od7 an7 : Option Addr} {sl7 : Array (Option Value)} {oc7 kV7 dc7 pm7 cd7 ct7 : Value}
    {f8 : Addr} {od8 an8 : Option Addr} {sl8 : Array (Option Value)} {oc8 kV8 dc8 pm8 cd8 ct8 : Value}
    {f9 : Addr} {od9 an9 : Option Addr} {sl9 : Array (Option Value)} {oc9 kV9 dc9 pm9 cd9 ct9 : Value}
    {f10 : Addr} {od10 an10 : Option Addr} {sl10 : Array (Option Value)} {oc10 kV10 dc10 pm10 cd10 ct10 : Value}
    {f11 : Addr} {od11 an11 : Option Addr} {sl11 : Array (Option Value)} {oc11 kV11 dc11 pm11 cd11 ct11 : Value}
    {f12 : Addr} {od12 an12 : Option Addr} {sl12 : Array (Option Value)} {oc12 kV12 dc12 pm12 cd12 ct12 : Value}
    {f13 : Addr} {od13 an13 : Option Addr} {sl13 : Array (Option Value)} {oc13 kV13 dc13 pm13 cd13 ct13 : Value}
    {f14 : Addr} {od14 an14 : Option Addr} {sl14 : Array (Option Value)} {oc14 kV14 dc14 pm14 cd14 ct14 : Value}
    (a0 : PySem.W.nsIn K mainGlobals "names" = some (some (.ref f0))) (l0 : K.lookup f0 = some ⟨oc0, od0, .func (PySem.W.fnOf "names" "names" (defArgs s_names) (defBody s_names) (defScope s_names) .none kV0 dc0 pm0 an0 cd0 ct0), sl0⟩) (c0 : PySem.W.codeIn K cd0 "names" = true) (k0 : PySem.W.keepIn K (.ref f0) = true)
    (a1 : PySem.W.nsIn K mainGlobals "has_one" = some (some (.ref f1))) (l1 : K.lookup f1 = some ⟨oc1, od1, .func (PySem.W.fnOf "has_one" "has_one" (defArgs s_has_one) (defBody s_has_one) (defScope s_has_one) .none kV1 dc1 pm1 an1 cd1 ct1), sl1⟩) (c1 : PySem.W.codeIn K cd1 "has_one" = true) (k1 : PySem.W.keepIn K (.ref f1) = true)
    (a2 : PySem.W.nsIn K mainGlobals "ones" = some (some (.ref f2))) (l2 : K.lookup f2 = some ⟨oc2, od2, .func (PySem.W.fnOf "ones" "ones" (defArgs s_ones) (defBody s_ones) (defScope s_ones) .none kV2 dc2 pm2 an2 cd2 ct2), sl2⟩) (c2 : PySem.W.codeIn K cd2 "ones" = true) (k2 : PySem.W.keepIn K (.ref f2) = true)
    (a3 : PySem.W.nsIn K mainGlobals "shown_level" = some (some (.ref f3))) (l3 : K.lookup f3 = some ⟨oc3, od3, .func (PySem.W.fnOf "shown_level" "shown_level" (defArgs s_shown_level) (defBody s_shown_level) (defScope s_shown_level) .none kV3 dc3 pm3 an3 cd3 ct3), sl3⟩) (c3 : PySem.W.codeIn K cd3 "shown_level" = true) (k3 : PySem.W.keepIn K (.ref f3) = true)
    (a4 : PySem.W.nsIn K mainGlobals "shown_row" = some (some (.ref f4))) (l4 : K.lookup f4 = some ⟨oc4, od4, .func (PySem.W.fnOf "shown_row" "shown_row" (defArgs s_shown_row) (defBody s_shown_row) (defScope s_shown_row) .none kV4 dc4 pm4 an4 cd4 ct4), sl4⟩) (c4 : PySem.W.codeIn K cd4 "shown_row" = true) (k4 : PySem.W.keepIn K (.ref f4) = true)
    (a5 : PySem.W.nsIn K mainGlobals "shown_gates" = some (some (.ref f5))) (l5 : K.lookup f5 = some ⟨oc5, od5, .func (PySem.W.fnOf "shown_gates" "shown_gates" (defArgs s_shown_gates) (defBody s_shown_gates) (defScope s_shown_gates) .none kV5 dc5 pm5 an5 cd5 ct5), sl5⟩) (c5 : PySem.W.codeIn K cd5 "shown_gates" = true) (k5 : PySem.W.keepIn K (.ref f5) = true)
    (a6 : PySem.W.nsIn K mainGlobals "shown_net" = some (some (.ref f6))) (l6 : K.lookup f6 = some ⟨oc6, od6, .func (PySem.W.fnOf "shown_net" "shown_net" (defArgs s_shown_net) (defBody s_shown_net) (defScope s_shown_net) .none kV6 dc6 pm6 an6 cd6 ct6), sl6⟩) (c6 : PySem.W.codeIn K cd6 "shown_net" = true) (k6 : PySem.W.keepIn K (.ref f6) = true)
    (a7 : PySem.W.nsIn K mainGlobals "_law_mix" = some (some (.ref f7))) (l7 : K.lookup f7 = some ⟨oc7, od7, .func (PySem.W.fnOf "_law_mix" "_law_mix" (defArgs s__law_mix) (defBody s__law_mix) (defScope s__law_mix) .none kV7 dc7 pm7 an7 cd7 ct7), sl7⟩) (c7 : PySem.W.codeIn K cd7 "_law_mix" = true) (k7 : PySem.W.keepIn K (.ref f7) = true)
    (a8 : PySem.W.nsIn K mainGlobals "_law_name" = some (some (.ref f8))) (l8 : K.lookup f8 = some ⟨oc8, od8, .func (PySem.W.fnOf "_law_name" "_law_name" (defArgs s__law_name) (defBody s__law_name) (defScope s__law_name) .none kV8 dc8 pm8 an8 cd8 ct8), sl8⟩) (c8 : PySem.W.codeIn K cd8 "_law_name" = true) (k8 : PySem.W.keepIn K (.ref f8) = true)
    (a9 : PySem.W.nsIn K mainGlobals "_law_wires" = some (some (.ref f9))) (l9 : K.lookup f9 = some ⟨oc9, od9, .func (PySem.W.fnOf "_law_wires" "_law_wires" (defArgs s__law_wires) (defBody s__law_wires) (defScope s__law_wires) .none kV9 dc9 pm9 an9 cd9 ct9), sl9⟩) (c9 : PySem.W.codeIn K cd9 "_law_wires" = true) (k9 : PySem.W.keepIn K (.ref f9) = true)
    (a10 : PySem.W.nsIn K mainGlobals "_law_row" = some (some (.ref f10))) (l10 : K.lookup f10 = some ⟨oc10, od10, .func (PySem.W.fnOf "_law_row" "_law_row" (defArgs s__law_row) (defBody s__law_row) (defScope s__law_row) .none kV10 dc10 pm10 an10 cd10 ct10), sl10⟩) (c10 : PySem.W.codeIn K cd10 "_law_row" = true) (k10 : PySem.W.keepIn K (.ref f10) = true)
    (a11 : PySem.W.nsIn K mainGlobals "_law_gates" = some (some (.ref f11))) (l11 : K.lookup f11 = some ⟨oc11, od11, .func (PySem.W.fnOf "_law_gates" "_law_gates" (defArgs s__law_gates) (defBody s__law_gates) (defScope s__law_gates) .none kV11 dc11 pm11 an11 cd11 ct11), sl11⟩) (c11 : PySem.W.codeIn K cd11 "_law_gates" = true) (k11 : PySem.W.keepIn K (.ref f11) = true)
    (a12 : PySem.W.nsIn K mainGlobals "_law_row_text" = some (some (.ref f12))) (l12 : K.lookup f12 = some ⟨oc12, od12, .func (PySem.W.fnOf "_law_row_text" "_law_row_text" (defArgs s__law_row_text) (defBody s__law_row_text) (defScope s__law_row_text) .none kV12 dc12 pm12 an12 cd12 ct12), sl12⟩) (c12 : PySem.W.codeIn K cd12 "_law_row_text" = true) (k12 : PySem.W.keepIn K (.ref f12) = true)
    (a13 : PySem.W.nsIn K mainGlobals "_law_gates_text" = some (some (.ref f13))) (l13 : K.lookup f13 = some ⟨oc13, od13, .func (PySem.W.fnOf "_law_gates_text" "_law_gates_text" (defArgs s__law_gates_text) (defBody s__law_gates_text) (defScope s__law_gates_text) .none kV13 dc13 pm13 an13 cd13 ct13), sl13⟩) (c13 : PySem.W.codeIn K cd13 "_law_gates_text" = true) (k13 : PySem.W.keepIn K (.ref f13) = true)
    (a14 : PySem.W.nsIn K mainGlobals "law" = some (some (.ref f14))) (l14 : K.lookup f14 = some ⟨oc14, od14, .func (PySem.W.fnOf "law" "law" (defArgs s_law) (defBody s_law) (defScope s_law) .none kV14 dc14 pm14 an14 cd14 ct14), sl14⟩) (c14 : PySem.W.codeIn K cd14 "law" = true) (k14 : PySem.W.keepIn K (.ref f14) = true)
    (z_int : PySem.W.nsIn K mainGlobals "int" = some none)
    (z_isinstance : PySem.W.nsIn K mainGlobals "isinstance" = some none)
    (z_len : PySem.W.nsIn K mainGlobals "len" = some none)
    (z_range : PySem.W.nsIn K mainGlobals "range" = some none)
    (z_str : PySem.W.nsIn K mainGlobals "str" = some none)
    (z_tuple : PySem.W.nsIn K mainGlobals "tuple" = some none) :
    ∃ fd : FuncData, (∀ (s : Shared) (v : Value), BindsTo s fd ⟨[v], []⟩ [("_law_script", v)]) ∧ ∀ base : Heap, K.In base → base.Ns mainGlobals mg → FnOk l.prog w K mg base CX0 6 fa fd ["_law_script"] (spLaw K) := by
  have e := hfa.symm.trans (PySem.W.mg_of X G a14)
  cases e
  have T : Txt K mg := { b_int := PySem.W.mg_none_of X G z_int, b_isinstance := PySem.W.mg_none_of X G z_isinstance, b_len := PySem.W.mg_none_of X G z_len, b_range := PySem.W.mg_none_of X G z_range, b_str := PySem.W.mg_none_of X G z_str, b_tuple := PySem.W.mg_none_of X G z_tuple }
  have F0 := fun_mk (st := s_names) l0 c0 k0
  have D_names : Def K mg "names" s_names := ⟨_, _, F0, PySem.W.mg_of X G a0⟩
  have F1 := fun_mk (st := s_has_one) l1 c1 k1
  have D_has_one : Def K mg "has_one" s_has_one := ⟨_, _, F1, PySem.W.mg_of X G a1⟩
  have F2 := fun_mk (st := s_ones) l2 c2 k2
  have D_ones : Def K mg "ones" s_ones := ⟨_, _, F2, PySem.W.mg_of X G a2⟩
  have F3 := fun_mk (st := s_shown_level) l3 c3 k3
  have D_shown_level : Def K mg "shown_level" s_shown_level := ⟨_, _, F3, PySem.W.mg_of X G a3⟩
  have F4 := fun_mk (st := s_shown_row) l4 c4 k4
  have D_shown_row : Def K mg "shown_row" s_shown_row := ⟨_, _, F4, PySem.W.mg_of X G a4⟩
  have F5 := fun_mk (st := s_shown_gates) l5 c5 k5
  have D_shown_gates : Def K mg "shown_gates" s_shown_gates := ⟨_, _, F5, PySem.W.mg_of X G a5⟩
  have F6 := fun_mk (st := s_shown_net) l6 c6 k6
  have D_shown_net : Def K mg "shown_net" s_shown_net := ⟨_, _, F6, PySem.W.mg_of X G a6⟩
  have F7 := fun_mk (st := s__law_mix) l7 c7 k7
  have D__law_mix : Def K mg "_law_mix" s__law_mix := ⟨_, _, F7, PySem.W.mg_of X G a7⟩
  have F8 := fun_mk (st := s__law_name) l8 c8 k8
  have D__law_name : Def K mg "_law_name" s__law_name := ⟨_, _, F8, PySem.W.mg_of X G a8⟩
  have F9 := fun_mk (st := s__law_wires) l9 c9 k9
  have D__law_wires : Def K mg "_law_wires" s__law_wires := ⟨_, _, F9, PySem.W.mg_of X G a9⟩
  have F10 := fun_mk (st := s__law_row) l10 c10 k10
  have D__law_row : Def K mg "_law_row" s__law_row := ⟨_, _, F10, PySem.W.mg_of X G a10⟩
  have F11 := fun_mk (st := s__law_gates) l11 c11 k11
  have D__law_gates : Def K mg "_law_gates" s__law_gates := ⟨_, _, F11, PySem.W.mg_of X G a11⟩
  have F12 := fun_mk (st := s__law_row_text) l12 c12 k12
  have D__law_row_text : Def K mg "_law_row_text" s__law_row_text := ⟨_, _, F12, PySem.W.mg_of X G a12⟩
  have F13 := fun_mk (st := s__law_gates_text) l13 c13 k13
  have D__law_gates_text : Def K mg "_law_gates_text" s__law_gates_text := ⟨_, _, F13, PySem.W.mg_of X G a13⟩
  have F14 := fun_mk (st := s_law) l14 c14 k14
  refine ⟨PySem.W.fnOf "law" "law" (defArgs s_law) (defBody s_law) (defScope s_law) .none kV14 dc14 pm14 an14 cd14 ct14, fun s v => .of_eq rfl, fun base _ _ => ?_⟩
  have C_names := c_names (P := l.prog) (w := w) (base := base) D_names T 
  have C_has_one := c_has_one (P := l.prog) (w := w) (base := base) D_has_one T 
  have C_ones := c_ones (P := l.prog) (w := w) (base := base) D_ones T C_has_one
  have C_shown_level := c_shown_level (P := l.prog) (w := w) (base := base) D_shown_level T 
  have C_shown_row := c_shown_row (P := l.prog) (w := w) (base := base) D_shown_row T C_shown_level C_has_one C_ones
  have C_shown_gates := c_shown_gates (P := l.prog) (w := w) (base := base) D_shown_gates T C_shown_row
  have C_shown_net := c_shown_net (P := l.prog) (w := w) (base := base) D_shown_net T C_names C_shown_gates
  have C__law_mix := c__law_mix (P := l.prog) (w := w) (base := base) D__law_mix T 
  have C__law_name := c__law_name (P := l.prog) (w := w) (base := base) D__law_name T 
  have C__law_wires := c__law_wires (P := l.prog) (w := w) (base := base) D__law_wires T C__law_mix C__law_name
  have C__law_row := c__law_row (P := l.prog) (w := w) (base := base) D__law_row T 
  have C__law_gates := c__law_gates (P := l.prog) (w := w) (base := base) D__law_gates T C__law_mix C__law_row
  have C__law_row_text := c__law_row_text (P := l.prog) (w := w) (base := base) D__law_row_text T 
  have C__law_gates_text := c__law_gates_text (P := l.prog) (w := w) (base := base) D__law_gates_text T C__law_row_text
  exact c_law F14 T C__law_wires C_shown_net C__law_row C__law_mix C__law_row_text C__law_gates C__law_gates_text law_ok
theorem walk {l : PySem.W.OpenLaw} {q : Program} {loose : List Str} {XP : (Str → Option Value) → Heap → Prop} {YP : World → Heap → Prop} {d : DefRec} {K : Params → PySem.W.Frag} (hn : l.most = some 63) (hdf : d.params.defaults = [])
    (hY : ∀ (w : World) (h : Heap), YP w h → (K w.params).In h)
    (F : ∀ (w : World) (mg : Str → Option Value) (fa : Addr) (h : Heap), (K w.params).In h → h.Ns mainGlobals mg → mg d.name = some (.ref fa) →
      ∃ fd : FuncData, (∀ (s : Shared) (u : Value), BindsTo s fd ⟨[u], []⟩ [("_law_script", u)]) ∧ ∀ base : Heap, (K w.params).In base → base.Ns mainGlobals mg → FnOk l.prog w (K w.params) mg base CX0 6 fa fd ["_law_script"] (spLaw (K w.params))) :
    PySem.W.WalkO q loose XP YP l.row.toRowW d [] (fun f vs => PySem.call f vs) :=
  L2.walk_of (n := 63) (k := 6) (x := "_law_script") (CX := fun _ => CX0) (sp := fun w => spLaw (K w.params)) hn (by decide) hdf ⟨rfl, by decide, by decide, rfl⟩ hY F (fun _ _ a ns hl _ hS => ⟨a, ns, rfl, hS, hl, fun _ => rfl⟩) fun _ _ _ _ _ z => z
end K81
open PySem PySem.W PyProof.Rows
set_option maxRecDepth 100000 in
set_option maxHeartbeats 0 in
theorem PySem.Challenge.cw_calmwires_k81_nets_shown_holds : PySem.Challenge.rw_calmwires_k81_nets_shown.Holds := by
  w_on; o_law; k_head; (case hw => w_witness2)
  k_fill
  refine K81.walk (l := PySem.Challenge.rw_calmwires_k81_nets_shown) rfl rfl (fun w h Y => PySem.W.kIn_of Y) ?F
  case F =>
    intro w mg fa h KX G hmg
    refine' K81.all_mk KX G hmg ?a0 ?l0 ?c0 ?k0 ?a1 ?l1 ?c1 ?k1 ?a2 ?l2 ?c2 ?k2 ?a3 ?l3 ?c3 ?k3 ?a4 ?l4 ?c4 ?k4 ?a5 ?l5 ?c5 ?k5 ?a6 ?l6 ?c6 ?k6 ?a7 ?l7 ?c7 ?k7 ?a8 ?l8 ?c8 ?k8 ?a9 ?l9 ?c9 ?k9 ?a10 ?l10 ?c10 ?k10 ?a11 ?l11 ?c11 ?k11 ?a12 ?l12 ?c12 ?k12 ?a13 ?l13 ?c13 ?k13 ?a14 ?l14 ?c14 ?k14 ?z_int ?z_isinstance ?z_len ?z_range ?z_str ?z_tuple
    (case a0 => k_is); (case l0 => k_is); (case c0 => k_is); (case k0 => k_is); (case a1 => k_is); (case l1 => k_is); (case c1 => k_is); (case k1 => k_is); (case a2 => k_is); (case l2 => k_is); (case c2 => k_is); (case k2 => k_is); (case a3 => k_is); (case l3 => k_is); (case c3 => k_is); (case k3 => k_is); (case a4 => k_is); (case l4 => k_is); (case c4 => k_is); (case k4 => k_is); (case a5 => k_is); (case l5 => k_is); (case c5 => k_is); (case k5 => k_is); (case a6 => k_is); (case l6 => k_is); (case c6 => k_is); (case k6 => k_is); (case a7 => k_is); (case l7 => k_is); (case c7 => k_is); (case k7 => k_is); (case a8 => k_is); (case l8 => k_is); (case c8 => k_is); (case k8 => k_is); (case a9 => k_is); (case l9 => k_is); (case c9 => k_is); (case k9 => k_is); (case a10 => k_is); (case l10 => k_is); (case c10 => k_is); (case k10 => k_is); (case a11 => k_is); (case l11 => k_is); (case c11 => k_is); (case k11 => k_is); (case a12 => k_is); (case l12 => k_is); (case c12 => k_is); (case k12 => k_is); (case a13 => k_is); (case l13 => k_is); (case c13 => k_is); (case k13 => k_is); (case a14 => k_is); (case l14 => k_is); (case c14 => k_is); (case k14 => k_is); (case z_int => k_is); (case z_isinstance => k_is); (case z_len => k_is); (case z_range => k_is); (case z_str => k_is); (case z_tuple => k_is)
