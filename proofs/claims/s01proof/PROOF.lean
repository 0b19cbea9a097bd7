import PyProof.Rows.All
import Wide.All
import OpenK.AllK
import Wide.FinOn
import PyProof.EqAt
import PyProof.EqKinds
import PyProof.TupleCall
import KE.BitLaws
import Open.SpecLaws
import KE.OsHead
import KE.OsGo
import KE.KSortKey
import PySem.Challenge.RW_framering_s01_answers
set_option Elab.async false
set_option linter.all false
set_option maxRecDepth 100000
namespace L2
open PySem PySem.Spec PyProof.Rows

/-- a key: an int or a str -/
abbrev Key := Sum Int Str
def keyIs : Key → Value → Bool
  | .inl k, v => Value.isInt k v
  | .inr x, v => Value.isStrOf x v
def keyH (w : World) : Key → Int
  | .inl k => hashInt k
  | .inr x => hashStr w x
theorem keyIs_shape : ∀ {k : Key} {v : Value}, keyIs k v = true → (∃ i t, k = Sum.inl i ∧ v = Value.int i t) ∨ (∃ x t, k = Sum.inr x ∧ v = Value.str x t)
  | .inl i, v, h => by
    obtain ⟨t, e⟩ := Value.isInt_shape (k := i) (v := v) h
    exact .inl ⟨i, t, rfl, e⟩
  | .inr x, v, h => by
    obtain ⟨t, e⟩ := Value.isStrOf_shape (x := x) (v := v) h
    exact .inr ⟨x, t, rfl, e⟩
theorem key_ll (a b : Int) : decide ((Sum.inl a : Key) = Sum.inl b) = (a == b) := by
  by_cases e : a = b
  · subst e; simp
  · have h : ¬ (Sum.inl a : Key) = Sum.inl b := fun q => e (Sum.inl.inj q)
    rw [decide_eq_false h]
    exact (beq_eq_false_iff_ne.mpr e).symm
theorem key_rr (a b : Str) : decide ((Sum.inr a : Key) = Sum.inr b) = decide (a = b) := by
  by_cases e : a = b
  · subst e; simp
  · have h : ¬ (Sum.inr a : Key) = Sum.inr b := fun q => e (Sum.inr.inj q)
    rw [decide_eq_false h, decide_eq_false e]
theorem key_lr (a : Int) (b : Str) : decide ((Sum.inl a : Key) = Sum.inr b) = false := decide_eq_false (fun q => nomatch q)
theorem key_rl (a : Str) (b : Int) : decide ((Sum.inr a : Key) = Sum.inl b) = false := decide_eq_false (fun q => nomatch q)

def mixKind (prog : Program) (w : World) : PySem.KeyKind prog w Key where
  is := keyIs
  hash := keyH w
  inj := fun v a b ha hb => by
    rcases keyIs_shape ha with ⟨i, t, rfl, rfl⟩ | ⟨x, t, rfl, rfl⟩
    · rcases keyIs_shape hb with ⟨j, u, rfl, e⟩ | ⟨y, u, rfl, e⟩
      · injection e with e1 _; rw [e1]
      · exact nomatch e
    · rcases keyIs_shape hb with ⟨j, u, rfl, e⟩ | ⟨y, u, rfl, e⟩
      · exact nomatch e
      · injection e with e1 _; rw [e1]
  byValue := fun k v h => by
    rcases keyIs_shape h with ⟨i, t, rfl, rfl⟩ | ⟨x, t, rfl, rfl⟩ <;> rfl
  pyHash := fun hv h => by
    rcases keyIs_shape hv with ⟨i, t, rfl, rfl⟩ | ⟨x, t, rfl, rfl⟩
    · exact wpAny_pyHash_int h
    · exact wpAny_pyHash_str h
  eqBool := fun hu hv h => by
    rcases keyIs_shape hu with ⟨i, t, rfl, rfl⟩ | ⟨x, t, rfl, rfl⟩
    · rcases keyIs_shape hv with ⟨j, u, rfl, rfl⟩ | ⟨y, u, rfl, rfl⟩
      · rw [key_ll] at h; exact wpAny_eqBool_int h
      · rw [key_lr] at h; exact SeqAt.EqAt.int_str i t y u _ _ _ _ h
    · rcases keyIs_shape hv with ⟨j, u, rfl, rfl⟩ | ⟨y, u, rfl, rfl⟩
      · rw [key_rl] at h; exact SeqAt.EqAt.str_int x t j u _ _ _ _ h
      · rw [key_rr] at h; exact wpAny_eqBool_str h
  «strs» := fun k x t v h => by
    rcases keyIs_shape h with ⟨i, u, rfl, e⟩ | ⟨y, u, rfl, e⟩
    · exact nomatch e
    · injection e with e1 _
      subst e1
      cases v <;> rfl

end L2

namespace L2
open PySem PySem.Spec PyProof.Rows

/-- a value, without the heap -/
inductive V where
  | non | bl (b : Bool) | int (i : Int) | str (x : Str) | byt (b : Array UInt8) | flt (b : UInt64) | ref (a : Addr) | ty (n : String)
  deriving DecidableEq

def RelV : V → Value → Prop
  | .non, u => u = Value.none
  | .bl b, u => u = Value.bool b
  | .int i, u => ∃ t, u = Value.int i t
  | .str x, u => ∃ t, u = Value.str x t
  | .byt b, u => ∃ t, u = Value.bytes b t
  | .flt b, u => ∃ t, u = Value.float b t
  | .ref a, u => u = Value.ref a
  | .ty n, u => u = Value.type n

abbrev Vals : List V → List Value → Prop := Paired RelV
theorem Vals.length {xs : List V} {us : List Value} (r : Vals xs us) : xs.length = us.length := Paired.length r
theorem Vals.get : ∀ {xs : List V} {us : List Value} {i : Nat} {x : V}, Vals xs us → xs[i]? = some x → ∃ u, us[i]? = some u ∧ RelV x u
  | _, _, _, _, .nil, e => by simp at e
  | _, _, 0, _, .cons r _, e => by simp at e; subst e; exact ⟨_, rfl, r⟩
  | _, _, i + 1, x, .cons _ t, e => by
    obtain ⟨u, h1, h2⟩ := Vals.get (i := i) (x := x) t (by simpa using e)
    exact ⟨u, by simpa using h1, h2⟩
theorem Vals.set {x : V} {u : Value} (r : RelV x u) : ∀ {xs : List V} {us : List Value} (i : Nat), Vals xs us → Vals (xs.set i x) (us.set i u)
  | _, _, _, .nil => .nil
  | _, _, 0, .cons _ t => .cons r t
  | _, _, i + 1, .cons q t => .cons q (Vals.set r i t)
theorem Vals.append : ∀ {xs ys : List V} {us ws : List Value}, Vals xs us → Vals ys ws → Vals (xs ++ ys) (us ++ ws)
  | _, _, _, _, .nil, s => s
  | _, _, _, _, .cons r t, s => .cons r (Vals.append t s)
theorem Vals.take : ∀ {xs : List V} {us : List Value} (n : Nat), Vals xs us → Vals (xs.take n) (us.take n)
  | _, _, 0, _ => .nil
  | _, _, _ + 1, .nil => .nil
  | _, _, n + 1, .cons r t => .cons r (Vals.take n t)
theorem Vals.drop : ∀ {xs : List V} {us : List Value} (n : Nat), Vals xs us → Vals (xs.drop n) (us.drop n)
  | _, _, 0, r => r
  | _, _, _ + 1, .nil => .nil
  | _, _, n + 1, .cons _ t => Vals.drop n t

def RelO : Option V → Option Value → Prop
  | some v, some u => RelV v u
  | none, none => True
  | _, _ => False
def KV {κ : Type} : List (κ × V) → List (κ × Value) → Prop := Paired fun (p : κ × V) (q : κ × Value) => p.1 = q.1 ∧ RelV p.2 q.2

/-- a key of a dict (00_mix): an int or a text -/
def kV : Key → V
  | .inl i => .int i
  | .inr x => .str x

/-- what stands at a tracked address -/
inductive HO where
  /-- a list -/
  | lst (xs : List V)
  /-- a tuple (never changes) -/
  | tup (xs : List V)
  /-- a dict whose keys are ints and texts; one whose keys are tuples of ints and texts (the empty one is both) -/
  | dK (kvs : List (Key × V)) | dT (kvs : List (List Key × V))
  /-- a set of ints: its members, its size -/
  | set (S : Int → Bool) (n : Nat)
  /-- an instance of the class at C, its dict at dx, its attributes -/
  | ins (C dx : Addr) (fs : List (Str × V))
  /-- the dict of the instance at x -/
  | own (x : Addr)
  /-- the dict of an exception -/
  | xd (fs : List (Str × V))
  /-- a bound method, f of x -/
  | met (f x : Addr)
  /-- a range object lo, lo + 1, .. below hi -/
  | rng (lo hi : Int)
  /-- a thing that is known to the object (the script; a dict while a loop walks it): read, never written while it is so -/
  | frz (o : Obj) (u : HO)
  /-- a code object's table -/
  | tbl (ps : Array Value)
  /-- any other thing, by what is true of its one object (a def of one's own: SetO a S n := HO.ext fun h => ..) -/
  | ext (φ : Heap → Prop)

abbrev Hp := Addr → Option HO
def upd (H : Hp) (a : Addr) (o : HO) : Hp := fun b => if b = a then some o else H b
theorem upd_same {H : Hp} {a : Addr} {o : HO} : upd H a o a = some o := by unfold upd; rw [if_pos rfl]
theorem upd_ne {H : Hp} {a b : Addr} {o : HO} (h : b ≠ a) : upd H a o b = H b := by unfold upd; rw [if_neg h]
theorem upd_upd {H : Hp} {a : Addr} {o u : HO} : upd (upd H a o) a u = upd H a u := by
  funext b; unfold upd; split <;> rfl
/-- two objects of different content stand apart -/
theorem ne_of {H : Hp} {a b : Addr} {o u : HO} (h : H a = some o) (h' : H b = some u) (d : o ≠ u) : a ≠ b := by
  intro e; subst e; rw [h] at h'; exact d (Option.some.inj h')
theorem ne_of_none {H : Hp} {a b : Addr} {o : HO} (h : H a = some o) (h' : H b = none) : a ≠ b := by
  intro e; subst e; rw [h] at h'; cases h'

section
variable (P : Program) (w : World)
def ObjOk (H : Hp) (h : Heap) (a : Addr) : HO → Prop
  | .lst xs => xs.length ≤ sizeLine ∧ ∃ (its : List Value) (n : Nat), Vals xs its ∧ h.get? a = some { cls := .type "list", data := .seq its.toArray n }
  | .tup xs => xs.length ≤ sizeLine ∧ ∃ its : List Value, Vals xs its ∧ IsTup h a its.toArray
  | .dK kvs => kvs.length ≤ sizeLine ∧ (a == sysModules) = false ∧ ∃ vs, KV kvs vs ∧ h.DictOf (mixKind P w) a vs
  | .dT kvs => kvs.length ≤ sizeLine ∧ (a == sysModules) = false ∧ ∃ xs : List (List Key × Addr × Value),
      Paired (fun (p : List Key × V) (q : List Key × Addr × Value) => p.1 = q.1 ∧ H q.2.1 = some (.tup (p.1.map kV)) ∧ RelV p.2 q.2.2) kvs xs ∧
      ∃ o es ep, h.get? a = some o ∧ o.ExactDict ∧ o.data = .dict es ep ∧ es.toList = xs.map (entryOfKey (tupleKind (mixKind P w))) ∧ (xs.map (·.1)).Nodup
  | .set S n => h.SetOf (intKind P w) a S n
  | .ins C dx fs => H dx = some (.own a) ∧ fs.length ≤ 1000 ∧ dx ≠ a ∧ h.get? a = some (PySem.W.instObj C dx) ∧
      ∃ mA, h.Ns1 dx mA ∧ (∀ f, RelO (fs.lookup f) (mA f)) ∧ PySem.Within mA (fs.map (·.1))
  | .own _ => ∃ o, h.get? a = some o
  | .xd fs => ∃ mA, h.Ns1 a mA ∧ ∀ f, RelO (fs.lookup f) (mA f)
  | .rng lo hi => ∃ t u v, h.get? a = some { cls := .type "range", data := .fields #[.int lo t, .int hi u, .int 1 v] }
  | .frz o u => h.get? a = some o ∧ ObjOk H h a u
  | .tbl ps => h.get? a = some { cls := .none, data := .fields ps }
  | .met f x => h.get? a = some (PySem.W.methodObj (.ref f) (.ref x))
  | .ext φ => φ h ∧ (∃ o, h.get? a = some o) ∧ ∀ h1 h2 : Heap, φ h1 → (∀ o, h1.get? a = some o → h2.get? a = some o) → φ h2
/-- the abstract heap is held -/
def HOk (H : Hp) (h : Heap) : Prop := ∀ a o, H a = some o → ObjOk P w H h a o
end

section
variable {P : Program} {w : World} {H H' : Hp} {h h' : Heap} {a : Addr} {o : HO}
theorem ObjOk.lt (x : ObjOk P w H h a o) : a < h.objs.size := by
  cases o with
  | lst xs => obtain ⟨_, _, _, _, e⟩ := x; exact Heap.lt_size e
  | tup xs => obtain ⟨_, _, _, p⟩ := x; exact p.lt
  | dK kvs => obtain ⟨_, _, _, _, o, _, _, e, _⟩ := x; exact Heap.lt_size e
  | dT kvs => obtain ⟨_, _, _, _, o, _, _, e, _⟩ := x; exact Heap.lt_size e
  | set S n => obtain ⟨o, _, _, _, e, _⟩ := x; exact Heap.lt_size e
  | ins C dx fs => obtain ⟨_, _, _, e, _⟩ := x; exact Heap.lt_size e
  | own y => obtain ⟨_, e⟩ := x; exact Heap.lt_size e
  | xd fs => obtain ⟨_, ⟨_, _, _, e, _⟩, _⟩ := x; exact Heap.lt_size e
  | rng lo hi => obtain ⟨_, _, _, e⟩ := x; exact Heap.lt_size e
  | frz ob u => obtain ⟨e, _⟩ := x; exact Heap.lt_size e
  | tbl ps => exact Heap.lt_size (show h.get? a = some _ from x)
  | met f y => exact Heap.lt_size (show h.get? a = some _ from x)
  | ext φ => obtain ⟨_, ⟨_, e⟩, _⟩ := x; exact Heap.lt_size e
theorem Paired.mapP {α β : Type} {F G : α → β → Prop} : ∀ {l₁ : List α} {l₂ : List β}, Paired F l₁ l₂ → (∀ a b, F a b → G a b) → Paired G l₁ l₂
  | _, _, .nil, _ => .nil
  | _, _, .cons r t, f => .cons (f _ _ r) (Paired.mapP t f)
/-- what an object's description leans on: its own object, its own dict, the tuples -/
theorem ObjOk.stay (x : ObjOk P w H h a o) (k : ∀ b u, (b = a ∨ H b = some (.own a)) → h.get? b = some u → h'.get? b = some u)
    (ho : ∀ b, H b = some (.own a) → H' b = some (.own a)) (ht : ∀ b xs, H b = some (.tup xs) → H' b = some (.tup xs)) : ObjOk P w H' h' a o := by
  induction o with
  | lst xs => obtain ⟨z, its, n, r, e⟩ := x; exact ⟨z, its, n, r, k _ _ (.inl rfl) e⟩
  | tup xs => obtain ⟨z, its, r, ob, e, c⟩ := x; exact ⟨z, its, r, ob, k _ _ (.inl rfl) e, c⟩
  | dK kvs => obtain ⟨z, y, vs, r, ob, es, ep, e, c⟩ := x; exact ⟨z, y, vs, r, ob, es, ep, k _ _ (.inl rfl) e, c⟩
  | dT kvs =>
    obtain ⟨z, y, xs, r, ob, es, ep, e, c⟩ := x
    exact ⟨z, y, xs, Paired.mapP r fun p q z => ⟨z.1, ht _ _ z.2.1, z.2.2⟩, ob, es, ep, k _ _ (.inl rfl) e, c⟩
  | set S n => obtain ⟨ob, es, ep, t, e, c⟩ := x; exact ⟨ob, es, ep, t, k _ _ (.inl rfl) e, c⟩
  | ins C dx fs =>
    obtain ⟨d, z, ne, e, mA, ⟨od, es, ep, e2, c⟩, r⟩ := x
    exact ⟨ho _ d, z, ne, k _ _ (.inl rfl) e, mA, ⟨od, es, ep, k _ _ (.inr d) e2, c⟩, r⟩
  | own y => obtain ⟨ob, e⟩ := x; exact ⟨ob, k _ _ (.inl rfl) e⟩
  | xd fs => obtain ⟨mA, ⟨od, es, ep, e, c⟩, r⟩ := x; exact ⟨mA, ⟨od, es, ep, k _ _ (.inl rfl) e, c⟩, r⟩
  | rng lo hi => obtain ⟨t, u, v, e⟩ := x; exact ⟨t, u, v, k _ _ (.inl rfl) e⟩
  | frz ob u ih => obtain ⟨e, q⟩ := x; exact ⟨k _ _ (.inl rfl) e, ih q⟩
  | tbl ps =>
    have e : h.get? a = some { cls := .none, data := .fields ps } := x
    show h'.get? a = some { cls := .none, data := .fields ps }
    exact k a _ (.inl rfl) e
  | met f y =>
    have e : h.get? a = some (PySem.W.methodObj (.ref f) (.ref y)) := x
    show h'.get? a = some (PySem.W.methodObj (.ref f) (.ref y))
    exact k a _ (.inl rfl) e
  | ext φ => obtain ⟨p, ⟨o, e⟩, st⟩ := x; exact ⟨st _ _ p fun o q => k _ _ (.inl rfl) q, ⟨o, k _ _ (.inl rfl) e⟩, st⟩
theorem HOk.lt (x : HOk P w H h) (e : H a = some o) : a < h.objs.size := (x a o e).lt
theorem HOk.fresh (x : HOk P w H h) (e : h.objs.size ≤ a) : H a = none := by
  cases q : H a with
  | none => rfl
  | some u => exact absurd (Nat.lt_of_lt_of_le (x.lt q) e) (Nat.lt_irrefl _)
/-- every object of the heap is kept -/
theorem HOk.kept (x : HOk P w H h) (k : ∀ b u, h.get? b = some u → h'.get? b = some u) : HOk P w H h' := fun a o e =>
  (x a o e).stay (fun b u _ q => k b u q) (fun _ q => q) fun _ _ q => q
/-- a new object is laid and tracked -/
theorem HOk.laid (x : HOk P w H h) (k : ∀ b u, h.get? b = some u → h'.get? b = some u) (hp : h.objs.size ≤ a) (new : ObjOk P w (upd H a o) h' a o) : HOk P w (upd H a o) h' := fun b u e => by
  have hn := x.fresh hp
  by_cases hb : b = a
  · subst hb; rw [upd_same] at e; cases e; exact new
  · rw [upd_ne hb] at e
    exact (x b u e).stay (fun c v _ q => k c v q) (fun c q => by rw [upd_ne (ne_of_none q hn)]; exact q) fun c xs q => by rw [upd_ne (ne_of_none q hn)]; exact q
end

/-- what may be read as u: it is u, or a known u -/
def Rd (H : Hp) (a : Addr) (u : HO) : Prop := H a = some u ∨ ∃ o, H a = some (.frz o u)
theorem Rd.ok {P : Program} {w : World} {H : Hp} {h : Heap} {a : Addr} {u : HO} (r : Rd H a u) (x : HOk P w H h) : ObjOk P w H h a u := by
  rcases r with r | ⟨o, r⟩
  · exact x a u r
  · obtain ⟨_, q⟩ := x a _ r
    exact q
/-- what may be written -/
def Mut : Option HO → Prop
  | some (.lst _) => True
  | some (.dK _) => True
  | some (.dT _) => True
  | some (.set _ _) => True
  | some (.ins _ _ _) => True
  | some (.ext _) => True
  | _ => False
section
variable {P : Program} {w : World} {H : Hp} {h h' : Heap} {x e : Addr} {o' : HO}
/-- the object at e is changed: x itself, or the dict of the instance x -/
theorem HOk.write (ok : HOk P w H h) (mu : Mut (H x)) (he : e = x ∨ H e = some (.own x)) (k : ∀ b u, b ≠ e → h.get? b = some u → h'.get? b = some u) (heo : ∃ u, h'.get? e = some u)
    (new : ObjOk P w (upd H x o') h' x o') : HOk P w (upd H x o') h' := fun b u q => by
  have nown : ∀ c y, H c = some (.own y) → c ≠ x := fun c y r z => by subst z; rw [r] at mu; exact mu
  have ntup : ∀ c xs, H c = some (.tup xs) → c ≠ x := fun c xs r z => by subst z; rw [r] at mu; exact mu
  by_cases hb : b = x
  · subst hb; rw [upd_same] at q; cases q; exact new
  · rw [upd_ne hb] at q
    by_cases hbe : b = e
    · have q' : H b = some (.own x) := by
        rcases he with z | z
        · exact absurd (hbe.trans z) hb
        · rw [hbe]; exact z
      rw [q] at q'; cases q'
      obtain ⟨v, hv⟩ := heo
      exact ⟨v, by rw [hbe]; exact hv⟩
    · refine (ok b u q).stay (fun c v hc r => k c v ?_ r) (fun c r => by rw [upd_ne (nown c b r)]; exact r) fun c xs r => by rw [upd_ne (ntup c xs r)]; exact r
      rcases hc with rfl | hc
      · exact hbe
      · rintro rfl
        rcases he with z | z
        · exact nown c b hc z
        · rw [hc] at z; cases z; exact hb rfl
end

structure Un (fs ex : List Addr) (H H' : Hp) (h h' : Heap) : Prop where
  keep : ∀ b o, h.get? b = some o → H b = none → b ∉ fs → b ∉ ex → h'.get? b = some o
  slot : ∀ b o, h.get? b = some o → H b = none → b ∈ fs → b ∉ ex → ∃ sl, h'.get? b = some { o with slots := sl }
  free : ∀ b o, h.get? b = some o → H b = none → b ∉ ex → H' b = none
  there : ∀ b o, h.get? b = some o → b ∉ ex → ∃ o', h'.get? b = some o'
  tups : ∀ b xs, H b = some (.tup xs) → H' b = some (.tup xs)
  frzs : ∀ b o u, H b = some (.frz o u) → H' b = some (.frz o u)
  tbls : ∀ b ps, H b = some (.tbl ps) → ∃ more, H' b = some (.tbl (ps ++ more))
section
variable {fs fs' ex ex' : List Addr} {H H1 H2 : Hp} {h h1 h2 h' : Heap} {a x e : Addr} {o : HO}
theorem Un.any (u : Un fs ex H H1 h h1) {b : Addr} {ob : Obj} (q : h.get? b = some ob) (n : H b = none) (hx : b ∉ ex) : ∃ sl, h1.get? b = some { ob with slots := sl } := by
  by_cases hb : b ∈ fs
  · exact u.slot b ob q n hb hx
  · exact ⟨ob.slots, u.keep b ob q n hb hx⟩
theorem Un.kept (k : ∀ b u, h.get? b = some u → h'.get? b = some u) : Un fs ex H H h h' :=
  ⟨fun b ob q _ _ _ => k b ob q, fun b ob q _ _ _ => ⟨ob.slots, k b ob q⟩, fun _ _ _ n _ => n, fun b ob q _ => ⟨ob, k b ob q⟩, fun _ _ q => q, fun _ _ _ q => q, fun _ ps q => ⟨#[], by rw [q]; simp⟩⟩
theorem Un.refl : Un fs ex H H h h := Un.kept fun _ _ q => q
theorem Un.laid (k : ∀ b u, h.get? b = some u → h'.get? b = some u) (hp : h.objs.size ≤ a) (hn : H a = none) : Un fs ex H (upd H a o) h h' where
  keep := fun b u q _ _ _ => k b u q
  slot := fun b u q _ _ _ => ⟨u.slots, k b u q⟩
  free := fun b u q n _ => by rw [upd_ne (Nat.ne_of_lt (Nat.lt_of_lt_of_le (Heap.lt_size q) hp))]; exact n
  there := fun b u q _ => ⟨u, k b u q⟩
  tups := fun b xs q => by rw [upd_ne (ne_of_none q hn)]; exact q
  frzs := fun b u xs q => by rw [upd_ne (ne_of_none q hn)]; exact q
  tbls := fun b ps q => ⟨#[], by rw [upd_ne (ne_of_none q hn), q]; simp⟩
theorem Un.write (mu : Mut (H x)) (he : e = x ∨ H e = some (.own x)) (k : ∀ b u, b ≠ e → h.get? b = some u → h'.get? b = some u) (heo : ∃ u, h'.get? e = some u) : Un fs ex H (upd H x o) h h' := by
  have hx : ∀ b, H b = none → b ≠ x := fun b n z => by subst z; rw [n] at mu; exact mu
  have hb : ∀ b, H b = none → b ≠ e := fun b n z => by
    subst z
    rcases he with r | r
    · exact hx b n r
    · rw [n] at r; cases r
  have hm : ∀ b u, H b = some u → ¬ Mut (some u) → b ≠ x := fun b u q nm z => by subst z; rw [q] at mu; exact nm mu
  refine ⟨fun b u q n _ _ => k b u (hb b n) q, fun b u q n _ _ => ⟨u.slots, k b u (hb b n) q⟩, fun b u q n _ => by rw [upd_ne (hx b n)]; exact n, fun b u q _ => ?_,
    fun b xs q => by rw [upd_ne (hm b _ q fun z => z)]; exact q, fun b u xs q => by rw [upd_ne (hm b _ q fun z => z)]; exact q, fun b ps q => ⟨#[], by rw [upd_ne (hm b _ q fun z => z), q]; simp⟩⟩
  by_cases hbe : b = e
  · subst hbe; exact heo
  · exact ⟨u, k b u hbe q⟩
end

def trk (h : Heap) (H : Hp) : List Addr := (List.range h.objs.size).filter fun a => (H a).isSome
def hidT (h : Heap) (H : Hp) : Heap := PySem.W.hideAll h (trk h H)
theorem hidT_size (h : Heap) (H : Hp) : (hidT h H).objs.size = h.objs.size := PySem.W.hideAll_size _ _
theorem hidT_get {h : Heap} {H : Hp} {b : Addr} {o : Obj} (e : h.get? b = some o) (n : H b = none) : (hidT h H).get? b = some o :=
  PySem.W.hideAll_get _ e fun hm => by
    have q : (H b).isSome = true := (List.mem_filter.mp hm).2
    rw [n] at q; simp at q
theorem of_hidT {h : Heap} {H : Hp} {b : Addr} {o : Obj} (e : (hidT h H).get? b = some o) : h.get? b = some o ∧ H b = none := by
  have e' : h.get? b = some o := PySem.W.of_hideAll (trk h H) e
  refine ⟨e', ?_⟩
  cases q : H b with
  | none => rfl
  | some x =>
    have hm : b ∈ trk h H := List.mem_filter.mpr ⟨List.mem_range.mpr (Heap.lt_size e'), by simp [q]⟩
    have z : (hidT h H).get? b = none := PySem.W.hideAll_none (trk h H) hm
    rw [z] at e; cases e

def allNews (g h : Heap) (L : Addr) : List (Addr × Obj) := (List.range h.objs.size).filterMap fun a => if a = L ∨ (g.get? a).isSome = true then none else (h.get? a).map fun o => (a, o)
theorem mem_allNews {g h : Heap} {L a : Addr} {o : Obj} (h1 : a ≠ L) (h2 : g.get? a = none) (h3 : h.get? a = some o) : (a, o) ∈ allNews g h L :=
  List.mem_filterMap.mpr ⟨a, List.mem_range.mpr (Heap.lt_size h3), by simp [h1, h2, h3]⟩
theorem of_mem_allNews {g h : Heap} {L : Addr} {p : Addr × Obj} (hp : p ∈ allNews g h L) : p.1 ≠ L ∧ g.get? p.1 = none ∧ h.get? p.1 = some p.2 := by
  obtain ⟨b, _, e⟩ := List.mem_filterMap.mp hp
  split at e
  · cases e
  · rename_i hn
    cases q : h.get? b with
    | none => rw [q] at e; simp at e
    | some u =>
      rw [q] at e
      simp only [Option.map_some, Option.some.injEq] at e
      subst e
      refine ⟨fun z => hn (.inl z), ?_, q⟩
      show g.get? b = none
      cases r : g.get? b with
      | none => rfl
      | some v => exact (hn (.inr (by simp [r]))).elim
theorem news_all {g h : Heap} {L : Addr} : News g L h (allNews g h L) := fun p hp => let ⟨a, b, c⟩ := of_mem_allNews hp; ⟨c, a, b⟩
end L2

namespace L2
open PySem PySem.Spec PyProof.Rows

/-- the module's facts, over the base: the heap at the law's entry without what is tracked there -/
structure Mod (K : PySem.W.Frag) (mg : Str → Option Value) (base : Heap) : Prop where
  kin : K.In base
  glob : base.Ns mainGlobals mg
  blt : ∃ mb, base.Ns builtinsNs mb ∧ ∀ x : Str, x ≠ "__name__" → mb x = bootBuiltins x
  nolimit : base.NoLimit

/-- the context: a def's body (or a comprehension's block) running. base: fixed through the whole law; s₀, H₀: the entry; outer: the frames whose slots others may change (a def's callers); stack: all frames that run;
   ex: iterators that were made ahead of the entry and are walked here (a comprehension's); fn: the names whose cells were made at the entry (a def: all; a comprehension's block: its own); calm: not within an except suite; pn: pins that every state bears; xe: what is wanted of an exception that leaves the code -/
structure Cx where
  prog : Program
  w : World
  K : PySem.W.Frag
  mg : Str → Option Value
  base : Heap
  A : Around
  N : List Str
  s_0 : Shared
  H_0 : Hp
  env : Env
  outer : List Env
  stack : List Env
  ex : List Addr
  fn : Str → Bool
  calm : Bool
  pn : List (Addr × Obj)
  xe : Value → Shared → Prop
/-- the callers' frames -/
def frs (l : List Env) : List Addr := l.filterMap (·.frame)
abbrev Cx.fs (X : Cx) : List Addr := frs X.outer

def Vis (sc : Scope) (x : Str) : Prop := sc.names.lookup x = some .local ∨ sc.names.lookup x = some .cell ∨ sc.names.lookup x = some .free
def Loc (sc : Scope) (x : Str) : Prop := sc.names.lookup x = some .local ∨ sc.names.lookup x = some .cell
def Look (env : Env) (h : Heap) (m : Str → Option Value) (x : Str) (u : Value) : Prop :=
  (env.kindOf x = some .local ∧ m x = some u) ∨ ((env.kindOf x = some .cell ∨ env.kindOf x = some .free) ∧ ∃ c, env.cells.lookup x = some c ∧ h.IsCell c (some u))

structure Cx.Ok (X : Cx) : Prop where
  mod : Mod X.K X.mg X.base
  kind : X.env.scope.kind = .function
  glob : X.env.globals = mainGlobals
  blt : X.env.builtins = builtinsNs
  above : X.s_0.heap.objs.size ≤ X.env.locals
  inj : ∀ x y c, X.env.cells.lookup x = some c → X.env.cells.lookup y = some c → x = y
  has : ∀ x, (X.env.kindOf x = some .cell ∨ X.env.kindOf x = some .free) → ∃ c, X.env.cells.lookup x = some c
  cab : ∀ x c, X.fn x = true → X.env.cells.lookup x = some c → X.s_0.heap.objs.size ≤ c
  hd : X.calm = true → X.A.handled = none
  frames : X.A.frames = some X.stack
  stk : X.stack = X.outer ∨ (X.stack = X.env :: X.outer ∧ X.env.frame = some X.env.locals)
  exf : ∀ b ∈ X.ex, b ≠ X.env.locals ∧ ∀ x c, X.env.cells.lookup x = some c → c ≠ b
  bs : ∀ b o, X.base.get? b = some o → X.s_0.heap.get? b = some o ∧ X.H_0 b = none
  bsz : X.base.objs.size ≤ X.s_0.heap.objs.size
  noex : ∀ b o, X.base.get? b = some o → b ∉ X.ex
  exfs : ∀ b ∈ X.ex, b ∉ X.fs
  funs : X.s_0.heap.FunFrames X.base X.outer
  frf : ∀ b ∈ X.fs, X.H_0 b = none

structure Inv (X : Cx) (pins : List (Addr × Obj)) (σ : List (Option V)) (H : Hp) (s : Shared) : Prop where
  ok : X.Ok
  os : s.os = X.s_0.os
  bare : AllBare s.gens
  base : Un X.fs X.ex X.H_0 H X.s_0.heap s.heap
  loc : ∃ m, s.heap.Ns X.env.locals m ∧ ∀ (i : Nat) (x : Str) (v : V), X.N[i]? = some x → σ[i]? = some (some v) → Vis X.env.scope x → ∃ u, RelV v u ∧ Look X.env s.heap m x u
  cell : ∀ x c, X.env.cells.lookup x = some c → ∃ v, s.heap.IsCell c v
  free : H X.env.locals = none
  freeC : ∀ x c, X.env.cells.lookup x = some c → H c = none
  pin : ∀ p ∈ X.pn ++ pins, s.heap.get? p.1 = some p.2 ∧ H p.1 = none ∧ p.1 ≠ X.env.locals ∧ p.1 ∉ X.fs ∧ ∀ v, p.2.data ≠ .cell v
  hok : HOk X.prog X.w H s.heap
  len : σ.length = X.N.length

section
variable {X : Cx} {pins : List (Addr × Obj)} {σ : List (Option V)} {H H' : Hp} {s : Shared} {h' : Heap}

theorem Cx.Ok.nofr (ok : X.Ok) {b : Addr} {o : Obj} (e : X.base.get? b = some o) : b ∉ X.fs := fun hb => by
  have := (ok.funs.mem hb).1
  rw [e] at this; cases this
theorem Inv.bs (I : Inv X pins σ H s) : ∀ b o, X.base.get? b = some o → s.heap.get? b = some o ∧ H b = none := fun b o e =>
  ⟨I.base.keep b o (I.ok.bs b o e).1 (I.ok.bs b o e).2 (I.ok.nofr e) (I.ok.noex b o e), I.base.free b o (I.ok.bs b o e).1 (I.ok.bs b o e).2 (I.ok.noex b o e)⟩
theorem Inv.bk (I : Inv X pins σ H s) : ∀ b o, X.base.get? b = some o → s.heap.get? b = some o := fun b o e => (I.bs b o e).1
theorem Inv.mod (I : Inv X pins σ H s) : Mod X.K X.mg X.base := I.ok.mod
theorem Inv.kIn (I : Inv X pins σ H s) : X.K.In s.heap := I.ok.mod.kin.keeps I.bk
/-- the frame over the base: for OpenK's rules (K.In X.base is I.mod.kin) -/
theorem Inv.fr (I : Inv X pins σ H s) : ∃ m, Fr X.base X.env.locals s.heap m :=
  let ⟨m, hn, _⟩ := I.loc
  ⟨m, hn, I.bk, Nat.le_trans I.ok.bsz I.ok.above⟩
theorem Inv.lt (I : Inv X pins σ H s) : X.env.locals < s.heap.objs.size := let ⟨_, hn, _⟩ := I.loc; hn.lt
theorem Inv.sz (I : Inv X pins σ H s) : X.s_0.heap.objs.size ≤ s.heap.objs.size := Nat.le_trans I.ok.above (Nat.le_of_lt I.lt)
theorem Inv.nofs (I : Inv X pins σ H s) {a : Addr} (h : s.heap.objs.size ≤ a) : a ∉ X.fs := fun hb => by
  obtain ⟨_, o, ho, _⟩ := I.ok.funs.mem hb
  exact absurd (Nat.lt_of_lt_of_le (Heap.lt_size ho) (Nat.le_trans I.sz h)) (Nat.lt_irrefl _)
theorem Inv.cne (I : Inv X pins σ H s) : ∀ x c, X.env.cells.lookup x = some c → c ≠ X.env.locals := fun x c e z => by
  obtain ⟨v, o, ho, hd⟩ := I.cell x c e
  obtain ⟨m, ⟨o', es, ep, ho', hd', _⟩, _⟩ := I.loc
  rw [z, ho'] at ho; cases ho; rw [hd'] at hd; cases hd
theorem Inv.funs (I : Inv X pins σ H s) : s.heap.FunFrames X.base X.outer := by
  have all : ∀ (l : List Env), (∀ b ∈ frs l, b ∈ X.fs) → X.s_0.heap.FunFrames X.base l → s.heap.FunFrames X.base l := by
    intro l
    induction l with
    | nil => intro _ _; trivial
    | cons env r ih =>
      intro hs hl
      obtain ⟨hk, ⟨L, o, hf, hn, ho, hd⟩, hr⟩ := hl
      have hL : L ∈ X.fs := hs L (by unfold frs; rw [List.filterMap_cons, hf]; exact List.mem_cons_self)
      obtain ⟨sl, e⟩ := I.base.slot L o ho (I.ok.frf L hL) hL fun z => I.ok.exfs L z hL
      exact ⟨hk, ⟨L, _, hf, hn, e, hd⟩, ih (fun b hb => hs b (by unfold frs; rw [List.filterMap_cons, hf]; exact List.mem_cons_of_mem _ hb)) hr⟩
  exact all X.outer (fun _ hb => hb) I.ok.funs

/-- the frames that run, for a call -/
theorem Inv.stack (I : Inv X pins σ H s) : s.heap.FunFrames X.base X.stack := by
  rcases I.ok.stk with e | ⟨e, hf⟩
  · rw [e]; exact I.funs
  · rw [e]
    obtain ⟨m, hn, _⟩ := I.loc
    refine .cons (by rw [I.ok.kind]; decide) hf hn ?_ I.funs
    exact Heap.get?_none_of_le (Nat.le_trans I.ok.bsz I.ok.above)
theorem Inv.stkSub (I : Inv X pins σ H s) : ∀ b ∈ frs X.stack, b ∈ X.env.locals :: X.fs := fun b hb => by
  rcases I.ok.stk with e | ⟨e, hf⟩
  · rw [e] at hb; exact List.mem_cons_of_mem _ hb
  · rw [e] at hb
    unfold frs at hb
    rw [List.filterMap_cons, hf] at hb
    exact hb
theorem Inv.stkFree (I : Inv X pins σ H s) : ∀ b ∈ frs X.stack, H b = none := fun b hb => by
  rcases List.mem_cons.mp (I.stkSub b hb) with e | hb
  · rw [e]; exact I.free
  · obtain ⟨_, o, ho, _⟩ := I.ok.funs.mem hb
    exact I.base.free b o ho (I.ok.frf b hb) fun z => I.ok.exfs b z hb

/-- THE STEP: the untracked objects but the frame and the records at ch are kept (the callers' frames up to slots), the frame's map is kept, the new abstract heap is held -/
theorem Inv.step {g' : Array GenState} {t' : Nat} {d' : Drawn} {ch : List Addr} (I : Inv X pins σ H s)
    (hch : ∀ b ∈ ch, (b ∈ X.ex ∨ X.s_0.heap.objs.size ≤ b) ∧ b ≠ X.env.locals ∧ (∀ x c, X.env.cells.lookup x = some c → c ≠ b) ∧ ∀ p ∈ X.pn ++ pins, p.1 ≠ b)
    (keep : ∀ b o, b ≠ X.env.locals → b ∉ X.fs → b ∉ ch → s.heap.get? b = some o → H b = none → h'.get? b = some o)
    (slot : ∀ b o, b ≠ X.env.locals → b ∈ X.fs → b ∉ ch → s.heap.get? b = some o → H b = none → ∃ sl, h'.get? b = some { o with slots := sl }) (free : ∀ b o, b ∉ ch → s.heap.get? b = some o → H b = none → H' b = none)
    (there : ∀ b o, b ∉ ch → s.heap.get? b = some o → ∃ o', h'.get? b = some o')
    (tups : ∀ b xs, H b = some (.tup xs) → H' b = some (.tup xs)) (frzs : ∀ b o u, H b = some (.frz o u) → H' b = some (.frz o u)) (tbls : ∀ b ps, H b = some (.tbl ps) → ∃ more, H' b = some (.tbl (ps ++ more)))
    (ns : ∀ m, s.heap.Ns X.env.locals m → h'.Ns X.env.locals m) (hok : HOk X.prog X.w H' h') (hg : AllBare g') :
    Inv X pins σ H' { s with heap := h', gens := g', drawn := d', toks := t' } := by
  have neL : ∀ b o, X.s_0.heap.get? b = some o → b ≠ X.env.locals := fun b o e => Nat.ne_of_lt (Nat.lt_of_lt_of_le (Heap.lt_size e) I.ok.above)
  have neC : ∀ b o, X.s_0.heap.get? b = some o → b ∉ X.ex → b ∉ ch := fun b o e hx hb => by
    rcases (hch b hb).1 with z | z
    · exact hx z
    · exact absurd (Nat.lt_of_lt_of_le (Heap.lt_size e) z) (Nat.lt_irrefl _)
  have cellK : ∀ x c, X.env.cells.lookup x = some c → ∀ v, s.heap.IsCell c v → h'.IsCell c v := fun x c e v ⟨o, ho, hd⟩ => by
    have nch : c ∉ ch := fun z => (hch c z).2.2.1 x c e rfl
    by_cases hc : c ∈ X.fs
    · obtain ⟨sl, q⟩ := slot c o (I.cne x c e) hc nch ho (I.freeC x c e)
      exact ⟨_, q, hd⟩
    · exact ⟨o, keep c o (I.cne x c e) hc nch ho (I.freeC x c e), hd⟩
  refine ⟨I.ok, I.os, hg, ⟨fun b o e n hb hx => ?_, fun b o e n hb hx => ?_, fun b o e n hx => ?_, fun b o e hx => ?_, fun b xs e => tups b xs (I.base.tups b xs e), fun b o xs e => frzs b o xs (I.base.frzs b o xs e), fun b ps e => ?_⟩, ?_, fun x c e => ?_, ?_, fun x c e => ?_, fun p hp => ?_, hok, I.len⟩
  · exact keep b o (neL b o e) hb (neC b o e hx) (I.base.keep b o e n hb hx) (I.base.free b o e n hx)
  · obtain ⟨sl, e1⟩ := I.base.slot b o e n hb hx
    obtain ⟨sl', e2⟩ := slot b _ (neL b o e) hb (neC b o e hx) e1 (I.base.free b o e n hx)
    exact ⟨sl', e2⟩
  · obtain ⟨o', e1⟩ := I.base.there b o e hx
    exact free b o' (neC b o e hx) e1 (I.base.free b o e n hx)
  · obtain ⟨o', e1⟩ := I.base.there b o e hx
    exact there b o' (neC b o e hx) e1
  · obtain ⟨m1, e1⟩ := I.base.tbls b ps e
    obtain ⟨m2, e2⟩ := tbls b _ e1
    exact ⟨m1 ++ m2, by rw [e2, Array.append_assoc]⟩
  · obtain ⟨m, hn, hl⟩ := I.loc
    refine ⟨m, ns m hn, fun i x v e1 e2 e3 => ?_⟩
    obtain ⟨u, r, l⟩ := hl i x v e1 e2 e3
    refine ⟨u, r, ?_⟩
    rcases l with l | ⟨k, c, e, z⟩
    · exact .inl l
    · exact .inr ⟨k, c, e, cellK x c e _ z⟩
  · obtain ⟨v, z⟩ := I.cell x c e
    exact ⟨v, cellK x c e v z⟩
  · obtain ⟨m, ⟨o, _, _, ho, _⟩, _⟩ := I.loc
    exact free _ o (fun z => (hch _ z).2.1 rfl) ho I.free
  · obtain ⟨v, o, ho, hd⟩ := I.cell x c e
    exact free c o (fun z => (hch c z).2.2.1 x c e rfl) ho (I.freeC x c e)
  · obtain ⟨e, n, ne, nf, d⟩ := I.pin p hp
    have nch : p.1 ∉ ch := fun z => (hch p.1 z).2.2.2 p hp rfl
    exact ⟨keep p.1 p.2 ne nf nch e n, free p.1 p.2 nch e n, ne, nf, d⟩
/-- .. where the frame's own object is kept too -/
theorem Inv.un {t' : Nat} (I : Inv X pins σ H s) (u : Un X.fs [] H H' s.heap h') (hok : HOk X.prog X.w H' h') : Inv X pins σ H' { s with heap := h', toks := t' } := by
  obtain ⟨m, ⟨o, es, ep, ho, r⟩, _⟩ := id I.loc
  obtain ⟨sl, hL⟩ := u.any ho I.free (by simp)
  exact I.step (g' := s.gens) (d' := s.drawn) (ch := []) (fun _ z => nomatch z) (fun b o _ hb _ e n => u.keep b o e n hb (by simp)) (fun b o _ hb _ e n => u.slot b o e n hb (by simp)) (fun b o _ e n => u.free b o e n (by simp)) (fun b o _ e => u.there b o e (by simp)) u.tups u.frzs u.tbls (fun m' hm => by
    obtain ⟨o', es', ep', ho', r'⟩ := hm
    rw [ho] at ho'; cases ho'
    exact ⟨_, es', ep', hL, r'⟩) hok I.bare
/-- behind a call (or a comprehension's block): the slots of this frame may have changed too, the records at ch may have turned -/
theorem Inv.call {g' : Array GenState} {t' : Nat} {d' : Drawn} {ch : List Addr} (I : Inv X pins σ H s) (u : Un (frs X.stack) ch H H' s.heap h') (hok : HOk X.prog X.w H' h') (hg : AllBare g')
    (hch : ∀ b ∈ ch, (b ∈ X.ex ∨ X.s_0.heap.objs.size ≤ b) ∧ b ≠ X.env.locals ∧ (∀ x c, X.env.cells.lookup x = some c → c ≠ b) ∧ ∀ p ∈ X.pn ++ pins, p.1 ≠ b) :
    Inv X pins σ H' { s with heap := h', gens := g', drawn := d', toks := t' } := by
  obtain ⟨m, ⟨o, es, ep, ho, r⟩, _⟩ := id I.loc
  obtain ⟨sl, hL⟩ := u.any ho I.free fun z => (hch _ z).2.1 rfl
  exact I.step (ch := ch) hch (fun b o hL hb hc e n => u.keep b o e n (fun z => (List.mem_cons.mp (I.stkSub b z)).elim hL hb) hc) (fun b o _ _ hc e n => u.any e n hc) (fun b o hc e n => u.free b o e n hc) (fun b o hc e => u.there b o e hc) u.tups u.frzs u.tbls (fun m' hm => by
    obtain ⟨o', es', ep', ho', r'⟩ := hm
    rw [ho] at ho'; cases ho'
    exact ⟨_, es', ep', hL, r'⟩) hok hg
/-- an untracked record of ours (an iterator) has turned -/
theorem Inv.turned {t' : Nat} {it : Addr} (I : Inv X pins σ H s) (k : ∀ b o, b ≠ it → s.heap.get? b = some o → h'.get? b = some o) (hn : H it = none) (hL : it ≠ X.env.locals)
    (h1 : it ∈ X.ex ∨ X.s_0.heap.objs.size ≤ it) (h2 : ∀ x c, X.env.cells.lookup x = some c → c ≠ it) (h3 : ∀ p ∈ X.pn ++ pins, p.1 ≠ it) : Inv X pins σ H { s with heap := h', toks := t' } := by
  have nit : ∀ b u, H b = some u → b ≠ it := fun b u e z => by rw [z, hn] at e; cases e
  refine I.step (g' := s.gens) (d' := s.drawn) (ch := [it]) (fun b hb => ?_) (fun b o _ _ hc e _ => k b o (fun z => hc (by simp [z])) e) (fun b o _ _ hc e _ => ⟨o.slots, k b o (fun z => hc (by simp [z])) e⟩) (fun _ _ _ _ n => n)
    (fun b o hc e => ⟨o, k b o (fun z => hc (by simp [z])) e⟩) (fun _ _ e => e) (fun _ _ _ e => e) (fun b ps e => ⟨#[], by rw [e]; simp⟩) (fun m hm => ?_) (fun b u e => ?_) I.bare
  · have e : b = it := by simpa using hb
    subst e
    exact ⟨h1, hL, h2, h3⟩
  · obtain ⟨o, es, ep, ho, r⟩ := hm
    exact ⟨o, es, ep, k _ o (Ne.symm hL) ho, r⟩
  · refine (I.hok b u e).stay (fun c v hc q => k c v ?_ q) (fun _ q => q) fun _ _ q => q
    rcases hc with z | z
    · rw [z]; exact nit b u e
    · exact nit c _ z
theorem Inv.tok (I : Inv X pins σ H s) (t : Nat) : Inv X pins σ H { s with toks := t } := I.un (h' := s.heap) (t' := t) Un.refl I.hok
/-- all objects kept -/
theorem Inv.kept {t' : Nat} (I : Inv X pins σ H s) (k : ∀ b u, s.heap.get? b = some u → h'.get? b = some u) : Inv X pins σ H { s with heap := h', toks := t' } := I.un (Un.kept k) (I.hok.kept k)
/-- a new object laid and tracked -/
theorem Inv.laid {a : Addr} {o : HO} {t' : Nat} (I : Inv X pins σ H s) (k : ∀ b u, s.heap.get? b = some u → h'.get? b = some u) (hp : s.heap.objs.size ≤ a) (new : ObjOk X.prog X.w (upd H a o) h' a o) :
    Inv X pins σ (upd H a o) { s with heap := h', toks := t' } := I.un (Un.laid k hp (I.hok.fresh hp)) (I.hok.laid k hp new)
/-- an object written -/
theorem Inv.write {x e : Addr} {o : HO} {t' : Nat} (I : Inv X pins σ H s) (mu : Mut (H x)) (he : e = x ∨ H e = some (.own x)) (k : ∀ b u, b ≠ e → s.heap.get? b = some u → h'.get? b = some u) (heo : ∃ u, h'.get? e = some u)
    (new : ObjOk X.prog X.w (upd H x o) h' x o) : Inv X pins σ (upd H x o) { s with heap := h', toks := t' } := I.un (Un.write mu he k heo) (I.hok.write mu he k heo new)
/-- forgetting slots, pins -/
theorem Inv.weak {σ' : List (Option V)} (I : Inv X pins σ H s) (hl : σ'.length = σ.length) (w : ∀ (i : Nat) v, σ'[i]? = some (some v) → σ[i]? = some (some v)) : Inv X pins σ' H s :=
  ⟨I.ok, I.os, I.bare, I.base, let ⟨m, hn, hl'⟩ := I.loc; ⟨m, hn, fun i x v e1 e2 e3 => hl' i x v e1 (w i v e2) e3⟩, I.cell, I.free, I.freeC, I.pin, I.hok, hl.trans I.len⟩
theorem Inv.pins_of {pins' : List (Addr × Obj)} (I : Inv X pins σ H s) (h : ∀ p ∈ pins', s.heap.get? p.1 = some p.2 ∧ H p.1 = none ∧ p.1 ≠ X.env.locals ∧ p.1 ∉ X.fs ∧ ∀ v, p.2.data ≠ .cell v) : Inv X pins' σ H s :=
  ⟨I.ok, I.os, I.bare, I.base, I.loc, I.cell, I.free, I.freeC, fun p hp => (List.mem_append.mp hp).elim (fun z => I.pin p (List.mem_append_left _ z)) (h p), I.hok, I.len⟩

theorem nodup_ix {N : List Str} (hN : N.Nodup) {i j : Nat} {x : Str} (a : N[i]? = some x) (b : N[j]? = some x) : i = j := by
  obtain ⟨h1, e1⟩ := List.getElem?_eq_some_iff.mp a
  obtain ⟨h2, e2⟩ := List.getElem?_eq_some_iff.mp b
  exact (List.getElem_inj hN).mp (e1.trans e2.symm)

/-- a name is stored; what changed -/
theorem store_ok2 {M : Model} {A : Around} {E : Value → Shared → Prop} {i : Nat} {x : Str} {v : V} {u : Value} {Q : Unit → Shared → Prop} (I : Inv X pins σ H s) (hN : X.N.Nodup) (hi : X.N[i]? = some x) (hx : Loc X.env.scope x) (r : RelV v u)
    (h : ∀ s', Inv X pins (σ.set i (some v)) H s' → (∃ a, Heap.SameBut a s.heap s'.heap ∧ (a = X.env.locals ∨ X.env.cells.lookup x = some a)) → Q () s') (hf : X.fn x = true ∨ X.env.scope.names.lookup x = some .local := by first | exact .inl rfl | exact .inr rfl | assumption) : wpAny M A (storeName X.env x u) Q E s := by
  obtain ⟨m, hn, hl⟩ := id I.loc
  have hcls : (X.env.scope.kind == .class || (X.env.scope.kind == .module && X.env.locals != X.env.globals)) = false := by rw [I.ok.kind]; rfl
  have hiσ : i < σ.length := by rw [I.len]; exact (List.getElem?_eq_some_iff.mp hi).1
  have cne := I.cne
  have tracked : ∀ {a : Addr} {h' : Heap}, (∃ o, s.heap.get? a = some o ∧ H a = none) → Heap.SameBut a s.heap h' → HOk X.prog X.w H h' := fun {a h'} ha hs b ob e => by
    obtain ⟨_, _, hfree⟩ := ha
    refine (I.hok b ob e).stay (fun c w' hc q => (hs.2 c ?_).trans q) (fun _ q => q) fun _ _ q => q
    rintro rfl
    rcases hc with rfl | hc
    · rw [hfree] at e; cases e
    · rw [hfree] at hc; cases hc
  rcases hx with hk | hk
  · refine wpAny_storeName_local hk hn (fun h' hn' hs => ?_) hcls
    obtain ⟨oL, _, _, hoL, _⟩ := id hn
    refine h _ ⟨I.ok, I.os, I.bare, ⟨fun b o e n hb hx => ?_, fun b o e n hb hx => ?_, I.base.free, fun b o e hx => ?_, I.base.tups, I.base.frzs, I.base.tbls⟩, ⟨_, hn', fun j y v' e1 e2 e3 => ?_⟩, fun y c e => ?_, I.free, I.freeC, fun p hp => ?_, tracked ⟨oL, hoL, I.free⟩ hs, by simpa using I.len⟩ ⟨_, hs, .inl rfl⟩
    · exact (hs.2 b (Nat.ne_of_lt (Nat.lt_of_lt_of_le (Heap.lt_size e) I.ok.above))).trans (I.base.keep b o e n hb hx)
    · obtain ⟨sl, e1⟩ := I.base.slot b o e n hb hx
      exact ⟨sl, (hs.2 b (Nat.ne_of_lt (Nat.lt_of_lt_of_le (Heap.lt_size e) I.ok.above))).trans e1⟩
    · obtain ⟨o', e1⟩ := I.base.there b o e hx
      exact ⟨o', (hs.2 b (Nat.ne_of_lt (Nat.lt_of_lt_of_le (Heap.lt_size e) I.ok.above))).trans e1⟩
    · by_cases hj : j = i
      · subst hj
        rw [hi] at e1; cases e1
        rw [List.getElem?_set_self hiσ] at e2
        cases e2
        exact ⟨u, r, .inl ⟨hk, by simp⟩⟩
      · rw [List.getElem?_set_ne (Ne.symm hj)] at e2
        obtain ⟨u', r', q⟩ := hl j y v' e1 e2 e3
        refine ⟨u', r', ?_⟩
        rcases q with ⟨k, e⟩ | ⟨k, c, e, z⟩
        · refine .inl ⟨k, ?_⟩
          have : y ≠ x := fun e => hj (nodup_ix hN e1 (e ▸ hi))
          simp [this, e]
        · exact .inr ⟨k, c, e, z.sameBut hs (cne y c e)⟩
    · obtain ⟨w', z⟩ := I.cell y c e
      exact ⟨w', z.sameBut hs (cne y c e)⟩
    · obtain ⟨e, n, ne, nf, d⟩ := I.pin p hp
      exact ⟨(hs.2 p.1 ne).trans e, n, ne, nf, d⟩
  · have hfn : X.fn x = true := by
      rcases hf with z | z
      · exact z
      · rw [z] at hk; cases hk
    obtain ⟨c, hc⟩ := I.ok.has x (.inl hk)
    obtain ⟨w', z⟩ := I.cell x c hc
    refine wpAny_storeName_cell I.ok.kind hk hc z (fun h' hc' hs => ?_)
    obtain ⟨oc, hoc, hocd⟩ := id z
    refine h { s with heap := h' } ⟨I.ok, I.os, I.bare, ⟨fun b o e n hb hx => ?_, fun b o e n hb hx => ?_, I.base.free, fun b o e hx => ?_, I.base.tups, I.base.frzs, I.base.tbls⟩, ⟨m, hn.sameBut hs (Ne.symm (cne x c hc)), fun j y v' e1 e2 e3 => ?_⟩, fun y c' e => ?_, I.free, I.freeC, fun p hp => ?_, tracked ⟨oc, hoc, I.freeC x c hc⟩ hs, by simpa using I.len⟩ ⟨c, hs, .inr hc⟩
    · exact (hs.2 b (Nat.ne_of_lt (Nat.lt_of_lt_of_le (Heap.lt_size e) (I.ok.cab x c hfn hc)))).trans (I.base.keep b o e n hb hx)
    · obtain ⟨sl, e1⟩ := I.base.slot b o e n hb hx
      exact ⟨sl, (hs.2 b (Nat.ne_of_lt (Nat.lt_of_lt_of_le (Heap.lt_size e) (I.ok.cab x c hfn hc)))).trans e1⟩
    · obtain ⟨o', e1⟩ := I.base.there b o e hx
      exact ⟨o', (hs.2 b (Nat.ne_of_lt (Nat.lt_of_lt_of_le (Heap.lt_size e) (I.ok.cab x c hfn hc)))).trans e1⟩
    · by_cases hj : j = i
      · subst hj
        rw [hi] at e1; cases e1
        rw [List.getElem?_set_self hiσ] at e2
        cases e2
        exact ⟨u, r, .inr ⟨.inl hk, c, hc, hc'⟩⟩
      · rw [List.getElem?_set_ne (Ne.symm hj)] at e2
        obtain ⟨u', r', q⟩ := hl j y v' e1 e2 e3
        refine ⟨u', r', ?_⟩
        rcases q with q | ⟨k, c', e, z'⟩
        · exact .inl q
        · refine .inr ⟨k, c', e, z'.sameBut hs ?_⟩
          rintro rfl
          exact hj (nodup_ix hN e1 (I.ok.inj _ _ _ e hc ▸ hi))
    · by_cases hcc : c' = c
      · subst hcc; exact ⟨_, hc'⟩
      · obtain ⟨w2, z2⟩ := I.cell y c' e
        exact ⟨w2, z2.sameBut hs hcc⟩
    · obtain ⟨e, n, ne, nf, d⟩ := I.pin p hp
      refine ⟨(hs.2 p.1 ?_).trans e, n, ne, nf, d⟩
      intro q
      rw [q, hoc] at e
      have q' : oc = p.2 := Option.some.inj e
      exact d w' (by rw [← q']; exact hocd)
theorem store_ok {M : Model} {A : Around} {E : Value → Shared → Prop} {i : Nat} {x : Str} {v : V} {u : Value} {Q : Unit → Shared → Prop} (I : Inv X pins σ H s) (hN : X.N.Nodup) (hi : X.N[i]? = some x) (hx : Loc X.env.scope x) (r : RelV v u)
    (h : ∀ s', Inv X pins (σ.set i (some v)) H s' → Q () s') (hf : X.fn x = true ∨ X.env.scope.names.lookup x = some .local := by first | exact .inl rfl | exact .inr rfl | assumption) : wpAny M A (storeName X.env x u) Q E s :=
  store_ok2 I hN hi hx r (fun s' I' _ => h s' I') hf
/-- behind a call or a block, the state as it is -/
theorem Inv.call' {s' : Shared} {ch : List Addr} (I : Inv X pins σ H s) (ho : s'.os = s.os) (u : Un (frs X.stack) ch H H' s.heap s'.heap) (hok : HOk X.prog X.w H' s'.heap) (hg : AllBare s'.gens)
    (hch : ∀ b ∈ ch, (b ∈ X.ex ∨ X.s_0.heap.objs.size ≤ b) ∧ b ≠ X.env.locals ∧ (∀ x c, X.env.cells.lookup x = some c → c ≠ b) ∧ ∀ p ∈ X.pn ++ pins, p.1 ≠ b) : Inv X pins σ H' s' := by
  obtain ⟨h', g', d', t', o'⟩ := s'
  have e : o' = s.os := ho
  subst e
  exact I.call (g' := g') (t' := t') (d' := d') u hok hg hch
end

/-- an exception: its class, its own dict's address (where it has one), the abstract heap behind it -/
abbrev XK := Value → Option Addr → Hp → Prop
abbrev St := List (Option V)
abbrev VK := V → Hp → Prop
/-- an expression's reading; a test's; an argument list's -/
abbrev TE := St → Hp → VK → Prop
abbrev TT := St → Hp → (Bool → Hp → Prop) → Prop
abbrev TA := St → Hp → (List V → Hp → Prop) → Prop
/-- what is wanted behind a statement -/
structure Ends where
  nx : St → Hp → Prop
  rt : VK
  bk : St → Hp → Prop := fun _ _ => False
  ct : St → Hp → Prop := fun _ _ => False
abbrev TS := Ends → St → Hp → Prop

def EP (X : Cx) (pins : List (Addr × Obj)) (σ : St) (Q : VK) (u : Value) (s' : Shared) : Prop := ∃ v H', Inv X pins σ H' s' ∧ RelV v u ∧ Q v H'
def TP (X : Cx) (pins : List (Addr × Obj)) (σ : St) (Q : Bool → Hp → Prop) (b : Bool) (s' : Shared) : Prop := ∃ H', Inv X pins σ H' s' ∧ Q b H'
def AP (X : Cx) (pins : List (Addr × Obj)) (σ : St) (Q : List V → Hp → Prop) (us : List Value) (s' : Shared) : Prop := ∃ vs H', Inv X pins σ H' s' ∧ Vals vs us ∧ Q vs H'
def SP (X : Cx) (pins : List (Addr × Obj)) (D : Ends) (f : Flow) (s' : Shared) : Prop :=
  match f with
  | .next => ∃ σ' H', Inv X pins σ' H' s' ∧ D.nx σ' H'
  | .brk => ∃ σ' H', Inv X pins σ' H' s' ∧ D.bk σ' H'
  | .cont => ∃ σ' H', Inv X pins σ' H' s' ∧ D.ct σ' H'
  | .ret u => ∃ v σ' H', Inv X pins σ' H' s' ∧ RelV v u ∧ D.rt v H'

def PE (X : Cx) (e : Expr) (t : TE) : Prop :=
  ∀ (pins : List (Addr × Obj)) (s : Shared) (σ : St) (H : Hp) (Q : VK), Inv X pins σ H s → t σ H Q → wpAny (model X.prog X.w) X.A (eval e X.env) (EP X pins σ Q) X.xe s
def PT (X : Cx) (e : Expr) (t : TT) : Prop :=
  ∀ (pins : List (Addr × Obj)) (s : Shared) (σ : St) (H : Hp) (Q : Bool → Hp → Prop), Inv X pins σ H s → t σ H Q → wpAny (model X.prog X.w) X.A (isTrue e X.env (eval e X.env)) (TP X pins σ Q) X.xe s
/-- a test whatever its 'whole' is (and, or) -/
def PW (X : Cx) (e : Expr) (t : TT) : Prop :=
  ∀ (whole : Sem Value) (pins : List (Addr × Obj)) (s : Shared) (σ : St) (H : Hp) (Q : Bool → Hp → Prop), Inv X pins σ H s → t σ H Q → wpAny (model X.prog X.w) X.A (isTrue e X.env whole) (TP X pins σ Q) X.xe s
theorem PW.pt {X : Cx} {e : Expr} {t : TT} (h : PW X e t) : PT X e t := h _
/-- an argument list (no star), from the left -/
def PA (X : Cx) (es : List Expr) (t : TA) : Prop :=
  ∀ (pos : Pos) (pins : List (Addr × Obj)) (s : Shared) (σ : St) (H : Hp) (Q : List V → Hp → Prop), Inv X pins σ H s → t σ H Q → wpAny (model X.prog X.w) X.A (spliced (backTo pos (starEach es X.env))) (AP X pins σ Q) X.xe s
def PS (X : Cx) (st : Stmt) (t : TS) : Prop :=
  ∀ (pins : List (Addr × Obj)) (s : Shared) (σ : St) (H : Hp) (D : Ends), Inv X pins σ H s → t D σ H → wpAny (model X.prog X.w) X.A (exec st X.env) (SP X pins D) X.xe s
def PSs (X : Cx) (st : List Stmt) (t : TS) : Prop :=
  ∀ (pins : List (Addr × Obj)) (s : Shared) (σ : St) (H : Hp) (D : Ends), Inv X pins σ H s → t D σ H → wpAny (model X.prog X.w) X.A (execs st X.env) (SP X pins D) X.xe s
/-- weaken the end -/
theorem thn {α : Type} {t : Sem α} {Q Q' : α → Shared → Prop} {M : Model} {A : Around} {E : Value → Shared → Prop} {s : Shared} (h : wpAny M A t Q E s) (hQ : ∀ a s, Q a s → Q' a s) : wpAny M A t Q' E s := wpAny_mono h hQ fun _ _ x => x
end L2

namespace L2
open PySem PySem.Spec PyProof.Rows
section
variable {X : Cx}


def tVar (i : Nat) : TE := fun σ H Q => ∃ v, σ[i]? = some (some v) ∧ Q v H
def tC (v : V) : TE := fun _ H Q => Q v H
theorem pe_var {i : Nat} {x : Str} {pos : Pos} (hN : X.N[i]? = some x) (hv : Vis X.env.scope x) (hd : (x == ("__debug__" : Str)) = false := by decide) (hcd : (x == ("__classdict__" : Str)) = false := by decide) : PE X (.Name x pos) (tVar i) := by
  intro pins s σ H Q I h
  obtain ⟨v, e, h⟩ := h
  obtain ⟨m, hn, hl⟩ := I.loc
  obtain ⟨u, r, l⟩ := hl i x v hN e hv
  have fin : EP X pins σ Q u s := ⟨v, H, I, r, h⟩
  rcases l with ⟨hk, hm⟩ | ⟨hk, c, hc, hcell⟩
  · exact wpAny_Name (wpAny_loadName_local I.ok.kind hk hn hm fin) hd
  · rcases hk with hk | hk
    · exact wpAny_Name (wpAny_loadName_cell I.ok.kind hk hc hcell fin) hd
    · exact wpAny_Name (wpAny_loadName_free I.ok.kind hk hc hcell fin hcd) hd
theorem pe_int {i j pos} : PE X (.Constant (.int i) j pos) (tC (.int i)) := fun _ _ _ H _ I h => wpAny_Constant_int ⟨.int i, H, I.tok _, ⟨_, rfl⟩, h⟩
theorem pe_bl {b j pos} : PE X (.Constant (.bool b) j pos) (tC (.bl b)) := fun _ _ _ H _ I h => Constant_bool ⟨.bl b, H, I, rfl, h⟩
theorem pe_non {j pos} : PE X (.Constant .none j pos) (tC .non) := fun _ _ _ H _ I h => Constant_none ⟨.non, H, I, rfl, h⟩

/-- a global name of the def -/
def Gl (X : Cx) (x : Str) : Prop := X.env.kindOf x = some .globalImplicit
theorem ld_glob {E : Value → Shared → Prop} {pins : List (Addr × Obj)} {s : Shared} {σ : St} {H : Hp} {x : Str} {u : Value} {pos : Pos} {Q : Value → Shared → Prop} (I : Inv X pins σ H s) (hg : Gl X x) (hm : X.mg x = some u) (h : Q u s)
    (hd : (x == ("__debug__" : Str)) = false := by decide) : wpAny (model X.prog X.w) X.A (eval (.Name x pos) X.env) Q E s :=
  Calls.Name_function_global I.ok.kind hg (Calls.loadGlobal_global (by rw [I.ok.glob]; exact I.mod.glob.keeps I.bk) hm h) hd
theorem ld_blt {E : Value → Shared → Prop} {pins : List (Addr × Obj)} {s : Shared} {σ : St} {H : Hp} {x : Str} {u : Value} {pos : Pos} {Q : Value → Shared → Prop} (I : Inv X pins σ H s) (hg : Gl X x) (hm : X.mg x = none) (hv : bootBuiltins x = some u) (h : Q u s)
    (hn : x ≠ "__name__" := by decide) (hd : (x == ("__debug__" : Str)) = false := by decide) : wpAny (model X.prog X.w) X.A (eval (.Name x pos) X.env) Q E s := by
  obtain ⟨mb, h1, h2⟩ := I.mod.blt
  exact Calls.Name_function_global I.ok.kind hg (Calls.loadGlobal_builtin (by rw [I.ok.glob]; exact I.mod.glob.keeps I.bk) hm (by rw [I.ok.blt]; exact h1.keeps I.bk) ((h2 x hn).trans hv) h) hd
/-- a module's constant, a class, a function, as a value -/
theorem pe_glob {x : Str} {v : V} {u : Value} {pos : Pos} (hg : Gl X x) (hm : X.mg x = some u) (r : RelV v u) (hd : (x == ("__debug__" : Str)) = false := by decide) : PE X (.Name x pos) (tC v) :=
  fun _ _ _ H _ I h => ld_glob I hg hm ⟨v, H, I, r, h⟩ hd

variable {a b : Expr} {ta tb : TE} {pos : Pos}

/-- a comparison as a value, as a test -/
def tB (t : TE) : TT := fun σ H Q => t σ H fun x H1 => ∃ c, x = .bl c ∧ Q c H1
/-- an expression whose value is a bool, as a test -/
theorem pt_val {e : Expr} {t : TE} (h : PE X e t) (he : ∀ whole, isTrue e X.env whole = (do let v ← whole; standAt e.pos; holding [v] (truthy v)) := by intro _; rfl) : PT X e (tB t) := by
  intro pins s σ H Q I hw
  refine isTrue_plain (thn (h pins s σ H _ I hw) fun v s1 ⟨x, H1, I1, r1, q1⟩ => ?_) (he _)
  obtain ⟨d, rfl, q⟩ := q1
  cases r1
  exact wpAny_truthy_bool ⟨H1, I1, q⟩

variable {tA tB' : TT} {rest : List Expr}
def tAnd (t u : TT) : TT := fun σ H Q => t σ H fun c H1 => if c = true then u σ H1 Q else Q false H1
def tOr (t u : TT) : TT := fun σ H Q => t σ H fun c H1 => if c = true then Q true H1 else u σ H1 Q
def tNot (t : TT) : TT := fun σ H Q => t σ H fun c H1 => Q (!c) H1
theorem pw_and1 (ha : PT X a tA) : PW X (.BoolOp .And [a] pos) tA := by
  intro wh pins s σ H Q I h
  refine isTrue_and (thn (ha pins s σ H Q I h) fun c s1 e => ?_)
  cases c with
  | true => exact isTrue_and_nil e
  | false => exact e
theorem pw_or1 (ha : PT X a tA) : PW X (.BoolOp .Or [a] pos) tA := by
  intro wh pins s σ H Q I h
  refine isTrue_or (thn (ha pins s σ H Q I h) fun c s1 e => ?_)
  cases c with
  | false => exact isTrue_or_nil e
  | true => exact e
theorem pw_and (ha : PT X a tA) (hb : PW X (.BoolOp .And (b :: rest) pos) tB') : PW X (.BoolOp .And (a :: b :: rest) pos) (tAnd tA tB') := by
  intro wh pins s σ H Q I h
  refine isTrue_and (thn (ha pins s σ H _ I h) fun c s1 ⟨H1, I1, q1⟩ => ?_)
  cases c with
  | true => exact hb wh pins s1 σ H1 Q I1 q1
  | false => exact ⟨H1, I1, q1⟩
theorem pw_or (ha : PT X a tA) (hb : PW X (.BoolOp .Or (b :: rest) pos) tB') : PW X (.BoolOp .Or (a :: b :: rest) pos) (tOr tA tB') := by
  intro wh pins s σ H Q I h
  refine isTrue_or (thn (ha pins s σ H _ I h) fun c s1 ⟨H1, I1, q1⟩ => ?_)
  cases c with
  | true => exact ⟨H1, I1, q1⟩
  | false => exact hb wh pins s1 σ H1 Q I1 q1
theorem pt_not (ha : PT X a tA) : PT X (.UnaryOp .Not a pos) (tNot tA) := by
  intro pins s σ H Q I h
  exact isTrue_not (ha pins s σ H (fun c H1 => Q (!c) H1) I h)
/-- .. as values (bools) -/
def tAndV (ta tb : TE) : TE := fun σ H Q => ta σ H fun x H1 => ∃ c, x = .bl c ∧ if c = true then tb σ H1 Q else Q (.bl false) H1
def tOrV (ta tb : TE) : TE := fun σ H Q => ta σ H fun x H1 => ∃ c, x = .bl c ∧ if c = true then Q (.bl true) H1 else tb σ H1 Q
theorem pe_one {op} {t : TE} (h : PE X a t) : PE X (.BoolOp op [a] pos) t := fun pins s σ H Q I hw => BoolOp_one (h pins s σ H Q I hw)
theorem pe_and (ha : PE X a ta) (hb : PE X (.BoolOp .And (b :: rest) pos) tb) : PE X (.BoolOp .And (a :: b :: rest) pos) (tAndV ta tb) := by
  intro pins s σ H Q I h
  refine BoolOp_and (thn (ha pins s σ H _ I h) fun v s1 ⟨x, H1, I1, r1, q1⟩ => ?_)
  obtain ⟨c, rfl, q1⟩ := q1
  cases r1
  refine wpAny_truthy_bool ?_
  cases c with
  | true => exact hb pins s1 σ H1 Q I1 q1
  | false => exact ⟨.bl false, H1, I1, rfl, q1⟩
theorem pe_or (ha : PE X a ta) (hb : PE X (.BoolOp .Or (b :: rest) pos) tb) : PE X (.BoolOp .Or (a :: b :: rest) pos) (tOrV ta tb) := by
  intro pins s σ H Q I h
  refine BoolOp_or (thn (ha pins s σ H _ I h) fun v s1 ⟨x, H1, I1, r1, q1⟩ => ?_)
  obtain ⟨c, rfl, q1⟩ := q1
  cases r1
  refine wpAny_truthy_bool ?_
  cases c with
  | false => exact hb pins s1 σ H1 Q I1 q1
  | true => exact ⟨.bl true, H1, I1, rfl, q1⟩
/-- a if t else b -/
def tIf (t : TT) (ta tb : TE) : TE := fun σ H Q => t σ H fun c H1 => if c = true then ta σ H1 Q else tb σ H1 Q
theorem pe_ifExp {c : Expr} (hc : PT X c tA) (ha : PE X a ta) (hb : PE X b tb) : PE X (.IfExp c a b pos) (tIf tA ta tb) := by
  intro pins s σ H Q I h
  refine wpAny_IfExp (thn (hc pins s σ H _ I h) fun d s1 ⟨H1, I1, q1⟩ => ?_)
  cases d with
  | true => exact ha pins s1 σ H1 Q I1 q1
  | false => exact hb pins s1 σ H1 Q I1 q1
end
end L2

namespace L2
open PySem PySem.Spec PyProof.Rows

def SqL (K : PySem.W.Frag) (H : Hp) (a : Addr) (xs : List V) : Prop :=
  Rd H a (.lst xs) ∨
    ∃ (o : Obj) (its : Array Value) (n : Nat), K.lookup a = some o ∧ o.cls = .type "list" ∧ o.dict = none ∧ o.data = .seq its n ∧ its.size ≤ sizeLine ∧ Vals xs its.toList
def SqT (K : PySem.W.Frag) (H : Hp) (a : Addr) (xs : List V) : Prop :=
  Rd H a (.tup xs) ∨
    ∃ (o : Obj) (its : Array Value) (n : Nat), K.lookup a = some o ∧ o.cls = .type "tuple" ∧ o.data = .seq its n ∧ its.size ≤ sizeLine ∧ Vals xs its.toList
def absV : Value → Option V
  | .none => some .non
  | .bool b => some (.bl b)
  | .int i _ => some (.int i)
  | .str x _ => some (.str x)
  | .bytes b _ => some (.byt b)
  | .float b _ => some (.flt b)
  | .ref a => some (.ref a)
  | .type n => some (.ty n)
  | _ => none
theorem RelV.abs {x : V} {u : Value} (r : RelV x u) : absV u = some x := by
  cases x with
  | non => cases r; rfl
  | bl _ => cases r; rfl
  | int _ => obtain ⟨t, rfl⟩ := r; rfl
  | str _ => obtain ⟨t, rfl⟩ := r; rfl
  | byt _ => obtain ⟨t, rfl⟩ := r; rfl
  | flt _ => obtain ⟨t, rfl⟩ := r; rfl
  | ref _ => cases r; rfl
  | ty _ => cases r; rfl
theorem RelV.inj {x y : V} {u : Value} (r : RelV x u) (q : RelV y u) : x = y := Option.some.inj (r.abs.symm.trans q.abs)
theorem Vals.inj : ∀ {xs ys : List V} {us : List Value}, Vals xs us → Vals ys us → xs = ys
  | _, _, _, .nil, .nil => rfl
  | _, _, _, .cons r t, .cons r' t' => by rw [r.inj r', Vals.inj t t']
section
variable {X : Cx} {pins : List (Addr × Obj)} {σ : St} {H : Hp} {s : Shared} {a : Addr} {xs ys : List V}
theorem SqL.of {K : PySem.W.Frag} (h : H a = some (.lst xs)) : SqL K H a xs := .inl (.inl h)
theorem SqT.of {K : PySem.W.Frag} (h : H a = some (.tup xs)) : SqT K H a xs := .inl (.inl h)
theorem Inv.list (I : Inv X pins σ H s) (h : SqL X.K H a xs) : ∃ its : List Value, Vals xs its ∧ PlainL s.heap a its.toArray ∧ xs.length ≤ sizeLine := by
  rcases h with h | ⟨o, its, n, hk, hc, hd, hs, hz, r⟩
  · obtain ⟨z, its, n, r, e⟩ := h.ok I.hok
    exact ⟨its, r, ⟨_, n, e, rfl, rfl, rfl⟩, z⟩
  · refine ⟨its.toList, r, ⟨o, n, I.kIn a o hk, hc, hd, by simpa using hs⟩, ?_⟩
    have e := r.length
    simp only [Array.length_toList] at e
    omega
theorem Inv.tuple (I : Inv X pins σ H s) (h : SqT X.K H a xs) : ∃ its : List Value, Vals xs its ∧ IsTup s.heap a its.toArray ∧ xs.length ≤ sizeLine := by
  rcases h with h | ⟨o, its, n, hk, hc, hs, hz, r⟩
  · obtain ⟨z, its, r, p⟩ := h.ok I.hok
    exact ⟨its, r, p, z⟩
  · refine ⟨its.toList, r, ⟨o, I.kIn a o hk, hc, n, by simpa using hs⟩, ?_⟩
    have e := r.length
    simp only [Array.length_toList] at e
    omega
theorem Inv.list_inj (I : Inv X pins σ H s) (h : SqL X.K H a xs) (h' : SqL X.K H a ys) : xs = ys := by
  obtain ⟨its, r, ⟨o, n, e, _, _, d⟩, _⟩ := I.list h
  obtain ⟨its', r', ⟨o', n', e', _, _, d'⟩, _⟩ := I.list h'
  rw [e] at e'; cases e'
  rw [d] at d'
  injection d' with d1 _
  have : its = its' := by simpa using congrArg Array.toList d1
  subst this
  exact r.inj r'
end

abbrev Cx.wish (X : Cx) (E : Value → Shared → Prop) : Cx := { X with xe := E }
/-- no exception leaves -/
abbrev Cx.nox (X : Cx) : Cx := X.wish fun _ _ => False
theorem Cx.Ok.wish {X : Cx} (ok : X.Ok) (E : Value → Shared → Prop) : (X.wish E).Ok :=
  ⟨ok.mod, ok.kind, ok.glob, ok.blt, ok.above, ok.inj, ok.has, ok.cab, ok.hd, ok.frames, ok.stk, ok.exf, ok.bs, ok.bsz, ok.noex, ok.exfs, ok.funs, ok.frf⟩
theorem Cx.Ok.unwish {X : Cx} {E : Value → Shared → Prop} (ok : (X.wish E).Ok) : X.Ok :=
  ⟨ok.mod, ok.kind, ok.glob, ok.blt, ok.above, ok.inj, ok.has, ok.cab, ok.hd, ok.frames, ok.stk, ok.exf, ok.bs, ok.bsz, ok.noex, ok.exfs, ok.funs, ok.frf⟩
section
variable {X : Cx} {pins : List (Addr × Obj)} {σ : St} {H : Hp} {s : Shared} {E : Value → Shared → Prop}
theorem Inv.wish (I : Inv X pins σ H s) (E : Value → Shared → Prop) : Inv (X.wish E) pins σ H s := ⟨I.ok.wish E, I.os, I.bare, I.base, I.loc, I.cell, I.free, I.freeC, I.pin, I.hok, I.len⟩
theorem Inv.unwish (I : Inv (X.wish E) pins σ H s) : Inv X pins σ H s := ⟨I.ok.unwish, I.os, I.bare, I.base, I.loc, I.cell, I.free, I.freeC, I.pin, I.hok, I.len⟩
theorem SP.unwish {D : Ends} {f : Flow} {s' : Shared} (h : SP (X.wish E) pins D f s') : SP X pins D f s' := by
  cases f with
  | next => obtain ⟨σ', H', I, q⟩ := h; exact ⟨σ', H', I.unwish, q⟩
  | brk => obtain ⟨σ', H', I, q⟩ := h; exact ⟨σ', H', I.unwish, q⟩
  | cont => obtain ⟨σ', H', I, q⟩ := h; exact ⟨σ', H', I.unwish, q⟩
  | ret u => obtain ⟨v, σ', H', I, r, q⟩ := h; exact ⟨v, σ', H', I.unwish, r, q⟩
theorem PSs.nox {st : List Stmt} {t : TS} (h : PSs X.nox st t) : PSs X st t := fun pins s σ H D I hw =>
  wpAny_mono (h pins s σ H D (I.wish _) hw) (fun _ _ q => q.unwish) fun _ _ z => False.elim z
end

section
variable {X : Cx} {st : Stmt} {rest : List Stmt} {t u : TS} {e : Expr} {te : TE} {pos : Pos}
def tNext : TS := fun D σ H => D.nx σ H
def tSeq (t u : TS) : TS := fun D σ H => t { D with nx := u D } σ H
theorem pss_nil : PSs X [] tNext := fun _ _ σ H _ I h => wpAny_execs_nil ⟨σ, H, I, h⟩
theorem pss_cons (h1 : PS X st t) (h2 : PSs X rest u) : PSs X (st :: rest) (tSeq t u) := by
  intro pins s σ H D I h
  refine wpAny_execs_cons (thn (h1 pins s σ H { D with nx := u D } I h) fun f s1 q => ?_)
  cases f with
  | next =>
    obtain ⟨σ', H', I', q⟩ := q
    exact h2 pins s1 σ' H' D I' q
  | ret v => exact q
  | brk => exact q
  | cont => exact q
theorem pss_one (h1 : PS X st t) : PSs X [st] t := by
  intro pins s σ H D I h
  refine wpAny_execs_cons (thn (h1 pins s σ H D I h) fun f s1 q => ?_)
  cases f with
  | next => exact wpAny_execs_nil q
  | ret v => exact q
  | brk => exact q
  | cont => exact q
/-- in a def's body nothing is shown -/
theorem Inv.quiet {pins : List (Addr × Obj)} {σ : St} {H : Hp} {s : Shared} (I : Inv X pins σ H s) : interactive X.env = false := by simp [interactive, I.ok.kind]
/-- an expression whose value is dropped -/
def tDrop (te : TE) : TS := fun D σ H => te σ H fun _ H1 => D.nx σ H1
theorem ps_expr (he : PE X e te) (hs : swapsWith e none pos.line X.env = pure false := by rfl) : PS X (.Expr e pos) (tDrop te) := by
  intro pins s σ H D I h
  exact wpAny_Expr_any (thn (he pins s σ H _ I h) fun v s1 ⟨x, H1, I1, r1, q1⟩ => ⟨σ, H1, I1, q1⟩) I.quiet hs
def tRet (te : TE) : TS := fun D σ H => te σ H D.rt
theorem ps_ret (he : PE X e te) : PS X (.Return (some e) pos) (tRet te) := by
  intro pins s σ H D I h
  exact wpAny_Return_some (thn (he pins s σ H _ I h) fun v s1 ⟨x, H1, I1, r1, q1⟩ => ⟨x, σ, H1, I1, r1, q1⟩)
def tIfS (c : TT) (t u : TS) : TS := fun D σ H => c σ H fun b H1 => if b = true then t D σ H1 else u D σ H1
theorem ps_if {c : Expr} {a b : List Stmt} {tc : TT} (hc : PT X c tc) (ha : PSs X a t) (hb : PSs X b u) : PS X (.If c a b pos) (tIfS tc t u) := by
  intro pins s σ H D I h
  refine wpAny_If (thn (hc pins s σ H _ I h) fun d s1 ⟨H1, I1, q1⟩ => ?_)
  cases d with
  | true => exact ha pins s1 σ H1 D I1 q1
  | false => exact hb pins s1 σ H1 D I1 q1
end

abbrev TG := V → St → Hp → (St → Hp → Prop) → Prop
abbrev TGs := List V → St → Hp → (St → Hp → Prop) → Prop
def PG (X : Cx) (target : Expr) (t : TG) : Prop :=
  ∀ (pins : List (Addr × Obj)) (s : Shared) (σ : St) (H : Hp) (v : V) (u : Value) (Q : St → Hp → Prop), Inv X pins σ H s → RelV v u → t v σ H Q →
    wpAny (model X.prog X.w) X.A (assign target X.env u) (fun _ s' => ∃ σ' H', Inv X pins σ' H' s' ∧ Q σ' H') X.xe s
/-- several targets, one after another -/
def PGs (X : Cx) (ts : List Expr) (t : TGs) : Prop :=
  ∀ (pins : List (Addr × Obj)) (s : Shared) (σ : St) (H : Hp) (vs : List V) (us : List Value) (Q : St → Hp → Prop), Inv X pins σ H s → Vals vs us → t vs σ H Q →
    wpAny (model X.prog X.w) X.A (assignInOrder ((assignEach ts X.env).map (·.2)) us) (fun _ s' => ∃ σ' H', Inv X pins σ' H' s' ∧ Q σ' H') X.xe s
/-- o[i] = v, by values -/
abbrev TSet := V → V → V → Hp → (Hp → Prop) → Prop
def PSet (X : Cx) (t : TSet) : Prop :=
  ∀ (pins : List (Addr × Obj)) (s : Shared) (σ : St) (H : Hp) (o i v : V) (ov iv u : Value) (Q : Hp → Prop), Inv X pins σ H s → RelV o ov → RelV i iv → RelV v u → t o i v H Q →
    wpAny (model X.prog X.w) X.A (setItem ov iv u) (fun _ s' => ∃ H', Inv X pins σ H' s' ∧ Q H') X.xe s
/-- a op= b, by values -/
abbrev TIp := V → V → Hp → VK → Prop
def PIp (X : Cx) (op : Operator) (t : TIp) : Prop :=
  ∀ (pins : List (Addr × Obj)) (s : Shared) (σ : St) (H : Hp) (x y : V) (v u : Value) (Q : VK), Inv X pins σ H s → RelV x v → RelV y u → t x y H Q →
    wpAny (model X.prog X.w) X.A (inplaceOp op v u) (EP X pins σ Q) X.xe s
section
variable {X : Cx} {pos : Pos}
def gName (i : Nat) : TG := fun v σ H Q => Q (σ.set i (some v)) H
theorem pg_name {i : Nat} {x : Str} (hN : X.N.Nodup) (hi : X.N[i]? = some x) (hx : Loc X.env.scope x) (hf : X.fn x = true ∨ X.env.scope.names.lookup x = some .local := by first | exact .inl rfl | exact .inr rfl | assumption) : PG X (.Name x pos) (gName i) := by
  intro pins s σ H v u Q I r h
  exact wpAny_assign_Name (store_ok I hN hi hx r (fun s' I' => ⟨_, H, I', h⟩) hf)
def gNil : TGs := fun vs σ H Q => vs = [] ∧ Q σ H
def gCons (t : TG) (u : TGs) : TGs := fun vs σ H Q => ∃ v r, vs = v :: r ∧ t v σ H fun σ' H' => u r σ' H' Q
theorem pgs_nil : PGs X [] gNil := by
  intro pins s σ H vs us Q I r h
  obtain ⟨e, h⟩ := h
  subst e
  cases r
  exact assignInOrder_nil ⟨σ, H, I, h⟩
theorem pgs_cons {e : Expr} {es : List Expr} {t : TG} {u : TGs} (h1 : PG X e t) (h2 : PGs X es u)
    (hs : (assignEach (e :: es) X.env).map (·.2) = assign e X.env :: (assignEach es X.env).map (·.2) := by rfl) : PGs X (e :: es) (gCons t u) := by
  intro pins s σ H vs us Q I r h
  obtain ⟨v, vr, e1, h⟩ := h
  subst e1
  cases r with
  | cons r rr =>
    rw [hs]
    refine assignInOrder_cons (thn (h1 pins s σ H _ _ _ I r h) fun _ s1 ⟨σ1, H1, I1, q1⟩ => ?_)
    exact h2 pins s1 σ1 H1 _ _ Q I1 rr q1
/-- (a, b, ..) = a tuple of that length -/
def gTup (K : PySem.W.Frag) (n : Nat) (t : TGs) : TG := fun v σ H Q => ∃ a xs, v = .ref a ∧ SqT K H a xs ∧ xs.length = n ∧ t xs σ H Q
theorem pg_tup {es : List Expr} {k : Nat} {t : TGs} {n : Nat} (hc : X.calm = true) (h : PGs X es t)
    (hn : (assignEach es X.env).length = n := by rfl) (hst : (assignEach es X.env).findIdx? (·.1) = none := by rfl) : PG X (.Tuple es k pos) (gTup X.K n t) := by
  intro pins s σ H v u Q I r hw
  obtain ⟨a, xs, e1, hq, hl, hw⟩ := hw
  subst e1
  cases r
  obtain ⟨its, rv, ht, hz⟩ := I.tuple hq
  refine assign_Tuple_tuple (I.ok.hd hc) ht (by simp [hn, ← hl, rv.length]) hst fun h' hx => ?_
  have I1 : Inv X pins σ H { s with heap := h' } := I.kept (t' := s.toks) fun b o e => hx b o (Nat.ne_of_lt (Heap.lt_size e)) e
  exact h pins _ σ H xs _ Q I1 (by simpa using rv) hw
/-- o[i] = .. -/
def gSub (to ti : TE) (t : TSet) : TG := fun v σ H Q => to σ H fun o H1 => ti σ H1 fun i H2 => t o i v H2 fun H3 => Q σ H3
theorem pg_sub {o i : Expr} {to ti : TE} {t : TSet} (ho : PE X o to) (hi : PE X i ti) (hs : PSet X t)
    (ha : ∀ v, assign (.Subscript o i pos) X.env v = (do
      let ov ← holding [v] (eval o X.env)
      let iv ← holding [v, ov] (eval i X.env)
      standAt pos
      holding [v, ov, iv] (setItem ov iv v)
      release [v, ov, iv] []) := by intro _; rfl) : PG X (.Subscript o i pos) (gSub to ti t) := by
  intro pins s σ H v u Q I r h
  rw [ha]
  refine wpAny_bind (wpAny_holding (thn (ho pins s σ H _ I h) fun ov s1 ⟨x, H1, I1, r1, q1⟩ => ?_))
  refine wpAny_bind (wpAny_holding (thn (hi pins s1 σ H1 _ I1 q1) fun iv s2 ⟨y, H2, I2, r2, q2⟩ => ?_))
  refine wpAny_bind (wpAny_standAt (wpAny_bind (wpAny_holding (thn (hs pins s2 σ H2 x y v ov iv u _ I2 r1 r2 r q2) fun _ s3 ⟨H3, I3, q3⟩ => ?_))))
  exact wpAny_release ⟨σ, H3, I3, q3⟩
/-- target = value -/
def tAsg (te : TE) (g : TG) : TS := fun D σ H => te σ H fun x H1 => g x σ H1 D.nx
theorem ps_asg {tg e : Expr} {te : TE} {g : TG} (he : PE X e te) (hg : PG X tg g) (hs : swapsWithSole [tg] e pos.line X.env = pure false := by rfl) (hw : swappedStores [tg] e X.env = pure none := by rfl)
    (h1 : (assignEach [tg] X.env).map (·.2) = [assign tg X.env] := by rfl) : PS X (.Assign [tg] e pos) (tAsg te g) := by
  intro pins s σ H D I h
  refine wpAny_Assign_stores (thn (he pins s σ H _ I h) fun v s1 ⟨x, H1, I1, r1, q1⟩ => ?_) hs hw
  rw [h1]
  exact thn (hg pins s1 σ H1 x v _ I1 r1 q1) fun _ s2 q => q
/-- name = value -/
theorem ps_set {i : Nat} {x : Str} {e : Expr} {te : TE} {pos' : Pos} (hN : X.N.Nodup) (hi : X.N[i]? = some x) (hx : Loc X.env.scope x) (he : PE X e te) (hs : swapsWith e (some (.Name x pos')) pos.line X.env = pure false := by rfl) (hf : X.fn x = true ∨ X.env.scope.names.lookup x = some .local := by first | exact .inl rfl | exact .inr rfl | assumption) :
    PS X (.Assign [.Name x pos'] e pos) (tAsg te (gName i)) := by
  intro pins s σ H D I h
  refine wpAny_Assign_Name (thn (he pins s σ H _ I h) fun v s1 ⟨y, H1, I1, r1, q1⟩ => ?_) hs
  exact store_ok I1 hN hi hx r1 (fun s2 I2 => ⟨_, H1, I2, q1⟩) hf
/-- name op= e -/
def tAug (i : Nat) (te : TE) (ti : TIp) : TS := fun D σ H => ∃ x, σ[i]? = some (some x) ∧ te σ H fun y H1 => ti x y H1 fun z H2 => D.nx (σ.set i (some z)) H2
theorem ps_aug {i : Nat} {x : Str} {e : Expr} {te : TE} {op : Operator} {ti : TIp} {pos' : Pos} (hN : X.N.Nodup) (hi : X.N[i]? = some x) (hx : Loc X.env.scope x) (he : PE X e te) (ho : PIp X op ti) (hf : X.fn x = true ∨ X.env.scope.names.lookup x = some .local := by first | exact .inl rfl | exact .inr rfl | assumption) :
    PS X (.AugAssign (.Name x pos') op e pos) (tAug i te ti) := by
  intro pins s σ H D I h
  obtain ⟨v, e1, h⟩ := h
  obtain ⟨m, hn, hl⟩ := I.loc
  have vis : Vis X.env.scope x := by rcases hx with k | k; exact .inl k; exact .inr (.inl k)
  obtain ⟨u, r, l⟩ := hl i x v hi e1 vis
  refine wpAny_AugAssign_Name ?_
  have go : wpAny (model X.prog X.w) X.A (eval e X.env) (fun w s₂ => wpAny (model X.prog X.w) X.A (inplaceOp op u w) (fun r s₃ => wpAny (model X.prog X.w) X.A (storeName X.env x r) (fun _ => SP X pins D .next) X.xe s₃) X.xe s₂) X.xe s := by
    refine thn (he pins s σ H _ I h) fun w s1 ⟨y, H1, I1, r1, q1⟩ => ?_
    refine thn (ho pins s1 σ H1 v y u w _ I1 r r1 q1) fun z s2 ⟨zv, H2, I2, r2, q2⟩ => ?_
    exact store_ok I2 hN hi hx r2 (fun s3 I3 => ⟨_, H2, I3, q2⟩) hf
  rcases l with ⟨hk, hm⟩ | ⟨hk, c, hc, hcell⟩
  · exact wpAny_loadName_local I.ok.kind hk hn hm go
  · rcases hk with hk | hk
    · exact wpAny_loadName_cell I.ok.kind hk hc hcell go
    · rcases hx with k | k
      · have : X.env.scope.names.lookup x = some .free := hk
        rw [k] at this; cases this
      · have : X.env.scope.names.lookup x = some .free := hk
        rw [k] at this; cases this
end

section
variable {X : Cx} {pos : Pos}
/-- the invariant W with its measure -/
def tWhile (c : TT) (tb : TS) : TS := fun D σ H => ∃ W : Nat → St → Hp → Prop, (∃ m, W m σ H) ∧ ∀ m σ H, W m σ H →
  c σ H fun b H1 => if b = true then ∃ N : St → Hp → Prop, (∀ σ' H', N σ' H' → ∃ m', m' < m ∧ W m' σ' H') ∧ tb { D with nx := N, ct := N, bk := D.nx } σ H1 else D.nx σ H1
theorem ps_while {c : Expr} {body : List Stmt} {tc : TT} {tb : TS} (hp : PassesOwn (model X.prog X.w) X.A X.env X.xe) (hc : PT X c tc) (hb : PSs X body tb) : PS X (.While c body [] pos) (tWhile tc tb) := by
  intro pins s σ H D I h
  obtain ⟨W, ⟨m0, w0⟩, turn⟩ := h
  refine wpAny_While (codeAny_whileLoop (fun n s' => ∃ σ' H', Inv X pins σ' H' s' ∧ W n σ' H') ?_ m0 ⟨σ, H, I, w0⟩)
  rintro n s1 ⟨σ1, H1, I1, w1⟩
  refine wpAny_passesOwn hp (thn (hc pins s1 σ1 H1 _ I1 (turn n σ1 H1 w1)) fun b s2 ⟨H2, I2, q2⟩ => ?_)
  cases b with
  | true =>
    obtain ⟨N, hN, q2⟩ := q2
    rw [if_pos rfl]
    refine wpAny_passesOwn hp (thn (hb pins s2 σ1 H2 _ I2 q2) fun f s3 q3 => ?_)
    cases f with
    | next =>
      obtain ⟨σ3, H3, I3, n3⟩ := q3
      obtain ⟨m', hm, w3⟩ := hN σ3 H3 n3
      exact ⟨m', hm, σ3, H3, I3, w3⟩
    | cont =>
      obtain ⟨σ3, H3, I3, n3⟩ := q3
      obtain ⟨m', hm, w3⟩ := hN σ3 H3 n3
      exact ⟨m', hm, σ3, H3, I3, w3⟩
    | brk => exact q3
    | ret v => exact q3
  | false =>
    rw [if_neg Bool.false_ne_true]
    exact wpAny_execs_nil ⟨σ1, H2, I2, q2⟩
end

/-- at turn i: it yields x (the heap may grow), or it stops -/
structure It where
  go : Nat → Hp → Prop
  yld : Nat → Hp → V → Hp → Prop
  stop : Nat → Hp → Prop
/-- the iterator's own objects may turn: they are not the frame's, not pinned, younger than the entry (or a comprehension's own) -/
def FpOk (X : Cx) (pins : List (Addr × Obj)) (H : Hp) (b : Addr) : Prop :=
  H b = none ∧ b ≠ X.env.locals ∧ b ∉ X.fs ∧ (b ∈ X.ex ∨ X.s_0.heap.objs.size ≤ b) ∧ (∀ x c, X.env.cells.lookup x = some c → c ≠ b) ∧ ∀ p ∈ X.pn ++ pins, p.1 ≠ b
theorem Inv.fpOk {X : Cx} {pins : List (Addr × Obj)} {σ : St} {H H' : Hp} {s : Shared} {b : Addr} (I : Inv X pins σ H s) (hb : s.heap.objs.size ≤ b) (hn : H' b = none) : FpOk X pins H' b := by
  refine ⟨hn, Nat.ne_of_gt (Nat.lt_of_lt_of_le I.lt hb), I.nofs hb, .inr (Nat.le_trans I.sz hb), fun x c e z => ?_, fun p hp z => ?_⟩
  · obtain ⟨v, q⟩ := I.cell x c e
    exact absurd (Nat.lt_of_lt_of_le q.lt (by rw [z]; exact hb)) (Nat.lt_irrefl _)
  · exact absurd (Nat.lt_of_lt_of_le (Heap.lt_size (I.pin p hp).1) (by rw [z]; exact hb)) (Nat.lt_irrefl _)
structure Turn (P : Program) (w : World) (K : PySem.W.Frag) (tg : Expr) (J : It) (fp : List Addr) (it : Addr) (tn : Nat → Heap → Prop) : Prop where
  mem : it ∈ fp
  obj : ∀ i h, tn i h → ∀ b ∈ fp, ∃ o, h.get? b = some o ∧ ∀ v, o.data ≠ .cell v
  keep : ∀ i h h', tn i h → (∀ b ∈ fp, ∀ o, h.get? b = some o → h'.get? b = some o) → tn i h'
  item : ∀ (X : Cx), X.prog = P → X.w = w → X.K = K → X.calm = true → ∀ (i : Nat) (pins : List (Addr × Obj)) (s : Shared) (σ : St) (H : Hp) (E : Value → Shared → Prop), Inv X pins σ H s → (∀ b ∈ fp, FpOk X pins H b) → tn i s.heap → J.go i H →
    wpAny (model P w) X.A (pyNext (.ref it)) (fun r s1 => ∃ u, r = some u ∧
      wpAny (model P w) X.A (letOwnedTupleGo tg (.ref it) u) (fun _ s2 => ∃ x H', Inv X pins σ H' s2 ∧ RelV x u ∧ J.yld i H x H' ∧ tn (i + 1) s2.heap ∧ ∀ b ∈ fp, H' b = none) E s1) E s
  done : ∀ (X : Cx), X.prog = P → X.w = w → X.K = K → X.calm = true → ∀ (i : Nat) (pins : List (Addr × Obj)) (s : Shared) (σ : St) (H : Hp) (E : Value → Shared → Prop), Inv X pins σ H s → (∀ b ∈ fp, FpOk X pins H b) → tn i s.heap → J.stop i H →
    wpAny (model P w) X.A (pyNext (.ref it)) (fun r s1 => r = none ∧ Inv X pins σ H s1) E s
  self : ∀ (A : Around) (i : Nat) (s : Shared) (Q : Value → Shared → Prop) (E : Value → Shared → Prop), tn i s.heap → Q (.ref it) s → wpAny (model P w) A (pyIter (.ref it)) Q E s
abbrev TI := St → Hp → (It → Hp → Prop) → Prop
/-- an iterator has come -/
def PIE (X : Cx) (pins : List (Addr × Obj)) (σ : St) (tg : Expr) (R : It → Hp → Prop) (itv : Value) (s2 : Shared) : Prop :=
  ∃ (it : Addr) (fp : List Addr) (tn : Nat → Heap → Prop) (J : It) (H' : Hp), itv = .ref it ∧ Inv X pins σ H' s2 ∧ Turn X.prog X.w X.K tg J fp it tn ∧ tn 0 s2.heap ∧ (∀ b ∈ fp, FpOk X pins H' b) ∧ R J H'
def PI (X : Cx) (tg iter : Expr) (wi : TI) : Prop :=
  ∀ (pins : List (Addr × Obj)) (s : Shared) (σ : St) (H : Hp) (R : It → Hp → Prop), Inv X pins σ H s → wi σ H R →
    wpAny (model X.prog X.w) X.A (eval iter X.env) (fun v s1 => wpAny (model X.prog X.w) X.A (pyIter v) (PIE X pins σ tg R) X.xe s1) X.xe s

/-- the step ahead of the store is nothing for an iterator that keeps no tuple -/
theorem go_of {M : Model} {A : Around} {E : Value → Shared → Prop} {s : Shared} {tg : Expr} {it : Addr} {u : Value} {o : Obj} {n : String} {vs : Array Value} {Q : Unit → Shared → Prop} (ho : s.heap.get? it = some o) (hc : o.cls = .type n) (hd : o.data = .fields vs)
    (hn : ["enumerate", "zip", "dict_itemiterator", "dict_reverseitemiterator", "odict_iterator", "itertools.zip_longest", "itertools.pairwise"].contains n = false) (hQ : Q () s) : wpAny M A (letOwnedTupleGo tg (.ref it) u) Q E s := by
  unfold letOwnedTupleGo
  cases tg <;> first
    | exact wpAny_pure hQ
    | (cases u <;> first
        | exact wpAny_pure hQ
        | (refine wpAny_bind (wpAny_load ho ?_)
           rw [hc, hd]
           show wpAny M A (if (["enumerate", "zip", "dict_itemiterator", "dict_reverseitemiterator", "odict_iterator", "itertools.zip_longest", "itertools.pairwise"].contains n && vs[0]? == some (rawInt _)) = true then _ else _) Q E s
           rw [if_neg (by intro h; rw [hn, Bool.false_and] at h; cases h)]
           exact wpAny_pure hQ))

/-- the list at a, as it stands at each turn (a loop may append to it) -/
def Itl (K : PySem.W.Frag) (a : Addr) : It :=
  ⟨fun i H => ∃ xs x, SqL K H a xs ∧ xs[i]? = some x, fun i H x H' => H' = H ∧ ∀ xs, SqL K H a xs → xs[i]? = some x, fun i H => ∃ xs, SqL K H a xs ∧ xs.length ≤ i⟩
/-- lo, lo + 1, .. (n of them) -/
def Itr (lo : Int) (n : Nat) : It := ⟨fun i _ => i < n, fun i H x H' => H' = H ∧ x = .int (lo + i), fun i _ => n ≤ i⟩
theorem turn_list {P : Program} {w : World} {K : PySem.W.Frag} {tg : Expr} (a it : Addr) : Turn P w K tg (Itl K a) [it] it (fun i h => h.IsListIter it a i) where
  mem := by simp
  obj := fun i h st b hb => by
    have e : b = it := by simpa using hb
    subst e
    obtain ⟨o, e, c, d⟩ := st
    exact ⟨o, e, fun v z => by rw [d] at z; cases z⟩
  keep := fun i h h' st k => st.at fun o e => k it (by simp) o e
  item := by
    intro X hP hw hK hc i pins s σ H E I hf st hg
    subst hP hw hK
    obtain ⟨xs, x, hq, hx⟩ := hg
    obtain ⟨its, rv, p, hz⟩ := I.list hq
    obtain ⟨u, hu, ru⟩ := rv.get hx
    obtain ⟨f0, f1, f2, f3, f4, f5⟩ := hf it (by simp)
    refine wpAny_pyNext_list_item st p.isList (x := u) (by simpa using hu) fun h' st' sb => ?_
    have I1 : Inv X pins σ H { s with heap := h' } := I.turned (t' := s.toks) (fun b o hb e => (sb.2 b hb).trans e) f0 f1 f3 f4 f5
    obtain ⟨o, e, c, d⟩ := id st'
    exact ⟨u, rfl, go_of (s := { s with heap := h' }) e c d (by decide) ⟨x, H, I1, ru, ⟨rfl, fun ys hy => by rw [I.list_inj hy hq]; exact hx⟩, st', fun b hb => (hf b hb).1⟩⟩
  done := by
    intro X hP hw hK hc i pins s σ H E I hf st hg
    subst hP hw hK
    obtain ⟨xs, hq, hx⟩ := hg
    obtain ⟨its, rv, p, hz⟩ := I.list hq
    obtain ⟨f0, f1, f2, f3, f4, f5⟩ := hf it (by simp)
    have hl := rv.length
    exact wpAny_pyNext_list_end (I.ok.hd hc) st p.isList (by simp; omega) fun h' eb => ⟨rfl, I.turned (t' := s.toks) (fun b o hb e => eb b o hb e) f0 f1 f3 f4 f5⟩
  self := fun _ _ _ _ _ st h => wpAny_pyIter_listiter st h
theorem turn_range {P : Program} {w : World} {K : PySem.W.Frag} {tg : Expr} (it : Addr) (lo : Int) (n : Nat) : Turn P w K tg (Itr lo n) [it] it (fun i h => IsRangeIter h it (lo + (i : Nat) * 1) ((n : Int) - (i : Nat)) 1) where
  mem := by simp
  obj := fun i h st b hb => by
    have e : b = it := by simpa using hb
    subst e
    exact ⟨_, st, fun v z => by
      have z' : Data.fields _ = Data.cell v := z
      cases z'⟩
  keep := fun i h h' st k => k it (by simp) _ st
  item := by
    intro X hP hw hK hc i pins s σ H E I hf st hg
    subst hP hw hK
    obtain ⟨f0, f1, f2, f3, f4, f5⟩ := hf it (by simp)
    have W := Walks.range (prog := X.prog) (w := X.w) (I.ok.hd hc) it lo 1 n
    refine W.item i s _ _ hg st fun v h' tk hv st' kk => ?_
    obtain ⟨t, rfl⟩ := hv
    have I1 : Inv X pins σ H { s with heap := h', toks := tk } := I.turned (fun b o hb e => kk b o (by simpa using hb) e) f0 f1 f3 f4 f5
    refine ⟨_, rfl, go_of (s := { s with heap := h', toks := tk }) (n := "range_iterator") st' rfl rfl (by decide) ⟨.int (lo + i), H, I1, ⟨t, ?_⟩, ⟨rfl, rfl⟩, st', fun b hb => (hf b hb).1⟩⟩
    rw [Int.mul_one]
  done := by
    intro X hP hw hK hc i pins s σ H E I hf st hg
    subst hP hw hK
    obtain ⟨f0, f1, f2, f3, f4, f5⟩ := hf it (by simp)
    exact wpAny_pyNext_range_end (I.ok.hd hc) st (by have : n ≤ i := hg; omega) fun h' eb => ⟨rfl, I.turned (t' := s.toks) (fun b o hb e => eb b o hb e) f0 f1 f3 f4 f5⟩
  self := fun _ _ _ _ _ st h => wpAny_pyIter_rangeiter st h
end L2

namespace L2
open PySem PySem.Spec PyProof.Rows
section
variable {X : Cx} {tg : Expr}
def iList (K : PySem.W.Frag) (tl : TE) : TI := fun σ H R => tl σ H fun x H1 => ∃ a, x = .ref a ∧ (∃ xs, SqL K H1 a xs) ∧ R (Itl K a) H1
theorem pi_list {l : Expr} {tl : TE} (hl : PE X l tl) : PI X tg l (iList X.K tl) := by
  intro pins s σ H R I h
  refine thn (hl pins s σ H _ I h) fun v s1 ⟨x, H1, I1, r1, q1⟩ => ?_
  obtain ⟨a, e, ⟨xs, hq⟩, q⟩ := q1
  subst e
  cases r1
  obtain ⟨its, rv, p, hz⟩ := I1.list hq
  refine wpAny_pyIter_list p.isList ?_
  refine ⟨s1.heap.objs.size, [s1.heap.objs.size], _, _, H1, rfl, I1.kept (t' := s1.toks) fun b o e => Heap.get?_push_of_some _ e, turn_list a _, ⟨_, Heap.get?_push_size _ rfl, rfl, rfl⟩, fun b hb => ?_, q⟩
  have e : b = s1.heap.objs.size := by simpa using hb
  subst e
  exact I1.fpOk (Nat.le_refl _) (I1.hok.fresh (Nat.le_refl _))
/-- a range object just made, walked -/
theorem range_it {pins : List (Addr × Obj)} {σ : St} {H : Hp} {s : Shared} {R : It → Hp → Prop} {E : Value → Shared → Prop} {lo hi : Int} {t u v : Tok} {tk : Nat} (I : Inv X pins σ H s) (h1 : -(2 ^ 62) ≤ lo) (h2 : lo < 2 ^ 62) (h3 : -(2 ^ 62) ≤ hi) (h4 : hi < 2 ^ 62)
    (q : R (Itr lo (hi - lo).toNat) H) : wpAny (model X.prog X.w) X.A (pyIter (.ref s.heap.objs.size)) (PIE X pins σ tg R) E { s with heap := s.heap.push { cls := .type "range", data := .fields #[.int lo t, .int hi u, .int 1 v] }, toks := tk } := by
  refine wpAny_pyIter_range (IsRange.new ..) (small_one h1 h2 h3 h4) ?_
  have I1 : Inv X pins σ H { s with heap := s.heap.push { cls := .type "range", data := .fields #[.int lo t, .int hi u, .int 1 v] }, toks := tk } := I.kept fun b o e => Heap.get?_push_of_some _ e
  refine ⟨(s.heap.push { cls := .type "range", data := .fields #[.int lo t, .int hi u, .int 1 v] }).objs.size, [(s.heap.push { cls := .type "range", data := .fields #[.int lo t, .int hi u, .int 1 v] }).objs.size], _, _, H, rfl,
    I1.kept (t' := tk) fun b o e => Heap.get?_push_of_some _ e, turn_range _ lo (hi - lo).toNat, ?_, fun b hb => ?_, q⟩
  · have e1 : lo + ((0 : Nat) : Int) * 1 = lo := by simp
    have e2 : (((hi - lo).toNat : Nat) : Int) - ((0 : Nat) : Int) = Builtin.Range.rangeSize lo hi 1 := by rw [rangeSize_one]; split <;> omega
    show IsRangeIter _ _ (lo + ((0 : Nat) : Int) * 1) ((((hi - lo).toNat : Nat) : Int) - ((0 : Nat) : Int)) 1
    rw [e1, e2]
    exact Heap.get?_push_size _ rfl
  · have e : b = (s.heap.push { cls := .type "range", data := .fields #[.int lo t, .int hi u, .int 1 v] }).objs.size := by simpa using hb
    subst e
    exact I1.fpOk (Nat.le_refl _) (I1.hok.fresh (Nat.le_refl _))
def iRng1 (ta : TA) : TI := fun σ H R => ta σ H fun vs H1 => ∃ j : Int, vs = [.int j] ∧ -(2 ^ 62) ≤ j ∧ j < 2 ^ 62 ∧ R (Itr 0 j.toNat) H1
theorem pi_range1 {a : Expr} {ta : TA} {p pos : Pos} (hg : Gl X "range") (hm : X.mg "range" = none) (ha : PA X [a] ta) (hs : starEach [a] X.env = [(false, eval a X.env)] := by rfl) : PI X tg (.Call (.Name "range" p) [a] [] pos) (iRng1 ta) := by
  intro pins s σ H R I h
  refine Call_ (ld_blt I hg hm boot_range (PyProof.Rows.callWith_type1 (thn (ha pos pins s σ H _ I h) fun us s1 ⟨vs, H1, I1, r1, q1⟩ => ?_) hs rfl))
  obtain ⟨j, e, q1, q2, q⟩ := q1
  subst e
  cases r1 with
  | cons r rr =>
    cases rr
    obtain ⟨t, rfl⟩ := r
    exact call_range_1 (range_it I1 (by omega) (by omega) q1 q2 (by simpa using q))

/-- W: the invariant by the turn and a measure; N: what the body is to reach -/
def tFor (wi : TI) (g : TG) (tb : TS) : TS := fun D σ H => wi σ H fun J H1 => ∃ W : Nat → Nat → St → Hp → Prop, (∃ m, W 0 m σ H1) ∧ ∀ i m σ H, W i m σ H →
  (J.stop i H ∧ D.nx σ H) ∨ (J.go i H ∧ ∃ N : St → Hp → Prop, (∀ σ' H', N σ' H' → ∃ m', m' < m ∧ W (i + 1) m' σ' H') ∧ ∀ x H', J.yld i H x H' → g x σ H' fun σ2 H2 => tb { D with nx := N, ct := N, bk := D.nx } σ2 H2)
/-- the records at fp as they stand -/
def pinsAt (fp : List Addr) (h : Heap) : List (Addr × Obj) := fp.filterMap fun b => (h.get? b).map fun o => (b, o)
theorem mem_pinsAt {fp : List Addr} {h : Heap} {b : Addr} {o : Obj} (hb : b ∈ fp) (e : h.get? b = some o) : (b, o) ∈ pinsAt fp h := List.mem_filterMap.mpr ⟨b, hb, by rw [e]; rfl⟩
theorem of_pinsAt {fp : List Addr} {h : Heap} {p : Addr × Obj} (hp : p ∈ pinsAt fp h) : p.1 ∈ fp ∧ h.get? p.1 = some p.2 := by
  obtain ⟨b, hb, e⟩ := List.mem_filterMap.mp hp
  cases q : h.get? b with
  | none => rw [q] at e; cases e
  | some o =>
    rw [q] at e
    have e' : (b, o) = p := Option.some.inj e
    subst e'
    exact ⟨hb, q⟩
theorem Inv.pinned {pins : List (Addr × Obj)} {σ : St} {H : Hp} {s : Shared} {fp : List Addr} (I : Inv X pins σ H s) (hf : ∀ b ∈ fp, FpOk X pins H b) (ho : ∀ b ∈ fp, ∃ o, s.heap.get? b = some o ∧ ∀ v, o.data ≠ .cell v) : Inv X (pins ++ pinsAt fp s.heap) σ H s :=
  I.pins_of fun p hp => (List.mem_append.mp hp).elim (fun z => I.pin p (List.mem_append_right _ z)) fun z => by
    obtain ⟨hb, e⟩ := of_pinsAt z
    obtain ⟨f0, f1, f2, _⟩ := hf p.1 hb
    obtain ⟨o, e', d⟩ := ho p.1 hb
    rw [e] at e'; cases e'
    exact ⟨e, f0, f1, f2, d⟩
theorem Inv.unpinned {pins pl : List (Addr × Obj)} {σ : St} {H : Hp} {s : Shared} (I : Inv X (pins ++ pl) σ H s) : Inv X pins σ H s := I.pins_of fun p hp => I.pin p (List.mem_append_right _ (List.mem_append_left _ hp))
theorem ps_for {iter : Expr} {body : List Stmt} {wi : TI} {g : TG} {tb : TS} {pos : Pos} (hp : PassesOwn (model X.prog X.w) X.A X.env X.xe) (hc : X.calm = true) (hi : PI X tg iter wi) (hg : PG X tg g) (hb : PSs X body tb)
    (hs : ∀ x, foldedSetIterable iter X.env x = pure x := by intro _; rfl) : PS X (.For tg iter body [] pos) (tFor wi g tb) := by
  intro pins s σ H D I h
  refine wpAny_For (thn (hi pins s σ H _ I h) fun v s1 h1 => thn h1 fun itv s2 h2 => ?_) hs
  obtain ⟨it, fp, tn, J, H2, e, I2, T, st2, f2, W, ⟨m0, w0⟩, turn⟩ := h2
  subst e
  -- what stays true of the iterator's objects through the loop
  have stat : ∀ {H' : Hp}, (∀ b ∈ fp, H' b = none) → ∀ b ∈ fp, FpOk X pins H' b := fun hn b hb => ⟨hn b hb, (f2 b hb).2⟩
  refine codeAny_forLoop_any (fun n s' => ∃ i σ' H', Inv X pins σ' H' s' ∧ tn i s'.heap ∧ (∀ b ∈ fp, H' b = none) ∧ W i n σ' H') ?_ m0 ⟨0, σ, H2, I2, st2, fun b hb => (f2 b hb).1, w0⟩
  rintro n s3 ⟨i, σ3, H3, I3, st3, fr3, w3⟩
  rcases turn i n σ3 H3 w3 with ⟨stop, qn⟩ | ⟨go, N, hN, step⟩
  · refine wpAny_passesOwn hp (thn (T.done X rfl rfl rfl hc i pins s3 σ3 H3 X.xe I3 (stat fr3) st3 stop) fun r s4 ⟨hr, I4⟩ => ?_)
    subst hr
    exact wpAny_execs_nil ⟨σ3, H3, I4, qn⟩
  · refine wpAny_passesOwn hp (thn (T.item X rfl rfl rfl hc i pins s3 σ3 H3 X.xe I3 (stat fr3) st3 go) fun r s4 ⟨u, hr, h4⟩ => ?_)
    subst hr
    refine wpAny_passesOwn hp (thn h4 fun _ s5 ⟨x, H5, I5, r5, y5, st5, fr5⟩ => ?_)
    have I5' := I5.pinned (stat fr5) (T.obj _ _ st5)
    refine wpAny_passesOwn hp (thn (hg _ s5 σ3 H5 x u _ I5' r5 (step x H5 y5)) fun _ s6 ⟨σ6, H6, I6, q6⟩ => ?_)
    refine wpAny_passesOwn hp (thn (hb _ s6 σ6 H6 _ I6 q6) fun f s7 q7 => ?_)
    have again : ∀ {σ7 : St} {H7 : Hp}, Inv X (pins ++ pinsAt fp s5.heap) σ7 H7 s7 → N σ7 H7 → ∃ m, m < n ∧ ∃ i σ' H', Inv X pins σ' H' s7 ∧ tn i s7.heap ∧ (∀ b ∈ fp, H' b = none) ∧ W i m σ' H' := fun {σ7 H7} I7 n7 => by
      obtain ⟨m', hm, w7⟩ := hN σ7 H7 n7
      refine ⟨m', hm, i + 1, σ7, H7, I7.unpinned, T.keep _ _ _ st5 fun b hb o e => (I7.pin (b, o) (List.mem_append_right _ (List.mem_append_right _ (mem_pinsAt hb e)))).1, fun b hb => ?_, w7⟩
      obtain ⟨o, e, d⟩ := T.obj _ _ st5 b hb
      exact (I7.pin (b, o) (List.mem_append_right _ (List.mem_append_right _ (mem_pinsAt hb e)))).2.1
    cases f with
    | next => obtain ⟨σ7, H7, I7, n7⟩ := q7; exact again I7 n7
    | cont => obtain ⟨σ7, H7, I7, n7⟩ := q7; exact again I7 n7
    | brk => obtain ⟨σ7, H7, I7, q7⟩ := q7; exact ⟨σ7, H7, I7.unpinned, q7⟩
    | ret v => obtain ⟨x7, σ7, H7, I7, r7, q7⟩ := q7; exact ⟨x7, σ7, H7, I7.unpinned, r7, q7⟩
end

end L2

namespace L2
open PySem PySem.Spec PyProof.Rows

abbrev R2 := V → V → Hp → VK → Prop
/-- a two-place operation on values: f is binaryOp op, inplaceOp op or compareOp op -/
def OpR (X : Cx) (f : Value → Value → Sem Value) (r : R2) : Prop :=
  ∀ (pins : List (Addr × Obj)) (s : Shared) (σ : St) (H : Hp) (x y : V) (v u : Value) (Q : VK), Inv X pins σ H s → RelV x v → RelV y u → r x y H Q →
    wpAny (model X.prog X.w) X.A (f v u) (EP X pins σ Q) X.xe s
/-- a one-place operation -/
def UnR (X : Cx) (f : Value → Sem Value) (r : V → Hp → VK → Prop) : Prop :=
  ∀ (pins : List (Addr × Obj)) (s : Shared) (σ : St) (H : Hp) (x : V) (v : Value) (Q : VK), Inv X pins σ H s → RelV x v → r x H Q →
    wpAny (model X.prog X.w) X.A (f v) (EP X pins σ Q) X.xe s
/-- a call of a value that is known (a builtin, a type) with values -/
def CallR (X : Cx) (f : Value) (r : List V → Hp → VK → Prop) : Prop :=
  ∀ (pins : List (Addr × Obj)) (s : Shared) (σ : St) (H : Hp) (xs : List V) (us : List Value) (Q : VK), Inv X pins σ H s → Vals xs us → r xs H Q →
    wpAny (model X.prog X.w) X.A (call f us) (EP X pins σ Q) X.xe s
/-- a value's truth -/
def TruR (X : Cx) (r : V → Hp → (Bool → Hp → Prop) → Prop) : Prop :=
  ∀ (pins : List (Addr × Obj)) (s : Shared) (σ : St) (H : Hp) (x : V) (v : Value) (Q : Bool → Hp → Prop), Inv X pins σ H s → RelV x v → r x H Q →
    wpAny (model X.prog X.w) X.A (truthy v) (TP X pins σ Q) X.xe s

def tOp (r : R2) (ta tb : TE) : TE := fun σ H Q => ta σ H fun x H1 => tb σ H1 fun y H2 => r x y H2 Q
def tUn (r : V → Hp → VK → Prop) (ta : TE) : TE := fun σ H Q => ta σ H fun x H1 => r x H1 Q
/-- ints in, under C, and a value out -/
def rI (C : Int → Int → Prop) (g : Int → Int → V) : R2 := fun x y H Q => ∃ i j, x = .int i ∧ y = .int j ∧ C i j ∧ Q (g i j) H
def rI0 (g : Int → Int → V) : R2 := fun x y H Q => ∃ i j, x = .int i ∧ y = .int j ∧ Q (g i j) H
def rU (g : Int → V) : V → Hp → VK → Prop := fun x H Q => ∃ i, x = .int i ∧ Q (g i) H

section
variable {X : Cx} {a b c : Expr} {ta tb tc : TE} {pos : Pos}

theorem binT (ha : PE X a ta) (hb : PE X b tb) {pins : List (Addr × Obj)} {s : Shared} {σ : St} {H : Hp} {R : V → V → Hp → Prop} (I : Inv X pins σ H s)
    (h : ta σ H fun x H1 => tb σ H1 fun y H2 => R x y H2) {Q : Value → Shared → Prop} {f : Value → Value → Sem Value}
    (hf : ∀ v u s2 x y H2, Inv X pins σ H2 s2 → RelV x v → RelV y u → R x y H2 → wpAny (model X.prog X.w) X.A (f v u) Q X.xe s2) :
    wpAny (model X.prog X.w) X.A (eval a X.env) (fun v s₁ => wpAny (model X.prog X.w) X.A (eval b X.env) (fun u s₂ => wpAny (model X.prog X.w) X.A (f v u) Q X.xe s₂) X.xe s₁) X.xe s := by
  refine thn (ha pins s σ H _ I h) fun v s1 ⟨x, H1, I1, r1, q1⟩ => ?_
  refine thn (hb pins s1 σ H1 _ I1 q1) fun u s2 ⟨y, H2, I2, r2, q2⟩ => ?_
  exact hf v u s2 x y H2 I2 r1 r2 q2

theorem pe_op {op : Operator} {r : R2} (ho : OpR X (binaryOp op) r) (ha : PE X a ta) (hb : PE X b tb) : PE X (.BinOp a op b pos) (tOp r ta tb) := by
  intro pins s σ H Q I h
  exact wpAny_BinOp (binT ha hb I h fun v u s2 x y H2 I2 rx ry q => ho pins s2 σ H2 x y v u Q I2 rx ry q)
theorem pe_un {op : UnaryOp} {r : V → Hp → VK → Prop} (ho : UnR X (unaryOp op) r) (ha : PE X a ta) : PE X (.UnaryOp op a pos) (tUn r ta) := by
  intro pins s σ H Q I h
  exact UnaryOp_ (thn (ha pins s σ H _ I h) fun v s1 ⟨x, H1, I1, r1, q1⟩ => ho pins s1 σ H1 x v Q I1 r1 q1)

theorem opI {f : Value → Value → Sem Value} {C : Int → Int → Prop} {g : Int → Int → Int}
    (rule : ∀ (i j : Int) (t u : Tok) (s : Shared) (Q : Value → Shared → Prop) (E : Value → Shared → Prop), C i j → Q (.int (g i j) s.toks) { s with toks := s.toks + 1 } → wpAny (model X.prog X.w) X.A (f (.int i t) (.int j u)) Q E s) :
    OpR X f (rI C fun i j => .int (g i j)) := by
  intro pins s σ H x y v u Q I rx ry h
  obtain ⟨i, j, rfl, rfl, hc, q⟩ := h
  obtain ⟨t, rfl⟩ := rx
  obtain ⟨t', rfl⟩ := ry
  exact rule i j t t' s _ _ hc ⟨.int (g i j), H, I.tok _, ⟨_, rfl⟩, q⟩
theorem opI0 {f : Value → Value → Sem Value} {g : Int → Int → Int}
    (rule : ∀ (i j : Int) (t u : Tok) (s : Shared) (Q : Value → Shared → Prop) (E : Value → Shared → Prop), Q (.int (g i j) s.toks) { s with toks := s.toks + 1 } → wpAny (model X.prog X.w) X.A (f (.int i t) (.int j u)) Q E s) :
    OpR X f (rI0 fun i j => .int (g i j)) := by
  intro pins s σ H x y v u Q I rx ry h
  obtain ⟨i, j, rfl, rfl, q⟩ := h
  obtain ⟨t, rfl⟩ := rx
  obtain ⟨t', rfl⟩ := ry
  exact rule i j t t' s _ _ ⟨.int (g i j), H, I.tok _, ⟨_, rfl⟩, q⟩
theorem opB0 {f : Value → Value → Sem Value} {g : Int → Int → Bool}
    (rule : ∀ (i j : Int) (t u : Tok) (s : Shared) (Q : Value → Shared → Prop) (E : Value → Shared → Prop), Q (.bool (g i j)) s → wpAny (model X.prog X.w) X.A (f (.int i t) (.int j u)) Q E s) :
    OpR X f (rI0 fun i j => .bl (g i j)) := by
  intro pins s σ H x y v u Q I rx ry h
  obtain ⟨i, j, rfl, rfl, q⟩ := h
  obtain ⟨t, rfl⟩ := rx
  obtain ⟨t', rfl⟩ := ry
  exact rule i j t t' s _ _ ⟨.bl (g i j), H, I, rfl, q⟩

def CDiv (i j : Int) : Prop := 0 < j ∧ j < 1073741824
def CPow (i j : Int) : Prop := 0 ≤ j ∧ j ≤ 1000000 ∧ i.natAbs < 2 ^ 64
def CMul (i j : Int) : Prop := (-(2 ^ 64) < i ∧ i < 2 ^ 64) ∨ (-(2 ^ 64) < j ∧ j < 2 ^ 64)
theorem CMul.ok {i j : Int} (h : CMul i j) : IntMulOk i j := by
  rcases h with ⟨h1, h2⟩ | ⟨h1, h2⟩
  · exact .of_left (intBits_le_64 h1 h2)
  · exact .of_right (intBits_le_64 h1 h2)
theorem two_pow_nn (k : Nat) : (0 : Int) ≤ 2 ^ k := by
  rw [two_pow_cast]
  exact Int.natCast_nonneg _

theorem op_add : OpR X (binaryOp .Add) (rI0 fun i j => .int (i + j)) := opI0 fun _ _ _ _ _ _ _ q => add_int q
theorem op_sub : OpR X (binaryOp .Sub) (rI0 fun i j => .int (i - j)) := opI0 fun _ _ _ _ _ _ _ q => sub_int q
theorem op_mul : OpR X (binaryOp .Mult) (rI CMul fun i j => .int (i * j)) := opI fun _ _ _ _ _ _ _ hc q => mul_int q hc.ok
/-- // by a positive divisor -/
theorem op_fdiv : OpR X (binaryOp .FloorDiv) (rI CDiv fun i j => .int (i / j)) := opI fun i j _ _ _ _ _ hc q => by
  have h1 : (0 : Int) < j := hc.1
  have h2 : j < 1073741824 := hc.2
  exact floordiv_int (by omega) (by rw [Int.fdiv_eq_ediv_of_nonneg i (by omega)]; exact q) (.inl (PyProof.noPylong_small (by omega)))
/-- % by a positive divisor of any size -/
theorem op_mod : OpR X (binaryOp .Mod) (rI (fun _ j => 0 < j) fun i j => .int (i % j)) := opI fun i j _ _ _ _ _ hc q => by
  have h1 : (0 : Int) < j := hc
  exact mod_int' (by omega) (by rw [Int.fmod_eq_emod_of_nonneg i (by omega)]; exact q)
theorem op_shl : OpR X (binaryOp .LShift) (rI CPow fun i j => .int (i * 2 ^ j.toNat)) := opI fun _ _ _ _ _ _ _ hc q => lshift_int_small hc.1 hc.2.1 hc.2.2 q
theorem op_shr : OpR X (binaryOp .RShift) (rI (fun _ j => 0 ≤ j) fun i j => .int (i / 2 ^ j.toNat)) := opI fun i j _ _ _ _ _ hc q =>
  rshift_int hc (by rw [Int.fdiv_eq_ediv_of_nonneg i (two_pow_nn _)]; exact q)
theorem op_and : OpR X (binaryOp .BitAnd) (rI0 fun i j => .int (Builtin.bitAnd i j)) := opI0 fun _ _ _ _ _ _ _ q => and_int q
theorem op_or : OpR X (binaryOp .BitOr) (rI0 fun i j => .int (Builtin.bitOr i j)) := opI0 fun _ _ _ _ _ _ _ q => or_int q
theorem op_xor : OpR X (binaryOp .BitXor) (rI0 fun i j => .int (Builtin.bitXor i j)) := opI0 fun _ _ _ _ _ _ _ q => xor_int q

theorem iop_sub : OpR X (inplaceOp .Sub) (rI0 fun i j => .int (i - j)) := opI0 fun _ _ _ _ _ _ _ q => isub_int q

theorem unI {f : Value → Sem Value} {g : Int → Int}
    (rule : ∀ (i : Int) (t : Tok) (s : Shared) (Q : Value → Shared → Prop) (E : Value → Shared → Prop), Q (.int (g i) s.toks) { s with toks := s.toks + 1 } → wpAny (model X.prog X.w) X.A (f (.int i t)) Q E s) :
    UnR X f (rU fun i => .int (g i)) := by
  intro pins s σ H x v Q I rx h
  obtain ⟨i, rfl, q⟩ := h
  obtain ⟨t, rfl⟩ := rx
  exact rule i t s _ _ ⟨.int (g i), H, I.tok _, ⟨_, rfl⟩, q⟩
theorem un_neg : UnR X (unaryOp .USub) (rU fun i => .int (-i)) := unI fun _ _ _ _ _ q => neg_int q

end

/-- the scalars that == tells apart as data does -/
def scal : V → V → Bool
  | .non, .non => true | .non, .int _ => true | .int _, .non => true | .non, .bl _ => true | .bl _, .non => true | .non, .str _ => true | .str _, .non => true
  | .int _, .int _ => true | .bl _, .bl _ => true | .str _, .str _ => true | .byt _, .byt _ => true
  | .int _, .str _ => true | .str _, .int _ => true | .bl _, .str _ => true | .str _, .bl _ => true
  | _, _ => false
def rEq : R2 := fun x y H Q => scal x y = true ∧ Q (.bl (decide (x = y))) H
def rNe : R2 := fun x y H Q => scal x y = true ∧ Q (.bl (!decide (x = y))) H

theorem dec_int {i j : Int} : decide (V.int i = V.int j) = (i == j) := by
  rw [Bool.eq_iff_iff]
  simp
theorem dec_bl {i j : Bool} : decide (V.bl i = V.bl j) = (i == j) := by
  rw [Bool.eq_iff_iff]
  simp
theorem dec_str {i j : Str} : decide (V.str i = V.str j) = (i == j) := by
  rw [Bool.eq_iff_iff]
  simp
theorem dec_byt {i j : Array UInt8} : decide (V.byt i = V.byt j) = (i.toList == j.toList) := by
  rw [Bool.eq_iff_iff]
  cases i
  cases j
  simp

section
variable {X : Cx} {a b c : Expr} {ta tb tc : TE} {pos : Pos}
theorem fin_bl {pins : List (Addr × Obj)} {σ : St} {H : Hp} {s : Shared} {Q : VK} {k k' : Bool} (I : Inv X pins σ H s) (q : Q (.bl k) H) (e : k = k') : EP X pins σ Q (.bool k') s := by
  subst e
  exact ⟨.bl k, H, I, rfl, q⟩
theorem op_eq : OpR X (compareOp .Eq) rEq := by
  intro pins s σ H x y v u Q I rx ry h
  obtain ⟨hs, q⟩ := h
  cases x with
  | non =>
    cases rx
    cases y with
    | non => cases ry; exact PySem.EqNone.eq_none_none (fin_bl I q (by simp))
    | bl j => cases ry; exact PySem.EqNone.eq_none_bool (fin_bl I q (by simp))
    | int j => obtain ⟨t', rfl⟩ := ry; exact PySem.EqNone.eq_none_int (fin_bl I q (by simp))
    | str j => obtain ⟨t', rfl⟩ := ry; exact PySem.EqNone.eq_none_str (fin_bl I q (by simp))
    | _ => exact absurd (show false = true from hs) Bool.false_ne_true
  | bl i =>
    cases rx
    cases y with
    | non => cases ry; exact PySem.EqNone.eq_bool_none (fin_bl I q (by simp))
    | bl j => cases ry; exact eq_bool (fin_bl I q dec_bl)
    | str j => obtain ⟨t', rfl⟩ := ry; exact PySem.EqMixed.eq_bool_str (fin_bl I q (by simp))
    | _ => exact absurd (show false = true from hs) Bool.false_ne_true
  | int i =>
    obtain ⟨t, rfl⟩ := rx
    cases y with
    | non => cases ry; exact PySem.EqNone.eq_int_none (fin_bl I q (by simp))
    | int j => obtain ⟨t', rfl⟩ := ry; exact eq_int (fin_bl I q dec_int)
    | str j => obtain ⟨t', rfl⟩ := ry; exact PySem.EqMixed.eq_int_str (fin_bl I q (by simp))
    | _ => exact absurd (show false = true from hs) Bool.false_ne_true
  | str i =>
    obtain ⟨t, rfl⟩ := rx
    cases y with
    | non => cases ry; exact PySem.EqNone.eq_str_none (fin_bl I q (by simp))
    | bl j => cases ry; exact PySem.EqMixed.eq_str_bool (fin_bl I q (by simp))
    | int j => obtain ⟨t', rfl⟩ := ry; exact PySem.EqMixed.eq_str_int (fin_bl I q (by simp))
    | str j => obtain ⟨t', rfl⟩ := ry; exact eq_str (fin_bl I q dec_str)
    | _ => exact absurd (show false = true from hs) Bool.false_ne_true
  | byt i =>
    obtain ⟨t, rfl⟩ := rx
    cases y with
    | byt j => obtain ⟨t', rfl⟩ := ry; exact PySem.W.eq_bytes (fin_bl I q dec_byt)
    | _ => exact absurd (show false = true from hs) Bool.false_ne_true
  | _ => cases y <;> exact absurd (show false = true from hs) Bool.false_ne_true
theorem op_ne : OpR X (compareOp .NotEq) rNe := by
  intro pins s σ H x y v u Q I rx ry h
  obtain ⟨hs, q⟩ := h
  cases x with
  | non =>
    cases rx
    cases y with
    | non => cases ry; exact PySem.EqNone.ne_none_none (fin_bl I q (by simp))
    | bl j => cases ry; exact PySem.EqNone.ne_none_bool (fin_bl I q (by simp))
    | int j => obtain ⟨t', rfl⟩ := ry; exact PySem.EqNone.ne_none_int (fin_bl I q (by simp))
    | str j => obtain ⟨t', rfl⟩ := ry; exact PySem.EqNone.ne_none_str (fin_bl I q (by simp))
    | _ => exact absurd (show false = true from hs) Bool.false_ne_true
  | bl i =>
    cases rx
    cases y with
    | non => cases ry; exact PySem.EqNone.ne_bool_none (fin_bl I q (by simp))
    | bl j => cases ry; exact ne_bool (fin_bl I q (congrArg not dec_bl))
    | str j => obtain ⟨t', rfl⟩ := ry; exact PySem.EqMixed.ne_bool_str (fin_bl I q (by simp))
    | _ => exact absurd (show false = true from hs) Bool.false_ne_true
  | int i =>
    obtain ⟨t, rfl⟩ := rx
    cases y with
    | non => cases ry; exact PySem.EqNone.ne_int_none (fin_bl I q (by simp))
    | int j => obtain ⟨t', rfl⟩ := ry; exact ne_int (fin_bl I q (congrArg not dec_int))
    | str j => obtain ⟨t', rfl⟩ := ry; exact PySem.EqMixed.ne_int_str (fin_bl I q (by simp))
    | _ => exact absurd (show false = true from hs) Bool.false_ne_true
  | str i =>
    obtain ⟨t, rfl⟩ := rx
    cases y with
    | non => cases ry; exact PySem.EqNone.ne_str_none (fin_bl I q (by simp))
    | bl j => cases ry; exact PySem.EqMixed.ne_str_bool (fin_bl I q (by simp))
    | int j => obtain ⟨t', rfl⟩ := ry; exact PySem.EqMixed.ne_str_int (fin_bl I q (by simp))
    | str j => obtain ⟨t', rfl⟩ := ry; exact ne_str (fin_bl I q (congrArg not dec_str))
    | _ => exact absurd (show false = true from hs) Bool.false_ne_true
  | byt i =>
    obtain ⟨t, rfl⟩ := rx
    cases y with
    | byt j => obtain ⟨t', rfl⟩ := ry; exact PySem.W.ne_bytes (fin_bl I q (congrArg not dec_byt))
    | _ => exact absurd (show false = true from hs) Bool.false_ne_true
  | _ => cases y <;> exact absurd (show false = true from hs) Bool.false_ne_true

theorem op_lt : OpR X (compareOp .Lt) (rI0 fun i j => .bl (decide (i < j))) := opB0 fun _ _ _ _ _ _ _ q => lt_int q
theorem op_le : OpR X (compareOp .LtE) (rI0 fun i j => .bl (decide (i ≤ j))) := opB0 fun _ _ _ _ _ _ _ q => le_int q
theorem op_gt : OpR X (compareOp .Gt) (rI0 fun i j => .bl (decide (j < i))) := opB0 fun _ _ _ _ _ _ _ q => gt_int q

/-- is None, is not None: the right side a value none -/
theorem op_isN : OpR X (compareOp .Is) (fun x y H Q => y = .non ∧ Q (.bl (decide (x = .non))) H) := by
  intro pins s σ H x y v u Q I rx ry h
  obtain ⟨rfl, q⟩ := h
  cases ry
  refine is_none_gen (fin_bl I q ?_)
  cases x <;> first
    | (cases rx; rfl)
    | (obtain ⟨t, rfl⟩ := rx; rfl)
theorem op_notN : OpR X (compareOp .IsNot) (fun x y H Q => y = .non ∧ Q (.bl (!decide (x = .non))) H) := by
  intro pins s σ H x y v u Q I rx ry h
  obtain ⟨rfl, q⟩ := h
  cases ry
  refine isnot_none_gen (fin_bl I q ?_)
  cases x <;> first
    | (cases rx; rfl)
    | (obtain ⟨t, rfl⟩ := rx; rfl)



theorem nomark (b : Expr) {op : CmpOp} (h : op ≠ .In := by decide) (h2 : op ≠ .NotIn := by decide) : behindInMarks op b = false := by
  have e1 : (op == CmpOp.In) = false := by cases op <;> first | rfl | exact absurd rfl h
  have e2 : (op == CmpOp.NotIn) = false := by cases op <;> first | rfl | exact absurd rfl h2
  cases b <;> simp [behindInMarks, e1, e2]
/-- a comparison as a value; hm: nomark b, or (for in, not in) by with_unfolding_all rfl -/
theorem pe_cmpR {op : CmpOp} {r : R2} (ho : OpR X (compareOp op) r) (ha : PE X a ta) (hb : PE X b tb) (hm : behindInMarks op b = false) : PE X (.Compare a [op] [b] pos) (tOp r ta tb) := by
  intro pins s σ H Q I h
  exact wpAny_Compare1 (binT ha hb I h fun v u s2 x y H2 I2 rx ry q => ho pins s2 σ H2 x y v u Q I2 rx ry q) hm
/-- a reading of a value as a test -/
def tTest (t : TE) : TT := fun σ H Q => t σ H fun x H' => ∃ k, x = .bl k ∧ Q k H'
theorem pt_cmpR {op : CmpOp} {r : R2} (ho : OpR X (compareOp op) r) (ha : PE X a ta) (hb : PE X b tb) (hm : behindInMarks op b = false) : PT X (.Compare a [op] [b] pos) (tTest (tOp r ta tb)) := by
  intro pins s σ H Q I h
  refine wpAny_isTrue_Compare1 (thn (ha pins s σ H _ I h) fun v s1 ⟨x, H1, I1, r1, q1⟩ => thn (hb pins s1 σ H1 _ I1 q1) fun u s2 ⟨y, H2, I2, r2, q2⟩ =>
    thn (ho pins s2 σ H2 x y v u _ I2 r1 r2 q2) fun c s3 ⟨z, H3, I3, r3, k, e, q3⟩ => ?_) hm
  subst e
  cases r3
  exact wpAny_truthy_bool ⟨H3, I3, q3⟩
/-- a op1 b op2 c -/
def tChain (r r' : R2) (ta tb tc : TE) : TE := fun σ H Q => ta σ H fun x H1 => tb σ H1 fun y H2 => r x y H2 fun z H3 => ∃ k, z = .bl k ∧
  (if k = true then tc σ H3 fun w' H4 => r' y w' H4 Q else Q (.bl false) H3)
theorem pe_chain {op op' : CmpOp} {r r' : R2} (ho : OpR X (compareOp op) r) (ho' : OpR X (compareOp op') r') (ha : PE X a ta) (hb : PE X b tb) (hc : PE X c tc)
    (hm : lastMarks [op, op'] [b, c] = false := by with_unfolding_all rfl) : PE X (.Compare a [op, op'] [b, c] pos) (tChain r r' ta tb tc) := by
  intro pins s σ H Q I h
  refine Compare_chain (thn (ha pins s σ H _ I h) fun v s1 ⟨x, H1, I1, r1, q1⟩ => chain_link (thn (hb pins s1 σ H1 _ I1 q1) fun u s2 ⟨y, H2, I2, r2, q2⟩ =>
    thn (ho pins s2 σ H2 x y v u _ I2 r1 r2 q2) fun d s3 ⟨z, H3, I3, r3, k, e, q3⟩ => ?_)) hm
  subst e
  cases r3
  refine wpAny_truthy_bool ?_
  cases k with
  | false => exact ite_ff ⟨.bl false, H3, I3, rfl, q3⟩
  | true => exact ite_tt (chain_last (thn (hc pins s3 σ H3 _ I3 q3) fun w' s4 ⟨z', H4, I4, r4, q4⟩ => ho' pins s4 σ H4 y z' u w' Q I4 r2 r4 q4))
theorem pt_chain {op op' : CmpOp} {r r' : R2} (ho : OpR X (compareOp op) r) (ho' : OpR X (compareOp op') r') (ha : PE X a ta) (hb : PE X b tb) (hc : PE X c tc)
    (hm : lastMarks [op, op'] [b, c] = false := by with_unfolding_all rfl) : PT X (.Compare a [op, op'] [b, c] pos) (tTest (tChain r r' ta tb tc)) := by
  intro pins s σ H Q I h
  refine isTrue_chain (thn (ha pins s σ H _ I h) fun v s1 ⟨x, H1, I1, r1, q1⟩ => test_link (thn (hb pins s1 σ H1 _ I1 q1) fun u s2 ⟨y, H2, I2, r2, q2⟩ =>
    thn (ho pins s2 σ H2 x y v u _ I2 r1 r2 q2) fun d s3 ⟨z, H3, I3, r3, k, e, q3⟩ => ?_)) hm
  subst e
  cases r3
  refine wpAny_truthy_bool ?_
  cases k with
  | false =>
    obtain ⟨k', e', q'⟩ := q3
    cases e'
    exact ite_ff ⟨H3, I3, q'⟩
  | true =>
    refine ite_tt (test_last (thn (hc pins s3 σ H3 _ I3 q3) fun w' s4 ⟨z', H4, I4, r4, q4⟩ => thn (ho' pins s4 σ H4 y z' u w' _ I4 r2 r4 q4) fun d' s5 ⟨z2, H5, I5, r5, k2, e2, q5⟩ => ?_))
    subst e2
    cases r5
    exact wpAny_truthy_bool ⟨H5, I5, q5⟩

/-- a value's truth by the abstract heap -/
def TruV (K : PySem.W.Frag) (x : V) (H : Hp) (k : Bool) : Prop :=
  match x with
  | .non => k = false
  | .bl b => k = b
  | .int i => k = (i != 0)
  | .str y => y.length ≤ sizeLine ∧ k = ((y.length : Int) != 0)
  | .byt y => y.size ≤ sizeLine ∧ k = ((y.size : Int) != 0)
  | .ref p => (∃ xs, SqL K H p xs ∧ k = !xs.isEmpty) ∨ (∃ xs, SqT K H p xs ∧ k = !xs.isEmpty) ∨ ∃ kvs, H p = some (.dK kvs) ∧ k = !kvs.isEmpty
  | _ => False
theorem isEmpty_kv {κ : Type} {kvs : List (κ × V)} {vs : List (κ × Value)} (r : KV kvs vs) : (!vs.isEmpty) = !kvs.isEmpty := by
  cases r <;> rfl
theorem isEmpty_of {xs : List V} {its : List Value} (r : Vals xs its) : (!its.toArray.isEmpty) = !xs.isEmpty := by
  cases r <;> simp
theorem line63 : (sizeLine : Nat) < 2 ^ 63 := by rw [sizeLine_eq]; decide
theorem tru_ok : TruR X (fun x H Q => ∃ k, TruV X.K x H k ∧ Q k H) := by
  intro pins s σ H x v Q I rx h
  obtain ⟨k, e, q⟩ := h
  have hl := line63
  have hs : sizeLine = 16777216 := sizeLine_eq
  cases x with
  | non =>
    cases rx
    have e' : k = false := e
    subst e'
    exact truthy_none ⟨H, I, q⟩
  | bl b =>
    cases rx
    have e' : k = b := e
    subst e'
    exact wpAny_truthy_bool ⟨H, I, q⟩
  | int i =>
    obtain ⟨t, rfl⟩ := rx
    have e' : k = (i != 0) := e
    subst e'
    exact PySem.P.truthy_int ⟨H, I, q⟩
  | str y =>
    obtain ⟨t, rfl⟩ := rx
    obtain ⟨hy, e'⟩ : y.length ≤ sizeLine ∧ k = ((y.length : Int) != 0) := e
    subst e'
    exact PySem.P.truthy_str (by omega) ⟨H, I.tok _, q⟩
  | byt y =>
    obtain ⟨t, rfl⟩ := rx
    obtain ⟨hy, e'⟩ : y.size ≤ sizeLine ∧ k = ((y.size : Int) != 0) := e
    subst e'
    exact PySem.W.truthy_bytes (by omega) ⟨H, I.tok _, q⟩
  | ref p =>
    cases rx
    have e' : (∃ xs, SqL X.K H p xs ∧ k = !xs.isEmpty) ∨ (∃ xs, SqT X.K H p xs ∧ k = !xs.isEmpty) ∨ ∃ kvs, H p = some (.dK kvs) ∧ k = !kvs.isEmpty := e
    rcases e' with ⟨xs, hx, e'⟩ | ⟨xs, hx, e'⟩ | ⟨kvs, hx, e'⟩
    · subst e'
      obtain ⟨its, r, pl, hz⟩ := I.list hx
      have hlen := r.length
      exact wpAny_truthy_list pl.isList (by simp only [List.size_toArray]; omega) ⟨H, I.tok _, by rw [isEmpty_of r]; exact q⟩
    · subst e'
      obtain ⟨its, r, pl, hz⟩ := I.tuple hx
      have hlen := r.length
      exact truthy_tuple pl (by simp only [List.size_toArray]; omega) ⟨H, I.tok _, by rw [isEmpty_of r]; exact q⟩
    · subst e'
      obtain ⟨hz, hS, vs, r, m⟩ : kvs.length ≤ sizeLine ∧ (p == sysModules) = false ∧ ∃ vs, KV kvs vs ∧ s.heap.DictOf (mixKind X.prog X.w) p vs := I.hok p _ hx
      have hlen : kvs.length = vs.length := Paired.length r
      exact wpAny_truthy_dict hS m (by omega) ⟨H, I.tok _, by rw [isEmpty_kv r]; exact q⟩
  | _ => exact (show False from e).elim
/-- any expression whose test is its value's truth (a name, a call, a subscript, a field ..: he by fun _ => rfl) -/
theorem pt_truth (ha : PE X a ta) (he : ∀ whole, isTrue a X.env whole = (do let v ← whole; standAt a.pos; holding [v] (truthy v))) :
    PT X a (fun σ H Q => ta σ H fun x H' => ∃ k, TruV X.K x H' k ∧ Q k H') := by
  intro pins s σ H Q I h
  exact isTrue_plain (thn (ha pins s σ H _ I h) fun v s1 ⟨x, H1, I1, r1, q1⟩ => tru_ok pins s1 σ H1 x v Q I1 r1 q1) (he _)



theorem vals1 {x : V} {us : List Value} (r : Vals [x] us) : ∃ u, us = [u] ∧ RelV x u := by
  cases r with
  | cons r1 r2 => cases r2; exact ⟨_, rfl, r1⟩
end
end L2

namespace L2
open PySem PySem.Spec PyProof.Rows

structure ObjM (h : Heap) (x dx C : Addr) (mA : Str → Option Value) : Prop where
  obj : h.get? x = some (PySem.W.instObj C dx)
  ns : h.Ns1 dx mA
  ne : dx ≠ x

theorem lookIn_ns {h : Heap} {dx : Addr} {mA : Str → Option Value} (n : h.Ns1 dx mA) : ∃ od, h.get? dx = some od ∧ ∀ name, PySem.W.lookIn name od = some (mA name) := by
  obtain ⟨o, es, ep, ho, hd, hk, _, hm⟩ := n
  refine ⟨o, ho, fun name => ?_⟩
  have e := hm name
  unfold nsFind findBy at e
  rw [← Array.find?_toList] at e
  unfold PySem.W.lookIn
  rw [hd]
  dsimp only
  split
  · rename_i y q
    rw [q] at e
    exact congrArg some e
  · rename_i q
    rw [q] at e
    have a : es.toList.any (·.refKey) = false := by
      rw [List.any_eq_false]
      intro y hy
      obtain ⟨z, t, hkey⟩ := hk y (Array.mem_toList_iff.mp hy)
      simp [DictEntry.refKey, hkey]
    have a' : ¬ es.toList.any (·.refKey) = true := by rw [a]; exact Bool.false_ne_true
    rw [if_neg a']
    exact congrArg some e

theorem ObjM.look {h : Heap} {x dx C : Addr} {mA : Str → Option Value} (I : ObjM h x dx C mA) : ∃ od, PySem.W.InstAt h x (PySem.W.instObj C dx) C (some od) ∧ ∀ name, PySem.W.lookIn name od = some (mA name) :=
  let ⟨od, ho, hl⟩ := lookIn_ns I.ns
  ⟨od, ⟨I.obj, rfl, rfl, ho⟩, hl⟩

section
variable {prog : Program} {w : World} {A : Around} {E : Value → Shared → Prop} {s : Shared} {K : PySem.W.Frag} {x dx C f : Addr} {mA : Str → Option Value} {name : Str} {v : Value}

theorem get_map {expr : Bool} {Q : Value → Shared → Prop} (X : K.In s.heap) (I : ObjM s.heap x dx C mA) (hg : PySem.W.plainGet K C name = true) (hh : PySem.W.hasDictIn K C = true)
    (ha : PySem.W.findIn K (.ref C) name = some none) (hv : mA name = some v) (hv' : PySem.W.handedIn v = true) (h : Q v { s with toks := s.toks + 1 }) :
    wpAny (model prog w) A (getAttr (.ref x) name expr) Q E s := by
  obtain ⟨od, J, hl⟩ := I.look
  exact PySem.W.get_value X J (PySem.W.plainGet_of hg).1 (PySem.W.findObj_own hh ha rfl (by rw [hl, hv])) hv' h


theorem get_meth {pl : Sem Bool} {Q : Value × List Value → Shared → Prop} (X : K.In s.heap) (I : ObjM s.heap x dx C mA) (hg : PySem.W.plainGet K C name = true)
    (hf : PySem.W.findIn K (.ref C) name = some (some (.ref f))) (ht : PySem.W.isFn K (.ref f) = true) (hv : mA name = none) (h : Q (.ref f, [.ref x]) s) :
    wpAny (model prog w) A (getMethod (.ref x) name pl) Q E s := by
  obtain ⟨od, J, hl⟩ := I.look
  exact PySem.W.method_fn X J (PySem.W.plainGet_of hg).1 (PySem.W.plainGet_of hg).2 hf (beq_iff_eq.mp ht) (by show (PySem.W.lookIn name od).map (·.isSome) = some false; rw [hl, hv]; rfl) h

theorem set_map {ns : List Str} {Q : Unit → Shared → Prop} (X : K.In s.heap) (I : ObjM s.heap x dx C mA)
    (hs : PySem.W.findIn K (.ref C) "__setattr__" = some (some (.builtin "object.__setattr__"))) (hp : PySem.W.plainOver K C = true) (ht : PySem.W.takerIn K C name = some none) (hh : PySem.W.hasDictIn K C = true)
    (hw : PySem.Within mA ns) (hsz : ns.length ≤ sizeLine)
    (h : ∀ h', ObjM h' x dx C (fun y => if y = name then some v else mA y) → Heap.SameBut dx s.heap h' → Q () { s with heap := h', toks := s.toks + 2 }) :
    wpAny (model prog w) A (setAttr (.ref x) name v) Q E s := by
  obtain ⟨od, J, hl⟩ := I.look
  refine PySem.W.set_plain X J hs (PySem.W.osa_open (s := { s with toks := s.toks + 1 }) (r := none) X J hp ht fun b => ?_)
  obtain ⟨cd, hc, hd'⟩ := PySem.W.any_some hh
  have hx : s.heap.get? x = some ⟨.ref C, some dx, .plain, #[]⟩ := I.obj
  refine wpAny_bind (wpAny_pure (wpAny_bind (wpAny_bind (wpAny_loadPart hx (wpAny_bind (PySem.W.Looks.here (s := { s with toks := s.toks + 1 }) (PySem.W.looks_clsIn X hc) ?_))))))
  rw [hd']
  refine wpAny_pure (a := some dx) (wpAny_bind (wpAny_pure (wpAny_bind ?_)))
  refine wpAny_nsSet1 (s := { s with toks := s.toks + 1 }) I.ns fun h' hn2 hs2 => ?_
  obtain ⟨oD, esD, epD, hoD, hdD, hcD⟩ := hn2.count (PySem.Within.cons name v hw)
  refine wpAny_bind (wpAny_lookBehind hoD (by rw [hdD]; exact pastItsLine_dict (Nat.le_trans hcD (by rw [List.length_cons]; omega))) ?_)
  exact wpAny_pure (h _ ⟨(hs2.2 _ (Ne.symm I.ne)).trans I.obj, hn2, I.ne⟩ hs2)

/-- C(..): the dict at the heap's end, the instance behind it; then its __init__ -/
theorem make_map {R : Result → Shared → Prop} {vs : List Value} {kw : List (Str × Value)} (X : K.In s.heap) (hm : PySem.W.makesIn K C = true)
    (hi : PySem.W.findIn K (.ref C) "__init__" = some (some (.ref f))) (hf : PySem.W.typeIn K (.ref f) = some (.type "function"))
    (h : codeAny (model prog w) (A.under (.builtin "type.__call__" ⟨.ref C :: vs, kw⟩)) (.call (.ref f) ⟨.ref (s.heap.objs.size + 1) :: vs, kw⟩) (PySem.W.InitBack (s.heap.objs.size + 1) R)
      { s with heap := (s.heap.push PySem.W.emptyDict).push (PySem.W.instObj C s.heap.objs.size) }) :
    codeAny (model prog w) A (.call (.ref C) ⟨vs, kw⟩) R s := by
  obtain ⟨hh, g, d, t, os⟩ := s
  exact PySem.W.make_core (PySem.W.makes_of X hm) (PySem.W.looks_findIn X hi) (fun self => PySem.W.bind_fn X self hf) (.inl rfl) h
end

def putF (f : Str) (v : V) : List (Str × V) → List (Str × V)
  | [] => [(f, v)]
  | (g, x) :: r => if g = f then (g, v) :: r else (g, x) :: putF f v r
theorem lookup_putF (f g : Str) (v : V) : ∀ fs : List (Str × V), (putF f v fs).lookup g = if g = f then some v else fs.lookup g
  | [] => by
    show List.lookup g [(f, v)] = _
    by_cases h : g = f
    · have hb : (g == f) = true := beq_iff_eq.mpr h
      simp only [List.lookup, hb, if_pos h]
    · have hb : (g == f) = false := beq_eq_false_iff_ne.mpr h
      simp only [List.lookup, hb, if_neg h]
  | (k, x) :: r => by
    have ih := lookup_putF f g v r
    rw [show putF f v ((k, x) :: r) = (if k = f then (k, v) :: r else (k, x) :: putF f v r) from rfl]
    by_cases hk : k = f
    · rw [if_pos hk]
      by_cases h : g = k
      · have hb : (g == k) = true := beq_iff_eq.mpr h
        simp only [List.lookup, hb, if_pos (h.trans hk)]
      · have hb : (g == k) = false := beq_eq_false_iff_ne.mpr h
        simp only [List.lookup, hb, if_neg (fun e : g = f => h (e.trans hk.symm))]
    · rw [if_neg hk]
      by_cases h : g = k
      · have hb : (g == k) = true := beq_iff_eq.mpr h
        simp only [List.lookup, hb, if_neg (fun e : g = f => hk (h.symm.trans e))]
      · have hb : (g == k) = false := beq_eq_false_iff_ne.mpr h
        simp only [List.lookup, hb]
        exact ih
theorem keys_putF (f : Str) (v : V) : ∀ fs : List (Str × V), f ∈ (putF f v fs).map (·.1) ∧ ∀ g, g ∈ fs.map (·.1) → g ∈ (putF f v fs).map (·.1)
  | [] => ⟨by simp [putF], fun g h => by simp at h⟩
  | (k, x) :: r => by
    obtain ⟨i1, i2⟩ := keys_putF f v r
    rw [show putF f v ((k, x) :: r) = (if k = f then (k, v) :: r else (k, x) :: putF f v r) from rfl]
    by_cases hk : k = f
    · rw [if_pos hk]
      subst hk
      exact ⟨by simp, fun g h => by simpa using h⟩
    · rw [if_neg hk]
      refine ⟨?_, fun g h => ?_⟩
      · rw [List.map_cons]
        exact List.mem_cons_of_mem _ i1
      · rw [List.map_cons] at h ⊢
        rcases List.mem_cons.mp h with e | e
        · exact List.mem_cons.mpr (.inl e)
        · exact List.mem_cons_of_mem _ (i2 g e)
theorem length_putF (f : Str) (v : V) : ∀ fs : List (Str × V), (putF f v fs).length ≤ fs.length + 1
  | [] => by simp [putF]
  | (k, x) :: r => by
    have ih := length_putF f v r
    rw [show putF f v ((k, x) :: r) = (if k = f then (k, v) :: r else (k, x) :: putF f v r) from rfl]
    by_cases hk : k = f
    · rw [if_pos hk, List.length_cons, List.length_cons]; omega
    · rw [if_neg hk, List.length_cons, List.length_cons]; omega

theorem RelO.some_of {v : V} {o : Option Value} (r : RelO (some v) o) : ∃ u, o = some u ∧ RelV v u := by
  cases o with
  | none => exact (show False from r).elim
  | some u => exact ⟨u, rfl, r⟩
theorem RelO.none_of {o : Option Value} (r : RelO none o) : o = none := by
  cases o with
  | none => rfl
  | some u => exact (show False from r).elim
theorem handed_of {v : V} {u : Value} (r : RelV v u) : PySem.W.handedIn u = true := by
  cases v with
  | non => cases (show u = Value.none from r); rfl
  | bl b => cases (show u = Value.bool b from r); rfl
  | int i => obtain ⟨t, e⟩ := (show ∃ t, u = Value.int i t from r); cases e; rfl
  | str x => obtain ⟨t, e⟩ := (show ∃ t, u = Value.str x t from r); cases e; rfl
  | byt b => obtain ⟨t, e⟩ := (show ∃ t, u = Value.bytes b t from r); cases e; rfl
  | flt b => obtain ⟨t, e⟩ := (show ∃ t, u = Value.float b t from r); cases e; rfl
  | ref a => cases (show u = Value.ref a from r); rfl
  | ty n => cases (show u = Value.type n from r); rfl

section
variable {P : Program} {w : World} {H H' : Hp} {h h' : Heap} {a C dx : Addr} {fs fs' : List (Str × V)}
theorem ins_get (hok : HOk P w H h) (e : H a = some (.ins C dx fs)) : ∃ mA, ObjM h a dx C mA ∧ (∀ f, RelO (fs.lookup f) (mA f)) ∧ PySem.Within mA (fs.map (·.1)) ∧ fs.length ≤ 1000 ∧ H dx = some (.own a) := by
  obtain ⟨d, z, ne, ob, mA, n, r, q⟩ := (show ObjOk P w H h a (.ins C dx fs) from hok a _ e)
  exact ⟨mA, ⟨ob, n, ne⟩, r, q, z, d⟩
end

structure Cls (K : PySem.W.Frag) (C : Addr) : Prop where
  pg : PySem.W.plainGet K C Str.empty = true
  hd : PySem.W.hasDictIn K C = true
  po : PySem.W.plainOver K C = true
  sa : PySem.W.findIn K (.ref C) "__setattr__" = some (some (.builtin "object.__setattr__"))
theorem Cls.get {K : PySem.W.Frag} {C : Addr} (c : Cls K C) (f : Str) : PySem.W.plainGet K C f = true := c.pg
/-- no class of it has the name -/
def NoAttr (K : PySem.W.Frag) (C : Addr) (f : Str) : Prop := PySem.W.findIn K (.ref C) f = some none
theorem NoAttr.taker {K : PySem.W.Frag} {C : Addr} {f : Str} (n : NoAttr K C f) : PySem.W.takerIn K C f = some none := by
  unfold PySem.W.takerIn
  rw [show PySem.W.findIn K (.ref C) f = some none from n]
  rfl
/-- a method: a plain def of the class or of one above it -/
structure Meth (K : PySem.W.Frag) (C : Addr) (m : Str) (f : Addr) : Prop where
  at_ : PySem.W.findIn K (.ref C) m = some (some (.ref f))
  fn : PySem.W.isFn K (.ref f) = true
  kp : PySem.W.keepIn K (.ref f) = true

section
variable {X : Cx} {pins : List (Addr × Obj)} {σ : St} {H : Hp} {s : Shared} {a C dx : Addr} {fs : List (Str × V)} {f : Str} {v : V} {A : Around} {E : Value → Shared → Prop}

theorem getattr_ok {b : Bool} {Q : Value → Shared → Prop} (I : Inv X pins σ H s) (e : H a = some (.ins C dx fs)) (c : Cls X.K C) (n : NoAttr X.K C f) (l : fs.lookup f = some v)
    (h : ∀ u s', Inv X pins σ H s' → RelV v u → Q u s') : wpAny (model X.prog X.w) A (getAttr (.ref a) f b) Q E s := by
  obtain ⟨mA, O, r, _, _, _⟩ := ins_get I.hok e
  obtain ⟨u, hu, ru⟩ := RelO.some_of (v := v) (o := mA f) (by rw [← l]; exact r f)
  exact get_map I.kIn O (c.get f) c.hd n hu (handed_of ru) (h u _ (I.tok _) ru)


theorem getmeth_ok {m : Str} {g : Addr} {pl : Sem Bool} {Q : Value × List Value → Shared → Prop} (I : Inv X pins σ H s) (e : H a = some (.ins C dx fs)) (c : Cls X.K C) (k : Meth X.K C m g) (l : fs.lookup m = none)
    (h : Q (.ref g, [.ref a]) s) : wpAny (model X.prog X.w) A (getMethod (.ref a) m pl) Q E s := by
  obtain ⟨mA, O, r, _, _, _⟩ := ins_get I.hok e
  have hn : mA m = none := RelO.none_of (by rw [← l]; exact r m)
  exact get_meth I.kIn O (c.get m) k.at_ k.fn hn h

theorem setattr_ok {y : V} {u : Value} {Q : Unit → Shared → Prop} (I : Inv X pins σ H s) (e : H a = some (.ins C dx fs)) (c : Cls X.K C) (n : NoAttr X.K C f) (hl : fs.length < 1000) (ry : RelV y u)
    (h : ∀ s', Inv X pins σ (upd H a (.ins C dx (putF f y fs))) s' → Q () s') : wpAny (model X.prog X.w) A (setAttr (.ref a) f u) Q E s := by
  obtain ⟨mA, O, r, wi, _, ho⟩ := ins_get I.hok e
  have hz : (fs.map (·.1)).length ≤ sizeLine := by rw [List.length_map, sizeLine_eq]; omega
  refine set_map I.kIn O c.sa c.po n.taker c.hd wi hz fun h' O' sb => h _ ?_
  have hd : ∃ o, h'.get? dx = some o := let ⟨o, _, _, e', _⟩ := O'.ns; ⟨o, e'⟩
  refine I.write (x := a) (e := dx) (by rw [e]; exact True.intro) (.inr ho) (fun b q hb z => (sb.2 b hb).trans z) hd ?_
  refine ⟨by rw [upd_ne O.ne]; exact ho, ?_, O.ne, O'.obj, _, O'.ns, fun g => ?_, fun g hg => ?_⟩
  · have := length_putF f y fs; omega
  · show RelO ((putF f y fs).lookup g) (if g = f then some u else mA g)
    rw [lookup_putF]
    by_cases q : g = f
    · rw [if_pos q, if_pos q]; exact ry
    · rw [if_neg q, if_neg q]; exact r g
  · by_cases q : g = f
    · rw [q]; exact (keys_putF f y fs).1
    · refine (keys_putF f y fs).2 g (wi g fun z => hg ?_)
      show (if g = f then some u else mA g) = none
      rw [if_neg q]; exact z

/-- a new instance, tracked, without attributes -/
theorem Inv.made (I : Inv X pins σ H s) : Inv X pins σ (upd (upd H s.heap.objs.size (.own (s.heap.objs.size + 1))) (s.heap.objs.size + 1) (.ins C s.heap.objs.size []))
    { s with heap := (s.heap.push PySem.W.emptyDict).push (PySem.W.instObj C s.heap.objs.size) } := by
  have e1 : (s.heap.push PySem.W.emptyDict).get? s.heap.objs.size = some PySem.W.emptyDict := Heap.get?_push_size s.heap rfl
  have e2 : ((s.heap.push PySem.W.emptyDict).push (PySem.W.instObj C s.heap.objs.size)).get? (s.heap.objs.size + 1) = some (PySem.W.instObj C s.heap.objs.size) := by
    have := Heap.get?_push_size (s.heap.push PySem.W.emptyDict) (o := PySem.W.instObj C s.heap.objs.size) rfl
    rwa [Heap.size_push] at this
  have e3 : (s.heap.push PySem.W.emptyDict).Ns s.heap.objs.size (fun _ => none) := ⟨PySem.W.emptyDict, #[], _, e1, rfl, (fun e he => absurd he (by simp)), fun _ => rfl⟩
  have I1 := I.laid (a := s.heap.objs.size) (o := .own (s.heap.objs.size + 1)) (h' := s.heap.push PySem.W.emptyDict) (t' := s.toks) (fun b u q => Heap.get?_push_of_some _ q) (Nat.le_refl _) ⟨_, e1⟩
  refine I1.laid (a := s.heap.objs.size + 1) (o := .ins C s.heap.objs.size []) (t' := s.toks) (fun b u q => Heap.get?_push_of_some _ q) (Nat.le_of_eq (Heap.size_push _ _)) ?_
  have ne : s.heap.objs.size ≠ s.heap.objs.size + 1 := Nat.ne_of_lt (Nat.lt_succ_self _)
  refine ⟨by rw [upd_ne ne, upd_same], Nat.zero_le _, ne, e2, fun _ => none, (Heap.Ns1.of_empty e3).at fun o q => Heap.get?_push_of_some _ q, fun _ => True.intro, fun y hy => absurd rfl hy⟩

/-- e.f where nothing but the object is asked: through attributeBase (super) and the last hold -/
theorem attr_of {prog : Program} {w : World} {env : Env} {e : Expr} {f : Str} {pos : Pos} {s : Shared} {Q : Value → Shared → Prop} (hb : attributeBase e f env (eval e env) = eval e env)
    (h : wpAny (model prog w) A (eval e env) (fun o s₁ => wpAny (model prog w) A (getAttr o f true) Q E s₁) E s) : wpAny (model prog w) A (eval (.Attribute e f pos) env) Q E s :=
  Attribute_any_ h (by rw [arm_eval_Attribute, hb])
end

/-- e.f, an attribute of the instance -/
def tFld (K : PySem.W.Frag) (ta : TE) (f : Str) : TE := fun σ H Q => ta σ H fun x H1 => ∃ a C dx fs v, x = .ref a ∧ H1 a = some (.ins C dx fs) ∧ Cls K C ∧ NoAttr K C f ∧ fs.lookup f = some v ∧ Q v H1
/-- e.f = value -/
def sFld (K : PySem.W.Frag) (ta tv : TE) (f : Str) : TS := fun D σ H => tv σ H fun y H1 => ta σ H1 fun x H2 => ∃ a C dx fs, x = .ref a ∧ H2 a = some (.ins C dx fs) ∧ Cls K C ∧ NoAttr K C f ∧ fs.length < 1000 ∧
  D.nx σ (upd H2 a (.ins C dx (putF f y fs)))
/-- an augmented operator on two values -/
def InOp (X : Cx) (op : Operator) (rd : V → V → Hp → VK → Prop) : Prop :=
  ∀ (pins : List (Addr × Obj)) (s : Shared) (σ : St) (H : Hp) (x y : V) (u v : Value) (Q : VK), Inv X pins σ H s → RelV x u → RelV y v → rd x y H Q → wpAny (model X.prog X.w) X.A (inplaceOp op u v) (EP X pins σ Q) X.xe s
/-- e.f op= value -/
def sFldAug (K : PySem.W.Frag) (ta tv : TE) (rd : V → V → Hp → VK → Prop) (f : Str) : TS := fun D σ H => ta σ H fun x H1 => ∃ a C dx fs v, x = .ref a ∧ H1 a = some (.ins C dx fs) ∧ Cls K C ∧ NoAttr K C f ∧ fs.lookup f = some v ∧
  tv σ H1 fun y H2 => rd v y H2 fun z H3 => ∃ dx' fs', H3 a = some (.ins C dx' fs') ∧ fs'.length < 1000 ∧ D.nx σ (upd H3 a (.ins C dx' (putF f z fs')))

section
variable {X : Cx} {o e value : Expr} {f : Str} {pos pos' tpos : Pos} {ta tv : TE}
theorem pe_fld (he : PE X e ta) (hb : attributeBase e f X.env (eval e X.env) = eval e X.env) : PE X (.Attribute e f pos) (tFld X.K ta f) := by
  intro pins s σ H Q I h
  refine attr_of hb (thn (he pins s σ H _ I h) fun u s1 ⟨x, H1, I1, rx, a, C, dx, fs, v, ex, ea, c, n, l, q⟩ => ?_)
  subst ex
  obtain rfl : u = Value.ref a := rx
  exact getattr_ok I1 ea c n l fun u' s2 I2 ru => ⟨v, H1, I2, ru, q⟩
theorem ps_fld (ha : PE X o ta) (hv : PE X value tv) (hs : swapsWith value (some (.Attribute o f pos')) pos.line X.env = pure false) : PS X (.Assign [.Attribute o f pos'] value pos) (sFld X.K ta tv f) := by
  intro pins s σ H D I h
  refine plainObj_wpAny_Assign_Attribute (thn (hv pins s σ H _ I h) fun u s1 ⟨y, H1, I1, ry, q⟩ => thn (ha pins s1 σ H1 _ I1 q) fun ov s2 ⟨x, H2, I2, rx, a, C, dx, fs, ex, ea, c, n, l, q2⟩ => ?_) hs
  subst ex
  obtain rfl : ov = Value.ref a := rx
  exact setattr_ok I2 ea c n l ry fun s3 I3 => ⟨σ, _, I3, q2⟩
theorem ps_fldaug {op : Operator} {rd : V → V → Hp → VK → Prop} (ha : PE X o ta) (hv : PE X value tv) (hop : InOp X op rd) : PS X (.AugAssign (.Attribute o f tpos) op value pos) (sFldAug X.K ta tv rd f) := by
  intro pins s σ H D I h
  refine wpAny_AugAssign_AttributeAny (thn (ha pins s σ H _ I h) fun ov s1 ⟨x, H1, I1, rx, a, C, dx, fs, v, ex, ea, c, n, l, q⟩ => ?_)
  subst ex
  obtain rfl : ov = Value.ref a := rx
  refine getattr_ok I1 ea c n l fun u s2 I2 ru => thn (hv pins s2 σ H1 _ I2 q) fun w3 s3 ⟨y, H2, I3, ry, q3⟩ => thn (hop pins s3 σ H2 v y u w3 _ I3 ru ry q3) fun w4 s4 ⟨z, H3, I4, rz, dx', fs', ea', l', q4⟩ => ?_
  exact setattr_ok I4 ea' c n l' rz fun s5 I5 => ⟨σ, _, I5, q4⟩
def rAdd : V → V → Hp → VK → Prop := fun x y H Q => ∃ i j, x = .int i ∧ y = .int j ∧ Q (.int (i + j)) H
theorem in_add : InOp X .Add rAdd := by
  rintro pins s σ H x y u v Q I rx ry ⟨i, j, rfl, rfl, q⟩
  obtain ⟨t, rfl⟩ := (show ∃ t, u = Value.int i t from rx)
  obtain ⟨t', rfl⟩ := (show ∃ t', v = Value.int j t' from ry)
  exact PyProof.Rows.iadd_int ⟨.int (i + j), H, I.tok _, ⟨_, rfl⟩, q⟩

end

section
variable {X : Cx} {pins : List (Addr × Obj)} {σ : St} {H : Hp} {s : Shared} {A : Around} {E : Value → Shared → Prop} {Q : Value → Shared → Prop} {c : Value} {b : Bool}
end
end L2

namespace L2
open PySem PySem.Spec PyProof.Rows

structure Room (k : Nat) (A : Around) : Prop where
  hd : A.handled = none
  dp : A.depth + 3 * k + 5 < recursionLimit
  un : A.units + 16 * k + 200 < cLine
theorem Room.mono {j k : Nat} {A : Around} (r : Room k A) (h : j ≤ k) : Room j A := ⟨r.hd, by have := r.dp; omega, by have := r.un; omega⟩
theorem Room.deeper {k : Nat} {A : Around} (r : Room (k + 1) A) (env : Env) : Room k (A.deeper env) :=
  ⟨r.hd, by have := r.dp; show A.depth + 1 + 3 * k + 5 < _; omega, by have := r.un; show A.units + 3 + 16 * k + 200 < _; omega⟩
theorem Room.in1 {k : Nat} {A : Around} (r : Room (k + 1) A) : Room k A.in1 :=
  ⟨r.hd, by have := r.dp; show A.depth + 3 * k + 5 < _; omega, by have := r.un; show A.units + 1 + 16 * k + 200 < _; omega⟩
theorem make_depth {A : Around} {C : Addr} {us : List Value} {kw : List (Str × Value)} : (A.under (.builtin "type.__call__" ⟨.ref C :: us, kw⟩)).depth = A.depth + 1 := by
  first | rfl | simp [Around.under, Code.weight, Code.isCreation, Code.isGuard, Code.isCaller, Code.frames, Code.isFrame, guardIds]
theorem make_units {A : Around} {C : Addr} {us : List Value} {kw : List (Str × Value)} : (A.under (.builtin "type.__call__" ⟨.ref C :: us, kw⟩)).units = A.units + 1 := by
  first | rfl | simp [Around.under, Code.cUnits, Code.frames, Code.isFrame]
theorem Room.make {k : Nat} {A : Around} (r : Room (k + 1) A) (C : Addr) (us : List Value) (kw : List (Str × Value)) : Room k (A.under (.builtin "type.__call__" ⟨.ref C :: us, kw⟩)) :=
  ⟨r.hd, by have := r.dp; rw [make_depth]; omega, by have := r.un; rw [make_units]; omega⟩
theorem Room.depth {k : Nat} {A : Around} (r : Room k A) : A.depth < recursionLimit := by have := r.dp; omega
theorem Room.units {k : Nat} {A : Around} (r : Room k A) : A.units + 64 < cLine := by have := r.un; omega

def tNil : TA := fun _ H Q => Q [] H
def tCons (ta : TE) (tr : TA) : TA := fun σ H Q => ta σ H fun x H1 => tr σ H1 fun xs H2 => Q (x :: xs) H2
section
variable {X : Cx} {e : Expr} {es : List Expr} {te : TE} {t : TA} {pos : Pos}
theorem pa_nil : PA X [] tNil := fun _ _ _ _ H Q I h => Calls.spliced_nil ⟨[], H, I, .nil, h⟩
theorem pa_cons (ha : PE X e te) (hr : PA X es t) (hs : starEach (e :: es) X.env = (false, eval e X.env) :: starEach es X.env := by rfl) : PA X (e :: es) (tCons te t) := by
  intro pos pins s σ H Q I h
  rw [hs]
  show wpAny _ _ (spliced ((false, eval e X.env) :: backTo pos (starEach es X.env))) _ _ s
  refine Calls.spliced_cons (thn (ha pins s σ H _ I h) fun u s1 ⟨x, H1, I1, r1, q1⟩ => ?_)
  exact thn (hr pos pins s1 σ H1 _ I1 q1) fun us s2 ⟨xs, H2, I2, r2, q2⟩ => ⟨x :: xs, H2, I2, .cons r1 r2, q2⟩

/-- a tuple, a list of written items -/
def tTup (t : TA) : TE := fun σ H Q => t σ H fun xs H1 => xs.length ≤ sizeLine ∧ ∀ p, H1 p = none → Q (.ref p) (upd H1 p (.tup xs))
def tLst (t : TA) : TE := fun σ H Q => t σ H fun xs H1 => xs.length ≤ sizeLine ∧ ∀ p, H1 p = none → Q (.ref p) (upd H1 p (.lst xs))
theorem pe_tup {x1} (h : PA X es t) : PE X (.Tuple es x1 pos) (tTup t) := by
  intro pins s σ H Q I hq
  refine wpAny_Tuple_spliced (thn (h pos pins s σ H _ I hq) fun us s1 ⟨xs, H1, I1, r, z, q⟩ => ⟨by rw [← r.length]; exact z, ?_⟩)
  have hf : H1 s1.heap.objs.size = none := I1.hok.fresh (Nat.le_refl _)
  refine ⟨.ref s1.heap.objs.size, upd H1 s1.heap.objs.size (.tup xs), I1.laid (t' := s1.toks) (fun b u e => Heap.get?_push_of_some _ e) (Nat.le_refl _) ?_, rfl, q _ hf⟩
  exact ⟨z, us, r, ⟨_, Heap.get?_push_size _ rfl, rfl, _, rfl⟩⟩
theorem pe_lst (h : PA X es t) : PE X (.List es pos) (tLst t) := by
  intro pins s σ H Q I hq
  refine wpAny_List_spliced (thn (h pos pins s σ H _ I hq) fun us s1 ⟨xs, H1, I1, r, z, q⟩ => ⟨by rw [← r.length]; exact z, ?_⟩)
  have hf : H1 s1.heap.objs.size = none := I1.hok.fresh (Nat.le_refl _)
  refine ⟨.ref s1.heap.objs.size, upd H1 s1.heap.objs.size (.lst xs), I1.laid (t' := s1.toks) (fun b u e => Heap.get?_push_of_some _ e) (Nat.le_refl _) ?_, rfl, q _ hf⟩
  exact ⟨z, us, 0, r, Heap.get?_push_size _ rfl⟩
end

/-- a def's promise: the bound arguments in the parameters' order, the heap, the wanted end, the wanted exception -/
abbrev Sp := List V → Hp → VK → XK → Prop
/-- how an exception lies behind a call (file 08 gives it): the callers' frames, abstract heap and state ahead of the call, the wish, the exception, the state -/
abbrev CXT := List Env → Hp → Shared → XK → Value → Shared → Prop

/-- the state at a call -/
structure Env0 (P : Program) (w : World) (K : PySem.W.Frag) (mg : Str → Option Value) (base : Heap) (A : Around) (outer : List Env) (s : Shared) (H : Hp) : Prop where
  frames : A.frames = some outer
  mod : Mod K mg base
  bs : ∀ b o, base.get? b = some o → s.heap.get? b = some o ∧ H b = none
  bsz : base.objs.size ≤ s.heap.objs.size
  funs : s.heap.FunFrames base outer
  frf : ∀ b ∈ frs outer, H b = none
  hok : HOk P w H s.heap
  bare : AllBare s.gens
/-- a call's end -/
def CE (outer : List Env) (P : Program) (w : World) (H : Hp) (s : Shared) (Q : VK) (u : Value) (s' : Shared) : Prop :=
  ∃ v H', s'.os = s.os ∧ AllBare s'.gens ∧ Un (frs outer) [] H H' s.heap s'.heap ∧ HOk P w H' s'.heap ∧ RelV v u ∧ Q v H'
def CR (CX : CXT) (outer : List Env) (P : Program) (w : World) (H : Hp) (s : Shared) (Q : VK) (E : XK) (r : Result) (s' : Shared) : Prop :=
  match r with
  | .ok (.ret u) => CE outer P w H s Q u s'
  | .ok _ => False
  | .error e => CX outer H s E e s'
structure FnOk (P : Program) (w : World) (K : PySem.W.Frag) (mg : Str → Option Value) (base : Heap) (CX : CXT) (k : Nat) (f : Addr) (fd : FuncData) (ps : List Str) (sp : Sp) : Prop where
  len : ∀ vs H Q E, sp vs H Q E → vs.length = ps.length
  run : ∀ (A : Around) (outer : List Env) (s : Shared) (H : Hp) (args : Args) (us : List Value) (vs : List V) (Q : VK) (E : XK), Room k A → Env0 P w K mg base A outer s H → BindsTo s fd args (ps.zip us) → Vals vs us → sp vs H Q E →
    codeAny (model P w) A (.call (.ref f) args) (CR CX outer P w H s Q E) s

theorem Env0.make {P : Program} {w : World} {K : PySem.W.Frag} {mg : Str → Option Value} {base : Heap} {A : Around} {outer : List Env} {s : Shared} {H : Hp} (e : Env0 P w K mg base A outer s H) (C : Addr) (us : List Value) (kw : List (Str × Value)) :
    Env0 P w K mg base (A.under (.builtin "type.__call__" ⟨.ref C :: us, kw⟩)) outer s H := ⟨by first | exact e.frames | (simpa [Around.under, Code.envs, Code.isFrame, pushEnvs] using e.frames), e.mod, e.bs, e.bsz, e.funs, e.frf, e.hok, e.bare⟩
theorem Env0.in1 {P : Program} {w : World} {K : PySem.W.Frag} {mg : Str → Option Value} {base : Heap} {A : Around} {outer : List Env} {s : Shared} {H : Hp} (e : Env0 P w K mg base A outer s H) :
    Env0 P w K mg base A.in1 outer s H := ⟨e.frames, e.mod, e.bs, e.bsz, e.funs, e.frf, e.hok, e.bare⟩

section
variable {X : Cx} {pins : List (Addr × Obj)} {σ : St} {H : Hp} {s s' : Shared}
/-- from a body: what a callee wants -/
theorem Inv.env0 (I : Inv X pins σ H s) : Env0 X.prog X.w X.K X.mg X.base X.A X.stack s H :=
  ⟨I.ok.frames, I.ok.mod, I.bs, Nat.le_trans I.ok.bsz I.sz, I.stack, I.stkFree, I.hok, I.bare⟩
/-- behind a call -/
theorem Inv.after {Q : VK} {u : Value} (I : Inv X pins σ H s) (h : CE X.stack X.prog X.w H s Q u s') : EP X pins σ Q u s' := by
  obtain ⟨v, H', os, bare, un, hok, r, q⟩ := h
  obtain ⟨hh, g, d, t, os'⟩ := s'
  obtain rfl : os' = s.os := os
  exact ⟨v, H', I.call (h' := hh) (g' := g) (d' := d) (t' := t) (ch := []) un hok bare (fun b z => absurd z (by simp)), r, q⟩
end

/-- f(..): the written arguments, then the defaults dvs; E: what is wanted of an exception -/
def tCall (sp : Sp) (dvs : List V) (E : XK) (t : TA) : TE := fun σ H Q => t σ H fun vs H1 => sp (vs ++ dvs) H1 Q E
/-- o.m(..) of an instance of the class at C -/
def tMeth (C : Addr) (m : Str) (sp : Sp) (dvs : List V) (E : XK) (ta : TE) (t : TA) : TE := fun σ H Q => ta σ H fun x H1 => ∃ a dx fs, x = .ref a ∧ H1 a = some (.ins C dx fs) ∧ fs.lookup m = none ∧
  t σ H1 fun vs H2 => sp (x :: (vs ++ dvs)) H2 Q E
/-- C(..): a new instance and its dict, then __init__ -/
def tMake (C : Addr) (sp : Sp) (dvs : List V) (E : XK) (t : TA) : TE := fun σ H Q => t σ H fun vs H1 => ∀ x dx, H1 x = none → H1 dx = none → dx ≠ x →
  sp (.ref x :: (vs ++ dvs)) (upd (upd H1 dx (.own x)) x (.ins C dx [])) (fun v H2 => v = .non ∧ Q (.ref x) H2) E

/-- how the parameters are bound: us the positional arguments, kw the keywords' values by name, ds the defaults that fill up -/
def Binds (K : PySem.W.Frag) (fd : FuncData) (ps : List Str) (ds : List Value) : Prop :=
  ∀ (s : Shared) (us : List Value), K.In s.heap → (us ++ ds).length = ps.length → BindsTo s fd ⟨us, []⟩ (ps.zip (us ++ ds))
/-- every parameter is given -/
theorem Binds.all {K : PySem.W.Frag} {fd : FuncData} {ps : List Str} (h : ∀ us : List Value, us.length = ps.length → bindArgs fd ⟨us, []⟩ = pure (ps.zip us)) : Binds K fd ps [] := fun s us _ hl => by
  rw [List.append_nil] at hl ⊢
  exact .of_eq (h us hl)

/-- an exception of a callee reaches what this body wants of exceptions -/
def Passes (CX : CXT) (X : Cx) (E : XK) : Prop := ∀ (pins : List (Addr × Obj)) (σ : St) (H : Hp) (s : Shared) (e : Value) (s' : Shared), Inv X pins σ H s → CX X.stack H s E e s' → X.xe e s'

section
variable {X : Cx} {CX : CXT} {k : Nat} {f C : Addr} {fd : FuncData} {ps : List Str} {sp : Sp} {dvs : List V} {ds : List Value} {E : XK} {x m : Str} {p pos apos : Pos} {e o : Expr} {es : List Expr} {ta : TE} {t : TA}

/-- the callee runs -/
theorem run_fn {pins : List (Addr × Obj)} {σ : St} {H : Hp} {s : Shared} {Q : VK} {us : List Value} {vs : List V} (F : FnOk X.prog X.w X.K X.mg X.base CX k f fd ps sp) (hr : Room k X.A) (hb : Binds X.K fd ps ds) (hd : Vals dvs ds) (hx : Passes CX X E)
    (I : Inv X pins σ H s) (r : Vals vs us) (h : sp (vs ++ dvs) H Q E) : wpAny (model X.prog X.w) X.A (call (.ref f) us) (EP X pins σ Q) X.xe s := by
  have r2 : Vals (vs ++ dvs) (us ++ ds) := r.append hd
  have hl : (us ++ ds).length = ps.length := by rw [← r2.length]; exact F.len _ _ _ _ h
  refine wpAny_call (codeAny_mono (F.run X.A X.stack s H ⟨us, []⟩ (us ++ ds) (vs ++ dvs) Q E hr I.env0 (hb s us I.kIn hl) r2 h) fun r s' hq => ?_)
  cases r with
  | error e => exact hx pins σ H s e s' I hq
  | ok fl =>
    cases fl with
    | ret u => exact I.after hq
    | next => exact False.elim hq
    | brk => exact False.elim hq
    | cont => exact False.elim hq

theorem pe_call (F : FnOk X.prog X.w X.K X.mg X.base CX k f fd ps sp) (hr : Room k X.A) (hg : Gl X x) (hm : X.mg x = some (.ref f)) (hk : PySem.W.keepIn X.K (.ref f) = true) (hb : Binds X.K fd ps ds) (hd : Vals dvs ds) (hx : Passes CX X E)
    (ha : PA X (e :: es) t) (hdb : (x == ("__debug__" : Str)) = false := by decide) (he : starEach (e :: es) X.env = (false, eval e X.env) :: starEach es X.env := by rfl) (hpl : (backTo pos (starEach es X.env)).any (·.1) = false := by rfl) :
    PE X (.Call (.Name x p) (e :: es) [] pos) (tCall sp dvs E t) := by
  intro pins s σ H Q I h
  refine wpAny_Call_Name_kw (ld_glob I hg hm ?_ hdb)
  refine PySem.W.callWith_K (h₀ := X.base) I.ok.mod.kin hk (thn (ha pos pins s σ H _ I h) fun us s1 ⟨vs, H1, I1, r, q⟩ => ⟨I1.kIn, ?_⟩) he hpl
  exact run_fn F hr hb hd hx I1 r q

/-- o.m(e, ..) -/
theorem pe_meth {pl : Sem Bool} (he : PE X o ta) (c : Cls X.K C) (hm : Meth X.K C m f) (F : FnOk X.prog X.w X.K X.mg X.base CX k f fd ps sp) (hr : Room k X.A) (hb : Binds X.K fd ps ds) (hd : Vals dvs ds) (hx : Passes CX X E) (ha : PA X (e :: es) t)
    (hst : starEach (e :: es) X.env = (false, eval e X.env) :: starEach es X.env := by rfl) (hpl : (backTo pos (starEach es X.env)).any (·.1) = false := by rfl)
    (ht : eval (.Call (.Attribute o m apos) (e :: es) [] pos) X.env = (do
      let ov ← eval o X.env
      standAt apos.atName
      let (f, first) ← holding [ov] (getMethod ov m pl)
      callWith pos f first (backTo pos (starEach (e :: es) X.env)) (backToKw pos (keywordEach [] X.env))) := by rfl) :
    PE X (.Call (.Attribute o m apos) (e :: es) [] pos) (tMeth C m sp dvs E ta t) := by
  intro pins s σ H Q I h
  refine PySem.W.methodCall_KW (pl := pl) (thn (he pins s σ H _ I h) fun u s1 ⟨x, H1, I1, rx, a, dx, fs, ex, ea, l, q⟩ => ?_) ht
  subst ex
  obtain rfl : u = Value.ref a := rx
  refine getmeth_ok I1 ea c hm l ?_
  refine PySem.W.callWith_K (first := [.ref a]) (h₀ := X.base) I.ok.mod.kin hm.kp (thn (ha pos pins s1 σ H1 _ I1 q) fun us s2 ⟨vs, H2, I2, r, q2⟩ => ⟨I2.kIn, ?_⟩) hst hpl
  exact run_fn (us := .ref a :: us) (vs := .ref a :: vs) F hr hb hd hx I2 (.cons rfl r) q2
/-- o.m() -/
theorem pe_meth0 {pl : Sem Bool} (he : PE X o ta) (c : Cls X.K C) (hm : Meth X.K C m f) (F : FnOk X.prog X.w X.K X.mg X.base CX k f fd ps sp) (hr : Room k X.A) (hb : Binds X.K fd ps ds) (hd : Vals dvs ds) (hx : Passes CX X E)
    (ht : eval (.Call (.Attribute o m apos) [] [] pos) X.env = (do
      let ov ← eval o X.env
      standAt apos.atName
      let (f, first) ← holding [ov] (getMethod ov m pl)
      callWith pos f first (backTo pos (starEach [] X.env)) (backToKw pos (keywordEach [] X.env))) := by rfl) :
    PE X (.Call (.Attribute o m apos) [] [] pos) (tMeth C m sp dvs E ta tNil) := by
  intro pins s σ H Q I h
  refine PySem.W.methodCall_KW (pl := pl) (thn (he pins s σ H _ I h) fun u s1 ⟨x, H1, I1, rx, a, dx, fs, ex, ea, l, q⟩ => ?_) ht
  subst ex
  obtain rfl : u = Value.ref a := rx
  refine getmeth_ok I1 ea c hm l ?_
  exact PySem.W.callWith_K0 (first := [.ref a]) I1.kIn hm.kp (run_fn (us := [.ref a]) (vs := [.ref a]) F hr hb hd hx I1 (.cons rfl .nil) q)

/-- what a class must have to be made -/
structure Mk (K : PySem.W.Frag) (C f : Addr) : Prop where
  makes : PySem.W.makesIn K C = true
  init : PySem.W.findIn K (.ref C) "__init__" = some (some (.ref f))
  fn : PySem.W.isFn K (.ref f) = true
  kp : PySem.W.keepIn K (.ref C) = true

theorem run_make {pins : List (Addr × Obj)} {σ : St} {H : Hp} {s : Shared} {Q : VK} {us : List Value} {vs : List V} (M : Mk X.K C f) (F : FnOk X.prog X.w X.K X.mg X.base CX k f fd ps sp) (hr : Room (k + 1) X.A) (hb : Binds X.K fd ps ds) (hd : Vals dvs ds)
    (hx : Passes CX X E) (I : Inv X pins σ H s) (r : Vals vs us)
    (h : ∀ x dx, H x = none → H dx = none → dx ≠ x → sp (.ref x :: (vs ++ dvs)) (upd (upd H dx (.own x)) x (.ins C dx [])) (fun v H2 => v = .non ∧ Q (.ref x) H2) E) :
    wpAny (model X.prog X.w) X.A (call (.ref C) us) (EP X pins σ Q) X.xe s := by
  have hq := h (s.heap.objs.size + 1) s.heap.objs.size (I.hok.fresh (Nat.le_succ _)) (I.hok.fresh (Nat.le_refl _)) (Nat.ne_of_lt (Nat.lt_succ_self _))
  have I2 := Inv.made (C := C) I
  have r2 : Vals (V.ref (s.heap.objs.size + 1) :: (vs ++ dvs)) (Value.ref (s.heap.objs.size + 1) :: (us ++ ds)) := .cons rfl (r.append hd)
  have hl : (Value.ref (s.heap.objs.size + 1) :: us ++ ds).length = ps.length := by
    have e := r2.length
    rw [F.len _ _ _ _ hq] at e
    exact e.symm
  refine wpAny_call (make_map (f := f) I.kIn M.makes M.init (beq_iff_eq.mp M.fn) (codeAny_mono (F.run _ X.stack _ _ ⟨Value.ref (s.heap.objs.size + 1) :: us, []⟩ (Value.ref (s.heap.objs.size + 1) :: (us ++ ds)) _ _ E (hr.make C us [])
    (I2.env0.make C us []) (hb _ (Value.ref (s.heap.objs.size + 1) :: us) I2.kIn hl) r2 hq) fun r s' hq' => ?_))
  cases r with
  | error e => exact hx pins σ _ _ e s' I2 hq'
  | ok fl =>
    cases fl with
    | ret u =>
      obtain ⟨v, H', I3, rv, ev, q3⟩ := I2.after hq'
      subst ev
      exact ⟨rv, ⟨V.ref (s.heap.objs.size + 1), H', I3, rfl, q3⟩⟩
    | next => exact False.elim hq'
    | brk => exact False.elim hq'
    | cont => exact False.elim hq'
theorem pe_make (M : Mk X.K C f) (F : FnOk X.prog X.w X.K X.mg X.base CX k f fd ps sp) (hr : Room (k + 1) X.A) (hg : Gl X x) (hm : X.mg x = some (.ref C)) (hb : Binds X.K fd ps ds) (hd : Vals dvs ds) (hx : Passes CX X E)
    (ha : PA X (e :: es) t) (hdb : (x == ("__debug__" : Str)) = false := by decide) (he : starEach (e :: es) X.env = (false, eval e X.env) :: starEach es X.env := by rfl) (hpl : (backTo pos (starEach es X.env)).any (·.1) = false := by rfl) :
    PE X (.Call (.Name x p) (e :: es) [] pos) (tMake C sp dvs E t) := by
  intro pins s σ H Q I h
  refine wpAny_Call_Name_kw (ld_glob I hg hm ?_ hdb)
  refine PySem.W.callWith_K (h₀ := X.base) I.ok.mod.kin M.kp (thn (ha pos pins s σ H _ I h) fun us s1 ⟨vs, H1, I1, r, q⟩ => ⟨I1.kIn, ?_⟩) he hpl
  exact run_make M F hr hb hd hx I1 r q
theorem pe_make0 (M : Mk X.K C f) (F : FnOk X.prog X.w X.K X.mg X.base CX k f fd ps sp) (hr : Room (k + 1) X.A) (hg : Gl X x) (hm : X.mg x = some (.ref C)) (hb : Binds X.K fd ps ds) (hd : Vals dvs ds) (hx : Passes CX X E)
    (hdb : (x == ("__debug__" : Str)) = false := by decide) : PE X (.Call (.Name x p) [] [] pos) (tMake C sp dvs E tNil) := by
  intro pins s σ H Q I h
  refine wpAny_Call_Name_kw (ld_glob I hg hm ?_ hdb)
  exact PySem.W.callWith_K0 I.kIn M.kp (run_make (us := []) M F hr hb hd hx I .nil h)
end

section
variable {X : Cx} {CX : CXT} {k : Nat} {f C : Addr} {fd : FuncData} {ps ks : List Str} {sp : Sp} {E : XK} {x m : Str} {p pos apos kpos : Pos} {e o : Expr} {es : List Expr} {kws : List Keyword} {te ta : TE} {t tk : TA} {nm : Option Str}

variable {g : List Value → List Value → List Value} {gV : List V → List V → List V}
end

/-- names: the parameters first -/
structure FnScope (N P : List Str) (sc : Scope) : Prop where
  kind : sc.kind = .function
  co : sc.isCoroutine = false
  gen : sc.isGenerator = false
  nd : N.Nodup
  pre : N.take P.length = P
  par : ∀ x ∈ P, sc.names.lookup x = some .local ∨ sc.names.lookup x = some .cell
  nofree : ∀ y ∈ sc.names, y.2 ≠ .free

theorem bindL_out {kindOf : Str → Option NameKind} {x : Str} : ∀ {binds : List (Str × Value)} {m : Str → Option Value}, (∀ v, (x, v) ∉ binds) → bindL kindOf binds m x = m x
  | [], _, _ => rfl
  | (n, v) :: r, m, h => by
    unfold bindL
    rw [bindL_out fun w hw => h w (List.mem_cons_of_mem _ hw)]
    split
    · have : x ≠ n := by rintro rfl; exact h v List.mem_cons_self
      simp [this]
    · rfl
theorem bindC_out {kindOf : Str → Option NameKind} {x : Str} : ∀ {binds : List (Str × Value)} {m : Str → Option Value}, (∀ v, (x, v) ∉ binds) → bindC kindOf binds m x = m x
  | [], _, _ => rfl
  | (n, v) :: r, m, h => by
    unfold bindC
    rw [bindC_out fun w hw => h w (List.mem_cons_of_mem _ hw)]
    split
    · rfl
    · have : x ≠ n := by rintro rfl; exact h v List.mem_cons_self
      simp [this]
theorem bindL_get {kindOf : Str → Option NameKind} {x : Str} {v : Value} : ∀ {P : List Str} {vs : List Value} {i : Nat} {m : Str → Option Value}, P.Nodup → P[i]? = some x → vs[i]? = some v → kindOf x = some .local →
    bindL kindOf (P.zip vs) m x = some v
  | [], _, _, _, _, h, _, _ => by simp at h
  | _ :: _, [], _, _, _, _, h, _ => by simp at h
  | p :: P, w :: vs, 0, m, nd, h1, h2, hk => by
    simp at h1 h2; subst h1; subst h2
    show bindL kindOf ((p, w) :: P.zip vs) m p = _
    unfold bindL
    rw [bindL_out fun v hv => (List.nodup_cons.mp nd).1 (List.of_mem_zip hv).1, if_pos hk]
    simp
  | p :: P, w :: vs, i + 1, m, nd, h1, h2, hk => by
    show bindL kindOf ((p, w) :: P.zip vs) m x = _
    unfold bindL
    exact bindL_get (i := i) (List.nodup_cons.mp nd).2 (by simpa using h1) (by simpa using h2) hk
theorem bindC_get {kindOf : Str → Option NameKind} {x : Str} {v : Value} : ∀ {P : List Str} {vs : List Value} {i : Nat} {m : Str → Option Value}, P.Nodup → P[i]? = some x → vs[i]? = some v → kindOf x ≠ some .local →
    bindC kindOf (P.zip vs) m x = some v
  | [], _, _, _, _, h, _, _ => by simp at h
  | _ :: _, [], _, _, _, _, h, _ => by simp at h
  | p :: P, w :: vs, 0, m, nd, h1, h2, hk => by
    simp at h1 h2; subst h1; subst h2
    show bindC kindOf ((p, w) :: P.zip vs) m p = _
    unfold bindC
    rw [bindC_out fun v hv => (List.nodup_cons.mp nd).1 (List.of_mem_zip hv).1, if_neg hk]
    simp
  | p :: P, w :: vs, i + 1, m, nd, h1, h2, hk => by
    show bindC kindOf ((p, w) :: P.zip vs) m x = _
    unfold bindC
    exact bindC_get (i := i) (List.nodup_cons.mp nd).2 (by simpa using h1) (by simpa using h2) hk

/-- the names' values at the entry -/
def start (N : List Str) (vs : List V) : St := vs.map some ++ List.replicate (N.length - vs.length) none

/-- the context of a def's body, at its entry; an exception leaves the frame, then lies as CX says -/
def cxOf (CX : CXT) (P : Program) (w : World) (K : PySem.W.Frag) (mg : Str → Option Value) (base : Heap) (N : List Str) (qual : Str) (scope : Scope) (f : Addr) (cd : Value) (A : Around) (outer : List Env) (s : Shared) (H : Hp) (E : XK) : Cx where
  prog := P
  w := w
  K := K
  mg := mg
  base := base
  A := A.deeper (envOfC qual scope s.heap.objs.size f cd)
  N := N
  s_0 := s
  H_0 := H
  env := envOfC qual scope s.heap.objs.size f cd
  outer := outer
  stack := envOfC qual scope s.heap.objs.size f cd :: outer
  ex := []
  calm := true
  fn := fun _ => true
  pn := []
  xe := fun e s' => wpAny (model P w) (A.deeper (envOfC qual scope s.heap.objs.size f cd)) (leaving (envOfC qual scope s.heap.objs.size f cd) e) (fun _ s'' => CX outer H s E e s'') (fun e' s'' => CX outer H s E e' s'') s'

theorem cell_has {sc : Scope} {n : Nat} {x : Str} (h : sc.names.lookup x = some .cell) : ∃ c, (cellsFrom n sc.names []).lookup x = some c := by
  have q := PySem.W.cellsFrom_some sc.names n [] (.inl h)
  exact Option.isSome_iff_exists.mp q

theorem inv_start {CX : CXT} {P : Program} {w : World} {K : PySem.W.Frag} {mg : Str → Option Value} {base : Heap} {N ps : List Str} {qual : Str} {scope : Scope} {f : Addr} {cd : Value} {A : Around} {outer : List Env} {s s1 : Shared} {H : Hp} {E : XK} {us : List Value} {vs : List V}
    (S : FnScope N ps scope) (hd : A.handled = none) (e0 : Env0 P w K mg base A outer s H) (hl : vs.length = ps.length) (r : Vals vs us)
    (x : InCallC s s.heap.objs.size (bindL (envOfC qual scope s.heap.objs.size f cd).kindOf (ps.zip us) fun _ => none) (cellsFrom (s.heap.objs.size + 1) scope.names []) (bindC (envOfC qual scope s.heap.objs.size f cd).kindOf (ps.zip us) fun _ => none) s1) :
    Inv (cxOf CX P w K mg base N qual scope f cd A outer s H E) [] (start N vs) H s1 := by
  have hpl : ps.length ≤ N.length := by have := congrArg List.length S.pre; rw [List.length_take] at this; omega
  obtain ⟨h1, tk, rfl, hk⟩ := x.done
  have noA : ∀ b : Addr, b ∉ (cxOf CX P w K mg base N qual scope f cd A outer s H E).ex := fun b z => absurd (show b ∈ ([] : List Addr) from z) (by simp)
  refine ⟨⟨e0.mod, S.kind, rfl, rfl, Nat.le_refl _, fun y z c h1 h2 => ?_, fun y hy => ?_, fun y c _ h => ?_, fun _ => hd, Around.frames_deeper e0.frames, .inr ⟨rfl, rfl⟩, fun b z => absurd z (noA b), e0.bs, e0.bsz, fun b _ _ => noA b, fun b z => absurd z (noA b), e0.funs, e0.frf⟩,
    rfl, e0.bare, Un.kept hk, ⟨_, x.toInCall.ns, fun i y v h1 h2 h3 => ?_⟩, fun y c h => ⟨_, x.cell y c h⟩, e0.hok.fresh (Nat.le_refl _), fun y c h => ?_, fun p hp => absurd (show p ∈ ([] : List (Addr × Obj)) from hp) (by simp), e0.hok.kept hk, ?_⟩
  · exact name_of_addr x.apart (PySem.mem_of_lookup h1) (PySem.mem_of_lookup h2)
  · have hy : scope.names.lookup y = some .cell ∨ scope.names.lookup y = some .free := hy
    rcases hy with hy | hy
    · exact cell_has hy
    · exact absurd rfl (S.nofree _ (PySem.mem_of_lookup hy))
  · exact Nat.le_of_lt (x.above y c (PySem.mem_of_lookup h))
  · have hi : i < vs.length := by
      unfold start at h2
      by_cases hi : i < vs.length
      · exact hi
      · rw [List.getElem?_append_right (by simpa using hi)] at h2
        rw [List.getElem?_replicate] at h2
        split at h2 <;> cases h2
    have ha : vs[i]? = some v := by
      unfold start at h2
      rw [List.getElem?_append_left (by simpa using hi), List.getElem?_map] at h2
      cases e : vs[i]? with
      | none => rw [e] at h2; cases h2
      | some a => rw [e] at h2; cases h2; rfl
    obtain ⟨u, hu, rv⟩ := r.get ha
    have hp : ps[i]? = some y := by
      rw [← S.pre, List.getElem?_take_of_lt (by omega)]; exact h1
    have ndP : ps.Nodup := by rw [← S.pre]; exact S.nd.sublist (List.take_sublist _ _)
    refine ⟨u, rv, ?_⟩
    rcases S.par y (List.mem_of_getElem? hp) with k | k
    · exact .inl ⟨k, bindL_get ndP hp hu k⟩
    · obtain ⟨c, e⟩ := cell_has (n := s.heap.objs.size + 1) k
      refine .inr ⟨.inl k, c, e, ?_⟩
      have q := x.cell y c e
      rw [bindC_get ndP hp hu (by show scope.names.lookup y ≠ _; rw [k]; decide)] at q
      exact q
  · exact e0.hok.fresh (Nat.le_of_lt (x.above y c (PySem.mem_of_lookup h)))
  · unfold start
    show _ = N.length
    rw [List.length_append, List.length_map, List.length_replicate]
    omega

/-- THE RULE: a def (or a method) of the text, by its body. The body's reading t is chosen for each entry; it is run at the parameters' values -/
theorem fn_of {CX : CXT} {P : Program} {w : World} {K : PySem.W.Frag} {mg : Str → Option Value} {base : Heap} {k : Nat} {f : Addr} {name qual : Str} {params : Arguments} {body : List Stmt} {scope : Scope} {dV kV doc pm cdv ct oc : Value} {an od : Option Addr}
    {osl : Array (Option Value)} {N ps : List Str} {sp : Sp} (lk : K.lookup f = some ⟨oc, od, .func (PySem.W.fnOf name qual params body scope dV kV doc pm an cdv ct), osl⟩) (hcd : PySem.W.codeIn K cdv qual = true) (S : FnScope N ps scope)
    (len : ∀ vs H Q E, sp vs H Q E → vs.length = ps.length)
    (hbody : ∀ (A : Around) (outer : List Env) (s : Shared) (H : Hp) (vs : List V) (Q : VK) (E : XK), Room k (A.deeper (envOfC qual scope s.heap.objs.size f cdv)) → sp vs H Q E →
      ∃ t, PSs (cxOf CX P w K mg base N qual scope f cdv A outer s H E) body t ∧ t { nx := fun _ H' => Q .non H', rt := Q } (start N vs) H) :
    FnOk P w K mg base CX (k + 1) f (PySem.W.fnOf name qual params body scope dV kV doc pm an cdv ct) ps sp := by
  refine ⟨len, fun A outer s H args us vs Q E hr e0 hb r hsp => ?_⟩
  have hl := len _ _ _ _ hsp
  have KX : K.In s.heap := e0.mod.kin.keeps fun b o e => (e0.bs b o e).1
  have lim : s.heap.NoLimit := e0.mod.nolimit.keeps fun b o e => (e0.bs b o e).1
  have hkind : ∀ y ∈ ps.zip us, scope.names.lookup y.1 = some .local ∨ (scope.names.lookup y.1 = some .cell ∧ ((cellsFrom (s.heap.objs.size + 1) scope.names []).lookup y.1).isSome = true) := fun ⟨n, v⟩ hy => by
    rcases S.par n (List.of_mem_zip hy).1 with q | q
    · exact .inl q
    · exact .inr ⟨q, PySem.W.cellsFrom_some _ _ _ (.inl q)⟩
  refine codeAny_call_function hr.depth (KX _ _ lk) rfl S.co S.gen rfl (PySem.W.codeRec_of KX hcd) (hb _ _ _ _ ?_)
  refine wpAny_newFunctionEnv_cells S.kind hkind fun env he s1 x => ?_
  subst he
  refine ⟨lim.keeps x.toInCall.keep, codeAny_func ?_⟩
  obtain ⟨t, ht, hq⟩ := hbody A outer s H vs Q E (hr.deeper _) hsp
  have I : Inv (cxOf CX P w K mg base N qual scope f cdv A outer s H E) [] (start N vs) H s1 := inv_start S hr.hd e0 hl r x
  refine wpAny_mono (ht [] s1 (start N vs) H _ I hq) (fun fl s' hs => ?_) fun e s' hs => hs
  have fin : ∀ {σ' : St} {H' : Hp} {v : V} {u : Value}, Inv (cxOf CX P w K mg base N qual scope f cdv A outer s H E) [] σ' H' s' → RelV v u → Q v H' → CE outer P w H s Q u s' :=
    fun {σ' H' v u} J rv q => ⟨v, H', J.os, J.bare, J.base, J.hok, rv, q⟩
  cases fl with
  | ret u =>
    obtain ⟨v, σ', H', J, rv, q⟩ := hs
    exact fin J rv q
  | next =>
    obtain ⟨σ', H', J, q⟩ := hs
    exact fin (v := V.non) (u := Value.none) J rfl q
  | brk =>
    obtain ⟨_, _, _, q⟩ := hs
    exact False.elim q
  | cont =>
    obtain ⟨_, _, _, q⟩ := hs
    exact False.elim q
end L2

namespace L2
open PySem PySem.Spec PyProof.Rows
section
variable {X : Cx} {x : Str} {p pos : Pos} {e : Expr} {es : List Expr} {t : TA} {id T : String} {r : List V → Hp → VK → Prop}

def tCB (r : List V → Hp → VK → Prop) (t : TA) : TE := fun σ H Q => t σ H fun vs H1 => r vs H1 Q
/-- f(e, ..), f a built-in function -/
theorem pe_callB (hc : CallR X (.builtin id) r) (hg : Gl X x) (hm : X.mg x = none) (hv : bootBuiltins x = some (.builtin id)) (ha : PA X (e :: es) t) (hn : x ≠ "__name__" := by decide) (hdb : (x == ("__debug__" : Str)) = false := by decide)
    (he : starEach (e :: es) X.env = (false, eval e X.env) :: starEach es X.env := by rfl) (hpl : (backTo pos (starEach es X.env)).any (·.1) = false := by rfl) : PE X (.Call (.Name x p) (e :: es) [] pos) (tCB r t) := by
  intro pins s σ H Q I h
  refine wpAny_Call_Name_kw (ld_blt I hg hm hv ?_ hn hdb)
  exact PyProof.Rows.callWith_builtin1 (thn (ha pos pins s σ H _ I h) fun us s1 ⟨vs, H1, I1, r1, q1⟩ => hc pins s1 σ H1 vs us Q I1 r1 q1) he hpl
end
end L2

namespace HT
open PySem PyProof.Rows



section
open PySem.SeqAt
open PySem.AutoSeq1 (wpAny_loadPart')
open PySem.MeetsSeq PySem.MeetsSeq2 PySem.MeetsSeq3

end

section
variable {prog : Program} {w : World} {A : Around} {E : Value → Shared → Prop} {s : Shared}



/-- a slice's bound as a place among n (d where it is left out) -/
def sIx (n d : Nat) : Option Int → Nat
  | none => d
  | some v => if v < 0 then (v + (n : Int)).toNat else min v.toNat n
theorem sIx_none (n d : Nat) : sIx n d none = d := rfl
theorem sIx_nat (n d k : Nat) : sIx n d (some (k : Int)) = min k n := by
  show (if (k : Int) < 0 then ((k : Int) + (n : Int)).toNat else min (k : Int).toNat n) = min k n
  rw [if_neg (by omega), Int.toNat_natCast]

end
end HT

namespace L2
open PySem PySem.Spec PyProof.Rows

abbrev TO := St → Hp → (Option Int → Hp → Prop) → Prop
/-- a slice's part (left out, or an int) -/
def PO (X : Cx) (e : Option Expr) (t : TO) : Prop :=
  ∀ (pins : List (Addr × Obj)) (s : Shared) (σ : St) (H : Hp) (Q : Option Int → Hp → Prop), Inv X pins σ H s → t σ H Q →
    wpAny (model X.prog X.w) X.A (evalPart e X.env) (fun u s' => ∃ o H', Inv X pins σ H' s' ∧ IsPart u o ∧ Q o H') X.xe s
def tNoPart : TO := fun _ H Q => Q none H
def tPart (t : TE) : TO := fun σ H Q => t σ H fun x H1 => ∃ i, x = .int i ∧ Q (some i) H1


section
variable {X : Cx} {e : Expr} {te : TE} {lo hi : Option Expr} {tl th : TO} {pos p2 : Pos}

theorem po_none : PO X none tNoPart := by
  intro pins s σ H Q I h
  rw [evalPart_none]
  exact wpAny_pure ⟨none, H, I, .none, h⟩
theorem po_some (h : PE X e te) : PO X (some e) (tPart te) := by
  intro pins s σ H Q I hw
  rw [evalPart_some]
  refine thn (h pins s σ H _ I hw) fun u s1 ⟨x, H1, I1, r1, q1⟩ => ?_
  obtain ⟨i, rfl, q⟩ := q1
  obtain ⟨t, rfl⟩ := r1
  exact ⟨some i, H1, I1, .int i t, q⟩

/-- what a slice of a value is, by values: the slice object stands at sl -/
def SlR (X : Cx) (r : V → Option Int → Option Int → Hp → VK → Prop) : Prop :=
  ∀ (pins : List (Addr × Obj)) (s : Shared) (σ : St) (H : Hp) (x : V) (v vl vu : Value) (lo hi : Option Int) (sl : Addr) (Q : VK), Inv X pins σ H s → RelV x v → s.heap.IsSliceOf sl vl vu .none → IsPart vl lo → IsPart vu hi → r x lo hi H Q →
    ∃ T id, typeLookup (.type T) "__getitem__" = pure (some (.builtin id)) ∧ s.TypeIs v T ∧ wpAny (model X.prog X.w) X.A (getItem v (.ref sl)) (EP X pins σ Q) X.xe s
def tSl (r : V → Option Int → Option Int → Hp → VK → Prop) (te : TE) (tl th : TO) : TE := fun σ H Q => te σ H fun x H1 => tl σ H1 fun l H2 => th σ H2 fun u H3 => r x l u H3 Q
/-- a[lo:hi], any a -/
theorem pe_slice {r : V → Option Int → Option Int → Hp → VK → Prop} (hr : SlR X r) (he : PE X e te) (hl : PO X lo tl) (hu : PO X hi th) : PE X (.Subscript e (.Slice lo hi none p2) pos) (tSl r te tl th) := by
  intro pins s σ H Q I h
  refine Subscript_ (thn (he pins s σ H _ I h) fun v s1 ⟨x, H1, I1, r1, q1⟩ => ?_)
  refine wpAny_Slice (thn (hl pins s1 σ H1 _ I1 q1) fun vl s2 ⟨l, H2, I2, pl, q2⟩ => thn (hu pins s2 σ H2 _ I2 q2) fun vu s3 ⟨u, H3, I3, pu, q3⟩ => ?_)
  rw [evalPart_none]
  refine wpAny_pure ?_
  have I4 : Inv X pins σ H3 { s3 with heap := s3.heap.push { cls := .type "slice", data := .fields #[vl, vu, .none] } } := I3.kept (t' := s3.toks) fun b ob q => Heap.get?_push_of_some _ q
  obtain ⟨T, id, hT, ht, hg⟩ := hr pins { s3 with heap := s3.heap.push { cls := .type "slice", data := .fields #[vl, vu, .none] } } σ H3 x v vl vu l u s3.heap.objs.size Q I4 r1 (Heap.IsSliceOf.new ..) pl pu q3
  show wpAny (model X.prog X.w) X.A (subscriptTail e (.Slice lo hi none p2) v (.ref s3.heap.objs.size)) (EP X pins σ Q) X.xe { s3 with heap := s3.heap.push { cls := .type "slice", data := .fields #[vl, vu, .none] } }
  exact tail_any (ops := [.ref s3.heap.objs.size, v]) ht hT hg (by with_unfolding_all rfl)

/-- the items of xs[lo:hi] -/
def cutV (xs : List V) (lo hi : Option Int) : List V := (xs.drop (HT.sIx xs.length 0 lo)).take (HT.sIx xs.length xs.length hi - HT.sIx xs.length 0 lo)
theorem cutV_length (xs : List V) (lo hi : Option Int) : (cutV xs lo hi).length ≤ xs.length := by
  unfold cutV
  rw [List.length_take, List.length_drop]
  omega

end
end L2

namespace L2
open PySem PySem.Spec PyProof.Rows

/-- the place that an index of any sign means -/
def ixN (n : Nat) (i : Int) : Option Nat := if 0 ≤ i then (if i < n then some i.toNat else none) else if -(n : Int) ≤ i then some (i + n).toNat else none
def atI {α : Type} (xs : List α) (i : Int) : Option α := (ixN xs.length i).bind fun j => xs[j]?
theorem ixN_seq {n : Nat} {i : Int} {j : Nat} (h : ixN n i = some j) : seqIndex? i n = some j ∧ j < n ∧ -(n : Int) ≤ i ∧ i < n := by
  unfold ixN at h
  by_cases h0 : 0 ≤ i
  · rw [if_pos h0] at h
    by_cases h1 : i < n
    · rw [if_pos h1] at h
      have e : i.toNat = j := Option.some.inj h
      exact ⟨by rw [seqIndex_of h0 h1, e], by omega, by omega, h1⟩
    · rw [if_neg h1] at h; cases h
  · rw [if_neg h0] at h
    by_cases h1 : -(n : Int) ≤ i
    · rw [if_pos h1] at h
      have e : (i + n).toNat = j := Option.some.inj h
      exact ⟨by rw [seqIndex_neg (by omega) h1, e], by omega, h1, by omega⟩
    · rw [if_neg h1] at h; cases h
theorem atI_get {α : Type} {xs : List α} {i : Int} {v : α} (h : atI xs i = some v) : ∃ j, seqIndex? i xs.length = some j ∧ xs[j]? = some v ∧ j < xs.length ∧ -(xs.length : Int) ≤ i ∧ i < xs.length := by
  unfold atI at h
  cases e : ixN xs.length i with
  | none => rw [e] at h; cases h
  | some j =>
    rw [e] at h
    obtain ⟨h1, h2, h3, h4⟩ := ixN_seq e
    exact ⟨j, h1, h, h2, h3, h4⟩
theorem atI_nat {α : Type} {xs : List α} {j : Nat} {v : α} (h : xs[j]? = some v) : atI xs (j : Int) = some v := by
  have hj : j < xs.length := (List.getElem?_eq_some_iff.mp h).1
  have e : ixN xs.length (j : Int) = some j := by
    unfold ixN
    rw [if_pos (by omega), if_pos (by omega)]; simp
  unfold atI; rw [e]; exact h
theorem atI_last {α : Type} (xs : List α) (v : α) : atI (xs ++ [v]) (-1) = some v := by
  have hl : (xs ++ [v]).length = xs.length + 1 := by simp
  have e : ixN (xs ++ [v]).length (-1) = some xs.length := by
    unfold ixN
    rw [hl, if_neg (by decide), if_pos (by omega)]
    congr 1
    omega
  unfold atI
  rw [e]
  show (xs ++ [v])[xs.length]? = some v
  simp

/-- what stands as an index of a plain subscript -/
def PlainIx (b : Expr) : Prop := ∀ o i, subscripted b false o i = operate [o, i] (getItem o i)
/-- a subscript by values -/
def IxR (X : Cx) (r : R2) : Prop :=
  ∀ (value slice : Expr) (pins : List (Addr × Obj)) (s : Shared) (σ : St) (H : Hp) (x y : V) (v u : Value) (Q : VK), Inv X pins σ H s → RelV x v → RelV y u → r x y H Q →
    subscripted slice false v u = operate [v, u] (getItem v u) → wpAny (model X.prog X.w) X.A (subscriptTail value slice v u) (EP X pins σ Q) X.xe s
/-- a call of a builtin's method by values: the receiver, the arguments -/
def MtR (X : Cx) (id : String) (r : V → List V → Hp → VK → Prop) : Prop :=
  ∀ (pins : List (Addr × Obj)) (s : Shared) (σ : St) (H : Hp) (x : V) (xs : List V) (v : Value) (us : List Value) (Q : VK), Inv X pins σ H s → RelV x v → Vals xs us → r x xs H Q →
    wpAny (model X.prog X.w) X.A (call (.builtin id) (v :: us)) (EP X pins σ Q) X.xe s
section
variable {X : Cx} {a b : Expr} {ta tb : TE} {pos : Pos}
/-- a[b] -/
theorem pe_ix {r : R2} (hr : IxR X r) (ha : PE X a ta) (hb : PE X b tb) (hs : PlainIx b) : PE X (.Subscript a b pos) (tOp r ta tb) := by
  intro pins s σ H Q I h
  exact Subscript_ (binT ha hb I h fun v u s2 x y H2 I2 rx ry q => hr a b pins s2 σ H2 x y v u Q I2 rx ry q (hs _ _))

def rIxL (K : PySem.W.Frag) : R2 := fun x y H Q => ∃ p xs i v, x = .ref p ∧ y = .int i ∧ SqL K H p xs ∧ atI xs i = some v ∧ Q v H
def rIxT (K : PySem.W.Frag) : R2 := fun x y H Q => ∃ p xs i v, x = .ref p ∧ y = .int i ∧ SqT K H p xs ∧ atI xs i = some v ∧ Q v H
theorem ix_list : IxR X (rIxL X.K) := by
  intro value slice pins s σ H x y v u Q I rx ry h hs
  obtain ⟨p, xs, i, z, rfl, rfl, hq, he, q⟩ := h
  cases rx
  obtain ⟨t, rfl⟩ := ry
  obtain ⟨its, r, pl, hz⟩ := I.list hq
  obtain ⟨j, h1, h2, h3, h4, h5⟩ := atI_get he
  obtain ⟨w, ew, rw'⟩ := r.get h2
  have hl := r.length
  have hn := line63
  have fin : EP X pins σ Q w s := ⟨z, H, I, rw', q⟩
  by_cases h0 : 0 ≤ i
  · have hj : i.toNat = j := by
      rw [seqIndex_of h0 h5] at h1
      exact Option.some.inj h1
    exact item_listR pl.isList h0 (by omega) (by rw [hj]; simpa using ew) fin hs
  · have hj : (i + (its.toArray.size : Int)).toNat = j := by
      rw [seqIndex_neg (by omega) h4] at h1
      rw [List.size_toArray, ← hl]
      exact Option.some.inj h1
    exact subscriptTail_builtinR (x := w) pl.isList.typeIs slot_list_getitem.lookup
      (wpAny_getItem_list_neg (Q := fun r s' => r = w ∧ EP X pins σ Q r s') pl.isList (by omega) (by rw [List.size_toArray] <;> omega) (by omega) (by rw [hj]; simpa using ew) ⟨rfl, fin⟩) hs
theorem ix_tup : IxR X (rIxT X.K) := by
  intro value slice pins s σ H x y v u Q I rx ry h hs
  obtain ⟨p, xs, i, z, rfl, rfl, hq, he, q⟩ := h
  cases rx
  obtain ⟨t, rfl⟩ := ry
  obtain ⟨its, r, pl, hz⟩ := I.tuple hq
  obtain ⟨j, h1, h2, h3, h4, h5⟩ := atI_get he
  obtain ⟨w, ew, rw'⟩ := r.get h2
  have hl := r.length
  have hn := line63
  have fin : EP X pins σ Q w s := ⟨z, H, I, rw', q⟩
  exact subscriptTail_builtinR (x := w) pl.typeIs slot_tuple_getitem.lookup
    (getItem_tuple (j := j) (Q := fun r s' => r = w ∧ EP X pins σ Q r s') pl (by omega) (by omega) (by rw [List.size_toArray, ← hl]; exact h1) (by simpa using ew) ⟨rfl, fin⟩) hs

/-- the list's object behind a store -/
theorem mapSeq_set (its : List Value) (n j : Nat) (u : Value) : Obj.mapSeq (·.setIfInBounds j u) { cls := .type "list", data := .seq its.toArray n } = { cls := .type "list", data := .seq (its.set j u).toArray n } := by
  simp [Obj.mapSeq]
theorem Inv.lst {pins : List (Addr × Obj)} {σ : St} {H : Hp} {s : Shared} {p : Addr} {xs : List V} (I : Inv X pins σ H s) (h : H p = some (.lst xs)) :
    ∃ (its : List Value) (n : Nat), Vals xs its ∧ s.heap.get? p = some { cls := .type "list", data := .seq its.toArray n } ∧ xs.length ≤ sizeLine := by
  obtain ⟨z, its, n, r, e⟩ := I.hok p _ h
  exact ⟨its, n, r, e, z⟩
/-- the list at p is written by an update of its object -/
theorem Inv.lstUpd {pins : List (Addr × Obj)} {σ : St} {H : Hp} {s : Shared} {p : Addr} {xs ys : List V} {its its' : List Value} {n n' : Nat} {f : Obj → Obj} (I : Inv X pins σ H s) (h : H p = some (.lst xs))
    (ho : s.heap.get? p = some { cls := .type "list", data := .seq its.toArray n }) (hf : f { cls := .type "list", data := .seq its.toArray n } = { cls := .type "list", data := .seq its'.toArray n' }) (r : Vals ys its') (hz : ys.length ≤ sizeLine) (t : Nat) :
    Inv X pins σ (upd H p (.lst ys)) { s with heap := s.heap.update p f, toks := t } := by
  have e : (s.heap.update p f).get? p = some { cls := .type "list", data := .seq its'.toArray n' } := by
    rw [Heap.get?_update_self f ho (by rw [hf] <;> rfl), hf]
  refine I.write (x := p) (e := p) (by rw [h]; trivial) (.inl rfl) (fun b u hb q => (Heap.get?_update_other _ _ (Ne.symm hb)).trans q) ⟨_, e⟩ ?_
  exact ⟨hz, its', n', r, e⟩
def rSetL : V → V → V → Hp → (Hp → Prop) → Prop := fun o i v H Q => ∃ p xs k j, o = .ref p ∧ i = .int k ∧ H p = some (.lst xs) ∧ ixN xs.length k = some j ∧ Q (upd H p (.lst (xs.set j v)))
theorem set_list : PSet X rSetL := by
  intro pins s σ H o i v ov iv u Q I ro ri rv h
  obtain ⟨p, xs, k, j, rfl, rfl, hp, hj, q⟩ := h
  cases ro
  obtain ⟨t, rfl⟩ := ri
  obtain ⟨its, n, r, ho, hz⟩ := I.lst hp
  obtain ⟨h1, h2, h3, h4⟩ := ixN_seq hj
  have hl := r.length
  have hn := line63
  have I' : Inv X pins σ (upd H p (.lst (xs.set j v))) { s with heap := s.heap.update p (Obj.mapSeq (·.setIfInBounds j u)) } :=
    I.lstUpd hp ho (mapSeq_set its n j u) (r.set rv j) (by rw [List.length_set]; exact hz) s.toks
  by_cases h0 : 0 ≤ k
  · have hk : k.toNat = j := by
      rw [seqIndex_of h0 h4] at h1
      exact Option.some.inj h1
    exact PySem.W.ki_setAt ho h0 (by omega) (by rw [List.size_toArray, ← hl]; exact h4) (by rw [hk]; exact ⟨_, I', q⟩)
  · have hk : (k + (its.toArray.size : Int)).toNat = j := by
      rw [seqIndex_neg (by omega) h3] at h1
      rw [List.size_toArray, ← hl]
      exact Option.some.inj h1
    exact PySem.W.ki_setBack ho (by omega) (by rw [List.size_toArray, ← hl]; exact h3) (by omega) (by rw [hk]; exact ⟨_, I', q⟩)

theorem slice_bounds (lo hi : Option Int) (n : Nat) : (sliceBounds lo hi none n).1 = ((HT.sIx n 0 lo : Nat) : Int) ∧ (sliceBounds lo hi none n).2.1 = ((HT.sIx n n hi : Nat) : Int) ∧ (sliceBounds lo hi none n).2.2 = 1 := by
  refine ⟨?_, ?_, rfl⟩
  · cases lo with
    | none => simp [sliceBounds, HT.sIx]
    | some i =>
      simp only [sliceBounds, HT.sIx, Option.getD_none, show (1 : Int) > 0 by decide, if_true]
      by_cases h : i < 0
      · simp only [h, if_true] <;> omega
      · simp only [h, if_false] <;> omega
  · cases hi with
    | none => simp [sliceBounds, HT.sIx]
    | some i =>
      simp only [sliceBounds, HT.sIx, Option.getD_none, show (1 : Int) > 0 by decide, if_true]
      by_cases h : i < 0
      · simp only [h, if_true] <;> omega
      · simp only [h, if_false] <;> omega
theorem slicePick_cut (its : List Value) (lo hi : Option Int) : slicePick its.toArray lo hi none = ((its.drop (HT.sIx its.length 0 lo)).take (HT.sIx its.length its.length hi - HT.sIx its.length 0 lo)).toArray := by
  obtain ⟨h1, h2, h3⟩ := slice_bounds lo hi its.toArray.size
  unfold slicePick
  rw [h1, h2, h3]
  simp only [sliceRange_one, pick_run, List.size_toArray] <;> rfl
/-- xs[lo:hi] of a list: a new list -/
def rSlL (K : PySem.W.Frag) : V → Option Int → Option Int → Hp → VK → Prop := fun x lo hi H Q => ∃ a xs, x = .ref a ∧ SqL K H a xs ∧ ∀ p, H p = none → Q (.ref p) (upd H p (.lst (cutV xs lo hi)))
theorem sl_list : SlR X (rSlL X.K) := by
  intro pins s σ H x v vl vu lo hi sl Q I rx hs pl pu h
  obtain ⟨a, xs, rfl, hx, q⟩ := h
  cases rx
  obtain ⟨its, r, ht, hz⟩ := I.list hx
  have hlen := r.length
  refine ⟨"list", _, slot_list_getitem.lookup, ht.isList.typeIs, ?_⟩
  refine wpAny_getItem_list_slice ht.isList hs pl pu .none (by simp) ?_ (by rw [List.size_toArray] <;> omega)
  rw [slicePick_cut, ← hlen]
  refine ⟨.ref s.heap.objs.size, _, I.laid (t' := s.toks) (o := .lst (cutV xs lo hi)) (fun b ob q => Heap.get?_push_of_some _ q) (Nat.le_refl _) ?_, rfl, q _ (I.hok.fresh (Nat.le_refl _))⟩
  exact ⟨Nat.le_trans (cutV_length xs lo hi) hz, _, 0, (r.drop (HT.sIx xs.length 0 lo)).take (HT.sIx xs.length xs.length hi - HT.sIx xs.length 0 lo), Heap.get?_push_size _ rfl⟩

def flatV : V → Bool
  | .non => true
  | .bl _ => true
  | .int _ => true
  | .str _ => true
  | _ => false
/-- == of flat values -/
def eqV : V → V → Bool
  | .non, .non => true
  | .bl a, .bl b => a == b
  | .bl a, .int b => (if a then 1 else 0) == b
  | .int a, .bl b => a == (if b then 1 else 0)
  | .int a, .int b => a == b
  | .str a, .str b => a == b
  | _, _ => false
theorem eqAt_V {A : Around} {s : Shared} {y x : V} {u v : Value} (ry : RelV y u) (rx : RelV x v) (fy : flatV y = true) (fx : flatV x = true) : SeqAt.EqAt A s u v (eqV y x) := by
  cases y with
  | non =>
    cases ry
    cases x with
    | non => cases rx; exact SeqAt.EqAt.same _
    | bl b => cases rx; exact SeqAt.EqAt.none_bool b
    | int b => obtain ⟨t, rfl⟩ := rx; exact SeqAt.EqAt.none_int b t
    | str b => obtain ⟨t, rfl⟩ := rx; exact SeqAt.EqAt.none_str b t
    | _ => exact absurd (show false = true from fx) Bool.false_ne_true
  | bl a =>
    cases ry
    cases x with
    | non => cases rx; exact SeqAt.EqAt.bool_none a
    | bl b => cases rx; exact SeqAt.EqAt.bool_bool a b
    | int b => obtain ⟨t, rfl⟩ := rx; exact SeqAt.EqAt.bool_int a b t
    | str b => obtain ⟨t, rfl⟩ := rx; exact SeqAt.EqAt.bool_str a b t
    | _ => exact absurd (show false = true from fx) Bool.false_ne_true
  | int a =>
    obtain ⟨t', rfl⟩ := ry
    cases x with
    | non => cases rx; exact SeqAt.EqAt.int_none a t'
    | bl b => cases rx; exact SeqAt.EqAt.int_bool a t' b
    | int b => obtain ⟨t, rfl⟩ := rx; exact SeqAt.EqAt.int_int a t' b t
    | str b => obtain ⟨t, rfl⟩ := rx; exact SeqAt.EqAt.int_str a t' b t
    | _ => exact absurd (show false = true from fx) Bool.false_ne_true
  | str a =>
    obtain ⟨t', rfl⟩ := ry
    cases x with
    | non => cases rx; exact SeqAt.EqAt.str_none a t'
    | bl b => cases rx; exact SeqAt.EqAt.str_bool a t' b
    | int b => obtain ⟨t, rfl⟩ := rx; exact SeqAt.EqAt.str_int a t' b t
    | str b => obtain ⟨t, rfl⟩ := rx; exact SeqAt.EqAt.str_str a t' b t
    | _ => exact absurd (show false = true from fx) Bool.false_ne_true
  | _ => exact absurd (show false = true from fy) Bool.false_ne_true
/-- the items' answers, read off the values (a value's own answer does not lean on its token) -/
def eqU (x : V) (u : Value) : Bool := match u with
  | .none => eqV .non x
  | .bool b => eqV (.bl b) x
  | .int i _ => eqV (.int i) x
  | .str z _ => eqV (.str z) x
  | _ => false
theorem eqU_of {x y : V} {u : Value} (r : RelV y u) (f : flatV y = true) : eqU x u = eqV y x := by
  cases y with
  | non => cases r; rfl
  | bl b => cases r; rfl
  | int i => obtain ⟨t, rfl⟩ := r; rfl
  | str z => obtain ⟨t, rfl⟩ := r; rfl
  | _ => exact absurd (show false = true from f) Bool.false_ne_true
theorem any_eqU {x : V} : ∀ {xs : List V} {us : List Value}, Vals xs us → xs.all flatV = true → us.any (eqU x) = xs.any fun y => eqV y x
  | _, _, .nil, _ => rfl
  | y :: xs, u :: us, .cons r t, f => by
    rw [List.all_cons, Bool.and_eq_true] at f
    rw [List.any_cons, List.any_cons, eqU_of r f.1, any_eqU t f.2]
theorem mem_eqAt {A : Around} {s : Shared} {x : V} {v : Value} (rx : RelV x v) (fx : flatV x = true) : ∀ {xs : List V} {us : List Value}, Vals xs us → xs.all flatV = true → ∀ u ∈ us, SeqAt.EqAt A s u v (eqU x u)
  | _, _, .nil, _ => fun u hu => by cases hu
  | y :: xs, u :: us, .cons r t, f => fun u' hu => by
    rw [List.all_cons, Bool.and_eq_true] at f
    rcases List.mem_cons.mp hu with rfl | hu
    · rw [eqU_of r f.1]; exact eqAt_V r rx f.1 fx
    · exact mem_eqAt rx fx t f.2 u' hu
def inV (x : V) (xs : List V) : Bool := xs.any fun y => eqV y x
/-- x in a list or tuple of flat items -/
def rIn (K : PySem.W.Frag) (neg : Bool) : R2 := fun x y H Q => ∃ p xs, y = .ref p ∧ (SqL K H p xs ∨ SqT K H p xs) ∧ flatV x = true ∧ xs.all flatV = true ∧ Q (.bl (if neg then !inV x xs else inV x xs)) H
theorem op_in_seq : OpR X (compareOp .In) (rIn X.K false) := by
  intro pins s σ H x y v u Q I rx ry h
  obtain ⟨p, xs, rfl, hq, fx, fs, q⟩ := h
  cases ry
  rcases hq with hq | hq
  · obtain ⟨its, r, pl, hz⟩ := I.list hq
    refine SeqAt.in_listAt (eqU x) pl.isList (fun w hw => mem_eqAt rx fx r fs w (by simpa using hw)) ⟨.bl _, H, I, rfl, ?_⟩
    rw [show its.toArray.any (eqU x) = its.any (eqU x) by simp, any_eqU r fs]
    exact q
  · obtain ⟨its, r, pl, hz⟩ := I.tuple hq
    refine SeqAt.in_tupleAt (eqU x) pl (fun w hw => mem_eqAt rx fx r fs w (by simpa using hw)) ⟨.bl _, H, I, rfl, ?_⟩
    rw [show its.toArray.any (eqU x) = its.any (eqU x) by simp, any_eqU r fs]
    exact q

theorem call_len_seq : CallR X (.builtin "len") (fun xs H Q => ∃ p ys, xs = [.ref p] ∧ (SqL X.K H p ys ∨ SqT X.K H p ys) ∧ Q (.int ys.length) H) := by
  intro pins s σ H xs us Q I r h
  obtain ⟨p, ys, rfl, hq, q⟩ := h
  obtain ⟨u, rfl, rx⟩ := vals1 r
  cases rx
  have hn := line63
  rcases hq with hq | hq
  · obtain ⟨its, r', pl, hz⟩ := I.list hq
    have hlen := r'.length
    exact Calls.call_len_list pl.isList (by simp only [List.size_toArray] <;> omega) ⟨.int ys.length, H, I.tok _, ⟨s.toks + 1, by rw [List.size_toArray, hlen]⟩, q⟩
  · obtain ⟨its, r', pl, hz⟩ := I.tuple hq
    have hlen := r'.length
    exact len_tuple pl (by simp only [List.size_toArray] <;> omega) ⟨.int ys.length, H, I.tok _, ⟨s.toks + 1, by rw [List.size_toArray, hlen]⟩, q⟩

/-- the value is of that builtin type -/
def tyV (K : PySem.W.Frag) (T : String) (x : V) (H : Hp) : Prop := match x with
  | .str _ => T = "str"
  | .int _ => T = "int"
  | .ref p => (T = "list" ∧ ∃ xs, SqL K H p xs) ∨ (T = "tuple" ∧ ∃ o, K.lookup p = some o ∧ o.cls = .type "tuple" ∧ o.dict = none) ∨
      (T = "dict" ∧ ((∃ kvs, H p = some (.dK kvs)) ∨ ∃ kvs, H p = some (.dT kvs))) ∨ (T = "set" ∧ ∃ S n, H p = some (.set S n))
  | _ => False
theorem tyV_is {pins : List (Addr × Obj)} {σ : St} {H : Hp} {s : Shared} {T : String} {x : V} {v : Value} (I : Inv X pins σ H s) (r : RelV x v) (ty : tyV X.K T x H) :
    s.TypeIs v T ∧ ∀ a, v = .ref a → ∃ ob, s.heap.get? a = some ob ∧ ob.dict = none := by
  cases x with
  | str z =>
    obtain ⟨t, rfl⟩ := r
    cases (show T = "str" from ty)
    exact ⟨typeIs_str s z t, fun _ e => nomatch e⟩
  | int i =>
    obtain ⟨t, rfl⟩ := r
    cases (show T = "int" from ty)
    exact ⟨typeIs_int s i t, fun _ e => nomatch e⟩
  | ref p =>
    cases r
    rcases ty with ⟨rfl, xs, hq⟩ | ⟨rfl, o, hk, hc, hd⟩ | ⟨rfl, hk⟩ | ⟨rfl, S, n, hk⟩
    · obtain ⟨its, _, pl, _⟩ := I.list hq
      refine ⟨pl.isList.typeIs, fun a e => ?_⟩
      cases e
      obtain ⟨o, n, e, c, hd, _⟩ := pl
      exact ⟨o, e, hd⟩
    · refine ⟨⟨o, I.kIn p o hk, hc⟩, fun a e => ?_⟩
      cases e
      exact ⟨o, I.kIn _ o hk, hd⟩
    · have z : ∃ o, s.heap.get? p = some o ∧ o.ExactDict := by
        rcases hk with ⟨kvs, hk⟩ | ⟨kvs, hk⟩
        · obtain ⟨_, _, _, _, o, _, _, e, ex, _⟩ := I.hok p _ hk
          exact ⟨o, e, ex⟩
        · obtain ⟨_, _, _, _, o, _, _, e, ex, _⟩ := I.hok p _ hk
          exact ⟨o, e, ex⟩
      obtain ⟨o, e, ex⟩ := z
      refine ⟨⟨o, e, ex.1⟩, fun a e2 => ?_⟩
      cases e2
      exact ⟨o, e, ex.2.1⟩
    · obtain ⟨o, _, _, _, e, ex, _⟩ := I.hok p _ hk
      refine ⟨⟨o, e, ex.1⟩, fun a e2 => ?_⟩
      cases e2
      exact ⟨o, e, ex.2.1⟩
  | _ => exact False.elim ty
def tBM (K : PySem.W.Frag) (T : String) (r : V → List V → Hp → VK → Prop) (to : TE) (t : TA) : TE := fun σ H Q => to σ H fun x H1 => tyV K T x H1 ∧ t σ H1 fun xs H2 => r x xs H2 Q
variable {o e : Expr} {es : List Expr} {to : TE} {t : TA} {name : Str} {apos cpos : Pos} {T id : String} {r : V → List V → Hp → VK → Prop}
theorem pe_bm (pa : PlainAttrs T) (slot : Slot T name id) (hty : typeOf (.builtin id) = pure (.type "method_descriptor")) (hm : MtR X id r) (ho : PE X o to) (ha : PA X (e :: es) t)
    (hbase : attributeBase o name X.env (eval o X.env) = eval o X.env := by rfl)
    (hfew : ((backTo cpos (starEach (e :: es) X.env)).all (fun x => !x.1) && (backToKw cpos (keywordEach [] X.env)).all (fun x => x.1.isSome)
      && decide ((e :: es).length + ([] : List Keyword).length + (if ([] : List Keyword).isEmpty then 0 else 1) < 30)) = true := by rfl)
    (hline : (apos.endLine == cpos.line) = true := by rfl) (hs : starEach (e :: es) X.env = (false, eval e X.env) :: starEach es X.env := by rfl) (hplain : (backTo cpos (starEach es X.env)).any (·.1) = false := by rfl) :
    PE X (.Call (.Attribute o name apos) (e :: es) [] cpos) (tBM X.K T r to t) := by
  intro pins s σ H Q I h
  refine wpAny_Call_method_late hbase hfew hline rfl (thn (ho pins s σ H _ I h) fun v s1 ⟨x, H1, I1, r1, ty, q1⟩ => ?_)
  obtain ⟨h1, h2⟩ := tyV_is I1 r1 ty
  refine ⟨T, id, pa, slot, hty, h1, h2, ?_⟩
  have hA := ha cpos pins s1 σ H1 _ I1 q1
  rw [hs] at hA ⊢
  refine Calls.callWith_builtin (by show (false || (backTo cpos (starEach es X.env)).any (·.1)) = false; rw [hplain] <;> rfl) (Calls.evalArgs_plain ?_)
  exact thn hA fun us s2 ⟨vs, H2, I2, r2, q2⟩ => hm pins s2 σ H2 x vs v us Q I2 r1 r2 q2
/- xs.append(e), list.index on a module's tuple .. are MtR facts of 06m -/
end
end L2

namespace L2
open PySem PySem.Spec PyProof.Rows

def MtM (X : Cx) (id : String) (r : V → List V → Hp → VK → Prop) : Prop :=
  ∀ (pins : List (Addr × Obj)) (s : Shared) (σ : St) (H : Hp) (x : V) (xs : List V) (v : Value) (us : List Value) (Q : VK), Inv X pins σ H s → RelV x v → Vals xs us → r x xs H Q →
    wpAny (model X.prog X.w) X.A (call (.builtin id) (v :: us)) (EP X pins σ Q) X.xe s

theorem Vals.one : ∀ {x : V} {us : List Value}, Vals [x] us → ∃ u, us = [u] ∧ RelV x u
  | _, _, .cons r .nil => ⟨_, rfl, r⟩
theorem Vals.rep {xs : List V} {us : List Value} (h : Vals xs us) : ∀ k : Nat, Vals (List.replicate k xs).flatten (List.replicate k us).flatten
  | 0 => .nil
  | k + 1 => by
    rw [List.replicate_succ, List.replicate_succ, List.flatten_cons, List.flatten_cons]
    exact Vals.append h (Vals.rep h k)
theorem foldl_rep (its : List Value) : ∀ (k : Nat) (acc : List Value),
    List.foldl (fun x1 x2 => x1 ++ x2) acc.toArray (List.replicate k its.toArray) = (acc ++ (List.replicate k its).flatten).toArray
  | 0, acc => by simp
  | k + 1, acc => by
    have e : acc.toArray ++ its.toArray = (acc ++ its).toArray := by simp
    have e2 : (acc ++ its) ++ (List.replicate k its).flatten = acc ++ (List.replicate (k + 1) its).flatten := by
      rw [List.replicate_succ, List.flatten_cons, List.append_assoc]
    rw [← e2, ← foldl_rep its k (acc ++ its), ← e, List.replicate_succ, List.foldl_cons]

section
variable {X : Cx} {pins : List (Addr × Obj)} {σ : St} {H : Hp} {s : Shared} {l b : Addr} {xs ys zs : List V}

theorem Inv.lset {its its' : List Value} {n : Nat} {f : Array Value → Array Value} {t' : Nat} (I : Inv X pins σ H s) (hH : H l = some (.lst xs))
    (e : s.heap.get? l = some { cls := .type "list", data := .seq its.toArray n }) (hf : f its.toArray = its'.toArray) (hv : Vals ys its') (hz : ys.length ≤ sizeLine) :
    Inv X pins σ (upd H l (.lst ys)) { s with heap := s.heap.update l (Obj.mapSeq f), toks := t' } := by
  have q := PySem.IsL.update e f
  rw [hf] at q
  refine I.write (x := l) (e := l) (by rw [hH]; exact trivial) (.inl rfl) (fun b' u hb hu => (Heap.get?_update_other s.heap (Obj.mapSeq f) (Ne.symm hb)).trans hu) ⟨_, q⟩ ?_
  exact ⟨hz, its', _, hv, q⟩
theorem Inv.lnew {its : List Value} {t' : Nat} (I : Inv X pins σ H s) (hv : Vals ys its) (hz : ys.length ≤ sizeLine) :
    Inv X pins σ (upd H s.heap.objs.size (.lst ys)) { s with heap := s.heap.push { cls := .type "list", data := .seq its.toArray }, toks := t' } :=
  I.laid (fun _ _ q => Heap.get?_push_of_some _ q) (Nat.le_refl _) ⟨hz, its, 0, hv, Heap.get?_push_size _ rfl⟩
theorem Inv.fresh (I : Inv X pins σ H s) : H s.heap.objs.size = none := I.hok.fresh (Nat.le_refl _)
theorem Inv.lstM (I : Inv X pins σ H s) (hH : H l = some (.lst xs)) : xs.length ≤ sizeLine ∧ ∃ (its : List Value) (n : Nat), Vals xs its ∧ xs.length = its.length ∧ s.heap.get? l = some { cls := .type "list", data := .seq its.toArray n } := by
  obtain ⟨z, its, n, r, e⟩ := I.hok l _ hH
  exact ⟨z, its, n, r, r.length, e⟩

theorem notLongL {n : Nat} (h : n ≤ sizeLine) : Builtin.List.listTooLong n = false := by
  unfold Builtin.List.listTooLong
  exact decide_eq_false (by omega)
end

section
variable {X : Cx}

def rAppend : V → List V → Hp → VK → Prop := fun x vs H Q => ∃ l xs y, x = .ref l ∧ vs = [y] ∧ H l = some (.lst xs) ∧ xs.length < sizeLine ∧ Q .non (upd H l (.lst (xs ++ [y])))
theorem mt_append : MtM X "list.append" rAppend := by
  intro pins s σ H x vs v us Q I rx rv h
  obtain ⟨l, xs, y, rfl, rfl, hH, hz, q⟩ := h
  cases rx
  obtain ⟨u, rfl, ru⟩ := rv.one
  obtain ⟨z, its, n, r, hl, e⟩ := I.lstM hH
  refine call_meets F.slot_list_append ⟨_, e, rfl⟩ F.entry_list_append (F.args_list_append_2 _ _) (PySem.list_append l its.toArray n u (by rw [List.size_toArray]; omega)) ⟨e, ?_⟩
  refine ⟨.non, _, I.lset (its' := its ++ [u]) hH e (by simp) (r.append (.cons ru .nil)) ?_, rfl, q⟩
  rw [List.length_append, List.length_singleton]
  omega

def rExtend : V → List V → Hp → VK → Prop := fun x vs H Q => ∃ l b xs zs, x = .ref l ∧ vs = [.ref b] ∧ H l = some (.lst xs) ∧ H b = some (.lst zs) ∧ xs.length + zs.length ≤ sizeLine ∧ Q .non (upd H l (.lst (xs ++ zs)))
theorem mt_extend : MtM X "list.extend" rExtend := by
  intro pins s σ H x vs v us Q I rx rv h
  obtain ⟨l, b, xs, zs, rfl, rfl, hH, hB, hz, q⟩ := h
  cases rx
  obtain ⟨u, rfl, ru⟩ := rv.one
  cases ru
  obtain ⟨z, its, n, r, hl, e⟩ := I.lstM hH
  obtain ⟨z2, its2, n2, r2, hl2, e2⟩ := I.lstM hB
  have hsz : its.toArray.size + its2.toArray.size ≤ sizeLine := by rw [List.size_toArray, List.size_toArray]; omega
  have hlong : ¬ (!its.toArray.isEmpty && Builtin.List.listTooLong (its.toArray.size + its2.toArray.size)) = true := by
    rw [notLongL hsz, Bool.and_false]
    exact Bool.false_ne_true
  refine call_meets F.slot_list_extend ⟨_, e, rfl⟩ F.entry_list_extend (F.args_list_extend_2 _ _)
    (AutoSeq1.list_extend_list_list_0 l its.toArray n b its2.toArray n2 hlong (by rw [List.size_toArray]; omega) (by omega)) ⟨e, e2, ?_⟩
  refine ⟨.non, _, I.lset (its' := its ++ its2) hH e (by simp) (r.append r2) ?_, rfl, q⟩
  rw [List.length_append]
  omega





def rCat : R2 := fun x y H Q => ∃ l b xs zs, x = .ref l ∧ y = .ref b ∧ H l = some (.lst xs) ∧ H b = some (.lst zs) ∧ xs.length + zs.length ≤ sizeLine ∧ ∀ p, H p = none → Q (.ref p) (upd H p (.lst (xs ++ zs)))
theorem op_cat : OpR X (binaryOp .Add) rCat := by
  intro pins s σ H x y v u Q I rx ry h
  obtain ⟨l, b, xs, zs, rfl, rfl, hH, hB, hz, q⟩ := h
  cases rx
  cases ry
  obtain ⟨z, its, n, r, hl, e⟩ := I.lstM hH
  obtain ⟨z2, its2, n2, r2, hl2, e2⟩ := I.lstM hB
  refine PySem.P.add_list e e2 ?_ (by rw [List.size_toArray, List.size_toArray]; omega)
  have ea : its.toArray ++ its2.toArray = (its ++ its2).toArray := by simp
  rw [ea]
  exact ⟨.ref _, _, I.lnew (t' := s.toks) (r.append r2) (by rw [List.length_append]; omega), rfl, q _ I.fresh⟩
/-- a list times an int (a negative one is nothing) -/
def rRep : R2 := fun x y H Q => ∃ l k xs, x = .ref l ∧ y = .int k ∧ H l = some (.lst xs) ∧ -(2 ^ 63) ≤ k ∧ k < 2 ^ 63 ∧ xs.length * k.toNat ≤ sizeLine ∧
  ∀ p, H p = none → Q (.ref p) (upd H p (.lst (List.replicate k.toNat xs).flatten))
theorem len_rep {α : Type} (xs : List α) (k : Nat) : (List.replicate k xs).flatten.length = k * xs.length := by
  induction k with
  | zero => simp
  | succ k ih => rw [List.replicate_succ, List.flatten_cons, List.length_append, ih, Nat.succ_mul, Nat.add_comm]
theorem op_rep : OpR X (binaryOp .Mult) rRep := by
  intro pins s σ H x y v u Q I rx ry h
  obtain ⟨l, k, xs, rfl, rfl, hH, h1, h2, hz, q⟩ := h
  cases rx
  obtain ⟨t, rfl⟩ := ry
  obtain ⟨z, its, n, r, hl, e⟩ := I.lstM hH
  have hlen : its.toArray.size * k.toNat ≤ sizeLine := by rw [List.size_toArray, ← hl]; exact hz
  have hcap : ¬ its.toArray.size * k.toNat > (2 ^ 63 - 1) / 8 := by
    have : (sizeLine : Nat) ≤ (2 ^ 63 - 1) / 8 := by decide
    omega
  have hfit : ¬ (!Builtin.List.listFitsIndex k) = true := by
    rw [fitsIndex_both h1 h2]
    exact Bool.false_ne_true
  have hlong : ¬ Builtin.List.listTooLong (its.toArray.size * k.toNat) = true := by
    rw [notLongL hlen]
    exact Bool.false_ne_true
  have hnew : List.foldl (fun x1 x2 => x1 ++ x2) #[] (List.replicate (if its.toArray.isEmpty = true then 0 else k.toNat) its.toArray) = (List.replicate k.toNat its).flatten.toArray := by
    have f0 : ∀ m : Nat, List.foldl (fun x1 x2 => x1 ++ x2) #[] (List.replicate m its.toArray) = (List.replicate m its).flatten.toArray := fun m => by
      have := foldl_rep its m []
      rw [List.nil_append] at this
      exact this
    rw [f0]
    cases its with
    | nil => simp
    | cons a r' => rw [if_neg (by simp)]
  refine wpAny_binaryOp_repeat_ref (T := "list") (U := "int") (by decide) ⟨_, e, rfl⟩ (fun s' => typeIs_int s' k t) noFill_list_mul F.fills_int_mul F.slot_int_rmul repeat_list F.slot_int_index.lookup
    (call_meets F.slot_int_rmul (typeIs_int s k t) F.entry_int_rmul (F.args_int_rmul_2 _ _) (int___rmul___int_list k t l its.toArray n)
      ⟨e, rfl, ⟨_, e, rfl⟩, call_meets F.slot_list_mul ⟨_, e, rfl⟩ F.entry_list_mul (F.args_list_mul_2 _ _) (AutoListH.list___mul___list_int_3 l its.toArray n k t hfit hcap hlong) ⟨e, ?_⟩⟩)
  rw [hnew]
  exact ⟨.ref _, _, I.lnew (t' := s.toks) (r.rep k.toNat) (by rw [len_rep, Nat.mul_comm]; exact hz), rfl, q _ I.fresh⟩

end

section
variable {prog : Program} {w : World} {A : Around} {E : Value → Shared → Prop} {s : Shared}
end

section
variable {X : Cx}
end
end L2

namespace L2
open PySem PySem.Spec PyProof.Rows

theorem Vals.ints : ∀ {ns : List Int} {us : List Value}, Vals (ns.map V.int) us → IntsAre us ns
  | [], us, h => by
    rw [List.map_nil] at h
    cases h
    exact IntsAre.nil
  | n :: ns, us, h => by
    rw [List.map_cons] at h
    cases h with
    | cons r t =>
      obtain ⟨k, rfl⟩ := r
      exact IntsAre.cons n k (Vals.ints t)
theorem Vals.bls : ∀ {bs : List Bool} {us : List Value}, Vals (bs.map V.bl) us → us = bs.map Value.bool
  | [], us, h => by
    rw [List.map_nil] at h
    cases h
    rfl
  | b :: bs, us, h => by
    rw [List.map_cons] at h
    cases h with
    | cons r t =>
      cases r
      rw [Vals.bls t, List.map_cons]
theorem Vals.ref1 {a : Addr} {us : List Value} (r : Vals [V.ref a] us) : us = [Value.ref a] := by
  cases r with
  | cons r t =>
    cases t
    cases r
    rfl

section
variable {prog : Program} {w : World} {A : Around} {E : Value → Shared → Prop} {s : Shared} {l : Addr} {its : List Value} {ns : List Int} {Q : Value → Shared → Prop}
theorem sum_raw (hh : A.handled = none) (hl : s.heap.IsList l its.toArray) (hi : IntsAre its ns)
    (h : ∀ h' tk t', (∀ b o, s.heap.get? b = some o → h'.get? b = some o) → Q (.int ns.sum t') { s with heap := h', toks := tk }) : wpAny (model prog w) A (call (.builtin "sum") [.ref l]) Q E s := by
  obtain ⟨xs, e⟩ := hi.allInts.items
  have hn : numsOf (intItems xs).toList = ns := by rw [← e]; exact hi.numsOf
  rw [nums_intItems] at hn
  rw [e] at hl
  refine PySem.sum_intListG hh hl fun h' tk t' hk => ?_
  have := h h' tk t' hk
  rw [preSum_eq, List.take_of_length_le (by simp), hn]; exact this
theorem max_raw (hh : A.handled = none) (hl : s.heap.IsList l its.toArray) (hi : IntsAre its ns) (hne : 0 < ns.length)
    (h : ∀ h' tk M t', (∀ b o, s.heap.get? b = some o → h'.get? b = some o) → M ∈ ns → (∀ a, a ∈ ns → a ≤ M) → Q (.int M t') { s with heap := h', toks := tk }) : wpAny (model prog w) A (call (.builtin "max") [.ref l]) Q E s := by
  obtain ⟨xs, e⟩ := hi.allInts.items
  have hn : numsOf (intItems xs).toList = ns := by rw [← e]; exact hi.numsOf
  rw [nums_intItems] at hn
  subst hn
  rw [e] at hl
  have hsz : 0 < xs.size := by simpa using hne
  refine PySem.max_intList hh hl hsz fun v h' tk hv hk => ?_
  obtain ⟨t, rfl⟩ := intItems_at hv
  obtain ⟨h1, h2⟩ := argBest_gt (numAt xs) (xs.size - 1)
  refine h h' tk _ t hk ?_ fun a ha => ?_
  · rw [numAt_eq]; exact PySem.getD_mem (by rw [List.length_map, Array.length_toList]; omega)
  · obtain ⟨j, hj, rfl⟩ := mem_getD ha
    rw [List.length_map, Array.length_toList] at hj
    rw [← numAt_eq]; exact h2 j (by omega)
end

section
variable {X : Cx}
/-- sum(xs) of a list of ints -/
def rSum (K : PySem.W.Frag) : List V → Hp → VK → Prop := fun vs H Q => ∃ (a : Addr) (ns : List Int), vs = [V.ref a] ∧ SqL K H a (ns.map V.int) ∧ Q (.int ns.sum) H
/-- max(xs), min(xs) of a list of ints -/
def rMax (K : PySem.W.Frag) : List V → Hp → VK → Prop := fun vs H Q => ∃ (a : Addr) (ns : List Int), vs = [V.ref a] ∧ SqL K H a (ns.map V.int) ∧ 0 < ns.length ∧ ∀ m, m ∈ ns → (∀ y, y ∈ ns → y ≤ m) → Q (.int m) H
theorem cr_sum (hc : X.calm = true) : CallR X (.builtin "sum") (rSum X.K) := by
  intro pins s σ H vs us Q I r h
  obtain ⟨a, ns, rfl, hs, q⟩ := h
  obtain ⟨its, rv, hl, _⟩ := I.list hs
  rw [Vals.ref1 r]
  exact sum_raw (I.ok.hd hc) hl.isList rv.ints fun h' tk t' hk => ⟨.int _, H, I.kept hk, ⟨_, rfl⟩, q⟩
theorem cr_max (hc : X.calm = true) : CallR X (.builtin "max") (rMax X.K) := by
  intro pins s σ H vs us Q I r h
  obtain ⟨a, ns, rfl, hs, hne, q⟩ := h
  obtain ⟨its, rv, hl, _⟩ := I.list hs
  rw [Vals.ref1 r]
  exact max_raw (I.ok.hd hc) hl.isList rv.ints hne fun h' tk m t' hk h1 h2 => ⟨.int _, H, I.kept hk, ⟨_, rfl⟩, q m h1 h2⟩

end

section
variable {X : Cx}
end

section
variable {X : Cx}
end

theorem iter_any {prog : Program} {w : World} {A : Around} {E : Value → Shared → Prop} {s : Shared} {l : Addr} {items : Array Value} {Q : Value → Shared → Prop} (hl : s.heap.IsList l items)
    (h : ∀ s₂ : Shared, s₂ = { s with heap := s.heap.push { cls := .type "list_iterator", data := .fields #[.ref l, .int 0 0] } } →
      (s₂.heap.IsListIter s.heap.objs.size l 0 ∧ s₂.heap.IsList l items) → l ≠ s.heap.objs.size → Q (.ref s.heap.objs.size) s₂) : wpAny (model prog w) A (pyIter (.ref l)) Q E s := by
  have hlt : l < s.heap.objs.size := by obtain ⟨_, e, _⟩ := hl; exact Heap.lt_size e
  exact wpAny_pyIter_list hl (h _ rfl ⟨⟨_, Heap.get?_push_size _ rfl, rfl, rfl⟩, hl.push _⟩ (Nat.ne_of_lt hlt))
theorem truth_bools {prog : Program} {w : World} {A : Around} {bs : List Bool} {its : List Value} (e : its = bs.map Value.bool) :
    TruthOf prog w A (fun i v => its.toArray[i]? = some v) (fun i => bs.getD i false) := fun i v s Q E hv hq => by
  have hv' : its[i]? = some v := by simpa using hv
  rw [e, List.getElem?_map] at hv'
  obtain ⟨b, hb, rfl⟩ := Option.map_eq_some_iff.mp hv'
  have hg : bs.getD i false = b := by rw [List.getD_eq_getElem?_getD, hb] <;> rfl
  have hq' : Q (bs.getD i false) s := hq
  rw [hg] at hq'
  exact wpAny_truthy_bool hq'
theorem all_range : ∀ bs : List Bool, (List.range bs.length).all (fun i => bs.getD i false) = bs.all id
  | [] => rfl
  | b :: bs => by
    rw [List.length_cons, List.range_succ_eq_map, List.all_cons, List.all_map, List.all_cons, ← all_range bs]
    all_goals rfl
section
variable {X : Cx}
def rAll (K : PySem.W.Frag) : List V → Hp → VK → Prop := fun vs H Q => ∃ (a : Addr) (bs : List Bool), vs = [V.ref a] ∧ SqL K H a (bs.map V.bl) ∧ Q (.bl (bs.all id)) H
theorem cr_all (hc : X.calm = true) : CallR X (.builtin "all") (rAll X.K) := by
  intro pins s σ H vs us Q I r h
  obtain ⟨a, bs, rfl, hs, q⟩ := h
  obtain ⟨its, rv, hl, _⟩ := I.list hs
  rw [Vals.ref1 r]
  have hb := rv.bls
  refine call_all_walk (iter_any hl.isList fun s₂ e2 st hne => ?_)
  subst e2
  refine ⟨_, _, _, _, _, _, _, rfl, Walks.list (A := X.A.in1) (I.ok.hd hc) _ a hne its.toArray, st, truth_bools hb, fun h' tk hk => ?_⟩
  refine ⟨.bl _, H, I.kept fun b o eo => hk b o (fun hmem => ?_) (Heap.get?_push_of_some _ eo), ?_, q⟩
  · rcases List.mem_cons.mp hmem with e1 | hmem
    · exact absurd (e1 ▸ Heap.lt_size eo) (Nat.lt_irrefl _)
    · cases hmem
  · show Value.bool _ = Value.bool _
    rw [← all_range, hb, List.size_toArray, List.length_map]
end

mutual
inductive Dp (K : PySem.W.Frag) (H : Hp) : V → PyData → Prop
  | non : Dp K H .non .none
  | bl (b : Bool) : Dp K H (.bl b) (.bool b)
  | int (i : Int) : Dp K H (.int i) (.int i)
  | str (x : Str) : Dp K H (.str x) (.str x)
  | lst {a : Addr} {xs : List V} {ds : List PyData} : SqL K H a xs → DpAll K H xs ds → Dp K H (.ref a) (.list ds)
  | tup {a : Addr} {xs : List V} {ds : List PyData} : SqT K H a xs → DpAll K H xs ds → Dp K H (.ref a) (.tuple ds)
inductive DpAll (K : PySem.W.Frag) (H : Hp) : List V → List PyData → Prop
  | nil : DpAll K H [] []
  | cons {v : V} {vs : List V} {d : PyData} {ds : List PyData} : Dp K H v d → DpAll K H vs ds → DpAll K H (v :: vs) (d :: ds)
end
section
variable {X : Cx} {pins : List (Addr × Obj)} {σ : St} {H : Hp} {s : Shared}
mutual
theorem Dp.reads (I : Inv X pins σ H s) : ∀ (d : PyData) (v : V) (u : Value), Dp X.K H v d → RelV v u → ∃ as, Reads s.heap u d as
  | .none, _, _, h, r => by
    cases h
    cases r
    exact ⟨_, Reads.none⟩
  | .bool b, _, _, h, r => by
    cases h
    cases r
    exact ⟨_, Reads.bool b⟩
  | .int i, _, _, h, r => by
    cases h
    obtain ⟨t, rfl⟩ := r
    exact ⟨_, Reads.int i t⟩
  | .str x, _, _, h, r => by
    cases h
    obtain ⟨t, rfl⟩ := r
    exact ⟨_, Reads.str x t⟩
  | .list ds, _, _, h, r => by
    cases h with
    | lst hs ha =>
      cases r
      obtain ⟨its, rv, ⟨o, n, ho, hc, _, hd⟩, _⟩ := I.list hs
      obtain ⟨as, hr⟩ := Dp.readsAll I ds _ its ha rv
      exact ⟨_, Reads.list ho hc hd hr⟩
  | .tuple ds, _, _, h, r => by
    cases h with
    | tup hs ha =>
      cases r
      obtain ⟨its, rv, ⟨o, ho, hc, n, hd⟩, _⟩ := I.tuple hs
      obtain ⟨as, hr⟩ := Dp.readsAll I ds _ its ha rv
      exact ⟨_, Reads.tuple ho hc hd hr⟩
  | .dict _, _, _, h, _ => by cases h
theorem Dp.readsAll (I : Inv X pins σ H s) : ∀ (ds : List PyData) (vs : List V) (us : List Value), DpAll X.K H vs ds → Vals vs us → ∃ as, ReadsAll s.heap us ds as
  | [], _, _, h, r => by
    cases h
    cases r
    exact ⟨_, ReadsAll.nil⟩
  | d :: ds, _, _, h, r => by
    cases h with
    | cons h1 h2 =>
      cases r with
      | cons r1 r2 =>
        obtain ⟨as, q1⟩ := Dp.reads I d _ _ h1 r1
        obtain ⟨bs, q2⟩ := Dp.readsAll I ds _ _ h2 r2
        exact ⟨_, ReadsAll.cons q1 q2⟩
end
end
section
variable {X : Cx}
def rEqD (K : PySem.W.Frag) : R2 := fun x y H Q => ∃ d e, Dp K H x d ∧ Dp K H y e ∧ SeqAt.shaped d = true ∧ SeqAt.shaped e = true ∧ Q (.bl (PyData.eqv d e)) H
theorem op_eqD (hu : X.A.units + 64 < cLine) : OpR X (compareOp .Eq) (rEqD X.K) := by
  intro pins s σ H x y v u Q I rx ry h
  obtain ⟨d, e, hd, he, sd, se, q⟩ := h
  obtain ⟨as, r1⟩ := Dp.reads I d x v hd rx
  obtain ⟨bs, r2⟩ := Dp.reads I e y u he ry
  exact SeqAt.compareEq_shaped r1 r2 sd se hu ⟨.bl _, H, I, rfl, q⟩
end
end L2

namespace L2
open PySem PySem.Spec PyProof.Rows
abbrev CellAt (h : Heap) (c : Addr) (v : Option Value) : Prop := h.IsCell c v
def relS (scope sc : Scope) : Scope :=
  { scope with names := scope.names.map fun (n, k) => if (k == .free && sc.kind == .function && sc.names.lookup n == some .cell) then (n, .cell) else (n, k) }

def cloFrom (cells : List (Str × Addr)) : List (Str × NameKind) → List (Str × Addr) → List (Str × Addr)
  | [], acc => acc
  | (n, k) :: r, acc => if k == .free then cloFrom cells r ((n, (cells.lookup n).getD 0) :: acc) else cloFrom cells r acc

theorem closure_loop (env : Env) (f : Str × NameKind → List (Str × Addr) → Sem (ForInStep (List (Str × Addr))))
    (hf : ∀ n k c, f (n, k) c = if k == .free then (do let a ← cellOf env n; pure (.yield ((n, a) :: c))) else pure (.yield c)) :
    ∀ (names : List (Str × NameKind)) (acc : List (Str × Addr)), (∀ y ∈ names, y.2 = .free → ∃ c, env.cells.lookup y.1 = some c) → forIn names acc f = pure (cloFrom env.cells names acc)
  | [], acc, _ => by rw [List.forIn_nil]; rfl
  | (n, k) :: r, acc, h => by
    rw [List.forIn_cons, hf]
    have ih := fun acc => closure_loop env f hf r acc fun y hy => h y (List.mem_cons_of_mem _ hy)
    unfold cloFrom
    by_cases hk : (k == NameKind.free) = true
    · rw [if_pos hk, if_pos hk]
      obtain ⟨c, hc⟩ := h (n, k) List.mem_cons_self (by simpa using hk)
      have e : cellOf env n = pure c := by unfold cellOf; rw [hc]
      rw [e]
      have e2 : (env.cells.lookup n).getD 0 = c := by rw [hc]; rfl
      rw [e2]
      exact ih _
    · rw [if_neg hk, if_neg hk]
      exact ih _
theorem closure_ok {scope : Scope} {env : Env} (h : ∀ y ∈ scope.names, y.2 = .free → ∃ c, env.cells.lookup y.1 = some c) : closureFor scope env = pure (cloFrom env.cells scope.names []) := by
  simp only [closureFor]
  rw [closure_loop env _ (fun n k c => rfl) scope.names [] h]
  rfl

theorem mem_lookup {α : Type} : ∀ {l : List (Str × α)} {n : Str} {c : α}, (n, c) ∈ l → ∃ c', l.lookup n = some c'
  | (k, v) :: r, n, c, h => by
    rw [List.lookup_cons]
    cases hb : n == k with
    | true => exact ⟨_, rfl⟩
    | false =>
      rcases List.mem_cons.mp h with e | h
      · cases e; simp at hb
      · exact mem_lookup h

theorem cloFrom_mem {cells : List (Str × Addr)} : ∀ {names : List (Str × NameKind)} {acc : List (Str × Addr)} {n : Str} {c : Addr}, (n, c) ∈ cloFrom cells names acc → (n, c) ∈ acc ∨ ((n, .free) ∈ names ∧ c = (cells.lookup n).getD 0)
  | [], _, _, _, h => .inl h
  | (m, k) :: r, acc, n, c, h => by
    unfold cloFrom at h
    split at h
    · rename_i hk
      have hk : k = .free := by simpa using hk
      rcases cloFrom_mem h with h | ⟨h1, h2⟩
      · rcases List.mem_cons.mp h with e | h
        · cases e; exact .inr ⟨hk ▸ List.mem_cons_self, rfl⟩
        · exact .inl h
      · exact .inr ⟨List.mem_cons_of_mem _ h1, h2⟩
    · rcases cloFrom_mem h with h | ⟨h1, h2⟩
      · exact .inl h
      · exact .inr ⟨List.mem_cons_of_mem _ h1, h2⟩
theorem cloFrom_acc {cells : List (Str × Addr)} : ∀ {names : List (Str × NameKind)} {acc : List (Str × Addr)} {p : Str × Addr}, p ∈ acc → p ∈ cloFrom cells names acc
  | [], _, _, h => h
  | (m, k) :: r, acc, p, h => by
    unfold cloFrom
    split
    · exact cloFrom_acc (List.mem_cons_of_mem _ h)
    · exact cloFrom_acc h
theorem cloFrom_has {cells : List (Str × Addr)} : ∀ {names : List (Str × NameKind)} {acc : List (Str × Addr)} {n : Str}, (n, .free) ∈ names → (n, (cells.lookup n).getD 0) ∈ cloFrom cells names acc
  | (m, k) :: r, acc, n, h => by
    unfold cloFrom
    rcases List.mem_cons.mp h with e | h
    · cases e
      exact cloFrom_acc List.mem_cons_self
    · split
      · exact cloFrom_has h
      · exact cloFrom_has h

theorem cells_mem : ∀ {names : List (Str × NameKind)} {h : Heap} {acc : List (Str × Addr)} {x : Str} {c : Addr}, (x, c) ∈ cellsFrom h.objs.size names acc →
    (x, c) ∈ acc ∨ ((x, .cell) ∈ names ∧ h.objs.size ≤ c ∧ CellAt (pushCells h names) c none)
  | [], _, _, _, _, h => .inl h
  | (n, k) :: r, h, acc, x, c, hm => by
    unfold cellsFrom at hm
    unfold pushCells
    split at hm
    · rename_i hk
      rw [if_pos hk]
      have hk : k = .cell := by simpa using hk
      rw [← Heap.size_push h { cls := .type "cell", data := .cell none }] at hm
      rcases cells_mem hm with hm | ⟨h1, h2, h3⟩
      · rcases List.mem_cons.mp hm with e | hm
        · cases e
          exact .inr ⟨hk ▸ List.mem_cons_self, Nat.le_refl _, _, pushCells_keeps r _ _ _ (Heap.get?_push_size _ rfl), rfl⟩
        · exact .inl hm
      · rw [Heap.size_push] at h2
        exact .inr ⟨List.mem_cons_of_mem _ h1, Nat.le_of_succ_le h2, h3⟩
    · rename_i hk
      rw [if_neg hk]
      rcases cells_mem hm with hm | ⟨h1, h2, h3⟩
      · exact .inl hm
      · exact .inr ⟨List.mem_cons_of_mem _ h1, h2, h3⟩
theorem cells_acc : ∀ {names : List (Str × NameKind)} {n : Nat} {acc : List (Str × Addr)} {p : Str × Addr}, p ∈ acc → p ∈ cellsFrom n names acc
  | [], _, _, _, h => h
  | (m, k) :: r, n, acc, p, h => by
    unfold cellsFrom
    split
    · exact cells_acc (List.mem_cons_of_mem _ h)
    · exact cells_acc h
theorem cells_has : ∀ {names : List (Str × NameKind)} {n : Nat} {acc : List (Str × Addr)} {x : Str}, (x, .cell) ∈ names → ∃ c, (x, c) ∈ cellsFrom n names acc
  | (m, k) :: r, n, acc, x, h => by
    unfold cellsFrom
    rcases List.mem_cons.mp h with e | h
    · cases e
      exact ⟨n, cells_acc List.mem_cons_self⟩
    · split
      · exact cells_has h
      · exact cells_has h
theorem cells_inj : ∀ {names : List (Str × NameKind)} {h : Heap} {acc : List (Str × Addr)} {x y : Str} {c : Addr}, (∀ p ∈ acc, p.2 < h.objs.size) → (∀ x y c, (x, c) ∈ acc → (y, c) ∈ acc → x = y) →
    (x, c) ∈ cellsFrom h.objs.size names acc → (y, c) ∈ cellsFrom h.objs.size names acc → x = y
  | [], _, _, _, _, _, _, hi, h1, h2 => hi _ _ _ h1 h2
  | (n, k) :: r, h, acc, x, y, c, hl, hi, h1, h2 => by
    unfold cellsFrom at h1 h2
    split at h1
    · rename_i hk
      rw [if_pos hk] at h2
      rw [← Heap.size_push h { cls := .type "cell", data := .cell none }] at h1 h2
      refine cells_inj (h := h.push _) (fun p hp => ?_) (fun x y c a b => ?_) h1 h2
      · rw [Heap.size_push]
        rcases List.mem_cons.mp hp with rfl | hp
        · exact Nat.lt_succ_self _
        · exact Nat.lt_succ_of_lt (hl p hp)
      · rcases List.mem_cons.mp a with e | a <;> rcases List.mem_cons.mp b with e' | b
        · cases e; cases e'; rfl
        · cases e; exact absurd (hl _ b) (Nat.lt_irrefl _)
        · cases e'; exact absurd (hl _ a) (Nat.lt_irrefl _)
        · exact hi _ _ _ a b
    · rename_i hk
      rw [if_neg hk] at h2
      exact cells_inj hl hi h1 h2

theorem newEnv_comp {M : Model} {A : Around} {E : Value → Shared → Prop} {s : Shared} {scope : Scope} {globals : Addr} {closure : List (Str × Addr)} {qual : Str} {func : Option Addr} {code : Value} {around : Env} {builtins : Addr} {Q : Env → Shared → Prop}
    (h : Q (newEnv scope s.heap.objs.size globals (cellsFrom (s.heap.objs.size + 1) scope.names closure) qual func code (some around) builtins)
      { s with heap := pushCells (s.heap.push { cls := .type "dict", data := .dict #[] }) scope.names }) :
    wpAny M A (newFunctionEnv scope globals closure [] qual func code (some around) builtins) Q E s := by
  simp only [newFunctionEnv, Option.isSome_some, if_true]
  refine wpAny_bind (wpAny_alloc ?_)
  refine wpAny_bind (wpAny_layCells _ (fun n k c => rfl) scope.names closure _ _ ?_)
  rw [show ({ s with heap := s.heap.push { cls := .type "dict", data := .dict #[] } } : Shared).heap.objs.size = s.heap.objs.size + 1 from Heap.size_push ..]
  rw [List.forIn_nil]
  exact wpAny_bind (wpAny_pure (wpAny_pure h))

/-- every name of the written scope, in the scope that runs -/
theorem lookup_relS {sc : Scope} : ∀ {names : List (Str × NameKind)} {x : Str} {k : NameKind},
    (names.map fun (n, k) => if (k == NameKind.free && sc.kind == .function && sc.names.lookup n == some .cell) then (n, NameKind.cell) else (n, k)).lookup x = some k →
    ∃ k', names.lookup x = some k' ∧ (k = k' ∨ (k' = .free ∧ k = .cell))
  | [], _, _, h => by simp at h
  | (n, k₀) :: r, x, k, h => by
    have ih := @lookup_relS sc r x k
    have h' : List.lookup x ((if (k₀ == NameKind.free && sc.kind == .function && sc.names.lookup n == some .cell) = true then (n, NameKind.cell) else (n, k₀)) :: (r.map _)) = some k := h
    cases hx : x == n with
    | true =>
      simp only [List.lookup_cons, hx]
      by_cases hc : (k₀ == NameKind.free && sc.kind == .function && sc.names.lookup n == some .cell) = true
      · rw [if_pos hc] at h'
        simp only [List.lookup_cons, hx] at h'
        cases h'
        simp only [Bool.and_eq_true, beq_iff_eq] at hc
        exact ⟨k₀, rfl, .inr ⟨hc.1.1, rfl⟩⟩
      · rw [if_neg hc] at h'
        simp only [List.lookup_cons, hx] at h'
        cases h'
        exact ⟨_, rfl, .inl rfl⟩
    | false =>
      simp only [List.lookup_cons, hx]
      by_cases hc : (k₀ == NameKind.free && sc.kind == .function && sc.names.lookup n == some .cell) = true
      · rw [if_pos hc] at h'
        simp only [List.lookup_cons, hx] at h'
        exact ih h'
      · rw [if_neg hc] at h'
        simp only [List.lookup_cons, hx] at h'
        exact ih h'



/-- the names of a comprehension's block: its own (with their places in N), or captured -/
structure BlkOk (N : List Str) (sc scope : Scope) (own : List (Str × Nat)) : Prop where
  kind : scope.kind = .function
  uniq : ∀ y ∈ scope.names, scope.names.lookup y.1 = some y.2
  ix : ∀ p ∈ own, N[p.2]? = some p.1
  free : ∀ y ∈ scope.names, y.2 = .free → sc.names.lookup y.1 = some .cell ∨ sc.names.lookup y.1 = some .free
  own : ∀ y ∈ scope.names, y.2 = .local ∨ y.2 = .cell → y.1 ∈ own.map (·.1) ∨ y.1 ∉ N
/-- the slots of the block's own names forgotten -/
def wipe (σ : St) : List Nat → St
  | [] => σ
  | v :: vs => (wipe σ vs).set v none
theorem wipe_length (σ : St) : ∀ vs : List Nat, (wipe σ vs).length = σ.length
  | [] => rfl
  | v :: vs => by unfold wipe; rw [List.length_set, wipe_length σ vs]
theorem wipe_some {σ : St} {i : Nat} {x : V} : ∀ {vs : List Nat}, (wipe σ vs)[i]? = some (some x) → σ[i]? = some (some x) ∧ i ∉ vs
  | [], h => ⟨h, by simp⟩
  | v :: vs, h => by
    unfold wipe at h
    by_cases hi : v = i
    · subst hi
      by_cases hv : v < (wipe σ vs).length
      · rw [List.getElem?_set_self hv] at h; cases h
      · rw [List.getElem?_eq_none (by simpa using hv)] at h; cases h
    · rw [List.getElem?_set_ne hi] at h
      obtain ⟨h1, h2⟩ := wipe_some h
      exact ⟨h1, by simp only [List.mem_cons, not_or]; exact ⟨fun e => hi e.symm, h2⟩⟩

/-- the context of a block that starts at s, its iterator's objects at fp -/
abbrev Cx.blk (X : Cx) (s : Shared) (H : Hp) (scope : Scope) (cenv : Env) (fp : List Addr) : Cx := { X with s_0 := s, H_0 := H, env := cenv, outer := X.stack, ex := fp, fn := fun x => scope.names.lookup x == some .cell, pn := [], xe := fun _ _ => False }
section
variable {X : Cx} {pins : List (Addr × Obj)} {σ : St} {H : Hp} {s : Shared}
theorem block_start {scope : Scope} {own : List (Str × Nat)} {fp : List Addr} (I : Inv X pins σ H s) (ok : BlkOk X.N X.env.scope scope own) (hN : X.N.Nodup) (hfp : ∀ b ∈ fp, FpOk X pins H b ∧ b < s.heap.objs.size) :
    Inv (X.blk s H scope (compEnvC scope (cellsFrom (s.heap.objs.size + 1) scope.names (cloFrom X.env.cells scope.names [])) s.heap.objs.size X.env) fp) [] (wipe σ (own.map (·.2))) H { s with heap := pushCells (s.heap.push { cls := .type "dict", data := .dict #[] }) scope.names } := by
  have hfree : ∀ y ∈ scope.names, y.2 = .free → ∃ c, X.env.cells.lookup y.1 = some c := fun y hy e => by
    rcases ok.free y hy e with k | k
    · exact I.ok.has _ (.inl k)
    · exact I.ok.has _ (.inr k)
  generalize hcenv : compEnvC scope (cellsFrom (s.heap.objs.size + 1) scope.names (cloFrom X.env.cells scope.names [])) s.heap.objs.size X.env = cenv
  have kp : ∀ b o, s.heap.get? b = some o → (pushCells (s.heap.push { cls := .type "dict", data := .dict #[] }) scope.names).get? b = some o := fun b o e => pushCells_keeps _ _ _ _ (Heap.get?_push_of_some _ e)
  have hL : cenv.locals = s.heap.objs.size := by rw [← hcenv]; rfl
  have hcl : cenv.cells = cellsFrom (s.heap.objs.size + 1) scope.names (cloFrom X.env.cells scope.names []) := by rw [← hcenv]; rfl
  have hsc : cenv.scope = relS scope X.env.scope := by rw [← hcenv]; rfl
  rw [← Heap.size_push s.heap { cls := .type "dict", data := .dict #[] }] at hcl
  have cm : ∀ {y c}, (y, c) ∈ cloFrom X.env.cells scope.names [] → X.env.cells.lookup y = some c ∧ c < s.heap.objs.size := fun {y c} hm => by
    rcases cloFrom_mem hm with hm | ⟨h1, rfl⟩
    · cases hm
    · obtain ⟨c, hc⟩ := hfree _ h1 rfl
      rw [hc]
      obtain ⟨w, z⟩ := I.cell _ _ hc
      exact ⟨rfl, z.lt⟩
  have mem : ∀ {y c}, cenv.cells.lookup y = some c → (X.env.cells.lookup y = some c ∧ c < s.heap.objs.size) ∨ (s.heap.objs.size + 1 ≤ c ∧ CellAt (pushCells (s.heap.push { cls := .type "dict", data := .dict #[] }) scope.names) c none) := fun {y c} e => by
    rw [hcl] at e
    rcases cells_mem (PySem.mem_of_lookup e) with hm | ⟨_, h2, h3⟩
    · exact .inl (cm hm)
    · rw [Heap.size_push] at h2; exact .inr ⟨h2, h3⟩
  have look : ∀ {y}, scope.names.lookup y = some .free → ∃ c, cenv.cells.lookup y = some c ∧ X.env.cells.lookup y = some c := fun {y} hl => by
    have hy : (y, NameKind.free) ∈ scope.names := PySem.mem_of_lookup hl
    obtain ⟨c', e'⟩ := mem_lookup (cells_acc (names := scope.names) (n := (s.heap.push { cls := .type "dict", data := .dict #[] }).objs.size) (cloFrom_has (cells := X.env.cells) (acc := []) hy))
    rw [← hcl] at e'
    refine ⟨c', e', ?_⟩
    rw [hcl] at e'
    rcases cells_mem (PySem.mem_of_lookup e') with hm | ⟨h1, _, _⟩
    · exact (cm hm).1
    · have := ok.uniq _ h1
      rw [hl] at this; cases this
  have okB : (X.blk s H scope cenv fp).Ok := by
    refine ⟨I.ok.mod, by show cenv.scope.kind = _; rw [hsc]; exact ok.kind, by show cenv.globals = _; rw [← hcenv]; exact I.ok.glob, by show cenv.builtins = _; rw [← hcenv]; exact I.ok.blt, by show s.heap.objs.size ≤ cenv.locals; rw [hL]; exact Nat.le_refl _,
      fun y z c e1 e2 => ?_, fun y hy => ?_, fun y c z e => ?_, I.ok.hd, I.ok.frames, .inl rfl, fun b hb => ⟨?_, fun y c e z => ?_⟩, I.bs, Nat.le_trans I.ok.bsz I.sz, fun b o e hb => ?_, fun b hb z => ?_, I.stack, I.stkFree⟩
    · have e1 : cenv.cells.lookup y = some c := e1
      have e2 : cenv.cells.lookup z = some c := e2
      rw [hcl] at e1 e2
      refine cells_inj (fun p hp => ?_) (fun y z c a b => I.ok.inj y z c (cm a).1 (cm b).1) (PySem.mem_of_lookup e1) (PySem.mem_of_lookup e2)
      rw [Heap.size_push]
      exact Nat.lt_succ_of_lt (cm (y := p.1) (c := p.2) hp).2
    · show ∃ c, cenv.cells.lookup y = some c
      have key : ∀ k, cenv.kindOf y = some k → (k = .cell ∨ k = .free) → ∃ c, cenv.cells.lookup y = some c := fun k hk hk' => by
        unfold Env.kindOf at hk
        rw [hsc] at hk
        obtain ⟨k', e, r⟩ := lookup_relS hk
        have : k' = .cell ∨ k' = .free := by
          rcases r with rfl | ⟨rfl, _⟩
          · exact hk'
          · exact .inr rfl
        rcases this with rfl | rfl
        · obtain ⟨c, hm⟩ := cells_has (n := (s.heap.push { cls := .type "dict", data := .dict #[] }).objs.size) (acc := cloFrom X.env.cells scope.names []) (PySem.mem_of_lookup e)
          obtain ⟨c', e'⟩ := mem_lookup hm
          exact ⟨c', by rw [hcl]; exact e'⟩
        · obtain ⟨c, h1, _⟩ := look e
          exact ⟨c, h1⟩
      rcases hy with hy | hy
      · exact key _ hy (.inl rfl)
      · exact key _ hy (.inr rfl)
    · have z : (scope.names.lookup y == some NameKind.cell) = true := z
      have z : scope.names.lookup y = some .cell := by simpa using z
      have e : cenv.cells.lookup y = some c := e
      rw [hcl] at e
      rcases cells_mem (PySem.mem_of_lookup e) with hm | ⟨_, h2, _⟩
      · rcases cloFrom_mem hm with hm | ⟨h1, _⟩
        · cases hm
        · have q := ok.uniq _ h1
          rw [z] at q; cases q
      · rw [Heap.size_push] at h2
        exact Nat.le_of_succ_le h2
    · show b ≠ cenv.locals
      rw [hL]; exact Nat.ne_of_lt (hfp b hb).2
    · have e : cenv.cells.lookup y = some c := e
      rcases mem e with ⟨h1, _⟩ | ⟨h1, _⟩
      · exact (hfp b hb).1.2.2.2.2.1 y c h1 z
      · have h2 : s.heap.objs.size + 1 ≤ b := by rw [← z]; exact h1
        exact absurd (Nat.lt_of_lt_of_le (hfp b hb).2 (Nat.le_of_succ_le h2)) (Nat.lt_irrefl _)
    · rcases (hfp b hb).1.2.2.2.1 with z | z
      · exact I.ok.noex b o e z
      · exact absurd (Nat.lt_of_lt_of_le (Heap.lt_size e) (Nat.le_trans I.ok.bsz z)) (Nat.lt_irrefl _)
    · rcases List.mem_cons.mp (I.stkSub b z) with z | z
      · exact (hfp b hb).1.2.1 z
      · exact (hfp b hb).1.2.2.1 z
  refine ⟨okB, rfl, I.bare, Un.kept kp, ⟨fun _ => none, ?_, fun i y av e1 e2 e3 => ?_⟩, fun y c e => ?_, ?_, fun y c e => ?_, fun p hp => ?_, I.hok.kept kp, by rw [wipe_length]; exact I.len⟩
  · show Heap.Ns _ cenv.locals _
    rw [hL]
    exact Heap.Ns.keeps (Heap.Ns.new ..) fun b o e => pushCells_keeps _ _ _ _ e
  · obtain ⟨e2, hne⟩ := wipe_some e2
    have hfr : scope.names.lookup y = some .free ∧ (cenv.kindOf y = some .cell ∨ cenv.kindOf y = some .free) := by
      have key : ∀ k, cenv.scope.names.lookup y = some k → k = .local ∨ k = .cell ∨ k = .free → scope.names.lookup y = some .free ∧ (cenv.kindOf y = some .cell ∨ cenv.kindOf y = some .free) := fun k hk hk' => by
        have hk0 := hk
        rw [hsc] at hk
        obtain ⟨k', e, r⟩ := lookup_relS hk
        have no : ¬ (k' = .local ∨ k' = .cell) := fun hh => by
          rcases ok.own _ (PySem.mem_of_lookup e) hh with e' | e'
          · obtain ⟨p, hp, hpy⟩ := List.mem_map.mp e'
            have e3 := ok.ix p hp
            have : p.1 = y := hpy
            rw [this] at e3
            exact hne (List.mem_map.mpr ⟨p, hp, nodup_ix hN e3 e1⟩)
          · exact e' (List.mem_of_getElem? e1)
        rcases r with rfl | ⟨rfl, rfl⟩
        · rcases hk' with rfl | rfl | rfl
          · exact absurd (.inl rfl) no
          · exact absurd (.inr rfl) no
          · exact ⟨e, .inr hk0⟩
        · exact ⟨e, .inl hk0⟩
      have e3 : Vis cenv.scope y := e3
      rcases e3 with e3 | e3 | e3
      · exact key _ e3 (.inl rfl)
      · exact key _ e3 (.inr (.inl rfl))
      · exact key _ e3 (.inr (.inr rfl))
    obtain ⟨m, hn, hl⟩ := I.loc
    have hvis : Vis X.env.scope y := (ok.free _ (PySem.mem_of_lookup hfr.1) rfl).elim (fun k => .inr (.inl k)) (fun k => .inr (.inr k))
    obtain ⟨w, r, q⟩ := hl i y av e1 e2 hvis
    refine ⟨w, r, .inr ⟨hfr.2, ?_⟩⟩
    obtain ⟨c, h1, h2⟩ := look hfr.1
    rcases q with ⟨k, _⟩ | ⟨_, c', e', z⟩
    · have k : X.env.scope.names.lookup y = some .local := k
      rcases ok.free _ (PySem.mem_of_lookup hfr.1) rfl with k' | k' <;> rw [show X.env.scope.names.lookup y = _ from k'] at k <;> cases k
    · rw [h2] at e'; cases e'
      exact ⟨c, h1, z.keeps kp⟩
  · have e : cenv.cells.lookup y = some c := e
    rcases mem e with ⟨h1, _⟩ | ⟨_, z⟩
    · obtain ⟨w, z⟩ := I.cell y c h1
      exact ⟨w, z.keeps kp⟩
    · exact ⟨_, z⟩
  · show H cenv.locals = none
    rw [hL]; exact I.hok.fresh (Nat.le_refl _)
  · have e : cenv.cells.lookup y = some c := e
    rcases mem e with ⟨h1, _⟩ | ⟨h1, _⟩
    · exact I.freeC y c h1
    · exact I.hok.fresh (Nat.le_of_succ_le h1)
  · exact absurd (show p ∈ ([] : List (Addr × Obj)) ++ [] from hp) (by simp)

/-- an item appended to a tracked list -/
theorem app_ok {E : Value → Shared → Prop} {D : Addr} {xs : List V} {y : V} {v : Value} {Q : Value → Shared → Prop} (I : Inv X pins σ H s) (hD : H D = some (.lst xs)) (hz : xs.length < sizeLine) (r : RelV y v)
    (h : ∀ s', Inv X pins σ (upd H D (.lst (xs ++ [y]))) s' → Q .none s') : wpAny (model X.prog X.w) X.A (call (.builtin "list.append") [.ref D, v]) Q E s := by
  obtain ⟨hz', its, n, ri, e⟩ := I.hok D _ hD
  have hl := ri.length
  refine append_at (hsz := by rw [List.size_toArray]; omega) e fun h' sb ho' => ?_
  refine h { s with heap := h' } (I.write (t' := s.toks) (by rw [hD]; trivial) (.inl rfl) (fun b u hb q => (sb.2 b hb).trans q) ⟨_, ho'⟩ ⟨by rw [List.length_append]; exact hz, its ++ [v], n + 1, ri.append (.cons r .nil), ?_⟩)
  rw [ho']
  simp

/-- a clause's tests -/
def PTs (X : Cx) (ifs : List Expr) (t : TT) : Prop :=
  ∀ (pins : List (Addr × Obj)) (s : Shared) (σ : St) (H : Hp) (Q : Bool → Hp → Prop), Inv X pins σ H s → t σ H Q →
    wpAny (model X.prog X.w) X.A (forIn ifs true fun c r => if r = true then do let ok ← isTrue c X.env (eval c X.env); pure (ForInStep.yield ok) else pure (ForInStep.yield r)) (TP X pins σ Q) X.xe s
def tYes : TT := fun _ H Q => Q true H
theorem pts_nil : PTs X [] tYes := fun _ _ _ H _ I h => wpAny_tests_nil ⟨H, I, h⟩
theorem pts_one {c : Expr} {t : TT} (h : PT X c t) : PTs X [c] t := fun pins s σ H Q I hw => wpAny_tests_one (h pins s σ H Q I hw)
end

theorem thnF {α : Type} {t : Sem α} {Q Q' : α → Shared → Prop} {M : Model} {A : Around} {E : Value → Shared → Prop} {s : Shared} (h : wpAny M A t Q (fun _ _ => False) s) (hQ : ∀ a s, Q a s → Q' a s) : wpAny M A t Q' E s := wpAny_mono h hQ fun _ _ z => False.elim z

/-- the loop of a list comprehension's block, the target of any form (codeAny_compLoop_tests asks a target that no tuple goes to; statement and proof follow it, PyProof/CompMap.lean:41-61, with the step letOwnedTupleGo kept) -/
theorem compLoop_any {prog : Program} {w : World} {A : Around} {R : Result → Shared → Prop} {s : Shared} {elt target iter : Expr} {ifs : List Expr} {scope : Scope} {pos : Pos} {it acc : Value} {env : Env} (I : Nat → Shared → Prop)
    (turn : ∀ n s, I n s → wpAny (model prog w) A (pyNext it) (fun r s₁ => match r with
      | none => R (.ok .next) s₁
      | some v => wpAny (model prog w) A (letOwnedTupleGo target it v) (fun _ s₁' => wpAny (model prog w) A (assign target env v) (fun _ s₂ =>
          wpAny (model prog w) A (forIn ifs true fun c r => if r = true then do let ok ← isTrue c env (eval c env); pure (ForInStep.yield ok) else pure (ForInStep.yield r)) (fun ok s₃ =>
            if ok = true then wpAny (model prog w) A (eval elt env) (fun x s₄ =>
              wpAny (model prog w) A (call (.builtin "list.append") [acc, x]) (fun _ s₅ => ∃ m, m < n ∧ I m s₅) (notedBy (model prog w) A env fun e s' => R (.error e) s') s₄) (notedBy (model prog w) A env fun e s' => R (.error e) s') s₃
            else ∃ m, m < n ∧ I m s₃) (notedBy (model prog w) A env fun e s' => R (.error e) s') s₂) (notedBy (model prog w) A env fun e s' => R (.error e) s') s₁') (notedBy (model prog w) A env fun e s' => R (.error e) s') s₁) (notedBy (model prog w) A env fun e s' => R (.error e) s') s)
    (n : Nat) (h : I n s) :
    codeAny (model prog w) A (.compLoop (.ListComp elt [⟨target, iter, ifs, 0⟩] scope pos) 0 it acc env) R s := by
  refine codeAny_loop rfl I (fun n s hI => ?_) n h
  show wpAny _ A ((compTurn (.ListComp elt [⟨target, iter, ifs, 0⟩] scope pos) 0 it acc env).onRaise (fun x => do noteFrame x env; theTreesLotGoes x)) _ _ s
  refine wpAny_noted ?_
  rw [compTurn_list]
  refine wpAny_bind (wpAny_standAt (wpAny_bind (wpAny_mono (turn n s hI) (fun r s₁ h₁ => ?_) fun _ _ h' => h')))
  cases r with
  | none => exact wpAny_pure h₁
  | some v =>
    refine wpAny_bind (wpAny_mono h₁ (fun _ s₁' h₁' => ?_) fun _ _ h' => h')
    refine wpAny_bind (wpAny_mono h₁' (fun _ s₂ h₂ => wpAny_bind (wpAny_mono h₂ (fun ok s₃ h₃ => ?_) fun _ _ h' => h')) fun _ _ h' => h')
    cases ok with
    | false => exact wpAny_pure ⟨rfl, h₃⟩
    | true =>
      exact wpAny_bind (wpAny_bind (wpAny_mono h₃ (fun x s₄ h₄ => wpAny_bind (wpAny_mono h₄ (fun _ s₅ h₅ => wpAny_pure (wpAny_pure ⟨rfl, h₅⟩)) fun _ _ h' => h')) fun _ _ h' => h'))

section
variable {X : Cx}
/-- [elt for target in iter if ..]: D the new list; W by the turn and a measure, Nx what a turn is to reach -/
def tLc (wi : TI) (g : TG) (tt : TT) (te : TE) (vs : List Nat) : TE := fun σ H Q => wi σ H fun J H1 => ∀ D, H1 D = none → ∃ W : Nat → Nat → Hp → Prop, (∃ m, W 0 m (upd H1 D (.lst []))) ∧ ∀ i m H, W i m H →
  (J.stop i H ∧ Q (.ref D) H) ∨ (J.go i H ∧ ∃ Nx : Hp → Prop, (∀ H', Nx H' → ∃ m', m' < m ∧ W (i + 1) m' H') ∧ ∀ x H', J.yld i H x H' → g x (wipe σ vs) H' fun σ2 H2 => wipe σ2 vs = wipe σ vs ∧ tt σ2 H2 fun b H3 =>
    if b = true then te σ2 H3 fun y H4 => ∃ acc, H4 D = some (.lst acc) ∧ acc.length < sizeLine ∧ Nx (upd H4 D (.lst (acc ++ [y]))) else Nx H3)
theorem lc_core {pins : List (Addr × Obj)} {s : Shared} {σ : St} {H : Hp} {Q : VK} {elt tg iter : Expr} {ifs : List Expr} {scope : Scope} {own : List (Str × Nat)} {pos pos' : Pos} {wi : TI} {g : TG} {tt : TT} {te : TE} {use : Option (Value → Sem Unit)} {Qf : Value → Shared → Prop}
    (hc : X.calm = true) (hN : X.N.Nodup) (I : Inv X pins σ H s) (hi : PI X tg iter wi) (ok : BlkOk X.N X.env.scope scope own)
    (hg : ∀ (s : Shared) (H : Hp) (C : Addr) (cl : List (Str × Addr)) (fp : List Addr), PG (X.blk s H scope (compEnvC scope cl C X.env) fp) tg g) (ht : ∀ (s : Shared) (H : Hp) (C : Addr) (cl : List (Str × Addr)) (fp : List Addr), PTs (X.blk s H scope (compEnvC scope cl C X.env) fp) ifs tt)
    (he : ∀ (s : Shared) (H : Hp) (C : Addr) (cl : List (Str × Addr)) (fp : List Addr), PE (X.blk s H scope (compEnvC scope cl C X.env) fp) elt te) (hs : ∀ x, foldedSetIterable iter X.env x = pure x)
    (h : tLc wi g tt te (own.map (·.2)) σ H Q)
    (hRR : ∀ D C s' m H', Inv X pins σ H' s' → Q (.ref D) H' → s'.heap.Ns C m → FpOk X pins H' C → compPost (model X.prog X.w) X.A X.xe use Qf (.ref D) C (.ok .next) s') :
    wpAny (model X.prog X.w) X.A (comprehension (.ListComp elt [⟨tg, iter, ifs, 0⟩] scope pos) scope X.env pos' (newList []) false (eval iter X.env) use) Qf X.xe s := by
  have hfree : ∀ y ∈ scope.names, y.2 = .free → ∃ c, X.env.cells.lookup y.1 = some c := fun y hy e => by
    rcases ok.free y hy e with k | k
    · exact I.ok.has _ (.inl k)
    · exact I.ok.has _ (.inr k)
  refine wpAny_comprehension_free (use := use) rfl hs (closure_ok hfree) ok.kind (fun y hy e => by rw [ok.uniq y hy, e])
    (thn (hi pins s σ H _ I h) fun xv s1 hx => thn hx fun itv s2 h2 => ?_)
  obtain ⟨it, fp, tn, J, H2, e, I2, T, st2, f2, q⟩ := h2
  subst e
  refine wpAny_newObj_type (newEnv_comp ?_) (by show 0 ≤ sizeLine; decide)
  generalize hD : s2.heap.objs.size = D
  have hDn : H2 D = none := I2.hok.fresh (Nat.le_of_eq hD)
  obtain ⟨W, ⟨m0, w0⟩, turn⟩ := q D hDn
  -- the new list
  generalize hs3 : ({ s2 with heap := s2.heap.push { cls := .type "list", data := .seq ([] : List Value).toArray } } : Shared) = s3
  have I3 : Inv X pins σ (upd H2 D (.lst [])) s3 := by
    rw [← hs3]
    refine I2.laid (t' := s2.toks) (fun b o e => Heap.get?_push_of_some _ e) (Nat.le_of_eq hD) ⟨Nat.zero_le _, [], 0, .nil, ?_⟩
    rw [← hD]
    exact Heap.get?_push_size _ rfl
  have h3 : s3.heap = s2.heap.push { cls := .type "list", data := .seq ([] : List Value).toArray } := by rw [← hs3]
  have sz : ∀ b ∈ fp, b < s2.heap.objs.size := fun b hb => by
    obtain ⟨o, e, _⟩ := T.obj _ _ st2 b hb
    exact Heap.lt_size e
  have f3 : ∀ b ∈ fp, FpOk X pins (upd H2 D (.lst [])) b ∧ b < s3.heap.objs.size := fun b hb => by
    have hlt := sz b hb
    refine ⟨⟨?_, (f2 b hb).2⟩, by rw [h3, Heap.size_push]; exact Nat.lt_succ_of_lt hlt⟩
    rw [upd_ne (by rw [← hD]; exact Nat.ne_of_lt hlt)]
    exact (f2 b hb).1
  have st3 : tn 0 s3.heap := T.keep _ _ _ st2 fun b _ o e => by rw [h3]; exact Heap.get?_push_of_some _ e
  have I4 := block_start I3 ok hN f3
  have pg := hg s3 (upd H2 D (.lst [])) s3.heap.objs.size (cellsFrom (s3.heap.objs.size + 1) scope.names (cloFrom X.env.cells scope.names [])) fp
  have pt := ht s3 (upd H2 D (.lst [])) s3.heap.objs.size (cellsFrom (s3.heap.objs.size + 1) scope.names (cloFrom X.env.cells scope.names [])) fp
  have pe := he s3 (upd H2 D (.lst [])) s3.heap.objs.size (cellsFrom (s3.heap.objs.size + 1) scope.names (cloFrom X.env.cells scope.names [])) fp
  show codeAny _ _ (.compStart (.ListComp elt [⟨tg, iter, ifs, 0⟩] scope pos) 0 (.ref it) (.ref D) (compEnvC scope (cellsFrom (s3.heap.objs.size + 1) scope.names (cloFrom X.env.cells scope.names [])) s3.heap.objs.size X.env)) (compPost (model X.prog X.w) X.A X.xe use Qf (.ref D) s3.heap.objs.size) { s3 with heap := pushCells (s3.heap.push { cls := .type "dict", data := .dict #[] }) scope.names }
  have nfp : ∀ b ∈ fp, (upd H2 D (.lst [])) b = none := fun b hb => (f3 b hb).1.1
  generalize hce : compEnvC scope (cellsFrom (s3.heap.objs.size + 1) scope.names (cloFrom X.env.cells scope.names [])) s3.heap.objs.size X.env = ce at I4 pg pt pe ⊢
  have cL : ce.locals = s3.heap.objs.size := by subst hce; rfl
  generalize hH3 : upd H2 D (.lst []) = H3 at I3 I4 pg pt pe w0 nfp f3
  generalize hs4 : ({ s3 with heap := pushCells (s3.heap.push { cls := .type "dict", data := .dict #[] }) scope.names } : Shared) = s4 at I4 ⊢
  have st4 : tn 0 s4.heap := T.keep _ _ _ st3 fun b _ o e => by rw [← hs4]; exact pushCells_keeps _ _ _ _ (Heap.get?_push_of_some _ e)
  have stat : ∀ {σ' : St} {H' : Hp} {s' : Shared}, Inv (X.blk s3 H3 scope ce fp) [] σ' H' s' → (∀ b ∈ fp, H' b = none) → ∀ b ∈ fp, FpOk (X.blk s3 H3 scope ce fp) [] H' b := fun {σ' H' s'} I' hn b hb =>
    ⟨hn b hb, (I'.ok.exf b hb).1, I'.ok.exfs b hb, .inl hb, fun x c e => (I'.ok.exf b hb).2 x c e, fun p hp => absurd (show p ∈ ([] : List (Addr × Obj)) ++ [] from hp) (by simp)⟩
  have loop : codeAny (model X.prog X.w) X.A (.compLoop (.ListComp elt [⟨tg, iter, ifs, 0⟩] scope pos) 0 (.ref it) (.ref D) ce) (compPost (model X.prog X.w) X.A X.xe use Qf (.ref D) s3.heap.objs.size) s4 := by
    refine compLoop_any (fun n s' => ∃ i H', Inv (X.blk s3 H3 scope ce fp) [] (wipe σ (own.map (·.2))) H' s' ∧ tn i s'.heap ∧ (∀ b ∈ fp, H' b = none) ∧ W i n H') ?_ m0 ⟨0, H3, I4, st4, nfp, w0⟩
    rintro n s5 ⟨i, H5, I5, st5, n5, w5⟩
    rcases turn i n H5 w5 with ⟨stop, qq⟩ | ⟨go, Nx, hNx, step⟩
    · have td := T.done (X.blk s3 H3 scope ce fp) rfl rfl rfl hc i [] s5 _ H5 (fun _ _ => False) I5 (stat I5 n5) st5 stop
      refine thnF td fun r s6 ⟨hr, I6⟩ => ?_
      subst hr
      -- back in the def's context
      have I7 : Inv X pins σ H5 s6 := I3.call' (ch := fp) I6.os I6.base I6.hok I6.bare fun b hb => ⟨(f3 b hb).1.2.2.2.1, (f3 b hb).1.2.1, (f3 b hb).1.2.2.2.2.1, (f3 b hb).1.2.2.2.2.2⟩
      have nC : H5 s3.heap.objs.size = none := by
        have z : H5 ce.locals = none := I6.free
        rw [cL] at z
        exact z
      obtain ⟨m, hn, _⟩ := I6.loc
      have hn : s6.heap.Ns ce.locals m := hn
      rw [cL] at hn
      exact hRR D s3.heap.objs.size s6 m H5 I7 qq hn (I3.fpOk (Nat.le_refl _) nC)
    · have ti := T.item (X.blk s3 H3 scope ce fp) rfl rfl rfl hc i [] s5 _ H5 (fun _ _ => False) I5 (stat I5 n5) st5 go
      refine thnF ti fun r s6 ⟨u, hr, h6⟩ => ?_
      subst hr
      refine thnF h6 fun _ s7 ⟨x, H7, I7, r7, y7, st7, n7⟩ => ?_
      have I7' := I7.pinned (stat I7 n7) (T.obj _ _ st7)
      refine thnF (pg _ s7 _ H7 x u _ I7' r7 (step x H7 y7)) fun _ s8 ⟨σ8, H8, I8, hw8, q8⟩ => ?_
      refine thnF (pt _ s8 σ8 H8 _ I8 q8) fun b s9 ⟨H9, I9, q9⟩ => ?_
      -- the turn's end
      have fin : ∀ {s' : Shared} {H' : Hp}, Inv (X.blk s3 H3 scope ce fp) ([] ++ pinsAt fp s7.heap) σ8 H' s' → Nx H' → ∃ m, m < n ∧ ∃ i H', Inv (X.blk s3 H3 scope ce fp) [] (wipe σ (own.map (·.2))) H' s' ∧ tn i s'.heap ∧ (∀ b ∈ fp, H' b = none) ∧ W i m H' := fun {s' H'} I' nx => by
        obtain ⟨m', hm, w'⟩ := hNx H' nx
        have pin' : ∀ b ∈ fp, ∀ o, s7.heap.get? b = some o → s'.heap.get? b = some o ∧ H' b = none := fun b hb o e =>
          let z := I'.pin (b, o) (List.mem_append_right _ (List.mem_append_right _ (mem_pinsAt hb e)))
          ⟨z.1, z.2.1⟩
        have hl : (wipe σ (own.map (·.2))).length = σ8.length := by rw [← hw8, wipe_length]
        refine ⟨m', hm, i + 1, H', (I'.unpinned (pins := [])).weak hl (fun j v e => ?_), T.keep _ _ _ st7 fun b hb o e => (pin' b hb o e).1, fun b hb => ?_, w'⟩
        · rw [← hw8] at e
          exact (wipe_some e).1
        · obtain ⟨o, e, _⟩ := T.obj _ _ st7 b hb
          exact (pin' b hb o e).2
      cases b with
      | false =>
        simp only [Bool.false_eq_true, if_false] at q9 ⊢
        exact fin I9 q9
      | true =>
        simp only [if_true] at q9 ⊢
        refine thnF (pe _ s9 σ8 H9 _ I9 q9) fun z s10 ⟨yv, H10, I10, r10, acc, hD10, hz10, nx⟩ => ?_
        exact app_ok (X := X.blk s3 H3 scope ce fp) I10 hD10 hz10 r10 fun s11 I11 => fin I11 nx
  exact codeAny_compStart_list loop (T.self X.A 0 _ _ _ st4 loop)
/-- as a value -/
theorem pe_lc {elt tg iter : Expr} {ifs : List Expr} {scope : Scope} {own : List (Str × Nat)} {pos : Pos} {wi : TI} {g : TG} {tt : TT} {te : TE} (hc : X.calm = true) (hN : X.N.Nodup) (hi : PI X tg iter wi) (ok : BlkOk X.N X.env.scope scope own)
    (hg : ∀ (s : Shared) (H : Hp) (C : Addr) (cl : List (Str × Addr)) (fp : List Addr), PG (X.blk s H scope (compEnvC scope cl C X.env) fp) tg g) (ht : ∀ (s : Shared) (H : Hp) (C : Addr) (cl : List (Str × Addr)) (fp : List Addr), PTs (X.blk s H scope (compEnvC scope cl C X.env) fp) ifs tt)
    (he : ∀ (s : Shared) (H : Hp) (C : Addr) (cl : List (Str × Addr)) (fp : List Addr), PE (X.blk s H scope (compEnvC scope cl C X.env) fp) elt te) (hs : ∀ x, foldedSetIterable iter X.env x = pure x := by intro _; rfl) :
    PE X (.ListComp elt [⟨tg, iter, ifs, 0⟩] scope pos) (tLc wi g tt te (own.map (·.2))) := by
  intro pins s σ H Q I h
  rw [eval_ListComp]
  refine lc_core hc hN I hi ok hg ht he hs h fun D C s' m H' I' q hn f => ⟨m, hn, fun h'' sb => ?_⟩
  obtain ⟨f0, f1, f2, f3, f4, f5⟩ := f
  exact ⟨.ref D, H', I'.turned (t' := s'.toks) (fun b o hb e => (sb.2 b hb).trans e) f0 f1 f3 f4 f5, rfl, q⟩
/-- name = [..] on one line, the name a local -/
theorem ps_setLc {i : Nat} {y : Str} {py : Pos} {elt tg iter : Expr} {ifs : List Expr} {scope : Scope} {own : List (Str × Nat)} {pos spos : Pos} {wi : TI} {g : TG} {tt : TT} {te : TE} (hc : X.calm = true) (hN : X.N.Nodup) (hy : X.N[i]? = some y) (hyl : X.env.scope.names.lookup y = some .local)
    (hsw : swapsWith (.ListComp elt [⟨tg, iter, ifs, 0⟩] scope pos) (some (.Name y py)) spos.line X.env = pure true) (hi : PI X tg iter wi) (ok : BlkOk X.N X.env.scope scope own)
    (hg : ∀ (s : Shared) (H : Hp) (C : Addr) (cl : List (Str × Addr)) (fp : List Addr), PG (X.blk s H scope (compEnvC scope cl C X.env) fp) tg g) (ht : ∀ (s : Shared) (H : Hp) (C : Addr) (cl : List (Str × Addr)) (fp : List Addr), PTs (X.blk s H scope (compEnvC scope cl C X.env) fp) ifs tt)
    (he : ∀ (s : Shared) (H : Hp) (C : Addr) (cl : List (Str × Addr)) (fp : List Addr), PE (X.blk s H scope (compEnvC scope cl C X.env) fp) elt te) (hs : ∀ x, foldedSetIterable iter X.env x = pure x := by intro _; rfl) :
    PS X (.Assign [.Name y py] (.ListComp elt [⟨tg, iter, ifs, 0⟩] scope pos) spos) (tAsg (tLc wi g tt te (own.map (·.2))) (gName i)) := by
  intro pins s σ H D I h
  rw [exec_Assign_Name_used _ _ _ _ hsw]
  refine wpAny_bind (wpAny_standAt (wpAny_bind ?_))
  show wpAny _ X.A (do let _ ← comprehension (.ListComp elt [⟨tg, iter, ifs, 0⟩] scope pos) scope X.env (firstIterPos [⟨tg, iter, ifs, 0⟩] pos) (newList []) false (eval iter X.env) (some (assign (.Name y py) X.env))) _ _ s
  have h : tLc wi g tt te (own.map (·.2)) σ H (fun x H1 => gName i x σ H1 D.nx) := h
  refine wpAny_bind (thn (lc_core (Qf := fun _ s' => SP X pins D .next s') hc hN I hi ok hg ht he hs h fun L C s' m H' I' q hn f => ?_) fun _ s' hq => wpAny_pure (wpAny_pure hq))
  show wpAny _ _ (assign (.Name y py) X.env (.ref L)) _ _ _
  refine wpAny_assign_Name (store_ok2 (v := V.ref L) I' hN hy (.inl hyl) rfl (fun s2 I2 ⟨a, sb, ha⟩ => ?_) (.inr hyl))
  obtain ⟨f0, f1, f2, f3, f4, f5⟩ := f
  have haC : C ≠ a := by
    rcases ha with z | z
    · rw [z]; exact f1
    · exact fun e => f4 y a z e.symm
  refine ⟨m, hn.sameBut sb haC, fun h3 sb3 => ?_⟩
  exact ⟨_, H', I2.turned (t' := s2.toks) (fun b o hb e => (sb3.2 b hb).trans e) f0 f1 f3 f4 f5, q⟩
theorem sw_true {elt : Expr} {gs : List Comprehension} {scope : Scope} {pos py : Pos} {y : Str} {l : Nat} {env : Env} (hk : env.scope.kind = .function) (hy : env.scope.names.lookup y = some .local) (hl : (py.line == pos.line) = true)
    (ha : (scope.names.any fun (n, k) => n == y && (k == .local || k == .cell)) = false) : swapsWith (.ListComp elt gs scope pos) (some (.Name y py)) l env = pure true := by
  have ky : env.kindOf y = some .local := hy
  have hb : env.blockKind = .function := by unfold Env.blockKind; rw [hk]; rfl
  unfold swapsWith
  simp only [hb, ky, ha, Expr.pos, hl]
  rfl
end

def blkC (N : List Str) (sc scope : Scope) (own : List (Str × Nat)) : Bool :=
  (match scope.kind with | .function => true | _ => false) && (scope.names.all fun y => decide (scope.names.lookup y.1 = some y.2)) && (own.all fun p => decide (N[p.2]? = some p.1)) &&
    (scope.names.all fun y => match y.2 with
      | .free => (match sc.names.lookup y.1 with | some .cell => true | some .free => true | _ => false)
      | .local => decide (y.1 ∈ own.map (·.1)) || decide (y.1 ∉ N)
      | .cell => decide (y.1 ∈ own.map (·.1)) || decide (y.1 ∉ N)
      | _ => true)
theorem blkOk_by {N : List Str} {sc scope : Scope} {own : List (Str × Nat)} (h : blkC N sc scope own = true) : BlkOk N sc scope own := by
  unfold blkC at h
  simp only [Bool.and_eq_true, List.all_eq_true, decide_eq_true_eq] at h
  obtain ⟨⟨⟨h1, h2⟩, h3⟩, h4⟩ := h
  refine ⟨?_, h2, h3, fun y hy e => ?_, fun y hy e => ?_⟩
  · split at h1
    · assumption
    · cases h1
  · have q := h4 y hy
    simp only [e] at q
    split at q <;> first | exact .inl (by assumption) | exact .inr (by assumption) | cases q
  · have q := h4 y hy
    rcases e with e | e <;> (simp only [e, Bool.or_eq_true, decide_eq_true_eq] at q; exact q)
end L2

namespace L2
open PySem PySem.Spec PyProof.Rows


section
variable {prog : Program} {w : World} {A : Around} {R : Result → Shared → Prop} {s : Shared} {elt t0 i0 t1 i1 : Expr} {ifs0 ifs1 : List Expr} {scope : Scope} {pos : Pos} {it acc : Value} {env : Env}
end

section
variable {X : Cx}
end
end L2

namespace L2
open PySem PySem.Spec PyProof.Rows

section
variable {κ : Type} [DecidableEq κ]



end




section
variable {P : Program} {w : World} {H : Hp} {h : Heap} {a : Addr}
end



section
variable {X : Cx} {pins : List (Addr × Obj)} {σ : St} {H : Hp} {s : Shared} {a : Addr} {y v : V} {u r : Value} {o : Option V} {A : Around} {E : Value → Shared → Prop}


end

section
variable {X : Cx} {pins : List (Addr × Obj)} {σ : St} {H : Hp} {s : Shared} {a : Addr} {kvs : List (Key × V)} {k : Key} {u : Value} {A : Around} {E : Value → Shared → Prop}
end





section
variable {X : Cx} {o i e value : Expr} {pos pos' tpos : Pos} {td ty tv : TE}
end


section
variable {X : Cx} {pos : Pos}
end






section
variable {X : Cx} {pins : List (Addr × Obj)} {σ : St} {H : Hp} {s : Shared} {a : Addr} {y d : V} {u r : Value} {o : Option V} {A : Around} {E : Value → Shared → Prop}
end

section
variable {X : Cx} {o e f : Expr} {apos cpos : Pos} {td ty tx : TE}
end

section
variable {X : Cx} {pins : List (Addr × Obj)} {σ : St} {H : Hp} {s : Shared} {a : Addr} {kvs : List (Key × V)} {A : Around} {E : Value → Shared → Prop}
end


section
variable {X : Cx} {pins : List (Addr × Obj)} {σ : St} {H : Hp} {s : Shared} {a : Addr} {y : V} {u : Value} {A : Around} {E : Value → Shared → Prop}
end
end L2

namespace L2
open PySem PySem.Spec PyProof.Rows


section
variable {prog : Program} {w : World} {A : Around} {E : Value → Shared → Prop}


end

section
variable {X : Cx}
end
end L2

namespace L2
open PySem PySem.Spec PyProof.Rows


section
variable {X : Cx} {pins : List (Addr × Obj)} {σ : St} {H : Hp} {s : Shared} {h' : Heap}
/-- several records of ours have turned -/
theorem Inv.turnedL {t' : Nat} {ch : List Addr} (I : Inv X pins σ H s) (k : ∀ b o, b ∉ ch → s.heap.get? b = some o → h'.get? b = some o) (hf : ∀ b ∈ ch, FpOk X pins H b) : Inv X pins σ H { s with heap := h', toks := t' } := by
  have nit : ∀ b u, H b = some u → b ∉ ch := fun b u e z => by
    have q := (hf b z).1
    rw [q] at e; cases e
  refine I.step (g' := s.gens) (d' := s.drawn) (ch := ch) (fun b hb => ⟨(hf b hb).2.2.2.1, (hf b hb).2.1, (hf b hb).2.2.2.2.1, (hf b hb).2.2.2.2.2⟩) (fun b o _ _ hc e _ => k b o hc e) (fun b o _ _ hc e _ => ⟨o.slots, k b o hc e⟩)
    (fun _ _ _ _ n => n) (fun b o hc e => ⟨o, k b o hc e⟩) (fun _ _ e => e) (fun _ _ _ e => e) (fun b ps e => ⟨#[], by rw [e]; simp⟩) (fun m hm => ?_) (fun b u e => ?_) I.bare
  · obtain ⟨o, es, ep, ho, r⟩ := hm
    exact ⟨o, es, ep, k _ o (fun z => (hf _ z).2.1 rfl) ho, r⟩
  · refine (I.hok b u e).stay (fun c v hc q => k c v ?_ q) (fun _ q => q) fun _ _ q => q
    rcases hc with z | z
    · rw [z]; exact nit b u e
    · exact nit c _ z
/-- .. and one new object is laid -/
theorem Inv.turnedNew {t' : Nat} {ch : List Addr} {T : Addr} {ob : HO} (I : Inv X pins σ H s) (k : ∀ b o, b ∉ ch → s.heap.get? b = some o → h'.get? b = some o) (hf : ∀ b ∈ ch, FpOk X pins H b) (hT : s.heap.objs.size ≤ T)
    (new : ObjOk X.prog X.w (upd H T ob) h' T ob) : Inv X pins σ (upd H T ob) { s with heap := h', toks := t' } := by
  have hn : H T = none := I.hok.fresh hT
  have nit : ∀ b u, H b = some u → b ∉ ch := fun b u e z => by
    have q := (hf b z).1
    rw [q] at e; cases e
  refine I.step (g' := s.gens) (d' := s.drawn) (ch := ch) (fun b hb => ⟨(hf b hb).2.2.2.1, (hf b hb).2.1, (hf b hb).2.2.2.2.1, (hf b hb).2.2.2.2.2⟩) (fun b o _ _ hc e _ => k b o hc e) (fun b o _ _ hc e _ => ⟨o.slots, k b o hc e⟩)
    (fun b o _ e n => ?_) (fun b o hc e => ⟨o, k b o hc e⟩) (fun b xs e => ?_) (fun b o u e => ?_) (fun b ps e => ⟨#[], ?_⟩) (fun m hm => ?_) (fun b u e => ?_) I.bare
  · rw [upd_ne (Nat.ne_of_lt (Nat.lt_of_lt_of_le (Heap.lt_size e) hT))]; exact n
  · rw [upd_ne (ne_of_none e hn)]; exact e
  · rw [upd_ne (ne_of_none e hn)]; exact e
  · rw [upd_ne (ne_of_none e hn), e]; simp
  · obtain ⟨o, es, ep, ho, r⟩ := hm
    exact ⟨o, es, ep, k _ o (fun z => (hf _ z).2.1 rfl) ho, r⟩
  · by_cases hb : b = T
    · subst hb
      rw [upd_same] at e
      cases e
      exact new
    · rw [upd_ne hb] at e
      refine (I.hok b u e).stay (fun c v hc q => k c v ?_ q) (fun c q => by rw [upd_ne (ne_of_none q hn)]; exact q) fun c xs q => by rw [upd_ne (ne_of_none q hn)]; exact q
      rcases hc with z | z
      · rw [z]; exact nit b u e
      · exact nit c _ z

end
section
variable {X : Cx}

theorem pi_one {tg : Expr} {pins : List (Addr × Obj)} {σ : St} {H : Hp} {s : Shared} {R : It → Hp → Prop} {J : It} {tn : Nat → Heap → Prop} {tk : Nat} (I : Inv X pins σ H s) (o : Obj)
    (T : Turn X.prog X.w X.K tg J [s.heap.objs.size] s.heap.objs.size tn) (st : tn 0 (s.heap.push o)) (q : R J H) : PIE X pins σ tg R (.ref s.heap.objs.size) { s with heap := s.heap.push o, toks := tk } := by
  refine ⟨s.heap.objs.size, [s.heap.objs.size], tn, J, H, rfl, I.kept fun b ob e => Heap.get?_push_of_some _ e, T, st, fun b hb => ?_, q⟩
  have e : b = s.heap.objs.size := by simpa using hb
  subst e
  exact I.fpOk (Nat.le_refl _) (I.hok.fresh (Nat.le_refl _))
end

/-- lo, lo + c, .. (n of them) -/
def Itc (lo c : Int) (n : Nat) : It := ⟨fun i _ => i < n, fun i H x H' => H' = H ∧ x = .int (lo + (i : Nat) * c), fun i _ => n ≤ i⟩
theorem turn_rangeC {P : Program} {w : World} {K : PySem.W.Frag} {tg : Expr} (it : Addr) (lo c : Int) (n : Nat) : Turn P w K tg (Itc lo c n) [it] it (fun i h => IsRangeIter h it (lo + (i : Nat) * c) ((n : Int) - (i : Nat)) c) where
  mem := by simp
  obj := fun i h st b hb => by
    have e : b = it := by simpa using hb
    subst e
    exact ⟨_, st, fun v z => nomatch z⟩
  keep := fun i h h' st k => k it (by simp) _ st
  item := by
    intro X hP hw hK hc i pins s σ H E I hf st hg
    subst hP hw hK
    obtain ⟨f0, f1, f2, f3, f4, f5⟩ := hf it (by simp)
    have W := Walks.range (prog := X.prog) (w := X.w) (I.ok.hd hc) it lo c n
    refine W.item i s _ _ hg st fun v h' tk hv st' kk => ?_
    obtain ⟨t, rfl⟩ := hv
    have I1 : Inv X pins σ H { s with heap := h', toks := tk } := I.turned (fun b o hb e => kk b o (by simpa using hb) e) f0 f1 f3 f4 f5
    exact ⟨_, rfl, go_of (s := { s with heap := h', toks := tk }) (n := "range_iterator") st' rfl rfl (by decide) ⟨.int (lo + (i : Nat) * c), H, I1, ⟨t, rfl⟩, ⟨rfl, rfl⟩, st', fun b hb => (hf b hb).1⟩⟩
  done := by
    intro X hP hw hK hc i pins s σ H E I hf st hg
    subst hP hw hK
    obtain ⟨f0, f1, f2, f3, f4, f5⟩ := hf it (by simp)
    exact wpAny_pyNext_range_end (I.ok.hd hc) st (by have : n ≤ i := hg; omega) fun h' eb => ⟨rfl, I.turned (t' := s.toks) (fun b o hb e => eb b o hb e) f0 f1 f3 f4 f5⟩
  self := fun A i s Q E st h => wpAny_pyIter_rangeiter st h
/-- range(i, j, c): small bounds, n items -/
def RgC (i j c : Int) (n : Nat) : Prop := c ≠ 0 ∧ c.natAbs < 1073741824 ∧ Builtin.Range.small i j c = true ∧ Builtin.Range.rangeSize i j c = n
theorem RgC.neg {i j : Int} (ha : -(2 ^ 62) ≤ i) (ha' : i < 2 ^ 62) (hb : -(2 ^ 62) ≤ j) (hb' : j < 2 ^ 62) : RgC i j (-1) (i - j).toNat :=
  ⟨by decide, by decide, PySem.W.small_down ha ha' hb hb', PySem.W.rangeSize_downNat i j⟩
def iRng3 (ta : TA) : TI := fun σ H R => ta σ H fun vs H1 => ∃ (i j c : Int) (n : Nat), vs = [.int i, .int j, .int c] ∧ RgC i j c n ∧ R (Itc i c n) H1
section
variable {X : Cx} {tg : Expr}
theorem pi_range3 {a b c : Expr} {ta : TA} {p pos : Pos} (hg : Gl X "range") (hm : X.mg "range" = none) (ha : PA X [a, b, c] ta)
    (hs : starEach [a, b, c] X.env = (false, eval a X.env) :: starEach [b, c] X.env := by rfl) (hpl : (backTo pos (starEach [b, c] X.env)).any (·.1) = false := by rfl) :
    PI X tg (.Call (.Name "range" p) [a, b, c] [] pos) (iRng3 ta) := by
  intro pins s σ H R I h
  refine Call_ (ld_blt I hg hm boot_range (PyProof.Rows.callWith_type1 (thn (ha pos pins s σ H _ I h) fun us s1 ⟨vs, H1, I1, r1, q1⟩ => ?_) hs hpl))
  obtain ⟨i, j, k, n, e, ⟨c0, c1, c2, c3⟩, q⟩ := q1
  subst e
  cases r1 with
  | cons r rr =>
    cases rr with
    | cons r' rr =>
      cases rr with
      | cons r'' rr =>
        cases rr
        obtain ⟨t, rfl⟩ := r
        obtain ⟨t', rfl⟩ := r'
        obtain ⟨t'', rfl⟩ := r''
        refine call_range_3 c0 ?_ (.inl (PyProof.noPylong_small c1))
        refine wpAny_pyIter_range (IsRange.new ..) c2 ?_
        have I2 : Inv X pins σ H1 { s1 with heap := s1.heap.push { cls := .type "range", data := .fields #[.int i t, .int j t', .int k t''] } } := I1.kept (t' := s1.toks) fun b o e => Heap.get?_push_of_some _ e
        refine pi_one (tk := s1.toks) I2 _ (turn_rangeC _ i k n) ?_ q
        have e1 : i + ((0 : Nat) : Int) * k = i := by simp
        have e2 : (n : Int) - ((0 : Nat) : Int) = Builtin.Range.rangeSize i j k := by rw [c3]; simp
        show IsRangeIter _ _ (i + ((0 : Nat) : Int) * k) ((n : Int) - ((0 : Nat) : Int)) k
        rw [e1, e2]
        exact Heap.get?_push_size _ rfl
end

section
variable {X : Cx} {tg : Expr}
end


section
variable {prog : Program} {w : World} {A : Around} {E : Value → Shared → Prop} {s : Shared}
end

section
variable {X : Cx} {pins : List (Addr × Obj)} {σ : St} {H : Hp} {s : Shared} {d : Addr} {o : Obj}
end

section
variable {P : Program} {w : World} {K : PySem.W.Frag} {tg : Expr} {d : Addr} {o : Obj} {es : Array DictEntry} {ep : Nat}
end

section
variable {X : Cx} {tg e : Expr} {td : TE} {apos cpos : Pos}
end

/-- the list at a as it stands at each turn, each item in a new pair -/
def Ite (K : PySem.W.Frag) (a : Addr) : It :=
  ⟨fun i H => ∃ (xs : List V) (x : V), SqL K H a xs ∧ xs[i]? = some x, fun i H v H' => ∃ T x, v = .ref T ∧ H T = none ∧ H' = upd H T (.tup [.int (i : Nat), x]) ∧ ∀ xs, SqL K H a xs → xs[i]? = some x, fun i H => ∃ xs : List V, SqL K H a xs ∧ xs.length ≤ i⟩
theorem turn_enum {P : Program} {w : World} {K : PySem.W.Frag} {elts : List Expr} {kk : Nat} {tpos : Pos} (a e it : Addr) :
    Turn P w K (.Tuple elts kk tpos) (Ite K a) [e, it] e (fun i h => (∃ old, IsEnum h e it ((i : Nat) : Int) old) ∧ h.IsListIter it a i ∧ e ≠ it) where
  mem := by simp
  obj := fun i h st b hb => by
    obtain ⟨⟨old, he⟩, ⟨o, ho, hc, hd⟩, _⟩ := st
    have e' : b = e ∨ b = it := by simpa using hb
    rcases e' with z | z
    · rw [z]; exact ⟨_, he, fun v q => nomatch q⟩
    · rw [z]; exact ⟨o, ho, fun v q => by rw [hd] at q; cases q⟩
  keep := fun i h h' st k => let ⟨⟨old, he⟩, hi, hne⟩ := st; ⟨⟨old, k e (by simp) _ he⟩, hi.at fun o q => k it (by simp) o q, hne⟩
  item := by
    intro X hP hw hK hc i pins s σ H E I hf st hg
    subst hP hw hK
    obtain ⟨⟨old, he⟩, hit, hne⟩ := st
    obtain ⟨xs, x, hq, hx⟩ := hg
    obtain ⟨its, rv, p, hz⟩ := I.list hq
    obtain ⟨u, hu, ru⟩ := rv.get hx
    have hel : e < s.heap.objs.size := Heap.lt_size he
    have hil : it < s.heap.objs.size := by obtain ⟨_, q, _⟩ := hit; exact Heap.lt_size q
    refine wpAny_pyNext_enum_item he hit p.isList (x := u) (by simpa using hu) hne fun h' ho hit' hT hsz hk => ?_
    refine ⟨_, rfl, wpAny_letOwnedTupleGo_enum (s := { s with heap := h', toks := s.toks + 1 }) ho fun h'' he' sb => ?_⟩
    have hT2 : h''.get? s.heap.objs.size = some { cls := .type "tuple", data := .seq #[.int i s.toks, u] } := (sb.2 _ (Nat.ne_of_gt hel)).trans hT
    have new : ObjOk X.prog X.w (upd H s.heap.objs.size (.tup [.int (i : Nat), x])) h'' s.heap.objs.size (.tup [.int (i : Nat), x]) :=
      ⟨by show 2 ≤ sizeLine; decide, [.int i s.toks, u], .cons ⟨_, rfl⟩ (.cons ru .nil), ⟨_, hT2, rfl, _, rfl⟩⟩
    have I1 : Inv X pins σ (upd H s.heap.objs.size (.tup [.int (i : Nat), x])) { s with heap := h'', toks := s.toks + 1 } :=
      I.turnedNew (ch := [e, it]) (fun b ob hb q => (sb.2 b (fun z => hb (by simp [z]))).trans (hk b ob (fun z => hb (by simp [z])) (fun z => hb (by simp [z])) q)) hf (Nat.le_refl _) new
    refine ⟨.ref s.heap.objs.size, _, I1, rfl, ⟨_, x, rfl, I.hok.fresh (Nat.le_refl _), rfl, fun ys hy => by rw [I.list_inj hy hq]; exact hx⟩, ⟨⟨u, ?_⟩, hit'.at fun o q => (sb.2 it (Ne.symm hne)).trans q, hne⟩, fun b hb => ?_⟩
    · have e1 : ((i + 1 : Nat) : Int) = (i : Int) + 1 := by omega
      rw [e1]; exact he'
    · have hb' : b < s.heap.objs.size := by
        have e' : b = e ∨ b = it := by simpa using hb
        rcases e' with z | z
        · rw [z]; exact hel
        · rw [z]; exact hil
      rw [upd_ne (Nat.ne_of_lt hb')]
      exact (hf b hb).1
  done := by
    intro X hP hw hK hc i pins s σ H E I hf st hg
    subst hP hw hK
    obtain ⟨⟨old, he⟩, hit, hne⟩ := st
    obtain ⟨xs, hq, hx⟩ := hg
    obtain ⟨its, rv, p, hz⟩ := I.list hq
    obtain ⟨f0, f1, f2, f3, f4, f5⟩ := hf it (by simp)
    have hl := rv.length
    exact wpAny_pyNext_enum_end (I.ok.hd hc) he hit p.isList (by simp; omega) fun h' eb => ⟨rfl, I.turned (t' := s.toks) (fun b o hb q => eb b o hb q) f0 f1 f3 f4 f5⟩
  self := fun A i s Q E st h => let ⟨⟨_, he⟩, _⟩ := st; wpAny_pyIter_enum he h
def iEnum (K : PySem.W.Frag) (ta : TA) : TI := fun σ H R => ta σ H fun vs H1 => ∃ a xs, vs = [.ref a] ∧ SqL K H1 a xs ∧ R (Ite K a) H1
theorem pi_enum {X : Cx} {e : Expr} {ta : TA} {p pos tpos : Pos} {elts : List Expr} {kk : Nat} (hg : Gl X "enumerate") (hm : X.mg "enumerate" = none) (ha : PA X [e] ta) (hs : starEach [e] X.env = [(false, eval e X.env)] := by rfl) :
    PI X (.Tuple elts kk tpos) (.Call (.Name "enumerate" p) [e] [] pos) (iEnum X.K ta) := by
  intro pins s σ H R I h
  refine Call_ (ld_blt I hg hm boot_enumerate (PyProof.Rows.callWith_type1 (thn (ha pos pins s σ H _ I h) fun us s1 ⟨vs, H1, I1, r1, q1⟩ => ?_) hs rfl))
  obtain ⟨a, xs, ex, hq, q⟩ := q1
  subst ex
  cases r1 with
  | cons r rr =>
    cases rr
    cases r
    obtain ⟨its, rv, p', hz⟩ := I1.list hq
    refine call_enumerate_list p'.isList fun h' he hit hsz hk => wpAny_pyIter_enum he ?_
    have I2 : Inv X pins σ H1 { s1 with heap := h' } := I1.kept (t' := s1.toks) hk
    refine ⟨s1.heap.objs.size + 1, [s1.heap.objs.size + 1, s1.heap.objs.size], _, _, H1, rfl, I2, turn_enum a (s1.heap.objs.size + 1) s1.heap.objs.size, ⟨⟨.none, he⟩, hit, Nat.succ_ne_self _⟩, fun b hb => ?_, q⟩
    have e' : b = s1.heap.objs.size + 1 ∨ b = s1.heap.objs.size := by simpa using hb
    have hle : s1.heap.objs.size ≤ b := by
      rcases e' with z | z
      · rw [z]; exact Nat.le_add_right _ _
      · rw [z]; exact Nat.le_refl _
    exact I1.fpOk hle (I1.hok.fresh hle)
theorem boot_zip5 : bootBuiltins "zip" = some (.type "zip") := by decide +kernel
/-- the lists at a and b as they stand at each turn, the items in new pairs -/
def Itz (K : PySem.W.Frag) (a b : Addr) : It :=
  ⟨fun i H => ∃ (xs ys : List V) (x y : V), SqL K H a xs ∧ SqL K H b ys ∧ xs[i]? = some x ∧ ys[i]? = some y,
    fun i H v H' => ∃ T x y, v = .ref T ∧ H T = none ∧ H' = upd H T (.tup [x, y]) ∧ (∀ xs, SqL K H a xs → xs[i]? = some x) ∧ ∀ ys, SqL K H b ys → ys[i]? = some y,
    fun i H => ∃ xs ys : List V, SqL K H a xs ∧ SqL K H b ys ∧ (xs.length ≤ i ∨ ys.length ≤ i)⟩
theorem turn_zip {P : Program} {w : World} {K : PySem.W.Frag} {elts : List Expr} {kk : Nat} {tpos : Pos} {a b z TI TO i1 i2 : Addr} (D : ZipApart z TI TO i1 i2 a b) :
    Turn P w K (.Tuple elts kk tpos) (Itz K a b) [z, TI, TO, i1, i2] z (fun i h => IsZip h z TI TO .none ∧ IsPair h TI (.ref i1) (.ref i2) ∧ (∃ x y, IsPair h TO x y) ∧ h.IsListIter i1 a i ∧ h.IsListIter i2 b i) where
  mem := by simp
  obj := fun i h st c hc => by
    obtain ⟨hz, hTI, ⟨x, y, hTO⟩, ⟨o1, e1, _, d1⟩, ⟨o2, e2, _, d2⟩⟩ := st
    have e' : c = z ∨ c = TI ∨ c = TO ∨ c = i1 ∨ c = i2 := by simpa using hc
    rcases e' with q | q | q | q | q
    · rw [q]; exact ⟨_, hz, fun v q => nomatch q⟩
    · rw [q]; exact ⟨_, hTI, fun v q => nomatch q⟩
    · rw [q]; exact ⟨_, hTO, fun v q => nomatch q⟩
    · rw [q]; exact ⟨o1, e1, fun v q => by rw [d1] at q; cases q⟩
    · rw [q]; exact ⟨o2, e2, fun v q => by rw [d2] at q; cases q⟩
  keep := fun i h h' st k => by
    obtain ⟨hz, hTI, ⟨x, y, hTO⟩, h1, h2⟩ := st
    exact ⟨k z (by simp) _ hz, k TI (by simp) _ hTI, ⟨x, y, k TO (by simp) _ hTO⟩, h1.at fun o q => k i1 (by simp) o q, h2.at fun o q => k i2 (by simp) o q⟩
  item := by
    intro X hP hw hK hc i pins s σ H E I hf st hg
    subst hP hw hK
    obtain ⟨hz, hTI, ⟨x0, y0, hTO⟩, h1, h2⟩ := st
    obtain ⟨xs, ys, x, y, hqx, hqy, hx, hy⟩ := hg
    obtain ⟨its, rv, p, _⟩ := I.list hqx
    obtain ⟨its2, rv2, p2, _⟩ := I.list hqy
    obtain ⟨u, hu, ru⟩ := rv.get hx
    obtain ⟨u2, hu2, ru2⟩ := rv2.get hy
    have hzl : z < s.heap.objs.size := Heap.lt_size hz
    refine wpAny_pyNext_zip_item D hz hTI hTO h1 h2 p.isList p2.isList (x := u) (y := u2) (by simpa using hu) (by simpa using hu2) fun h' z' TO' h1' h2' hT hsz hk => ?_
    refine ⟨_, rfl, wpAny_letOwnedTupleGo_zip (s := { s with heap := h' }) z' fun h'' z'' sb => ?_⟩
    have hT2 : h''.get? s.heap.objs.size = some { cls := .type "tuple", data := .seq #[u, u2] } := (sb.2 _ (Nat.ne_of_gt hzl)).trans hT
    have new : ObjOk X.prog X.w (upd H s.heap.objs.size (.tup [x, y])) h'' s.heap.objs.size (.tup [x, y]) :=
      ⟨by show 2 ≤ sizeLine; decide, [u, u2], .cons ru (.cons ru2 .nil), ⟨_, hT2, rfl, _, rfl⟩⟩
    have I1 : Inv X pins σ (upd H s.heap.objs.size (.tup [x, y])) { s with heap := h'' } :=
      I.turnedNew (t' := s.toks) (ch := [z, TI, TO, i1, i2]) (fun c o hb q => (sb.2 c (fun q' => hb (by simp [q']))).trans (hk c o (fun q' => hb (by simp [q'])) (fun q' => hb (by simp [q'])) (fun q' => hb (by simp [q'])) (fun q' => hb (by simp [q'])) q)) hf (Nat.le_refl _) new
    refine ⟨.ref s.heap.objs.size, _, I1, rfl, ⟨_, x, y, rfl, I.hok.fresh (Nat.le_refl _), rfl, fun l hl => by rw [I.list_inj hl hqx]; exact hx, fun l hl => by rw [I.list_inj hl hqy]; exact hy⟩, ⟨z'', ?_, ⟨u, u2, ?_⟩, ?_, ?_⟩, fun c hcm => ?_⟩
    · exact (sb.2 _ D.TIz).trans (hk _ _ D.TIz D.TITO D.TIi1 D.TIi2 hTI)
    · exact (sb.2 _ D.TOz).trans TO'
    · exact h1'.at fun o q => (sb.2 _ D.i1z).trans q
    · exact h2'.at fun o q => (sb.2 _ D.i2z).trans q
    · have hlt : c < s.heap.objs.size := by
        have e' : c = z ∨ c = TI ∨ c = TO ∨ c = i1 ∨ c = i2 := by simpa using hcm
        rcases e' with q | q | q | q | q
        · rw [q]; exact hzl
        · rw [q]; exact Heap.lt_size hTI
        · rw [q]; exact Heap.lt_size hTO
        · rw [q]; obtain ⟨_, e1, _⟩ := h1; exact Heap.lt_size e1
        · rw [q]; obtain ⟨_, e2, _⟩ := h2; exact Heap.lt_size e2
      rw [upd_ne (Nat.ne_of_lt hlt)]
      exact (hf c hcm).1
  done := by
    intro X hP hw hK hc i pins s σ H E I hf st hg
    subst hP hw hK
    obtain ⟨hz, hTI, ⟨x0, y0, hTO⟩, h1, h2⟩ := st
    obtain ⟨xs, ys, hqx, hqy, hend⟩ := hg
    obtain ⟨its, rv, p, _⟩ := I.list hqx
    obtain ⟨its2, rv2, p2, _⟩ := I.list hqy
    have l1 := rv.length
    have l2 := rv2.length
    have he : its.toArray[i]? = none ∨ its2.toArray[i]? = none := by
      rcases hend with q | q
      · exact .inl (by simp; omega)
      · exact .inr (by simp; omega)
    exact wpAny_pyNext_zip_end (I.ok.hd hc) D hz hTI hTO h1 h2 p.isList p2.isList he fun h' hk => ⟨rfl, I.turnedL (t' := s.toks) (ch := [z, TI, TO, i1, i2]) (fun c o hb q =>
      hk c o (fun q' => hb (by simp [q'])) (fun q' => hb (by simp [q'])) (fun q' => hb (by simp [q'])) (fun q' => hb (by simp [q'])) q) hf⟩
  self := fun A i s Q E st h => wpAny_pyIter_zip st.1 h
def iZip (K : PySem.W.Frag) (ta : TA) : TI := fun σ H R => ta σ H fun vs H1 => ∃ a b xs ys, vs = [.ref a, .ref b] ∧ SqL K H1 a xs ∧ SqL K H1 b ys ∧ R (Itz K a b) H1
theorem pi_zip {X : Cx} {e e2 : Expr} {ta : TA} {p pos tpos : Pos} {elts : List Expr} {kk : Nat} (hg : Gl X "zip") (hm : X.mg "zip" = none) (ha : PA X [e, e2] ta)
    (hs : starEach [e, e2] X.env = (false, eval e X.env) :: starEach [e2] X.env := by rfl) (hpl : (backTo pos (starEach [e2] X.env)).any (·.1) = false := by rfl) :
    PI X (.Tuple elts kk tpos) (.Call (.Name "zip" p) [e, e2] [] pos) (iZip X.K ta) := by
  intro pins s σ H R I h
  refine Call_ (ld_blt I hg hm boot_zip5 (PyProof.Rows.callWith_type1 (thn (ha pos pins s σ H _ I h) fun us s1 ⟨vs, H1, I1, r1, q1⟩ => ?_) hs hpl))
  obtain ⟨a, b, xs, ys, ex, hqx, hqy, q⟩ := q1
  subst ex
  cases r1 with
  | cons r rr =>
    cases rr with
    | cons r' rr =>
      cases rr
      cases r
      cases r'
      obtain ⟨its, rv, p1, _⟩ := I1.list hqx
      obtain ⟨its2, rv2, p2, _⟩ := I1.list hqy
      have la : a < s1.heap.objs.size := p1.lt
      have lb : b < s1.heap.objs.size := p2.lt
      refine call_zip_2 p1.isList p2.isList fun h' hz hTI hTO h1 h2 hsz hk => wpAny_pyIter_zip hz ?_
      have I2 : Inv X pins σ H1 { s1 with heap := h' } := I1.kept (t' := s1.toks) hk
      refine ⟨s1.heap.objs.size + 4, [s1.heap.objs.size + 4, s1.heap.objs.size + 2, s1.heap.objs.size + 3, s1.heap.objs.size, s1.heap.objs.size + 1], _, _, H1, rfl, I2, turn_zip (PySem.W.ktu_apart s1.heap.objs.size a b la lb), ⟨hz, hTI, ⟨_, _, hTO⟩, h1, h2⟩, fun c hcm => ?_, q⟩
      have e' : c = s1.heap.objs.size + 4 ∨ c = s1.heap.objs.size + 2 ∨ c = s1.heap.objs.size + 3 ∨ c = s1.heap.objs.size ∨ c = s1.heap.objs.size + 1 := by simpa using hcm
      have hle : s1.heap.objs.size ≤ c := by
        rcases e' with z | z | z | z | z
        · rw [z]; exact Nat.le_add_right _ _
        · rw [z]; exact Nat.le_add_right _ _
        · rw [z]; exact Nat.le_add_right _ _
        · rw [z]; exact Nat.le_refl _
        · rw [z]; exact Nat.le_add_right _ _
      exact I1.fpOk hle (I1.hok.fresh hle)
end L2

section 
namespace Bits
open PySem PyProof.Rows








end Bits
end 

section 
namespace TL
open PySem PySem.Builtin PySem.Builtin.Str PySem.StrLaws













end TL
end 

namespace L2
open PySem PySem.Spec PyProof.Rows




section
variable {X : Cx} {pins : List (Addr × Obj)} {σ : St} {H : Hp} {s : Shared} {Q : VK}
end

section
variable {X : Cx}







end

section
variable {X : Cx} {o e : Expr} {to te : TE}

end
end L2

namespace L2
open PySem PySem.Spec PyProof.Rows

section
variable {X : Cx}
end



end L2

namespace Att
open PySem PySem.W PySem.Calls PyProof.Rows







section
variable {prog : Program} {w : World} {A : Around} {E : Value → Shared → Prop} {s : Shared} {K : Frag}






end
end Att

namespace L2
open PySem PySem.Spec PyProof.Rows



end L2

namespace L2
open PySem PySem.Spec PyProof.Rows


end L2

/- THE LAST THEOREM (shape; LID, My.* are yours):
   My.Adr: a structure of the addresses that your layer names (classes, functions); My.Txt K t: a structure (Prop) of the equations over K;
   My.txt_mk : {K} {implicit addresses ..} (e1 : nsIn K mainGlobals "law" = some (some (.ref f))) (e2 : K.lookup f = some ⟨oc, od, .func (fnOf "law" "law" params body scope dV kV doc pm an cdv ct), sl⟩) (e3 : codeIn K cdv "law" = true) .. : ∃ t, My.Txt K t

set_option maxRecDepth 100000 in
set_option maxHeartbeats 0 in
theorem PySem.Challenge.cw_LID_holds : PySem.Challenge.rw_LID.Holds := by
  w_on; o_law; k_head; (case hw => w_witness2)
  k_fill
  refine L2.walk_of (l := PySem.Challenge.rw_LID) (n := 63) (k := 40) (x := "script") (CX := fun w => ..) (sp := fun _ => My.sp_law) rfl (by decide) rfl ⟨rfl, by decide, by decide⟩ (fun w h Y => PySem.W.kIn_of Y) ?F ?S ?C
  case F =>
    intro w mg fa h KX G hmg
    have T : ∃ t, My.Txt (L2.KOf KX) t := by
      dsimp only [L2.KOf]                          -- K must stand as «<heap const> w.params» for k_is
      refine' My.txt_mk ?e1 ?e2 ?e3 ..
      (case e1 => PySem.W.k_is)                    -- in the order: a name -> its address -> its object -> its parts
      (case e2 => PySem.W.k_is)
      ..
    obtain ⟨t, T⟩ := T
    have e0 := hmg.symm.trans (PySem.W.mg_of KX G T.law)
    cases e0                                       -- fa is the law's own address
    exact ⟨_, fun s u => .of_eq rfl, fun base kb nb => My.law_fn T kb nb⟩     -- if «.of_eq rfl» comes too early: refine' ⟨_, ?b, fun base kb nb => My.law_fn T kb nb⟩; exact fun s u => .of_eq rfl
  case S => exact fun w H a ns hl hO hS => ..
  case C => exact ..
(the tactic k_is has no namespace: write k_is) -/

namespace L2
open PySem PySem.Spec PyProof.Rows

/-- the j-th statement of a class's body -/
def inClass (s : Stmt) (j : Nat) : Stmt := match s with
  | .ClassDef _ _ _ body _ _ _ _ _ _ _ => body.getD j (.Pass ⟨0, 0, 0, 0⟩)
  | _ => .Pass ⟨0, 0, 0, 0⟩
def defArgs (s : Stmt) : Arguments := match s with
  | .FunctionDef _ a _ _ _ _ _ _ _ _ => a
  | _ => { posonlyargs := [], args := [], vararg := none, kwonlyargs := [], kw_defaults := [], kwarg := none, defaults := [] }
def defBody (s : Stmt) : List Stmt := match s with
  | .FunctionDef _ _ b _ _ _ _ _ _ _ => b
  | _ => []
def defScope (s : Stmt) : Scope := match s with
  | .FunctionDef _ _ _ _ _ _ sc _ _ _ => sc
  | _ => { kind := .function, names := [], isGenerator := false, isCoroutine := false }

abbrev CX0 : CXT := fun _ _ _ _ _ _ => False
abbrev E0 : XK := fun _ _ _ => False
theorem pass0 {X : Cx} : Passes CX0 X E0 := fun _ _ _ _ _ _ _ h => h.elim

structure Fun (K : PySem.W.Frag) (x qual : Str) (st : Stmt) (f : Addr) (fd : FuncData) : Prop where
  ex : ∃ (oc : Value) (od : Option Addr) (kV doc pm : Value) (an : Option Addr) (cdv ct : Value) (osl : Array (Option Value)),
    fd = PySem.W.fnOf x qual (defArgs st) (defBody st) (defScope st) .none kV doc pm an cdv ct ∧ K.lookup f = some ⟨oc, od, .func fd, osl⟩ ∧ PySem.W.codeIn K cdv qual = true
  kp : PySem.W.keepIn K (.ref f) = true
section
variable {P : Program} {w : World} {K : PySem.W.Frag} {mg : Str → Option Value} {base : Heap}
/-- THE RULE for a def: its body as a term of rules, and the reading of that term -/
theorem Fun.ok {x qual : Str} {st : Stmt} {f : Addr} {fd : FuncData} {N ps : List Str} {k : Nat} {sp : Sp} (F : Fun K x qual st f fd) (S : FnScope N ps (defScope st)) (len : ∀ vs H Q E, sp vs H Q E → vs.length = ps.length)
    (hbody : ∀ (cdv : Value) (A : Around) (outer : List Env) (s : Shared) (H : Hp) (vs : List V) (Q : VK) (E : XK), Room k (A.deeper (envOfC qual (defScope st) s.heap.objs.size f cdv)) → sp vs H Q E →
      ∃ t, PSs (cxOf CX0 P w K mg base N qual (defScope st) f cdv A outer s H E).nox (defBody st) t ∧ t { nx := fun _ H' => Q .non H', rt := Q } (start N vs) H) : FnOk P w K mg base CX0 (k + 1) f fd ps sp := by
  obtain ⟨oc, od, kV, doc, pm, an, cdv, ct, osl, rfl, lk, hcd⟩ := F.ex
  refine fn_of lk hcd S len fun A outer s H vs Q E hr hsp => ?_
  obtain ⟨t, h, q⟩ := hbody cdv A outer s H vs Q E hr hsp
  exact ⟨t, h.nox, q⟩
/-- how its arguments bind (no defaults): h is «fun _ _ _ _ _ _ us hl => match us, hl with | [_, _], _ => rfl», one _ a parameter -/
theorem Fun.binds {x qual : Str} {st : Stmt} {f : Addr} {fd : FuncData} {ps : List Str} (F : Fun K x qual st f fd)
    (h : ∀ (kV doc pm : Value) (an : Option Addr) (cdv ct : Value) (us : List Value), us.length = ps.length → bindArgs (PySem.W.fnOf x qual (defArgs st) (defBody st) (defScope st) .none kV doc pm an cdv ct) ⟨us, []⟩ = pure (ps.zip us)) : Binds K fd ps [] := by
  obtain ⟨oc, od, kV, doc, pm, an, cdv, ct, osl, rfl, lk, hcd⟩ := F.ex
  exact .all (h kV doc pm an cdv ct)
theorem fun_mk {x qual : Str} {st : Stmt} {f : Addr} {oc : Value} {od an : Option Addr} {osl : Array (Option Value)} {kV doc pm cdv ct : Value} (l : K.lookup f = some ⟨oc, od, .func (PySem.W.fnOf x qual (defArgs st) (defBody st) (defScope st) .none kV doc pm an cdv ct), osl⟩)
    (c : PySem.W.codeIn K cdv qual = true) (k : PySem.W.keepIn K (.ref f) = true) : Fun K x qual st f (PySem.W.fnOf x qual (defArgs st) (defBody st) (defScope st) .none kV doc pm an cdv ct) := ⟨⟨oc, od, kV, doc, pm, an, cdv, ct, osl, rfl, l, c⟩, k⟩
end

section
variable {X : Cx}
theorem pv (i : Nat) {x : Str} {pos : Pos} (hN : X.N[i]? = some x := by rfl) (hv : Vis X.env.scope x := by first | exact Or.inl rfl | exact Or.inr (Or.inl rfl) | exact Or.inr (Or.inr rfl)) (hd : (x == ("__debug__" : Str)) = false := by decide)
    (hcd : (x == ("__classdict__" : Str)) = false := by decide) : PE X (.Name x pos) (tVar i) := pe_var hN hv hd hcd
end

theorem ite2 {c A B : Prop} [Decidable c] (h1 : c → A) (h2 : ¬ c → B) : if c then A else B := by
  by_cases h : c
  · rw [if_pos h]
    exact h1 h
  · rw [if_neg h]
    exact h2 h

/-- all that was tracked is as it was -/
def Same (H H' : Hp) : Prop := ∀ b o, H b = some o → H' b = some o
theorem Same.refl (H : Hp) : Same H H := fun _ _ h => h
theorem Same.trans {H H1 H2 : Hp} (a : Same H H1) (b : Same H1 H2) : Same H H2 := fun c o h => b c o (a c o h)
theorem Same.free {H H' : Hp} (e : Same H H') {l : Addr} (h : H' l = Option.none) : H l = Option.none := by
  cases q : H l with
  | none => rfl
  | some o =>
    rw [e l o q] at h
    cases h
theorem Same.seq {K : PySem.W.Frag} {H H' : Hp} {a : Addr} {xs : List V} (e : Same H H') (h : SqL K H a xs) : SqL K H' a xs := by
  rcases h with (h | ⟨o, h⟩) | h
  · exact .inl (.inl (e _ _ h))
  · exact .inl (.inr ⟨o, e _ _ h⟩)
  · exact .inr h

section
variable {κ : Type} [DecidableEq κ]
end
theorem at_of {xs : List V} {z : Int} {j : Nat} {v : V} (e : z = (j : Int)) (h : xs[j]? = some v) : atI xs z = some v := by
  rw [e]
  exact atI_nat h
theorem nd_ix {α : Type} {l : List α} (hN : l.Nodup) {i j : Nat} {x : α} (a : l[i]? = some x) (b : l[j]? = some x) : i = j := by
  obtain ⟨h1, e1⟩ := List.getElem?_eq_some_iff.mp a
  obtain ⟨h2, e2⟩ := List.getElem?_eq_some_iff.mp b
  exact (List.getElem_inj hN).mp (e1.trans e2.symm)
end L2

section
set_option Elab.async false
set_option linter.all false
set_option maxRecDepth 100000
set_option maxHeartbeats 2000000
namespace L2
open PySem PySem.Spec PyProof.Rows
open PySem.W (WData Codec OpenSpec Well WellAll ReadsW ReadsAllW)
mutual
/-- x stands for the datum d, lists and tuples all the way -/
inductive Dw (K : PySem.W.Frag) (H : Hp) : V → WData → Prop
  | non : Dw K H .non .none
  | bl (b : Bool) : Dw K H (.bl b) (.bool b)
  | int (i : Int) : Dw K H (.int i) (.int i)
  | str (x : Str) : Dw K H (.str x) (.str x)
  | byt (b : Array UInt8) : Dw K H (.byt b) (.bytes b.toList)
  | lst {a : Addr} {xs : List V} {ds : List WData} : SqL K H a xs → DwAll K H xs ds → Dw K H (.ref a) (.list ds)
  | tup {a : Addr} {xs : List V} {ds : List WData} : SqT K H a xs → DwAll K H xs ds → Dw K H (.ref a) (.tuple ds)
inductive DwAll (K : PySem.W.Frag) (H : Hp) : List V → List WData → Prop
  | nil : DwAll K H [] []
  | cons {v : V} {vs : List V} {d : WData} {ds : List WData} : Dw K H v d → DwAll K H vs ds → DwAll K H (v :: vs) (d :: ds)
end
theorem dw_ints {K : PySem.W.Frag} {H : Hp} : ∀ ns : List Int, DwAll K H (ns.map V.int) (ns.map WData.int)
  | [] => .nil
  | n :: r => .cons (.int n) (dw_ints r)
theorem ints_dw {K : PySem.W.Frag} {H : Hp} : ∀ (ns : List Int) (xs : List V), DwAll K H xs (ns.map WData.int) → xs = ns.map V.int
  | [], xs, h => by
    cases h
    rfl
  | n :: r, xs, h => by
    cases h with
    | cons h1 h2 =>
      cases h1
      rw [ints_dw r _ h2] <;> rfl
section
variable {P : Program} {w : World} {K : PySem.W.Frag} {H : Hp} {h : Heap} {R : PySem.W.WRecords} {cl : Str → Option Addr}
theorem sqL_at {a : Addr} {xs : List V} (hok : HOk P w H h) (KX : K.In h) (q : SqL K H a xs) : ∃ (its : List Value) (o : Obj) (n : Nat), Vals xs its ∧ h.get? a = some o ∧ o.cls = .type "list" ∧ o.data = .seq its.toArray n := by
  rcases q with q | ⟨o, its, n, e, hc, _, hd, _, hv⟩
  · obtain ⟨_, its, n, hv, e⟩ := (show ObjOk P w H h a (.lst xs) from q.ok hok)
    exact ⟨its, _, n, hv, e, rfl, rfl⟩
  · exact ⟨its.toList, o, n, hv, KX _ _ e, hc, by simp [hd]⟩
theorem sqT_at {a : Addr} {xs : List V} (hok : HOk P w H h) (KX : K.In h) (q : SqT K H a xs) : ∃ (its : List Value) (o : Obj) (n : Nat), Vals xs its ∧ h.get? a = some o ∧ o.cls = .type "tuple" ∧ o.data = .seq its.toArray n := by
  rcases q with q | ⟨o, its, n, e, hc, hd, _, hv⟩
  · obtain ⟨_, its, hv, o, e, hc, n, hd⟩ := (show ObjOk P w H h a (.tup xs) from q.ok hok)
    exact ⟨its, o, n, hv, e, hc, hd⟩
  · exact ⟨its.toList, o, n, hv, KX _ _ e, hc, by simp [hd]⟩
mutual
theorem Dw.reads (hok : HOk P w H h) (KX : K.In h) : ∀ (d : WData) (v : V) (u : Value), Dw K H v d → RelV v u → ∃ as, ReadsW R cl h u d as
  | .none, _, _, x, r => by
    cases x
    cases r
    exact ⟨_, ReadsW.none⟩
  | .bool b, _, _, x, r => by
    cases x
    cases r
    exact ⟨_, ReadsW.bool b⟩
  | .int i, _, _, x, r => by
    cases x
    obtain ⟨t, rfl⟩ := r
    exact ⟨_, ReadsW.int i t⟩
  | .str s, _, _, x, r => by
    cases x
    obtain ⟨t, rfl⟩ := r
    exact ⟨_, ReadsW.str s t⟩
  | .bytes b, _, _, x, r => by
    cases x
    obtain ⟨t, rfl⟩ := r
    exact ⟨_, ReadsW.bytes _ t⟩
  | .list ds, _, _, x, r => by
    cases x with
    | lst hs ha =>
      cases r
      obtain ⟨its, o, n, rv, ho, hc, hd⟩ := sqL_at hok KX hs
      obtain ⟨as, hr⟩ := Dw.readsAll hok KX ds _ its ha rv
      exact ⟨_, ReadsW.list ho hc hd hr⟩
  | .tuple ds, _, _, x, r => by
    cases x with
    | tup hs ha =>
      cases r
      obtain ⟨its, o, n, rv, ho, hc, hd⟩ := sqT_at hok KX hs
      obtain ⟨as, hr⟩ := Dw.readsAll hok KX ds _ its ha rv
      exact ⟨_, ReadsW.tuple ho hc hd hr⟩
  | .float _, _, _, x, _ => by cases x
  | .dict _, _, _, x, _ => by cases x
  | .bytearray _, _, _, x, _ => by cases x
  | .set _, _, _, x, _ => by cases x
  | .frozenset _, _, _, x, _ => by cases x
  | .obj _ _, _, _, x, _ => by cases x
theorem Dw.readsAll (hok : HOk P w H h) (KX : K.In h) : ∀ (ds : List WData) (vs : List V) (us : List Value), DwAll K H vs ds → Vals vs us → ∃ as, ReadsAllW R cl h us ds as
  | [], _, _, x, r => by
    cases x
    cases r
    exact ⟨_, ReadsAllW.nil⟩
  | d :: ds, _, _, x, r => by
    cases x with
    | cons h1 h2 =>
      cases r with
      | cons r1 r2 =>
        obtain ⟨as, q1⟩ := Dw.reads hok KX d _ _ h1 r1
        obtain ⟨bs, q2⟩ := Dw.readsAll hok KX ds _ _ h2 r2
        exact ⟨_, ReadsAllW.cons q1 q2⟩
end
end
mutual
/-- data that a codec tells -/
def plW : WData → Bool
  | .none => true
  | .bool _ => true
  | .int _ => true
  | .str _ => true
  | .bytes _ => true
  | .list xs => plWs xs
  | .tuple xs => plWs xs
  | _ => false
def plWs : List WData → Bool
  | [] => true
  | x :: r => plW x && plWs r
end
theorem plWs_map {α : Type} {f : α → WData} (h : ∀ a, plW (f a) = true) : ∀ l : List α, plWs (l.map f) = true
  | [] => rfl
  | x :: r => by
    show (plW (f x) && plWs (r.map f)) = true
    rw [h x, plWs_map h r] <;> rfl
theorem pl_enc : ∀ (c : Codec) (a : c.denote), plW (c.enc a) = true
  | .unit, _ => rfl
  | .bool, _ => rfl
  | .int _ _, _ => rfl
  | .nat _ _, _ => rfl
  | .u8, _ => rfl
  | .bytes _ _, _ => rfl
  | .text _ _ _ _, _ => rfl
  | .list _ _ c, a => plWs_map (fun x => pl_enc c x) a
  | .pair c d, a => by
    show (plW (c.enc a.1) && (plW (d.enc a.2) && true)) = true
    rw [pl_enc c a.1, pl_enc d a.2] <;> rfl
  | .triple c d e, a => by
    show (plW (c.enc a.1) && (plW (d.enc a.2.1) && (plW (e.enc a.2.2) && true))) = true
    rw [pl_enc c a.1, pl_enc d a.2.1, pl_enc e a.2.2] <;> rfl
  | .option c, none => rfl
  | .option c, some x => pl_enc c x
theorem pl_encAll : ∀ (cs : List Codec) (a : Codec.denoteAll cs), plWs (Codec.encAll cs a) = true
  | [], _ => rfl
  | c :: cs, a => by
    show (plW (c.enc a.1) && plWs (Codec.encAll cs a.2)) = true
    rw [pl_enc c a.1, pl_encAll cs a.2] <;> rfl
theorem weight_mem : ∀ {xs : List WData} {d : WData}, d ∈ xs → d.weight ≤ WData.weightAll xs
  | [], d, h => absurd h (by simp)
  | x :: r, d, h => by
    show d.weight ≤ x.weight + 1 + WData.weightAll r
    rcases List.mem_cons.mp h with e | m
    · rw [e]
      omega
    · have z := weight_mem m
      omega
def toV : Value → V
  | .none => .non
  | .bool b => .bl b
  | .int i _ => .int i
  | .str x _ => .str x
  | .bytes b _ => .byt b
  | .ref a => .ref a
  | _ => .non
/-- a value of the arguments, its objects among A -/
def OkU (A : List Addr) : Value → Prop
  | .none => True
  | .bool _ => True
  | .int _ _ => True
  | .str _ _ => True
  | .bytes _ _ => True
  | .ref a => a ∈ A
  | _ => False
theorem OkU.mono {A B : List Addr} (h : ∀ a ∈ A, a ∈ B) : ∀ {u : Value}, OkU A u → OkU B u := fun {u} x => by
  cases u with
  | ref a => exact h a x
  | none => trivial
  | bool b => trivial
  | int i t => trivial
  | str s t => trivial
  | bytes b t => trivial
  | _ => exact False.elim x
theorem relV_toV {A : List Addr} {u : Value} (x : OkU A u) : RelV (toV u) u := by
  cases u with
  | ref a => rfl
  | none => rfl
  | bool b => rfl
  | int i t => exact ⟨t, rfl⟩
  | str s t => exact ⟨t, rfl⟩
  | bytes b t => exact ⟨t, rfl⟩
  | _ => exact False.elim x
theorem vals_toV {A : List Addr} : ∀ {vs : List Value}, (∀ u ∈ vs, OkU A u) → Vals (vs.map toV) vs
  | [], _ => .nil
  | u :: r, h => .cons (relV_toV (h u (List.mem_cons_self ..))) (vals_toV fun x hx => h x (List.mem_cons_of_mem _ hx))
/-- an object of the arguments -/
def ArgOb (h : Heap) (A : List Addr) (a : Addr) : Prop := ∃ vs : List Value, vs.length ≤ sizeLine ∧ (∀ u ∈ vs, OkU A u) ∧
  (h.get? a = some { cls := .type "list", data := .seq vs.toArray } ∨ h.get? a = some { cls := .type "tuple", data := .seq vs.toArray })
theorem ArgOb.mono {h : Heap} {A B : List Addr} {a : Addr} (k : ∀ a ∈ A, a ∈ B) (x : ArgOb h A a) : ArgOb h B a := by
  obtain ⟨vs, h1, h2, h3⟩ := x
  exact ⟨vs, h1, fun u hu => (h2 u hu).mono k, h3⟩
theorem wellAll_len {P : Params} {h : Heap} : ∀ {vs : List Value} {ds : List WData}, WellAll P h vs ds → vs.length = ds.length
  | _, _, .nil => rfl
  | _, _, .cons _ b => by
    show _ + 1 = _ + 1
    rw [wellAll_len b]
theorem well_list {P : Params} {h : Heap} {v : Value} {ds : List WData} (x : Well P h v (.list ds)) : ∃ (a : Addr) (vs : List Value), v = .ref a ∧ h.get? a = some { cls := .type "list", data := .seq vs.toArray } ∧ WellAll P h vs ds := by
  cases x with
  | list ho hall => exact ⟨_, _, rfl, ho, hall⟩
theorem well_tuple {P : Params} {h : Heap} {v : Value} {ds : List WData} (x : Well P h v (.tuple ds)) : ∃ (a : Addr) (vs : List Value), v = .ref a ∧ h.get? a = some { cls := .type "tuple", data := .seq vs.toArray } ∧ WellAll P h vs ds := by
  cases x with
  | tuple ho hall => exact ⟨_, _, rfl, ho, hall⟩
theorem well_cons {P : Params} {h : Heap} {us : List Value} {d : WData} {ds : List WData} (x : WellAll P h us (d :: ds)) : ∃ (v : Value) (vs : List Value), us = v :: vs ∧ Well P h v d ∧ WellAll P h vs ds := by
  cases x with
  | cons a b => exact ⟨_, _, rfl, a, b⟩
theorem line_of {n : Nat} (h : n ≤ 1048576) : n ≤ sizeLine := Nat.le_trans h (by decide)
section
variable {P : Params} {h : Heap}
mutual
theorem area_one : ∀ (d : WData) (v : Value), Well P h v d → plW d = true → d.weight ≤ 1048576 → ∃ A : List Addr, OkU A v ∧ ∀ a ∈ A, ArgOb h A a
  | .none, _, x, _, _ => by
    cases x
    exact ⟨[], trivial, fun a m => absurd m (by simp)⟩
  | .bool b, _, x, _, _ => by
    cases x
    exact ⟨[], trivial, fun a m => absurd m (by simp)⟩
  | .int i, _, x, _, _ => by
    cases x
    exact ⟨[], trivial, fun a m => absurd m (by simp)⟩
  | .str s, _, x, _, _ => by
    cases x
    exact ⟨[], trivial, fun a m => absurd m (by simp)⟩
  | .bytes b, _, x, _, _ => by
    cases x
    exact ⟨[], trivial, fun a m => absurd m (by simp)⟩
  | .list ds, _, x, p, z => by
    obtain ⟨a, vs, rfl, ho, hall⟩ := well_list x
    have z2 : WData.weightAll ds ≤ 1048576 := z
    obtain ⟨A, h1, h2⟩ := area_all ds _ hall p fun d hd => Nat.le_trans (weight_mem hd) z2
    have k : ∀ b ∈ A, b ∈ a :: A := fun b hb => List.mem_cons_of_mem _ hb
    refine ⟨a :: A, List.mem_cons_self .., fun b hb => ?_⟩
    rcases List.mem_cons.mp hb with e | m
    · rw [e]
      exact ⟨vs, line_of (by rw [wellAll_len hall]; exact Nat.le_trans (PySem.W.length_le_weightAllW ds) z2), fun u hu => (h1 u hu).mono k, .inl ho⟩
    · exact (h2 b m).mono k
  | .tuple ds, _, x, p, z => by
    obtain ⟨a, vs, rfl, ho, hall⟩ := well_tuple x
    have z2 : WData.weightAll ds ≤ 1048576 := z
    obtain ⟨A, h1, h2⟩ := area_all ds _ hall p fun d hd => Nat.le_trans (weight_mem hd) z2
    have k : ∀ b ∈ A, b ∈ a :: A := fun b hb => List.mem_cons_of_mem _ hb
    refine ⟨a :: A, List.mem_cons_self .., fun b hb => ?_⟩
    rcases List.mem_cons.mp hb with e | m
    · rw [e]
      exact ⟨vs, line_of (by rw [wellAll_len hall]; exact Nat.le_trans (PySem.W.length_le_weightAllW ds) z2), fun u hu => (h1 u hu).mono k, .inr ho⟩
    · exact (h2 b m).mono k
  | .float _, _, _, p, _ => Bool.noConfusion (show false = true from p)
  | .dict _, _, _, p, _ => Bool.noConfusion (show false = true from p)
  | .bytearray _, _, _, p, _ => Bool.noConfusion (show false = true from p)
  | .set _, _, _, p, _ => Bool.noConfusion (show false = true from p)
  | .frozenset _, _, _, p, _ => Bool.noConfusion (show false = true from p)
  | .obj _ _, _, _, p, _ => Bool.noConfusion (show false = true from p)
theorem area_all : ∀ (ds : List WData) (vs : List Value), WellAll P h vs ds → plWs ds = true → (∀ d ∈ ds, d.weight ≤ 1048576) → ∃ A : List Addr, (∀ u ∈ vs, OkU A u) ∧ ∀ a ∈ A, ArgOb h A a
  | [], _, x, _, _ => by
    cases x
    exact ⟨[], fun u m => absurd m (by simp), fun a m => absurd m (by simp)⟩
  | d :: ds, _, x, p, z => by
    obtain ⟨v, vs, rfl, x1, x2⟩ := well_cons x
    have q : plW d = true ∧ plWs ds = true := Bool.and_eq_true_iff.mp p
    obtain ⟨A, a1, a2⟩ := area_one d v x1 q.1 (z d (List.mem_cons_self ..))
    obtain ⟨B, b1, b2⟩ := area_all ds vs x2 q.2 fun e he => z e (List.mem_cons_of_mem _ he)
    have kA : ∀ b ∈ A, b ∈ A ++ B := fun b hb => List.mem_append.mpr (.inl hb)
    have kB : ∀ b ∈ B, b ∈ A ++ B := fun b hb => List.mem_append.mpr (.inr hb)
    refine ⟨A ++ B, fun u hu => ?_, fun b hb => ?_⟩
    · rcases List.mem_cons.mp hu with e | m
      · rw [e]
        exact a1.mono kA
      · exact (b1 u m).mono kB
    · rcases List.mem_append.mp hb with m | m
      · exact (a2 b m).mono kA
      · exact (b2 b m).mono kB
end
end
/-- what is tracked of an argument's object -/
def hoOf (o : Obj) : Option HO := match o.data with
  | .seq vs _ => if (o.cls == Value.type "list") = true then some (.frz o (.lst (vs.toList.map toV))) else some (.frz o (.tup (vs.toList.map toV)))
  | _ => none
def argH (K : PySem.W.Frag) (h : Heap) (A : List Addr) : Hp := fun b => if b ∈ A then (if (K.lookup b).isNone = true then (h.get? b).bind hoOf else none) else none
/-- nothing is tracked but what is known to the object -/
def OnlyF (H : Hp) : Prop := ∀ b, H b = none ∨ ∃ o u, H b = some (.frz o u)
theorem hoOf_lst (vs : List Value) : hoOf { cls := .type "list", data := .seq vs.toArray } = some (.frz { cls := .type "list", data := .seq vs.toArray } (.lst (vs.map toV))) := by
  show (if (Value.type "list" == Value.type "list") = true then some (HO.frz { cls := .type "list", data := .seq vs.toArray } (.lst (vs.toArray.toList.map toV))) else some (HO.frz { cls := .type "list", data := .seq vs.toArray } (.tup (vs.toArray.toList.map toV)))) = _
  rw [if_pos (beq_self_eq_true _)]
theorem hoOf_tup (vs : List Value) : hoOf { cls := .type "tuple", data := .seq vs.toArray } = some (.frz { cls := .type "tuple", data := .seq vs.toArray } (.tup (vs.map toV))) := by
  show (if (Value.type "tuple" == Value.type "list") = true then some (HO.frz { cls := .type "tuple", data := .seq vs.toArray } (.lst (vs.toArray.toList.map toV))) else some (HO.frz { cls := .type "tuple", data := .seq vs.toArray } (.tup (vs.toArray.toList.map toV)))) = _
  rw [if_neg (by decide)]
section
variable {P : Program} {w : World} {K : PySem.W.Frag} {h : Heap} {A : List Addr}
theorem argH_at {b : Addr} {o : Obj} (hb : b ∈ A) (hk : K.lookup b = none) (e : h.get? b = some o) : argH K h A b = hoOf o := by
  unfold argH
  rw [if_pos hb, hk, if_pos (show (none : Option Obj).isNone = true from rfl), e] <;> rfl
theorem of_argH {b : Addr} {u : HO} (q : argH K h A b = some u) : b ∈ A ∧ K.lookup b = none := by
  unfold argH at q
  by_cases hb : b ∈ A
  · rw [if_pos hb] at q
    cases hk : K.lookup b with
    | none => exact ⟨hb, rfl⟩
    | some o =>
      rw [hk, if_neg (by simp)] at q
      cases q
  · rw [if_neg hb] at q
    cases q
/-- what stands tracked -/
theorem argH_is (ar : ∀ a ∈ A, ArgOb h A a) {b : Addr} {u : HO} (q : argH K h A b = some u) : K.lookup b = none ∧ ∃ vs : List Value, vs.length ≤ sizeLine ∧ (∀ u ∈ vs, OkU A u) ∧
    ((h.get? b = some { cls := .type "list", data := .seq vs.toArray } ∧ u = .frz { cls := .type "list", data := .seq vs.toArray } (.lst (vs.map toV))) ∨
     (h.get? b = some { cls := .type "tuple", data := .seq vs.toArray } ∧ u = .frz { cls := .type "tuple", data := .seq vs.toArray } (.tup (vs.map toV)))) := by
  obtain ⟨hb, hk⟩ := of_argH q
  obtain ⟨vs, h1, h2, h3⟩ := ar b hb
  refine ⟨hk, vs, h1, h2, ?_⟩
  rcases h3 with e | e
  · rw [argH_at hb hk e, hoOf_lst] at q
    exact .inl ⟨e, (Option.some.inj q).symm⟩
  · rw [argH_at hb hk e, hoOf_tup] at q
    exact .inr ⟨e, (Option.some.inj q).symm⟩
theorem argH_only (ar : ∀ a ∈ A, ArgOb h A a) : OnlyF (argH K h A) := fun b => by
  cases q : argH K h A b with
  | none => exact .inl rfl
  | some u =>
    obtain ⟨_, vs, _, _, ⟨_, e⟩ | ⟨_, e⟩⟩ := argH_is ar q
    · exact .inr ⟨_, _, by rw [e]⟩
    · exact .inr ⟨_, _, by rw [e]⟩
theorem argH_ok (ar : ∀ a ∈ A, ArgOb h A a) : HOk P w (argH K h A) h := fun b u q => by
  obtain ⟨_, vs, h1, h2, ⟨e, rfl⟩ | ⟨e, rfl⟩⟩ := argH_is ar q
  · exact ⟨e, by rw [List.length_map]; exact h1, vs, _, vals_toV h2, e⟩
  · exact ⟨e, by rw [List.length_map]; exact h1, vs, vals_toV h2, _, e, rfl, _, rfl⟩
theorem seq_inj {c c' : Value} {vs us : List Value} (e : (some { cls := c, data := .seq vs.toArray } : Option Obj) = some { cls := c', data := .seq us.toArray }) : c = c' ∧ vs = us := by
  have e1 := Option.some.inj e
  have e2 : c = c' := congrArg Obj.cls e1
  have e3 : Data.seq vs.toArray = Data.seq us.toArray := congrArg Obj.data e1
  injection e3 with e4
  refine ⟨e2, ?_⟩
  have e5 := congrArg Array.toList e4
  simpa using e5
/-- a list argument -/
theorem argL (KX : K.In h) (ar : ∀ a ∈ A, ArgOb h A a) {a : Addr} {vs : List Value} (ha : a ∈ A) (e : h.get? a = some { cls := .type "list", data := .seq vs.toArray }) : (∀ u ∈ vs, OkU A u) ∧ SqL K (argH K h A) a (vs.map toV) := by
  obtain ⟨us, h1, h2, h3⟩ := ar a ha
  have hu : us = vs := by
    rcases h3 with q | q
    · rw [e] at q
      exact (seq_inj q).2.symm
    · rw [e] at q
      exact absurd (Value.type.inj (seq_inj q).1) (by decide)
  subst hu
  refine ⟨h2, ?_⟩
  cases hk : K.lookup a with
  | none => exact .inl (.inr ⟨_, by rw [argH_at ha hk e, hoOf_lst]⟩)
  | some o =>
    have e2 := KX a o hk
    rw [e] at e2
    obtain rfl := Option.some.inj e2
    exact .inr ⟨_, us.toArray, _, hk, rfl, rfl, rfl, by rw [List.size_toArray]; exact h1, by simpa using vals_toV h2⟩
theorem argT (KX : K.In h) (ar : ∀ a ∈ A, ArgOb h A a) {a : Addr} {vs : List Value} (ha : a ∈ A) (e : h.get? a = some { cls := .type "tuple", data := .seq vs.toArray }) : (∀ u ∈ vs, OkU A u) ∧ SqT K (argH K h A) a (vs.map toV) := by
  obtain ⟨us, h1, h2, h3⟩ := ar a ha
  have hu : us = vs := by
    rcases h3 with q | q
    · rw [e] at q
      exact absurd (Value.type.inj (seq_inj q).1) (by decide)
    · rw [e] at q
      exact (seq_inj q).2.symm
  subst hu
  refine ⟨h2, ?_⟩
  cases hk : K.lookup a with
  | none => exact .inl (.inr ⟨_, by rw [argH_at ha hk e, hoOf_tup]⟩)
  | some o =>
    have e2 := KX a o hk
    rw [e] at e2
    obtain rfl := Option.some.inj e2
    exact .inr ⟨_, us.toArray, _, hk, rfl, rfl, by rw [List.size_toArray]; exact h1, by simpa using vals_toV h2⟩
mutual
theorem dw_one {Pm : Params} (KX : K.In h) (ar : ∀ a ∈ A, ArgOb h A a) : ∀ (d : WData) (v : Value), Well Pm h v d → plW d = true → OkU A v → Dw K (argH K h A) (toV v) d
  | .none, _, x, _, _ => by
    cases x
    exact .non
  | .bool b, _, x, _, _ => by
    cases x
    exact .bl b
  | .int i, _, x, _, _ => by
    cases x
    exact .int i
  | .str s, _, x, _, _ => by
    cases x
    exact .str s
  | .bytes b, _, x, _, _ => by
    cases x
    have z := Dw.byt (K := K) (H := argH K h A) b.toArray
    exact z
  | .list ds, _, x, p, hu => by
    obtain ⟨a, vs, rfl, ho, hall⟩ := well_list x
    obtain ⟨h2, hs⟩ := argL KX ar hu ho
    exact .lst hs (dw_all KX ar ds _ hall p h2)
  | .tuple ds, _, x, p, hu => by
    obtain ⟨a, vs, rfl, ho, hall⟩ := well_tuple x
    obtain ⟨h2, hs⟩ := argT KX ar hu ho
    exact .tup hs (dw_all KX ar ds _ hall p h2)
  | .float _, _, _, p, _ => Bool.noConfusion (show false = true from p)
  | .dict _, _, _, p, _ => Bool.noConfusion (show false = true from p)
  | .bytearray _, _, _, p, _ => Bool.noConfusion (show false = true from p)
  | .set _, _, _, p, _ => Bool.noConfusion (show false = true from p)
  | .frozenset _, _, _, p, _ => Bool.noConfusion (show false = true from p)
  | .obj _ _, _, _, p, _ => Bool.noConfusion (show false = true from p)
theorem dw_all {Pm : Params} (KX : K.In h) (ar : ∀ a ∈ A, ArgOb h A a) : ∀ (ds : List WData) (vs : List Value), WellAll Pm h vs ds → plWs ds = true → (∀ u ∈ vs, OkU A u) → DwAll K (argH K h A) (vs.map toV) ds
  | [], _, x, _, _ => by
    cases x
    exact .nil
  | d :: ds, _, x, p, hu => by
    obtain ⟨v, vs, rfl, x1, x2⟩ := well_cons x
    have q : plW d = true ∧ plWs ds = true := Bool.and_eq_true_iff.mp p
    exact .cons (dw_one KX ar d v x1 q.1 (hu _ (List.mem_cons_self ..))) (dw_all KX ar ds vs x2 q.2 fun u m => hu u (List.mem_cons_of_mem _ m))
end
end
theorem spec_call {P : Program} {w : World} {K : PySem.W.Frag} {mg mb : Str → Option Value} {CX : CXT} {k : Nat} {fa : Addr} {fd : FuncData} {ps : List Str} {sp : Sp} {s₁ : Shared} {vals : List Value} {ds : List WData} {R : PySem.W.WRecords} {cl : Str → Option Addr} {d0 : WData}
    (KX : K.In s₁.heap) (hns : s₁.heap.Ns mainGlobals mg) (hb : s₁.heap.Ns builtinsNs mb) (hbb : ∀ x : Str, x ≠ "__name__" → mb x = bootBuiltins x) (hlim : s₁.heap.NoLimit) (hg : s₁.gens = #[])
    (hwl : WellAll w.params s₁.heap vals ds) (hpl : plWs ds = true) (hwt : ∀ d ∈ ds, d.weight ≤ 1048576) (hr : Room k callerA)
    (F : ∀ base : Heap, K.In base → base.Ns mainGlobals mg → FnOk P w K mg base CX k fa fd ps sp) (hbind : ∀ (s : Shared) (us : List Value), us.length = ps.length → BindsTo s fd ⟨us, []⟩ (ps.zip us)) (hlen : ds.length = ps.length)
    (hsp : ∀ (H : Hp) (xs : List V), OnlyF H → DwAll K H xs ds → sp xs H (fun v H' => Dw K H' v d0) fun _ _ _ => False)
    (hCX : ∀ H e s', CX [] H s₁ (fun _ _ _ => False) e s' → False) :
    codeAny (model P w) callerA (.call (.ref fa) ⟨vals, []⟩) (fun r s' => ∃ u as, r = .ok (.ret u) ∧ ReadsW R cl s'.heap u d0 as ∧ OldK s₁.heap s'.heap ∧ s'.os = s₁.os ∧ AllBare s'.gens) s₁ := by
  obtain ⟨A, ho, ar⟩ := area_all ds vals hwl hpl hwt
  have hO : OnlyF (argH K s₁.heap A) := argH_only ar
  have hok : HOk P w (argH K s₁.heap A) s₁.heap := argH_ok ar
  have hS := dw_all KX ar ds vals hwl hpl ho
  have hV := vals_toV ho
  have hK : ∀ b u, argH K s₁.heap A b = some u → K.lookup b = none := fun b u q => (argH_is ar q).1
  have noA : ∀ {b : Addr} {o : Obj} {es : Array DictEntry} {ep : Nat}, s₁.heap.get? b = some o → o.data = .dict es ep → argH K s₁.heap A b = none := fun {b o es ep} e d => by
    cases q : argH K s₁.heap A b with
    | none => rfl
    | some u =>
      obtain ⟨_, vs, _, _, ⟨e2, _⟩ | ⟨e2, _⟩⟩ := argH_is ar q
      · rw [e2] at e
        cases e
        have d' : Data.seq vs.toArray _ = Data.dict es ep := d
        cases d'
      · rw [e2] at e
        cases e
        have d' : Data.seq vs.toArray _ = Data.dict es ep := d
        cases d'
  generalize argH K s₁.heap A = H at hO hok hS hK noA
  have base_of : ∀ {b : Addr} {o : Obj}, s₁.heap.get? b = some o → H b = none → (hidT s₁.heap H).get? b = some o := fun e n => hidT_get e n
  have nsK : ∀ {b : Addr} {m : Str → Option Value}, s₁.heap.Ns b m → (hidT s₁.heap H).Ns b m := fun {b m} ⟨o, es, ep, e, d, r⟩ => ⟨o, es, ep, base_of e (noA e d), d, r⟩
  have nK : ∀ b o, K.lookup b = some o → H b = none := fun b o e => by
    cases q : H b with
    | none => rfl
    | some u =>
      rw [hK b u q] at e
      cases e
  have hKb : K.In (hidT s₁.heap H) := fun b o e => base_of (KX b o e) (nK b o e)
  have hM : Mod K mg (hidT s₁.heap H) := ⟨hKb, nsK hns, ⟨mb, nsK hb, hbb⟩, let ⟨mc, h1, h2⟩ := hlim; ⟨mc, nsK h1, h2⟩⟩
  have e0 : Env0 P w K mg (hidT s₁.heap H) callerA [] s₁ H := ⟨rfl, hM, fun b o e => of_hidT e, Nat.le_of_eq (hidT_size _ _), trivial, fun b hb => absurd (show b ∈ ([] : List Addr) from hb) (by simp), hok, .of_eq hg⟩
  have hl : vals.length = ps.length := by rw [wellAll_len hwl]; exact hlen
  refine codeAny_mono ((F _ hKb (nsK hns)).run callerA [] s₁ H ⟨vals, []⟩ vals (vals.map toV) _ _ hr e0 (hbind s₁ vals hl) hV (hsp H _ hO hS)) fun r s' x => ?_
  cases r with
  | error e => exact (hCX H e s' x).elim
  | ok fl =>
    cases fl with
    | next => exact False.elim x
    | brk => exact False.elim x
    | cont => exact False.elim x
    | ret u =>
      obtain ⟨v, H', os, bare, un, hok', r', q⟩ := x
      have kept : ∀ b o, s₁.heap.get? b = some o → s'.heap.get? b = some o := fun b o e => by
        cases q2 : H b with
        | none => exact un.keep b o e q2 (by intro z; exact absurd (show b ∈ ([] : List Addr) from z) (by simp)) (by simp)
        | some u2 =>
          rcases hO b with z | ⟨ob, u3, z⟩
          · rw [q2] at z
            cases z
          · have z2 := un.frzs b ob _ z
            obtain ⟨e1, _⟩ := hok b _ z
            obtain ⟨e2, _⟩ := hok' b _ z2
            rw [e] at e1
            cases e1
            exact e2
      have KX' : K.In s'.heap := fun b o e => kept b o (KX b o e)
      obtain ⟨as, hrd⟩ := Dw.reads (R := R) (cl := cl) hok' KX' d0 v u q r'
      exact ⟨u, as, rfl, hrd, OldK.of_keep kept, os, bare⟩
theorem layable_weight {ds : List WData} (h : WData.layableAll ds = true) : ∀ d ∈ ds, d.weight ≤ 1048576 := fun d hd =>
  (PySem.W.layableW_iff.mp (List.all_eq_true.mp h d hd)).2.2
theorem encAll_len : ∀ (cs : List Codec) (a : Codec.denoteAll cs), (Codec.encAll cs a).length = cs.length
  | [], _ => rfl
  | c :: cs, a => by
    show (Codec.encAll cs a.2).length + 1 = cs.length + 1
    rw [encAll_len cs a.2]
/-- the goal that k_headS leaves (case hc), from the promise of the row's def: whatever the arguments that the codecs let and the row asks for, the def gives what stands for enc (f ..) -/
theorem walk_spec {r : OpenSpec} {k : Nat} {q : Program} {loose : List Str} {XP : (Str → Option Value) → Heap → Prop} {YP : World → Heap → Prop} {d : DefRec} {K : Params → PySem.W.Frag} {CX : World → CXT} {ps : List Str} {sp : World → Sp}
    (hwell : r.wellSaid = true) (hdf : d.params.defaults = []) (hlen : r.args.length = ps.length) (hr : Room k callerA)
    (hY : ∀ (w : World) (h : Heap), YP w h → (K w.params).In h)
    (F : ∀ (w : World) (mg : Str → Option Value) (fa : Addr) (h : Heap), YP w h → (K w.params).In h → h.Ns mainGlobals mg → mg d.name = some (.ref fa) →
      ∃ fd : FuncData, (∀ (s : Shared) (us : List Value), us.length = ps.length → BindsTo s fd ⟨us, []⟩ (ps.zip us)) ∧
        ∀ base : Heap, (K w.params).In base → base.Ns mainGlobals mg → FnOk r.prog w (K w.params) mg base (CX w) k fa fd ps (sp w))
    (hsp : ∀ (w : World) (H : Hp) (xs : List V) (a : Codec.denoteAll r.args), OnlyF H → Codec.withinAll r.args a = true → Codec.app r.args r.asked a = true → DwAll (K w.params) H xs (Codec.encAll r.args a) →
      sp w xs H (fun v H' => Dw (K w.params) H' v (r.ret.enc (Codec.app r.args r.f a))) fun _ _ _ => False)
    (hCX : ∀ (w : World) (H : Hp) (s : Shared) (e : Value) (s' : Shared), CX w [] H s (fun _ _ _ => False) e s' → False) :
    PySem.W.WalkOS q loose XP YP r d [] (fun f vs => PySem.call f vs) := by
  intro w s_0 s₁ mg mb G Y fa o pm cd doc dV kV ho hd hcd hD hmg hg args vals as hpre hlay hrd hwl hlo
  obtain ⟨a, e1, e2⟩ := PySem.W.os_pre_some hpre
  obtain ⟨e3, hwi⟩ := Codec.encAll_of_decAll r.args args a e1
  subst e3
  have KX := hY w _ Y
  obtain ⟨fd, hb, hF⟩ := F w mg fa _ Y KX G.T.g hmg
  refine PySem.W.enter_call (codeAny_mono (spec_call (R := []) (cl := classAt s_0.heap) (d0 := r.ret.enc (Codec.app r.args r.f a)) KX G.T.g G.T.b G.T.builtins G.T.nolimit hg hwl (pl_encAll _ _) (layable_weight hlay) hr hF hb (by rw [encAll_len]; exact hlen)
    (fun H xs hO hS => hsp w H xs a hO hwi e2 hS) fun H e s' => hCX w H s₁ e s') fun r' s' hq => ?_)
  obtain ⟨u, as', rfl, h1, h2, h3, h4⟩ := hq
  exact ⟨.inl ⟨u, _, as', rfl, fun _ => rfl, h1, (OpenSpec.post_iff hwell hwi _ _).mpr rfl, fun z => Bool.noConfusion (show false = true from z)⟩, h2, h3, h4⟩
/-- the same where the promise hangs on the written part alone -/
theorem walk_specK {r : OpenSpec} {k : Nat} {q : Program} {loose : List Str} {XP : (Str → Option Value) → Heap → Prop} {YP : World → Heap → Prop} {d : DefRec} {K : Params → PySem.W.Frag} {CX : CXT} {ps : List Str} {sp : PySem.W.Frag → Sp}
    (hwell : r.wellSaid = true) (hdf : d.params.defaults = []) (hlen : r.args.length = ps.length) (hr : Room k callerA)
    (hY : ∀ (w : World) (h : Heap), YP w h → (K w.params).In h)
    (F : ∀ (w : World) (mg : Str → Option Value) (fa : Addr) (h : Heap), YP w h → (K w.params).In h → h.Ns mainGlobals mg → mg d.name = some (.ref fa) →
      ∃ fd : FuncData, (∀ (s : Shared) (us : List Value), us.length = ps.length → BindsTo s fd ⟨us, []⟩ (ps.zip us)) ∧
        ∀ base : Heap, (K w.params).In base → base.Ns mainGlobals mg → FnOk r.prog w (K w.params) mg base CX k fa fd ps (sp (K w.params)))
    (hsp : ∀ (K : PySem.W.Frag) (H : Hp) (xs : List V) (a : Codec.denoteAll r.args), OnlyF H → Codec.withinAll r.args a = true → Codec.app r.args r.asked a = true → DwAll K H xs (Codec.encAll r.args a) →
      sp K xs H (fun v H' => Dw K H' v (r.ret.enc (Codec.app r.args r.f a))) fun _ _ _ => False)
    (hCX : ∀ (H : Hp) (s : Shared) (e : Value) (s' : Shared), CX [] H s (fun _ _ _ => False) e s' → False) :
    PySem.W.WalkOS q loose XP YP r d [] (fun f vs => PySem.call f vs) :=
  walk_spec (K := K) (CX := fun _ => CX) (sp := fun w => sp (K w.params)) hwell hdf hlen hr hY F (fun w H xs a h1 h2 h3 h4 => hsp (K w.params) H xs a h1 h2 h3 h4) fun _ H s e s' => hCX H s e s'
end L2
end
set_option Elab.async false
set_option linter.all false
set_option maxRecDepth 100000
set_option maxHeartbeats 4000000
namespace FrM
open Vbaval

theorem foldl_num : ∀ (l : List Nat) (a : Nat), l.foldl (fun a b => 2 * a + b) a = a * 2 ^ l.length + numberOf l
  | [], a => by simp [numberOf]
  | x :: l, a => by
    have h1 := foldl_num l (2 * a + x)
    have h2 : numberOf (x :: l) = (2 * 0 + x) * 2 ^ l.length + numberOf l := foldl_num l (2 * 0 + x)
    show l.foldl (fun a b => 2 * a + b) (2 * a + x) = a * 2 ^ (l.length + 1) + numberOf (x :: l)
    rw [h1, h2, Nat.pow_succ, Nat.add_mul, Nat.mul_zero, Nat.zero_add]
    have : 2 * a * 2 ^ l.length = a * (2 ^ l.length * 2) := by
      rw [Nat.mul_comm 2 a, Nat.mul_assoc, Nat.mul_comm 2]
    omega
theorem numberOf_nil : numberOf [] = 0 := rfl
theorem numberOf_cons (x : Nat) (l : List Nat) : numberOf (x :: l) = x * 2 ^ l.length + numberOf l := by
  have := foldl_num l (2 * 0 + x)
  rw [Nat.mul_zero, Nat.zero_add] at this
  unfold numberOf
  rw [List.foldl_cons, Nat.mul_zero, Nat.zero_add]
  exact this
theorem numberOf_append : ∀ (a b : List Nat), numberOf (a ++ b) = numberOf a * 2 ^ b.length + numberOf b
  | [], b => by simp [numberOf_nil]
  | x :: a, b => by
    rw [List.cons_append, numberOf_cons, numberOf_cons, numberOf_append a b, List.length_append, Nat.pow_add, Nat.add_mul, Nat.mul_assoc]
    omega
theorem numberOf_zeros : ∀ (m : Nat), numberOf (List.replicate m 0) = 0
  | 0 => rfl
  | m + 1 => by rw [List.replicate_succ, numberOf_cons, numberOf_zeros m]; omega
theorem bitsOf_length : ∀ (w v : Nat), (bitsOf w v).length = w
  | 0, _ => rfl
  | w + 1, v => by rw [bitsOf, List.length_cons, bitsOf_length w v]
theorem bitsOf_bits : ∀ (w v : Nat), ∀ b ∈ bitsOf w v, b < 2
  | 0, _, b, h => by simp [bitsOf] at h
  | w + 1, v, b, h => by
    rw [bitsOf, List.mem_cons] at h
    rcases h with rfl | h
    · exact Nat.mod_lt _ (by decide)
    · exact bitsOf_bits w v b h
theorem numberOf_bitsOf : ∀ (w v : Nat), numberOf (bitsOf w v) = v % 2 ^ w
  | 0, v => by rw [bitsOf, numberOf_nil, Nat.pow_zero, Nat.mod_one]
  | w + 1, v => by
    rw [bitsOf, numberOf_cons, bitsOf_length, numberOf_bitsOf w v, Nat.mod_pow_succ, Nat.mul_comm]
    omega
def Bits (l : List Nat) : Prop := ∀ b ∈ l, b < 2
theorem numberOf_lt : ∀ (l : List Nat), Bits l → numberOf l < 2 ^ l.length
  | [], _ => by simp [numberOf_nil]
  | x :: l, h => by
    have h1 := numberOf_lt l (fun b hb => h b (List.mem_cons_of_mem _ hb))
    have h2 : x < 2 := h x List.mem_cons_self
    rw [numberOf_cons, List.length_cons, Nat.pow_succ]
    have h3 : x * 2 ^ l.length ≤ 1 * 2 ^ l.length := Nat.mul_le_mul_right _ (by omega)
    omega
theorem bits_take {l : List Nat} (h : Bits l) (n : Nat) : Bits (l.take n) := fun b hb => h b (List.mem_of_mem_take hb)
theorem bits_drop {l : List Nat} (h : Bits l) (n : Nat) : Bits (l.drop n) := fun b hb => h b (List.mem_of_mem_drop hb)
theorem bits_append {a b : List Nat} (ha : Bits a) (hb : Bits b) : Bits (a ++ b) := fun x hx => (List.mem_append.mp hx).elim (ha x) (hb x)
theorem bits_zeros (m : Nat) : Bits (List.replicate m 0) := fun b hb => by
  rw [(List.mem_replicate.mp hb).2]; decide
theorem pow_pos2 (n : Nat) : 0 < 2 ^ n := Nat.pow_pos (by decide)
/-- a number split at a place -/
theorem split_num {l : List Nat} (hb : Bits l) {w : Nat} (_ : w ≤ l.length) :
    numberOf (l.take w) = numberOf l / 2 ^ (l.length - w) ∧ numberOf (l.drop w) = numberOf l % 2 ^ (l.length - w) := by
  have e : numberOf l = numberOf (l.take w) * 2 ^ (l.length - w) + numberOf (l.drop w) := by
    have := numberOf_append (l.take w) (l.drop w)
    rw [List.take_append_drop, List.length_drop] at this
    exact this
  have lt : numberOf (l.drop w) < 2 ^ (l.length - w) := by
    have := numberOf_lt _ (bits_drop hb w)
    rwa [List.length_drop] at this
  have hp := pow_pos2 (l.length - w)
  constructor
  · rw [e, Nat.mul_comm, Nat.mul_add_div hp, Nat.div_eq_of_lt lt, Nat.add_zero]
  · rw [e, Nat.mul_comm, Nat.mul_add_mod, Nat.mod_eq_of_lt lt]
/-- the values as the program reads them: from one number, the places behind each -/
def valuesAt (B : Nat) : Nat → List Nat → List Nat
  | _, [] => []
  | behind, w :: r => B / 2 ^ (behind - w) % 2 ^ w :: valuesAt B (behind - w) r
theorem sum_foldl : ∀ (l : List Nat) (a : Nat), l.foldl (fun a b => a + b) a = a + l.sum
  | [], a => by simp
  | x :: l, a => by rw [List.foldl_cons, sum_foldl l, List.sum_cons]; omega
theorem sum_eq (l : List Nat) : Vbaval.sum l = l.sum := by
  have := sum_foldl l 0
  rw [Nat.zero_add] at this
  exact this
theorem valuesOf_eq (B : Nat) : ∀ (ws l : List Nat), Bits l → ws.sum ≤ l.length → B % 2 ^ l.length = numberOf l → valuesOf ws l = valuesAt B l.length ws
  | [], _, _, _, _ => rfl
  | w :: r, l, hb, hs, hB => by
    rw [List.sum_cons] at hs
    have hw : w ≤ l.length := by omega
    obtain ⟨h1, h2⟩ := split_num hb hw
    have hl : l.length = (l.length - w) + w := by omega
    have ih := valuesOf_eq B r (l.drop w) (bits_drop hb w) (by rw [List.length_drop]; omega) (by
      rw [List.length_drop, h2, ← hB]
      rw [Nat.mod_mod_of_dvd]
      exact Nat.pow_dvd_pow 2 (by omega))
    rw [List.length_drop] at ih
    show numberOf (l.take w) :: valuesOf r (l.drop w) = B / 2 ^ (l.length - w) % 2 ^ w :: valuesAt B (l.length - w) r
    rw [ih, h1, ← hB]
    congr 1
    have e : 2 ^ l.length = 2 ^ (l.length - w) * 2 ^ w := by rw [← Nat.pow_add]; congr 1
    rw [e, Nat.mod_mul_right_div_self]
/-- bytes put together -/
def gather (l : List Nat) : Nat := l.foldl (fun a b => a * 256 + b) 0
theorem gather_go : ∀ (l : List Nat) (a : Nat), (∀ b ∈ l, b < 256) → l.foldl (fun a b => a * 256 + b) a = a * 2 ^ (l.flatMap (bitsOf 8)).length + numberOf (l.flatMap (bitsOf 8))
  | [], a, _ => by simp [numberOf_nil]
  | x :: l, a, h => by
    have hx : x < 256 := h x List.mem_cons_self
    rw [List.foldl_cons, gather_go l _ (fun b hb => h b (List.mem_cons_of_mem _ hb)), List.flatMap_cons, numberOf_append, List.length_append, Nat.pow_add, bitsOf_length, numberOf_bitsOf, Nat.add_mul, Nat.mod_eq_of_lt hx, Nat.mul_assoc]
    show a * (2 ^ 8 * _) + _ + _ = _
    omega
theorem gather_eq {l : List Nat} (h : ∀ b ∈ l, b < 256) : gather l = numberOf (l.flatMap (bitsOf 8)) := by
  have := gather_go l 0 h
  rw [Nat.zero_mul, Nat.zero_add] at this
  exact this
theorem flat8_length : ∀ (l : List Nat), (l.flatMap (bitsOf 8)).length = 8 * l.length
  | [] => rfl
  | x :: l => by rw [List.flatMap_cons, List.length_append, bitsOf_length, flat8_length l, List.length_cons]; omega
theorem flat8_bits (l : List Nat) : Bits (l.flatMap (bitsOf 8)) := fun b hb => by
  obtain ⟨x, _, h⟩ := List.mem_flatMap.mp hb
  exact bitsOf_bits 8 x b h
/-- what a frame holds, as the program reads it -/
theorem values_read {ws data : List Nat} (h : ∀ b ∈ data, b < 256) (hs : ws.sum ≤ 8 * data.length) : valuesOf ws (data.flatMap (bitsOf 8)) = valuesAt (gather data) (8 * data.length) ws := by
  have := valuesOf_eq (gather data) ws (data.flatMap (bitsOf 8)) (flat8_bits data) (by rw [flat8_length]; exact hs) (by
    rw [gather_eq h, Nat.mod_eq_of_lt]
    exact numberOf_lt _ (flat8_bits data))
  rw [flat8_length] at this
  exact this
/-- values put together -/
def joined : List (Nat × Nat) → Nat → Nat
  | [], a => a
  | (w, v) :: r, a => joined r (a * 2 ^ w + v)
def flatP (l : List (Nat × Nat)) : List Nat := l.flatMap fun p => bitsOf p.1 p.2
theorem joined_eq : ∀ (l : List (Nat × Nat)) (a : Nat), (∀ p ∈ l, p.2 < 2 ^ p.1) → joined l a = a * 2 ^ (flatP l).length + numberOf (flatP l)
  | [], a, _ => by simp [joined, flatP, numberOf_nil]
  | (w, v) :: r, a, h => by
    have hv : v < 2 ^ w := h (w, v) List.mem_cons_self
    have e : flatP ((w, v) :: r) = bitsOf w v ++ flatP r := rfl
    rw [joined, joined_eq r _ (fun p hp => h p (List.mem_cons_of_mem _ hp)), e, numberOf_append, List.length_append, Nat.pow_add, bitsOf_length, numberOf_bitsOf, Nat.add_mul, Nat.mod_eq_of_lt hv, Nat.mul_assoc]
    omega
theorem flatP_bits (l : List (Nat × Nat)) : Bits (flatP l) := fun b hb => by
  obtain ⟨x, _, h⟩ := List.mem_flatMap.mp hb
  exact bitsOf_bits _ _ b h
theorem flatP_length : ∀ (l : List (Nat × Nat)), (flatP l).length = (l.map (·.1)).sum
  | [] => rfl
  | (w, v) :: r => by
    have e : flatP ((w, v) :: r) = bitsOf w v ++ flatP r := rfl
    rw [e, List.length_append, bitsOf_length, flatP_length r, List.map_cons, List.sum_cons]
/-- bytes taken out of one number -/
def bytesAt (N k : Nat) : List Nat := (List.range k).map fun i => N / 2 ^ (8 * (k - 1 - i)) % 256
theorem bytesAt_succ (N k : Nat) : bytesAt N (k + 1) = N / 2 ^ (8 * k) % 256 :: bytesAt N k := by
  unfold bytesAt
  rw [List.range_succ_eq_map, List.map_cons, List.map_map]
  congr 1
  refine List.map_congr_left fun i hi => ?_
  show N / 2 ^ (8 * (k + 1 - 1 - (i + 1))) % 256 = _
  rw [show k + 1 - 1 - (i + 1) = k - 1 - i by omega]
theorem bytesAt_add (N h k : Nat) : bytesAt (h * 2 ^ (8 * k) + N) k = bytesAt N k := by
  unfold bytesAt
  refine List.map_congr_left fun i hi => ?_
  have hik : i < k := List.mem_range.mp hi
  have e : h * 2 ^ (8 * k) = 2 ^ (8 * (k - 1 - i)) * (h * 2 ^ (8 * i) * 256) := by
    have : 2 ^ (8 * k) = 2 ^ (8 * (k - 1 - i)) * 2 ^ (8 * i) * 256 := by
      rw [show (256 : Nat) = 2 ^ 8 from rfl, ← Nat.pow_add, ← Nat.pow_add]
      congr 1
      omega
    rw [this]
    ac_rfl
  rw [e, Nat.mul_add_div (pow_pos2 _), Nat.add_comm, Nat.add_mul_mod_self_right]
theorem bytesOf_eq : ∀ (k : Nat) (l : List Nat), Bits l → l.length ≤ 8 * k → bytesOf k l = bytesAt (numberOf l * 2 ^ (8 * k - l.length)) k
  | 0, _, _, _ => rfl
  | k + 1, l, hb, hl => by
    have hd : (l.drop 8).length ≤ 8 * k := by rw [List.length_drop]; omega
    have ih := bytesOf_eq k (l.drop 8) (bits_drop hb 8) hd
    have hB : Bits ((l ++ List.replicate 8 0).take 8) := bits_take (bits_append hb (bits_zeros 8)) 8
    have hlen : ((l ++ List.replicate 8 0).take 8).length = 8 := by
      rw [List.length_take, List.length_append, List.length_replicate]; omega
    have h256 : numberOf ((l ++ List.replicate 8 0).take 8) < 2 ^ 8 := by
      have := numberOf_lt _ hB
      rwa [hlen] at this
    have main : numberOf l * 2 ^ (8 * (k + 1) - l.length) = numberOf ((l ++ List.replicate 8 0).take 8) * 2 ^ (8 * k) + numberOf (l.drop 8) * 2 ^ (8 * k - (l.drop 8).length) := by
      by_cases h8 : 8 ≤ l.length
      · rw [List.take_append_of_le_length h8]
        have := numberOf_append (l.take 8) (l.drop 8)
        rw [List.take_append_drop] at this
        rw [this, Nat.add_mul, Nat.mul_assoc, ← Nat.pow_add, List.length_drop]
        rw [show l.length - 8 + (8 * (k + 1) - l.length) = 8 * k by omega, show 8 * (k + 1) - l.length = 8 * k - (l.length - 8) by omega]
      · have e1 : l.drop 8 = [] := List.drop_of_length_le (by omega)
        have e2 : (l ++ List.replicate 8 0).take 8 = l ++ List.replicate (8 - l.length) 0 := by
          rw [List.take_append, List.take_of_length_le (by omega), List.take_replicate]
          congr 2
          omega
        rw [e1, e2, numberOf_nil, numberOf_append, numberOf_zeros, List.length_replicate, Nat.zero_mul]
        simp only [Nat.add_zero]
        rw [Nat.mul_assoc, ← Nat.pow_add]
        congr 2
        omega
    have lt : numberOf (l.drop 8) * 2 ^ (8 * k - (l.drop 8).length) < 2 ^ (8 * k) := by
      have h1 := numberOf_lt _ (bits_drop hb 8)
      have h2 : 2 ^ (8 * k) = 2 ^ (l.drop 8).length * 2 ^ (8 * k - (l.drop 8).length) := by
        rw [← Nat.pow_add]; congr 1; omega
      rw [h2]
      exact Nat.mul_lt_mul_of_pos_right h1 (pow_pos2 _)
    rw [main, bytesAt_succ, bytesAt_add, ← ih]
    show numberOf ((l ++ List.replicate 8 0).take 8) :: bytesOf k (l.drop 8) = _
    congr 1
    rw [Nat.mul_comm, Nat.mul_add_div (pow_pos2 _), Nat.div_eq_of_lt lt, Nat.add_zero, Nat.mod_eq_of_lt h256]
/-- a frame's bytes 2, as the program packs them -/
theorem packed_eq {l : List (Nat × Nat)} {len : Nat} (h : ∀ p ∈ l, p.2 < 2 ^ p.1) (hs : (l.map (·.1)).sum ≤ 8 * len) :
    bytesOf len (flatP l) = bytesAt (joined l 0 * 2 ^ (8 * len - (l.map (·.1)).sum)) len := by
  rw [bytesOf_eq len (flatP l) (flatP_bits l) (by rw [flatP_length]; exact hs), joined_eq l 0 h, flatP_length, Nat.zero_mul, Nat.zero_add]
theorem bytesOf_lt : ∀ (k : Nat) (l : List Nat), Bits l → ∀ b ∈ bytesOf k l, b < 256
  | 0, _, _, b, h => by simp [bytesOf] at h
  | k + 1, l, hb, b, h => by
    rw [bytesOf, List.mem_cons] at h
    rcases h with rfl | h
    · have := numberOf_lt _ (bits_take (bits_append hb (bits_zeros 8)) 8)
      have hlen : ((l ++ List.replicate 8 0).take 8).length = 8 := by
        rw [List.length_take, List.length_append, List.length_replicate]; omega
      rw [hlen] at this
      exact this
    · exact bytesOf_lt k _ (bits_drop hb 8) b h
theorem bytesOf_length : ∀ (k : Nat) (l : List Nat), (bytesOf k l).length = k
  | 0, _ => rfl
  | k + 1, l => by rw [bytesOf, List.length_cons, bytesOf_length k]
end FrM
namespace FrM
open Vbaval

theorem getD_set_eq {l : List Nat} {i v d : Nat} (h : i < l.length) : (l.set i v).getD i d = v := by
  rw [List.getD_eq_getElem?_getD, List.getElem?_set_self h]; rfl
theorem getD_set_ne {l : List Nat} {i j v d : Nat} (h : i ≠ j) : (l.set i v).getD j d = l.getD j d := by
  rw [List.getD_eq_getElem?_getD, List.getElem?_set_ne h, ← List.getD_eq_getElem?_getD]
theorem sum_set : ∀ {l : List Nat} {i : Nat} (v : Nat), i < l.length → (l.set i v).sum + l.getD i 0 = l.sum + v
  | [], i, v, h => by simp at h
  | x :: l, 0, v, _ => by
    show (v :: l).sum + x = (x :: l).sum + v
    rw [List.sum_cons, List.sum_cons]; omega
  | x :: l, i + 1, v, h => by
    have ih := sum_set (l := l) (i := i) v (by simpa using h)
    show (x :: l.set i v).sum + l.getD i 0 = (x :: l).sum + v
    rw [List.sum_cons, List.sum_cons]; omega
theorem getD_lt {l : List Nat} {m : Nat} (h : ∀ b ∈ l, b < m) (hm : 0 < m) (i : Nat) : l.getD i 0 < m := by
  rw [List.getD_eq_getElem?_getD]
  cases e : l[i]? with
  | none => exact hm
  | some x => exact h x (List.mem_of_getElem? e)
theorem take_getD {l : List Nat} {n i : Nat} (h : i < n) : (l.take n).getD i 0 = l.getD i 0 := by
  rw [List.getD_eq_getElem?_getD, List.getElem?_take_of_lt h, ← List.getD_eq_getElem?_getD]

theorem flipBit_cases (b n : Nat) : (b / 2 ^ n % 2 = 1 ∧ 2 ^ n ≤ b ∧ flipBit b n = b - 2 ^ n) ∨ (b / 2 ^ n % 2 = 0 ∧ flipBit b n = b + 2 ^ n) := by
  unfold flipBit
  by_cases h : b / 2 ^ n % 2 = 1
  · rw [if_pos h]
    refine .inl ⟨h, ?_, rfl⟩
    by_cases h2 : 2 ^ n ≤ b
    · exact h2
    · rw [Nat.div_eq_of_lt (by omega)] at h
      simp at h
  · rw [if_neg h]
    exact .inr ⟨by omega, rfl⟩
theorem flip_lt {b n : Nat} (hb : b < 256) (hn : n ≤ 7) : flipBit b n < 256 := by
  rcases flipBit_cases b n with ⟨_, _, e⟩ | ⟨h, e⟩
  · rw [e]; exact Nat.lt_of_le_of_lt (Nat.sub_le _ _) hb
  · rw [e]
    have : n = 0 ∨ n = 1 ∨ n = 2 ∨ n = 3 ∨ n = 4 ∨ n = 5 ∨ n = 6 ∨ n = 7 := by omega
    rcases this with rfl | rfl | rfl | rfl | rfl | rfl | rfl | rfl <;> simp only [Nat.reducePow] at h ⊢ <;> omega
/-- the byte changes by 1 to 128 -/
theorem flip_dist {b n : Nat} (hn : n ≤ 7) : ∃ d, 1 ≤ d ∧ d ≤ 128 ∧ (flipBit b n = b + d ∨ flipBit b n + d = b) := by
  refine ⟨2 ^ n, pow_pos2 n, ?_, ?_⟩
  · exact Nat.pow_le_pow_right (by decide) hn
  · rcases flipBit_cases b n with ⟨_, h, e⟩ | ⟨_, e⟩
    · exact .inr (by rw [e]; omega)
    · exact .inl e

theorem right_iff {len n : Nat} {l : List Nat} : rightFrame len l = some n ↔ (l.length = len + 6 ∧ 256 * l.getD 0 0 + l.getD 1 0 = n ∧ 256 * l.getD (len + 4) 0 + l.getD (len + 5) 0 = n ∧ 256 * l.getD (len + 2) 0 + l.getD (len + 3) 0 = Vbaval.sum (l.take (len + 2)) % 65536) := by
  unfold rightFrame
  dsimp only
  constructor
  · intro h
    split at h
    · rename_i c
      have e := Option.some.inj h
      exact ⟨c.1, e, c.2.1.trans e, c.2.2⟩
    · cases h
  · rintro ⟨h1, rfl, h3, h4⟩
    rw [if_pos ⟨h1, h3, h4⟩]
theorem right_flip {len n : Nat} {l : List Nat} {j k : Nat} (hlen : 1 ≤ len) (h : rightFrame len l = some n) (hj : j < l.length) (hk : k ≤ 7) :
    rightFrame len (l.set j (flipBit (l.getD j 0) k)) = none := by
  cases e : rightFrame len (l.set j (flipBit (l.getD j 0) k)) with
  | none => rfl
  | some m =>
    exfalso
    obtain ⟨a1, a2, a3, a4⟩ := right_iff.mp h
    obtain ⟨b1, b2, b3, b4⟩ := right_iff.mp e
    obtain ⟨d, d1, d2, hd⟩ := flip_dist (b := l.getD j 0) hk
    by_cases j2 : j < 2
    · rw [getD_set_ne (show j ≠ len + 4 by omega), getD_set_ne (show j ≠ len + 5 by omega)] at b3
      have : j = 0 ∨ j = 1 := by omega
      rcases this with rfl | rfl
      · rw [getD_set_eq hj, getD_set_ne (show (0 : Nat) ≠ 1 by decide)] at b2
        omega
      · rw [getD_set_eq hj, getD_set_ne (show (1 : Nat) ≠ 0 by decide)] at b2
        omega
    · rw [getD_set_ne (show j ≠ 0 by omega), getD_set_ne (show j ≠ 1 by omega)] at b2
      by_cases j3 : j < len + 2
      · rw [getD_set_ne (show j ≠ len + 2 by omega), getD_set_ne (show j ≠ len + 3 by omega), List.take_set, sum_eq] at b4
        rw [sum_eq] at a4
        have s1 := sum_set (l := l.take (len + 2)) (i := j) (flipBit (l.getD j 0) k) (by rw [List.length_take]; omega)
        rw [take_getD j3] at s1
        omega
      · by_cases j4 : j < len + 4
        · have ts : (l.set j (flipBit (l.getD j 0) k)).take (len + 2) = l.take (len + 2) := by
            rw [List.take_set, List.set_eq_of_length_le (by rw [List.length_take]; omega)]
          rw [ts] at b4
          have : j = len + 2 ∨ j = len + 3 := by omega
          rcases this with rfl | rfl
          · rw [getD_set_eq hj, getD_set_ne (show len + 2 ≠ len + 3 by omega)] at b4
            omega
          · rw [getD_set_eq hj, getD_set_ne (show len + 3 ≠ len + 2 by omega)] at b4
            omega
        · have : j = len + 4 ∨ j = len + 5 := by omega
          rcases this with rfl | rfl
          · rw [getD_set_eq hj, getD_set_ne (show len + 4 ≠ len + 5 by omega)] at b3
            omega
          · rw [getD_set_eq hj, getD_set_ne (show len + 5 ≠ len + 4 by omega)] at b3
            omega
def headOf (len : Nat) (ps : List Param) (n : Nat) (vs : List Nat) : List Nat := two n ++ bytesOf len (((widthsOf ps n).zip vs).flatMap fun p => bitsOf p.1 p.2)
theorem frameOf_eq (len : Nat) (ps : List Param) (n : Nat) (vs : List Nat) : frameOf len ps n vs = headOf len ps n vs ++ (two (Vbaval.sum (headOf len ps n vs)) ++ two n) := rfl
theorem headOf_length (len : Nat) (ps : List Param) (n : Nat) (vs : List Nat) : (headOf len ps n vs).length = len + 2 := by
  unfold headOf
  rw [List.length_append, bytesOf_length]
  show 2 + len = len + 2
  omega
theorem frameOf_length (len : Nat) (ps : List Param) (n : Nat) (vs : List Nat) : (frameOf len ps n vs).length = len + 6 := by
  rw [frameOf_eq, List.length_append, headOf_length]
  show len + 2 + 4 = len + 6
  omega
theorem two_lt (n : Nat) : ∀ b ∈ two n, b < 256 := fun b hb => by
  unfold two at hb
  rw [List.mem_cons, List.mem_singleton] at hb
  omega
theorem headOf_lt (len : Nat) (ps : List Param) (n : Nat) (vs : List Nat) : ∀ b ∈ headOf len ps n vs, b < 256 := fun b hb => by
  rcases List.mem_append.mp hb with h | h
  · exact two_lt n b h
  · exact bytesOf_lt len _ (flatP_bits _) b h
theorem frameOf_lt (len : Nat) (ps : List Param) (n : Nat) (vs : List Nat) : ∀ b ∈ frameOf len ps n vs, b < 256 := fun b hb => by
  rw [frameOf_eq] at hb
  rcases List.mem_append.mp hb with h | h
  · exact headOf_lt len ps n vs b h
  · rcases List.mem_append.mp h with h | h
    · exact two_lt _ b h
    · exact two_lt _ b h
theorem sum_le : ∀ (l : List Nat), (∀ b ∈ l, b < 256) → l.sum ≤ 255 * l.length
  | [], _ => by simp
  | x :: l, h => by
    have h1 := sum_le l fun b hb => h b (List.mem_cons_of_mem _ hb)
    have h2 := h x List.mem_cons_self
    rw [List.sum_cons, List.length_cons]; omega
theorem getD_app_right {a b : List Nat} {k : Nat} (j : Nat) (h : a.length = k) : (a ++ b).getD (k + j) 0 = b.getD j 0 := by
  subst h
  rw [List.getD_eq_getElem?_getD, List.getElem?_append_right (by omega), ← List.getD_eq_getElem?_getD]
  congr 1
  omega
theorem frameOf_right {len : Nat} {ps : List Param} {n : Nat} {vs : List Nat} (hl : len ≤ 16) (hn : n ≤ 65535) : rightFrame len (frameOf len ps n vs) = some n := by
  rw [right_iff]
  refine ⟨frameOf_length .., ?_, ?_, ?_⟩
  · show 256 * (n / 256 % 256) + n % 256 = n
    omega
  · rw [frameOf_eq, getD_app_right 2 (headOf_length len ps n vs), getD_app_right 3 (headOf_length len ps n vs)]
    show 256 * (n / 256 % 256) + n % 256 = n
    omega
  · rw [frameOf_eq, List.take_append_of_le_length (by rw [headOf_length]; exact Nat.le_refl _), List.take_of_length_le (by rw [headOf_length]; exact Nat.le_refl _)]
    rw [getD_app_right 0 (headOf_length len ps n vs), getD_app_right 1 (headOf_length len ps n vs)]
    have := sum_le _ (headOf_lt len ps n vs)
    rw [headOf_length] at this
    rw [sum_eq]
    show 256 * ((headOf len ps n vs).sum / 256 % 256) + (headOf len ps n vs).sum % 256 = (headOf len ps n vs).sum % 65536
    omega
end FrM
namespace FrM
open Vbaval

structure ParOk (p : Param) : Prop where
  w : 1 ≤ p.width ∧ p.width ≤ 16
  per : p.period = 1 ∨ p.period = 2 ∨ p.period = 4 ∨ p.period = 8 ∨ p.period = 16
  f : p.phase < p.period
structure Ok (s : St) : Prop where
  laid : s.laid = true
  len : 1 ≤ s.len ∧ s.len ≤ 16
  first : s.first ≤ 65535
  ns : 2 ≤ s.slots.length ∧ s.slots.length ≤ 16
  slen : ∀ l ∈ s.slots, l.length = s.len + 7
  sby : ∀ l ∈ s.slots, ∀ b ∈ l, b < 256
  next : s.first ≤ s.next ∧ s.next ≤ 65536
  fuse : ∀ k, s.fuse = some k → k ≤ 1000
  par : ∀ p ∈ s.params, ParOk p
  plen : s.params.length ≤ 12
  fits : fitsIn s.len s.params = true
  bad : ∀ i, i ∈ s.hurt → good s i = none
  un : ∀ i, i < s.slots.length → i ∉ s.hurt → (slotOf s i).getD 0 0 = 0 ∨ ∃ n, good s i = some n ∧ s.first ≤ n

theorem slot_mem {s : St} {i : Nat} (h : i < s.slots.length) : slotOf s i ∈ s.slots := by
  unfold slotOf
  rw [List.getD_eq_getElem?_getD, List.getElem?_eq_getElem h]
  exact List.getElem_mem h
theorem slot_some {s : St} {i : Nat} (h : i < s.slots.length) : s.slots[i]? = some (slotOf s i) := by
  unfold slotOf
  rw [List.getD_eq_getElem?_getD, List.getElem?_eq_getElem h]; rfl
theorem good_iff {s : St} {i n : Nat} : good s i = some n ↔ ∃ l, slotOf s i = DONE :: l ∧ rightFrame s.len l = some n ∧ n % s.slots.length = i := by
  unfold good
  constructor
  · intro h
    split at h
    · cases h
    · rename_i d l e
      split at h
      · rename_i hd
        split at h
        · rename_i m hm
          split at h
          · rename_i hi
            cases h
            exact ⟨l, by rw [e, hd], hm, hi⟩
          · cases h
        · cases h
      · cases h
  · rintro ⟨l, e, hr, hi⟩
    rw [e]
    dsimp only
    rw [if_pos rfl, hr]
    dsimp only
    rw [if_pos hi]
theorem right_lt {len n : Nat} {l : List Nat} (hb : ∀ b ∈ l, b < 256) (h : rightFrame len l = some n) : n ≤ 65535 := by
  obtain ⟨_, h2, _⟩ := right_iff.mp h
  have h3 := getD_lt hb (by decide) 0
  have h4 := getD_lt hb (by decide) 1
  omega
theorem Ok.good_le {s : St} (O : Ok s) {i n : Nat} (h : good s i = some n) : n ≤ 65535 ∧ s.first ≤ n ∧ i < s.slots.length ∧ n % s.slots.length = i := by
  obtain ⟨l, e, hr, hi⟩ := good_iff.mp h
  have hlt : i < s.slots.length := by rw [← hi]; exact Nat.mod_lt _ (by have := O.ns; omega)
  refine ⟨right_lt (fun b hb => O.sby _ (slot_mem hlt) b (by rw [e]; exact List.mem_cons_of_mem _ hb)) hr, ?_, hlt, hi⟩
  by_cases hh : i ∈ s.hurt
  · rw [O.bad i hh] at h; cases h
  · rcases O.un i hlt hh with z | ⟨m, hm, hf⟩
    · rw [e] at z
      exact absurd (show DONE = 0 from z) (by decide)
    · rw [h] at hm; cases hm; exact hf
theorem foldmax : ∀ (l : List Nat) (a : Nat), a ≤ l.foldl (fun m n => max m (n + 1)) a ∧ (∀ x ∈ l, x + 1 ≤ l.foldl (fun m n => max m (n + 1)) a) ∧ (l.foldl (fun m n => max m (n + 1)) a = a ∨ ∃ x ∈ l, l.foldl (fun m n => max m (n + 1)) a = x + 1)
  | [], a => ⟨Nat.le_refl _, (fun _ h => nomatch h), .inl rfl⟩
  | y :: l, a => by
    obtain ⟨h1, h2, h3⟩ := foldmax l (max a (y + 1))
    rw [List.foldl_cons]
    refine ⟨by omega, fun x hx => ?_, ?_⟩
    · rcases List.mem_cons.mp hx with rfl | hx
      · omega
      · exact h2 x hx
    · rcases h3 with e | ⟨x, hx, e⟩
      · rw [e]
        by_cases c : y + 1 ≤ a
        · exact .inl (by omega)
        · exact .inr ⟨y, List.mem_cons_self, by omega⟩
      · exact .inr ⟨x, List.mem_cons_of_mem _ hx, e⟩
theorem mem_goods {s : St} {n : Nat} : n ∈ goods s ↔ ∃ i, i < s.slots.length ∧ good s i = some n := by
  unfold goods
  rw [List.mem_filterMap]
  constructor
  · rintro ⟨i, hi, e⟩; exact ⟨i, List.mem_range.mp hi, e⟩
  · rintro ⟨i, hi, e⟩; exact ⟨i, List.mem_range.mpr hi, e⟩
theorem Ok.found_none {s : St} (_O : Ok s) (h : goods s = []) : found s = s.first := by
  unfold found
  rw [h]; rfl
theorem Ok.found_some {s : St} (O : Ok s) {m : Nat} (h : m ∈ goods s) (hm : ∀ n ∈ goods s, n ≤ m) : found s = m + 1 := by
  obtain ⟨h1, h2, h3⟩ := foldmax (goods s) s.first
  have h4 := h2 m h
  have hf : s.first ≤ m := by
    obtain ⟨i, _, e⟩ := mem_goods.mp h
    exact (O.good_le e).2.1
  show (goods s).foldl (fun m n => max m (n + 1)) s.first = m + 1
  rcases h3 with e | ⟨x, hx, e⟩
  · omega
  · have := hm x hx
    omega
theorem Ok.found_le {s : St} (O : Ok s) : s.first ≤ found s ∧ found s ≤ 65536 := by
  obtain ⟨h1, h2, h3⟩ := foldmax (goods s) s.first
  refine ⟨h1, ?_⟩
  have hf := O.first
  show (goods s).foldl (fun m n => max m (n + 1)) s.first ≤ 65536
  rcases h3 with e | ⟨x, hx, e⟩
  · omega
  · obtain ⟨i, _, e2⟩ := mem_goods.mp hx
    have := (O.good_le e2).1
    omega
theorem good_congr {s t : St} {i : Nat} (h1 : slotOf t i = slotOf s i) (h2 : t.len = s.len) (h3 : t.slots.length = s.slots.length) : good t i = good s i := by
  unfold good
  rw [h1, h2, h3]
theorem slotOf_set_ne {s : St} {i j : Nat} {v : List Nat} (h : i ≠ j) : (s.slots.set i v).getD j [] = slotOf s j := by
  unfold slotOf
  rw [List.getD_eq_getElem?_getD, List.getElem?_set_ne h, ← List.getD_eq_getElem?_getD]
theorem slotOf_set_eq {s : St} {i : Nat} {v : List Nat} (h : i < s.slots.length) : (s.slots.set i v).getD i [] = v := by
  rw [List.getD_eq_getElem?_getD, List.getElem?_set_self h]; rfl
theorem flip0_ne (k : Nat) : flipBit 0 k ≠ DONE := by
  rcases flipBit_cases 0 k with ⟨_, h, _⟩ | ⟨_, e⟩
  · have := pow_pos2 k; omega
  · rw [e, Nat.zero_add]
    intro h
    have h165 : (2 : Nat) ^ k = 165 := h
    match k, h165 with
    | 0, h => exact absurd h (by decide)
    | k + 1, h => rw [Nat.pow_succ] at h; omega
theorem flip_ne {b k : Nat} : flipBit b k ≠ b := by
  have := pow_pos2 k
  rcases flipBit_cases b k with ⟨_, h, e⟩ | ⟨_, e⟩ <;> rw [e] <;> omega
/-- the state with one bit flipped -/
def flipped (s : St) (i b k : Nat) : St := { s with slots := s.slots.set i ((slotOf s i).set b (flipBit ((slotOf s i).getD b 0) k)), hurt := s.hurt ++ [i], flips := s.flips + 1 }
theorem Ok.flip {s : St} (O : Ok s) {i b k : Nat} (hi : i < s.slots.length) (hb : b ≤ s.len + 6) (hk : k ≤ 7) (hh : i ∉ s.hurt) : Ok (flipped s i b k) := by
  have hm := slot_mem hi
  have hl := O.slen _ hm
  have hbl : b < (slotOf s i).length := by omega
  have other : ∀ j, j ≠ i → good (flipped s i b k) j = good s j := fun j hj =>
    good_congr (slotOf_set_ne (Ne.symm hj)) rfl (List.length_set ..)
  have own : good (flipped s i b k) i = none := by
    cases e : good (flipped s i b k) i with
    | none => rfl
    | some n =>
      exfalso
      obtain ⟨l, e1, e2, e3⟩ := good_iff.mp e
      have e1' : (slotOf s i).set b (flipBit ((slotOf s i).getD b 0) k) = DONE :: l := (slotOf_set_eq hi).symm.trans e1
      have e2' : rightFrame s.len l = some n := e2
      cases hs : slotOf s i with
      | nil => rw [hs] at hl; simp at hl
      | cons d r =>
        rw [hs] at e1' hbl
        match b, hb, hbl, e1' with
        | 0, _, _, e1' =>
          have q : flipBit d k = DONE := (List.cons.inj e1').1
          rcases O.un i hi hh with z | ⟨m, hm', _⟩
          · rw [hs] at z
            have z' : d = 0 := z
            rw [z'] at q
            exact flip0_ne k q
          · obtain ⟨l', e4, _⟩ := good_iff.mp hm'
            rw [hs] at e4
            rw [(List.cons.inj e4).1] at q
            exact flip_ne q
        | b + 1, hb, hbl, e1' =>
          have q : d = DONE := (List.cons.inj e1').1
          have q2 : r.set b (flipBit (r.getD b 0) k) = l := (List.cons.inj e1').2
          rcases O.un i hi hh with z | ⟨m, hm', _⟩
          · rw [hs] at z
            have z' : d = 0 := z
            rw [z'] at q
            exact absurd q (by decide)
          · obtain ⟨l', e4, e5, _⟩ := good_iff.mp hm'
            rw [hs] at e4
            have e6 : r = l' := (List.cons.inj e4).2
            rw [← e6] at e5
            have := right_flip O.len.1 e5 (j := b) (k := k) (by simpa using hbl) hk
            rw [q2, e2'] at this
            cases this
  refine ⟨O.laid, O.len, O.first, ?_, ?_, ?_, O.next, O.fuse, O.par, O.plen, O.fits, ?_, ?_⟩
  · show 2 ≤ (s.slots.set i _).length ∧ (s.slots.set i _).length ≤ 16
    rw [List.length_set]; exact O.ns
  · intro l h
    rcases List.mem_or_eq_of_mem_set h with h | h
    · exact O.slen l h
    · rw [h, List.length_set]; exact hl
  · intro l h
    rcases List.mem_or_eq_of_mem_set h with h | h
    · exact O.sby l h
    · rw [h]
      intro x hx
      rcases List.mem_or_eq_of_mem_set hx with hx | hx
      · exact O.sby _ hm x hx
      · rw [hx]; exact flip_lt (getD_lt (O.sby _ hm) (by decide) b) hk
  · intro j hj
    by_cases c : j = i
    · rw [c]; exact own
    · rw [other j c]
      rcases List.mem_append.mp hj with h | h
      · exact O.bad j h
      · exact absurd (List.mem_singleton.mp h) c
  · intro j hj hn
    have c : j ≠ i := fun e => hn (List.mem_append_right _ (List.mem_singleton.mpr e))
    have hj' : j < s.slots.length := by
      have : j < (s.slots.set i ((slotOf s i).set b (flipBit ((slotOf s i).getD b 0) k))).length := hj
      rwa [List.length_set] at this
    have hn' : j ∉ s.hurt := fun e => hn (List.mem_append_left _ e)
    rw [other j c]
    have : slotOf (flipped s i b k) j = slotOf s j := slotOf_set_ne (Ne.symm c)
    rw [this]
    exact O.un j hj' hn'
theorem written_ge : ∀ (ws : List (Nat × Nat)) (l : List Nat), (∀ p ∈ ws, 1 ≤ p.1) → (written l ws).getD 0 0 = l.getD 0 0
  | [], _, _ => rfl
  | p :: ws, l, h => by
    have h1 := h p List.mem_cons_self
    show (written (l.set p.1 p.2) ws).getD 0 0 = l.getD 0 0
    rw [written_ge ws _ fun q hq => h q (List.mem_cons_of_mem _ hq), getD_set_ne (show p.1 ≠ 0 by omega)]
theorem written_length : ∀ (ws : List (Nat × Nat)) (l : List Nat), (written l ws).length = l.length
  | [], _ => rfl
  | p :: ws, l => by
    show (written (l.set p.1 p.2) ws).length = l.length
    rw [written_length ws, List.length_set]
theorem written_lt : ∀ (ws : List (Nat × Nat)) (l : List Nat), (∀ p ∈ ws, p.2 < 256) → (∀ b ∈ l, b < 256) → ∀ b ∈ written l ws, b < 256
  | [], _, _, h => h
  | p :: ws, l, h1, h2 => by
    show ∀ b ∈ written (l.set p.1 p.2) ws, b < 256
    refine written_lt ws _ (fun q hq => h1 q (List.mem_cons_of_mem _ hq)) fun b hb => ?_
    rcases List.mem_or_eq_of_mem_set hb with hb | hb
    · exact h2 b hb
    · rw [hb]; exact h1 p List.mem_cons_self
def middle (l : List Nat) : List (Nat × Nat) := ((List.range l.length).zip l).map fun (p : Nat × Nat) => (p.1 + 1, p.2)
theorem writes_eq (l : List Nat) : writes l = (0, 0) :: (middle l ++ [(0, DONE)]) := rfl
theorem middle_ge (l : List Nat) : ∀ p ∈ middle l, 1 ≤ p.1 := fun p hp => by
  obtain ⟨q, _, e⟩ := List.mem_map.mp hp
  rw [← e]; exact Nat.succ_le_succ (Nat.zero_le _)
theorem middle_length (l : List Nat) : (middle l).length = l.length := by
  unfold middle
  rw [List.length_map, List.length_zip, List.length_range, Nat.min_self]
theorem writes_length (l : List Nat) : (writes l).length = l.length + 2 := by
  rw [writes_eq, List.length_cons, List.length_append, middle_length]; rfl
theorem writes_lt {l : List Nat} (h : ∀ b ∈ l, b < 256) : ∀ p ∈ writes l, p.2 < 256 := fun p hp => by
  rw [writes_eq] at hp
  rcases List.mem_cons.mp hp with rfl | hp
  · decide
  · rcases List.mem_append.mp hp with hp | hp
    · obtain ⟨q, hq, e⟩ := List.mem_map.mp hp
      rw [← e]
      exact h _ (List.of_mem_zip hq).2
    · rw [List.mem_singleton.mp hp]; decide
/-- enumerated items written behind a first part -/
theorem written_enum : ∀ (l a b : List Nat), b.length = l.length → written (a ++ b) (((List.range' a.length l.length).zip l)) = a ++ l
  | [], a, b, h => by
    have : b = [] := List.length_eq_zero_iff.mp h
    rw [this]; rfl
  | x :: l, a, [], h => by simp at h
  | x :: l, a, y :: b, h => by
    rw [List.length_cons, List.range'_succ, List.zip_cons_cons]
    show written ((a ++ y :: b).set a.length x) _ = _
    have e : (a ++ y :: b).set a.length x = (a ++ [x]) ++ b := by
      rw [List.set_append_right _ _ (Nat.le_refl _), Nat.sub_self]
      simp
    have ih := written_enum l (a ++ [x]) b (by simpa using h)
    rw [List.length_append] at ih
    rw [e, show a.length + 1 = a.length + [x].length from rfl, ih]
    simp
theorem middle_range (l : List Nat) : middle l = (List.range' 1 l.length).zip l := by
  unfold middle
  have e : List.range' 1 l.length = (List.range' 0 l.length).map (1 + ·) := (List.map_add_range' (a := 1) (s := 0) (n := l.length) (step := 1)).symm
  rw [List.range_eq_range', e, List.zip_map_left]
  refine List.map_congr_left fun p _ => ?_
  show (p.1 + 1, p.2) = (1 + p.1, p.2)
  rw [Nat.add_comm]
theorem written_app : ∀ (a b : List (Nat × Nat)) (l : List Nat), written l (a ++ b) = written (written l a) b := fun a b l => by
  unfold written; rw [List.foldl_append]
theorem written_all {l fr : List Nat} (h : l.length = fr.length + 1) : written l (writes fr) = DONE :: fr := by
  cases l with
  | nil => simp at h
  | cons d r =>
    rw [writes_eq]
    show written (0 :: r) (middle fr ++ [(0, DONE)]) = _
    rw [written_app, middle_range]
    have := written_enum fr [0] r (by simpa using h)
    have e : written (0 :: r) ((List.range' 1 fr.length).zip fr) = [0] ++ fr := this
    rw [e]
    rfl
theorem written_part {l fr : List Nat} {k : Nat} (h : l.length = fr.length + 1) (h1 : 1 ≤ k) (h2 : k < fr.length + 2) : (written l ((writes fr).take k)).getD 0 0 = 0 := by
  obtain ⟨m, rfl⟩ : ∃ m, k = m + 1 := ⟨k - 1, by omega⟩
  rw [writes_eq, List.take_succ_cons, List.take_append_of_le_length (by rw [middle_length]; omega)]
  show (written (l.set 0 0) ((middle fr).take m)).getD 0 0 = 0
  rw [written_ge _ _ fun p hp => middle_ge fr p (List.mem_of_mem_take hp), getD_set_eq (by omega)]
end FrM
namespace FrM
open Vbaval

theorem good_irr {s t : St} {i : Nat} (h1 : t.slots = s.slots) (h2 : t.len = s.len) : good t i = good s i := by
  unfold good slotOf
  rw [h1, h2]
theorem Ok.plain {s t : St} (O : Ok s) (h1 : t.slots = s.slots) (h2 : t.len = s.len) (h3 : t.hurt = s.hurt) (h4 : t.laid = s.laid) (h5 : t.first = s.first) (h6 : t.params = s.params)
    (h7 : s.first ≤ t.next ∧ t.next ≤ 65536) (h8 : ∀ k, t.fuse = some k → k ≤ 1000) : Ok t := by
  refine ⟨by rw [h4]; exact O.laid, by rw [h2]; exact O.len, by rw [h5]; exact O.first, by rw [h1]; exact O.ns, by rw [h1, h2]; exact O.slen, by rw [h1]; exact O.sby, by rw [h5]; exact h7, h8, by rw [h6]; exact O.par, by rw [h6]; exact O.plen, by rw [h2, h6]; exact O.fits, fun i hi => ?_, fun i hi hn => ?_⟩
  · rw [good_irr h1 h2]; rw [h3] at hi; exact O.bad i hi
  · rw [good_irr h1 h2, h5]
    rw [h1] at hi
    rw [h3] at hn
    have : slotOf t i = slotOf s i := by unfold slotOf; rw [h1]
    rw [this]
    exact O.un i hi hn
theorem Ok.cut {s : St} (O : Ok s) {k : Nat} (h : k ≤ 1000) : Ok { s with fuse := some k } :=
  O.plain rfl rfl rfl rfl rfl rfl O.next fun k' e => by cases e; exact h
theorem Ok.restart {s : St} (O : Ok s) : Ok { s with next := found s, fuse := none } :=
  O.plain rfl rfl rfl rfl rfl rfl O.found_le fun k' e => by cases e
/-- a slot written on -/
theorem Ok.slot {s : St} (O : Ok s) {i : Nat} {v : List Nat} (hi : i < s.slots.length) (hl : v.length = s.len + 7) (hb : ∀ b ∈ v, b < 256)
    (hv : v.getD 0 0 = 0 ∨ ∃ n l, v = DONE :: l ∧ rightFrame s.len l = some n ∧ n % s.slots.length = i ∧ s.first ≤ n) :
    Ok { s with slots := s.slots.set i v, hurt := s.hurt.filter fun x => x != i } := by
  have other : ∀ j, j ≠ i → good { s with slots := s.slots.set i v, hurt := s.hurt.filter fun x => x != i } j = good s j := fun j hj =>
    good_congr (slotOf_set_ne (Ne.symm hj)) rfl (List.length_set ..)
  refine ⟨O.laid, O.len, O.first, ?_, ?_, ?_, O.next, O.fuse, O.par, O.plen, O.fits, ?_, ?_⟩
  · show 2 ≤ (s.slots.set i v).length ∧ (s.slots.set i v).length ≤ 16
    rw [List.length_set]; exact O.ns
  · intro l h
    rcases List.mem_or_eq_of_mem_set h with h | h
    · exact O.slen l h
    · rw [h]; exact hl
  · intro l h
    rcases List.mem_or_eq_of_mem_set h with h | h
    · exact O.sby l h
    · rw [h]; exact hb
  · intro j hj
    obtain ⟨h1, h2⟩ := List.mem_filter.mp hj
    have c : j ≠ i := by simpa using h2
    rw [other j c]
    exact O.bad j h1
  · intro j hj hn
    have hj' : j < s.slots.length := by
      have : j < (s.slots.set i v).length := hj
      rwa [List.length_set] at this
    by_cases c : j = i
    · subst c
      have e : slotOf { s with slots := s.slots.set j v, hurt := s.hurt.filter fun x => x != j } j = v := slotOf_set_eq hi
      rcases hv with z | ⟨n, l, e1, e2, e3, e4⟩
      · exact .inl (by rw [e]; exact z)
      · refine .inr ⟨n, good_iff.mpr ⟨l, by rw [e]; exact e1, e2, ?_⟩, e4⟩
        show n % (s.slots.set j v).length = j
        rw [List.length_set]; exact e3
    · have hn' : j ∉ s.hurt := fun e => hn (List.mem_filter.mpr ⟨e, by simpa using c⟩)
      rw [other j c]
      have : slotOf { s with slots := s.slots.set i v, hurt := s.hurt.filter fun x => x != i } j = slotOf s j := slotOf_set_ne (Ne.symm c)
      rw [this]
      exact O.un j hj' hn'
/-- how many bytes are written -/
def ration (s : St) : Nat := match s.fuse with
  | none => s.len + 8
  | some k => k
def frameAt (s : St) (vs : List Nat) : List Nat := frameOf s.len s.params s.next vs
def slotAt (s : St) : Nat := s.next % s.slots.length
/-- the ring behind a record, but for the next number -/
def wrote (s : St) (vs : List Nat) : St := { s with
  slots := s.slots.set (slotAt s) (written (slotOf s (slotAt s)) ((writes (frameAt s vs)).take (ration s)))
  fuse := none
  hurt := if ration s = 0 then s.hurt else s.hurt.filter fun x => x != slotAt s }
theorem frameAt_length (s : St) (vs : List Nat) : (frameAt s vs).length = s.len + 6 := frameOf_length ..
theorem writesAt_length (s : St) (vs : List Nat) : (writes (frameAt s vs)).length = s.len + 8 := by rw [writes_length, frameAt_length]
theorem recorded_eq (s : St) (vs : List Nat) : recorded s vs = if s.len + 8 ≤ ration s then ({ wrote s vs with next := s.next + 1, done := s.done + 1 }, true) else ({ wrote s vs with next := found (wrote s vs), cuts := s.cuts + 1 }, false) := by
  have hw := writesAt_length s vs
  have e2 : ((writes (frameAt s vs)).take (ration s)).isEmpty = true ↔ ration s = 0 := by
    rw [List.isEmpty_iff, List.take_eq_nil_iff]
    constructor
    · rintro (h | h)
      · exact h
      · rw [h] at hw; simp at hw
    · exact .inl
  have e3 : ((writes (frameAt s vs)).take (ration s)).length = (writes (frameAt s vs)).length ↔ s.len + 8 ≤ ration s := by
    rw [List.length_take, hw]; omega
  have main : ∀ ws, ws = (writes (frameAt s vs)).take (ration s) → (
      let t : St := { s with
        slots := s.slots.set (slotAt s) (written (slotOf s (slotAt s)) ws)
        fuse := none
        hurt := if ws.isEmpty = true then s.hurt else s.hurt.filter fun x => x != slotAt s }
      if ws.length = (writes (frameAt s vs)).length then ({ t with next := s.next + 1, done := s.done + 1 }, true) else ({ t with next := found t, cuts := s.cuts + 1 }, false)) =
      if s.len + 8 ≤ ration s then ({ wrote s vs with next := s.next + 1, done := s.done + 1 }, true) else ({ wrote s vs with next := found (wrote s vs), cuts := s.cuts + 1 }, false) := by
    intro ws e
    subst e
    dsimp only
    unfold wrote
    simp only [e2, e3]
  refine main _ ?_
  unfold ration frameAt
  cases hf : s.fuse with
  | none => dsimp only; rw [List.take_of_length_le]; rw [writes_length, frameOf_length]; omega
  | some k => rfl
theorem Ok.at_lt {s : St} (O : Ok s) : slotAt s < s.slots.length := Nat.mod_lt _ (by have := O.ns; omega)
theorem Ok.wrote {s : St} (O : Ok s) (hn : s.next ≤ 65535) (vs : List Nat) : Ok (wrote s vs) := by
  have hi := O.at_lt
  have hm := slot_mem hi
  have hl := O.slen _ hm
  have hlf : (slotOf s (slotAt s)).length = (frameAt s vs).length + 1 := by rw [hl, frameAt_length]
  have hlt : ∀ p ∈ writes (frameAt s vs), p.2 < 256 := writes_lt (frameOf_lt _ _ _ _)
  have hB : ∀ b ∈ written (slotOf s (slotAt s)) ((writes (frameAt s vs)).take (ration s)), b < 256 :=
    written_lt _ _ (fun p hp => hlt p (List.mem_of_mem_take hp)) (O.sby _ hm)
  have hL : (written (slotOf s (slotAt s)) ((writes (frameAt s vs)).take (ration s))).length = s.len + 7 := by rw [written_length, hl]
  unfold FrM.wrote
  by_cases h0 : ration s = 0
  · rw [if_pos h0, h0]
    have e : s.slots.set (slotAt s) (written (slotOf s (slotAt s)) ((writes (frameAt s vs)).take 0)) = s.slots := by
      show s.slots.set (slotAt s) (slotOf s (slotAt s)) = s.slots
      apply List.ext_getElem? 
      intro j
      by_cases c : slotAt s = j
      · subst c
        rw [List.getElem?_set_self hi, slot_some hi]
      · rw [List.getElem?_set_ne c]
    rw [e]
    exact O.plain rfl rfl rfl rfl rfl rfl O.next fun _ e => by cases e
  · rw [if_neg h0]
    have hv : (written (slotOf s (slotAt s)) ((writes (frameAt s vs)).take (ration s))).getD 0 0 = 0 ∨
        ∃ n l, written (slotOf s (slotAt s)) ((writes (frameAt s vs)).take (ration s)) = DONE :: l ∧ rightFrame s.len l = some n ∧ n % s.slots.length = slotAt s ∧ s.first ≤ n := by
      by_cases hk : ration s < s.len + 8
      · exact .inl (written_part hlf (by omega) (by rw [frameAt_length]; omega))
      · refine .inr ⟨s.next, frameAt s vs, ?_, frameOf_right O.len.2 hn, rfl, O.next.1⟩
        rw [List.take_of_length_le (by rw [writesAt_length]; omega)]
        exact written_all hlf
    exact (O.slot hi hL hB hv).plain rfl rfl rfl rfl rfl rfl O.next fun _ e => by cases e
theorem Ok.recorded {s : St} (O : Ok s) (hn : s.next ≤ 65535) (vs : List Nat) : Ok (recorded s vs).1 := by
  have W := O.wrote hn vs
  rw [recorded_eq]
  have h1 := O.next
  split
  · exact W.plain rfl rfl rfl rfl rfl rfl ⟨Nat.le_trans h1.1 (Nat.le_succ _), Nat.succ_le_succ hn⟩ fun _ e => by cases e
  · exact W.plain rfl rfl rfl rfl rfl rfl W.found_le fun _ e => by cases e
theorem inFrame_mod {ps : List Param} (h : ∀ p ∈ ps, ParOk p) (n : Nat) : inFrame ps n = inFrame ps (n % 16) := by
  unfold inFrame
  refine List.filter_congr fun i hi => ?_
  have hi' : i < ps.length := List.mem_range.mp hi
  have hp : ParOk (ps.getD i ⟨1, 1, 0⟩) := by
    rw [List.getD_eq_getElem?_getD, List.getElem?_eq_getElem hi']
    exact h _ (List.getElem_mem hi')
  have e : n % (ps.getD i ⟨1, 1, 0⟩).period = n % 16 % (ps.getD i ⟨1, 1, 0⟩).period := by
    rcases hp.per with e | e | e | e | e <;> rw [e] <;> omega
  rw [e]
theorem widthsOf_fit {len : Nat} {ps : List Param} (h : ∀ p ∈ ps, ParOk p) (hf : fitsIn len ps = true) (n : Nat) : (widthsOf ps n).sum ≤ 8 * len := by
  unfold fitsIn at hf
  rw [List.all_eq_true] at hf
  have := hf (n % 16) (List.mem_range.mpr (Nat.mod_lt _ (by decide)))
  have e : widthsOf ps n = widthsOf ps (n % 16) := by unfold widthsOf; rw [inFrame_mod h]
  rw [e, ← sum_eq]
  exact of_decide_eq_true this
/-- the widths as the program finds them: the parameters walked in order -/
theorem widthsOf_eq (ps : List Param) (n : Nat) : widthsOf ps n = (ps.filter fun p => n % p.period == p.phase).map (·.width) := by
  have key : ∀ (qs : List Param) (k : Nat) (all : List Param), (∀ i, i < qs.length → all.getD (k + i) ⟨1, 1, 0⟩ = qs.getD i ⟨1, 1, 0⟩) →
      ((List.range' k qs.length).filter fun i => n % (all.getD i ⟨1, 1, 0⟩).period == (all.getD i ⟨1, 1, 0⟩).phase).map (fun i => (all.getD i ⟨1, 1, 0⟩).width) = (qs.filter fun p => n % p.period == p.phase).map (·.width) := by
    intro qs
    induction qs with
    | nil => intro k all _; rfl
    | cons q qs ih =>
      intro k all h
      have h0 : all.getD k ⟨1, 1, 0⟩ = q := by simpa using h 0 (by simp)
      have ih' := ih (k + 1) all fun i hi => by
        have := h (i + 1) (by simpa using hi)
        rw [show k + 1 + i = k + (i + 1) by omega, this]
        rfl
      rw [List.length_cons, List.range'_succ, List.filter_cons, List.filter_cons, h0]
      split
      · rw [List.map_cons, List.map_cons, ih', h0]
      · exact ih'
  have := key ps 0 ps fun i hi => by rw [Nat.zero_add]
  rw [← List.range_eq_range'] at this
  exact this
theorem insert_perm (x : Told) : ∀ (l : List Told), (insertTold x l).Perm (x :: l)
  | [] => List.Perm.refl _
  | y :: l => by
    unfold insertTold
    split
    · exact List.Perm.refl _
    · exact ((insert_perm x l).cons y).trans (List.Perm.swap x y l)
theorem insert_sorted (x : Told) : ∀ (l : List Told), l.Pairwise (fun a b => a.number ≤ b.number) → (insertTold x l).Pairwise (fun a b => a.number ≤ b.number)
  | [], _ => by unfold insertTold; simp
  | y :: l, h => by
    obtain ⟨h1, h2⟩ := List.pairwise_cons.mp h
    unfold insertTold
    split
    · rename_i c
      refine List.pairwise_cons.mpr ⟨fun z hz => ?_, h⟩
      rcases List.mem_cons.mp hz with rfl | hz
      · exact c
      · exact Nat.le_trans c (h1 z hz)
    · rename_i c
      refine List.pairwise_cons.mpr ⟨fun z hz => ?_, insert_sorted x l h2⟩
      rcases List.mem_cons.mp ((insert_perm x l).mem_iff.mp hz) with rfl | hz
      · omega
      · exact h1 z hz
theorem foldInsert : ∀ (l acc : List Told), acc.Pairwise (fun a b => a.number ≤ b.number) → (l.foldl (fun l x => insertTold x l) acc).Perm (l ++ acc) ∧ (l.foldl (fun l x => insertTold x l) acc).Pairwise (fun a b => a.number ≤ b.number)
  | [], acc, h => ⟨List.Perm.refl _, h⟩
  | x :: l, acc, h => by
    obtain ⟨h1, h2⟩ := foldInsert l (insertTold x acc) (insert_sorted x acc h)
    refine ⟨h1.trans ?_, h2⟩
    refine ((insert_perm x acc).append_left l).trans ?_
    exact List.perm_middle
/-- whatever is sorted by numbers and has what the good slots tell is what is read out -/
theorem readOut_unique {s : St} {ts : List Told} (hp : ts.Perm ((List.range s.slots.length).filterMap (tellSlot s))) (hs : ts.Pairwise (fun a b => a.number ≤ b.number)) : readOut s = ts := by
  obtain ⟨h1, h2⟩ := foldInsert ((List.range s.slots.length).filterMap (tellSlot s)) [] List.Pairwise.nil
  rw [List.append_nil] at h1
  have inj : ∀ a b, a ∈ (List.range s.slots.length).filterMap (tellSlot s) → b ∈ (List.range s.slots.length).filterMap (tellSlot s) → a.number = b.number → a = b := by
    have shape : ∀ a, a ∈ (List.range s.slots.length).filterMap (tellSlot s) → tellSlot s (a.number % s.slots.length) = some a := fun a ha => by
      obtain ⟨i, _, e⟩ := List.mem_filterMap.mp ha
      unfold tellSlot at e
      cases g : good s i with
      | none => rw [g] at e; cases e
      | some n =>
        rw [g] at e
        have e' := Option.some.inj e
        obtain ⟨_, _, _, hi⟩ := good_iff.mp g
        have hn : a.number = n := by rw [← e']
        unfold tellSlot
        rw [hn, hi, g]
        exact congrArg some e'
    intro a b ha hb e
    have h1 := shape a ha
    have h2 := shape b hb
    rw [e, h2] at h1
    exact (Option.some.inj h1).symm
  refine List.Perm.eq_of_pairwise (le := fun a b => a.number ≤ b.number) (fun a b ha hb h1' h2' => ?_) h2 hs (h1.trans hp.symm)
  exact inj a b (h1.mem_iff.mp ha) (hp.mem_iff.mp hb) (Nat.le_antisymm h1' h2')
end FrM
namespace FrM
open Vbaval

theorem whole_eq (c : List (List Int)) : PyVbaval.whole c = c := by
  unfold PyVbaval.whole
  split <;> rfl
theorem map_whole (cs : List (List (List Int))) : cs.map PyVbaval.whole = cs := by
  rw [show PyVbaval.whole = id from funext whole_eq, List.map_id]
theorem row_iff {r x t : List Int} (h : PyFlat.row r = some (x, t)) : ∃ (m : Nat) (q : List Int), r = (m : Int) :: q ∧ m ≤ q.length ∧ x = q.take m ∧ t = q.drop m := by
  cases r with
  | nil => cases h
  | cons n q =>
    have h' : (if 0 ≤ n ∧ n.toNat ≤ q.length then some (q.take n.toNat, q.drop n.toNat) else none) = some (x, t) := h
    by_cases c : 0 ≤ n ∧ n.toNat ≤ q.length
    · rw [if_pos c] at h'
      cases h'
      exact ⟨n.toNat, q, by rw [Int.toNat_of_nonneg c.1], c.2, rfl, rfl⟩
    · rw [if_neg c] at h'
      cases h'
theorem ite_some {c : Prop} [Decidable c] {a r : Nat × Nat} {x : Option (Nat × Nat)} (h : (if c then some a else x) = some r) : (c ∧ a = r) ∨ x = some r := by
  by_cases q : c
  · rw [if_pos q] at h; exact .inl ⟨q, Option.some.inj h⟩
  · rw [if_neg q] at h; exact .inr h
def shapes : List (Int × Nat × Nat) := [(0, 3, 1), (1, 0, 1), (2, 1, 0), (3, 3, 0), (4, 0, 0), (5, 0, 0), (6, 1, 0), (7, 0, 0), (8, 3, 0), (9, 0, 1), (10, 0, 0), (11, 0, 0)]
theorem shape_mem {p : Int} {a : Nat × Nat} (h : PyVbaval.shape p = some a) : (p, a) ∈ shapes := by
  unfold PyVbaval.shape at h
  rcases ite_some h with ⟨rfl, rfl⟩ | h
  · decide
  rcases ite_some h with ⟨rfl, rfl⟩ | h
  · decide
  rcases ite_some h with ⟨rfl, rfl⟩ | h
  · decide
  rcases ite_some h with ⟨rfl, rfl⟩ | h
  · decide
  rcases ite_some h with ⟨rfl, rfl⟩ | h
  · decide
  rcases ite_some h with ⟨rfl, rfl⟩ | h
  · decide
  rcases ite_some h with ⟨rfl, rfl⟩ | h
  · decide
  rcases ite_some h with ⟨rfl, rfl⟩ | h
  · decide
  rcases ite_some h with ⟨rfl, rfl⟩ | h
  · decide
  rcases ite_some h with ⟨rfl, rfl⟩ | h
  · decide
  rcases ite_some h with ⟨rfl, rfl⟩ | h
  · decide
  rcases ite_some h with ⟨rfl, rfl⟩ | h
  · decide
  cases h
theorem shape_rows {p : Int} {n k : Nat} (h : PyVbaval.shape p = some (n, k)) : k = 0 ∨ k = 1 := by
  have := shape_mem h
  have all : ∀ x ∈ shapes, x.2.2 = 0 ∨ x.2.2 = 1 := by decide
  exact all _ this
theorem call_iff {p : Int} {r t : List Int} {c : List (List Int)} (h : PyFlat.call PyVbaval.shape (p :: r) = some (c, t)) :
    ∃ n k, PyVbaval.shape p = some (n, k) ∧ n ≤ r.length ∧ ((k = 0 ∧ c = [p :: r.take n] ∧ t = r.drop n) ∨ (k = 1 ∧ ∃ (m : Nat) (q : List Int), r.drop n = (m : Int) :: q ∧ m ≤ q.length ∧ c = [p :: r.take n, q.take m] ∧ t = q.drop m)) := by
  unfold PyFlat.call at h
  dsimp only at h
  split at h
  · cases h
  · rename_i n k e
    refine ⟨n, k, e, ?_⟩
    split at h
    · cases h
    · rename_i hn
      refine ⟨by omega, ?_⟩
      have hk : k = 0 ∨ k = 1 := shape_rows e
      rcases hk with rfl | rfl
      · have h' : some ([p :: r.take n], r.drop n) = some (c, t) := h
        cases h'
        exact .inl ⟨rfl, rfl, rfl⟩
      · refine .inr ⟨rfl, ?_⟩
        unfold PyFlat.rows at h
        cases e2 : PyFlat.row (r.drop n) with
        | none => rw [e2] at h; cases h
        | some xt =>
          obtain ⟨x, u⟩ := xt
          rw [e2] at h
          have h' : some ([p :: r.take n, x], u) = some (c, t) := h
          cases h'
          obtain ⟨m, q, e3, e4, e5, e6⟩ := row_iff e2
          exact ⟨m, q, e3, e4, by rw [e5], e6⟩
theorem calls_step {f : Nat} {p : Int} {r : List Int} {cs : List (List (List Int))} (h : PyFlat.calls PyVbaval.shape f (p :: r) = some cs) :
    ∃ f' c t cs', f = f' + 1 ∧ PyFlat.call PyVbaval.shape (p :: r) = some (c, t) ∧ PyFlat.calls PyVbaval.shape f' t = some cs' ∧ cs = c :: cs' := by
  cases f with
  | zero => cases h
  | succ f =>
    unfold PyFlat.calls at h
    cases e : PyFlat.call PyVbaval.shape (p :: r) with
    | none => rw [e] at h; cases h
    | some ct =>
      obtain ⟨c, t⟩ := ct
      rw [e] at h
      dsimp only at h
      cases e2 : PyFlat.calls PyVbaval.shape f t with
      | none => rw [e2] at h; cases h
      | some cs' =>
        rw [e2] at h
        cases h
        exact ⟨f, c, t, cs', rfl, rfl, e2, rfl⟩
theorem calls_nil {f : Nat} {cs : List (List (List Int))} (h : PyFlat.calls PyVbaval.shape f [] = some cs) : cs = [] := by
  cases f <;> (cases h; rfl)
def played (s : St) (cs : List (List (List Int))) : List Int := PyFlat.told (PyFlat.played VbavalNeutral.step s cs)
theorem played_nil (s : St) : played s [] = [] := rfl
theorem played_cons (s : St) (c : List (List Int)) (cs : List (List (List Int))) : played s (c :: cs) = (((stepRows s c).2.length : Int) :: (stepRows s c).2) ++ played (stepRows s c).1 cs := rfl
theorem answers_eq {l : List Int} {cs : List (List (List Int))} (h : PyFlat.calls PyVbaval.shape l.length l = some cs) : PyVbaval.answers l = played Vbaval.start cs := by
  unfold PyVbaval.answers PyVbaval.calls
  rw [h]
  dsimp only
  rw [map_whole]
  rfl
theorem asked_iff {l : List Int} (h : PyVbaval.answers_asked l = true) : ∃ cs, PyFlat.calls PyVbaval.shape l.length l = some cs ∧ cs.length ≤ 400 ∧ (∀ c ∈ cs, VbavalNeutral.asked1 c = true) ∧ (PyVbaval.answers l).length ≤ 10000000 := by
  unfold PyVbaval.answers_asked at h
  cases e : PyFlat.calls PyVbaval.shape l.length l with
  | none => rw [e] at h; cases h
  | some cs =>
    rw [e] at h
    simp only [Bool.and_eq_true] at h
    obtain ⟨⟨⟨⟨_, h2⟩, _⟩, h4⟩, h5⟩ := h
    rw [map_whole] at h4
    unfold VbavalNeutral.asked at h4
    rw [Bool.and_eq_true, List.all_eq_true] at h4
    exact ⟨cs, rfl, of_decide_eq_true h2, h4.1, of_decide_eq_true h5⟩
def okAt (l : List Int) (i : Nat) : Bool := within (l.getD (3 * i) 0) 1 16 && ([1, 2, 4, 8, 16].contains (l.getD (3 * i + 1) 0) && within (l.getD (3 * i + 2) 0) 0 (l.getD (3 * i + 1) 0 - 1))
def parAt (l : List Int) (i : Nat) : Param := ⟨(l.getD (3 * i) 0).toNat, (l.getD (3 * i + 1) 0).toNat, (l.getD (3 * i + 2) 0).toNat⟩
theorem okAt_cons (w p f : Int) (l : List Int) (i : Nat) : okAt (w :: p :: f :: l) (i + 1) = okAt l i := rfl
theorem parAt_cons (w p f : Int) (l : List Int) (i : Nat) : parAt (w :: p :: f :: l) (i + 1) = parAt l i := rfl
theorem paramsOf_eq : ∀ (m : Nat) (l : List Int), l.length = 3 * m → paramsOf l = if (List.range m).all (okAt l) = true then some ((List.range m).map (parAt l)) else none
  | 0, l, h => by
    have : l = [] := List.length_eq_zero_iff.mp h
    subst this
    rfl
  | m + 1, [], h => by rw [List.length_nil] at h; omega
  | m + 1, [_], h => by rw [List.length_singleton] at h; omega
  | m + 1, [_, _], h => by rw [show ([_, _] : List Int).length = 2 from rfl] at h; omega
  | m + 1, w :: p :: f :: l, h => by
    have ih := paramsOf_eq m l (by simp at h; omega)
    unfold paramsOf
    rw [List.range_succ_eq_map, List.all_cons, List.all_map, List.map_cons, List.map_map]
    have e1 : (okAt (w :: p :: f :: l) ∘ Nat.succ) = okAt l := funext fun i => okAt_cons w p f l i
    have e2 : (parAt (w :: p :: f :: l) ∘ Nat.succ) = parAt l := funext fun i => parAt_cons w p f l i
    have e3 : okAt (w :: p :: f :: l) 0 = (within w 1 16 && ([1, 2, 4, 8, 16].contains p && within f 0 (p - 1))) := rfl
    rw [e1, e2, e3, ih]
    by_cases c : (within w 1 16 && ([1, 2, 4, 8, 16].contains p && within f 0 (p - 1))) = true
    · rw [if_pos c, c, Bool.true_and]
      split <;> rfl
    · rw [if_neg c, Bool.not_eq_true] at *
      rw [c, Bool.false_and, if_neg (by decide)]
theorem paramsOf_odd : ∀ (l : List Int), l.length % 3 ≠ 0 → paramsOf l = none
  | [], h => absurd rfl h
  | [_], _ => rfl
  | [_, _], _ => rfl
  | w :: p :: f :: l, h => by
    have ih := paramsOf_odd l (by simp at h; omega)
    unfold paramsOf
    rw [ih]
    split <;> rfl
theorem within_iff {n lo hi : Int} : within n lo hi = true ↔ lo ≤ n ∧ n ≤ hi := by
  unfold within
  rw [Bool.and_eq_true, decide_eq_true_iff, decide_eq_true_iff]
theorem okAt_iff {l : List Int} {i : Nat} : okAt l i = true ↔ (1 ≤ l.getD (3 * i) 0 ∧ l.getD (3 * i) 0 ≤ 16) ∧ (l.getD (3 * i + 1) 0 = 1 ∨ l.getD (3 * i + 1) 0 = 2 ∨ l.getD (3 * i + 1) 0 = 4 ∨ l.getD (3 * i + 1) 0 = 8 ∨ l.getD (3 * i + 1) 0 = 16) ∧ 0 ≤ l.getD (3 * i + 2) 0 ∧ l.getD (3 * i + 2) 0 < l.getD (3 * i + 1) 0 := by
  unfold okAt
  rw [Bool.and_eq_true, Bool.and_eq_true, within_iff, within_iff, List.contains_iff_mem]
  simp only [List.mem_cons, List.not_mem_nil, or_false]
  constructor
  · rintro ⟨h1, h2, h3, h4⟩; exact ⟨h1, h2, h3, by omega⟩
  · rintro ⟨h1, h2, h3, h4⟩; exact ⟨h1, h2, h3, by omega⟩
theorem parAt_ok {l : List Int} {i : Nat} (h : okAt l i = true) : ParOk (parAt l i) := by
  obtain ⟨h1, h2, h3, h4⟩ := okAt_iff.mp h
  refine ⟨?_, ?_, ?_⟩
  · show 1 ≤ (l.getD (3 * i) 0).toNat ∧ (l.getD (3 * i) 0).toNat ≤ 16
    omega
  · show (l.getD (3 * i + 1) 0).toNat = 1 ∨ (l.getD (3 * i + 1) 0).toNat = 2 ∨ (l.getD (3 * i + 1) 0).toNat = 4 ∨ (l.getD (3 * i + 1) 0).toNat = 8 ∨ (l.getD (3 * i + 1) 0).toNat = 16
    omega
  · show (l.getD (3 * i + 2) 0).toNat < (l.getD (3 * i + 1) 0).toNat
    omega
/-- the state behind a lay -/
def laidSt (slots len first : Nat) (ps : List Param) : St := ⟨true, len, first, ps, List.replicate slots (List.replicate (len + 7) 0), first, none, [], 0, 0, 0⟩
theorem laid_ok {slots len first : Nat} {ps : List Param} (h1 : 2 ≤ slots ∧ slots ≤ 16) (h2 : 1 ≤ len ∧ len ≤ 16) (h3 : first ≤ 65535) (h4 : ∀ p ∈ ps, ParOk p) (h5 : ps.length ≤ 12) (h6 : fitsIn len ps = true) : Ok (laidSt slots len first ps) := by
  refine ⟨rfl, h2, h3, ?_, ?_, ?_, ⟨Nat.le_refl _, ?_⟩, (fun _ e => nomatch e), h4, h5, h6, (fun _ e => nomatch e), ?_⟩
  · show 2 ≤ (List.replicate slots _).length ∧ (List.replicate slots _).length ≤ 16
    rw [List.length_replicate]; exact h1
  · intro l hl
    rw [(List.mem_replicate.mp hl).2, List.length_replicate]; rfl
  · intro l hl b hb
    rw [(List.mem_replicate.mp hl).2] at hb
    rw [(List.mem_replicate.mp hb).2]; decide
  · show first ≤ 65536
    omega
  · intro i hi _
    left
    have hi' : i < slots := by simpa [laidSt] using hi
    show ((List.replicate slots (List.replicate (len + 7) 0)).getD i []).getD 0 0 = 0
    have e : (List.replicate slots (List.replicate (len + 7) 0)).getD i [] = List.replicate (len + 7) 0 := by
      rw [List.getD_eq_getElem?_getD, List.getElem?_replicate_of_lt hi']; rfl
    rw [e]
    rfl
end FrM
namespace FrM
open Vbaval PySem PyProof.Rows
theorem pow_cast (w : Nat) : ((2 ^ w : Nat) : Int) = (2 : Int) ^ w := by rw [Int.natCast_pow]; rfl
theorem and_mask (x w : Nat) : Builtin.bitAnd (x : Int) ((2 ^ w : Nat) - 1 : Int) = ((x % 2 ^ w : Nat) : Int) := by
  have hp := pow_pos2 w
  have e : (((2 ^ w : Nat) : Int) - 1) = ((2 ^ w - 1 : Nat) : Int) := by omega
  rw [e, bitAnd_pp (Int.natCast_nonneg _) (Int.natCast_nonneg _), Int.toNat_natCast, Int.toNat_natCast, Nat.and_two_pow_sub_one_eq_mod]
theorem or_add {a v w : Nat} (hv : v < 2 ^ w) : Builtin.bitOr ((a * 2 ^ w : Nat) : Int) (v : Int) = ((a * 2 ^ w + v : Nat) : Int) := by
  have h0 : (a * 2 ^ w) &&& v = 0 := by
    have h1 : (a * 2 ^ w) &&& v = (a * 2 ^ w) &&& (v % 2 ^ w) := by rw [Nat.mod_eq_of_lt hv]
    rw [Nat.and_comm, ← Nat.mod_eq_of_lt hv, ← Nat.and_two_pow_sub_one_eq_mod, Nat.and_assoc, Nat.and_comm (2 ^ w - 1), Nat.and_two_pow_sub_one_eq_mod, Nat.mul_mod_left, Nat.and_zero]
  rw [bitOr_and, bitAnd_pp (Int.natCast_nonneg _) (Int.natCast_nonneg _), Int.toNat_natCast, Int.toNat_natCast, h0]
  omega
theorem and_pow (b k : Nat) : b &&& 2 ^ k = if b / 2 ^ k % 2 = 1 then 2 ^ k else 0 := by
  apply Nat.eq_of_testBit_eq
  intro i
  rw [Nat.testBit_and, Nat.testBit_two_pow]
  by_cases h : k = i
  · subst h
    rw [Nat.testBit_eq_decide_div_mod_eq]
    by_cases c : b / 2 ^ k % 2 = 1
    · rw [if_pos c, Nat.testBit_two_pow]; simp [c]
    · rw [if_neg c]; simp [c]
  · by_cases c : b / 2 ^ k % 2 = 1
    · rw [if_pos c, Nat.testBit_two_pow]; simp [h]
    · rw [if_neg c]; simp [h]
theorem xor_flip (b k : Nat) : Builtin.bitXor (b : Int) ((2 ^ k : Nat) : Int) = (flipBit b k : Int) := by
  rw [bitXor_and, bitAnd_pp (Int.natCast_nonneg _) (Int.natCast_nonneg _), Int.toNat_natCast, Int.toNat_natCast, and_pow]
  rcases flipBit_cases b k with ⟨h1, h2, e⟩ | ⟨h1, e⟩
  · rw [e, if_pos h1]
    omega
  · rw [e, if_neg (by omega)]
    omega
end FrM
namespace Fr
open PySem PySem.Spec PyProof.Rows L2

theorem _root_.L2.Same.new {H : Hp} {p : Addr} {o : HO} (h : H p = none) : Same H (upd H p o) := fun b u e => by
  rw [upd_ne (ne_of_none e h)]; exact e
theorem _root_.L2.Same.and {H H1 : Hp} {p : Addr} {o : HO} (s : Same H H1) (h : H1 p = none) : Same H (upd H1 p o) := s.trans (Same.new h)
/-- all that was tracked but p is as it was -/
def But (p : Addr) (H H' : Hp) : Prop := ∀ b o, H b = some o → b ≠ p → H' b = some o
theorem But.upd {H : Hp} {p : Addr} {o : HO} : But p H (upd H p o) := fun b u e hb => by rw [upd_ne hb]; exact e
theorem But.same {H H0 H' : Hp} {p : Addr} (s : Same H0 H) (hp : H0 p = none) (b : But p H H') : Same H0 H' := fun c o e => b c o (s c o e) (ne_of_none e hp)

def iv (l : List Int) : List V := l.map V.int
def nv (l : List Nat) : List V := l.map fun (n : Nat) => V.int (n : Int)
theorem nv_eq (l : List Nat) : nv l = iv (Vbaval.ints l) := by unfold nv iv Vbaval.ints; rw [List.map_map]; rfl
theorem nv_length (l : List Nat) : (nv l).length = l.length := List.length_map ..
theorem iv_length (l : List Int) : (iv l).length = l.length := List.length_map ..
theorem nv_get (l : List Nat) (i : Nat) : (nv l)[i]? = l[i]?.map fun (n : Nat) => V.int (n : Int) := List.getElem?_map ..
theorem iv_get (l : List Int) (i : Nat) : (iv l)[i]? = l[i]?.map V.int := List.getElem?_map ..
theorem nv_some {l : List Nat} {i : Nat} {x : V} (h : (nv l)[i]? = some x) : ∃ n, l[i]? = some n ∧ x = V.int (n : Int) := by
  rw [nv_get] at h
  cases e : l[i]? with
  | none => rw [e] at h; cases h
  | some n => rw [e] at h; exact ⟨n, rfl, (Option.some.inj h).symm⟩
theorem iv_some {l : List Int} {i : Nat} {x : V} (h : (iv l)[i]? = some x) : ∃ n, l[i]? = some n ∧ x = V.int n := by
  rw [iv_get] at h
  cases e : l[i]? with
  | none => rw [e] at h; cases h
  | some n => rw [e] at h; exact ⟨n, rfl, (Option.some.inj h).symm⟩
theorem nv_append (a b : List Nat) : nv (a ++ b) = nv a ++ nv b := List.map_append ..
theorem iv_append (a b : List Int) : iv (a ++ b) = iv a ++ iv b := List.map_append ..
theorem nv_take (l : List Nat) (n : Nat) : (nv l).take n = nv (l.take n) := by unfold nv; rw [List.map_take]
theorem nv_drop (l : List Nat) (n : Nat) : (nv l).drop n = nv (l.drop n) := by unfold nv; rw [List.map_drop]
theorem iv_take (l : List Int) (n : Nat) : (iv l).take n = iv (l.take n) := by unfold iv; rw [List.map_take]
theorem iv_drop (l : List Int) (n : Nat) : (iv l).drop n = iv (l.drop n) := by unfold iv; rw [List.map_drop]
theorem le_sum_of_mem : ∀ {l : List Nat} {x : Nat}, x ∈ l → x ≤ l.sum
  | [], _, h => nomatch h
  | y :: l, x, h => by
    rw [List.sum_cons]
    rcases List.mem_cons.mp h with rfl | h
    · omega
    · have := le_sum_of_mem h
      omega
theorem ints_sum : ∀ (l : List Nat), (Vbaval.ints l).sum = (l.sum : Nat)
  | [] => rfl
  | x :: l => by
    show ((x : Int) :: Vbaval.ints l).sum = ((x :: l).sum : Nat)
    rw [List.sum_cons, List.sum_cons, ints_sum l]; omega

/-- a def of the module, with its promise -/
def Def (P : Program) (w : World) (K : PySem.W.Frag) (mg : Str → Option Value) (base : Heap) (x : Str) (k : Nat) (ps : List Str) (sp : Sp) : Prop :=
  ∃ (f : Addr) (fd : FuncData), FnOk P w K mg base CX0 k f fd ps sp ∧ mg x = some (.ref f) ∧ PySem.W.keepIn K (.ref f) = true ∧ Binds K fd ps []
/-- a method of the class at C -/
def DefM (P : Program) (w : World) (K : PySem.W.Frag) (mg : Str → Option Value) (base : Heap) (C : Addr) (m : Str) (k : Nat) (ps : List Str) (sp : Sp) : Prop :=
  ∃ (f : Addr) (fd : FuncData), FnOk P w K mg base CX0 k f fd ps sp ∧ Meth K C m f ∧ Binds K fd ps []
/-- a class called -/
def DefC (P : Program) (w : World) (K : PySem.W.Frag) (mg : Str → Option Value) (base : Heap) (C : Addr) (x : Str) (k : Nat) (ps : List Str) (sp : Sp) : Prop :=
  ∃ (f : Addr) (fd : FuncData), FnOk P w K mg base CX0 k f fd ps sp ∧ Mk K C f ∧ mg x = some (.ref C) ∧ Binds K fd ps []
/-- a def as the text has it -/
def FunD (K : PySem.W.Frag) (mg : Str → Option Value) (x : Str) (st : Stmt) : Prop := ∃ (f : Addr) (fd : FuncData), Fun K x x st f fd ∧ mg x = some (.ref f)
def FunM (K : PySem.W.Frag) (C : Addr) (x qual : Str) (st : Stmt) : Prop := ∃ (f : Addr) (fd : FuncData), Fun K x qual st f fd ∧ Meth K C x f
def FunC (K : PySem.W.Frag) (mg : Str → Option Value) (C : Addr) (x qual : Str) (st : Stmt) : Prop := ∃ (f : Addr) (fd : FuncData), Fun K "__init__" qual st f fd ∧ Mk K C f ∧ mg x = some (.ref C)
section
variable {X : Cx} {x m : Str} {k : Nat} {C : Addr} {ps : List Str} {sp : Sp} {p pos apos : Pos} {e o : Expr} {es : List Expr} {t : TA} {ta : TE}
theorem pe_fn (D : Def X.prog X.w X.K X.mg X.base x k ps sp) (hr : Room k X.A) (hg : Gl X x) (ha : PA X (e :: es) t) (hdb : (x == ("__debug__" : Str)) = false := by decide)
    (he : starEach (e :: es) X.env = (false, eval e X.env) :: starEach es X.env := by rfl) (hpl : (backTo pos (starEach es X.env)).any (·.1) = false := by rfl) :
    PE X (.Call (.Name x p) (e :: es) [] pos) (tCall sp [] E0 t) := by
  obtain ⟨f, fd, F, hm, hk, hb⟩ := D
  exact pe_call F hr hg hm hk hb .nil pass0 ha hdb he hpl
theorem pe_mt {pl : Sem Bool} (he : PE X o ta) (c : Cls X.K C) (D : DefM X.prog X.w X.K X.mg X.base C m k ps sp) (hr : Room k X.A) (ha : PA X (e :: es) t)
    (hst : starEach (e :: es) X.env = (false, eval e X.env) :: starEach es X.env := by rfl) (hpl : (backTo pos (starEach es X.env)).any (·.1) = false := by rfl)
    (ht : eval (.Call (.Attribute o m apos) (e :: es) [] pos) X.env = (do
      let ov ← eval o X.env
      standAt apos.atName
      let (f, first) ← holding [ov] (getMethod ov m pl)
      callWith pos f first (backTo pos (starEach (e :: es) X.env)) (backToKw pos (keywordEach [] X.env))) := by rfl) :
    PE X (.Call (.Attribute o m apos) (e :: es) [] pos) (tMeth C m sp [] E0 ta t) := by
  obtain ⟨f, fd, F, hm, hb⟩ := D
  exact pe_meth he c hm F hr hb .nil pass0 ha hst hpl ht
theorem pe_mt0 {pl : Sem Bool} (he : PE X o ta) (c : Cls X.K C) (D : DefM X.prog X.w X.K X.mg X.base C m k ps sp) (hr : Room k X.A)
    (ht : eval (.Call (.Attribute o m apos) [] [] pos) X.env = (do
      let ov ← eval o X.env
      standAt apos.atName
      let (f, first) ← holding [ov] (getMethod ov m pl)
      callWith pos f first (backTo pos (starEach [] X.env)) (backToKw pos (keywordEach [] X.env))) := by rfl) :
    PE X (.Call (.Attribute o m apos) [] [] pos) (tMeth C m sp [] E0 ta tNil) := by
  obtain ⟨f, fd, F, hm, hb⟩ := D
  exact pe_meth0 he c hm F hr hb .nil pass0 ht
theorem pe_cl (D : DefC X.prog X.w X.K X.mg X.base C x k ps sp) (hr : Room (k + 1) X.A) (hg : Gl X x) (ha : PA X (e :: es) t) (hdb : (x == ("__debug__" : Str)) = false := by decide)
    (he : starEach (e :: es) X.env = (false, eval e X.env) :: starEach es X.env := by rfl) (hpl : (backTo pos (starEach es X.env)).any (·.1) = false := by rfl) :
    PE X (.Call (.Name x p) (e :: es) [] pos) (tMake C sp [] E0 t) := by
  obtain ⟨f, fd, F, M, hm, hb⟩ := D
  exact pe_make M F hr hg hm hb .nil pass0 ha hdb he hpl
theorem pe_cl0 (D : DefC X.prog X.w X.K X.mg X.base C x k ps sp) (hr : Room (k + 1) X.A) (hg : Gl X x) (hdb : (x == ("__debug__" : Str)) = false := by decide) :
    PE X (.Call (.Name x p) [] [] pos) (tMake C sp [] E0 tNil) := by
  obtain ⟨f, fd, F, M, hm, hb⟩ := D
  exact pe_make0 M F hr hg hm hb .nil pass0 hdb
end

def LcN (D : Addr) (H1 : Hp) (R : Nat → List V → Hp → Prop) (i : Nat) : Hp → Prop := fun H' => ∃ acc, acc.length ≤ i ∧ Same H1 H' ∧ H' D = some (.lst acc) ∧ R i acc H'
theorem lc_gen {J : It} {g : TG} {tt : TT} {te : TE} {vs : List Nat} {σ : L2.St} {H1 : Hp} {D : Addr} {Qd : Hp → Prop} (n : Nat) (R : Nat → List V → Hp → Prop) (hD : H1 D = none)
    (go : ∀ i H, i < n → Same H1 H → J.go i H) (stop : ∀ H, Same H1 H → J.stop n H) (R0 : R 0 [] (upd H1 D (.lst [])))
    (step : ∀ i x H H' acc, i < n → Same H1 H → H D = some (.lst acc) → acc.length ≤ i → R i acc H → J.yld i H x H' → g x (wipe σ vs) H' fun σ2 H2 => wipe σ2 vs = wipe σ vs ∧ tt σ2 H2 fun b H3 =>
      if b = true then te σ2 H3 fun y H4 => ∃ acc, H4 D = some (.lst acc) ∧ acc.length < sizeLine ∧ LcN D H1 R (i + 1) (upd H4 D (.lst (acc ++ [y]))) else LcN D H1 R (i + 1) H3)
    (done : ∀ H acc, acc.length ≤ n → Same H1 H → H D = some (.lst acc) → R n acc H → Qd H) :
    ∃ W : Nat → Nat → Hp → Prop, (∃ m, W 0 m (upd H1 D (.lst []))) ∧ ∀ i m H, W i m H →
      (J.stop i H ∧ Qd H) ∨ (J.go i H ∧ ∃ Nx : Hp → Prop, (∀ H', Nx H' → ∃ m', m' < m ∧ W (i + 1) m' H') ∧ ∀ x H', J.yld i H x H' → g x (wipe σ vs) H' fun σ2 H2 => wipe σ2 vs = wipe σ vs ∧ tt σ2 H2 fun b H3 =>
        if b = true then te σ2 H3 fun y H4 => ∃ acc, H4 D = some (.lst acc) ∧ acc.length < sizeLine ∧ Nx (upd H4 D (.lst (acc ++ [y]))) else Nx H3) := by
  refine ⟨fun i m H => m = n - i ∧ i ≤ n ∧ LcN D H1 R i H, ⟨n, by simp, Nat.zero_le _, [], Nat.le_refl _, Same.new hD, upd_same, R0⟩, ?_⟩
  rintro i m H ⟨rfl, hi, acc, hl, hs, ha, r⟩
  by_cases hlt : i < n
  · exact .inr ⟨go i H hlt hs, LcN D H1 R (i + 1), fun H' p' => ⟨n - (i + 1), by omega, rfl, hlt, p'⟩, fun x H' y => step i x H H' acc hlt hs ha hl r y⟩
  · have e : i = n := by omega
    subst e
    exact .inl ⟨stop H hs, done H acc hl hs ha r⟩
theorem lc_yes {D : Addr} {H1 H H4 : Hp} {R : Nat → List V → Hp → Prop} {i : Nat} {acc : List V} {y : V} (hD : H1 D = none) (hi : i < 1000000) (hs : Same H1 H) (ha : H D = some (.lst acc)) (hl : acc.length ≤ i) (s4 : Same H H4)
    (r : R (i + 1) (acc ++ [y]) (upd H4 D (.lst (acc ++ [y])))) : ∃ acc, H4 D = some (.lst acc) ∧ acc.length < sizeLine ∧ LcN D H1 R (i + 1) (upd H4 D (.lst (acc ++ [y]))) :=
  ⟨acc, s4 _ _ ha, by rw [sizeLine_eq]; omega, acc ++ [y], by simpa using hl, But.same (hs.trans s4) hD But.upd, upd_same, r⟩
theorem lc_no {D : Addr} {H1 H H3 : Hp} {R : Nat → List V → Hp → Prop} {i : Nat} {acc : List V} (hs : Same H1 H) (ha : H D = some (.lst acc)) (hl : acc.length ≤ i) (s3 : Same H H3) (r : R (i + 1) acc H3) : LcN D H1 R (i + 1) H3 :=
  ⟨acc, Nat.le_succ_of_le hl, hs.trans s3, s3 _ _ ha, r⟩
theorem for_gen {J : It} {g : TG} {tb : TS} {D : Ends} {σ : L2.St} {H : Hp} (n : Nat) (Pv : Nat → L2.St → Hp → Prop) (h0 : Pv 0 σ H)
    (go : ∀ i σ H, i < n → Pv i σ H → J.go i H) (stop : ∀ σ H, Pv n σ H → J.stop n H)
    (hs : ∀ i x σ H H', i < n → Pv i σ H → J.yld i H x H' → g x σ H' fun σ2 H2 => tb { D with nx := Pv (i + 1), ct := Pv (i + 1), bk := D.nx } σ2 H2) (hd : ∀ σ H, Pv n σ H → D.nx σ H) :
    ∃ W : Nat → Nat → L2.St → Hp → Prop, (∃ m, W 0 m σ H) ∧ ∀ i m σ H, W i m σ H →
      (J.stop i H ∧ D.nx σ H) ∨ (J.go i H ∧ ∃ N : L2.St → Hp → Prop, (∀ σ' H', N σ' H' → ∃ m', m' < m ∧ W (i + 1) m' σ' H') ∧ ∀ x H', J.yld i H x H' → g x σ H' fun σ2 H2 => tb { D with nx := N, ct := N, bk := D.nx } σ2 H2) := by
  refine ⟨fun i m σ H => m = n - i ∧ i ≤ n ∧ Pv i σ H, ⟨n, by simp, Nat.zero_le _, h0⟩, ?_⟩
  rintro i m σ H ⟨rfl, hi, p⟩
  by_cases hlt : i < n
  · exact .inr ⟨go i σ H hlt p, Pv (i + 1), fun σ' H' p' => ⟨n - (i + 1), by omega, rfl, hlt, p'⟩, fun x H' y => hs i x σ H H' hlt p y⟩
  · have e : i = n := by omega
    subst e
    exact .inl ⟨stop σ H p, hd σ H p⟩

theorem zip_go {K : PySem.W.Frag} {a b : Addr} {xs ys : List V} {i : Nat} {H : Hp} (ha : SqL K H a xs) (hb : SqL K H b ys) (h1 : i < xs.length) (h2 : i < ys.length) : (Itz K a b).go i H :=
  ⟨xs, ys, xs[i], ys[i], ha, hb, List.getElem?_eq_getElem h1, List.getElem?_eq_getElem h2⟩
theorem zip_stop {K : PySem.W.Frag} {a b : Addr} {xs ys : List V} {i : Nat} {H : Hp} (ha : SqL K H a xs) (hb : SqL K H b ys) (h : xs.length ≤ i ∨ ys.length ≤ i) : (Itz K a b).stop i H := ⟨xs, ys, ha, hb, h⟩
theorem list_go {K : PySem.W.Frag} {a : Addr} {xs : List V} {i : Nat} {H : Hp} (ha : SqL K H a xs) (h1 : i < xs.length) : (Itl K a).go i H := ⟨xs, xs[i], ha, List.getElem?_eq_getElem h1⟩
theorem list_stop {K : PySem.W.Frag} {a : Addr} {xs : List V} {i : Nat} {H : Hp} (ha : SqL K H a xs) (h : xs.length ≤ i) : (Itl K a).stop i H := ⟨xs, ha, h⟩

def CShl (i j : Int) : Prop := 0 ≤ j ∧ j ≤ 100000 ∧ i.natAbs < 2 ^ 10000
section
variable {X : Cx}
theorem op_shlB : OpR X (binaryOp .LShift) (rI CShl fun i j => .int (i * 2 ^ j.toNat)) := opI fun i j _ _ _ _ _ hc q => by
  refine lshift_int hc.1 ?_ q
  have hb : Builtin.Int.intBits i ≤ 10000 := intBits_le hc.2.2
  have := hc.2.1
  omega
end
theorem eqvAll_ints : ∀ (a b : List Int), PyData.eqvAll (a.map PyData.int) (b.map PyData.int) = decide (a = b)
  | [], [] => by simp [PyData.eqvAll]
  | [], y :: b => by simp [PyData.eqvAll]
  | x :: a, [] => by simp [PyData.eqvAll]
  | x :: a, y :: b => by
    rw [List.map_cons, List.map_cons, PyData.eqvAll, eqvAll_ints a b, PyData.eqv]
    by_cases h : x = y
    · subst h; simp
    · simp [h]
theorem canLayAll_ints : ∀ (a : List Int), PyData.canLayAll0 (a.map PyData.int) = true
  | [] => by simp [PyData.canLayAll0]
  | x :: a => by rw [List.map_cons, PyData.canLayAll0, canLayAll_ints a]; simp [PyData.canLay0]
theorem depthAll_ints : ∀ (a : List Int), PyData.depthAll (a.map PyData.int) = 0
  | [] => by simp [PyData.depthAll]
  | x :: a => by rw [List.map_cons, PyData.depthAll, depthAll_ints a]; simp [PyData.depth]
theorem shaped_ints (a : List Int) : SeqAt.shaped (.list (a.map PyData.int)) = true := by
  unfold SeqAt.shaped
  rw [Bool.and_eq_true]
  refine ⟨?_, ?_⟩
  · rw [PyData.canLay0]; exact canLayAll_ints a
  · rw [PyData.depth, depthAll_ints]; decide
theorem dp_ints {K : PySem.W.Frag} {H : Hp} : ∀ (a : List Int), DpAll K H (iv a) (a.map PyData.int)
  | [] => .nil
  | x :: a => .cons (.int x) (dp_ints a)
section
variable {X : Cx}
def rEqI (K : PySem.W.Frag) : R2 := fun x y H Q => ∃ (a b : Addr) (xs ys : List Int), x = .ref a ∧ y = .ref b ∧ SqL K H a (iv xs) ∧ SqL K H b (iv ys) ∧ Q (.bl (decide (xs = ys))) H
theorem op_eqI (hu : X.A.units + 64 < cLine) : OpR X (compareOp .Eq) (rEqI X.K) := by
  intro pins s σ H x y v u Q I rx ry h
  obtain ⟨a, b, xs, ys, rfl, rfl, ha, hb, q⟩ := h
  refine op_eqD hu pins s σ H _ _ v u Q I rx ry ⟨_, _, .lst ha (dp_ints xs), .lst hb (dp_ints ys), shaped_ints xs, shaped_ints ys, ?_⟩
  rw [PyData.eqv, eqvAll_ints]; exact q
def rSumN (K : PySem.W.Frag) : List V → Hp → VK → Prop := fun vs H Q => ∃ (a : Addr) (l : List Nat), vs = [V.ref a] ∧ SqL K H a (nv l) ∧ Q (.int (l.sum : Nat)) H
theorem cr_sumN (hc : X.calm = true) : CallR X (.builtin "sum") (rSumN X.K) := by
  intro pins s σ H vs us Q I r h
  obtain ⟨a, l, rfl, hs, q⟩ := h
  rw [nv_eq] at hs
  exact cr_sum hc pins s σ H _ us Q I r ⟨a, Vbaval.ints l, rfl, hs, by rw [ints_sum]; exact q⟩
def rLen (K : PySem.W.Frag) : List V → Hp → VK → Prop := fun vs H Q => ∃ (a : Addr) (ys : List V), vs = [V.ref a] ∧ SqL K H a ys ∧ Q (.int (ys.length : Nat)) H
theorem cr_len : CallR X (.builtin "len") (rLen X.K) := by
  intro pins s σ H vs us Q I r h
  obtain ⟨a, ys, rfl, hs, q⟩ := h
  exact call_len_seq pins s σ H _ us Q I r ⟨a, ys, rfl, .inl hs, q⟩
end
section
variable {X : Cx} {K : PySem.W.Frag}
theorem pg_pair {i j : Nat} {x y : Str} {p1 p2 pos : Pos} {k : Nat} (hK : X.K = K) (hc : X.calm = true) (h1 : PG X (.Name x p1) (gName i)) (h2 : PG X (.Name y p2) (gName j))
    (hs1 : (assignEach [.Name x p1, .Name y p2] X.env).map (·.2) = assign (.Name x p1) X.env :: (assignEach [.Name y p2] X.env).map (·.2) := by rfl)
    (hs2 : (assignEach [.Name y p2] X.env).map (·.2) = assign (.Name y p2) X.env :: (assignEach [] X.env).map (·.2) := by rfl)
    (hn : (assignEach [.Name x p1, .Name y p2] X.env).length = 2 := by rfl) (hst : (assignEach [.Name x p1, .Name y p2] X.env).findIdx? (·.1) = none := by rfl) :
    PG X (.Tuple [.Name x p1, .Name y p2] k pos) (gTup K 2 (gCons (gName i) (gCons (gName j) gNil))) := by
  subst hK
  exact pg_tup hc (pgs_cons h1 (pgs_cons h2 pgs_nil hs2) hs1) hn hst
theorem pe_fldK {e : Expr} {f : Str} {pos : Pos} {ta : TE} (hK : X.K = K) (he : PE X e ta) (hb : attributeBase e f X.env (eval e X.env) = eval e X.env := by rfl) : PE X (.Attribute e f pos) (tFld K ta f) := by
  subst hK
  exact pe_fld he hb
theorem ix_listK (hK : X.K = K) : IxR X (rIxL K) := by subst hK; exact ix_list
theorem cr_sumK (hK : X.K = K) (hc : X.calm = true) : CallR X (.builtin "sum") (rSumN K) := by subst hK; exact cr_sumN hc
theorem sl_listK (hK : X.K = K) : SlR X (rSlL K) := by subst hK; exact sl_list
end
end Fr
namespace Fr
open PySem PySem.Spec PyProof.Rows L2
def top (i : Nat) : Stmt := PySem.Challenge.pw_framering_s01_answers.main.body.getD i (.Pass ⟨0, 0, 0, 0⟩)
abbrev sTwo : Stmt := top 3
abbrev sSum : Stmt := top 4
abbrev sFit : Stmt := top 5
abbrev sPack : Stmt := top 6
abbrev sUnpack : Stmt := top 7
abbrev sFrame : Stmt := top 8
abbrev sRight : Stmt := top 9
abbrev sNumber : Stmt := top 10
abbrev sValues : Stmt := top 11
abbrev sTold : Stmt := top 12
abbrev sParInit : Stmt := inClass (top 31) 0
abbrev sParIn : Stmt := inClass (top 31) 1
abbrev sThrees : Stmt := top 32
abbrev sIsPar : Stmt := top 33
abbrev sArePar : Stmt := top 34
abbrev sParOf : Stmt := top 35
abbrev sPars : Stmt := top 36
abbrev sWidths : Stmt := top 37
abbrev sWidest : Stmt := top 38
abbrev sSentB : Stmt := top 20
abbrev sSentF : Stmt := top 21
abbrev sIsDmg : Stmt := top 22
abbrev sDmg : Stmt := top 23
abbrev sEInit : Stmt := inClass (top 24) 0
abbrev sETake : Stmt := inClass (top 24) 1
abbrev sEIn : Stmt := inClass (top 24) 2
abbrev sEEsc : Stmt := inClass (top 24) 3
abbrev sEEnd : Stmt := inClass (top 24) 4
abbrev sETold : Stmt := inClass (top 24) 5
abbrev sHeard : Stmt := top 25
abbrev sRecInit : Stmt := inClass (top 64) 0
abbrev sRecRecord : Stmt := inClass (top 64) 1
abbrev sRecFound : Stmt := inClass (top 64) 2
abbrev sRecCut : Stmt := inClass (top 64) 3
abbrev sRecFlip : Stmt := inClass (top 64) 4
abbrev sRecRestart : Stmt := inClass (top 64) 5
abbrev sRecRead : Stmt := inClass (top 64) 6
abbrev sRecSlot : Stmt := inClass (top 64) 7
abbrev sRecDump : Stmt := inClass (top 64) 8
abbrev sRecHear : Stmt := inClass (top 64) 9
abbrev sRecListen : Stmt := inClass (top 64) 10
abbrev sRecNext : Stmt := inClass (top 64) 11
abbrev sRecTotals : Stmt := inClass (top 64) 12
abbrev sRecTold : Stmt := inClass (top 64) 13
abbrev sRecToldF : Stmt := inClass (top 64) 14
abbrev sLInit : Stmt := inClass (top 65) 0
abbrev sLAnswer : Stmt := inClass (top 65) 1
abbrev sLLay : Stmt := inClass (top 65) 2
abbrev sRecAns : Stmt := top 66
abbrev sAsked : Stmt := top 67
abbrev sAnswers : Stmt := top 68
/-- fields -/
abbrev fl (l : List (Str × V)) : List (Str × V) := l
/-- the built-in names that the module leaves as they are, and its plain constants -/
structure Txt (mg : Str → Option Value) : Prop where
  sum : mg "sum" = none
  len : mg "len" = none
  zip : mg "zip" = none
  all : mg "all" = none
  range : mg "range" = none
  max : mg "max" = none
  list : mg "list" = none
  enumerate : mg "enumerate" = none
  sorted : mg "sorted" = none
  HEAD : ∃ t, mg "HEAD" = some (.int 2 t)
  TAIL : ∃ t, mg "TAIL" = some (.int 4 t)
  MOST : ∃ t, mg "MOST_PARAMETERS" = some (.int 12 t)
  WIDEST : ∃ t, mg "WIDEST" = some (.int 16 t)
  LONGEST : ∃ t, mg "LONGEST_PERIOD" = some (.int 16 t)
structure TxtL (mg : Str → Option Value) : Prop where
  BEGIN : ∃ t, mg "BEGIN" = some (.int 192 t)
  END : ∃ t, mg "END" = some (.int 193 t)
  ESCAPE : ∃ t, mg "ESCAPE" = some (.int 194 t)
  LOST : ∃ t, mg "LOST" = some (.int 0 t)
  DOUBLED : ∃ t, mg "DOUBLED" = some (.int 1 t)
  FLIPPED : ∃ t, mg "FLIPPED" = some (.int 2 t)
structure TxtC (mg : Str → Option Value) : Prop where
  OUT_OF_RANGE : ∃ t, mg "OUT_OF_RANGE" = some (.int (-1) t)
  NOTHING_LAID : ∃ t, mg "NOTHING_LAID" = some (.int (-2) t)
  FRAME_TOO_WIDE : ∃ t, mg "FRAME_TOO_WIDE" = some (.int (-3) t)
  WRONG_VALUES : ∃ t, mg "WRONG_VALUES" = some (.int (-4) t)
  SLOT_HURT : ∃ t, mg "SLOT_HURT" = some (.int (-5) t)
  NUMBERS_USED_UP : ∃ t, mg "NUMBERS_USED_UP" = some (.int (-6) t)
  LAST_NUMBER : ∃ t, mg "LAST_NUMBER" = some (.int 65535 t)
  MOST_HEARD : ∃ t, mg "MOST_HEARD" = some (.int 800 t)
  LAY : ∃ t, mg "LAY" = some (.int 0 t)
  RECORD : ∃ t, mg "RECORD" = some (.int 1 t)
  CUT : ∃ t, mg "CUT" = some (.int 2 t)
  FLIP : ∃ t, mg "FLIP" = some (.int 3 t)
  RESTART : ∃ t, mg "RESTART" = some (.int 4 t)
  READ : ∃ t, mg "READ" = some (.int 5 t)
  SLOT : ∃ t, mg "SLOT" = some (.int 6 t)
  DUMP : ∃ t, mg "DUMP" = some (.int 7 t)
  HEAR : ∃ t, mg "HEAR" = some (.int 8 t)
  LISTEN : ∃ t, mg "LISTEN" = some (.int 9 t)
  NEXT_NUMBER : ∃ t, mg "NEXT_NUMBER" = some (.int 10 t)
/-- a new list is handed back; all that was stays -/
def RetL (H : Hp) (Q : VK) (l : List V) : Prop := ∀ (H' : Hp) (p : Addr), Same H H' → H p = none → H' p = some (.lst l) → Q (.ref p) H'
theorem boot_all' : bootBuiltins "all" = some (.builtin "all") := by decide +kernel
theorem boot_sum' : bootBuiltins "sum" = some (.builtin "sum") := by decide +kernel
theorem boot_len' : bootBuiltins "len" = some (.builtin "len") := by decide +kernel
theorem boot_max' : bootBuiltins "max" = some (.builtin "max") := by decide +kernel
theorem two_small {n : Nat} (h : n ≤ 65535) : Vbaval.two n = [n / 256, n % 256] := by
  unfold Vbaval.two
  rw [Nat.mod_eq_of_lt (by omega)]
end Fr
namespace Fr
open PySem PySem.Spec PyProof.Rows L2
section
variable {P : Program} {w : World} {K : PySem.W.Frag} {mg : Str → Option Value} {base : Heap}
def spTwo : Sp := fun vs H Q _ => ∃ n : Nat, vs = [.int n] ∧ n ≤ 65535 ∧ RetL H Q (nv (Vbaval.two n))
theorem scTwo : FnScope ["number"] ["number"] (defScope sTwo) := ⟨rfl, rfl, rfl, by decide +kernel, rfl, by decide +kernel, by decide +kernel⟩
theorem d_two (F : FunD K mg "two_bytes" sTwo) : Def P w K mg base "two_bytes" 1 ["number"] spTwo := by
  obtain ⟨f, fd, F, hm⟩ := F
  refine ⟨f, fd, ?_, hm, F.kp, F.binds fun _ _ _ _ _ _ us hl => match us, hl with | [_], _ => rfl⟩
  refine F.ok scTwo (fun vs H Q E h => ?_) (fun cdv A outer s H vs Q E hr h => ?_)
  · obtain ⟨n, rfl, _⟩ := h
    rfl
  · obtain ⟨n, rfl, hn, k⟩ := h
    refine ⟨_, pss_one (ps_ret (pe_lst (pa_cons (pe_op op_fdiv (pv 0) pe_int) (pa_cons (pe_op op_mod (pv 0) pe_int) pa_nil)))), ?_⟩
    refine ⟨_, rfl, _, _, rfl, rfl, ⟨by decide, by decide⟩, _, rfl, _, _, rfl, rfl, (by show (0 : Int) < 256; decide), (by show 2 ≤ sizeLine; decide), fun p hp => ?_⟩
    refine k _ p (Same.new hp) hp ?_
    rw [upd_same, two_small hn]
    show some (HO.lst [.int ((n : Int) / 256), .int ((n : Int) % 256)]) = some (HO.lst [.int ((n / 256 : Nat) : Int), .int ((n % 256 : Nat) : Int)])
    rfl
def spSum (K : PySem.W.Frag) : Sp := fun vs H Q _ => ∃ (a : Addr) (l : List Nat), vs = [.ref a] ∧ SqL K H a (nv l) ∧ RetL H Q (nv (Vbaval.two (Vbaval.sum l)))
theorem scSum : FnScope ["head"] ["head"] (defScope sSum) := ⟨rfl, rfl, rfl, by decide +kernel, rfl, by decide +kernel, by decide +kernel⟩
theorem d_sum (F : FunD K mg "sum_bytes" sSum) (T : Txt mg) (D2 : Def P w K mg base "two_bytes" 1 ["number"] spTwo) : Def P w K mg base "sum_bytes" 2 ["head"] (spSum K) := by
  obtain ⟨f, fd, F, hm⟩ := F
  refine ⟨f, fd, ?_, hm, F.kp, F.binds fun _ _ _ _ _ _ us hl => match us, hl with | [_], _ => rfl⟩
  refine F.ok scSum (fun vs H Q E h => ?_) (fun cdv A outer s H vs Q E hr h => ?_)
  · obtain ⟨a, l, rfl, _⟩ := h
    rfl
  · obtain ⟨a, l, rfl, hS, k⟩ := h
    refine ⟨_, pss_one (ps_ret (pe_fn D2 hr rfl (pa_cons (pe_op op_mod (pe_callB (cr_sumN rfl) rfl T.sum boot_sum' (pa_cons (pv 0) pa_nil)) pe_int) pa_nil))), ?_⟩
    refine ⟨_, rfl, a, l, rfl, hS, _, _, rfl, rfl, (by show (0 : Int) < 65536; decide), l.sum % 65536, rfl, (by omega), ?_⟩
    have e : Vbaval.two (l.sum % 65536) = Vbaval.two (Vbaval.sum l) := by
      rw [FrM.sum_eq]
      unfold Vbaval.two
      congr 1
      · omega
      · congr 1; omega
    rw [e]
    exact k
def spFit (K : PySem.W.Frag) : Sp := fun vs H Q _ => ∃ (a b : Addr) (ws : List Nat) (xs : List Int), vs = [.ref a, .ref b] ∧ SqL K H a (nv ws) ∧ SqL K H b (iv xs) ∧ (∀ w ∈ ws, w ≤ 16) ∧ ws.length ≤ 1000 ∧ xs.length ≤ 1000 ∧
  ∀ H', Same H H' → Q (.bl (xs.length == ws.length && (ws.zip xs).all fun p => Vbaval.within p.2 0 ((2 ^ p.1 : Nat) - 1))) H'
theorem scFit : FnScope ["widths", "samples", "width", "sample"] ["widths", "samples"] (defScope sFit) := ⟨rfl, rfl, rfl, by decide +kernel, rfl, by decide +kernel, by decide +kernel⟩
theorem d_fit (F : FunD K mg "values_fit" sFit) (T : Txt mg) : Def P w K mg base "values_fit" 1 ["widths", "samples"] (spFit K) := by
  obtain ⟨f, fd, F, hm⟩ := F
  refine ⟨f, fd, ?_, hm, F.kp, F.binds fun _ _ _ _ _ _ us hl => match us, hl with | [_, _], _ => rfl⟩
  refine F.ok scFit (fun vs H Q E h => ?_) (fun cdv A outer s H vs Q E hr h => ?_)
  · obtain ⟨a, b, ws, xs, rfl, _⟩ := h
    rfl
  · obtain ⟨a, b, ws, xs, rfl, hA, hB, hw, hwl, hxl, k⟩ := h
    refine ⟨_, pss_cons (ps_if (pt_cmpR op_ne (pe_callB cr_len rfl T.len boot_len' (pa_cons (pv 1) pa_nil)) (pe_callB cr_len rfl T.len boot_len' (pa_cons (pv 0) pa_nil)) (nomark _)) (pss_one (ps_ret pe_bl)) pss_nil)
      (pss_one (ps_ret (pe_callB (cr_all rfl) rfl T.all boot_all' (pa_cons (pe_lc rfl scFit.nd (pi_zip rfl T.zip (pa_cons (pv 0) (pa_cons (pv 1) pa_nil))) (blkOk_by (own := [("width", 2), ("sample", 3)]) (by rfl))
        (fun _ _ _ _ _ => pg_pair (K := K) rfl rfl (pg_name (i := 2) scFit.nd rfl (Or.inl rfl) (Or.inr rfl)) (pg_name (i := 3) scFit.nd rfl (Or.inl rfl) (Or.inr rfl)))
        (fun _ _ _ _ _ => pts_nil)
        (fun _ _ _ _ _ => pe_chain op_le op_lt pe_int (pv 3) (pe_op op_shl pe_int (pv 2)))) pa_nil)))), ?_⟩
    refine ⟨_, rfl, b, _, rfl, hB, _, rfl, a, _, rfl, hA, rfl, _, rfl, ite2 (fun c => ?_) (fun c => ?_)⟩
    · have e : (xs.length == ws.length && (ws.zip xs).all fun p => Vbaval.within p.2 0 ((2 ^ p.1 : Nat) - 1)) = false := by
        have h : xs.length ≠ ws.length := fun q => by
          rw [iv_length, nv_length, q] at c
          simp at c
        simp [h]
      have := k H (Same.refl H)
      rw [e] at this
      exact this
    · have hlen : xs.length = ws.length := by
        rw [iv_length, nv_length] at c
        have c2 : (xs.length : Int) = ws.length := by simpa using c
        omega
      have hz : (ws.zip xs).length = ws.length := by rw [List.length_zip]; omega
      refine ⟨_, rfl, _, rfl, a, b, _, _, rfl, hA, hB, fun D hD => lc_gen ws.length (fun i acc _ => acc = ((ws.zip xs).take i).map fun p => V.bl (Vbaval.within p.2 0 ((2 ^ p.1 : Nat) - 1))) hD
        (fun i H' hi hs => zip_go (hs.seq hA) (hs.seq hB) (by rw [nv_length]; exact hi) (by rw [iv_length]; omega)) (fun H' hs => zip_stop (hs.seq hA) (hs.seq hB) (.inl (by rw [nv_length]; exact Nat.le_refl _))) rfl ?_ ?_⟩
      · intro i x H1 H' acc hi hs hacc hl hR hy
        obtain ⟨T', x0, y0, rfl, hT, rfl, h1, h2⟩ := hy
        obtain ⟨w0, e1, rfl⟩ := nv_some (h1 _ (hs.seq hA))
        obtain ⟨v0, e2, rfl⟩ := iv_some (h2 _ (hs.seq hB))
        have ez : (ws.zip xs)[i]? = some (w0, v0) := by rw [List.getElem?_zip_eq_some]; exact ⟨e1, e2⟩
        have fin : ∀ (c : Bool), c = Vbaval.within v0 0 ((2 ^ w0 : Nat) - 1) → ∃ acc, (upd H1 T' (.tup [.int w0, .int v0])) D = some (.lst acc) ∧ acc.length < sizeLine ∧
            LcN D H (fun i acc _ => acc = ((ws.zip xs).take i).map fun p => V.bl (Vbaval.within p.2 0 ((2 ^ p.1 : Nat) - 1))) (i + 1) (upd (upd H1 T' (.tup [.int w0, .int v0])) D (.lst (acc ++ [V.bl c]))) := fun c hc => by
          refine lc_yes hD (by omega) hs hacc hl (Same.new hT) ?_
          rw [hR, hc, List.take_add_one, ez, List.map_append]
          rfl
        refine ⟨T', _, rfl, SqT.of upd_same, rfl, _, _, rfl, _, _, rfl, rfl, rfl, _, rfl, _, _, rfl, rfl, _, rfl, ite2 (fun c0 => ⟨_, rfl, _, _, rfl, rfl, ⟨?_, ?_, by decide⟩, _, _, rfl, rfl, fin _ ?_⟩) (fun c0 => fin _ ?_)⟩
        · omega
        · have := hw w0 (List.mem_of_getElem? e1)
          omega
        · have c1 := of_decide_eq_true c0
          unfold Vbaval.within
          rw [decide_eq_true c1, Bool.true_and, Int.one_mul, Int.toNat_natCast, ← FrM.pow_cast]
          exact decide_eq_decide.mpr (by omega)
        · unfold Vbaval.within
          rw [decide_eq_false (fun q => c0 (decide_eq_true q)), Bool.false_and]
      · intro H' acc hl hs hacc hR
        refine ⟨D, ((ws.zip xs).map fun p => Vbaval.within p.2 0 ((2 ^ p.1 : Nat) - 1)), rfl, SqL.of ?_, ?_⟩
        · rw [hacc, hR, List.take_of_length_le (by omega), List.map_map]
          rfl
        · have := k H' hs
          rw [hlen] at this
          rw [List.all_map]
          simpa using this
end
end Fr
namespace Fr
open PySem PySem.Spec PyProof.Rows L2
theorem joined_snoc : ∀ (l : List (Nat × Nat)) (a w v : Nat), FrM.joined (l ++ [(w, v)]) a = FrM.joined l a * 2 ^ w + v
  | [], a, w, v => rfl
  | (w', v') :: l, a, w, v => joined_snoc l (a * 2 ^ w' + v') w v
theorem joined_lt {l : List (Nat × Nat)} (h : ∀ p ∈ l, p.2 < 2 ^ p.1) : FrM.joined l 0 < 2 ^ (l.map (·.1)).sum := by
  have := FrM.joined_eq l 0 h
  rw [Nat.zero_mul, Nat.zero_add] at this
  rw [this, ← FrM.flatP_length]
  exact FrM.numberOf_lt _ (FrM.flatP_bits l)
theorem sum_take_le (l : List Nat) (i : Nat) : (l.take i).sum ≤ l.sum := by
  have := List.take_append_drop i l
  have h : l.sum = (l.take i).sum + (l.drop i).sum := by
    conv => lhs; rw [← this]
    rw [List.sum_append]
  omega
section
variable {P : Program} {w : World} {K : PySem.W.Frag} {mg : Str → Option Value} {base : Heap}
def spPack (K : PySem.W.Frag) : Sp := fun vs H Q _ => ∃ (a b : Addr) (ws xs : List Nat) (len : Nat), vs = [.ref a, .ref b, .int len] ∧ SqL K H a (nv ws) ∧ SqL K H b (nv xs) ∧ ws.length = xs.length ∧ (∀ p ∈ ws.zip xs, p.2 < 2 ^ p.1) ∧
  ws.sum ≤ 8 * len ∧ len ≤ 16 ∧ ws.length ≤ 1000 ∧ RetL H Q (nv (Vbaval.bytesOf len ((ws.zip xs).flatMap fun p => Vbaval.bitsOf p.1 p.2)))
theorem scPack : FnScope ["widths", "samples", "length", "bits", "width", "sample", "behind"] ["widths", "samples", "length"] (defScope sPack) := ⟨rfl, rfl, rfl, by decide +kernel, rfl, by decide +kernel, by decide +kernel⟩
theorem d_pack (F : FunD K mg "packed" sPack) (T : Txt mg) : Def P w K mg base "packed" 1 ["widths", "samples", "length"] (spPack K) := by
  obtain ⟨f, fd, F, hm⟩ := F
  refine ⟨f, fd, ?_, hm, F.kp, F.binds fun _ _ _ _ _ _ us hl => match us, hl with | [_, _, _], _ => rfl⟩
  refine F.ok scPack (fun vs H Q E h => ?_) (fun cdv A outer s H vs Q E hr h => ?_)
  · obtain ⟨a, b, ws, xs, len, rfl, _⟩ := h
    rfl
  · obtain ⟨a, b, ws, xs, len, rfl, hA, hB, hlen, hv, hs, hl16, hwl, k⟩ := h
    have nd := scPack.nd
    refine ⟨_, pss_cons (ps_set (i := 3) nd rfl (Or.inr rfl) pe_int)
      (pss_cons (ps_for PassesOwn.never rfl (pi_zip rfl T.zip (pa_cons (pv 0) (pa_cons (pv 1) pa_nil))) (pg_pair (K := K) rfl rfl (pg_name (i := 4) nd rfl (Or.inl rfl) (Or.inr rfl)) (pg_name (i := 5) nd rfl (Or.inl rfl) (Or.inr rfl)))
        (pss_one (ps_set (i := 3) nd rfl (Or.inr rfl) (pe_op op_or (pe_op op_shlB (pv 3) (pv 4)) (pv 5)))))
      (pss_cons (ps_set (i := 3) nd rfl (Or.inr rfl) (pe_op op_shlB (pv 3) (pe_op op_sub (pe_op op_mul pe_int (pv 2)) (pe_callB (cr_sumN rfl) rfl T.sum boot_sum' (pa_cons (pv 0) pa_nil)))))
      (pss_one (ps_ret (pe_lc rfl nd (pi_range3 rfl T.range (pa_cons (pe_op op_sub (pv 2) pe_int) (pa_cons (pe_un un_neg pe_int) (pa_cons (pe_un un_neg pe_int) pa_nil)))) (blkOk_by (own := [("behind", 6)]) (by rfl))
        (fun _ _ _ _ _ => pg_name (i := 6) nd rfl (Or.inl rfl) (Or.inr rfl)) (fun _ _ _ _ _ => pts_nil)
        (fun _ _ _ _ _ => pe_op op_and (pe_op op_shr (pv 3) (pe_op op_mul pe_int (pv 6))) pe_int)))))), ?_⟩
    have hz : (ws.zip xs).length = ws.length := by rw [List.length_zip]; omega
    have hmap : (ws.zip xs).map (·.1) = ws := List.map_fst_zip (by omega)
    have hvt : ∀ i, ∀ p ∈ (ws.zip xs).take i, p.2 < 2 ^ p.1 := fun i p hp => hv p (List.mem_of_mem_take hp)
    have hjl : ∀ i, FrM.joined ((ws.zip xs).take i) 0 < 2 ^ 128 := fun i => by
      refine Nat.lt_of_lt_of_le (joined_lt (hvt i)) (Nat.pow_le_pow_right (by decide) ?_)
      have h1 := sum_take_le ws i
      have h2 : ((ws.zip xs).take i).map (·.1) = ws.take i := by rw [List.map_take, hmap]
      rw [h2]
      omega
    refine ⟨_, rfl, _, rfl, a, b, _, _, rfl, hA, hB, for_gen (J := Itz K a b) ws.length (fun i σ H' => ∃ v4 v5 : Option V, σ = [some (.ref a), some (.ref b), some (.int len), some (.int (FrM.joined ((ws.zip xs).take i) 0 : Nat)), v4, v5, none] ∧ Same H H')
      ⟨none, none, rfl, Same.refl H⟩ (fun i σ H' hi ⟨_, _, _, hs'⟩ => zip_go (hs'.seq hA) (hs'.seq hB) (by rw [nv_length]; exact hi) (by rw [nv_length]; omega))
      (fun σ H' ⟨_, _, _, hs'⟩ => zip_stop (hs'.seq hA) (hs'.seq hB) (.inl (by rw [nv_length]; exact Nat.le_refl _))) ?_ ?_⟩
    · rintro i x σ H1 H' hi ⟨v4, v5, rfl, hs1⟩ hy
      obtain ⟨T', x0, y0, rfl, hT, rfl, h1, h2⟩ := hy
      obtain ⟨w0, e1, rfl⟩ := nv_some (h1 _ (hs1.seq hA))
      obtain ⟨v0, e2, rfl⟩ := nv_some (h2 _ (hs1.seq hB))
      have ez : (ws.zip xs)[i]? = some (w0, v0) := by rw [List.getElem?_zip_eq_some]; exact ⟨e1, e2⟩
      have hv0 : v0 < 2 ^ w0 := hv (w0, v0) (List.mem_of_getElem? ez)
      have hw0 : w0 ≤ 128 := by
        have h3 : w0 ≤ ws.sum := le_sum_of_mem (List.mem_of_getElem? e1)
        omega
      refine ⟨T', _, rfl, SqT.of upd_same, rfl, _, _, rfl, _, _, rfl, rfl, _, rfl, _, rfl, _, _, rfl, rfl, ⟨by omega, by omega, ?_⟩, _, rfl, _, _, rfl, rfl, some (.int w0), some (.int v0), ?_, hs1.and hT⟩
      · rw [Int.natAbs_natCast]
        exact Nat.lt_of_lt_of_le (hjl i) (Nat.pow_le_pow_right (by decide) (by decide))
      · have e : Builtin.bitOr (((FrM.joined ((ws.zip xs).take i) 0 : Nat) : Int) * 2 ^ ((w0 : Nat) : Int).toNat) (v0 : Int) = ((FrM.joined ((ws.zip xs).take (i + 1)) 0 : Nat) : Int) := by
          rw [Int.toNat_natCast, ← FrM.pow_cast, ← Int.natCast_mul, FrM.or_add hv0, List.take_add_one, ez]
          show ((_ : Nat) : Int) = ((FrM.joined ((ws.zip xs).take i ++ [(w0, v0)]) 0 : Nat) : Int)
          rw [joined_snoc]
        dsimp only
        rw [e]
        rfl
    · rintro σ H1 ⟨v4, v5, rfl, hs1⟩
      have eall : (ws.zip xs).take ws.length = ws.zip xs := List.take_of_length_le (by omega)
      rw [eall]
      have hj := hjl ws.length
      rw [eall] at hj
      have hN : ((FrM.joined (ws.zip xs) 0 : Nat) : Int) * 2 ^ (8 * (len : Int) - ((ws.sum : Nat) : Int)).toNat = ((FrM.joined (ws.zip xs) 0 * 2 ^ (8 * len - ws.sum) : Nat) : Int) := by
        have e : (8 * (len : Int) - ((ws.sum : Nat) : Int)).toNat = 8 * len - ws.sum := by omega
        rw [e, Int.natCast_mul, FrM.pow_cast]
      refine ⟨_, rfl, _, rfl, _, _, rfl, rfl, .inl ⟨by decide, by decide⟩, _, rfl, a, ws, rfl, hs1.seq hA, _, _, rfl, rfl, _, _, rfl, rfl, ⟨by omega, by omega, ?_⟩, ?_⟩
      · rw [Int.natAbs_natCast]
        exact Nat.lt_of_lt_of_le hj (Nat.pow_le_pow_right (by decide) (by decide))
      · dsimp only
        rw [hN]
        have epk := FrM.packed_eq (l := ws.zip xs) (len := len) hv (by rw [hmap]; exact hs)
        rw [hmap] at epk
        rw [show ((ws.zip xs).flatMap fun p => Vbaval.bitsOf p.1 p.2) = FrM.flatP (ws.zip xs) from rfl, epk] at k
        generalize FrM.joined (ws.zip xs) 0 * 2 ^ (8 * len - ws.sum) = N at k ⊢
        refine ⟨_, rfl, _, _, rfl, rfl, _, rfl, _, rfl, _, _, _, _, rfl, RgC.neg (by omega) (by omega) (by decide) (by decide), fun D hD => lc_gen (J := Itc _ _ _) len (fun i acc _ => acc = nv ((FrM.bytesAt N len).take i)) hD
          (fun i H' hi _ => ?_) (fun H' _ => ?_) rfl ?_ ?_⟩
        · show i < (((len : Int) - 1) - (-1)).toNat
          omega
        · show (((len : Int) - 1) - (-1)).toNat ≤ len
          omega
        · intro i x H2 H' acc hi hs2 hacc hl hR hy
          obtain ⟨rfl, rfl⟩ := hy
          refine ⟨rfl, _, rfl, _, rfl, _, _, rfl, rfl, .inl ⟨by decide, by decide⟩, _, _, rfl, rfl, (?_ : (0 : Int) ≤ _), _, _, rfl, rfl, lc_yes hD (by omega) hs2 hacc hl (Same.refl _) ?_⟩
          · omega
          · have e0 : (8 * ((len : Int) - 1 + (i : Nat) * -1)).toNat = 8 * (len - 1 - i) := by omega
            have e1 : Builtin.bitAnd ((N : Int) / 2 ^ (8 * ((len : Int) - 1 + (i : Nat) * -1)).toNat) 255 = ((N / 2 ^ (8 * (len - 1 - i)) % 256 : Nat) : Int) := by
              rw [bitAnd_m8, e0, ← FrM.pow_cast]
              rfl
            have e2 : (FrM.bytesAt N len)[i]? = some (N / 2 ^ (8 * (len - 1 - i)) % 256) := by
              unfold FrM.bytesAt
              rw [List.getElem?_map, List.getElem?_range hi]
              rfl
            dsimp only
            rw [hR, e1, List.take_add_one, e2, nv_append]
            rfl
        · intro H' acc hl hs2 hacc hR
          have e3 : (FrM.bytesAt N len).take len = FrM.bytesAt N len := List.take_of_length_le (by unfold FrM.bytesAt; rw [List.length_map, List.length_range]; exact Nat.le_refl _)
          rw [hR, e3] at hacc
          exact k H' D (hs1.trans hs2) (hs1.free hD) hacc
end
end Fr
namespace Fr
open PySem PySem.Spec PyProof.Rows L2
theorem cut_hi (xs : List V) (k : Nat) : cutV xs none (some (k : Int)) = xs.take k := by
  unfold cutV
  rw [HT.sIx_none, HT.sIx_nat, List.drop_zero, Nat.sub_zero]
  by_cases h : k ≤ xs.length
  · rw [Nat.min_eq_left h]
  · rw [Nat.min_eq_right (by omega), List.take_of_length_le (Nat.le_refl _), List.take_of_length_le (by omega)]
theorem cut_lo (xs : List V) (k : Nat) : cutV xs (some (k : Int)) none = xs.drop k := by
  unfold cutV
  rw [HT.sIx_none, HT.sIx_nat]
  by_cases h : k ≤ xs.length
  · rw [Nat.min_eq_left h, List.take_of_length_le (by rw [List.length_drop]; exact Nat.le_refl _)]
  · rw [Nat.min_eq_right (by omega), List.drop_of_length_le (Nat.le_refl _), List.drop_of_length_le (by omega), List.take_nil]
theorem cut_mid (xs : List V) (i j : Nat) : cutV xs (some (i : Int)) (some (j : Int)) = (xs.drop i).take (j - i) := by
  unfold cutV
  rw [HT.sIx_nat, HT.sIx_nat]
  by_cases h : i ≤ xs.length
  · rw [Nat.min_eq_left h]
    by_cases h2 : j ≤ xs.length
    · rw [Nat.min_eq_left h2]
    · rw [Nat.min_eq_right (by omega), List.take_of_length_le (by rw [List.length_drop]; exact Nat.le_refl _), List.take_of_length_le (by rw [List.length_drop]; omega)]
  · rw [Nat.min_eq_right (show xs.length ≤ i by omega), List.drop_of_length_le (Nat.le_refl _), List.drop_of_length_le (by omega), List.take_nil, List.take_nil]
theorem gather_snoc (l : List Nat) (b : Nat) : FrM.gather (l ++ [b]) = FrM.gather l * 256 + b := by
  unfold FrM.gather
  rw [List.foldl_append]
  rfl
theorem gather_lt {l : List Nat} (h : ∀ b ∈ l, b < 256) : FrM.gather l < 2 ^ (8 * l.length) := by
  rw [FrM.gather_eq h]
  have := FrM.numberOf_lt _ (FrM.flat8_bits l)
  rwa [FrM.flat8_length] at this
theorem values_snoc (B : Nat) : ∀ (ws : List Nat) (L w : Nat), FrM.valuesAt B L (ws ++ [w]) = FrM.valuesAt B L ws ++ [B / 2 ^ (L - ws.sum - w) % 2 ^ w]
  | [], L, w => by simp [FrM.valuesAt]
  | v :: ws, L, w => by
    show _ :: FrM.valuesAt B (L - v) (ws ++ [w]) = _ :: (FrM.valuesAt B (L - v) ws ++ _)
    rw [values_snoc B ws (L - v) w, List.sum_cons, Nat.sub_sub L v ws.sum]
theorem values_length (B : Nat) : ∀ (ws : List Nat) (L : Nat), (FrM.valuesAt B L ws).length = ws.length
  | [], _ => rfl
  | v :: ws, L => by rw [FrM.valuesAt, List.length_cons, values_length B ws, List.length_cons]
section
variable {P : Program} {w : World} {K : PySem.W.Frag} {mg : Str → Option Value} {base : Heap}
def spUnpack (K : PySem.W.Frag) : Sp := fun vs H Q _ => ∃ (a b : Addr) (ws data : List Nat), vs = [.ref a, .ref b] ∧ SqL K H a (nv ws) ∧ SqL K H b (nv data) ∧ (∀ x ∈ data, x < 256) ∧ data.length ≤ 16 ∧ ws.sum ≤ 8 * data.length ∧ ws.length ≤ 1000 ∧
  RetL H Q (nv (Vbaval.valuesOf ws (data.flatMap (Vbaval.bitsOf 8))))
theorem scUnpack : FnScope ["widths", "data", "bits", "byte", "samples", "behind", "width"] ["widths", "data"] (defScope sUnpack) := ⟨rfl, rfl, rfl, by decide +kernel, rfl, by decide +kernel, by decide +kernel⟩
theorem d_unpack (F : FunD K mg "unpacked" sUnpack) (T : Txt mg) : Def P w K mg base "unpacked" 1 ["widths", "data"] (spUnpack K) := by
  obtain ⟨f, fd, F, hm⟩ := F
  refine ⟨f, fd, ?_, hm, F.kp, F.binds fun _ _ _ _ _ _ us hl => match us, hl with | [_, _], _ => rfl⟩
  refine F.ok scUnpack (fun vs H Q E h => ?_) (fun cdv A outer s H vs Q E hr h => ?_)
  · obtain ⟨a, b, ws, data, rfl, _⟩ := h
    rfl
  · obtain ⟨a, b, ws, data, rfl, hA, hB, hd, hd16, hs, hwl, k⟩ := h
    have nd := scUnpack.nd
    refine ⟨_, pss_cons (ps_set (i := 2) nd rfl (Or.inl rfl) pe_int)
      (pss_cons (ps_for PassesOwn.never rfl (pi_list (pv 1)) (pg_name (i := 3) nd rfl (Or.inl rfl))
        (pss_one (ps_set (i := 2) nd rfl (Or.inl rfl) (pe_op op_or (pe_op op_shlB (pv 2) pe_int) (pv 3)))))
      (pss_cons (ps_set (i := 4) nd rfl (Or.inl rfl) (pe_lst pa_nil))
      (pss_cons (ps_set (i := 5) nd rfl (Or.inl rfl) (pe_op op_mul pe_int (pe_callB cr_len rfl T.len boot_len' (pa_cons (pv 1) pa_nil))))
      (pss_cons (ps_for PassesOwn.never rfl (pi_list (pv 0)) (pg_name (i := 6) nd rfl (Or.inl rfl))
        (pss_cons (ps_aug (i := 5) nd rfl (Or.inl rfl) (pv 6) iop_sub)
        (pss_one (ps_expr (pe_bm PySem.F.plainAttrs_list PySem.F.slot_list_append PySem.F.type_list_append mt_append (pv 4)
          (pa_cons (pe_op op_and (pe_op op_shr (pv 2) (pv 5)) (pe_op op_sub (pe_op op_shlB pe_int (pv 6)) pe_int)) pa_nil))))))
      (pss_one (ps_ret (pv 4))))))), ?_⟩
    have hdt : ∀ i, ∀ x ∈ data.take i, x < 256 := fun i x hx => hd x (List.mem_of_mem_take hx)
    have hgl : ∀ i, FrM.gather (data.take i) < 2 ^ 128 := fun i => by
      refine Nat.lt_of_lt_of_le (gather_lt (hdt i)) (Nat.pow_le_pow_right (by decide) ?_)
      rw [List.length_take]
      omega
    refine ⟨_, rfl, b, rfl, ⟨_, hB⟩, for_gen (J := Itl K b) data.length (fun i σ H' => ∃ v3 : Option V, σ = [some (.ref a), some (.ref b), some (.int (FrM.gather (data.take i) : Nat)), v3, none, none, none] ∧ Same H H')
      ⟨none, rfl, Same.refl H⟩ (fun i σ H' hi ⟨_, _, hs'⟩ => list_go (hs'.seq hB) (by rw [nv_length]; exact hi)) (fun σ H' ⟨_, _, hs'⟩ => list_stop (hs'.seq hB) (by rw [nv_length]; exact Nat.le_refl _)) ?_ ?_⟩
    · rintro i x σ H1 H' hi ⟨v3, rfl, hs1⟩ hy
      obtain ⟨rfl, h1⟩ := hy
      obtain ⟨b0, e1, rfl⟩ := nv_some (h1 _ (hs1.seq hB))
      have hb0 : b0 < 2 ^ 8 := hd b0 (List.mem_of_getElem? e1)
      refine ⟨_, rfl, _, _, rfl, rfl, ⟨by decide, by decide, ?_⟩, _, rfl, _, _, rfl, rfl, some (.int b0), ?_, hs1⟩
      · rw [Int.natAbs_natCast]
        exact Nat.lt_of_lt_of_le (hgl i) (Nat.pow_le_pow_right (by decide) (by decide))
      · have e : Builtin.bitOr (((FrM.gather (data.take i) : Nat) : Int) * 2 ^ (8 : Int).toNat) (b0 : Int) = ((FrM.gather (data.take (i + 1)) : Nat) : Int) := by
          rw [show (8 : Int).toNat = 8 from rfl, ← FrM.pow_cast, ← Int.natCast_mul, FrM.or_add hb0, List.take_add_one, e1]
          show ((_ : Nat) : Int) = ((FrM.gather (data.take i ++ [b0]) : Nat) : Int)
          rw [gather_snoc]
        dsimp only
        rw [e]
        rfl
    · rintro σ H1 ⟨v3, rfl, hs1⟩
      rw [List.take_length]
      have hgd := hgl data.length
      rw [List.take_length] at hgd
      rw [FrM.values_read hd hs] at k
      generalize FrM.gather data = B at k hgd ⊢
      refine ⟨Nat.zero_le _, fun l hl => ?_⟩
      have s2 : Same H1 (upd H1 l (.lst [])) := Same.new hl
      refine ⟨_, rfl, b, _, rfl, s2.seq (hs1.seq hB), _, _, rfl, rfl, .inl ⟨by decide, by decide⟩, _, rfl, a, rfl, ⟨_, s2.seq (hs1.seq hA)⟩, for_gen (J := Itl K a) ws.length
        (fun i σ H' => ∃ v6 : Option V, σ = [some (.ref a), some (.ref b), some (.int (B : Nat)), v3, some (.ref l), some (.int ((8 * data.length - (ws.take i).sum : Nat) : Int)), v6] ∧ H' l = some (.lst (nv (FrM.valuesAt B (8 * data.length) (ws.take i)))) ∧ Same H1 H')
        ⟨none, ?_, upd_same, s2⟩ (fun i σ H' hi ⟨_, _, _, hs'⟩ => list_go (hs'.seq (hs1.seq hA)) (by rw [nv_length]; exact hi)) (fun σ H' ⟨_, _, _, hs'⟩ => list_stop (hs'.seq (hs1.seq hA)) (by rw [nv_length]; exact Nat.le_refl _)) ?_ ?_⟩
      · dsimp only
        rw [nv_length]
        have : (8 : Int) * (data.length : Nat) = ((8 * data.length - (ws.take 0).sum : Nat) : Int) := by simp
        rw [this]
        rfl
      · rintro i x σ H2 H' hi ⟨v6, rfl, hq, hs2⟩ hy
        obtain ⟨rfl, h1⟩ := hy
        obtain ⟨w0, e1, rfl⟩ := nv_some (h1 _ (hs2.seq (hs1.seq hA)))
        have etk : ws.take (i + 1) = ws.take i ++ [w0] := by rw [List.take_add_one, e1]; rfl
        have hsum : (ws.take (i + 1)).sum = (ws.take i).sum + w0 := by rw [etk, List.sum_append]; simp
        have hle := sum_take_le ws (i + 1)
        have hb0 : ((8 * data.length - (ws.take i).sum : Nat) : Int) - (w0 : Int) = ((8 * data.length - (ws.take (i + 1)).sum : Nat) : Int) := by omega
        refine ⟨_, rfl, _, rfl, _, _, rfl, rfl, _, rfl, .inl ⟨rfl, _, SqL.of hq⟩, _, rfl, _, rfl, _, _, rfl, rfl, (?_ : (0 : Int) ≤ _), _, rfl, _, _, rfl, rfl, ⟨by omega, by omega, ?_⟩, _, _, rfl, rfl, _, _, rfl, rfl, l, _, _, rfl, rfl, hq, ?_, some (.int w0), ?_, ?_, ?_⟩
        · rw [hb0]; omega
        · exact Nat.lt_of_lt_of_le (show 1 < 2 ^ 1 by decide) (Nat.pow_le_pow_right (by decide) (by decide))
        · rw [nv_length, values_length, List.length_take, sizeLine_eq]; omega
        · dsimp only
          rw [hb0]
          rfl
        · rw [upd_same]
          dsimp only
          have ev : Builtin.bitAnd ((B : Int) / 2 ^ (((8 * data.length - (ws.take i).sum : Nat) : Int) - (w0 : Int)).toNat) (1 * 2 ^ ((w0 : Nat) : Int).toNat - 1) = ((B / 2 ^ (8 * data.length - (ws.take i).sum - w0) % 2 ^ w0 : Nat) : Int) := by
            have e3 : (((8 * data.length - (ws.take i).sum : Nat) : Int) - (w0 : Int)).toNat = 8 * data.length - (ws.take i).sum - w0 := by omega
            rw [e3, Int.toNat_natCast, Int.one_mul, ← FrM.pow_cast, ← FrM.pow_cast, ← Int.natCast_ediv, FrM.and_mask]
          rw [ev, etk, values_snoc, nv_append]
          rfl
        · exact But.same hs2 hl But.upd
      · rintro σ H2 ⟨v6, rfl, hq, hs2⟩
        rw [List.take_length] at hq
        exact ⟨_, rfl, k H2 l (hs1.trans hs2) (hs1.free hl) hq⟩
end
end Fr
namespace Fr
open PySem PySem.Spec PyProof.Rows L2
theorem right_isSome {len : Nat} {l : List Nat} (hb : ∀ b ∈ l, b < 256) (hl : l.length = len + 6) :
    (Vbaval.rightFrame len l).isSome = decide (l.drop (len + 2) = Vbaval.two (Vbaval.sum (l.take (len + 2))) ++ l.take 2) := by
  have h0 := FrM.getD_lt hb (by decide) 0
  have h1 := FrM.getD_lt hb (by decide) 1
  have h2 := FrM.getD_lt hb (by decide) (len + 2)
  have h3 := FrM.getD_lt hb (by decide) (len + 3)
  have h4 := FrM.getD_lt hb (by decide) (len + 4)
  have h5 := FrM.getD_lt hb (by decide) (len + 5)
  have getE : ∀ i, i < l.length → l[i]? = some (l.getD i 0) := fun i hi => by
    rw [List.getD_eq_getElem?_getD, List.getElem?_eq_getElem hi]; rfl
  have ed : l.drop (len + 2) = [l.getD (len + 2) 0, l.getD (len + 3) 0, l.getD (len + 4) 0, l.getD (len + 5) 0] := by
    apply List.ext_getElem?
    intro i
    rw [List.getElem?_drop]
    by_cases hi : i < 4
    · have : i = 0 ∨ i = 1 ∨ i = 2 ∨ i = 3 := by omega
      rcases this with rfl | rfl | rfl | rfl
      · rw [getE _ (by omega)]; rfl
      · rw [show len + 2 + 1 = len + 3 by omega, getE _ (by omega)]; rfl
      · rw [show len + 2 + 2 = len + 4 by omega, getE _ (by omega)]; rfl
      · rw [show len + 2 + 3 = len + 5 by omega, getE _ (by omega)]; rfl
    · rw [List.getElem?_eq_none (by omega), List.getElem?_eq_none (by show 4 ≤ i; omega)]
  have et : l.take 2 = [l.getD 0 0, l.getD 1 0] := by
    apply List.ext_getElem?
    intro i
    by_cases hi : i < 2
    · rw [List.getElem?_take_of_lt hi]
      have : i = 0 ∨ i = 1 := by omega
      rcases this with rfl | rfl
      · rw [getE _ (by omega)]; rfl
      · rw [getE _ (by omega)]; rfl
    · rw [List.getElem?_eq_none (by rw [List.length_take]; omega), List.getElem?_eq_none (by show 2 ≤ i; omega)]
  rw [ed, et]
  have key : (Vbaval.rightFrame len l).isSome = true ↔ [l.getD (len + 2) 0, l.getD (len + 3) 0, l.getD (len + 4) 0, l.getD (len + 5) 0] = Vbaval.two (Vbaval.sum (l.take (len + 2))) ++ [l.getD 0 0, l.getD 1 0] := by
    rw [Option.isSome_iff_exists]
    show _ ↔ [_, _, _, _] = [_ , _, _, _]
    simp only [List.cons.injEq, and_true]
    constructor
    · rintro ⟨n, hn⟩
      obtain ⟨_, a2, a3, a4⟩ := FrM.right_iff.mp hn
      omega
    · rintro ⟨a1, a2, a3, a4⟩
      exact ⟨256 * l.getD 0 0 + l.getD 1 0, FrM.right_iff.mpr ⟨hl, rfl, by rw [a3, a4], by omega⟩⟩
  rw [Bool.eq_iff_iff, key, decide_eq_true_iff]
theorem right_len {len : Nat} {l : List Nat} (hl : l.length ≠ len + 6) : (Vbaval.rightFrame len l).isSome = false := by
  cases e : Vbaval.rightFrame len l with
  | none => rfl
  | some n => exact absurd (FrM.right_iff.mp e).1 hl
theorem ints_inj {a b : List Nat} : Vbaval.ints a = Vbaval.ints b ↔ a = b := by
  unfold Vbaval.ints
  constructor
  · intro h
    exact (List.map_inj_right (fun x y e => by omega)).mp h
  · intro h; rw [h]
section
variable {P : Program} {w : World} {K : PySem.W.Frag} {mg : Str → Option Value} {base : Heap}
def spFrame (K : PySem.W.Frag) : Sp := fun vs H Q _ => ∃ (n : Nat) (a b : Addr) (ws xs : List Nat) (len : Nat), vs = [.int n, .ref a, .ref b, .int len] ∧ n ≤ 65535 ∧ SqL K H a (nv ws) ∧ SqL K H b (nv xs) ∧ ws.length = xs.length ∧ (∀ p ∈ ws.zip xs, p.2 < 2 ^ p.1) ∧
  ws.sum ≤ 8 * len ∧ len ≤ 16 ∧ ws.length ≤ 1000 ∧
  ∀ head, head = Vbaval.two n ++ Vbaval.bytesOf len ((ws.zip xs).flatMap fun p => Vbaval.bitsOf p.1 p.2) → RetL H Q (nv (head ++ (Vbaval.two (Vbaval.sum head) ++ Vbaval.two n)))
theorem scFrame : FnScope ["number", "widths", "samples", "length", "head"] ["number", "widths", "samples", "length"] (defScope sFrame) := ⟨rfl, rfl, rfl, by decide +kernel, rfl, by decide +kernel, by decide +kernel⟩
theorem d_frame (F : FunD K mg "frame_bytes" sFrame) (T : Txt mg) (D2 : Def P w K mg base "two_bytes" 1 ["number"] spTwo) (DS : Def P w K mg base "sum_bytes" 2 ["head"] (spSum K)) (DP : Def P w K mg base "packed" 1 ["widths", "samples", "length"] (spPack K)) :
    Def P w K mg base "frame_bytes" 3 ["number", "widths", "samples", "length"] (spFrame K) := by
  obtain ⟨f, fd, F, hm⟩ := F
  refine ⟨f, fd, ?_, hm, F.kp, F.binds fun _ _ _ _ _ _ us hl => match us, hl with | [_, _, _, _], _ => rfl⟩
  refine F.ok scFrame (fun vs H Q E h => ?_) (fun cdv A outer s H vs Q E hr h => ?_)
  · obtain ⟨n, a, b, ws, xs, len, rfl, _⟩ := h
    rfl
  · obtain ⟨n, a, b, ws, xs, len, rfl, hn, hA, hB, hlen, hv, hs, hl16, hwl, k⟩ := h
    have nd := scFrame.nd
    have hr1 : Room 1 _ := hr.mono (by decide)
    refine ⟨_, pss_cons (ps_set (i := 4) nd rfl (Or.inl rfl) (pe_op op_cat (pe_fn D2 hr1 rfl (pa_cons (pv 0) pa_nil)) (pe_fn DP hr1 rfl (pa_cons (pv 1) (pa_cons (pv 2) (pa_cons (pv 3) pa_nil))))))
      (pss_one (ps_ret (pe_op op_cat (pe_op op_cat (pv 4) (pe_fn DS hr rfl (pa_cons (pv 4) pa_nil))) (pe_fn D2 hr1 rfl (pa_cons (pv 0) pa_nil))))), ?_⟩
    have hb := k _ rfl
    have hbl : (Vbaval.bytesOf len ((ws.zip xs).flatMap fun p => Vbaval.bitsOf p.1 p.2)).length = len := FrM.bytesOf_length _ _
    refine ⟨_, rfl, n, rfl, hn, fun H1 p1 s1 n1 e1 => ?_⟩
    refine ⟨_, rfl, _, rfl, _, rfl, a, b, ws, xs, len, rfl, s1.seq hA, s1.seq hB, hlen, hv, hs, hl16, hwl, fun H2 p2 s2 n2 e2 => ?_⟩
    refine ⟨p1, p2, _, _, rfl, rfl, s2 _ _ e1, e2, ?_, fun p3 n3 => ?_⟩
    · rw [nv_length, nv_length, hbl, sizeLine_eq]
      show 2 + len ≤ _
      omega
    · rw [← nv_append]
      generalize hhd : Vbaval.two n ++ Vbaval.bytesOf len ((ws.zip xs).flatMap fun p => Vbaval.bitsOf p.1 p.2) = head at hb ⊢
      have hhl : head.length = len + 2 := by
        rw [← hhd, List.length_append, hbl]
        show 2 + len = len + 2
        omega
      have s3 : Same H (upd H2 p3 (.lst (nv head))) := (s1.trans s2).and n3
      refine ⟨_, rfl, _, rfl, p3, head, rfl, SqL.of upd_same, fun H4 p4 s4 n4 e4 => ?_⟩
      refine ⟨p3, p4, _, _, rfl, rfl, s4 _ _ upd_same, e4, ?_, fun p5 n5 => ?_⟩
      · rw [nv_length, nv_length, hhl, sizeLine_eq]
        show len + 2 + 2 ≤ _
        omega
      · refine ⟨_, rfl, n, rfl, hn, fun H6 p6 s6 n6 e6 => ?_⟩
        refine ⟨p5, p6, _, _, rfl, rfl, s6 _ _ upd_same, e6, ?_, fun p7 n7 => ?_⟩
        · rw [List.length_append, nv_length, nv_length, nv_length, hhl, sizeLine_eq]
          show len + 2 + 2 + 2 ≤ _
          omega
        · have s7 : Same H H6 := (s3.trans s4).trans ((Same.new n5).trans s6)
          refine hb _ p7 (s7.and n7) (s7.free n7) ?_
          rw [upd_same, nv_append, nv_append, List.append_assoc]
def spRight (K : PySem.W.Frag) : Sp := fun vs H Q _ => ∃ (a : Addr) (l : List Nat) (len : Nat), vs = [.ref a, .int len] ∧ SqL K H a (nv l) ∧ (∀ b ∈ l, b < 256) ∧ len ≤ 16 ∧ l.length ≤ 10000 ∧ ∀ H', Same H H' → Q (.bl (Vbaval.rightFrame len l).isSome) H'
theorem scRight : FnScope ["frame", "length", "head"] ["frame", "length"] (defScope sRight) := ⟨rfl, rfl, rfl, by decide +kernel, rfl, by decide +kernel, by decide +kernel⟩
theorem d_right (F : FunD K mg "is_right_frame" sRight) (T : Txt mg) (DS : Def P w K mg base "sum_bytes" 2 ["head"] (spSum K)) : Def P w K mg base "is_right_frame" 3 ["frame", "length"] (spRight K) := by
  obtain ⟨f, fd, F, hm⟩ := F
  refine ⟨f, fd, ?_, hm, F.kp, F.binds fun _ _ _ _ _ _ us hl => match us, hl with | [_, _], _ => rfl⟩
  refine F.ok scRight (fun vs H Q E h => ?_) (fun cdv A outer s H vs Q E hr h => ?_)
  · obtain ⟨a, l, len, rfl, _⟩ := h
    rfl
  · obtain ⟨a, l, len, rfl, hA, hb, hl16, hll, k⟩ := h
    have nd := scRight.nd
    obtain ⟨t2, hH⟩ := T.HEAD
    obtain ⟨t4, hT⟩ := T.TAIL
    refine ⟨_, pss_cons (ps_if (pt_cmpR op_ne (pe_callB cr_len rfl T.len boot_len' (pa_cons (pv 0) pa_nil)) (pe_op op_add (pe_op op_add (pe_glob (v := .int 2) rfl hH ⟨_, rfl⟩) (pv 1)) (pe_glob (v := .int 4) rfl hT ⟨_, rfl⟩)) (nomark _)) (pss_one (ps_ret pe_bl)) pss_nil)
      (pss_cons (ps_set (i := 2) nd rfl (Or.inl rfl) (pe_slice sl_list (pv 0) po_none (po_some (pe_op op_add (pe_glob (v := .int 2) rfl hH ⟨_, rfl⟩) (pv 1)))))
      (pss_one (ps_ret (pe_cmpR (op_eqI hr.units) (pe_slice sl_list (pv 0) (po_some (pe_op op_add (pe_glob (v := .int 2) rfl hH ⟨_, rfl⟩) (pv 1))) po_none)
        (pe_op op_cat (pe_fn DS hr rfl (pa_cons (pv 2) pa_nil)) (pe_slice sl_list (pv 0) po_none (po_some (pe_glob (v := .int 2) rfl hH ⟨_, rfl⟩)))) (nomark _))))), ?_⟩
    refine ⟨_, rfl, a, _, rfl, hA, _, rfl, _, _, rfl, rfl, _, _, rfl, rfl, rfl, _, rfl, ite2 (fun c => ?_) (fun c => ?_)⟩
    · have := k H (Same.refl H)
      rw [right_len (fun q => ?_)] at this
      · exact this
      · rw [nv_length, q] at c
        have e : ((len + 6 : Nat) : Int) = 2 + (len : Int) + 4 := by omega
        rw [e] at c
        simp at c
    · have hl : l.length = len + 6 := by
        rw [nv_length] at c
        have c2 : (l.length : Int) = 2 + (len : Int) + 4 := by simpa using c
        omega
      have e2 : (2 : Int) + (len : Int) = ((len + 2 : Nat) : Int) := by omega
      refine ⟨_, rfl, _, rfl, _, _, rfl, rfl, _, rfl, a, _, rfl, hA, fun p1 n1 => ?_⟩
      have hA1 : SqL K (upd H p1 (.lst (cutV (nv l) none (some (2 + (len : Int)))))) a (nv l) := (Same.new n1).seq hA
      refine ⟨_, rfl, _, rfl, _, _, rfl, rfl, _, rfl, a, _, rfl, hA1, fun p2 n2 => ?_⟩
      have s2 := Same.new (o := .lst (cutV (nv l) (some (2 + (len : Int))) none)) n2
      refine ⟨_, rfl, p1, l.take (len + 2), rfl, SqL.of (s2 _ _ ?_), fun H3 p3 s3 n3 e3 => ?_⟩
      · rw [upd_same, e2, cut_hi, nv_take]
      · have s13 := (Same.new (o := .lst (cutV (nv l) none (some (2 + (len : Int))))) n1).trans (s2.trans s3)
        refine ⟨_, rfl, _, rfl, a, _, rfl, s13.seq hA, fun p4 n4 => ?_⟩
        have s4 := Same.new (o := .lst (cutV (nv l) none (some 2))) n4
        have ec2 : cutV (nv l) none (some 2) = nv (l.take 2) := by
          rw [show (2 : Int) = ((2 : Nat) : Int) from rfl, cut_hi, nv_take]
        refine ⟨p3, p4, _, _, rfl, rfl, s4 _ _ e3, upd_same, ?_, fun p5 n5 => ?_⟩
        · rw [ec2, nv_length, nv_length, List.length_take, sizeLine_eq]
          show 2 + _ ≤ _
          omega
        · refine ⟨p2, p5, Vbaval.ints (l.drop (len + 2)), Vbaval.ints (Vbaval.two (Vbaval.sum (l.take (len + 2))) ++ l.take 2), rfl, rfl, SqL.of ?_, SqL.of ?_, ?_⟩
          · rw [upd_ne (ne_of_none (s4 _ _ (s3 _ _ upd_same)) n5), ← nv_eq, s4 _ _ (s3 _ _ upd_same), e2, cut_lo, nv_drop]
          · rw [upd_same, ec2, ← nv_eq, nv_append]
          · rw [decide_eq_decide.mpr ints_inj, ← right_isSome hb hl]
            exact k _ (s13.trans (s4.trans (Same.new n5)))
def spNumber (K : PySem.W.Frag) : Sp := fun vs H Q _ => ∃ (a : Addr) (l : List Nat), vs = [.ref a] ∧ SqL K H a (nv l) ∧ 2 ≤ l.length ∧ (∀ b ∈ l, b < 256) ∧ ∀ H', Same H H' → Q (.int ((256 * l.getD 0 0 + l.getD 1 0 : Nat) : Int)) H'
theorem scNumber : FnScope ["frame"] ["frame"] (defScope sNumber) := ⟨rfl, rfl, rfl, by decide +kernel, rfl, by decide +kernel, by decide +kernel⟩
theorem d_number (F : FunD K mg "frame_number" sNumber) : Def P w K mg base "frame_number" 1 ["frame"] (spNumber K) := by
  obtain ⟨f, fd, F, hm⟩ := F
  refine ⟨f, fd, ?_, hm, F.kp, F.binds fun _ _ _ _ _ _ us hl => match us, hl with | [_], _ => rfl⟩
  refine F.ok scNumber (fun vs H Q E h => ?_) (fun cdv A outer s H vs Q E hr h => ?_)
  · obtain ⟨a, l, rfl, _⟩ := h
    rfl
  · obtain ⟨a, l, rfl, hA, h2, hb, k⟩ := h
    refine ⟨_, pss_one (ps_ret (pe_op op_add (pe_op op_mul (pe_ix ix_list (pv 0) pe_int (fun _ _ => rfl)) pe_int) (pe_ix ix_list (pv 0) pe_int (fun _ _ => rfl)))), ?_⟩
    have getE : ∀ i, i < l.length → (nv l)[i]? = some (.int (l.getD i 0 : Nat)) := fun i hi => by
      rw [nv_get, List.getD_eq_getElem?_getD, List.getElem?_eq_getElem hi]; rfl
    have h0 := FrM.getD_lt hb (by decide) 0
    refine ⟨_, rfl, a, _, _, _, rfl, rfl, hA, at_of (j := 0) rfl (getE 0 (by omega)), _, _, rfl, rfl, .inl ⟨by omega, by omega⟩, _, rfl, a, _, _, _, rfl, rfl, hA, at_of (j := 1) rfl (getE 1 (by omega)), _, _, rfl, rfl, ?_⟩
    have := k H (Same.refl H)
    have e : ((256 * l.getD 0 0 + l.getD 1 0 : Nat) : Int) = ((l.getD 0 0 : Nat) : Int) * 256 + ((l.getD 1 0 : Nat) : Int) := by omega
    rw [e] at this
    exact this
def spValues (K : PySem.W.Frag) : Sp := fun vs H Q _ => ∃ (a b : Addr) (l ws : List Nat) (len : Nat), vs = [.ref a, .ref b, .int len] ∧ SqL K H a (nv l) ∧ SqL K H b (nv ws) ∧ l.length = len + 6 ∧ (∀ x ∈ l, x < 256) ∧ len ≤ 16 ∧ ws.sum ≤ 8 * len ∧ ws.length ≤ 1000 ∧
  RetL H Q (nv (Vbaval.valuesOf ws (((l.drop 2).take len).flatMap (Vbaval.bitsOf 8))))
theorem scValues : FnScope ["frame", "widths", "length"] ["frame", "widths", "length"] (defScope sValues) := ⟨rfl, rfl, rfl, by decide +kernel, rfl, by decide +kernel, by decide +kernel⟩
theorem d_values (F : FunD K mg "frame_values" sValues) (T : Txt mg) (DU : Def P w K mg base "unpacked" 1 ["widths", "data"] (spUnpack K)) : Def P w K mg base "frame_values" 2 ["frame", "widths", "length"] (spValues K) := by
  obtain ⟨f, fd, F, hm⟩ := F
  refine ⟨f, fd, ?_, hm, F.kp, F.binds fun _ _ _ _ _ _ us hl => match us, hl with | [_, _, _], _ => rfl⟩
  refine F.ok scValues (fun vs H Q E h => ?_) (fun cdv A outer s H vs Q E hr h => ?_)
  · obtain ⟨a, b, l, ws, len, rfl, _⟩ := h
    rfl
  · obtain ⟨a, b, l, ws, len, rfl, hA, hB, hl, hb, hl16, hs, hwl, k⟩ := h
    obtain ⟨t2, hH⟩ := T.HEAD
    refine ⟨_, pss_one (ps_ret (pe_fn DU hr rfl (pa_cons (pv 1) (pa_cons (pe_slice sl_list (pv 0) (po_some (pe_glob (v := .int 2) rfl hH ⟨_, rfl⟩)) (po_some (pe_op op_add (pe_glob (v := .int 2) rfl hH ⟨_, rfl⟩) (pv 2)))) pa_nil)))), ?_⟩
    have hdl : ((l.drop 2).take len).length = len := by rw [List.length_take, List.length_drop]; omega
    refine ⟨_, rfl, _, rfl, _, rfl, _, rfl, _, _, rfl, rfl, _, rfl, a, _, rfl, hA, fun p1 n1 => ⟨b, p1, ws, (l.drop 2).take len, rfl, (Same.new n1).seq hB, SqL.of ?_, fun x hx => hb x (List.mem_of_mem_drop (List.mem_of_mem_take hx)), by omega, by omega, hwl, fun H2 p2 s2 n2 e2 => ?_⟩⟩
    · have e2 : (2 : Int) + (len : Int) = ((len + 2 : Nat) : Int) := by omega
      rw [upd_same, e2, show (2 : Int) = ((2 : Nat) : Int) from rfl, cut_mid, nv_drop, nv_take, Nat.add_sub_cancel]
    · exact k H2 p2 ((Same.new n1).trans s2) ((Same.new n1).free n2) e2
end
end Fr
namespace Fr
open PySem PySem.Spec PyProof.Rows L2
/-- a list of frames told stands at a: pairs of a number and a list of values -/
def ToldAt (H : Hp) (a : Addr) (ts : List Vbaval.Told) : Prop := ∃ as : List (Addr × Addr), H a = some (.lst (as.map fun p => .ref p.1)) ∧ as.length = ts.length ∧
  ∀ (i : Nat) (p : Addr × Addr) (t : Vbaval.Told), as[i]? = some p → ts[i]? = some t → H p.1 = some (.tup [.int (t.number : Nat), .ref p.2]) ∧ H p.2 = some (.lst (nv t.values))
section
variable {P : Program} {w : World} {K : PySem.W.Frag} {mg : Str → Option Value} {base : Heap}
def spTold : Sp := fun vs H Q _ => ∃ (a : Addr) (ts : List Vbaval.Told), vs = [.ref a] ∧ ToldAt H a ts ∧ (Vbaval.toldRows ts).length ≤ 10000000 ∧ RetL H Q (iv (Vbaval.toldRows ts))
theorem scTold : FnScope ["frames", "told", "expected", "number", "samples", "missing"] ["frames"] (defScope sTold) := ⟨rfl, rfl, rfl, by decide +kernel, rfl, by decide +kernel, by decide +kernel⟩
def expV : Option Nat → V
  | none => .non
  | some k => .int ((k : Int) + 1)
def missV (n : Nat) : Option Nat → Int
  | none => 0
  | some k => (n : Int) - (k : Int) - 1
theorem d_told (F : FunD K mg "frames_told" sTold) (T : Txt mg) : Def P w K mg base "frames_told" 1 ["frames"] spTold := by
  obtain ⟨f, fd, F, hm⟩ := F
  refine ⟨f, fd, ?_, hm, F.kp, F.binds fun _ _ _ _ _ _ us hl => match us, hl with | [_], _ => rfl⟩
  refine F.ok scTold (fun vs H Q E h => ?_) (fun cdv A outer s H vs Q E hr h => ?_)
  · obtain ⟨a, ts, rfl, _⟩ := h
    rfl
  · obtain ⟨a, ts, rfl, ⟨as, hA, hlen, hI⟩, hsz, k⟩ := h
    have nd := scTold.nd
    refine ⟨_, pss_cons (ps_set (i := 1) nd rfl (Or.inl rfl) (pe_lst (pa_cons (pe_callB cr_len rfl T.len boot_len' (pa_cons (pv 0) pa_nil)) pa_nil)))
      (pss_cons (ps_set (i := 2) nd rfl (Or.inl rfl) pe_non)
      (pss_cons (ps_for PassesOwn.never rfl (pi_list (pv 0)) (pg_pair (K := K) rfl rfl (pg_name (i := 3) nd rfl (Or.inl rfl) (Or.inr rfl)) (pg_name (i := 4) nd rfl (Or.inl rfl) (Or.inr rfl)))
        (pss_cons (ps_set (i := 5) nd rfl (Or.inl rfl) (pe_ifExp (pt_cmpR op_isN (pv 2) pe_non (nomark _)) pe_int (pe_op op_sub (pv 3) (pv 2))))
        (pss_cons (ps_expr (pe_bm PySem.F.plainAttrs_list PySem.F.slot_list_extend PySem.F.type_list_extend mt_extend (pv 1) (pa_cons (pe_lst (pa_cons (pv 3) (pa_cons (pv 5) (pa_cons (pe_callB cr_len rfl T.len boot_len' (pa_cons (pv 4) pa_nil)) pa_nil)))) pa_nil)))
        (pss_cons (ps_expr (pe_bm PySem.F.plainAttrs_list PySem.F.slot_list_extend PySem.F.type_list_extend mt_extend (pv 1) (pa_cons (pv 4) pa_nil)))
        (pss_one (ps_set (i := 2) nd rfl (Or.inl rfl) (pe_op op_add (pv 3) pe_int)))))))
      (pss_one (ps_ret (pv 1))))), ?_⟩
    refine ⟨_, rfl, a, _, rfl, SqL.of hA, (by show 1 ≤ sizeLine; decide), fun l hl => ?_⟩
    have hrows : ∀ out m i, Vbaval.toldFrom none ts = out ++ Vbaval.toldFrom m (ts.drop i) → out.length + 1 ≤ 10000000 := fun out m i e => by
      have h1 : (Vbaval.toldRows ts).length = (Vbaval.toldFrom none ts).length + 1 := rfl
      rw [e, List.length_append] at h1
      omega
    refine ⟨_, rfl, a, rfl, ⟨_, SqL.of ((Same.new hl) _ _ hA)⟩, for_gen (J := Itl K a) ts.length (fun i σ H' => ∃ (v3 v4 v5 : Option V) (out : List Int) (m : Option Nat), σ = [some (.ref a), some (.ref l), some (expV m), v3, v4, v5] ∧
      H' l = some (.lst (iv ((ts.length : Int) :: out))) ∧ Vbaval.toldFrom none ts = out ++ Vbaval.toldFrom m (ts.drop i) ∧ Same H H')
      ⟨none, none, none, [], none, rfl, ?_, rfl, Same.new hl⟩ (fun i σ H' hi ⟨_, _, _, _, _, _, _, _, hs'⟩ => list_go (SqL.of (hs' _ _ hA)) (by rw [List.length_map]; omega)) (fun σ H' ⟨_, _, _, _, _, _, _, _, hs'⟩ => list_stop (SqL.of (hs' _ _ hA)) (by rw [List.length_map]; omega)) ?_ ?_⟩
    · rw [upd_same]
      rw [List.length_map, hlen]
      rfl
    · rintro i x σ H1 H' hi ⟨v3, v4, v5, out, m, rfl, hq, heq, hs1⟩ hy
      obtain ⟨rfl, h1⟩ := hy
      have h1' := h1 _ (SqL.of (hs1 _ _ hA))
      rw [List.getElem?_map] at h1'
      obtain ⟨p, hp, rfl⟩ : ∃ p, as[i]? = some p ∧ x = V.ref p.1 := by
        cases e : as[i]? with
        | none => rw [e] at h1'; cases h1'
        | some p => rw [e] at h1'; exact ⟨p, rfl, (Option.some.inj h1').symm⟩
      obtain ⟨t, ht⟩ : ∃ t, ts[i]? = some t := ⟨_, List.getElem?_eq_getElem hi⟩
      obtain ⟨hp1, hp2⟩ := hI i p t hp ht
      have hdrop : ts.drop i = t :: ts.drop (i + 1) := by
        rw [List.drop_eq_getElem_cons hi]
        congr 1
        exact Option.some.inj ((List.getElem?_eq_getElem hi).symm.trans ht)
      rw [hdrop] at heq
      -- the number that is missing
      have miss : ∃ z : Int, z = missV t.number m := ⟨_, rfl⟩
      obtain ⟨z, hz⟩ := miss
      have heq2 : Vbaval.toldFrom none ts = (out ++ ([(t.number : Int), z, (t.values.length : Int)] ++ Vbaval.ints t.values)) ++ Vbaval.toldFrom (some t.number) (ts.drop (i + 1)) := by
        have e0 : Vbaval.toldFrom m (t :: ts.drop (i + 1)) = (t.number : Int) :: missV t.number m :: (Vbaval.listed (Vbaval.ints t.values) ++ Vbaval.toldFrom (some t.number) (ts.drop (i + 1))) := by cases m <;> rfl
        have e1 : Vbaval.listed (Vbaval.ints t.values) = (t.values.length : Int) :: Vbaval.ints t.values := by
          unfold Vbaval.listed Vbaval.ints
          rw [List.length_map]
        rw [heq, e0, e1, ← hz]
        simp
      have hb2 := hrows _ _ _ heq2
      have rest : ∀ (q : V), q = V.int z → tSeq (tDrop (tBM K "list" rExtend (tVar 1) (tCons (tLst (tCons (tVar 3) (tCons (tVar 5) (tCons (tCB (rLen K) (tCons (tVar 4) tNil)) tNil)))) tNil)))
          (tSeq (tDrop (tBM K "list" rExtend (tVar 1) (tCons (tVar 4) tNil))) (tAsg (tOp (rI0 fun i j => .int (i + j)) (tVar 3) (tC (.int 1))) (gName 2)))
          { nx := fun σ H' => ∃ (v3 v4 v5 : Option V) (out : List Int) (m : Option Nat), σ = [some (.ref a), some (.ref l), some (expV m), v3, v4, v5] ∧ H' l = some (.lst (iv ((ts.length : Int) :: out))) ∧ Vbaval.toldFrom none ts = out ++ Vbaval.toldFrom m (ts.drop (i + 1)) ∧ Same H H', rt := Q,
            bk := tRet (tVar 1) { nx := fun x H' => Q V.non H', rt := Q }, ct := fun σ H' => ∃ (v3 v4 v5 : Option V) (out : List Int) (m : Option Nat), σ = [some (.ref a), some (.ref l), some (expV m), v3, v4, v5] ∧ H' l = some (.lst (iv ((ts.length : Int) :: out))) ∧ Vbaval.toldFrom none ts = out ++ Vbaval.toldFrom m (ts.drop (i + 1)) ∧ Same H H' }
          [some (.ref a), some (.ref l), some (expV m), some (.int (t.number : Nat)), some (.ref p.2), some q] H' := by
        rintro q rfl
        refine ⟨_, rfl, .inl ⟨rfl, _, SqL.of hq⟩, _, rfl, _, rfl, _, rfl, p.2, _, rfl, SqL.of (hs1 _ _ hp2), (by show 3 ≤ sizeLine; decide), fun b nb => ?_⟩
        refine ⟨l, b, _, _, rfl, rfl, (Same.new nb) _ _ hq, upd_same, ?_, ?_⟩
        · rw [iv_length, sizeLine_eq]
          rw [List.length_append, List.length_append] at hb2
          show out.length + 1 + 3 ≤ _
          have : ([(t.number : Int), z, (t.values.length : Int)] : List Int).length = 3 := rfl
          omega
        · have nlp : p.2 ≠ l := fun e => by
            have h2 := hs1 _ _ hp2
            have h3 := (ne_of_none hp2 hl)
            exact h3 e
          refine ⟨_, rfl, .inl ⟨rfl, _, SqL.of upd_same⟩, _, rfl, l, p.2, _, nv t.values, rfl, rfl, upd_same, ?_, ?_, ?_⟩
          · rw [upd_ne nlp]
            exact (Same.new nb) _ _ (hs1 _ _ hp2)
          · rw [List.length_append, iv_length, nv_length, sizeLine_eq]
            rw [List.length_append, List.length_append] at hb2
            show out.length + 1 + 3 + _ ≤ _
            have e3 : ([(t.number : Int), z, (t.values.length : Int)] : List Int).length = 3 := rfl
            have e4 : (Vbaval.ints t.values).length = t.values.length := List.length_map ..
            omega
          · refine ⟨_, rfl, _, _, rfl, rfl, some (.int (t.number : Nat)), some (.ref p.2), some (.int z), _, some t.number, rfl, ?_, heq2, ?_⟩
            · rw [upd_same, nv_length, nv_eq]
              unfold iv
              simp
            · exact fun c o e => by
                have hc : c ≠ l := ne_of_none e hl
                rw [upd_ne hc, upd_ne hc]
                exact (Same.new nb) _ _ (hs1 _ _ e)
      cases m with
      | none => exact ⟨p.1, _, rfl, SqT.of (hs1 _ _ hp1), rfl, _, _, rfl, _, _, rfl, rfl, _, rfl, rfl, _, rfl, rest (.int 0) (by rw [hz]; rfl)⟩
      | some m0 => exact ⟨p.1, _, rfl, SqT.of (hs1 _ _ hp1), rfl, _, _, rfl, _, _, rfl, rfl, _, rfl, rfl, _, rfl, _, rfl, _, rfl, _, _, rfl, rfl, rest (.int _) (by rw [hz]; show V.int _ = V.int ((t.number : Int) - (m0 : Int) - 1); congr 1; omega)⟩
    · rintro σ H1 ⟨v3, v4, v5, out, m, rfl, hq, heq, hs1⟩
      refine ⟨_, rfl, k H1 l hs1 hl ?_⟩
      rw [hq]
      rw [List.drop_length] at heq
      have : Vbaval.toldFrom m [] = [] := by cases m <;> rfl
      rw [this, List.append_nil] at heq
      show some (HO.lst (iv ((ts.length : Int) :: out))) = some (HO.lst (iv ((ts.length : Int) :: Vbaval.toldFrom none ts)))
      rw [heq]
end
end Fr
namespace Fr
open PySem PySem.Spec PyProof.Rows L2
def pf (p : Vbaval.Param) : List (Str × V) := fl [("width", .int (p.width : Nat)), ("period", .int (p.period : Nat)), ("phase", .int (p.phase : Nat))]
def ParAt (C : Addr) (H : Hp) (a : Addr) (p : Vbaval.Param) : Prop := ∃ dx, H a = some (.ins C dx (pf p))
/-- the list of parameters stands at a -/
def ParsAt (C : Addr) (H : Hp) (a : Addr) (ps : List Vbaval.Param) : Prop := ∃ as : List Addr, H a = some (.lst (as.map V.ref)) ∧ as.length = ps.length ∧ ∀ (i : Nat) (b : Addr) (p : Vbaval.Param), as[i]? = some b → ps[i]? = some p → ParAt C H b p
theorem _root_.L2.Same.pars {C : Addr} {H H' : Hp} {a : Addr} {ps : List Vbaval.Param} (s : Same H H') (h : ParsAt C H a ps) : ParsAt C H' a ps := by
  obtain ⟨as, h1, h2, h3⟩ := h
  exact ⟨as, s _ _ h1, h2, fun i b p e1 e2 => let ⟨dx, e⟩ := h3 i b p e1 e2; ⟨dx, s _ _ e⟩⟩
structure TxtP (K : PySem.W.Frag) (C : Addr) : Prop where
  cl : Cls K C
  nW : NoAttr K C "width"
  nP : NoAttr K C "period"
  nF : NoAttr K C "phase"
theorem ref_some {as : List Addr} {i : Nat} {x : V} (h : (as.map V.ref)[i]? = some x) : ∃ b, as[i]? = some b ∧ x = V.ref b := by
  rw [List.getElem?_map] at h
  cases e : as[i]? with
  | none => rw [e] at h; cases h
  | some b => rw [e] at h; exact ⟨b, rfl, (Option.some.inj h).symm⟩
section
variable {P : Program} {w : World} {K : PySem.W.Frag} {mg : Str → Option Value} {base : Heap} {C : Addr}
def spParInit (C : Addr) : Sp := fun vs H Q _ => ∃ (a dx : Addr) (x y z : Int), vs = [.ref a, .int x, .int y, .int z] ∧ H a = some (.ins C dx []) ∧ ∀ H', H' a = some (.ins C dx (fl [("width", .int x), ("period", .int y), ("phase", .int z)])) → But a H H' → Q .non H'
theorem scParInit : FnScope ["self", "width", "period", "phase"] ["self", "width", "period", "phase"] (defScope sParInit) := ⟨rfl, rfl, rfl, by decide +kernel, rfl, by decide +kernel, by decide +kernel⟩
theorem d_parInit (F : FunC K mg C "Parameter" "Parameter.__init__" sParInit) (T : TxtP K C) : DefC P w K mg base C "Parameter" 1 ["self", "width", "period", "phase"] (spParInit C) := by
  obtain ⟨f, fd, F, M, hm⟩ := F
  refine ⟨f, fd, ?_, M, hm, F.binds fun _ _ _ _ _ _ us hl => match us, hl with | [_, _, _, _], _ => rfl⟩
  refine F.ok scParInit (fun vs H Q E h => ?_) (fun cdv A outer s H vs Q E hr h => ?_)
  · obtain ⟨a, dx, x, y, z, rfl, _⟩ := h
    rfl
  · obtain ⟨a, dx, x, y, z, rfl, hA, k⟩ := h
    refine ⟨_, pss_cons (ps_fld (pv 0) (pv 1) rfl) (pss_cons (ps_fld (pv 0) (pv 2) rfl) (pss_one (ps_fld (pv 0) (pv 3) rfl))), ?_⟩
    refine ⟨_, rfl, _, rfl, a, C, dx, _, rfl, hA, T.cl, T.nW, (by show 0 < 1000; decide), ?_⟩
    refine ⟨_, rfl, _, rfl, a, C, dx, _, rfl, upd_same, T.cl, T.nP, (by show 1 < 1000; decide), ?_⟩
    refine ⟨_, rfl, _, rfl, a, C, dx, _, rfl, upd_same, T.cl, T.nF, (by show 2 < 1000; decide), ?_⟩
    rw [upd_upd, upd_upd]
    exact k _ upd_same But.upd
def spParIn (C : Addr) : Sp := fun vs H Q _ => ∃ (a : Addr) (p : Vbaval.Param) (n : Nat), vs = [.ref a, .int n] ∧ ParAt C H a p ∧ 0 < p.period ∧ Q (.bl (n % p.period == p.phase)) H
theorem scParIn : FnScope ["self", "number"] ["self", "number"] (defScope sParIn) := ⟨rfl, rfl, rfl, by decide +kernel, rfl, by decide +kernel, by decide +kernel⟩
theorem d_parIn (F : FunM K C "is_in_frame" "Parameter.is_in_frame" sParIn) (T : TxtP K C) : DefM P w K mg base C "is_in_frame" 1 ["self", "number"] (spParIn C) := by
  obtain ⟨f, fd, F, hm⟩ := F
  refine ⟨f, fd, ?_, hm, F.binds fun _ _ _ _ _ _ us hl => match us, hl with | [_, _], _ => rfl⟩
  refine F.ok scParIn (fun vs H Q E h => ?_) (fun cdv A outer s H vs Q E hr h => ?_)
  · obtain ⟨a, p, n, rfl, _⟩ := h
    rfl
  · obtain ⟨a, p, n, rfl, ⟨dx, hA⟩, hp, k⟩ := h
    refine ⟨_, pss_one (ps_ret (pe_cmpR op_eq (pe_op op_mod (pv 1) (pe_fld (pv 0) rfl)) (pe_fld (pv 0) rfl) (nomark _))), ?_⟩
    refine ⟨_, rfl, _, rfl, a, C, dx, _, _, rfl, hA, T.cl, T.nP, rfl, _, _, rfl, rfl, (?_ : (0 : Int) < _), _, rfl, a, C, dx, _, _, rfl, hA, T.cl, T.nF, rfl, rfl, ?_⟩
    · omega
    · have e : decide (V.int ((n : Int) % (p.period : Nat)) = V.int (p.phase : Nat)) = (n % p.period == p.phase) := by
        rw [dec_int, Bool.eq_iff_iff, beq_iff_eq, beq_iff_eq]
        omega
      rw [← e] at k
      exact k
def thr (l : List Int) (i : Nat) : List Int := (l.drop (3 * i)).take 3
def ThreesAt (H : Hp) (a : Addr) (l : List Int) (m : Nat) : Prop := ∃ as : List Addr, H a = some (.lst (as.map V.ref)) ∧ as.length = m ∧ ∀ (i : Nat) (b : Addr), as[i]? = some b → H b = some (.lst (iv (thr l i)))
def spThrees (K : PySem.W.Frag) : Sp := fun vs H Q _ => ∃ (a : Addr) (l : List Int) (m : Nat), vs = [.ref a] ∧ SqL K H a (iv l) ∧ l.length = 3 * m ∧ m ≤ 1000 ∧ ∀ H' p, Same H H' → ThreesAt H' p l m → Q (.ref p) H'
theorem scThrees : FnScope ["numbers", "start"] ["numbers"] (defScope sThrees) := ⟨rfl, rfl, rfl, by decide +kernel, rfl, by decide +kernel, by decide +kernel⟩
theorem small_three {b k : Int} (h0 : 0 ≤ b) (h1 : b < 2 ^ 62) (hk : Builtin.Range.rangeSize 0 b 3 = k) (k0 : 0 ≤ k) (k1 : k < 2 ^ 62) : Builtin.Range.small 0 b 3 = true := by
  unfold Builtin.Range.small
  rw [hk]
  simp only [Builtin.Range.rangeFitsLong, Bool.and_eq_true, Bool.or_eq_true, decide_eq_true_eq, beq_iff_eq, show (3 : Int) > 0 by decide, if_true]
  omega
theorem RgC.three {m : Nat} (hm : m ≤ 1000) : RgC 0 ((3 * m : Nat) : Int) 3 m := by
  have hsz : Builtin.Range.rangeSize 0 ((3 * m : Nat) : Int) 3 = (m : Int) := by
    unfold Builtin.Range.rangeSize
    simp only [show (3 : Int) > 0 by decide, if_true]
    split <;> omega
  exact ⟨by decide, by decide, small_three (by omega) (by omega) hsz (by omega) (by omega), hsz⟩
theorem d_threes (F : FunD K mg "threes" sThrees) (T : Txt mg) : Def P w K mg base "threes" 1 ["numbers"] (spThrees K) := by
  obtain ⟨f, fd, F, hm⟩ := F
  refine ⟨f, fd, ?_, hm, F.kp, F.binds fun _ _ _ _ _ _ us hl => match us, hl with | [_], _ => rfl⟩
  refine F.ok scThrees (fun vs H Q E h => ?_) (fun cdv A outer s H vs Q E hr h => ?_)
  · obtain ⟨a, l, m, rfl, _⟩ := h
    rfl
  · obtain ⟨a, l, m, rfl, hA, hl, hm', k⟩ := h
    have nd := scThrees.nd
    refine ⟨_, pss_one (ps_ret (pe_lc rfl nd (pi_range3 rfl T.range (pa_cons pe_int (pa_cons (pe_callB cr_len rfl T.len boot_len' (pa_cons (pv 0) pa_nil)) (pa_cons pe_int pa_nil)))) (blkOk_by (own := [("start", 1)]) (by rfl))
      (fun _ _ _ _ _ => pg_name (i := 1) nd rfl (Or.inl rfl) (Or.inr rfl)) (fun _ _ _ _ _ => pts_nil)
      (fun _ _ _ _ _ => pe_slice (sl_listK (K := K) rfl) (pv 0) (po_some (pv 1)) (po_some (pe_op op_add (pv 1) pe_int))))), ?_⟩
    refine ⟨_, rfl, a, _, rfl, hA, _, _, _, m, rfl, ?_, fun D hD => lc_gen (J := Itc _ _ _) m (fun i acc H' => ∃ as : List Addr, acc = as.map V.ref ∧ as.length = i ∧ ∀ (j : Nat) (b : Addr), as[j]? = some b → b ≠ D ∧ H' b = some (.lst (iv (thr l j)))) hD
      (fun i H' hi _ => hi) (fun H' _ => Nat.le_refl _) ⟨[], rfl, rfl, fun j b e => by simp at e⟩ ?_ ?_⟩
    · rw [iv_length, hl]; exact RgC.three hm'
    · intro i x H1 H' acc hi hs hacc hln ⟨as, ea, el, hR⟩ hy
      obtain ⟨rfl, rfl⟩ := hy
      refine ⟨rfl, _, rfl, _, rfl, _, rfl, _, rfl, _, _, rfl, rfl, _, rfl, a, _, rfl, hs.seq hA, fun p np => lc_yes hD (by omega) hs hacc hln (Same.new np) ⟨as ++ [p], ?_, ?_, fun j b e => ?_⟩⟩
      · rw [ea, List.map_append]; rfl
      · rw [List.length_append, el]; rfl
      · have pD : p ≠ D := fun q => by rw [q, hacc] at np; cases np
        by_cases hj : j < as.length
        · rw [List.getElem?_append_left hj] at e
          obtain ⟨h1, h2⟩ := hR j b e
          exact ⟨h1, by rw [upd_ne h1]; exact (Same.new np) _ _ h2⟩
        · rw [List.getElem?_append_right (by omega)] at e
          have hj0 : j - as.length = 0 := by
            by_cases q : j - as.length = 0
            · exact q
            · rw [List.getElem?_eq_none (by show 1 ≤ j - as.length; omega)] at e; cases e
          rw [hj0] at e
          have e' : p = b := Option.some.inj e
          subst e'
          have hji : j = i := by omega
          refine ⟨pD, ?_⟩
          rw [upd_ne pD, upd_same, hji]
          have e3 : (0 : Int) + ((i : Nat) : Int) * 3 = ((3 * i : Nat) : Int) := by omega
          have e4 : ((0 : Int) + ((i : Nat) : Int) * 3) + 3 = ((3 * i + 3 : Nat) : Int) := by omega
          rw [e4, e3, cut_mid, iv_drop, iv_take, show 3 * i + 3 - 3 * i = 3 by omega]
          rfl
    · intro H' acc hln hs hacc ⟨as, ea, el, hR⟩
      exact k H' D hs ⟨as, by rw [hacc, ea], el, fun j b e => (hR j b e).2⟩
end
end Fr
namespace Fr
open PySem PySem.Spec PyProof.Rows L2
def ok3 (w p f : Int) : Bool := Vbaval.within w 1 16 && ([1, 2, 4, 8, 16].contains p && Vbaval.within f 0 (p - 1))
theorem thr_eq {l : List Int} {m i : Nat} (hl : l.length = 3 * m) (hi : i < m) : thr l i = [l.getD (3 * i) 0, l.getD (3 * i + 1) 0, l.getD (3 * i + 2) 0] := by
  have getE : ∀ j, j < l.length → l[j]? = some (l.getD j 0) := fun j hj => by
    rw [List.getD_eq_getElem?_getD, List.getElem?_eq_getElem hj]; rfl
  apply List.ext_getElem?
  intro j
  unfold thr
  by_cases hj : j < 3
  · rw [List.getElem?_take_of_lt hj, List.getElem?_drop]
    have : j = 0 ∨ j = 1 ∨ j = 2 := by omega
    rcases this with rfl | rfl | rfl
    · rw [Nat.add_zero, getE _ (by omega)]; rfl
    · rw [getE _ (by omega)]; rfl
    · rw [getE _ (by omega)]; rfl
  · rw [List.getElem?_eq_none (by rw [List.length_take]; omega), List.getElem?_eq_none (by show 3 ≤ j; omega)]
theorem ok3_at (l : List Int) (i : Nat) : ok3 (l.getD (3 * i) 0) (l.getD (3 * i + 1) 0) (l.getD (3 * i + 2) 0) = FrM.okAt l i := rfl
/-- the periods, an object of the module -/
def Periods (K : PySem.W.Frag) (mg : Str → Option Value) : Prop := ∃ pa, mg "PERIODS" = some (.ref pa) ∧ ∀ H : Hp, SqT K H pa (iv [1, 2, 4, 8, 16])
theorem in_periods (p : Int) : inV (.int p) (iv [1, 2, 4, 8, 16]) = [1, 2, 4, 8, 16].contains p := by
  unfold inV iv
  rw [List.any_map, Bool.eq_iff_iff, List.any_eq_true, List.contains_iff_mem]
  constructor
  · rintro ⟨x, hx, e⟩
    have e' : (x == p) = true := e
    rw [beq_iff_eq] at e'
    rw [← e']; exact hx
  · intro h
    exact ⟨p, h, by show (p == p) = true; exact beq_self_eq_true p⟩
section
variable {P : Program} {w : World} {K : PySem.W.Frag} {mg : Str → Option Value} {base : Heap} {C : Addr}
def spIsPar (K : PySem.W.Frag) : Sp := fun vs H Q _ => ∃ (a : Addr) (x y z : Int), vs = [.ref a] ∧ SqL K H a (iv [x, y, z]) ∧ Q (.bl (ok3 x y z)) H
theorem scIsPar : FnScope ["three"] ["three"] (defScope sIsPar) := ⟨rfl, rfl, rfl, by decide +kernel, rfl, by decide +kernel, by decide +kernel⟩
theorem d_isPar (F : FunD K mg "is_parameter" sIsPar) (T : Txt mg) (TP : Periods K mg) : Def P w K mg base "is_parameter" 1 ["three"] (spIsPar K) := by
  obtain ⟨f, fd, F, hm⟩ := F
  refine ⟨f, fd, ?_, hm, F.kp, F.binds fun _ _ _ _ _ _ us hl => match us, hl with | [_], _ => rfl⟩
  refine F.ok scIsPar (fun vs H Q E h => ?_) (fun cdv A outer s H vs Q E hr h => ?_)
  · obtain ⟨a, x, y, z, rfl, _⟩ := h
    rfl
  · obtain ⟨a, x, y, z, rfl, hA, k⟩ := h
    obtain ⟨tW, hW⟩ := T.WIDEST
    obtain ⟨pa, hP, hS⟩ := TP
    refine ⟨_, pss_one (ps_ret (pe_and (pe_chain op_le op_le pe_int (pe_ix ix_list (pv 0) pe_int (fun _ _ => rfl)) (pe_glob (v := .int 16) rfl hW ⟨_, rfl⟩))
      (pe_and (pe_cmpR op_in_seq (pe_ix ix_list (pv 0) pe_int (fun _ _ => rfl)) (pe_glob (v := .ref pa) rfl hP rfl) rfl)
      (pe_one (pe_chain op_le op_lt pe_int (pe_ix ix_list (pv 0) pe_int (fun _ _ => rfl)) (pe_ix ix_list (pv 0) pe_int (fun _ _ => rfl))))))), ?_⟩
    have fin : ∀ c, c = ok3 x y z → Q (.bl c) H := fun c e => by rw [e]; exact k
    have third : Vbaval.within x 1 16 = true → [1, 2, 4, 8, 16].contains y = true → tChain (rI0 fun i j => .bl (decide (i ≤ j))) (rI0 fun i j => .bl (decide (i < j))) (tC (.int 0)) (tOp (rIxL K) (tVar 0) (tC (.int 2))) (tOp (rIxL K) (tVar 0) (tC (.int 1))) [some (.ref a)] H Q := fun h1 h2 => by
      refine ⟨_, rfl, a, _, _, _, rfl, rfl, hA, at_of (j := 2) rfl rfl, _, _, rfl, rfl, _, rfl, ite2 (fun c => ⟨_, rfl, a, _, _, _, rfl, rfl, hA, at_of (j := 1) rfl rfl, _, _, rfl, rfl, fin _ ?_⟩) (fun c => fin _ ?_)⟩
      · have c1 := of_decide_eq_true c
        unfold ok3
        rw [h1, h2, Bool.true_and, Bool.true_and]
        unfold Vbaval.within
        rw [decide_eq_true c1, Bool.true_and]
        exact decide_eq_decide.mpr (by omega)
      · unfold ok3
        rw [h1, h2, Bool.true_and, Bool.true_and]
        unfold Vbaval.within
        rw [decide_eq_false (fun q => c (decide_eq_true q)), Bool.false_and]
    have second : Vbaval.within x 1 16 = true → tAndV (tOp (rIn K false) (tOp (rIxL K) (tVar 0) (tC (.int 1))) (tC (.ref pa))) (tChain (rI0 fun i j => .bl (decide (i ≤ j))) (rI0 fun i j => .bl (decide (i < j))) (tC (.int 0)) (tOp (rIxL K) (tVar 0) (tC (.int 2))) (tOp (rIxL K) (tVar 0) (tC (.int 1)))) [some (.ref a)] H Q := fun h1 => by
      refine ⟨_, rfl, a, _, _, _, rfl, rfl, hA, at_of (j := 1) rfl rfl, pa, _, rfl, .inr (hS H), rfl, rfl, _, rfl, ite2 (fun c => third h1 ?_) (fun c => fin _ ?_)⟩
      · have c' : inV (.int y) (iv [1, 2, 4, 8, 16]) = true := c
        rw [in_periods] at c'
        exact c'
      · have c' : ¬ inV (.int y) (iv [1, 2, 4, 8, 16]) = true := c
        rw [in_periods, Bool.not_eq_true] at c'
        unfold ok3
        rw [c', Bool.false_and, Bool.and_false]
    refine ⟨_, rfl, a, _, _, _, rfl, rfl, hA, at_of (j := 0) rfl rfl, _, _, rfl, rfl, _, rfl, ite2 (fun c => ⟨_, _, rfl, rfl, _, rfl, ite2 (fun c2 => second ?_) (fun c2 => fin _ ?_)⟩) (fun c => ⟨_, rfl, fin _ ?_⟩)⟩
    · have c1 := of_decide_eq_true c
      have c3 := of_decide_eq_true c2
      exact FrM.within_iff.mpr ⟨c1, c3⟩
    · have c3 : ¬ x ≤ 16 := fun q => c2 (decide_eq_true q)
      unfold ok3 Vbaval.within
      rw [decide_eq_false c3, Bool.and_false, Bool.false_and]
    · have c3 : ¬ 1 ≤ x := fun q => c (decide_eq_true q)
      unfold ok3 Vbaval.within
      rw [decide_eq_false c3, Bool.false_and, Bool.false_and]
end
end Fr
namespace Fr
open PySem PySem.Spec PyProof.Rows L2
theorem ne_of_test {x y : Int} (c : (!decide (V.int x = V.int y)) = true) : x ≠ y := fun q => by
  subst q
  simp at c
theorem eq_of_test {x y : Int} (c : ¬ (!decide (V.int x = V.int y)) = true) : x = y := by simpa using c
section
variable {P : Program} {w : World} {K : PySem.W.Frag} {mg : Str → Option Value} {base : Heap} {C : Addr}
def spArePar (K : PySem.W.Frag) : Sp := fun vs H Q _ => ∃ (a : Addr) (l : List Int), vs = [.ref a] ∧ SqL K H a (iv l) ∧ l.length ≤ 100000 ∧ ∀ H', Same H H' → Q (.bl (decide (l.length ≤ 36) && (Vbaval.paramsOf l).isSome)) H'
theorem scArePar : FnScope ["numbers", "three"] ["numbers"] (defScope sArePar) := ⟨rfl, rfl, rfl, by decide +kernel, rfl, by decide +kernel, by decide +kernel⟩
theorem paramsOf_isSome {l : List Int} {m : Nat} (hl : l.length = 3 * m) : (Vbaval.paramsOf l).isSome = (List.range m).all (FrM.okAt l) := by
  rw [FrM.paramsOf_eq m l hl]
  by_cases c : (List.range m).all (FrM.okAt l) = true
  · rw [if_pos c, c]; rfl
  · rw [if_neg c]
    rw [Bool.not_eq_true] at c
    rw [c]; rfl
theorem d_arePar (F : FunD K mg "are_parameters" sArePar) (T : Txt mg) (DT : Def P w K mg base "threes" 1 ["numbers"] (spThrees K)) (DI : Def P w K mg base "is_parameter" 1 ["three"] (spIsPar K)) : Def P w K mg base "are_parameters" 2 ["numbers"] (spArePar K) := by
  obtain ⟨f, fd, F, hm⟩ := F
  refine ⟨f, fd, ?_, hm, F.kp, F.binds fun _ _ _ _ _ _ us hl => match us, hl with | [_], _ => rfl⟩
  refine F.ok scArePar (fun vs H Q E h => ?_) (fun cdv A outer s H vs Q E hr h => ?_)
  · obtain ⟨a, l, rfl, _⟩ := h
    rfl
  · obtain ⟨a, l, rfl, hA, hll, k⟩ := h
    have nd := scArePar.nd
    obtain ⟨tM, hM⟩ := T.MOST
    refine ⟨_, pss_cons (ps_if (PW.pt (pw_or (pt_cmpR op_ne (pe_op op_mod (pe_callB cr_len rfl T.len boot_len' (pa_cons (pv 0) pa_nil)) pe_int) pe_int (nomark _))
        (pw_or1 (pt_cmpR op_gt (pe_callB cr_len rfl T.len boot_len' (pa_cons (pv 0) pa_nil)) (pe_op op_mul pe_int (pe_glob (v := .int 12) rfl hM ⟨_, rfl⟩)) (nomark _))))) (pss_one (ps_ret pe_bl)) pss_nil)
      (pss_one (ps_ret (pe_callB (cr_all rfl) rfl T.all boot_all' (pa_cons (pe_lc rfl nd (pi_list (pe_fn DT hr rfl (pa_cons (pv 0) pa_nil))) (blkOk_by (own := [("three", 1)]) (by rfl))
        (fun _ _ _ _ _ => pg_name (i := 1) nd rfl (Or.inl rfl) (Or.inr rfl)) (fun _ _ _ _ _ => pts_nil) (fun _ _ _ _ _ => pe_fn DI hr rfl (pa_cons (pv 1) pa_nil))) pa_nil)))), ?_⟩
    have fin : (decide (l.length ≤ 36) && (Vbaval.paramsOf l).isSome) = false → Q (.bl false) H := fun e => by
      have := k H (Same.refl H)
      rw [e] at this
      exact this
    refine ⟨_, rfl, a, _, rfl, hA, _, _, rfl, rfl, (by show (0 : Int) < 3; decide), rfl, _, rfl, ite2 (fun c => fin ?_) (fun c => ?_)⟩
    · have c1 : l.length % 3 ≠ 0 := fun q => by
        rw [iv_length] at c
        exact ne_of_test c (show ((l.length : Nat) : Int) % 3 = 0 by omega)
      rw [FrM.paramsOf_odd l c1]
      simp
    · have c1 : l.length % 3 = 0 := by
        rw [iv_length] at c
        have c2 : ((l.length : Nat) : Int) % 3 = 0 := by simpa using c
        omega
      refine ⟨_, rfl, a, _, rfl, hA, _, _, rfl, rfl, .inl ⟨by decide, by decide⟩, _, _, rfl, rfl, _, rfl, ite2 (fun c => fin ?_) (fun c => ?_)⟩
      · rw [iv_length] at c
        have c2 := of_decide_eq_true c
        rw [decide_eq_false (by omega)]
        rfl
      · have c2 : l.length ≤ 36 := by
          rw [iv_length] at c
          have : ¬ (3 * 12 : Int) < (l.length : Nat) := fun q => c (decide_eq_true q)
          omega
        obtain ⟨m, hm'⟩ : ∃ m, l.length = 3 * m := ⟨l.length / 3, by omega⟩
        refine ⟨_, rfl, a, l, m, rfl, hA, hm', by omega, fun H1 p s1 ⟨as, h1, h2, h3⟩ => ?_⟩
        refine ⟨p, rfl, ⟨_, SqL.of h1⟩, fun D hD => lc_gen (J := Itl K p) m (fun i acc _ => acc = ((List.range m).take i).map fun j => V.bl (FrM.okAt l j)) hD
          (fun i H' hi hs => list_go (SqL.of (hs _ _ h1)) (by rw [List.length_map]; omega)) (fun H' hs => list_stop (SqL.of (hs _ _ h1)) (by rw [List.length_map]; omega)) rfl ?_ ?_⟩
        · intro i x H2 H' acc hi hs hacc hln hR hy
          obtain ⟨rfl, hx⟩ := hy
          obtain ⟨b, hb, rfl⟩ := ref_some (hx _ (SqL.of (hs _ _ h1)))
          have hB := h3 i b hb
          rw [thr_eq hm' hi] at hB
          refine ⟨rfl, _, rfl, b, _, _, _, rfl, SqL.of (hs _ _ hB), lc_yes hD (by omega) hs hacc hln (Same.refl _) ?_⟩
          rw [hR, ok3_at, List.take_add_one, List.getElem?_range hi, List.map_append]
          rfl
        · intro H' acc hln hs hacc hR
          refine ⟨D, (List.range m).map (FrM.okAt l), rfl, SqL.of ?_, ?_⟩
          · rw [hacc, hR, List.take_of_length_le (by rw [List.length_range]; exact Nat.le_refl _), List.map_map]
            rfl
          · have := k H' (s1.trans hs)
            rw [paramsOf_isSome hm', decide_eq_true c2, Bool.true_and] at this
            rw [List.all_map]
            exact this
def spParOf (K : PySem.W.Frag) (C : Addr) : Sp := fun vs H Q _ => ∃ (a : Addr) (l : List Int) (m : Nat), vs = [.ref a] ∧ SqL K H a (iv l) ∧ l.length = 3 * m ∧ m ≤ 12 ∧ (∀ i, i < m → FrM.okAt l i = true) ∧ ∀ H' p, Same H H' → H p = none → ParsAt C H' p ((List.range m).map (FrM.parAt l)) → Q (.ref p) H'
theorem scParOf : FnScope ["numbers", "three"] ["numbers"] (defScope sParOf) := ⟨rfl, rfl, rfl, by decide +kernel, rfl, by decide +kernel, by decide +kernel⟩
theorem d_parOf (F : FunD K mg "parameters_of" sParOf) (DT : Def P w K mg base "threes" 1 ["numbers"] (spThrees K)) (DC : DefC P w K mg base C "Parameter" 1 ["self", "width", "period", "phase"] (spParInit C)) : Def P w K mg base "parameters_of" 3 ["numbers"] (spParOf K C) := by
  obtain ⟨f, fd, F, hm⟩ := F
  refine ⟨f, fd, ?_, hm, F.kp, F.binds fun _ _ _ _ _ _ us hl => match us, hl with | [_], _ => rfl⟩
  refine F.ok scParOf (fun vs H Q E h => ?_) (fun cdv A outer s H vs Q E hr h => ?_)
  · obtain ⟨a, l, m, rfl, _⟩ := h
    rfl
  · obtain ⟨a, l, m, rfl, hA, hl, hm12, hok, k⟩ := h
    have nd := scParOf.nd
    have hr1 : Room 1 _ := hr.mono (by decide)
    refine ⟨_, pss_one (ps_ret (pe_lc rfl nd (pi_list (pe_fn DT hr1 rfl (pa_cons (pv 0) pa_nil))) (blkOk_by (own := [("three", 1)]) (by rfl))
        (fun _ _ _ _ _ => pg_name (i := 1) nd rfl (Or.inl rfl) (Or.inr rfl)) (fun _ _ _ _ _ => pts_nil)
        (fun _ _ _ _ _ => pe_cl DC hr rfl (pa_cons (pe_ix (ix_listK (K := K) rfl) (pv 1) pe_int (fun _ _ => rfl)) (pa_cons (pe_ix (ix_listK (K := K) rfl) (pv 1) pe_int (fun _ _ => rfl)) (pa_cons (pe_ix (ix_listK (K := K) rfl) (pv 1) pe_int (fun _ _ => rfl)) pa_nil)))))), ?_⟩
    refine ⟨_, rfl, a, l, m, rfl, hA, hl, by omega, fun H1 p s1 ⟨as, h1, h2, h3⟩ => ?_⟩
    refine ⟨p, rfl, ⟨_, SqL.of h1⟩, fun D hD => lc_gen (J := Itl K p) m (fun i acc H' => ∃ bs : List Addr, acc = bs.map V.ref ∧ bs.length = i ∧ ∀ (j : Nat) (b : Addr), bs[j]? = some b → b ≠ D ∧ ParAt C H' b (FrM.parAt l j)) hD
      (fun i H' hi hs => list_go (SqL.of (hs _ _ h1)) (by rw [List.length_map]; omega)) (fun H' hs => list_stop (SqL.of (hs _ _ h1)) (by rw [List.length_map]; omega)) ⟨[], rfl, rfl, fun j b e => by simp at e⟩ ?_ ?_⟩
    · intro i x H2 H' acc hi hs hacc hln ⟨bs, ea, el, hR⟩ hy
      obtain ⟨rfl, hx⟩ := hy
      obtain ⟨b, hb, rfl⟩ := ref_some (hx _ (SqL.of (hs _ _ h1)))
      have hB := h3 i b hb
      rw [thr_eq hl hi] at hB
      have hB2 := SqL.of (K := K) (hs _ _ hB)
      refine ⟨rfl, _, rfl, b, _, _, _, rfl, rfl, hB2, at_of (j := 0) rfl rfl, _, rfl, b, _, _, _, rfl, rfl, hB2, at_of (j := 1) rfl rfl, _, rfl, b, _, _, _, rfl, rfl, hB2, at_of (j := 2) rfl rfl, fun x dx nx ndx nex => ?_⟩
      refine ⟨x, dx, _, _, _, rfl, upd_same, fun H4 e4 b4 => ⟨rfl, ?_⟩⟩
      have s4 : Same H' H4 := fun c o e => b4 c o (by rw [upd_ne (ne_of_none e nx), upd_ne (ne_of_none e ndx)]; exact e) (ne_of_none e nx)
      have xD : x ≠ D := fun q => by rw [q, hacc] at nx; cases nx
      obtain ⟨o1, o2, o3, o4⟩ := FrM.okAt_iff.mp (hok i hi)
      refine lc_yes hD (by omega) hs hacc hln s4 ⟨bs ++ [x], ?_, ?_, fun j c e => ?_⟩
      · rw [ea, List.map_append]; rfl
      · rw [List.length_append, el]; rfl
      · by_cases hj : j < bs.length
        · rw [List.getElem?_append_left hj] at e
          obtain ⟨q1, dx', q2⟩ := hR j c e
          exact ⟨q1, dx', by rw [upd_ne q1]; exact s4 _ _ q2⟩
        · rw [List.getElem?_append_right (by omega)] at e
          have hj0 : j - bs.length = 0 := by
            by_cases q : j - bs.length = 0
            · exact q
            · rw [List.getElem?_eq_none (by show 1 ≤ j - bs.length; omega)] at e; cases e
          rw [hj0] at e
          have e' : x = c := Option.some.inj e
          subst e'
          have hji : j = i := by omega
          refine ⟨xD, dx, ?_⟩
          rw [upd_ne xD, e4, hji]
          have w1 : ((l.getD (3 * i) 0).toNat : Int) = l.getD (3 * i) 0 := by omega
          have w2 : ((l.getD (3 * i + 1) 0).toNat : Int) = l.getD (3 * i + 1) 0 := by omega
          have w3 : ((l.getD (3 * i + 2) 0).toNat : Int) = l.getD (3 * i + 2) 0 := by omega
          show some (HO.ins C dx (fl [("width", .int (l.getD (3 * i) 0)), ("period", .int (l.getD (3 * i + 1) 0)), ("phase", .int (l.getD (3 * i + 2) 0))])) = some (HO.ins C dx (fl [("width", .int ((l.getD (3 * i) 0).toNat : Int)), ("period", .int ((l.getD (3 * i + 1) 0).toNat : Int)), ("phase", .int ((l.getD (3 * i + 2) 0).toNat : Int))]))
          rw [w1, w2, w3]
    · intro H' acc hln hs hacc ⟨bs, ea, el, hR⟩
      refine k H' D (s1.trans hs) (s1.free hD) ⟨bs, by rw [hacc, ea], by rw [el, List.length_map, List.length_range], fun i b p' e1 e2 => ?_⟩
      have hi : i < m := by
        have := (List.getElem?_eq_some_iff.mp e1).1
        omega
      rw [List.getElem?_map, List.getElem?_range hi] at e2
      have e3 : FrM.parAt l i = p' := Option.some.inj e2
      rw [← e3]
      exact (hR i b e1).2
end
end Fr
namespace Fr
open PySem PySem.Spec PyProof.Rows L2
section
variable {P : Program} {w : World} {K : PySem.W.Frag} {mg : Str → Option Value} {base : Heap} {C : Addr}
def inPar (ps : List Vbaval.Param) (n i : Nat) : Bool := n % (ps.getD i ⟨1, 1, 0⟩).period == (ps.getD i ⟨1, 1, 0⟩).phase
theorem inFrame_eq (ps : List Vbaval.Param) (n : Nat) : Vbaval.inFrame ps n = (List.range ps.length).filter (inPar ps n) := rfl
def spPars (C : Addr) : Sp := fun vs H Q _ => ∃ (a : Addr) (ps : List Vbaval.Param) (n : Nat), vs = [.ref a, .int n] ∧ ParsAt C H a ps ∧ (∀ p ∈ ps, 0 < p.period) ∧ ps.length ≤ 1000 ∧ RetL H Q (nv (Vbaval.inFrame ps n))
theorem scPars : FnScope ["parameters", "number", "place", "parameter"] ["parameters", "number"] (defScope sPars) := ⟨rfl, rfl, rfl, by decide +kernel, rfl, by decide +kernel, by decide +kernel⟩
theorem d_pars (F : FunD K mg "frame_parameters" sPars) (T0 : Txt mg) (T : TxtP K C) (DI : DefM P w K mg base C "is_in_frame" 1 ["self", "number"] (spParIn C)) : Def P w K mg base "frame_parameters" 2 ["parameters", "number"] (spPars C) := by
  obtain ⟨f, fd, F, hm⟩ := F
  refine ⟨f, fd, ?_, hm, F.kp, F.binds fun _ _ _ _ _ _ us hl => match us, hl with | [_, _], _ => rfl⟩
  refine F.ok scPars (fun vs H Q E h => ?_) (fun cdv A outer s H vs Q E hr h => ?_)
  · obtain ⟨a, ps, n, rfl, _⟩ := h
    rfl
  · obtain ⟨a, ps, n, rfl, ⟨as, h1, h2, h3⟩, hp, hpl, k⟩ := h
    have nd := scPars.nd
    refine ⟨_, pss_one (ps_ret (pe_lc rfl nd (pi_enum rfl T0.enumerate (pa_cons (pv 0) pa_nil)) (blkOk_by (own := [("place", 2), ("parameter", 3)]) (by rfl))
        (fun _ _ _ _ _ => pg_pair (K := K) rfl rfl (pg_name (i := 2) nd rfl (Or.inl rfl) (Or.inr rfl)) (pg_name (i := 3) nd rfl (Or.inl rfl) (Or.inr rfl))) (fun _ _ _ _ _ => pts_one (pt_val (pe_mt (pv 3) T.cl DI hr (pa_cons (pv 1) pa_nil))))
        (fun _ _ _ _ _ => pv 2))), ?_⟩
    rw [inFrame_eq] at k
    refine ⟨_, rfl, a, _, rfl, SqL.of h1, fun D hD => lc_gen (J := Ite K a) ps.length (fun i acc _ => acc = nv (((List.range ps.length).take i).filter (inPar ps n))) hD
      (fun i H' hi hs => ⟨_, _, SqL.of (hs _ _ h1), List.getElem?_eq_getElem (by rw [List.length_map]; omega)⟩) (fun H' hs => ⟨_, SqL.of (hs _ _ h1), by rw [List.length_map]; omega⟩) rfl ?_ ?_⟩
    · intro i x H1 H' acc hi hs hacc hln hR hy
      obtain ⟨T1, y, rfl, nT, rfl, hx⟩ := hy
      obtain ⟨b, hb, rfl⟩ := ref_some (hx _ (SqL.of (hs _ _ h1)))
      obtain ⟨p, ep⟩ : ∃ p, ps[i]? = some p := ⟨_, List.getElem?_eq_getElem hi⟩
      obtain ⟨dx, hB⟩ := h3 i b p hb ep
      have sT : Same H1 (upd H1 T1 (.tup [.int (i : Nat), .ref b])) := Same.new nT
      have hB' := (hs.trans sT) _ _ hB
      have etk : (List.range ps.length).take (i + 1) = (List.range ps.length).take i ++ [i] := by rw [List.take_add_one, List.getElem?_range hi]; rfl
      have ein : inPar ps n i = (n % p.period == p.phase) := by
        unfold inPar
        rw [List.getD_eq_getElem?_getD, ep]; rfl
      refine ⟨T1, _, rfl, SqT.of upd_same, rfl, _, _, rfl, _, _, rfl, rfl, rfl, _, rfl, b, dx, _, rfl, hB', rfl, _, rfl, b, p, n, rfl, ⟨dx, hB'⟩, hp p (List.mem_of_getElem? ep), _, rfl, ite2 (fun c => ?_) (fun c => ?_)⟩
      · refine ⟨_, rfl, lc_yes hD (by omega) hs hacc hln sT ?_⟩
        rw [hR, etk, List.filter_append, List.filter_cons, if_pos (by rw [ein]; exact c), nv_append]
        rfl
      · refine lc_no hs hacc hln sT ?_
        rw [hR, etk, List.filter_append, List.filter_cons, if_neg (by rw [ein]; exact c), List.filter_nil, List.append_nil]
    · intro H' acc hln hs hacc hR
      rw [List.take_of_length_le (by rw [List.length_range]; exact Nat.le_refl _)] at hR
      rw [hR] at hacc
      exact k H' D hs hD hacc
def spWidths (C : Addr) : Sp := fun vs H Q _ => ∃ (a : Addr) (ps : List Vbaval.Param) (n : Nat), vs = [.ref a, .int n] ∧ ParsAt C H a ps ∧ (∀ p ∈ ps, 0 < p.period) ∧ ps.length ≤ 1000 ∧ RetL H Q (nv (Vbaval.widthsOf ps n))
theorem scWidths : FnScope ["parameters", "number", "place"] ["parameters", "number"] (defScope sWidths) := ⟨rfl, rfl, rfl, by decide +kernel, rfl, by decide +kernel, by decide +kernel⟩
theorem d_widths (F : FunD K mg "frame_widths" sWidths) (T : TxtP K C) (DP : Def P w K mg base "frame_parameters" 2 ["parameters", "number"] (spPars C)) : Def P w K mg base "frame_widths" 3 ["parameters", "number"] (spWidths C) := by
  obtain ⟨f, fd, F, hm⟩ := F
  refine ⟨f, fd, ?_, hm, F.kp, F.binds fun _ _ _ _ _ _ us hl => match us, hl with | [_, _], _ => rfl⟩
  refine F.ok scWidths (fun vs H Q E h => ?_) (fun cdv A outer s H vs Q E hr h => ?_)
  · obtain ⟨a, ps, n, rfl, _⟩ := h
    rfl
  · obtain ⟨a, ps, n, rfl, hP, hp, hpl, k⟩ := h
    have nd := scWidths.nd
    refine ⟨_, pss_one (ps_ret (pe_lc rfl nd (pi_list (pe_fn DP hr rfl (pa_cons (pv 0) (pa_cons (pv 1) pa_nil)))) (blkOk_by (own := [("place", 2)]) (by rfl))
        (fun _ _ _ _ _ => pg_name (i := 2) nd rfl (Or.inl rfl) (Or.inr rfl)) (fun _ _ _ _ _ => pts_nil)
        (fun _ _ _ _ _ => pe_fldK (K := K) rfl (pe_ix (ix_listK (K := K) rfl) (pv 0) (pv 2) (fun _ _ => rfl))))), ?_⟩
    refine ⟨_, rfl, _, rfl, a, ps, n, rfl, hP, hp, hpl, fun H0 pl s0 n0 e0 => ?_⟩
    obtain ⟨as, h1, h2, h3⟩ := s0.pars hP
    have hwi : Vbaval.widthsOf ps n = (Vbaval.inFrame ps n).map fun i => (ps.getD i ⟨1, 1, 0⟩).width := rfl
    have hin : ∀ i ∈ Vbaval.inFrame ps n, i < ps.length := fun i hi => List.mem_range.mp (List.mem_filter.mp hi).1
    have hil : (Vbaval.inFrame ps n).length ≤ 1000 := by
      refine Nat.le_trans (List.length_filter_le ..) ?_
      rw [List.length_range]; exact hpl
    rw [hwi] at k
    generalize Vbaval.inFrame ps n = js at e0 k hin hil
    refine ⟨pl, rfl, ⟨_, SqL.of e0⟩, fun D hD => lc_gen (J := Itl K pl) js.length (fun i acc _ => acc = nv ((js.take i).map fun i => (ps.getD i ⟨1, 1, 0⟩).width)) hD
      (fun i H' hi hs => list_go (SqL.of (hs _ _ e0)) (by rw [nv_length]; omega)) (fun H' hs => list_stop (SqL.of (hs _ _ e0)) (by rw [nv_length]; omega)) rfl ?_ ?_⟩
    · intro i x H1 H' acc hi hs hacc hln hR hy
      obtain ⟨rfl, hx⟩ := hy
      obtain ⟨j, hj, rfl⟩ := nv_some (hx _ (SqL.of (hs _ _ e0)))
      have hjl := hin j (List.mem_of_getElem? hj)
      obtain ⟨p, ep⟩ : ∃ p, ps[j]? = some p := ⟨_, List.getElem?_eq_getElem hjl⟩
      obtain ⟨b, hb⟩ : ∃ b, as[j]? = some b := ⟨_, List.getElem?_eq_getElem (by omega)⟩
      obtain ⟨dx, hB⟩ := h3 j b p hb ep
      have eg : ps.getD j ⟨1, 1, 0⟩ = p := by rw [List.getD_eq_getElem?_getD, ep]; rfl
      refine ⟨rfl, _, rfl, _, rfl, a, _, _, _, rfl, rfl, SqL.of (hs _ _ h1), at_of (j := j) rfl (by rw [List.getElem?_map, hb]; rfl), b, C, dx, _, _, rfl, hs _ _ hB, T.cl, T.nW, rfl, lc_yes hD (by omega) hs hacc hln (Same.refl _) ?_⟩
      rw [hR, List.take_add_one, hj, List.map_append, nv_append, Option.toList_some, List.map_singleton, eg]
      rfl
    · intro H' acc hln hs hacc hR
      rw [List.take_length] at hR
      rw [hR] at hacc
      exact k H' D (s0.trans hs) (s0.free hD) hacc
def spWidest (C : Addr) : Sp := fun vs H Q _ => ∃ (a : Addr) (ps : List Vbaval.Param), vs = [.ref a] ∧ ParsAt C H a ps ∧ (∀ p ∈ ps, 0 < p.period) ∧ ps.length ≤ 1000 ∧
  ∀ H' (m : Nat), Same H H' → (∀ n, n < 16 → (Vbaval.widthsOf ps n).sum ≤ m) → (∃ n, n < 16 ∧ m = (Vbaval.widthsOf ps n).sum) → Q (.int (m : Nat)) H'
theorem scWidest : FnScope ["parameters", "number"] ["parameters"] (defScope sWidest) := ⟨rfl, rfl, rfl, by decide +kernel, rfl, by decide +kernel, by decide +kernel⟩
theorem d_widest (F : FunD K mg "widest_frame" sWidest) (T : Txt mg) (DW : Def P w K mg base "frame_widths" 3 ["parameters", "number"] (spWidths C)) : Def P w K mg base "widest_frame" 4 ["parameters"] (spWidest C) := by
  obtain ⟨f, fd, F, hm⟩ := F
  refine ⟨f, fd, ?_, hm, F.kp, F.binds fun _ _ _ _ _ _ us hl => match us, hl with | [_], _ => rfl⟩
  refine F.ok scWidest (fun vs H Q E h => ?_) (fun cdv A outer s H vs Q E hr h => ?_)
  · obtain ⟨a, ps, rfl, _⟩ := h
    rfl
  · obtain ⟨a, ps, rfl, hP, hp, hpl, k⟩ := h
    have nd := scWidest.nd
    obtain ⟨tL, hL⟩ := T.LONGEST
    refine ⟨_, pss_one (ps_ret (pe_callB (cr_max rfl) rfl T.max boot_max' (pa_cons (pe_lc rfl nd (pi_range1 rfl T.range (pa_cons (pe_glob (v := .int 16) rfl hL ⟨_, rfl⟩) pa_nil)) (blkOk_by (own := [("number", 1)]) (by rfl))
        (fun _ _ _ _ _ => pg_name (i := 1) nd rfl (Or.inl rfl) (Or.inr rfl)) (fun _ _ _ _ _ => pts_nil)
        (fun _ _ _ _ _ => pe_callB (cr_sumK (K := K) rfl rfl) rfl T.sum boot_sum' (pa_cons (pe_fn DW hr rfl (pa_cons (pv 0) (pa_cons (pv 1) pa_nil))) pa_nil))) pa_nil))), ?_⟩
    refine ⟨_, rfl, by decide, by decide, fun D hD => lc_gen (J := Itr _ _) 16 (fun i acc _ => acc = nv (((List.range 16).take i).map fun n => (Vbaval.widthsOf ps n).sum)) hD
      (fun i H' hi hs => hi) (fun H' hs => Nat.le_refl _) rfl ?_ ?_⟩
    · intro i x H1 H' acc hi hs hacc hln hR hy
      obtain ⟨rfl, rfl⟩ := hy
      refine ⟨rfl, _, rfl, _, rfl, a, ps, i, ?_, hs.pars hP, hp, hpl, fun H2 p2 s2 n2 e2 => ⟨p2, _, rfl, SqL.of e2, lc_yes hD (by omega) hs hacc hln s2 ?_⟩⟩
      · show [V.ref a, V.int (0 + (i : Int))] = [V.ref a, V.int (i : Int)]
        rw [Int.zero_add]
      · rw [hR, List.take_add_one, List.getElem?_range hi, List.map_append, nv_append]
        rfl
    · intro H' acc hln hs hacc hR
      rw [List.take_of_length_le (by rw [List.length_range]; exact Nat.le_refl _), nv_eq] at hR
      refine ⟨D, _, rfl, SqL.of (by rw [hacc, hR]; rfl), ?_, fun m hm' hmax => ?_⟩
      · unfold Vbaval.ints
        rw [List.length_map, List.length_map, List.length_range]
        decide
      · unfold Vbaval.ints at hm' hmax
        rw [List.map_map] at hm' hmax
        obtain ⟨n, hn, rfl⟩ := List.mem_map.mp hm'
        refine k H' _ hs (fun n' hn' => ?_) ⟨n, List.mem_range.mp hn, rfl⟩
        have := hmax _ (List.mem_map.mpr ⟨n', List.mem_range.mpr hn', rfl⟩)
        have this' : ((Vbaval.widthsOf ps n').sum : Int) ≤ ((Vbaval.widthsOf ps n).sum : Int) := this
        exact Int.ofNat_le.mp this'
end
end Fr
namespace Fr
open PySem PySem.Spec PyProof.Rows L2
def SortOut (ks : List Int) (ys zs : List V) : Prop := ∃ ps : List (Int × V), ps.Perm (ks.zip ys) ∧ zs = ps.map Prod.snd ∧ ps.Pairwise (fun p q => p.1 ≤ q.1)
/-- the reading: sp is the key def's promise -/
def rSortK (K : PySem.W.Frag) (sp : Sp) : V → Hp → VK → Prop := fun x H Q => ∃ (a : Addr) (ys : List V) (ks : List Int), x = .ref a ∧ SqL K H a ys ∧ ys.length < 64 ∧ ks.length = ys.length ∧
  (∀ (i : Nat) (y : V) (k : Int), ys[i]? = some y → ks[i]? = some k → ∀ (H1 : Hp) (Q1 : VK), Same H H1 → (∀ H2, Same H1 H2 → Q1 (.int k) H2) → sp [y] H1 Q1 E0) ∧
  ∀ (zs : List V) (p : Addr) (H2 : Hp), Same H H2 → H p = none → H2 p = some (.lst zs) → SortOut ks ys zs → Q (.ref p) H2
theorem ns_fun {h : Heap} {a : Addr} {m m' : Str → Option Value} (x : h.Ns a m) (y : h.Ns a m') : m = m' := by
  obtain ⟨o, es, ep, ho, hd, _, hm⟩ := x
  obtain ⟨o', es', ep', ho', hd', _, hm'⟩ := y
  rw [ho] at ho'; cases ho'
  rw [hd] at hd'; cases hd'
  funext n
  rw [← hm, hm']
theorem sort_out {ks : List Int} {vs : List Value} {ys : List V} {out : List Value} (r : Vals ys vs) (hl : ks.length = ys.length) (k : KskOut false ks vs out) : ∃ zs, Vals zs out ∧ SortOut ks ys zs := by
  obtain ⟨ps, hp, ho, hs⟩ := k
  have key : ∀ (us : List (Int × Value)), (∀ p ∈ us, p.2 ∈ vs) → ∃ qs : List (Int × V), qs.map Prod.fst = us.map Prod.fst ∧ qs = us.map (fun p => (p.1, (absV p.2).getD .non)) ∧ Vals (qs.map Prod.snd) (us.map Prod.snd) := by
    intro us
    induction us with
    | nil => intro _; exact ⟨[], rfl, rfl, .nil⟩
    | cons p us ih =>
      intro h
      obtain ⟨qs, h1, h2, h3⟩ := ih fun q hq => h q (List.mem_cons_of_mem _ hq)
      obtain ⟨i, hi⟩ := List.getElem?_of_mem (h p List.mem_cons_self)
      have hy : ∃ y, ys[i]? = some y := by
        have := (List.getElem?_eq_some_iff.mp hi).1
        have hlen := r.length
        exact ⟨_, List.getElem?_eq_getElem (by omega)⟩
      obtain ⟨y, hy⟩ := hy
      obtain ⟨u, hu, ru⟩ := r.get hy
      rw [hi] at hu; cases hu
      refine ⟨(p.1, y) :: qs, by rw [List.map_cons, List.map_cons, h1], ?_, .cons ru h3⟩
      rw [List.map_cons, ← h2, ru.abs]
      rfl
  have zipmap : ∀ {ks : List Int} {ys : List V} {vs : List Value}, Vals ys vs → (ks.zip vs).map (fun p => (p.1, (absV p.2).getD .non)) = ks.zip ys := by
    intro ks
    induction ks with
    | nil => intro ys vs _; rfl
    | cons k ks ih =>
      intro ys vs r
      cases r with
      | nil => rfl
      | cons r1 r2 =>
        rw [List.zip_cons_cons, List.zip_cons_cons, List.map_cons, ih r2]
        dsimp only
        rw [r1.abs]
        rfl
  obtain ⟨qs, h1, h2, h3⟩ := key ps fun p hp' => (List.of_mem_zip (hp.mem_iff.mp hp')).2
  refine ⟨qs.map Prod.snd, by rw [ho]; exact h3, qs, ?_, rfl, ?_⟩
  · rw [h2, ← zipmap r]
    exact hp.map _
  · rw [h2, List.pairwise_map]
    exact hs.imp fun {p q} h => by simpa using h
def tSortK (K : PySem.W.Frag) (sp : Sp) (te : TE) : TE := fun σ H Q => te σ H fun x H1 => ∃ v, [x] = [v] ∧ rSortK K sp v H1 Q
end Fr
namespace Fr
open PySem PySem.Spec PyProof.Rows L2
section
variable {X : Cx} {k : Nat} {f : Addr} {fd : FuncData} {ps : List Str} {sp : Sp}
theorem cr_sortK (F : FnOk X.prog X.w X.K X.mg X.base CX0 k f fd ps sp) (hb : Binds X.K fd ps []) (hr : Room (k + 2) X.A) {pins : List (Addr × Obj)} {s : Shared} {σ : L2.St} {H : Hp} {x : V} {v : Value} {Q : VK} (I : Inv X pins σ H s) (rx : RelV x v) (h : rSortK X.K sp x H Q) :
    wpAny (model X.prog X.w) X.A (call (.builtin "sorted") [v] [(Str.ofString "key", .ref f)]) (EP X pins σ Q) X.xe s := by
  obtain ⟨l, ys, ks, rfl, hL, h64, hkl, hkey, done⟩ := h
  cases rx
  obtain ⟨vs, rv, hl, hys⟩ := I.list hL
  have hvl : ys.length = vs.length := rv.length
  have h64v : vs.length < 64 := by omega
  have small : vs.length ≤ sizeLine := by rw [sizeLine_eq]; omega
  refine call_function_entry_kw kind_sorted plain_sorted entry_sorted (ksk_s1 _ _) ?_
  unfold Builtin.«sorted»
  refine wpAny_bind (m := checkCount _ _ _ _) (wpAny_pure (wpAny_bind (collect_list hl.isList ?_ small)))
  -- the heap behind the first copy
  have w1 := Heap.SameBut.update (s.heap.push (seqObj "list" #[] 0)) s.heap.objs.size (Obj.mapSeq (· ++ vs.toArray))
  generalize (s.heap.push (seqObj "list" #[] 0)).update s.heap.objs.size (Obj.mapSeq (· ++ vs.toArray)) = g1 at w1 ⊢
  have z1 : g1.objs.size = s.heap.objs.size + 1 := w1.1.trans (size_push' ..)
  have old1 : ∀ b o, s.heap.get? b = some o → g1.get? b = some o := fun b o q => (w1.2 b (Nat.ne_of_lt (Heap.lt_size q))).trans (Heap.get?_push_of_some _ q)
  -- the list that will be sorted, at D
  refine wpAny_bind (wpAny_newList ?_ small)
  have hoL : (g1.push (seqObj "list" vs.toArray 0)).get? g1.objs.size = some (seqObj "list" vs.toArray 0) := Heap.get?_push_size _ rfl
  have old2 : ∀ b o, s.heap.get? b = some o → (g1.push (seqObj "list" vs.toArray 0)).get? b = some o := fun b o q => Heap.get?_push_of_some _ (old1 b o q)
  have z2 : (g1.push (seqObj "list" vs.toArray 0)).objs.size = g1.objs.size + 1 := size_push' ..
  show wpAny _ X.A.in1 _ _ _ { s with heap := g1.push (seqObj "list" vs.toArray 0) }
  generalize g1.push (seqObj "list" vs.toArray 0) = g2 at hoL old2 z2 ⊢
  generalize g1.objs.size = D at hoL z1 z2 ⊢
  have hDge : s.heap.objs.size ≤ D := by omega
  refine wpAny_bind (wpAny_holding (wpAny_call_entry_kw slot_list_sort ⟨_, hoL, rfl⟩ entry_list_sort ?body (ksk_l1 _ _)))
  case body =>
    rw [ksk_t1 f D]
    have w3 := Heap.SameBut.update g2 D (Obj.mapSeq fun _ => (#[] : Array Value))
    obtain ⟨e1, ho1⟩ : ∃ n, (g2.update D (Obj.mapSeq fun _ => (#[] : Array Value))).get? D = some (seqObj "list" #[] n) := ⟨_, get?_update_seq hoL fun _ => #[]⟩
    unfold ksk_tree
    refine wpAny_bind (listItems_at hoL rfl (wpAny_bind (listUpdate_at hoL rfl ?_ (by rw [List.size_toArray]; omega) (Nat.zero_le _))))
    generalize g2.update D (Obj.mapSeq fun _ => (#[] : Array Value)) = g3 at ho1 w3 ⊢
    have old3 : ∀ b o, s.heap.get? b = some o → g3.get? b = some o := fun b o q => (w3.2 b (Nat.ne_of_lt (Nat.lt_of_lt_of_le (Heap.lt_size q) hDge))).trans (old2 b o q)
    -- what is held, and the store of the keys
    refine wpAny_bind (seqEpoch_at ho1 rfl (wpAny_bind (wpAny_newTuple (wpAny_bind (wpAny_newList (wpAny_holding ?_) (Nat.zero_le _))) small)))
    generalize hkS : (g3.push (seqObj "tuple" vs.toArray 0)).objs.size = kS
    have hkSv : kS = g2.objs.size + 1 := by rw [← hkS, size_push', w3.1]
    have hkSD : kS ≠ D := by omega
    have hkSge : s.heap.objs.size ≤ kS := by omega
    have hoK : ((g3.push (seqObj "tuple" vs.toArray 0)).push (seqObj "list" #[] 0)).get? kS = some (seqObj "list" #[] 0) := by rw [← hkS]; exact Heap.get?_push_size _ rfl
    have hoD4 : ((g3.push (seqObj "tuple" vs.toArray 0)).push (seqObj "list" #[] 0)).get? D = some (seqObj "list" #[] e1) := Heap.get?_push_of_some _ (Heap.get?_push_of_some _ ho1)
    have I4 : Inv X pins σ H { s with heap := (g3.push (seqObj "tuple" vs.toArray 0)).push (seqObj "list" #[] 0), toks := s.toks } :=
      I.kept fun b o q => Heap.get?_push_of_some _ (Heap.get?_push_of_some _ (old3 b o q))
    have fpo : ∀ (b : Addr), s.heap.objs.size ≤ b → ∀ H', H' b = none → FpOk X pins H' b := fun b hb H' hn => I.fpOk hb hn
    have base0 : ∀ b, s.heap.objs.size ≤ b → X.base.get? b = none := fun b hb => Heap.get?_none_of_le (Nat.le_trans (Nat.le_trans I.ok.bsz I.sz) hb)
    unfold ksk_rest
    refine wpAny_bind (wpAny_rule ?_)
    rw [List.forIn_toArray]
    refine wpAny_bind (ksk_fold (fun i s' => ∃ (H' : Hp) (kA : Array Value) (e : Nat), Inv X pins σ H' s' ∧ Same H H' ∧ H' D = none ∧ H' kS = none ∧ s'.heap.get? D = some (seqObj "list" #[] e1) ∧ s'.heap.get? kS = some (seqObj "list" kA e) ∧ IntsAre kA.toList (ks.take i)) vs 0 _
      ⟨H, #[], 0, I4, Same.refl H, I.hok.fresh hDge, I.hok.fresh hkSge, hoD4, hoK, by simpa using IntsAre.nil⟩ ?step ?done)
    case step =>
      rintro j x s' hx ⟨H', kA, e, I', sH, nD, nK, oD, oK, hk⟩
      rw [Nat.zero_add] at hk ⊢
      have hj : j < ys.length := by rw [hvl]; exact (List.getElem?_eq_some_iff.mp hx).1
      obtain ⟨kk, hkj⟩ : ∃ kk, ks[j]? = some kk := ⟨_, List.getElem?_eq_getElem (by omega)⟩
      obtain ⟨y, hy⟩ : ∃ y, ys[j]? = some y := ⟨_, List.getElem?_eq_getElem (by omega)⟩
      obtain ⟨x', hx', ry⟩ := rv.get hy
      rw [hx] at hx'; cases hx'
      have few : kA.size < 64 := by
        have q := hk.length
        rw [List.length_take] at q
        have q2 : kA.toList.length = kA.size := Array.length_toList ..
        omega
      have IP : Inv X (pins ++ [(D, seqObj "list" #[] e1), (kS, seqObj "list" kA e)]) σ H' s' := I'.pins_of fun p hp => by
        rcases List.mem_append.mp hp with hp | hp
        · exact I'.pin p (List.mem_append_right _ hp)
        · rcases List.mem_cons.mp hp with rfl | hp
          · obtain ⟨_, f2, f3, _⟩ := fpo D hDge H' nD
            exact ⟨oD, nD, f2, f3, fun v q => by cases q⟩
          · rw [List.mem_singleton.mp hp]
            obtain ⟨_, f2, f3, _⟩ := fpo kS hkSge H' nK
            exact ⟨oK, nK, f2, f3, fun v q => by cases q⟩
      have hsp : sp ([y] ++ []) H' (fun v H2 => v = .int kk ∧ Same H' H2) E0 := hkey j y kk hy hkj H' _ sH fun H2 s2 => ⟨rfl, s2⟩
      have CALL : wpAny (model X.prog X.w) X.A.in1.in1 (call (.ref f) [x]) (EP X (pins ++ [(D, seqObj "list" #[] e1), (kS, seqObj "list" kA e)]) σ (fun v H2 => v = .int kk ∧ Same H' H2)) (fun _ _ => False) s' := by
        refine wpAny_call (codeAny_mono (F.run X.A.in1.in1 X.stack s' H' ⟨[x], []⟩ ([x] ++ []) ([y] ++ []) _ E0 hr.in1.in1 IP.env0.in1.in1 (hb s' [x] IP.kIn (F.len _ _ _ _ hsp)) (.cons ry .nil) hsp) fun r s'' hq => ?_)
        cases r with
        | error e => exact False.elim hq
        | ok fl =>
          cases fl with
          | ret u => exact IP.after hq
          | next => exact False.elim hq
          | brk => exact False.elim hq
          | cont => exact False.elim hq
      refine wpAny_bind (wpAny_attempt (wpAny_mono CALL (fun u s'' he => ?_) fun _ _ hF => hF.elim))
      obtain ⟨yv, H2, I2', ru, rfl, s2⟩ := he
      obtain ⟨t2, rfl⟩ := ru
      obtain ⟨oD2, nD2, _⟩ := I2'.pin (D, seqObj "list" #[] e1) (List.mem_append_right _ (List.mem_append_right _ (.head _)))
      obtain ⟨oK2, nK2, _⟩ := I2'.pin (kS, seqObj "list" kA e) (List.mem_append_right _ (List.mem_append_right _ (.tail _ (.head _))))
      have J := I2'.unpinned
      have u1 := Heap.SameBut.update s''.heap kS (Obj.mapSeq (·.push (.int kk t2)))
      obtain ⟨c2, hc2⟩ : ∃ c2, (s''.heap.update kS (Obj.mapSeq (·.push (.int kk t2)))).get? kS = some (seqObj "list" (kA.push (.int kk t2)) c2) := ⟨_, get?_update_seq oK2 (·.push (.int kk t2))⟩
      have ek : ks.take (j + 1) = ks.take j ++ [kk] := by rw [List.take_add_one, hkj]; simp
      have ea : (kA.push (Value.int kk t2)).toList = kA.toList ++ [Value.int kk t2] := by simp
      refine wpAny_bind (listUpdate_at oK2 rfl ?_ (by rw [sizeLine_eq]; omega) (Nat.le_trans (Nat.le_of_eq (Array.size_push ..)) (by rw [sizeLine_eq]; omega)))
      obtain ⟨_, f2, f3, f4, f5, f6⟩ := fpo kS hkSge H2 nK2
      exact wpAny_pure ⟨rfl, H2, kA.push (.int kk t2), c2, J.turned (t' := s''.toks) (it := kS) (fun b o hb q => (u1.2 b hb).trans q) nK2 f2 f4 f5 f6, sH.trans s2, nD2, nK2, (u1.2 D (Ne.symm hkSD)).trans oD2, hc2, by rw [ea, ek]; exact ksk_snoc hk⟩
    case done =>
      rintro s' ⟨H', kA, e, I', sH, nD, nK, oD, oK, hk⟩
      have hk' : IntsAre kA.toList ks := by
        have e3 : ks.take (0 + vs.length) = ks := List.take_of_length_le (by omega)
        rw [e3] at hk
        exact hk
      try dsimp only
      refine wpAny_bind (listItems_at oK rfl ?_)
      obtain ⟨m, FR⟩ := I'.fr
      obtain ⟨_, fD2, fD3, fD4, fD5, fD6⟩ := fpo D hDge H' nD
      obtain ⟨_, fK2, fK3, fK4, fK5, fK6⟩ := fpo kS hkSge H' nK
      generalize hnews : (allNews X.base s'.heap X.env.locals).filter (fun p => decide (p.1 ≠ kS) && decide (p.1 ≠ D)) = news
      have nw : ∀ p ∈ news, p ∈ allNews X.base s'.heap X.env.locals ∧ p.1 ≠ kS ∧ p.1 ≠ D := fun p hp => by
        rw [← hnews] at hp
        obtain ⟨h1, h2⟩ := List.mem_filter.mp hp
        rw [Bool.and_eq_true] at h2
        exact ⟨h1, of_decide_eq_true h2.1, of_decide_eq_true h2.2⟩
      have N : News X.base X.env.locals s'.heap (news ++ [(kS, seqObj "list" kA e), (D, seqObj "list" #[] e1)]) := fun p hp => by
        rcases List.mem_append.mp hp with hp | hp
        · exact news_all p (nw p hp).1
        · rcases List.mem_cons.mp hp with rfl | hp
          · exact ⟨oK, fK2, base0 kS hkSge⟩
          · rw [List.mem_singleton.mp hp]
            exact ⟨oD, fD2, base0 D hDge⟩
      refine ksk_end_ (h₀ := X.base) (L := X.env.locals) (m := m) (news := news) (kz := ks) (e := e) FR N hkSD (fun p hp => (nw p hp).2.1) (fun p hp => (nw p hp).2.2) hk' (by omega) h64v fun h' tk out c F' N' ko => ⟨_, rfl, ?_⟩
      have kept : ∀ b o, b ≠ X.env.locals → b ≠ kS → b ≠ D → s'.heap.get? b = some o → h'.get? b = some o := fun b o h1 h2 h3 q => by
        cases qb : X.base.get? b with
        | some u =>
          have := I'.bk b u qb
          rw [q] at this; cases this
          exact F'.keep b _ qb
        | none =>
          refine (N' (b, o) (List.mem_cons_of_mem _ ?_)).1
          rw [← hnews]
          exact List.mem_filter.mpr ⟨mem_allNews h1 qb q, by rw [decide_eq_true h2, decide_eq_true h3]; rfl⟩
      have oD' : h'.get? D = some (seqObj "list" out c) := (N' (D, seqObj "list" out c) (.head _)).1
      obtain ⟨zs, rz, so⟩ := sort_out rv hkl ko
      have hzl : zs.length ≤ sizeLine := by
        obtain ⟨qs, q1, q2, _⟩ := so
        rw [q2, List.length_map, q1.length_eq, List.length_zip, sizeLine_eq]
        omega
      have ntr : ∀ b o, H' b = some o → b ≠ D ∧ b ≠ kS := fun b o q => ⟨ne_of_none q nD, ne_of_none q nK⟩
      have notL : ∀ b o, H' b = some o → b ≠ X.env.locals := fun b o q => ne_of_none q I'.free
      have J : Inv X pins σ (upd H' D (.lst zs)) { s' with heap := h', gens := s'.gens, drawn := s'.drawn, toks := tk } := by
        refine I'.step (ch := [D, kS]) (fun b hb' => ?_) (fun b o h1 _ hc q _ => kept b o h1 (fun z => hc (by simp [z])) (fun z => hc (by simp [z])) q)
          (fun b o h1 _ hc q _ => ⟨o.slots, kept b o h1 (fun z => hc (by simp [z])) (fun z => hc (by simp [z])) q⟩) (fun b o hc q n => by rw [upd_ne (fun z => hc (by simp [z]))]; exact n) (fun b o hc q => ?_)
          (fun b xs q => by rw [upd_ne (ntr b _ q).1]; exact q) (fun b o u q => by rw [upd_ne (ntr b _ q).1]; exact q) (fun b ps' q => ⟨#[], by rw [upd_ne (ntr b _ q).1, q]; simp⟩) (fun m' hm' => ?_) ?_ I'.bare
        · rcases List.mem_cons.mp hb' with rfl | hb'
          · exact ⟨fD4, fD2, fD5, fD6⟩
          · rw [List.mem_singleton.mp hb']
            exact ⟨fK4, fK2, fK5, fK6⟩
        · by_cases hbL : b = X.env.locals
          · obtain ⟨oL, _, _, hoL', _⟩ := F'.ns
            exact ⟨oL, by rw [hbL]; exact hoL'⟩
          · exact ⟨o, kept b o hbL (fun z => hc (by simp [z])) (fun z => hc (by simp [z])) q⟩
        · rw [ns_fun hm' FR.ns]; exact F'.ns
        · intro b o q
          by_cases hbD : b = D
          · subst hbD
            rw [upd_same] at q
            cases q
            exact ⟨hzl, out.toList, c, rz, by simpa using oD'⟩
          · rw [upd_ne hbD] at q
            refine (I'.hok b o q).stay (fun d u hd q2 => ?_) (fun d q2 => by rw [upd_ne (ntr d _ q2).1]; exact q2) fun d xs q2 => by rw [upd_ne (ntr d _ q2).1]; exact q2
            rcases hd with rfl | hd
            · exact kept _ u (notL _ _ q) (ntr _ _ q).2 (ntr _ _ q).1 q2
            · exact kept _ u (notL _ _ hd) (ntr _ _ hd).2 (ntr _ _ hd).1 q2
      exact wpAny_pure ⟨_, rfl, .ref D, _, J, rfl, done zs D _ (sH.and nD) (I.hok.fresh hDge) upd_same so⟩
theorem boot_sorted' : bootBuiltins "sorted" = some (.builtin "sorted") := by decide +kernel
theorem pe_sortK {x : Str} {e : Expr} {te : TE} {p p2 kp pos : Pos} (D : Def X.prog X.w X.K X.mg X.base x k ps sp) (hr : Room (k + 2) X.A) (hg : Gl X "sorted") (hm : X.mg "sorted" = none) (hgf : Gl X x) (ha : PE X e te)
    (hdb : (x == ("__debug__" : Str)) = false := by decide) (hs : starEach [e] X.env = (false, eval e X.env) :: starEach [] X.env := by rfl)
    (hkw : (backToKw pos (keywordEach [⟨some "key", .Name x p2, kp⟩] X.env)).filterMap (·.1) = [Str.ofString "key"] := by rfl)
    (he : backTo pos (starEach [e] X.env) = (false, eval e X.env) :: backTo pos (starEach [] X.env) := by rfl)
    (hplain : (backTo pos (starEach [e] X.env)).any (·.1) = false := by rfl)
    (hall : (backToKw pos (keywordEach [⟨some "key", .Name x p2, kp⟩] X.env)).all (·.1.isSome) = true := by rfl)
    (hnn : (backToKw pos (keywordEach [⟨some "key", .Name x p2, kp⟩] X.env)).any (·.1.isNone) = false := by rfl) :
    PE X (.Call (.Name "sorted" p) [e] [⟨some "key", .Name x p2, kp⟩] pos) (tSortK X.K sp te) := by
  intro pins s σ H Q I h
  obtain ⟨f, fd, F, hm2, hk, hb⟩ := D
  refine wpAny_Call_Name_kw (ld_blt I hg hm boot_sorted' ?_)
  refine callWith_kw (thn (pa_cons ha pa_nil hs pos pins s σ H (fun vs H1 => ∃ v, vs = [v] ∧ rSortK X.K sp v H1 Q) I ?_) fun us s1 ⟨vs, H1, I1, r, v, ev, q⟩ => ?_) he hplain hall hnn
  · exact h
  · subst ev
    cases r with
    | cons r1 r2 =>
      cases r2
      refine kws_cons (ld_glob I1 hgf hm2 (kws_nil ?_) hdb)
      rw [hkw]
      exact cr_sortK F hb hr I1 r1 q
end
end Fr
namespace Fr
open PySem PySem.Spec PyProof.Rows L2
abbrev sRInit : Stmt := inClass (top 47) 0
abbrev sRWrite : Stmt := inClass (top 47) 1
abbrev sRFlip : Stmt := inClass (top 47) 2
abbrev sRGood : Stmt := inClass (top 47) 3
abbrev sRIn : Stmt := inClass (top 47) 4
abbrev sRFrames : Stmt := inClass (top 47) 5
def rf (n len : Nat) (sl hl : Addr) : List (Str × V) := fl [("size", .int (n : Nat)), ("length", .int (len : Nat)), ("slots", .ref sl), ("hurt", .ref hl)]
structure RingIs (CR : Addr) (H : Hp) (g dg sl hl : Addr) (as : List Addr) (len : Nat) (slots : List (List Nat)) (hurt : List Bool) : Prop where
  obj : H g = some (.ins CR dg (rf slots.length len sl hl))
  lst : H sl = some (.lst (as.map V.ref))
  nd : as.Nodup
  alen : as.length = slots.length
  at_ : ∀ (i : Nat) (a : Addr) (l : List Nat), as[i]? = some a → slots[i]? = some l → H a = some (.lst (nv l))
  hrt : H hl = some (.lst (hurt.map V.bl))
  hlen : hurt.length = slots.length
theorem _root_.L2.Same.ring {CR : Addr} {H H' : Hp} {g dg sl hl : Addr} {as : List Addr} {len : Nat} {slots : List (List Nat)} {hurt : List Bool} (s : Same H H') (h : RingIs CR H g dg sl hl as len slots hurt) : RingIs CR H' g dg sl hl as len slots hurt :=
  ⟨s _ _ h.obj, s _ _ h.lst, h.nd, h.alen, fun i a l e1 e2 => s _ _ (h.at_ i a l e1 e2), s _ _ h.hrt, h.hlen⟩
structure TxtR (K : PySem.W.Frag) (mg : Str → Option Value) (CR : Addr) : Prop where
  cl : Cls K CR
  nS : NoAttr K CR "size"
  nL : NoAttr K CR "length"
  nT : NoAttr K CR "slots"
  nH : NoAttr K CR "hurt"
  DONE : ∃ t, mg "DONE" = some (.int 165 t)
/-- the number in a slot's bytes, if it is good -/
def gd (len n i : Nat) (l : List Nat) : Option Nat := match l with
  | [] => none
  | d :: r => if d = Vbaval.DONE then (match Vbaval.rightFrame len r with
      | some m => if m % n = i then some m else none
      | none => none) else none
def numF (l : List Nat) : Nat := 256 * l.getD 0 0 + l.getD 1 0
section
variable {P : Program} {w : World} {K : PySem.W.Frag} {mg : Str → Option Value} {base : Heap} {CR : Addr}
def spRIn (CR : Addr) : Sp := fun vs H Q _ => ∃ (g dg sl hl : Addr) (as : List Addr) (len : Nat) (slots : List (List Nat)) (hurt : List Bool) (i : Nat) (l : List Nat), vs = [.ref g, .int (i : Nat)] ∧ RingIs CR H g dg sl hl as len slots hurt ∧ slots[i]? = some l ∧ RetL H Q (nv (l.drop 1))
theorem scRIn : FnScope ["self", "slot"] ["self", "slot"] (defScope sRIn) := ⟨rfl, rfl, rfl, by decide +kernel, rfl, by decide +kernel, by decide +kernel⟩
theorem d_rIn (F : FunM K CR "frame_in" "Ring.frame_in" sRIn) (T : TxtR K mg CR) : DefM P w K mg base CR "frame_in" 1 ["self", "slot"] (spRIn CR) := by
  obtain ⟨f, fd, F, hm⟩ := F
  refine ⟨f, fd, ?_, hm, F.binds fun _ _ _ _ _ _ us hl => match us, hl with | [_, _], _ => rfl⟩
  refine F.ok scRIn (fun vs H Q E h => ?_) (fun cdv A outer s H vs Q E hr h => ?_)
  · obtain ⟨g, dg, sl, hl, as, len, slots, hurt, i, l, rfl, _⟩ := h
    rfl
  · obtain ⟨g, dg, sl, hl, as, len, slots, hurt, i, l, rfl, R, hi, k⟩ := h
    have hlt := (List.getElem?_eq_some_iff.mp hi).1
    obtain ⟨a, ha⟩ : ∃ a, as[i]? = some a := ⟨_, List.getElem?_eq_getElem (by rw [R.alen]; exact hlt)⟩
    refine ⟨_, pss_one (ps_ret (pe_slice sl_list (pe_ix ix_list (pe_fld (pv 0) rfl) (pv 1) (fun _ _ => rfl)) (po_some pe_int) po_none)), ?_⟩
    refine ⟨_, rfl, g, CR, dg, _, _, rfl, R.obj, T.cl, T.nT, rfl, _, rfl, sl, _, _, _, rfl, rfl, SqL.of R.lst, at_of (j := i) rfl (by rw [List.getElem?_map, ha]; rfl), _, rfl, a, _, rfl, SqL.of (R.at_ i a l ha hi), fun p np => k _ p (Same.new np) np ?_⟩
    rw [upd_same, show (1 : Int) = ((1 : Nat) : Int) from rfl, cut_lo, nv_drop]
def spRGood (CR : Addr) : Sp := fun vs H Q _ => ∃ (g dg sl hl : Addr) (as : List Addr) (len : Nat) (slots : List (List Nat)) (hurt : List Bool) (i : Nat) (l : List Nat), vs = [.ref g, .int (i : Nat)] ∧ RingIs CR H g dg sl hl as len slots hurt ∧ slots[i]? = some l ∧ l.length = len + 7 ∧ len ≤ 16 ∧ (∀ b ∈ l, b < 256) ∧
  ∀ H', Same H H' → Q (.bl (gd len slots.length i l).isSome) H'
theorem scRGood : FnScope ["self", "slot", "frame"] ["self", "slot"] (defScope sRGood) := ⟨rfl, rfl, rfl, by decide +kernel, rfl, by decide +kernel, by decide +kernel⟩
theorem d_rGood (F : FunM K CR "is_good" "Ring.is_good" sRGood) (T : TxtR K mg CR) (DI : DefM P w K mg base CR "frame_in" 1 ["self", "slot"] (spRIn CR)) (DR : Def P w K mg base "is_right_frame" 3 ["frame", "length"] (spRight K)) (DN : Def P w K mg base "frame_number" 1 ["frame"] (spNumber K)) :
    DefM P w K mg base CR "is_good" 4 ["self", "slot"] (spRGood CR) := by
  obtain ⟨f, fd, F, hm⟩ := F
  refine ⟨f, fd, ?_, hm, F.binds fun _ _ _ _ _ _ us hl => match us, hl with | [_, _], _ => rfl⟩
  refine F.ok scRGood (fun vs H Q E h => ?_) (fun cdv A outer s H vs Q E hr h => ?_)
  · obtain ⟨g, dg, sl, hl, as, len, slots, hurt, i, l, rfl, _⟩ := h
    rfl
  · obtain ⟨g, dg, sl, hl, as, len, slots, hurt, i, l, rfl, R, hi, hll, hl16, hb, k⟩ := h
    have nd := scRGood.nd
    have hr1 : Room 1 _ := hr.mono (by decide)
    obtain ⟨tD, hD⟩ := T.DONE
    have hlt := (List.getElem?_eq_some_iff.mp hi).1
    obtain ⟨a, ha⟩ : ∃ a, as[i]? = some a := ⟨_, List.getElem?_eq_getElem (by rw [R.alen]; exact hlt)⟩
    refine ⟨_, pss_cons (ps_set (i := 2) nd rfl (Or.inl rfl) (pe_mt (pv 0) T.cl DI hr1 (pa_cons (pv 1) pa_nil)))
      (pss_cons (ps_if (PW.pt (pw_or (pt_cmpR op_ne (pe_ix ix_list (pe_ix ix_list (pe_fld (pv 0) rfl) (pv 1) (fun _ _ => rfl)) pe_int (fun _ _ => rfl)) (pe_glob (v := .int 165) rfl hD ⟨_, rfl⟩) (nomark _))
          (pw_or1 (pt_not (pt_val (pe_fn DR hr rfl (pa_cons (pv 2) (pa_cons (pe_fld (pv 0) rfl) pa_nil)))))))) (pss_one (ps_ret pe_bl)) pss_nil)
      (pss_one (ps_ret (pe_cmpR op_eq (pe_op op_mod (pe_fn DN hr1 rfl (pa_cons (pv 2) pa_nil)) (pe_fld (pv 0) rfl)) (pv 1) (nomark _))))), ?_⟩
    cases l with
    | nil => simp at hll
    | cons d r =>
      have hrl : r.length = len + 6 := by simpa using hll
      have hrb : ∀ b ∈ r, b < 256 := fun b hb' => hb b (List.mem_cons_of_mem _ hb')
      refine ⟨_, rfl, g, dg, _, rfl, R.obj, rfl, _, rfl, g, dg, sl, hl, as, len, slots, hurt, i, _, rfl, R, hi, fun H1 p1 s1 n1 e1 => ?_⟩
      have R1 := s1.ring R
      have e1' : H1 p1 = some (.lst (nv r)) := e1
      refine ⟨_, rfl, g, CR, dg, _, _, rfl, R1.obj, T.cl, T.nT, rfl, _, rfl, sl, _, _, _, rfl, rfl, SqL.of R1.lst, at_of (j := i) rfl (by rw [List.getElem?_map, ha]; rfl), a, _, _, _, rfl, rfl, SqL.of (R1.at_ i a _ ha hi), at_of (j := 0) rfl rfl, rfl, _, rfl, ite2 (fun c => ?_) (fun c => ?_)⟩
      · have hd : d ≠ 165 := fun q => ne_of_test c (by rw [q]; rfl)
        have := k H1 s1
        have eg : gd len slots.length i (d :: r) = none := by
          unfold gd
          exact if_neg hd
        rw [eg] at this
        exact this
      · have hd : d = 165 := by
          have := eq_of_test c
          omega
        refine ⟨_, rfl, _, rfl, g, CR, dg, _, _, rfl, R1.obj, T.cl, T.nL, rfl, p1, r, len, rfl, SqL.of e1', hrb, hl16, by omega, fun H2 s2 => ⟨_, rfl, ite2 (fun c2 => ?_) (fun c2 => ?_)⟩⟩
        · have := k H2 (s1.trans s2)
          have eg : gd len slots.length i (d :: r) = none := by
            unfold gd
            dsimp only
            rw [if_pos (show d = Vbaval.DONE from hd)]
            cases q : Vbaval.rightFrame len r with
            | none => rfl
            | some m => rw [q] at c2; simp at c2
          rw [eg] at this
          exact this
        · obtain ⟨m, hm'⟩ : ∃ m, Vbaval.rightFrame len r = some m := by
            cases q : Vbaval.rightFrame len r with
            | none => rw [q] at c2; simp at c2
            | some m => exact ⟨m, rfl⟩
          have hmn : 256 * r.getD 0 0 + r.getD 1 0 = m := (FrM.right_iff.mp hm').2.1
          have R2 := s2.ring R1
          refine ⟨_, rfl, p1, r, rfl, SqL.of (s2 _ _ e1'), by omega, hrb, fun H3 s3 => ?_⟩
          have R3 := s3.ring R2
          refine ⟨_, rfl, g, CR, dg, _, _, rfl, R3.obj, T.cl, T.nS, rfl, _, _, rfl, rfl, (?_ : (0 : Int) < _), _, rfl, rfl, ?_⟩
          · omega
          · have eg : (gd len slots.length i (d :: r)).isSome = decide (V.int (((256 * r.getD 0 0 + r.getD 1 0 : Nat) : Int) % (slots.length : Nat)) = V.int (i : Nat)) := by
              unfold gd
              dsimp only
              rw [if_pos (show d = Vbaval.DONE from hd), hm', hmn, dec_int, Bool.eq_iff_iff, beq_iff_eq]
              dsimp only
              by_cases q : m % slots.length = i
              · rw [if_pos q]
                simp only [Option.isSome_some, true_iff]
                omega
              · rw [if_neg q]
                simp only [Option.isSome_none, Bool.false_eq_true, false_iff]
                omega
            rw [← eg]
            exact k H3 ((s1.trans s2).trans s3)
end
end Fr
namespace Fr
open PySem PySem.Spec PyProof.Rows L2
theorem perm_map_inv {α β : Type} {g : α → β} {l m : List β} (p : l.Perm m) : ∀ L : List α, m = L.map g → ∃ L' : List α, L'.Perm L ∧ l = L'.map g := by
  induction p with
  | nil => intro L e; exact ⟨L, .refl _, e⟩
  | @cons x l1 l2 _ ih =>
    intro L e
    cases L with
    | nil => cases e
    | cons a L =>
      obtain ⟨e1, e2⟩ := List.cons.inj e
      obtain ⟨L', h1, h2⟩ := ih L e2
      exact ⟨a :: L', h1.cons a, by rw [List.map_cons, h2, e1]⟩
  | @swap x y l =>
    intro L e
    match L, e with
    | a :: b :: L, e =>
      obtain ⟨e1, e2⟩ := List.cons.inj e
      obtain ⟨e3, e4⟩ := List.cons.inj e2
      exact ⟨b :: a :: L, List.Perm.swap a b L, by rw [List.map_cons, List.map_cons, e1, e3, e4]⟩
  | trans _ _ ih1 ih2 =>
    intro L e
    obtain ⟨L2, h1, h2⟩ := ih2 L e
    obtain ⟨L3, h3, h4⟩ := ih1 L2 h2
    exact ⟨L3, h3.trans h1, h4⟩
/-- frames stand in a list at a -/
def FramesAt (H : Hp) (a : Addr) (fs : List (List Nat)) : Prop := ∃ as : List Addr, H a = some (.lst (as.map V.ref)) ∧ as.length = fs.length ∧ ∀ (i : Nat) (b : Addr) (f : List Nat), as[i]? = some b → fs[i]? = some f → H b = some (.lst (nv f))
def goodL (len : Nat) (slots : List (List Nat)) (js : List Nat) : List (List Nat) := js.filterMap fun j => (gd len slots.length j (slots.getD j [])).map fun _ => (slots.getD j []).drop 1
section
variable {P : Program} {w : World} {K : PySem.W.Frag} {mg : Str → Option Value} {base : Heap} {CR : Addr}
def spRFrames (CR : Addr) : Sp := fun vs H Q _ => ∃ (g dg sl hl : Addr) (as : List Addr) (len : Nat) (slots : List (List Nat)) (hurt : List Bool), vs = [.ref g] ∧ RingIs CR H g dg sl hl as len slots hurt ∧ (∀ l ∈ slots, l.length = len + 7 ∧ ∀ b ∈ l, b < 256) ∧ len ≤ 16 ∧ slots.length ≤ 16 ∧
  ∀ H' p fs, Same H H' → FramesAt H' p fs → fs.Perm (goodL len slots (List.range slots.length)) → fs.Pairwise (fun x y => numF x ≤ numF y) → Q (.ref p) H'
theorem scRFrames : FnScope ["self", "frames", "slot"] ["self"] (defScope sRFrames) := ⟨rfl, rfl, rfl, by decide +kernel, rfl, by decide +kernel, by decide +kernel⟩
theorem d_rFrames (F : FunM K CR "good_frames" "Ring.good_frames" sRFrames) (T : Txt mg) (TR : TxtR K mg CR) (DI : DefM P w K mg base CR "frame_in" 1 ["self", "slot"] (spRIn CR)) (DG : DefM P w K mg base CR "is_good" 4 ["self", "slot"] (spRGood CR)) (DN : Def P w K mg base "frame_number" 1 ["frame"] (spNumber K)) :
    DefM P w K mg base CR "good_frames" 5 ["self"] (spRFrames CR) := by
  obtain ⟨f, fd, F, hm⟩ := F
  refine ⟨f, fd, ?_, hm, F.binds fun _ _ _ _ _ _ us hl => match us, hl with | [_], _ => rfl⟩
  refine F.ok scRFrames (fun vs H Q E h => ?_) (fun cdv A outer s H vs Q E hr h => ?_)
  · obtain ⟨g, dg, sl, hl, as, len, slots, hurt, rfl, _⟩ := h
    rfl
  · obtain ⟨g, dg, sl, hl, as, len, slots, hurt, rfl, R, hw, hl16, hs16, k⟩ := h
    have nd := scRFrames.nd
    have hr1 : Room 1 _ := hr.mono (by decide)
    have hr3 : Room 3 _ := hr.mono (by decide)
    refine ⟨_, pss_cons (ps_setLc (i := 1) rfl nd rfl rfl (sw_true rfl rfl rfl rfl) (pi_range1 rfl T.range (pa_cons (pe_fld (pv 0) rfl) pa_nil)) (blkOk_by (own := [("slot", 2)]) (by rfl))
        (fun _ _ _ _ _ => pg_name (i := 2) nd rfl (Or.inl rfl) (Or.inr rfl)) (fun _ _ _ _ _ => pts_one (pt_val (pe_mt (pv 0) TR.cl DG hr (pa_cons (pv 2) pa_nil))))
        (fun _ _ _ _ _ => pe_mt (pv 0) TR.cl DI hr1 (pa_cons (pv 2) pa_nil)))
      (pss_one (ps_ret (pe_sortK DN hr3 rfl T.sorted rfl (pv 1)))), ?_⟩
    have getS : ∀ j, j < slots.length → slots[j]? = some (slots.getD j []) := fun j hj => by
      rw [List.getD_eq_getElem?_getD, List.getElem?_eq_getElem hj]; rfl
    have memS : ∀ j, j < slots.length → slots.getD j [] ∈ slots := fun j hj => List.mem_of_getElem? (getS j hj)
    refine ⟨_, rfl, g, CR, dg, _, _, rfl, R.obj, TR.cl, TR.nS, rfl, _, rfl, by omega, by omega, fun D hD => lc_gen (J := Itr _ _) slots.length (fun i acc H' => ∃ bs : List Addr, acc = bs.map V.ref ∧ bs.length = (goodL len slots ((List.range slots.length).take i)).length ∧
        ∀ (j : Nat) (b : Addr) (f : List Nat), bs[j]? = some b → (goodL len slots ((List.range slots.length).take i))[j]? = some f → b ≠ D ∧ H' b = some (.lst (nv f))) hD
      (fun i H' hi hs => by show i < ((slots.length : Nat) : Int).toNat; omega) (fun H' hs => by show ((slots.length : Nat) : Int).toNat ≤ slots.length; omega) ⟨[], rfl, rfl, fun j b f e => by simp at e⟩ ?_ ?_⟩
    · intro i x H1 H' acc hi hs hacc hln ⟨bs, ea, el, hR⟩ hy
      obtain ⟨rfl, rfl⟩ := hy
      have etk : (List.range slots.length).take (i + 1) = (List.range slots.length).take i ++ [i] := by rw [List.take_add_one, List.getElem?_range hi]; rfl
      have e0 : (0 : Int) + (i : Nat) = ((i : Nat) : Int) := Int.zero_add _
      have hR1 := hs.ring R
      obtain ⟨hwl, hwb⟩ := hw _ (memS i hi)
      rw [e0]
      refine ⟨rfl, _, rfl, g, dg, _, rfl, hR1.obj, rfl, _, rfl, g, dg, sl, hl, as, len, slots, hurt, i, _, rfl, hR1, getS i hi, hwl, hl16, hwb, fun H2 s2 => ⟨_, rfl, ite2 (fun c => ?_) (fun c => ?_)⟩⟩
      · have R2 := s2.ring hR1
        refine ⟨_, rfl, g, dg, _, rfl, R2.obj, rfl, _, rfl, g, dg, sl, hl, as, len, slots, hurt, i, _, rfl, R2, getS i hi, fun H3 p3 s3 n3 e3 => ?_⟩
        have p3D : p3 ≠ D := fun q => by rw [q, s2 _ _ hacc] at n3; cases n3
        have eg : goodL len slots ((List.range slots.length).take (i + 1)) = goodL len slots ((List.range slots.length).take i) ++ [(slots.getD i []).drop 1] := by
          obtain ⟨m, hm'⟩ := Option.isSome_iff_exists.mp c
          rw [etk]
          unfold goodL
          rw [List.filterMap_append, List.filterMap_cons, hm']
          rfl
        refine lc_yes hD (by omega) hs hacc hln (s2.trans s3) ⟨bs ++ [p3], by rw [ea, List.map_append]; rfl, by rw [eg, List.length_append, List.length_append, el]; rfl, fun j b f e1 e2 => ?_⟩
        rw [eg] at e2
        by_cases hj : j < bs.length
        · rw [List.getElem?_append_left hj] at e1
          rw [List.getElem?_append_left (by omega)] at e2
          obtain ⟨q1, q2⟩ := hR j b f e1 e2
          exact ⟨q1, by rw [upd_ne q1]; exact (s2.trans s3) _ _ q2⟩
        · rw [List.getElem?_append_right (by omega)] at e1
          rw [List.getElem?_append_right (by omega)] at e2
          have hj0 : j - bs.length = 0 := by
            by_cases q : j - bs.length = 0
            · exact q
            · rw [List.getElem?_eq_none (by show 1 ≤ j - bs.length; omega)] at e1; cases e1
          rw [hj0] at e1
          rw [← el, hj0] at e2
          have e1' : p3 = b := Option.some.inj e1
          have e2' : (slots.getD i []).drop 1 = f := Option.some.inj e2
          subst e1' e2'
          exact ⟨p3D, by rw [upd_ne p3D]; exact e3⟩
      · have eg : goodL len slots ((List.range slots.length).take (i + 1)) = goodL len slots ((List.range slots.length).take i) := by
          have hn : gd len slots.length i (slots.getD i []) = none := by
            cases q : gd len slots.length i (slots.getD i []) with
            | none => rfl
            | some m => rw [q] at c; simp at c
          rw [etk]
          unfold goodL
          rw [List.filterMap_append, List.filterMap_cons, hn]
          simp
        refine lc_no hs hacc hln s2 ⟨bs, ea, by rw [eg]; exact el, fun j b f e1 e2 => ?_⟩
        rw [eg] at e2
        obtain ⟨q1, q2⟩ := hR j b f e1 e2
        exact ⟨q1, s2 _ _ q2⟩
    · intro H' acc hln hs hacc ⟨bs, ea, el, hR⟩
      have eall : (List.range slots.length).take slots.length = List.range slots.length := List.take_of_length_le (by rw [List.length_range]; exact Nat.le_refl _)
      rw [eall] at el hR
      generalize hfs : goodL len slots (List.range slots.length) = fs at el hR k
      have hfsm : ∀ f ∈ fs, 2 ≤ f.length ∧ ∀ b ∈ f, b < 256 := fun f hf => by
        rw [← hfs] at hf
        obtain ⟨j, hj, e⟩ := List.mem_filterMap.mp hf
        have hj' : j < slots.length := List.mem_range.mp hj
        obtain ⟨h1, h2⟩ := hw _ (memS j hj')
        cases q : gd len slots.length j (slots.getD j []) with
        | none => rw [q] at e; cases e
        | some m =>
          rw [q] at e
          have e' : (slots.getD j []).drop 1 = f := Option.some.inj e
          rw [← e']
          exact ⟨by rw [List.length_drop]; omega, fun b hb => h2 b (List.mem_of_mem_drop hb)⟩
      refine ⟨_, rfl, _, rfl, D, bs.map V.ref, fs.map fun f => (numF f : Int), rfl, SqL.of (by rw [hacc, ea]), ?_, by rw [List.length_map, List.length_map, el], fun i y kk e1 e2 H1 Q1 s1 done => ?_, fun zs p H2 s2 n2 e2 so => ?_⟩
      · rw [List.length_map]
        have : acc.length ≤ slots.length := hln
        rw [ea, List.length_map] at this
        omega
      · obtain ⟨b, hb, rfl⟩ := ref_some e1
        rw [List.getElem?_map] at e2
        obtain ⟨f, hf, rfl⟩ : ∃ f, fs[i]? = some f ∧ kk = (numF f : Int) := by
          cases q : fs[i]? with
          | none => rw [q] at e2; cases e2
          | some f => rw [q] at e2; exact ⟨f, rfl, (Option.some.inj e2).symm⟩
        obtain ⟨f1, f2⟩ := hfsm f (List.mem_of_getElem? hf)
        exact ⟨b, f, rfl, SqL.of (s1 _ _ (hR i b f hb hf).2), f1, f2, fun H3 s3 => done H3 s3⟩
      · obtain ⟨ps, q1, q2, q3⟩ := so
        have ez : (fs.map fun f => (numF f : Int)).zip (bs.map V.ref) = (fs.zip bs).map fun p => ((numF p.1 : Int), V.ref p.2) := by
          rw [List.zip_map]
          rfl
        obtain ⟨L', l1, l2⟩ := perm_map_inv q1 (fs.zip bs) ez
        have hfst : (fs.zip bs).map Prod.fst = fs := List.map_fst_zip (by omega)
        refine k H2 p (L'.map Prod.fst) (hs.trans s2) ⟨L'.map Prod.snd, ?_, by rw [List.length_map, List.length_map], fun i b f e1 e3 => ?_⟩ ?_ ?_
        · rw [e2, q2, l2, List.map_map, List.map_map]
          rfl
        · rw [List.getElem?_map] at e1 e3
          cases q : L'[i]? with
          | none => rw [q] at e1; cases e1
          | some pr =>
            rw [q] at e1 e3
            have e1' : pr.2 = b := Option.some.inj e1
            have e3' : pr.1 = f := Option.some.inj e3
            have hm' := l1.mem_iff.mp (List.mem_of_getElem? q)
            obtain ⟨j, hj⟩ := List.getElem?_of_mem hm'
            rw [List.getElem?_zip_eq_some] at hj
            rw [← e1', ← e3']
            exact s2 _ _ (hR j pr.2 pr.1 hj.2 hj.1).2
        · have := l1.map Prod.fst
          rw [hfst] at this
          exact this
        · rw [l2, List.pairwise_map] at q3
          rw [List.pairwise_map]
          exact q3.imp fun {x y} h => by
            have h' : ((numF x.1 : Nat) : Int) ≤ ((numF y.1 : Nat) : Int) := h
            omega
end
end Fr
namespace Fr
open Vbaval (St Told)
def toldOf (s : Vbaval.St) (f : List Nat) : Told := ⟨numF f, Vbaval.held s.len s.params (numF f) f⟩
theorem good_num {s : Vbaval.St} {i n : Nat} (h : Vbaval.good s i = some n) : numF ((Vbaval.slotOf s i).drop 1) = n := by
  obtain ⟨l, e, hr, _⟩ := FrM.good_iff.mp h
  rw [e]
  exact (FrM.right_iff.mp hr).2.1
theorem goodL_tell (s : Vbaval.St) : ∀ js : List Nat, (goodL s.len s.slots js).map (toldOf s) = js.filterMap (Vbaval.tellSlot s)
  | [] => rfl
  | j :: js => by
    have ih := goodL_tell s js
    unfold goodL at ih ⊢
    rw [List.filterMap_cons, List.filterMap_cons]
    unfold Vbaval.tellSlot
    have eg : gd s.len s.slots.length j (s.slots.getD j []) = Vbaval.good s j := rfl
    rw [eg]
    cases g : Vbaval.good s j with
    | none => exact ih
    | some n =>
      dsimp only [Option.map_some]
      rw [List.map_cons, ih]
      congr 1
      have hn := good_num g
      have hn' : numF ((s.slots.getD j []).drop 1) = n := hn
      unfold toldOf
      rw [hn']
      rfl
theorem goodL_nums (s : Vbaval.St) : ∀ js : List Nat, (goodL s.len s.slots js).map numF = js.filterMap (Vbaval.good s)
  | [] => rfl
  | j :: js => by
    have ih := goodL_nums s js
    unfold goodL at ih ⊢
    rw [List.filterMap_cons, List.filterMap_cons]
    have eg : gd s.len s.slots.length j (s.slots.getD j []) = Vbaval.good s j := rfl
    rw [eg]
    cases g : Vbaval.good s j with
    | none => exact ih
    | some n =>
      dsimp only [Option.map_some]
      rw [List.map_cons, ih]
      congr 1
      exact good_num g
theorem readOut_frames {s : Vbaval.St} {fs : List (List Nat)} (p : fs.Perm (goodL s.len s.slots (List.range s.slots.length))) (hs : fs.Pairwise (fun x y => numF x ≤ numF y)) : Vbaval.readOut s = fs.map (toldOf s) := by
  refine FrM.readOut_unique ?_ ?_
  · have := p.map (toldOf s)
    rw [goodL_tell] at this
    exact this
  · rw [List.pairwise_map]
    exact hs
theorem goods_frames {s : Vbaval.St} {fs : List (List Nat)} (p : fs.Perm (goodL s.len s.slots (List.range s.slots.length))) : (fs.map numF).Perm (Vbaval.goods s) := by
  have := p.map numF
  rw [goodL_nums] at this
  exact this
theorem found_nil {s : Vbaval.St} (O : FrM.Ok s) {fs : List (List Nat)} (p : fs.Perm (goodL s.len s.slots (List.range s.slots.length))) (h : fs = []) : Vbaval.found s = s.first := by
  refine O.found_none ?_
  have := goods_frames p
  rw [h] at this
  exact List.nil_perm.mp this
theorem found_last {s : Vbaval.St} (O : FrM.Ok s) {fs : List (List Nat)} {f : List Nat} (p : fs.Perm (goodL s.len s.slots (List.range s.slots.length))) (hs : fs.Pairwise (fun x y => numF x ≤ numF y)) (h : fs.getLast? = some f) : Vbaval.found s = numF f + 1 := by
  obtain ⟨init, rfl⟩ : ∃ init, fs = init ++ [f] := by
    obtain ⟨init, e⟩ := List.getLast?_eq_some_iff.mp h
    exact ⟨init, e⟩
  have pg := goods_frames p
  refine O.found_some (pg.mem_iff.mp (List.mem_map.mpr ⟨f, by simp, rfl⟩)) fun n hn => ?_
  obtain ⟨g, hg, rfl⟩ := List.mem_map.mp (pg.mem_iff.mpr hn)
  rcases List.mem_append.mp hg with hg | hg
  · exact (List.pairwise_append.mp hs).2.2 g hg f (by simp)
  · rw [List.mem_singleton.mp hg]
    exact Nat.le_refl _
end Fr
namespace Fr
structure PEar where
  heard : List (List Nat)
  begun : Option (List Nat)
  waits : Bool
def isTold (len : Nat) (hs : List (List Nat)) (f : List Nat) : Bool := (Vbaval.rightFrame len f).isSome && (match hs.getLast? with
  | none => true
  | some g => decide (numF g < numF f))
def earEnd (len : Nat) (e : PEar) : PEar := match e.begun with
  | none => ⟨e.heard, none, e.waits⟩
  | some g => if (!e.waits && isTold len e.heard g) = true then ⟨e.heard ++ [g], none, e.waits⟩ else ⟨e.heard, none, e.waits⟩
def earEsc (e : PEar) (g : List Nat) (b : Nat) : PEar := if b ≤ 2 then ⟨e.heard, some (g ++ [192 + b]), e.waits⟩ else ⟨e.heard, none, e.waits⟩
def earIn (e : PEar) (g : List Nat) (b : Nat) : PEar := if e.waits = true then earEsc ⟨e.heard, some g, false⟩ g b else if b = 194 then ⟨e.heard, some g, true⟩ else ⟨e.heard, some (g ++ [b]), e.waits⟩
def earStep (len : Nat) (e : PEar) (b : Nat) : PEar :=
  if b = 192 then ⟨e.heard, some [], false⟩
  else if b = 193 then earEnd len e
  else match e.begun with
    | none => e
    | some g => earIn e g b
def ear0 : PEar := ⟨[], none, false⟩
theorem right_num {len n : Nat} {f : List Nat} (h : Vbaval.rightFrame len f = some n) : numF f = n := (FrM.right_iff.mp h).2.1
def Alike (s : Vbaval.St) (e : Vbaval.Ear) (p : PEar) : Prop := e.told = p.heard.map (toldOf s) ∧ (match p.begun with
  | none => e.inn = false ∨ e.bad = true
  | some g => e.inn = true ∧ e.bad = false ∧ e.got = g ∧ e.esc = p.waits)
theorem last_told (s : Vbaval.St) (hs : List (List Nat)) : Vbaval.lastNumber (hs.map (toldOf s)) = hs.getLast?.map numF := by
  unfold Vbaval.lastNumber
  rw [List.getLast?_map, Option.map_map]
  rfl
theorem alike_step {s : Vbaval.St} {e : Vbaval.Ear} {p : PEar} (h : Alike s e p) (b : Nat) : Alike s (Vbaval.heardByte s e b) (earStep s.len p b) := by
  obtain ⟨ht, hb⟩ := h
  unfold Vbaval.heardByte earStep
  by_cases c1 : b = 192
  · rw [if_pos (show b = Vbaval.BEGIN from c1), if_pos c1]
    exact ⟨ht, rfl, rfl, rfl, rfl⟩
  rw [if_neg (show ¬ b = Vbaval.BEGIN from c1), if_neg c1]
  by_cases c2 : b = 193
  · rw [if_pos (show b = Vbaval.END from c2), if_pos c2]
    unfold earEnd
    cases hg : p.begun with
    | none =>
      rw [hg] at hb
      have c3 : (e.inn && (!e.esc && !e.bad)) = false := by
        rcases hb with q | q <;> rw [q] <;> simp
      rw [if_pos c3]
      exact ⟨ht, Or.inl rfl⟩
    | some g =>
      rw [hg] at hb
      obtain ⟨h1, h2, h3, h4⟩ := hb
      rw [h1, h2, h3, h4]
      dsimp only
      cases hw : p.waits with
      | true =>
        rw [if_pos (by decide), if_neg (by simp)]
        exact ⟨ht, Or.inl rfl⟩
      | false =>
        rw [if_neg (by decide)]
        unfold isTold
        cases hr : Vbaval.rightFrame s.len g with
        | none =>
          dsimp only
          rw [if_neg (by simp)]
          exact ⟨ht, Or.inl rfl⟩
        | some n =>
          have hn := right_num hr
          dsimp only
          rw [ht, last_told]
          cases hl : p.heard.getLast? with
          | none =>
            dsimp only [Option.map_none]
            rw [if_pos rfl, if_pos (by simp)]
            refine ⟨?_, Or.inl rfl⟩
            show p.heard.map (toldOf s) ++ _ = (p.heard ++ [g]).map (toldOf s)
            rw [List.map_append, List.map_singleton]
            unfold toldOf
            rw [hn]
          | some f =>
            dsimp only [Option.map_some]
            by_cases c : numF f < n
            · rw [if_pos (decide_eq_true c), if_pos (by rw [hn]; simp [c])]
              refine ⟨?_, Or.inl rfl⟩
              show p.heard.map (toldOf s) ++ _ = (p.heard ++ [g]).map (toldOf s)
              rw [List.map_append, List.map_singleton]
              unfold toldOf
              rw [hn]
            · rw [if_neg (by simp [c]), if_neg (by rw [hn]; simp [c])]
              exact ⟨rfl, Or.inl rfl⟩
  rw [if_neg (show ¬ b = Vbaval.END from c2), if_neg c2]
  cases hg : p.begun with
  | none =>
    rw [hg] at hb
    dsimp only
    rcases hb with q | q
    · rw [if_pos q]
      refine ⟨ht, ?_⟩
      rw [hg]; exact Or.inl q
    · refine ⟨?_, ?_⟩
      · rw [← ht]
        split
        · rfl
        split
        · split <;> rfl
        split <;> rfl
      · rw [hg]
        dsimp only
        split
        · exact Or.inr q
        split
        · split
          · exact Or.inr q
          · exact Or.inr rfl
        split <;> exact Or.inr q
  | some g =>
    rw [hg] at hb
    obtain ⟨h1, h2, h3, h4⟩ := hb
    dsimp only
    unfold earIn earEsc
    rw [h1, h2, h3, h4, if_neg (by decide)]
    cases hw : p.waits with
    | true =>
      rw [if_pos rfl, if_pos rfl]
      by_cases c3 : b ≤ 2
      · rw [if_pos c3, if_pos c3]
        exact ⟨ht, rfl, rfl, rfl, rfl⟩
      · rw [if_neg c3, if_neg c3]
        exact ⟨ht, Or.inr rfl⟩
    | false =>
      rw [if_neg (show ¬ (false = true) by decide), if_neg (show ¬ (false = true) by decide)]
      by_cases c3 : b = 194
      · rw [if_pos (show b = Vbaval.ESC from c3), if_pos c3]
        exact ⟨ht, rfl, rfl, rfl, rfl⟩
      · rw [if_neg (show ¬ b = Vbaval.ESC from c3), if_neg c3]
        exact ⟨ht, rfl, rfl, rfl, rfl⟩
theorem alike_all (s : Vbaval.St) : ∀ (l : List Nat) (e : Vbaval.Ear) (p : PEar), Alike s e p → Alike s (l.foldl (Vbaval.heardByte s) e) (l.foldl (earStep s.len) p)
  | [], _, _, h => h
  | b :: l, e, p, h => alike_all s l _ _ (alike_step h b)
theorem heard_eq (s : Vbaval.St) (l : List Nat) : Vbaval.heard s l = (l.foldl (earStep s.len) ear0).heard.map (toldOf s) :=
  (alike_all s l ⟨false, false, false, [], []⟩ ear0 ⟨rfl, Or.inl rfl⟩).1
/-- the ear behind i bytes -/
structure EarOk (len : Nat) (e : PEar) (i : Nat) : Prop where
  fr : ∀ g ∈ e.heard, g.length = len + 6 ∧ ∀ b ∈ g, b < 256
  hl : e.heard.length ≤ i
  by_ : ∀ g, e.begun = some g → g.length ≤ i ∧ ∀ b ∈ g, b < 256
theorem EarOk.step {len : Nat} {e : PEar} {i b : Nat} (h : EarOk len e i) (hb : b < 256) : EarOk len (earStep len e b) (i + 1) := by
  have up : ∀ w, EarOk len ⟨e.heard, none, w⟩ (i + 1) := fun w => ⟨h.fr, Nat.le_succ_of_le h.hl, fun g q => nomatch q⟩
  have add : ∀ g x w, e.begun = some g → x < 256 → EarOk len ⟨e.heard, some (g ++ [x]), w⟩ (i + 1) := fun g x w q hx => ⟨h.fr, Nat.le_succ_of_le h.hl, fun g' q' => by
    obtain ⟨h1, h2⟩ := h.by_ g q
    have : g ++ [x] = g' := Option.some.inj q'
    subst this
    refine ⟨by rw [List.length_append]; exact Nat.succ_le_succ h1, fun c hc => ?_⟩
    rcases List.mem_append.mp hc with hc | hc
    · exact h2 c hc
    · rw [List.mem_singleton.mp hc]; exact hx⟩
  unfold earStep
  split
  · refine ⟨h.fr, Nat.le_succ_of_le h.hl, fun g q => ?_⟩
    have : ([] : List Nat) = g := Option.some.inj q
    subst this
    exact ⟨Nat.zero_le _, fun b hb => nomatch hb⟩
  split
  · unfold earEnd
    split
    · exact up _
    · rename_i g hg
      split
      · rename_i c
        refine ⟨fun f hf => ?_, ?_, fun g q => nomatch q⟩
        · rcases List.mem_append.mp hf with hf | hf
          · exact h.fr f hf
          · rw [List.mem_singleton.mp hf]
            refine ⟨?_, (h.by_ g hg).2⟩
            unfold isTold at c
            simp only [Bool.and_eq_true] at c
            obtain ⟨n, hn⟩ := Option.isSome_iff_exists.mp c.2.1
            exact (FrM.right_iff.mp hn).1
        · show (e.heard ++ [g]).length ≤ i + 1
          rw [List.length_append]
          exact Nat.succ_le_succ h.hl
      · exact up _
  split
  · exact ⟨h.fr, Nat.le_succ_of_le h.hl, fun g q => And.intro (Nat.le_succ_of_le (h.by_ g q).1) (h.by_ g q).2⟩
  · rename_i g hg
    unfold earIn earEsc
    split
    · split
      · exact add g _ _ hg (by omega)
      · exact up _
    split
    · refine ⟨h.fr, Nat.le_succ_of_le h.hl, fun g' q => ?_⟩
      have : g = g' := Option.some.inj q
      subst this
      exact ⟨Nat.le_succ_of_le (h.by_ g hg).1, (h.by_ g hg).2⟩
    · exact add g _ _ hg hb
theorem ear0_ok (len : Nat) : EarOk len ear0 0 := ⟨(fun g h => nomatch h), Nat.le_refl _, (fun g q => nomatch q)⟩
def sentF (fs : List (List Nat)) : List Nat := fs.flatMap fun f => 192 :: (Vbaval.stuffed f ++ [193])
theorem sent_eq {s : Vbaval.St} {fs : List (List Nat)} (p : fs.Perm (goodL s.len s.slots (List.range s.slots.length))) (hs : fs.Pairwise (fun x y => numF x ≤ numF y)) : Vbaval.sent s = sentF fs := by
  have hslot : ∀ f ∈ fs, (Vbaval.slotOf s (numF f % s.slots.length)).drop 1 = f := fun f hf => by
    obtain ⟨j, hj, e⟩ := List.mem_filterMap.mp (p.mem_iff.mp hf)
    cases g : gd s.len s.slots.length j (s.slots.getD j []) with
    | none => rw [g] at e; cases e
    | some m =>
      rw [g] at e
      have e' : (s.slots.getD j []).drop 1 = f := Option.some.inj e
      have hg : Vbaval.good s j = some m := g
      have hn := good_num hg
      obtain ⟨_, _, _, hi⟩ := FrM.good_iff.mp hg
      have hn' : numF f = m := by rw [← e']; exact hn
      rw [hn', hi]
      exact e'
  unfold Vbaval.sent
  rw [readOut_frames p hs]
  unfold sentF
  rw [List.flatMap_map]
  have : ∀ (gs : List (List Nat)), (∀ f ∈ gs, f ∈ fs) → (gs.flatMap fun f => Vbaval.BEGIN :: (Vbaval.stuffed ((Vbaval.slotOf s ((toldOf s f).number % s.slots.length)).drop 1) ++ [Vbaval.END])) = gs.flatMap fun f => 192 :: (Vbaval.stuffed f ++ [193]) := by
    intro gs
    induction gs with
    | nil => intro _; rfl
    | cons f gs ih =>
      intro h
      rw [List.flatMap_cons, List.flatMap_cons, ih fun g hg => h g (List.mem_cons_of_mem _ hg)]
      have := hslot f (h f List.mem_cons_self)
      have e : (toldOf s f).number = numF f := rfl
      rw [e, this]
      rfl
  exact this fs fun f hf => hf
theorem stuffed_length (l : List Nat) : (Vbaval.stuffed l).length ≤ 2 * l.length := by
  induction l with
  | nil => exact Nat.le_refl _
  | cons b l ih =>
    have : Vbaval.stuffed (b :: l) = (if Vbaval.BEGIN ≤ b ∧ b ≤ Vbaval.ESC then [Vbaval.ESC, b - Vbaval.BEGIN] else [b]) ++ Vbaval.stuffed l := rfl
    rw [this, List.length_append, List.length_cons]
    split
    · have : ([Vbaval.ESC, b - Vbaval.BEGIN] : List Nat).length = 2 := rfl
      omega
    · have : ([b] : List Nat).length = 1 := rfl
      omega
theorem stuffed_lt {l : List Nat} (h : ∀ b ∈ l, b < 256) : ∀ b ∈ Vbaval.stuffed l, b < 256 := fun b hb => by
  obtain ⟨c, hc, hb⟩ := List.mem_flatMap.mp hb
  have := h c hc
  split at hb
  · rcases List.mem_cons.mp hb with rfl | hb
    · decide
    · rw [List.mem_singleton.mp hb]; omega
  · rw [List.mem_singleton.mp hb]; exact this
theorem sentF_length {n : Nat} : ∀ (fs : List (List Nat)), (∀ f ∈ fs, f.length ≤ n) → (sentF fs).length ≤ fs.length * (2 * n + 2)
  | [], _ => by simp [sentF]
  | f :: fs, h => by
    have ih := sentF_length fs fun g hg => h g (List.mem_cons_of_mem _ hg)
    have h1 := h f List.mem_cons_self
    have h2 := stuffed_length f
    have e : sentF (f :: fs) = (192 :: (Vbaval.stuffed f ++ [193])) ++ sentF fs := rfl
    have e1 : ([193] : List Nat).length = 1 := rfl
    rw [e, List.length_append, List.length_cons, List.length_append, e1, List.length_cons, Nat.succ_mul]
    generalize fs.length * (2 * n + 2) = z at ih ⊢
    omega
theorem sentF_lt {fs : List (List Nat)} (h : ∀ f ∈ fs, ∀ b ∈ f, b < 256) : ∀ b ∈ sentF fs, b < 256 := fun b hb => by
  obtain ⟨f, hf, hb⟩ := List.mem_flatMap.mp hb
  rcases List.mem_cons.mp hb with rfl | hb
  · decide
  · rcases List.mem_append.mp hb with hb | hb
    · exact stuffed_lt (h f hf) b hb
    · rw [List.mem_singleton.mp hb]; decide
theorem set_parts {l : List Nat} {p v : Nat} (h : p < l.length) : l.set p v = l.take p ++ [v] ++ l.drop (p + 1) := by
  rw [List.set_eq_take_append_cons_drop, if_pos h, List.append_assoc]
  rfl
theorem damaged_lt {l : List Nat} {what p n : Nat} (h : ∀ b ∈ l, b < 256) (hn : what ≠ 0 → what ≠ 1 → n ≤ 7) : ∀ b ∈ Vbaval.damaged what p n l, b < 256 := fun b hb => by
  unfold Vbaval.damaged at hb
  split at hb
  · rcases List.mem_append.mp hb with hb | hb
    · exact h b (List.mem_of_mem_take hb)
    · exact h b (List.mem_of_mem_drop hb)
  split at hb
  · rcases List.mem_append.mp hb with hb | hb
    · exact h b (List.mem_of_mem_take hb)
    · exact h b (List.mem_of_mem_drop hb)
  · rename_i c1 c2
    rcases List.mem_or_eq_of_mem_set hb with hb | hb
    · exact h b hb
    · rw [hb]; exact FrM.flip_lt (FrM.getD_lt h (by decide) p) (hn c1 c2)
theorem damaged_length {l : List Nat} {what p n : Nat} : (Vbaval.damaged what p n l).length ≤ 2 * l.length := by
  unfold Vbaval.damaged
  split
  · rw [List.length_append, List.length_take, List.length_drop]; omega
  split
  · rw [List.length_append, List.length_take, List.length_drop]; omega
  · rw [List.length_set]; omega
end Fr
namespace Fr
open PySem PySem.Spec PyProof.Rows L2
def stuffB (b : Nat) : List Nat := if 192 ≤ b ∧ b ≤ 194 then [194, b - 192] else [b]
theorem stuffed_snoc (l : List Nat) (b : Nat) : Vbaval.stuffed (l ++ [b]) = Vbaval.stuffed l ++ stuffB b := by
  unfold Vbaval.stuffed
  rw [List.flatMap_append, List.flatMap_cons, List.flatMap_nil, List.append_nil]
  rfl
theorem sentF_snoc (fs : List (List Nat)) (f : List Nat) : sentF (fs ++ [f]) = sentF fs ++ 192 :: (Vbaval.stuffed f ++ [193]) := by
  unfold sentF
  rw [List.flatMap_append, List.flatMap_cons, List.flatMap_nil, List.append_nil]
theorem stuffB_length (b : Nat) : (stuffB b).length ≤ 2 := by
  unfold stuffB
  split
  · exact Nat.le_refl _
  · show 1 ≤ 2; decide
section
variable {P : Program} {w : World} {K : PySem.W.Frag} {mg : Str → Option Value} {base : Heap}
def spSentB : Sp := fun vs H Q _ => ∃ (b : Nat), vs = [.int (b : Nat)] ∧ RetL H Q (nv (stuffB b))
theorem scSentB : FnScope ["byte"] ["byte"] (defScope sSentB) := ⟨rfl, rfl, rfl, by decide +kernel, rfl, by decide +kernel, by decide +kernel⟩
theorem d_sentB (F : FunD K mg "sent_byte" sSentB) (T : TxtL mg) : Def P w K mg base "sent_byte" 1 ["byte"] spSentB := by
  obtain ⟨f, fd, F, hm⟩ := F
  refine ⟨f, fd, ?_, hm, F.kp, F.binds fun _ _ _ _ _ _ us hl => match us, hl with | [_], _ => rfl⟩
  refine F.ok scSentB (fun vs H Q E h => ?_) (fun cdv A outer s H vs Q E hr h => ?_)
  · obtain ⟨b, rfl, _⟩ := h
    rfl
  · obtain ⟨b, rfl, k⟩ := h
    obtain ⟨tB, hB⟩ := T.BEGIN
    obtain ⟨tE, hE⟩ := T.ESCAPE
    refine ⟨_, pss_one (ps_ret (pe_ifExp (pt_chain op_le op_le (pe_glob (v := .int 192) rfl hB ⟨_, rfl⟩) (pv 0) (pe_glob (v := .int 194) rfl hE ⟨_, rfl⟩))
      (pe_lst (pa_cons (pe_glob (v := .int 194) rfl hE ⟨_, rfl⟩) (pa_cons (pe_op op_sub (pv 0) (pe_glob (v := .int 192) rfl hB ⟨_, rfl⟩)) pa_nil))) (pe_lst (pa_cons (pv 0) pa_nil)))), ?_⟩
    have els : ¬ (192 ≤ b ∧ b ≤ 194) → tLst (tCons (tVar 0) tNil) [some (.int (b : Nat))] H Q := fun c => ⟨_, rfl, (by show 1 ≤ sizeLine; decide), fun p np => k _ p (Same.new np) np (by
      rw [upd_same]
      unfold stuffB
      rw [if_neg c]; rfl)⟩
    refine ⟨_, rfl, _, _, rfl, rfl, _, rfl, ite2 (fun c => ⟨_, _, rfl, rfl, _, rfl, ite2 (fun c2 => ?_) (fun c2 => els ?_)⟩) (fun c => ⟨_, rfl, els ?_⟩)⟩
    · have c1 := of_decide_eq_true c
      have c3 := of_decide_eq_true c2
      refine ⟨_, rfl, _, _, rfl, rfl, (by show 2 ≤ sizeLine; decide), fun p np => k _ p (Same.new np) np ?_⟩
      rw [upd_same]
      unfold stuffB
      rw [if_pos (by omega)]
      have : ((b : Int) - 192) = ((b - 192 : Nat) : Int) := by omega
      dsimp only
      rw [this]
      rfl
    · have c3 : ¬ (b : Int) ≤ 194 := fun q => c2 (decide_eq_true q)
      omega
    · have c3 : ¬ (192 : Int) ≤ b := fun q => c (decide_eq_true q)
      omega
def spSentF : Sp := fun vs H Q _ => ∃ (a : Addr) (fs : List (List Nat)), vs = [.ref a] ∧ FramesAt H a fs ∧ (∀ f ∈ fs, f.length ≤ 100) ∧ fs.length ≤ 100 ∧ RetL H Q (nv (sentF fs))
theorem scSentF : FnScope ["frames", "sent", "frame", "byte"] ["frames"] (defScope sSentF) := ⟨rfl, rfl, rfl, by decide +kernel, rfl, by decide +kernel, by decide +kernel⟩
theorem d_sentF (F : FunD K mg "sent_frames" sSentF) (T : TxtL mg) (DB : Def P w K mg base "sent_byte" 1 ["byte"] spSentB) : Def P w K mg base "sent_frames" 2 ["frames"] spSentF := by
  obtain ⟨f, fd, F, hm⟩ := F
  refine ⟨f, fd, ?_, hm, F.kp, F.binds fun _ _ _ _ _ _ us hl => match us, hl with | [_], _ => rfl⟩
  refine F.ok scSentF (fun vs H Q E h => ?_) (fun cdv A outer s H vs Q E hr h => ?_)
  · obtain ⟨a, fs, rfl, _⟩ := h
    rfl
  · obtain ⟨a, fs, rfl, ⟨as, hA, hlen, hI⟩, hf1, hf2, k⟩ := h
    have nd := scSentF.nd
    obtain ⟨tB, hB⟩ := T.BEGIN
    obtain ⟨tE, hE⟩ := T.END
    refine ⟨_, pss_cons (ps_set (i := 1) nd rfl (Or.inl rfl) (pe_lst pa_nil))
      (pss_cons (ps_for PassesOwn.never rfl (pi_list (pv 0)) (pg_name (i := 2) nd rfl (Or.inl rfl) (Or.inr rfl))
        (pss_cons (ps_expr (pe_bm PySem.F.plainAttrs_list PySem.F.slot_list_append PySem.F.type_list_append mt_append (pv 1) (pa_cons (pe_glob (v := .int 192) rfl hB ⟨_, rfl⟩) pa_nil)))
        (pss_cons (ps_for PassesOwn.never rfl (pi_list (pv 2)) (pg_name (i := 3) nd rfl (Or.inl rfl) (Or.inr rfl))
          (pss_one (ps_expr (pe_bm PySem.F.plainAttrs_list PySem.F.slot_list_extend PySem.F.type_list_extend mt_extend (pv 1) (pa_cons (pe_fn DB hr rfl (pa_cons (pv 3) pa_nil)) pa_nil)))))
        (pss_one (ps_expr (pe_bm PySem.F.plainAttrs_list PySem.F.slot_list_append PySem.F.type_list_append mt_append (pv 1) (pa_cons (pe_glob (v := .int 193) rfl hE ⟨_, rfl⟩) pa_nil)))))))
      (pss_one (ps_ret (pv 1)))), ?_⟩
    have hsz : ∀ i, (sentF (fs.take i)).length ≤ 100 * 202 := fun i => by
      have h1 := sentF_length (n := 100) (fs.take i) fun f hf => hf1 f (List.mem_of_mem_take hf)
      have h2 : (fs.take i).length ≤ 100 := by rw [List.length_take]; omega
      exact Nat.le_trans h1 (Nat.mul_le_mul_right _ h2)
    refine ⟨(by show 0 ≤ sizeLine; decide), fun l hl => ?_⟩
    refine ⟨_, rfl, a, rfl, ⟨_, SqL.of ((Same.new hl) _ _ hA)⟩, for_gen (J := Itl K a) fs.length (fun i σ H' => ∃ (v2 v3 : Option V), σ = [some (.ref a), some (.ref l), v2, v3] ∧ H' l = some (.lst (nv (sentF (fs.take i)))) ∧ Same H H')
      ⟨none, none, rfl, upd_same, Same.new hl⟩ (fun i σ H' hi ⟨_, _, _, _, hs'⟩ => list_go (SqL.of (hs' _ _ hA)) (by rw [List.length_map]; omega)) (fun σ H' ⟨_, _, _, _, hs'⟩ => list_stop (SqL.of (hs' _ _ hA)) (by rw [List.length_map]; omega)) ?_ ?_⟩
    · rintro i x σ H1 H' hi ⟨v2, v3, rfl, hq, hs1⟩ hy
      obtain ⟨rfl, h1⟩ := hy
      obtain ⟨b, hb, rfl⟩ := ref_some (h1 _ (SqL.of (hs1 _ _ hA)))
      obtain ⟨f, hf⟩ : ∃ f, fs[i]? = some f := ⟨_, List.getElem?_eq_getElem hi⟩
      have hbf := hI i b f hb hf
      have hfl := hf1 f (List.mem_of_getElem? hf)
      have nbl : b ≠ l := ne_of_none hbf hl
      have hz := hsz i
      refine ⟨_, rfl, .inl ⟨rfl, _, SqL.of hq⟩, l, _, _, rfl, rfl, hq, ?_, ?_⟩
      · rw [nv_length, sizeLine_eq]; omega
      refine ⟨_, rfl, b, rfl, ⟨_, SqL.of ((upd_ne nbl).trans (hs1 _ _ hbf))⟩, for_gen (J := Itl K b) f.length (fun j σ H2 => ∃ (v3 : Option V), σ = [some (.ref a), some (.ref l), some (.ref b), v3] ∧ H2 l = some (.lst (nv (sentF (fs.take i) ++ 192 :: Vbaval.stuffed (f.take j)))) ∧ Same H H2)
        ⟨v3, rfl, ?_, But.same hs1 hl But.upd⟩ (fun j σ H' hj ⟨_, _, _, hs'⟩ => list_go (SqL.of (hs' _ _ hbf)) (by rw [nv_length]; omega)) (fun σ H' ⟨_, _, _, hs'⟩ => list_stop (SqL.of (hs' _ _ hbf)) (by rw [nv_length]; omega)) ?_ ?_⟩
      · rw [upd_same, nv_append]; rfl
      · rintro j y σ H2 H3 hj ⟨v3, rfl, hq2, hs2⟩ hy2
        obtain ⟨rfl, h2⟩ := hy2
        obtain ⟨c, hc, rfl⟩ := nv_some (h2 _ (SqL.of (hs2 _ _ hbf)))
        have hz2 : (Vbaval.stuffed (f.take j)).length ≤ 200 := by
          have := stuffed_length (f.take j)
          rw [List.length_take] at this
          omega
        refine ⟨_, rfl, .inl ⟨rfl, _, SqL.of hq2⟩, _, rfl, c, rfl, fun H4 p4 s4 n4 e4 => ?_⟩
        have hb2 := stuffB_length c
        have p4l : p4 ≠ l := fun q => by rw [q, hq2] at n4; cases n4
        refine ⟨l, p4, _, _, rfl, rfl, s4 _ _ hq2, e4, ?_, ⟨_, rfl, ?_, But.same (hs2.trans s4) hl But.upd⟩⟩
        · rw [nv_length, nv_length, List.length_append, List.length_cons, sizeLine_eq]
          omega
        · rw [upd_same, ← nv_append, List.append_assoc, List.cons_append, ← stuffed_snoc]
          have : f.take (j + 1) = f.take j ++ [c] := by rw [List.take_add_one, hc]; rfl
          rw [this]
      · rintro σ H2 ⟨v3, rfl, hq2, hs2⟩
        rw [List.take_length] at hq2
        have hz2 := stuffed_length f
        refine ⟨_, rfl, .inl ⟨rfl, _, SqL.of hq2⟩, l, _, _, rfl, rfl, hq2, ?_, ⟨_, _, rfl, ?_, But.same hs2 hl But.upd⟩⟩
        · rw [nv_length, List.length_append, List.length_cons, sizeLine_eq]
          omega
        · have : fs.take (i + 1) = fs.take i ++ [f] := by rw [List.take_add_one, hf]; rfl
          rw [upd_same, this, sentF_snoc, show ([V.int 193] : List V) = nv [193] from rfl, ← nv_append, List.append_assoc]
          rfl
    · rintro σ H1 ⟨v2, v3, rfl, hq, hs1⟩
      rw [List.take_length] at hq
      exact ⟨_, rfl, k H1 l hs1 hl hq⟩
end
end Fr
namespace Fr
open PySem PySem.Spec PyProof.Rows L2
/-- a chain of two comparisons of ints, its last part read without a step -/
theorem chain_b {p q : Int → Int → Bool} {tc : TE} {σ : L2.St} {H : Hp} {Q : VK} {x y z : Int} (hc : ∀ Q' : VK, Q' (.int z) H → tc σ H Q') (h : Q (.bl (p x y && q y z)) H) :
    (rI0 fun i j => .bl (p i j)) (.int x) (.int y) H fun z' H3 => ∃ k, z' = .bl k ∧ (if k = true then tc σ H3 fun w' H4 => (rI0 fun i j => .bl (q i j)) (.int y) w' H4 Q else Q (.bl false) H3) := by
  refine ⟨_, _, rfl, rfl, _, rfl, ite2 (fun c => hc _ ⟨_, _, rfl, rfl, ?_⟩) (fun c => ?_)⟩
  · rw [c, Bool.true_and] at h; exact h
  · rw [Bool.not_eq_true] at c
    rw [c, Bool.false_and] at h; exact h
def dmgOk (w p n : Int) (m : Nat) : Bool := (Vbaval.within w 0 2 && (Vbaval.within p 0 (m : Int) && Vbaval.within n 0 (if w = 2 then 7 else 1000))) && !decide (w = 2 ∧ p = (m : Int))
theorem dmg2 (p n : Int) (m : Nat) : dmgOk 2 p n m = ((decide (0 ≤ p) && decide (p < (m : Int))) && (decide (0 ≤ n) && decide (n ≤ 7))) := by
  unfold dmgOk
  rw [Bool.eq_iff_iff]
  simp only [Bool.and_eq_true, FrM.within_iff, Bool.not_eq_true', decide_eq_true_eq, decide_eq_false_iff_not, if_true, true_and]
  omega
theorem dmg01 {w p n : Int} {m : Nat} (h : w ≠ 2) : dmgOk w p n m = ((decide (w = 0) || decide (w = 1)) && ((decide (0 ≤ p) && decide (p ≤ (m : Int))) && (decide (0 ≤ n) && decide (n ≤ 1000)))) := by
  unfold dmgOk
  rw [Bool.eq_iff_iff, if_neg h]
  simp only [Bool.and_eq_true, Bool.or_eq_true, FrM.within_iff, Bool.not_eq_true', decide_eq_true_eq, decide_eq_false_iff_not]
  omega
theorem in_two (x : Int) : inV (.int x) [.int 0, .int 1] = (decide (x = 0) || decide (x = 1)) := by
  show ((0 : Int) == x || ((1 : Int) == x || false)) = _
  rw [Bool.eq_iff_iff]
  simp only [Bool.or_eq_true, beq_iff_eq, decide_eq_true_eq, Bool.false_eq_true, or_false]
  omega
section
variable {P : Program} {w : World} {K : PySem.W.Frag} {mg : Str → Option Value} {base : Heap}
def spIsDmg : Sp := fun vs H Q _ => ∃ (x p n : Int) (m : Nat), vs = [.int x, .int p, .int n, .int (m : Nat)] ∧ ∀ H', Same H H' → Q (.bl (dmgOk x p n m)) H'
theorem scIsDmg : FnScope ["what", "place", "amount", "sent_count"] ["what", "place", "amount", "sent_count"] (defScope sIsDmg) := ⟨rfl, rfl, rfl, by decide +kernel, rfl, by decide +kernel, by decide +kernel⟩
theorem d_isDmg (F : FunD K mg "is_damage" sIsDmg) (T : TxtL mg) : Def P w K mg base "is_damage" 1 ["what", "place", "amount", "sent_count"] spIsDmg := by
  obtain ⟨f, fd, F, hm⟩ := F
  refine ⟨f, fd, ?_, hm, F.kp, F.binds fun _ _ _ _ _ _ us hl => match us, hl with | [_, _, _, _], _ => rfl⟩
  refine F.ok scIsDmg (fun vs H Q E h => ?_) (fun cdv A outer s H vs Q E hr h => ?_)
  · obtain ⟨x, p, n, m, rfl, _⟩ := h
    rfl
  · obtain ⟨x, p, n, m, rfl, k⟩ := h
    obtain ⟨tF, hF⟩ := T.FLIPPED
    obtain ⟨tL, hL⟩ := T.LOST
    obtain ⟨tD, hD⟩ := T.DOUBLED
    refine ⟨_, pss_cons (ps_if (pt_cmpR op_eq (pv 0) (pe_glob (v := .int 2) rfl hF ⟨_, rfl⟩) (nomark _)) (pss_one (ps_ret (pe_and (pe_chain op_le op_lt pe_int (pv 1) (pv 3)) (pe_one (pe_chain op_le op_le pe_int (pv 2) pe_int))))) pss_nil)
      (pss_one (ps_ret (pe_and (pe_cmpR op_in_seq (pv 0) (pe_tup (pa_cons (pe_glob (v := .int 0) rfl hL ⟨_, rfl⟩) (pa_cons (pe_glob (v := .int 1) rfl hD ⟨_, rfl⟩) pa_nil))) rfl)
        (pe_and (pe_chain op_le op_le pe_int (pv 1) (pv 3)) (pe_one (pe_chain op_le op_le pe_int (pv 2) pe_int)))))), ?_⟩
    refine ⟨_, rfl, rfl, _, rfl, ite2 (fun c => ?_) (fun c => ?_)⟩
    · have hx : x = 2 := by
        rw [dec_int] at c
        exact beq_iff_eq.mp c
      subst hx
      have k0 := k H (Same.refl H)
      rw [dmg2] at k0
      refine ⟨_, rfl, chain_b (p := fun i j => decide (i ≤ j)) (q := fun i j => decide (i < j)) (fun _ h => ⟨_, rfl, h⟩) ⟨_, rfl, ite2 (fun c1 => ⟨_, rfl, chain_b (p := fun i j => decide (i ≤ j)) (q := fun i j => decide (i ≤ j)) (fun _ h => h) ?_⟩) (fun c1 => ?_)⟩⟩
      · rw [c1, Bool.true_and] at k0; exact k0
      · rw [Bool.not_eq_true] at c1
        rw [c1, Bool.false_and] at k0; exact k0
    · have hx : x ≠ 2 := fun q => c (by rw [dec_int, beq_iff_eq]; exact q)
      refine ⟨_, rfl, (by show 2 ≤ sizeLine; decide), fun q nq => ⟨q, _, rfl, .inr (SqT.of upd_same), rfl, rfl, ?_⟩⟩
      have k0 := k (upd H q (.tup [.int 0, .int 1])) (Same.new nq)
      rw [dmg01 hx, ← in_two] at k0
      refine ⟨_, rfl, ite2 (fun c1 => ?_) (fun c1 => ?_)⟩
      · have c1' : inV (.int x) [.int 0, .int 1] = true := c1
        rw [c1', Bool.true_and] at k0
        refine ⟨_, rfl, chain_b (p := fun i j => decide (i ≤ j)) (q := fun i j => decide (i ≤ j)) (fun _ h => ⟨_, rfl, h⟩) ⟨_, rfl, ite2 (fun c2 => ⟨_, rfl, chain_b (p := fun i j => decide (i ≤ j)) (q := fun i j => decide (i ≤ j)) (fun _ h => h) ?_⟩) (fun c2 => ?_)⟩⟩
        · rw [c2, Bool.true_and] at k0; exact k0
        · rw [Bool.not_eq_true] at c2
          rw [c2, Bool.false_and] at k0; exact k0
      · have c1' : inV (.int x) [.int 0, .int 1] = false := (Bool.not_eq_true _).mp c1
        rw [c1', Bool.false_and] at k0
        exact k0
def spDmg : Sp := fun vs H Q _ => ∃ (a : Addr) (l : List Nat) (x p n : Nat), vs = [.ref a, .int (x : Nat), .int (p : Nat), .int (n : Nat)] ∧ H a = some (.lst (nv l)) ∧ x ≤ 2 ∧ (x = 2 → p < l.length ∧ n ≤ 7) ∧ l.length ≤ 100000 ∧ RetL H Q (nv (Vbaval.damaged x p n l))
theorem scDmg : FnScope ["sent", "what", "place", "amount"] ["sent", "what", "place", "amount"] (defScope sDmg) := ⟨rfl, rfl, rfl, by decide +kernel, rfl, by decide +kernel, by decide +kernel⟩
theorem d_dmg (F : FunD K mg "damaged" sDmg) (T : TxtL mg) : Def P w K mg base "damaged" 1 ["sent", "what", "place", "amount"] spDmg := by
  obtain ⟨f, fd, F, hm⟩ := F
  refine ⟨f, fd, ?_, hm, F.kp, F.binds fun _ _ _ _ _ _ us hl => match us, hl with | [_, _, _, _], _ => rfl⟩
  refine F.ok scDmg (fun vs H Q E h => ?_) (fun cdv A outer s H vs Q E hr h => ?_)
  · obtain ⟨a, l, x, p, n, rfl, _⟩ := h
    rfl
  · obtain ⟨a, l, x, p, n, rfl, hA, hx, h2, hl, k⟩ := h
    obtain ⟨tL, hL⟩ := T.LOST
    obtain ⟨tD, hD⟩ := T.DOUBLED
    refine ⟨_, pss_cons (ps_if (pt_cmpR op_eq (pv 1) (pe_glob (v := .int 0) rfl hL ⟨_, rfl⟩) (nomark _)) (pss_one (ps_ret (pe_op op_cat (pe_slice sl_list (pv 0) po_none (po_some (pv 2))) (pe_slice sl_list (pv 0) (po_some (pe_op op_add (pv 2) (pv 3))) po_none)))) pss_nil)
      (pss_cons (ps_if (pt_cmpR op_eq (pv 1) (pe_glob (v := .int 1) rfl hD ⟨_, rfl⟩) (nomark _)) (pss_one (ps_ret (pe_op op_cat (pe_slice sl_list (pv 0) po_none (po_some (pe_op op_add (pv 2) (pv 3)))) (pe_slice sl_list (pv 0) (po_some (pv 2)) po_none)))) pss_nil)
      (pss_one (ps_ret (pe_op op_cat (pe_op op_cat (pe_slice sl_list (pv 0) po_none (po_some (pv 2))) (pe_lst (pa_cons (pe_op op_xor (pe_ix ix_list (pv 0) (pv 2) (fun _ _ => rfl)) (pe_op op_shl pe_int (pv 3))) pa_nil)))
        (pe_slice sl_list (pv 0) (po_some (pe_op op_add (pv 2) pe_int)) po_none))))), ?_⟩
    have epn : ((p : Nat) : Int) + ((n : Nat) : Int) = ((p + n : Nat) : Int) := by omega
    have ep1 : ((p : Nat) : Int) + 1 = ((p + 1 : Nat) : Int) := by omega
    refine ⟨_, rfl, rfl, _, rfl, ite2 (fun c => ?_) (fun c => ?_)⟩
    · have hx0 : x = 0 := by
        rw [dec_int, beq_iff_eq] at c
        omega
      subst hx0
      refine ⟨_, rfl, _, rfl, _, rfl, a, _, rfl, SqL.of hA, fun q1 n1 => ?_⟩
      rw [cut_hi, nv_take]
      have s1 : Same H (upd H q1 (.lst (nv (l.take p)))) := Same.new n1
      refine ⟨_, rfl, _, rfl, _, rfl, _, _, rfl, rfl, _, rfl, a, _, rfl, SqL.of (s1 _ _ hA), fun q2 n2 => ?_⟩
      dsimp only
      rw [epn, cut_lo, nv_drop]
      have s2 : Same (upd H q1 (.lst (nv (l.take p)))) (upd (upd H q1 (.lst (nv (l.take p)))) q2 (.lst (nv (l.drop (p + n))))) := Same.new n2
      refine ⟨q1, q2, _, _, rfl, rfl, s2 _ _ upd_same, upd_same, ?_, fun q3 n3 => k _ q3 ((s1.trans s2).and n3) ((s1.trans s2).free n3) ?_⟩
      · rw [nv_length, nv_length, List.length_take, List.length_drop, sizeLine_eq]
        omega
      · rw [upd_same, ← nv_append]
        rfl
    refine ⟨_, rfl, rfl, _, rfl, ite2 (fun c1 => ?_) (fun c1 => ?_)⟩
    · have hx1 : x = 1 := by
        rw [dec_int, beq_iff_eq] at c1
        omega
      subst hx1
      refine ⟨_, rfl, _, rfl, _, rfl, _, _, rfl, rfl, _, rfl, a, _, rfl, SqL.of hA, fun q1 n1 => ?_⟩
      dsimp only
      rw [epn, cut_hi, nv_take]
      have s1 : Same H (upd H q1 (.lst (nv (l.take (p + n))))) := Same.new n1
      refine ⟨_, rfl, _, rfl, _, rfl, a, _, rfl, SqL.of (s1 _ _ hA), fun q2 n2 => ?_⟩
      rw [cut_lo, nv_drop]
      have s2 : Same (upd H q1 (.lst (nv (l.take (p + n))))) (upd (upd H q1 (.lst (nv (l.take (p + n))))) q2 (.lst (nv (l.drop p)))) := Same.new n2
      refine ⟨q1, q2, _, _, rfl, rfl, s2 _ _ upd_same, upd_same, ?_, fun q3 n3 => k _ q3 ((s1.trans s2).and n3) ((s1.trans s2).free n3) ?_⟩
      · rw [nv_length, nv_length, List.length_take, List.length_drop, sizeLine_eq]
        omega
      · rw [upd_same, ← nv_append]
        rfl
    · have hx2 : x = 2 := by
        have n0 : x ≠ 0 := fun q => c (by rw [q]; rfl)
        have n1 : x ≠ 1 := fun q => c1 (by rw [q]; rfl)
        omega
      obtain ⟨hp, hn⟩ := h2 hx2
      subst hx2
      have eL : (nv l)[p]? = some (.int ((l.getD p 0 : Nat) : Int)) := by
        rw [nv_get, List.getD_eq_getElem?_getD, List.getElem?_eq_getElem hp]; rfl
      have ex : Builtin.bitXor ((l.getD p 0 : Nat) : Int) (1 * 2 ^ ((n : Nat) : Int).toNat) = ((Vbaval.flipBit (l.getD p 0) n : Nat) : Int) := by
        rw [Int.one_mul, Int.toNat_natCast, ← FrM.pow_cast, FrM.xor_flip]
      have ed : Vbaval.damaged 2 p n l = l.take p ++ [Vbaval.flipBit (l.getD p 0) n] ++ l.drop (p + 1) := set_parts hp
      rw [ed] at k
      refine ⟨_, rfl, _, rfl, _, rfl, a, _, rfl, SqL.of hA, fun q1 n1 => ?_⟩
      rw [cut_hi, nv_take]
      have s1 : Same H (upd H q1 (.lst (nv (l.take p)))) := Same.new n1
      have e1 : (upd H q1 (.lst (nv (l.take p)))) q1 = some (.lst (nv (l.take p))) := upd_same
      generalize upd H q1 (.lst (nv (l.take p))) = H1 at s1 e1 ⊢
      refine ⟨_, rfl, _, rfl, a, _, _, _, rfl, rfl, SqL.of (s1 _ _ hA), at_of (j := p) rfl eL, _, rfl, _, _, rfl, rfl, ⟨by omega, by omega, by decide⟩, _, _, rfl, rfl, (by show 1 ≤ sizeLine; decide), fun q2 n2 => ?_⟩
      dsimp only
      rw [ex]
      have s2 : Same H1 (upd H1 q2 (.lst [.int ((Vbaval.flipBit (l.getD p 0) n : Nat) : Int)])) := Same.new n2
      have e2 : (upd H1 q2 (.lst [.int ((Vbaval.flipBit (l.getD p 0) n : Nat) : Int)])) q2 = some (.lst (nv [Vbaval.flipBit (l.getD p 0) n])) := upd_same
      generalize upd H1 q2 (.lst [.int ((Vbaval.flipBit (l.getD p 0) n : Nat) : Int)]) = H2 at s2 e2 ⊢
      refine ⟨q1, q2, _, _, rfl, rfl, s2 _ _ e1, e2, ?_, fun q3 n3 => ?_⟩
      · rw [nv_length, nv_length, List.length_take, sizeLine_eq]
        show _ + 1 ≤ _
        omega
      have s3 : Same H2 (upd H2 q3 (.lst (nv (l.take p) ++ nv [Vbaval.flipBit (l.getD p 0) n]))) := Same.new n3
      have e3 : (upd H2 q3 (.lst (nv (l.take p) ++ nv [Vbaval.flipBit (l.getD p 0) n]))) q3 = some (.lst (nv (l.take p ++ [Vbaval.flipBit (l.getD p 0) n]))) := by rw [upd_same, nv_append]
      generalize upd H2 q3 (.lst (nv (l.take p) ++ nv [Vbaval.flipBit (l.getD p 0) n])) = H3 at s3 e3 ⊢
      have s03 : Same H H3 := s1.trans (s2.trans s3)
      refine ⟨_, rfl, _, rfl, _, _, rfl, rfl, _, rfl, a, _, rfl, SqL.of (s03 _ _ hA), fun q4 n4 => ?_⟩
      dsimp only
      rw [ep1, cut_lo, nv_drop]
      refine ⟨q3, q4, _, _, rfl, rfl, (Same.new n4) _ _ e3, upd_same, ?_, fun q5 n5 => k _ q5 ((s03.and n4).and n5) ((s03.and n4).free n5) ?_⟩
      · rw [nv_length, nv_length, List.length_append, List.length_take, List.length_drop, sizeLine_eq]
        show _ + 1 + _ ≤ _
        omega
      · rw [upd_same, ← nv_append]
end
end Fr
namespace Fr
open PySem PySem.Spec PyProof.Rows L2
/-- not e, by e's truth -/
theorem pe_notT {X : Cx} {a : Expr} {pos : Pos} {ta : TE} (ha : PE X a ta) : PE X (.UnaryOp .Not a pos) (fun σ H Q => ta σ H fun x H1 => ∃ k, TruV X.K x H1 k ∧ Q (.bl (!k)) H1) := by
  intro pins s σ H Q I h
  refine UnaryOp_ (thn (ha pins s σ H _ I h) fun v s1 ⟨x, H1, I1, r1, q1⟩ => ?_)
  exact PyProof.Rows.not_of (thn (tru_ok pins s1 σ H1 x v (fun k H' => Q (.bl (!k)) H') I1 r1 q1) fun c s2 ⟨H2, I2, q2⟩ => ⟨.bl (!c), H2, I2, rfl, q2⟩)
def begV : Option Addr → V
  | none => .non
  | some b => .ref b
def ef (len : Nat) (hl : Addr) (bg : V) (wt : Bool) : List (Str × V) := fl [("length", .int (len : Nat)), ("heard", .ref hl), ("begun", bg), ("waits", .bl wt)]
def BgOk (H0 H : Hp) (e hl : Addr) : Option Addr → Option (List Nat) → Prop
  | none, none => True
  | some b, some g => H b = some (.lst (nv g)) ∧ b ≠ hl ∧ b ≠ e ∧ H0 b = none
  | _, _ => False
structure EarIs (CE : Addr) (H0 H : Hp) (e de hl : Addr) (bs : List Addr) (bg : Option Addr) (len : Nat) (st : PEar) : Prop where
  obj : H e = some (.ins CE de (ef len hl (begV bg) st.waits))
  ne : H0 e = none
  nh : H0 hl = none
  lst : H hl = some (.lst (bs.map V.ref))
  blen : bs.length = st.heard.length
  at_ : ∀ (i : Nat) (b : Addr) (f : List Nat), bs[i]? = some b → st.heard[i]? = some f → H b = some (.lst (nv f))
  ap : ∀ b ∈ bs, b ≠ hl ∧ b ≠ e ∧ bg ≠ some b
  bgn : BgOk H0 H e hl bg st.begun
  same : Same H0 H
section
variable {CE : Addr} {H0 H : Hp} {e de hl : Addr} {bs : List Addr} {bg : Option Addr} {len : Nat} {st : PEar}
theorem EarIs.grow {H' : Hp} (E : EarIs CE H0 H e de hl bs bg len st) (s : Same H H') : EarIs CE H0 H' e de hl bs bg len st := by
  refine ⟨s _ _ E.obj, E.ne, E.nh, s _ _ E.lst, E.blen, fun i b f e1 e2 => s _ _ (E.at_ i b f e1 e2), E.ap, ?_, E.same.trans s⟩
  have := E.bgn
  cases bg with
  | none => cases hg : st.begun with
    | none => trivial
    | some g => rw [hg] at this; exact this
  | some b => cases hg : st.begun with
    | none => rw [hg] at this; exact this
    | some g =>
      rw [hg] at this
      obtain ⟨t1, t2⟩ := this
      exact ⟨s _ _ t1, t2⟩
theorem EarIs.nhe (E : EarIs CE H0 H e de hl bs bg len st) : hl ≠ e := ne_of E.lst E.obj (fun q => by cases q)
/-- what has begun is dropped, the waiting set -/
theorem EarIs.drop (E : EarIs CE H0 H e de hl bs bg len st) (wt : Bool) : EarIs CE H0 (upd H e (.ins CE de (ef len hl .non wt))) e de hl bs none len ⟨st.heard, none, wt⟩ := by
  refine ⟨upd_same, E.ne, E.nh, by rw [upd_ne E.nhe]; exact E.lst, E.blen, fun i b f e1 e2 => ?_, fun b hb => ⟨(E.ap b hb).1, (E.ap b hb).2.1, (fun q => nomatch q)⟩, trivial, But.same E.same E.ne But.upd⟩
  rw [upd_ne (E.ap b (List.mem_of_getElem? e1)).2.1]
  exact E.at_ i b f e1 e2
/-- the waiting set -/
theorem EarIs.wait (E : EarIs CE H0 H e de hl bs bg len st) (wt : Bool) : EarIs CE H0 (upd H e (.ins CE de (ef len hl (begV bg) wt))) e de hl bs bg len ⟨st.heard, st.begun, wt⟩ := by
  refine ⟨upd_same, E.ne, E.nh, by rw [upd_ne E.nhe]; exact E.lst, E.blen, fun i b f e1 e2 => ?_, E.ap, ?_, But.same E.same E.ne But.upd⟩
  · rw [upd_ne (E.ap b (List.mem_of_getElem? e1)).2.1]
    exact E.at_ i b f e1 e2
  · have := E.bgn
    cases bg with
    | none => cases hg : st.begun with
      | none => trivial
      | some g => rw [hg] at this; exact this
    | some b => cases hg : st.begun with
      | none => rw [hg] at this; exact this
      | some g =>
        rw [hg] at this
        obtain ⟨t1, t2, t3, t4⟩ := this
        exact ⟨by rw [upd_ne t3]; exact t1, t2, t3, t4⟩
/-- a byte more of the frame that has begun -/
theorem EarIs.more {b : Addr} {g : List Nat} (E : EarIs CE H0 H e de hl bs (some b) len st) (hg : st.begun = some g) (x : Nat) : EarIs CE H0 (upd H b (.lst (nv g ++ [.int (x : Nat)]))) e de hl bs (some b) len ⟨st.heard, some (g ++ [x]), st.waits⟩ := by
  have hb := E.bgn
  rw [hg] at hb
  obtain ⟨h1, h2, h3, h4⟩ := hb
  refine ⟨by rw [upd_ne (Ne.symm h3)]; exact E.obj, E.ne, E.nh, by rw [upd_ne (Ne.symm h2)]; exact E.lst, E.blen, fun i c f e1 e2 => ?_, E.ap, ⟨?_, h2, h3, h4⟩, But.same E.same h4 But.upd⟩
  · have := (E.ap c (List.mem_of_getElem? e1)).2.2
    rw [upd_ne (fun q => this (by rw [q]))]
    exact E.at_ i c f e1 e2
  · rw [upd_same, nv_append]; rfl
/-- a new frame begins -/
theorem EarIs.begin_ {b : Addr} (E : EarIs CE H0 H e de hl bs bg len st) (nb : H b = none) (wt : Bool) : EarIs CE H0 (upd (upd H b (.lst [])) e (.ins CE de (ef len hl (.ref b) wt))) e de hl bs (some b) len ⟨st.heard, some [], wt⟩ := by
  have nbe : b ≠ e := fun q => by rw [q, E.obj] at nb; cases nb
  have nbh : b ≠ hl := fun q => by rw [q, E.lst] at nb; cases nb
  have nb0 : H0 b = none := E.same.free nb
  refine ⟨upd_same, E.ne, E.nh, by rw [upd_ne E.nhe, upd_ne (Ne.symm nbh)]; exact E.lst, E.blen, fun i c f e1 e2 => ?_, fun c hc => ⟨(E.ap c hc).1, (E.ap c hc).2.1, fun q => ?_⟩, ⟨by rw [upd_ne nbe, upd_same]; rfl, nbh, nbe, nb0⟩, But.same (E.same.and nb) E.ne But.upd⟩
  · have hA := E.at_ i c f e1 e2
    rw [upd_ne (E.ap c (List.mem_of_getElem? e1)).2.1, upd_ne (ne_of_none hA nb)]
    exact hA
  · have q' : b = c := Option.some.inj q
    obtain ⟨i, hi⟩ := List.getElem?_of_mem hc
    have hil : i < st.heard.length := by rw [← E.blen]; exact (List.getElem?_eq_some_iff.mp hi).1
    have hA := E.at_ i c _ hi (List.getElem?_eq_getElem hil)
    rw [← q', nb] at hA
    cases hA
/-- the frame that has begun is told -/
theorem EarIs.tell {b : Addr} {g : List Nat} (E : EarIs CE H0 H e de hl bs (some b) len st) (hg : st.begun = some g) : EarIs CE H0 (upd (upd H hl (.lst (bs.map V.ref ++ [.ref b]))) e (.ins CE de (ef len hl .non st.waits))) e de hl (bs ++ [b]) none len ⟨st.heard ++ [g], none, st.waits⟩ := by
  have hb := E.bgn
  rw [hg] at hb
  obtain ⟨h1, h2, h3, h4⟩ := hb
  refine ⟨upd_same, E.ne, E.nh, by rw [upd_ne E.nhe, upd_same, List.map_append]; rfl, by rw [List.length_append, List.length_append, E.blen]; rfl, fun i c f e1 e2 => ?_, fun c hc => ?_, trivial, But.same (But.same E.same E.nh But.upd) E.ne But.upd⟩
  · by_cases hi : i < bs.length
    · rw [List.getElem?_append_left hi] at e1
      rw [List.getElem?_append_left (by rw [← E.blen]; exact hi)] at e2
      obtain ⟨a1, a2, a3⟩ := E.ap c (List.mem_of_getElem? e1)
      rw [upd_ne a2, upd_ne a1]
      exact E.at_ i c f e1 e2
    · rw [List.getElem?_append_right (by omega)] at e1
      rw [List.getElem?_append_right (by rw [← E.blen]; omega), ← E.blen] at e2
      have h0 : i - bs.length = 0 := by
        by_cases q : i - bs.length = 0
        · exact q
        · rw [List.getElem?_eq_none (by show 1 ≤ i - bs.length; omega)] at e1; cases e1
      rw [h0] at e1 e2
      have e1' : b = c := Option.some.inj e1
      have e2' : g = f := Option.some.inj e2
      subst e1' e2'
      rw [upd_ne h3, upd_ne h2]
      exact h1
  · rcases List.mem_append.mp hc with hc | hc
    · exact ⟨(E.ap c hc).1, (E.ap c hc).2.1, (fun q => nomatch q)⟩
    · rw [List.mem_singleton.mp hc]
      exact ⟨h2, h3, (fun q => nomatch q)⟩
end
structure TxtE (K : PySem.W.Frag) (CE : Addr) : Prop where
  cl : Cls K CE
  nL : NoAttr K CE "length"
  nH : NoAttr K CE "heard"
  nB : NoAttr K CE "begun"
  nW : NoAttr K CE "waits"
section
variable {P : Program} {w : World} {K : PySem.W.Frag} {mg : Str → Option Value} {base : Heap} {CE : Addr}
def spEInit (CE : Addr) : Sp := fun vs H Q _ => ∃ (e de : Addr) (len : Nat), vs = [.ref e, .int (len : Nat)] ∧ H e = some (.ins CE de []) ∧ ∀ H' hl, H' e = some (.ins CE de (ef len hl .non false)) → H hl = none → H' hl = some (.lst []) → But e H H' → Q .non H'
theorem scEInit : FnScope ["self", "length"] ["self", "length"] (defScope sEInit) := ⟨rfl, rfl, rfl, by decide +kernel, rfl, by decide +kernel, by decide +kernel⟩
theorem d_eInit (F : FunC K mg CE "Ear" "Ear.__init__" sEInit) (T : TxtE K CE) : DefC P w K mg base CE "Ear" 1 ["self", "length"] (spEInit CE) := by
  obtain ⟨f, fd, F, M, hm⟩ := F
  refine ⟨f, fd, ?_, M, hm, F.binds fun _ _ _ _ _ _ us hl => match us, hl with | [_, _], _ => rfl⟩
  refine F.ok scEInit (fun vs H Q E h => ?_) (fun cdv A outer s H vs Q E hr h => ?_)
  · obtain ⟨e, de, len, rfl, _⟩ := h
    rfl
  · obtain ⟨e, de, len, rfl, hE, k⟩ := h
    refine ⟨_, pss_cons (ps_fld (pv 0) (pv 1) rfl) (pss_cons (ps_fld (pv 0) (pe_lst pa_nil) rfl) (pss_cons (ps_fld (pv 0) pe_non rfl) (pss_one (ps_fld (pv 0) pe_bl rfl)))), ?_⟩
    refine ⟨_, rfl, _, rfl, e, CE, de, _, rfl, hE, T.cl, T.nL, (by show 0 < 1000; decide), ?_⟩
    generalize hH1 : upd H e (.ins CE de (putF "length" (.int (len : Nat)) [])) = H1
    have e1 : H1 e = some (.ins CE de (fl [("length", .int (len : Nat))])) := by rw [← hH1]; exact upd_same
    have b1 : But e H H1 := by rw [← hH1]; exact But.upd
    refine ⟨(by show 0 ≤ sizeLine; decide), fun p np => ?_⟩
    have pe : p ≠ e := fun q => by rw [q, e1] at np; cases np
    have hp0 : H p = none := by
      rw [← hH1, upd_ne pe] at np; exact np
    refine ⟨_, rfl, e, CE, de, _, rfl, (Same.new np) _ _ e1, T.cl, T.nH, (by show 1 < 1000; decide), ?_⟩
    refine ⟨_, rfl, e, CE, de, _, rfl, upd_same, T.cl, T.nB, (by show 2 < 1000; decide), ?_⟩
    refine ⟨_, rfl, e, CE, de, _, rfl, upd_same, T.cl, T.nW, (by show 3 < 1000; decide), ?_⟩
    rw [upd_upd, upd_upd]
    refine k _ p upd_same hp0 ?_ (fun c o ec hc => ?_)
    · rw [upd_ne pe, upd_same]
    · rw [upd_ne hc]
      exact (Same.new np) _ _ (b1 c o ec hc)
def spETold (CE : Addr) : Sp := fun vs H Q _ => ∃ (H0 : Hp) (e de hl : Addr) (bs : List Addr) (bg : Option Addr) (len : Nat) (st : PEar) (b : Addr) (g : List Nat), vs = [.ref e, .ref b] ∧ EarIs CE H0 H e de hl bs bg len st ∧ H b = some (.lst (nv g)) ∧ (∀ x ∈ g, x < 256) ∧ len ≤ 16 ∧ g.length ≤ 10000 ∧
  (∀ f ∈ st.heard, f.length = len + 6 ∧ ∀ x ∈ f, x < 256) ∧ ∀ H', Same H H' → Q (.bl (isTold len st.heard g)) H'
theorem scETold : FnScope ["self", "frame"] ["self", "frame"] (defScope sETold) := ⟨rfl, rfl, rfl, by decide +kernel, rfl, by decide +kernel, by decide +kernel⟩
theorem d_eTold (F : FunM K CE "is_told" "Ear.is_told" sETold) (T : TxtE K CE) (DR : Def P w K mg base "is_right_frame" 3 ["frame", "length"] (spRight K)) (DN : Def P w K mg base "frame_number" 1 ["frame"] (spNumber K)) : DefM P w K mg base CE "is_told" 4 ["self", "frame"] (spETold CE) := by
  obtain ⟨f, fd, F, hm⟩ := F
  refine ⟨f, fd, ?_, hm, F.binds fun _ _ _ _ _ _ us hl => match us, hl with | [_, _], _ => rfl⟩
  refine F.ok scETold (fun vs H Q E h => ?_) (fun cdv A outer s H vs Q E hr h => ?_)
  · obtain ⟨H0, e, de, hl, bs, bg, len, st, b, g, rfl, _⟩ := h
    rfl
  · obtain ⟨H0, e, de, hl, bs, bg, len, st, b, g, rfl, I, hB, hg, hlen, hgl, hfr, k⟩ := h
    have hr1 : Room 1 _ := hr.mono (by decide)
    refine ⟨_, pss_cons (ps_if (pt_not (pt_val (pe_fn DR hr rfl (pa_cons (pv 1) (pa_cons (pe_fld (pv 0) rfl) pa_nil))))) (pss_one (ps_ret pe_bl)) pss_nil)
      (pss_one (ps_ret (pe_or (pe_notT (pe_fld (pv 0) rfl)) (pe_one (pe_cmpR op_gt (pe_fn DN hr1 rfl (pa_cons (pv 1) pa_nil)) (pe_fn DN hr1 rfl (pa_cons (pe_ix ix_list (pe_fld (pv 0) rfl) (pe_un un_neg pe_int) (fun _ _ => rfl)) pa_nil)) (nomark _)))))), ?_⟩
    refine ⟨_, rfl, _, rfl, e, CE, de, _, _, rfl, I.obj, T.cl, T.nL, rfl, b, g, len, rfl, SqL.of hB, hg, hlen, hgl, fun H1 s1 => ⟨_, rfl, ite2 (fun c => ?_) (fun c => ?_)⟩⟩
    · have := k H1 s1
      unfold isTold at this
      have c' : (Vbaval.rightFrame len g).isSome = false := by simpa using c
      rw [c', Bool.false_and] at this
      exact this
    · have c' : (Vbaval.rightFrame len g).isSome = true := by
        cases q : (Vbaval.rightFrame len g).isSome with
        | true => rfl
        | false => rw [q] at c; exact absurd rfl c
      obtain ⟨n, hn⟩ := Option.isSome_iff_exists.mp c'
      have hg2 : g.length = len + 6 := (FrM.right_iff.mp hn).1
      have I1 := I.grow s1
      refine ⟨_, rfl, e, CE, de, _, _, rfl, I1.obj, T.cl, T.nH, rfl, _, .inl ⟨_, SqL.of I1.lst, rfl⟩, _, rfl, ite2 (fun c2 => ?_) (fun c2 => ?_)⟩
      · have hbs : bs = [] := by
          cases bs with
          | nil => rfl
          | cons x bs => simp at c2
        have hh : st.heard = [] := by
          have := I1.blen
          rw [hbs] at this
          exact List.length_eq_zero_iff.mp this.symm
        have := k H1 s1
        unfold isTold at this
        rw [c', hh] at this
        exact this
      · have hbs : bs ≠ [] := fun q => c2 (by rw [q]; rfl)
        have hhn : st.heard ≠ [] := fun q => by
          have := I1.blen
          rw [q] at this
          exact hbs (List.length_eq_zero_iff.mp this)
        obtain ⟨bs', x, rfl⟩ : ∃ bs' x, bs = bs' ++ [x] := ⟨bs.dropLast, bs.getLast hbs, (List.dropLast_concat_getLast hbs).symm⟩
        obtain ⟨hs', y, hhe⟩ : ∃ hs' y, st.heard = hs' ++ [y] := ⟨st.heard.dropLast, st.heard.getLast hhn, (List.dropLast_concat_getLast hhn).symm⟩
        have hlen' : bs'.length = hs'.length := by
          have := I1.blen
          rw [hhe, List.length_append, List.length_append] at this
          exact Nat.add_right_cancel this
        have hx := I1.at_ bs'.length x y (by simp) (by rw [hhe, hlen']; simp)
        obtain ⟨hy1, hy2⟩ := hfr y (by rw [hhe]; simp)
        refine ⟨_, rfl, b, g, rfl, SqL.of (s1 _ _ hB), by omega, hg, fun H2 s2 => ?_⟩
        have I2 := I1.grow s2
        refine ⟨_, rfl, e, CE, de, _, _, rfl, I2.obj, T.cl, T.nH, rfl, _, rfl, hl, _, _, _, rfl, rfl, SqL.of I2.lst, ?_, x, y, rfl, SqL.of (s2 _ _ hx), by omega, hy2, fun H3 s3 => ⟨_, _, rfl, rfl, ?_⟩⟩
        · rw [List.map_append]
          exact atI_last _ _
        · have := k H3 (s1.trans (s2.trans s3))
          unfold isTold at this
          rw [c', hhe, List.getLast?_concat, Bool.true_and] at this
          dsimp only at this
          have e1 : decide (numF y < numF g) = decide (((256 * y.getD 0 0 + y.getD 1 0 : Nat) : Int) < ((256 * g.getD 0 0 + g.getD 1 0 : Nat) : Int)) := decide_eq_decide.mpr Int.ofNat_lt.symm
          rw [e1] at this
          exact this
end
end Fr
namespace Fr
open PySem PySem.Spec PyProof.Rows L2
section
variable {P : Program} {w : World} {K : PySem.W.Frag} {mg : Str → Option Value} {base : Heap} {CE : Addr}
def spEEnd (CE : Addr) : Sp := fun vs H Q _ => ∃ (H0 : Hp) (e de hl : Addr) (bs : List Addr) (bg : Option Addr) (len : Nat) (st : PEar) (i : Nat), vs = [.ref e] ∧ EarIs CE H0 H e de hl bs bg len st ∧ EarOk len st i ∧ i ≤ 10000 ∧ len ≤ 16 ∧
  ∀ H' bs' bg', EarIs CE H0 H' e de hl bs' bg' len (earEnd len st) → Q .non H'
theorem scEEnd : FnScope ["self"] ["self"] (defScope sEEnd) := ⟨rfl, rfl, rfl, by decide +kernel, rfl, by decide +kernel, by decide +kernel⟩
theorem d_eEnd (F : FunM K CE "end_frame" "Ear.end_frame" sEEnd) (T : TxtE K CE) (DT : DefM P w K mg base CE "is_told" 4 ["self", "frame"] (spETold CE)) : DefM P w K mg base CE "end_frame" 5 ["self"] (spEEnd CE) := by
  obtain ⟨f, fd, F, hm⟩ := F
  refine ⟨f, fd, ?_, hm, F.binds fun _ _ _ _ _ _ us hl => match us, hl with | [_], _ => rfl⟩
  refine F.ok scEEnd (fun vs H Q E h => ?_) (fun cdv A outer s H vs Q E hr h => ?_)
  · obtain ⟨H0, e, de, hl, bs, bg, len, st, i, rfl, _⟩ := h
    rfl
  · obtain ⟨H0, e, de, hl, bs, bg, len, st, i, rfl, I, O, hi, hlen, k⟩ := h
    refine ⟨_, pss_cons (ps_if (PW.pt (pw_and (pt_cmpR op_notN (pe_fld (pv 0) rfl) pe_non (nomark _)) (pw_and (pt_not (pt_val (pe_fld (pv 0) rfl))) (pw_and1 (pt_val (pe_mt (pv 0) T.cl DT hr (pa_cons (pe_fld (pv 0) rfl) pa_nil)))))))
        (pss_one (ps_expr (pe_bm PySem.F.plainAttrs_list PySem.F.slot_list_append PySem.F.type_list_append mt_append (pe_fld (pv 0) rfl) (pa_cons (pe_fld (pv 0) rfl) pa_nil)))) pss_nil)
      (pss_one (ps_fld (pv 0) pe_non rfl)), ?_⟩
    have hbg := I.bgn
    cases hb : bg with
    | none =>
      cases hg : st.begun with
      | some g => rw [hb, hg] at hbg; exact False.elim hbg
      | none =>
        subst hb
        have ee : earEnd len st = ⟨st.heard, none, st.waits⟩ := by unfold earEnd; rw [hg]
        refine ⟨_, rfl, e, CE, de, _, _, rfl, I.obj, T.cl, T.nB, rfl, rfl, _, rfl, ?_⟩
        refine ⟨_, rfl, e, CE, de, _, rfl, I.obj, T.cl, T.nB, (by show 4 < 1000; decide), ?_⟩
        have := k _ _ _ (by rw [ee]; exact I.drop st.waits)
        exact this
    | some b =>
      cases hg : st.begun with
      | none => rw [hb, hg] at hbg; exact False.elim hbg
      | some g =>
        subst hb
        rw [hg] at hbg
        obtain ⟨h1, h2, h3, h4⟩ := hbg
        obtain ⟨hgl, hgb⟩ := O.by_ g hg
        have ee : earEnd len st = if (!st.waits && isTold len st.heard g) = true then ⟨st.heard ++ [g], none, st.waits⟩ else ⟨st.heard, none, st.waits⟩ := by unfold earEnd; rw [hg]
        refine ⟨_, rfl, e, CE, de, _, _, rfl, I.obj, T.cl, T.nB, rfl, rfl, _, rfl, ?_⟩
        refine ⟨_, rfl, e, CE, de, _, _, rfl, I.obj, T.cl, T.nW, rfl, _, rfl, ite2 (fun c => ?_) (fun c => ?_)⟩
        · refine ⟨_, rfl, e, de, _, rfl, I.obj, rfl, _, rfl, e, CE, de, _, _, rfl, I.obj, T.cl, T.nB, rfl, H0, e, de, hl, bs, some b, len, st, b, g, rfl, I, h1, hgb, hlen, by omega, O.fr, fun H1 s1 => ⟨_, rfl, ite2 (fun c2 => ?_) (fun c2 => ?_)⟩⟩
          · have I1 := I.grow s1
            rw [c, c2, if_pos (by decide)] at ee
            refine ⟨_, rfl, e, CE, de, _, _, rfl, I1.obj, T.cl, T.nH, rfl, .inl ⟨rfl, _, SqL.of I1.lst⟩, _, rfl, e, CE, de, _, _, rfl, I1.obj, T.cl, T.nB, rfl, hl, _, _, rfl, rfl, I1.lst, ?_, ?_⟩
            · rw [List.length_map, I1.blen, sizeLine_eq]
              have := O.hl
              omega
            · refine ⟨_, rfl, e, CE, de, _, rfl, (upd_ne (Ne.symm I1.nhe)).trans I1.obj, T.cl, T.nB, (by show 4 < 1000; decide), ?_⟩
              have := k _ _ _ (by rw [ee]; exact I1.tell hg)
              exact this
          · have I1 := I.grow s1
            rw [Bool.not_eq_true] at c2
            rw [c2, Bool.and_false, if_neg (by decide)] at ee
            refine ⟨_, rfl, e, CE, de, _, rfl, I1.obj, T.cl, T.nB, (by show 4 < 1000; decide), ?_⟩
            have := k _ _ _ (by rw [ee]; exact I1.drop st.waits)
            exact this
        · rw [Bool.not_eq_true] at c
          rw [c, Bool.false_and, if_neg (by decide)] at ee
          refine ⟨_, rfl, e, CE, de, _, rfl, I.obj, T.cl, T.nB, (by show 4 < 1000; decide), ?_⟩
          have := k _ _ _ (by rw [ee]; exact I.drop st.waits)
          exact this
def spEEsc (CE : Addr) : Sp := fun vs H Q _ => ∃ (H0 : Hp) (e de hl : Addr) (bs : List Addr) (ba : Addr) (len : Nat) (st : PEar) (g : List Nat) (b : Nat), vs = [.ref e, .int (b : Nat)] ∧ EarIs CE H0 H e de hl bs (some ba) len st ∧ st.begun = some g ∧ g.length ≤ 10000 ∧
  ∀ H' bs' bg', EarIs CE H0 H' e de hl bs' bg' len (earEsc st g b) → Q .non H'
theorem scEEsc : FnScope ["self", "byte"] ["self", "byte"] (defScope sEEsc) := ⟨rfl, rfl, rfl, by decide +kernel, rfl, by decide +kernel, by decide +kernel⟩
theorem d_eEsc (F : FunM K CE "take_escaped" "Ear.take_escaped" sEEsc) (T : TxtE K CE) (TL : TxtL mg) : DefM P w K mg base CE "take_escaped" 1 ["self", "byte"] (spEEsc CE) := by
  obtain ⟨f, fd, F, hm⟩ := F
  refine ⟨f, fd, ?_, hm, F.binds fun _ _ _ _ _ _ us hl => match us, hl with | [_, _], _ => rfl⟩
  refine F.ok scEEsc (fun vs H Q E h => ?_) (fun cdv A outer s H vs Q E hr h => ?_)
  · obtain ⟨H0, e, de, hl, bs, ba, len, st, g, b, rfl, _⟩ := h
    rfl
  · obtain ⟨H0, e, de, hl, bs, ba, len, st, g, b, rfl, I, hg, hgl, k⟩ := h
    obtain ⟨tB, hB⟩ := TL.BEGIN
    obtain ⟨tE, hE⟩ := TL.ESCAPE
    refine ⟨_, pss_one (ps_if (pt_cmpR op_le (pv 1) (pe_op op_sub (pe_glob (v := .int 194) rfl hE ⟨_, rfl⟩) (pe_glob (v := .int 192) rfl hB ⟨_, rfl⟩)) (nomark _))
        (pss_one (ps_expr (pe_bm PySem.F.plainAttrs_list PySem.F.slot_list_append PySem.F.type_list_append mt_append (pe_fld (pv 0) rfl) (pa_cons (pe_op op_add (pe_glob (v := .int 192) rfl hB ⟨_, rfl⟩) (pv 1)) pa_nil))))
        (pss_one (ps_fld (pv 0) pe_non rfl))), ?_⟩
    have hbg := I.bgn
    rw [hg] at hbg
    obtain ⟨h1, h2, h3, h4⟩ := hbg
    refine ⟨_, rfl, _, _, rfl, rfl, _, _, rfl, rfl, _, rfl, ite2 (fun c => ?_) (fun c => ?_)⟩
    · have c1 : (b : Int) ≤ 194 - 192 := of_decide_eq_true c
      have ee : earEsc st g b = ⟨st.heard, some (g ++ [192 + b]), st.waits⟩ := by unfold earEsc; rw [if_pos (by omega)]
      refine ⟨_, rfl, e, CE, de, _, _, rfl, I.obj, T.cl, T.nB, rfl, .inl ⟨rfl, _, SqL.of h1⟩, _, rfl, _, _, rfl, rfl, ba, _, _, rfl, rfl, h1, ?_, ?_⟩
      · rw [nv_length, sizeLine_eq]; omega
      · have e1 : (192 : Int) + (b : Nat) = ((192 + b : Nat) : Int) := by omega
        dsimp only
        rw [e1]
        exact k _ _ _ (by rw [ee]; exact I.more hg (192 + b))
    · have c1 : ¬ (b : Int) ≤ 194 - 192 := fun q => c (decide_eq_true q)
      have ee : earEsc st g b = ⟨st.heard, none, st.waits⟩ := by unfold earEsc; rw [if_neg (by omega)]
      refine ⟨_, rfl, e, CE, de, _, rfl, I.obj, T.cl, T.nB, (by show 4 < 1000; decide), ?_⟩
      have := k _ _ _ (by rw [ee]; exact I.drop st.waits)
      exact this
def spEIn (CE : Addr) : Sp := fun vs H Q _ => ∃ (H0 : Hp) (e de hl : Addr) (bs : List Addr) (ba : Addr) (len : Nat) (st : PEar) (g : List Nat) (b : Nat), vs = [.ref e, .int (b : Nat)] ∧ EarIs CE H0 H e de hl bs (some ba) len st ∧ st.begun = some g ∧ g.length ≤ 10000 ∧
  ∀ H' bs' bg', EarIs CE H0 H' e de hl bs' bg' len (earIn st g b) → Q .non H'
theorem scEIn : FnScope ["self", "byte"] ["self", "byte"] (defScope sEIn) := ⟨rfl, rfl, rfl, by decide +kernel, rfl, by decide +kernel, by decide +kernel⟩
theorem d_eIn (F : FunM K CE "take_inside" "Ear.take_inside" sEIn) (T : TxtE K CE) (TL : TxtL mg) (DE : DefM P w K mg base CE "take_escaped" 1 ["self", "byte"] (spEEsc CE)) : DefM P w K mg base CE "take_inside" 2 ["self", "byte"] (spEIn CE) := by
  obtain ⟨f, fd, F, hm⟩ := F
  refine ⟨f, fd, ?_, hm, F.binds fun _ _ _ _ _ _ us hl => match us, hl with | [_, _], _ => rfl⟩
  refine F.ok scEIn (fun vs H Q E h => ?_) (fun cdv A outer s H vs Q E hr h => ?_)
  · obtain ⟨H0, e, de, hl, bs, ba, len, st, g, b, rfl, _⟩ := h
    rfl
  · obtain ⟨H0, e, de, hl, bs, ba, len, st, g, b, rfl, I, hg, hgl, k⟩ := h
    obtain ⟨tE, hE⟩ := TL.ESCAPE
    refine ⟨_, pss_one (ps_if (pt_val (pe_fld (pv 0) rfl)) (pss_cons (ps_fld (pv 0) pe_bl rfl) (pss_one (ps_expr (pe_mt (pv 0) T.cl DE hr (pa_cons (pv 1) pa_nil)))))
        (pss_one (ps_if (pt_cmpR op_eq (pv 1) (pe_glob (v := .int 194) rfl hE ⟨_, rfl⟩) (nomark _)) (pss_one (ps_fld (pv 0) pe_bl rfl))
          (pss_one (ps_expr (pe_bm PySem.F.plainAttrs_list PySem.F.slot_list_append PySem.F.type_list_append mt_append (pe_fld (pv 0) rfl) (pa_cons (pv 1) pa_nil))))))), ?_⟩
    have hbg := I.bgn
    rw [hg] at hbg
    obtain ⟨h1, h2, h3, h4⟩ := hbg
    refine ⟨_, rfl, e, CE, de, _, _, rfl, I.obj, T.cl, T.nW, rfl, _, rfl, ite2 (fun c => ?_) (fun c => ?_)⟩
    · have ee : earIn st g b = earEsc ⟨st.heard, some g, false⟩ g b := by unfold earIn; rw [if_pos c]
      refine ⟨_, rfl, e, CE, de, _, rfl, I.obj, T.cl, T.nW, (by show 4 < 1000; decide), ?_⟩
      have I1 := I.wait false
      refine ⟨_, rfl, e, de, _, rfl, I1.obj, rfl, _, rfl, H0, e, de, hl, bs, ba, len, _, g, b, rfl, I1, hg, hgl, fun H' bs' bg' I2 => k H' bs' bg' ?_⟩
      rw [ee]
      have e2 : (⟨st.heard, st.begun, false⟩ : PEar) = ⟨st.heard, some g, false⟩ := by rw [hg]
      rw [← e2]
      exact I2
    · have c' : ¬ st.waits = true := c
      refine ⟨_, rfl, rfl, _, rfl, ite2 (fun c2 => ?_) (fun c2 => ?_)⟩
      · have hb : b = 194 := by
          rw [dec_int, beq_iff_eq] at c2
          omega
        have ee : earIn st g b = ⟨st.heard, some g, true⟩ := by unfold earIn; rw [if_neg c', if_pos hb]
        refine ⟨_, rfl, e, CE, de, _, rfl, I.obj, T.cl, T.nW, (by show 4 < 1000; decide), ?_⟩
        have I1 := I.wait true
        rw [hg] at I1
        have := k _ _ _ (by rw [ee]; exact I1)
        exact this
      · have hb : b ≠ 194 := fun q => c2 (by rw [q]; rfl)
        have ee : earIn st g b = ⟨st.heard, some (g ++ [b]), st.waits⟩ := by unfold earIn; rw [if_neg c', if_neg hb]
        refine ⟨_, rfl, e, CE, de, _, _, rfl, I.obj, T.cl, T.nB, rfl, .inl ⟨rfl, _, SqL.of h1⟩, _, rfl, ba, _, _, rfl, rfl, h1, ?_, ?_⟩
        · rw [nv_length, sizeLine_eq]; omega
        · exact k _ _ _ (by rw [ee]; exact I.more hg b)
def spETake (CE : Addr) : Sp := fun vs H Q _ => ∃ (H0 : Hp) (e de hl : Addr) (bs : List Addr) (bg : Option Addr) (len : Nat) (st : PEar) (i b : Nat), vs = [.ref e, .int (b : Nat)] ∧ EarIs CE H0 H e de hl bs bg len st ∧ EarOk len st i ∧ i ≤ 10000 ∧ len ≤ 16 ∧
  ∀ H' bs' bg', EarIs CE H0 H' e de hl bs' bg' len (earStep len st b) → Q .non H'
theorem scETake : FnScope ["self", "byte"] ["self", "byte"] (defScope sETake) := ⟨rfl, rfl, rfl, by decide +kernel, rfl, by decide +kernel, by decide +kernel⟩
theorem d_eTake (F : FunM K CE "take" "Ear.take" sETake) (T : TxtE K CE) (TL : TxtL mg) (DE : DefM P w K mg base CE "end_frame" 5 ["self"] (spEEnd CE)) (DI : DefM P w K mg base CE "take_inside" 2 ["self", "byte"] (spEIn CE)) : DefM P w K mg base CE "take" 6 ["self", "byte"] (spETake CE) := by
  obtain ⟨f, fd, F, hm⟩ := F
  refine ⟨f, fd, ?_, hm, F.binds fun _ _ _ _ _ _ us hl => match us, hl with | [_, _], _ => rfl⟩
  refine F.ok scETake (fun vs H Q E h => ?_) (fun cdv A outer s H vs Q E hr h => ?_)
  · obtain ⟨H0, e, de, hl, bs, bg, len, st, i, b, rfl, _⟩ := h
    rfl
  · obtain ⟨H0, e, de, hl, bs, bg, len, st, i, b, rfl, I, O, hi, hlen, k⟩ := h
    obtain ⟨tB, hB⟩ := TL.BEGIN
    obtain ⟨tE, hE⟩ := TL.END
    have hr2 : Room 2 _ := hr.mono (by decide)
    refine ⟨_, pss_one (ps_if (pt_cmpR op_eq (pv 1) (pe_glob (v := .int 192) rfl hB ⟨_, rfl⟩) (nomark _)) (pss_cons (ps_fld (pv 0) (pe_lst pa_nil) rfl) (pss_one (ps_fld (pv 0) pe_bl rfl)))
        (pss_one (ps_if (pt_cmpR op_eq (pv 1) (pe_glob (v := .int 193) rfl hE ⟨_, rfl⟩) (nomark _)) (pss_one (ps_expr (pe_mt0 (pv 0) T.cl DE hr)))
          (pss_one (ps_if (pt_cmpR op_notN (pe_fld (pv 0) rfl) pe_non (nomark _)) (pss_one (ps_expr (pe_mt (pv 0) T.cl DI hr2 (pa_cons (pv 1) pa_nil)))) pss_nil))))), ?_⟩
    refine ⟨_, rfl, rfl, _, rfl, ite2 (fun c => ?_) (fun c => ?_)⟩
    · have hb : b = 192 := by
        rw [dec_int, beq_iff_eq] at c
        omega
      have ee : earStep len st b = ⟨st.heard, some [], false⟩ := by unfold earStep; rw [if_pos hb]
      refine ⟨(by show 0 ≤ sizeLine; decide), fun p np => ?_⟩
      refine ⟨_, rfl, e, CE, de, _, rfl, (Same.new np) _ _ I.obj, T.cl, T.nB, (by show 4 < 1000; decide), ?_⟩
      refine ⟨_, rfl, e, CE, de, _, rfl, upd_same, T.cl, T.nW, (by show 4 < 1000; decide), ?_⟩
      rw [upd_upd]
      have := k _ _ _ (by rw [ee]; exact I.begin_ np false)
      exact this
    have c192 : b ≠ 192 := fun q => c (by rw [q]; rfl)
    refine ⟨_, rfl, rfl, _, rfl, ite2 (fun c2 => ?_) (fun c2 => ?_)⟩
    · have hb : b = 193 := by
        rw [dec_int, beq_iff_eq] at c2
        omega
      have ee : earStep len st b = earEnd len st := by unfold earStep; rw [if_neg c192, if_pos hb]
      rw [ee] at k
      exact ⟨_, rfl, e, de, _, rfl, I.obj, rfl, H0, e, de, hl, bs, bg, len, st, i, rfl, I, O, hi, hlen, k⟩
    have c193 : b ≠ 193 := fun q => c2 (by rw [q]; rfl)
    have hbg := I.bgn
    cases hb : bg with
    | none =>
      cases hg : st.begun with
      | some g => rw [hb, hg] at hbg; exact False.elim hbg
      | none =>
        subst hb
        have ee : earStep len st b = st := by unfold earStep; rw [if_neg c192, if_neg c193, hg]
        rw [ee] at k
        exact ⟨_, rfl, e, CE, de, _, _, rfl, I.obj, T.cl, T.nB, rfl, rfl, _, rfl, k _ _ _ I⟩
    | some ba =>
      cases hg : st.begun with
      | none => rw [hb, hg] at hbg; exact False.elim hbg
      | some g =>
        subst hb
        have ee : earStep len st b = earIn st g b := by unfold earStep; rw [if_neg c192, if_neg c193, hg]
        rw [ee] at k
        obtain ⟨hgl, hgb⟩ := O.by_ g hg
        exact ⟨_, rfl, e, CE, de, _, _, rfl, I.obj, T.cl, T.nB, rfl, rfl, _, rfl, _, rfl, e, de, _, rfl, I.obj, rfl, _, rfl, H0, e, de, hl, bs, ba, len, st, g, b, rfl, I, hg, by omega, k⟩
def spHeard (K : PySem.W.Frag) : Sp := fun vs H Q _ => ∃ (a : Addr) (l : List Nat) (len : Nat), vs = [.ref a, .int (len : Nat)] ∧ SqL K H a (nv l) ∧ (∀ b ∈ l, b < 256) ∧ l.length ≤ 10000 ∧ len ≤ 16 ∧ ∀ H' p, Same H H' → FramesAt H' p (l.foldl (earStep len) ear0).heard → Q (.ref p) H'
theorem scHeard : FnScope ["some", "length", "ear", "byte"] ["some", "length"] (defScope sHeard) := ⟨rfl, rfl, rfl, by decide +kernel, rfl, by decide +kernel, by decide +kernel⟩
theorem d_heard (F : FunD K mg "heard_frames" sHeard) (T : TxtE K CE) (DC : DefC P w K mg base CE "Ear" 1 ["self", "length"] (spEInit CE)) (DT : DefM P w K mg base CE "take" 6 ["self", "byte"] (spETake CE)) : Def P w K mg base "heard_frames" 7 ["some", "length"] (spHeard K) := by
  obtain ⟨f, fd, F, hm⟩ := F
  refine ⟨f, fd, ?_, hm, F.kp, F.binds fun _ _ _ _ _ _ us hl => match us, hl with | [_, _], _ => rfl⟩
  refine F.ok scHeard (fun vs H Q E h => ?_) (fun cdv A outer s H vs Q E hr h => ?_)
  · obtain ⟨a, l, len, rfl, _⟩ := h
    rfl
  · obtain ⟨a, l, len, rfl, hA, hl, hll, hlen, k⟩ := h
    have nd := scHeard.nd
    have hr2 : Room 2 _ := hr.mono (by decide)
    refine ⟨_, pss_cons (ps_set (i := 2) nd rfl (Or.inl rfl) (pe_cl DC hr2 rfl (pa_cons (pv 1) pa_nil)))
      (pss_cons (ps_for PassesOwn.never rfl (pi_list (pv 0)) (pg_name (i := 3) nd rfl (Or.inl rfl) (Or.inr rfl)) (pss_one (ps_expr (pe_mt (pv 2) T.cl DT hr (pa_cons (pv 3) pa_nil)))))
      (pss_one (ps_ret (pe_fld (pv 2) rfl)))), ?_⟩
    refine ⟨_, rfl, fun e de ne nde dne => ⟨e, de, len, rfl, upd_same, fun H1 hl1 e1 n1 l1 b1 => ⟨rfl, ?_⟩⟩⟩
    have s1 : Same H H1 := fun c o ec => b1 c o (by rw [upd_ne (ne_of_none ec ne), upd_ne (ne_of_none ec nde)]; exact ec) (ne_of_none ec ne)
    have hl1e : hl1 ≠ e := fun q => by rw [q, upd_same] at n1; cases n1
    have nh : H hl1 = none := by
      rw [upd_ne hl1e] at n1
      by_cases q : hl1 = de
      · rw [q, upd_same] at n1; cases n1
      · rw [upd_ne q] at n1; exact n1
    have I1 : EarIs CE H H1 e de hl1 [] none len ear0 := ⟨e1, ne, nh, l1, rfl, fun i b f q => by simp at q, (fun b q => nomatch q), trivial, s1⟩
    refine ⟨_, rfl, a, rfl, ⟨_, s1.seq hA⟩, for_gen (J := Itl K a) l.length (fun i σ H' => ∃ (v3 : Option V) (bs : List Addr) (bg : Option Addr), σ = [some (.ref a), some (.int (len : Nat)), some (.ref e), v3] ∧ EarIs CE H H' e de hl1 bs bg len ((l.take i).foldl (earStep len) ear0) ∧ EarOk len ((l.take i).foldl (earStep len) ear0) i)
      ⟨none, [], none, rfl, I1, ear0_ok len⟩ (fun i σ H' hi ⟨_, _, _, _, I', _⟩ => list_go (I'.same.seq hA) (by rw [nv_length]; omega)) (fun σ H' ⟨_, _, _, _, I', _⟩ => list_stop (I'.same.seq hA) (by rw [nv_length]; omega)) ?_ ?_⟩
    · rintro i x σ H2 H' hi ⟨v3, bs, bg, rfl, I2, O2⟩ hy
      obtain ⟨rfl, h1⟩ := hy
      obtain ⟨b, hb, rfl⟩ := nv_some (h1 _ (I2.same.seq hA))
      have etk : (l.take (i + 1)).foldl (earStep len) ear0 = earStep len ((l.take i).foldl (earStep len) ear0) b := by
        rw [List.take_add_one, hb, Option.toList_some, List.foldl_append]; rfl
      refine ⟨_, rfl, e, de, _, rfl, I2.obj, rfl, _, rfl, H, e, de, hl1, bs, bg, len, _, i, b, rfl, I2, O2, by omega, hlen, fun H3 bs' bg' I3 => ⟨_, bs', bg', rfl, ?_, ?_⟩⟩
      · rw [etk]; exact I3
      · rw [etk]; exact O2.step (hl b (List.mem_of_getElem? hb))
    · rintro σ H2 ⟨v3, bs, bg, rfl, I2, O2⟩
      rw [List.take_length] at I2
      exact ⟨_, rfl, e, CE, de, _, _, rfl, I2.obj, T.cl, T.nH, rfl, k H2 hl1 I2.same ⟨bs, I2.lst, I2.blen, I2.at_⟩⟩
end
end Fr
namespace Fr
open PySem PySem.Spec PyProof.Rows L2
/-- all but the slots' lists and the hurt list is as it was -/
def FrB (as : List Addr) (hl : Addr) (H H' : Hp) : Prop := ∀ c o, H c = some o → c ∉ as → c ≠ hl → H' c = some o
theorem FrB.trans {as : List Addr} {hl : Addr} {H H1 H2 : Hp} (a : FrB as hl H H1) (b : FrB as hl H1 H2) : FrB as hl H H2 := fun c o e h1 h2 => b c o (a c o e h1 h2) h1 h2
theorem FrB.of {as : List Addr} {hl : Addr} {H H1 : Hp} (a : Same H H1) : FrB as hl H H1 := fun c o e _ _ => a c o e
theorem FrB.slot {as : List Addr} {hl a : Addr} {H : Hp} {o : HO} (h : a ∈ as) : FrB as hl H (upd H a o) := fun c u e h1 _ => by rw [upd_ne (fun z => h1 (by rw [z]; exact h))]; exact e
theorem FrB.hurt {as : List Addr} {hl : Addr} {H : Hp} {o : HO} : FrB as hl H (upd H hl o) := fun c u e _ h2 => by rw [upd_ne h2]; exact e
section
variable {CR : Addr} {H : Hp} {g dg sl hl : Addr} {as : List Addr} {len : Nat} {slots : List (List Nat)} {hurt : List Bool}
theorem lst_ne_iv {xs ys : List Nat} {bs : List Bool} (h : xs ≠ []) : HO.lst (nv xs) ≠ HO.lst (bs.map V.bl) := fun e => by
  cases xs with
  | nil => exact h rfl
  | cons x xs =>
    cases bs with
    | nil => cases e
    | cons b bs => cases e
theorem lst_ne_ref {xs : List Nat} {rs : List Addr} (h : xs ≠ []) : HO.lst (nv xs) ≠ HO.lst (rs.map V.ref) := fun e => by
  cases xs with
  | nil => exact h rfl
  | cons x xs =>
    cases rs with
    | nil => cases e
    | cons b bs => cases e
theorem bl_ne_ref {bs : List Bool} {rs : List Addr} (h : bs ≠ []) : HO.lst (bs.map V.bl) ≠ HO.lst (rs.map V.ref) := fun e => by
  cases bs with
  | nil => exact h rfl
  | cons x xs =>
    cases rs with
    | nil => cases e
    | cons b bs => cases e
/-- a slot's list is written on -/
theorem RingIs.setSlot (R : RingIs CR H g dg sl hl as len slots hurt) {i : Nat} {a : Addr} {l l' : List Nat} (ha : as[i]? = some a) (hi : slots[i]? = some l) (hn : l ≠ []) : RingIs CR (upd H a (.lst (nv l'))) g dg sl hl as len (slots.set i l') hurt := by
  have hA := R.at_ i a l ha hi
  have n1 : g ≠ a := ne_of R.obj hA (fun e => by cases e)
  have n2 : sl ≠ a := ne_of R.lst hA (fun e => lst_ne_ref hn e.symm)
  have n3 : hl ≠ a := ne_of R.hrt hA (fun e => lst_ne_iv (ys := []) hn e.symm)
  refine ⟨by rw [upd_ne n1, List.length_set]; exact R.obj, by rw [upd_ne n2]; exact R.lst, R.nd, by rw [List.length_set]; exact R.alen, fun j b m e1 e2 => ?_, by rw [upd_ne n3]; exact R.hrt, by rw [List.length_set]; exact R.hlen⟩
  by_cases hj : j = i
  · subst hj
    rw [ha] at e1
    cases e1
    rw [List.getElem?_set_self (List.getElem?_eq_some_iff.mp hi).1] at e2
    cases e2
    exact upd_same
  · have nb : b ≠ a := fun q => hj (nd_ix R.nd e1 (by rw [q]; exact ha))
    rw [List.getElem?_set_ne (Ne.symm hj)] at e2
    rw [upd_ne nb]
    exact R.at_ j b m e1 e2
/-- the hurt list is written on -/
theorem RingIs.setHurt (R : RingIs CR H g dg sl hl as len slots hurt) (hall : ∀ l ∈ slots, l ≠ []) (hs : slots ≠ []) (i : Nat) (b : Bool) : RingIs CR (upd H hl (.lst ((hurt.set i b).map V.bl))) g dg sl hl as len slots (hurt.set i b) := by
  have hh : hurt ≠ [] := fun q => by
    have := R.hlen
    rw [q] at this
    exact hs (List.length_eq_zero_iff.mp this.symm)
  have n1 : g ≠ hl := ne_of R.obj R.hrt (fun e => by cases e)
  have n2 : sl ≠ hl := ne_of R.lst R.hrt (fun e => bl_ne_ref hh e.symm)
  refine ⟨by rw [upd_ne n1]; exact R.obj, by rw [upd_ne n2]; exact R.lst, R.nd, R.alen, fun j c m e1 e2 => ?_, upd_same, by rw [List.length_set]; exact R.hlen⟩
  have hA := R.at_ j c m e1 e2
  have n3 : c ≠ hl := ne_of hA R.hrt (lst_ne_iv (ys := []) (hall m (List.mem_of_getElem? e2)))
  rw [upd_ne n3]
  exact hA
end
theorem nv_set (l : List Nat) (i v : Nat) : (nv l).set i (.int (v : Nat)) = nv (l.set i v) := by
  unfold nv
  rw [List.map_set]
theorem bl_set (l : List Bool) (i : Nat) (v : Bool) : (l.map V.bl).set i (.bl v) = (l.set i v).map V.bl := by rw [List.map_set]
theorem ixN_nat {n i : Nat} (h : i < n) : ixN n (i : Int) = some i := by
  unfold ixN
  rw [if_pos (by omega), if_pos (by omega), Int.toNat_natCast]
section
variable {P : Program} {w : World} {K : PySem.W.Frag} {mg : Str → Option Value} {base : Heap} {CR : Addr}
def spRFlip (CR : Addr) : Sp := fun vs H Q _ => ∃ (g dg sl hl : Addr) (as : List Addr) (len : Nat) (slots : List (List Nat)) (hurt : List Bool) (i b k : Nat) (l : List Nat), vs = [.ref g, .int (i : Nat), .int (b : Nat), .int (k : Nat)] ∧ RingIs CR H g dg sl hl as len slots hurt ∧ (∀ l ∈ slots, l ≠ []) ∧
  slots[i]? = some l ∧ b < l.length ∧ k ≤ 7 ∧ ∀ H', RingIs CR H' g dg sl hl as len (slots.set i (l.set b (Vbaval.flipBit (l.getD b 0) k))) (hurt.set i true) → FrB as hl H H' → Q .non H'
theorem scRFlip : FnScope ["self", "slot", "place", "bit"] ["self", "slot", "place", "bit"] (defScope sRFlip) := ⟨rfl, rfl, rfl, by decide +kernel, rfl, by decide +kernel, by decide +kernel⟩
theorem d_rFlip (F : FunM K CR "flip_bit" "Ring.flip_bit" sRFlip) (TR : TxtR K mg CR) : DefM P w K mg base CR "flip_bit" 1 ["self", "slot", "place", "bit"] (spRFlip CR) := by
  obtain ⟨f, fd, F, hm⟩ := F
  refine ⟨f, fd, ?_, hm, F.binds fun _ _ _ _ _ _ us hl => match us, hl with | [_, _, _, _], _ => rfl⟩
  refine F.ok scRFlip (fun vs H Q E h => ?_) (fun cdv A outer s H vs Q E hr h => ?_)
  · obtain ⟨g, dg, sl, hl, as, len, slots, hurt, i, b, k, l, rfl, _⟩ := h
    rfl
  · obtain ⟨g, dg, sl, hl, as, len, slots, hurt, i, b, kk, l, rfl, R, hall, hi, hb, hk, k⟩ := h
    have hlt := (List.getElem?_eq_some_iff.mp hi).1
    obtain ⟨a, ha⟩ : ∃ a, as[i]? = some a := ⟨_, List.getElem?_eq_getElem (by rw [R.alen]; exact hlt)⟩
    have hln := hall l (List.mem_of_getElem? hi)
    have hA := R.at_ i a l ha hi
    have eR : (as.map V.ref)[i]? = some (.ref a) := by rw [List.getElem?_map, ha]; rfl
    refine ⟨_, pss_cons (ps_asg (pe_op op_xor (pe_ix ix_list (pe_ix ix_list (pe_fld (pv 0) rfl) (pv 1) (fun _ _ => rfl)) (pv 2) (fun _ _ => rfl)) (pe_op op_shl pe_int (pv 3))) (pg_sub (pe_ix ix_list (pe_fld (pv 0) rfl) (pv 1) (fun _ _ => rfl)) (pv 2) set_list))
      (pss_one (ps_asg pe_bl (pg_sub (pe_fld (pv 0) rfl) (pv 1) set_list))), ?_⟩
    have eL : (nv l)[b]? = some (.int ((l.getD b 0 : Nat) : Int)) := by
      rw [nv_get, List.getD_eq_getElem?_getD, List.getElem?_eq_getElem hb]; rfl
    refine ⟨_, rfl, g, CR, dg, _, _, rfl, R.obj, TR.cl, TR.nT, rfl, _, rfl, sl, _, _, _, rfl, rfl, SqL.of R.lst, at_of (j := i) rfl eR, _, rfl, a, _, _, _, rfl, rfl, SqL.of hA, at_of (j := b) rfl eL, _, rfl, _, _, rfl, rfl, ⟨by omega, by omega, by decide⟩, _, _, rfl, rfl,
      _, rfl, g, CR, dg, _, _, rfl, R.obj, TR.cl, TR.nT, rfl, _, rfl, sl, _, _, _, rfl, rfl, SqL.of R.lst, at_of (j := i) rfl eR, _, rfl, a, _, _, b, rfl, rfl, hA, ixN_nat (by rw [nv_length]; exact hb), ?_⟩
    have ex : Builtin.bitXor ((l.getD b 0 : Nat) : Int) (1 * 2 ^ ((kk : Nat) : Int).toNat) = ((Vbaval.flipBit (l.getD b 0) kk : Nat) : Int) := by
      rw [Int.one_mul, Int.toNat_natCast, ← FrM.pow_cast, FrM.xor_flip]
    dsimp only
    rw [ex, nv_set]
    have R1 := R.setSlot (l' := l.set b (Vbaval.flipBit (l.getD b 0) kk)) ha hi hln
    have hall1 : ∀ m ∈ slots.set i (l.set b (Vbaval.flipBit (l.getD b 0) kk)), m ≠ [] := fun m hm' => by
      rcases List.mem_or_eq_of_mem_set hm' with h | h
      · exact hall m h
      · rw [h]
        intro q
        have := congrArg List.length q
        rw [List.length_set] at this
        exact hln (List.length_eq_zero_iff.mp this)
    have hs1 : slots.set i (l.set b (Vbaval.flipBit (l.getD b 0) kk)) ≠ [] := fun q => by
      have := congrArg List.length q
      rw [List.length_set] at this
      rw [List.length_nil] at this
      omega
    refine ⟨_, rfl, g, CR, dg, _, _, rfl, R1.obj, TR.cl, TR.nH, rfl, _, rfl, hl, _, _, i, rfl, rfl, R1.hrt, ixN_nat (by rw [List.length_map, R.hlen]; exact hlt), ?_⟩
    rw [bl_set]
    exact k _ (R1.setHurt hall1 hs1 i true) ((FrB.slot (List.mem_of_getElem? ha)).trans FrB.hurt)
end
end Fr
namespace Fr
open PySem PySem.Spec PyProof.Rows L2
section
variable {X : Cx} {pins : List (Addr × Obj)} {σ : L2.St} {H : Hp} {s : Shared}
/-- an object that is there already is tracked from now on -/
theorem track {a : Addr} {o : HO} (I : Inv X pins σ H s) (fp : FpOk X pins H a) (new : ObjOk X.prog X.w (upd H a o) s.heap a o) : Inv X pins σ (upd H a o) s := by
  have ntr : ∀ b u, H b = some u → b ≠ a := fun b u q => ne_of_none q fp.1
  exact I.step (h' := s.heap) (g' := s.gens) (d' := s.drawn) (t' := s.toks) (ch := [a]) (fun b hb => by rw [List.mem_singleton.mp hb]; exact ⟨fp.2.2.2.1, fp.2.1, fp.2.2.2.2.1, fp.2.2.2.2.2⟩)
    (fun b o _ _ _ q _ => q) (fun b o _ _ _ q _ => ⟨o.slots, q⟩) (fun b o hc _ n => by rw [upd_ne (fun z => hc (by simp [z]))]; exact n) (fun b o _ q => ⟨o, q⟩)
    (fun b xs q => by rw [upd_ne (ntr b _ q)]; exact q) (fun b o u q => by rw [upd_ne (ntr b _ q)]; exact q) (fun b ps q => ⟨#[], by rw [upd_ne (ntr b _ q), q]; simp⟩) (fun m hm => hm)
    (fun b u q => by
      by_cases hb : b = a
      · subst hb
        rw [upd_same] at q
        cases q
        exact new
      · rw [upd_ne hb] at q
        exact (I.hok b u q).stay (fun c v _ q2 => q2) (fun c q2 => by rw [upd_ne (ntr c _ q2)]; exact q2) fun c xs q2 => by rw [upd_ne (ntr c _ q2)]; exact q2) I.bare
theorem track_tups : ∀ (Ts : List Addr) (xss : List (List V)) (H : Hp), Ts.length = xss.length → Ts.Nodup → (∀ T ∈ Ts, ∀ H' : Hp, H' T = none → FpOk X pins H' T) → (∀ T ∈ Ts, H T = none) →
    (∀ (j : Nat) (T : Addr) (xs : List V), Ts[j]? = some T → xss[j]? = some xs → xs.length ≤ sizeLine ∧ ∃ its : List Value, Vals xs its ∧ IsTup s.heap T its.toArray) → Inv X pins σ H s →
    ∃ H', Inv X pins σ H' s ∧ Same H H' ∧ (∀ b, b ∉ Ts → H' b = H b) ∧ ∀ (j : Nat) (T : Addr) (xs : List V), Ts[j]? = some T → xss[j]? = some xs → H' T = some (.tup xs)
  | [], _, H, _, _, _, _, _, I => ⟨H, I, Same.refl H, fun _ _ => rfl, fun j T xs e => by simp at e⟩
  | T :: Ts, [], _, h, _, _, _, _, _ => by simp at h
  | T :: Ts, xs :: xss, H, hl, nd, fp, hn, ok, I => by
    obtain ⟨n1, n2⟩ := List.nodup_cons.mp nd
    have J := track (o := .tup xs) I (fp T List.mem_cons_self H (hn T List.mem_cons_self)) (ok 0 T xs rfl rfl)
    obtain ⟨H', J', s', k', g'⟩ := track_tups Ts xss (upd H T (.tup xs)) (by simpa using hl) n2 (fun U hU => fp U (List.mem_cons_of_mem _ hU)) (fun U hU => by rw [upd_ne (fun e : U = T => n1 (by rw [← e]; exact hU))]; exact hn U (List.mem_cons_of_mem _ hU))
      (fun j U ys e1 e2 => ok (j + 1) U ys e1 e2) J
    refine ⟨H', J', (Same.new (hn T List.mem_cons_self)).trans s', fun b hb => ?_, fun j U ys e1 e2 => ?_⟩
    · rw [k' b (fun z => hb (List.mem_cons_of_mem _ z)), upd_ne (fun e => hb (by rw [e]; exact List.mem_cons_self))]
    · cases j with
      | zero =>
        have e1' : T = U := Option.some.inj e1
        have e2' : xs = ys := Option.some.inj e2
        subst e1' e2'
        rw [k' T n1, upd_same]
      | succ j => exact g' j U ys e1 e2
end
def tListEnum (K : PySem.W.Frag) (te : TE) : TE := fun σ H Q => te σ H fun x H1 => ∃ (a : Addr) (ys : List V), x = .ref a ∧ SqL K H1 a ys ∧ ys.length ≤ 1000000 ∧
  ∀ (H2 : Hp) (S : Addr) (Ts : List Addr), Same H1 H2 → H1 S = none → H2 S = some (.lst (Ts.map V.ref)) → Ts.length = ys.length →
    (∀ (j : Nat) (T : Addr) (y : V), Ts[j]? = some T → ys[j]? = some y → H1 T = none ∧ H2 T = some (.tup [.int (1 + (j : Nat)), y])) → Q (.ref S) H2
end Fr
namespace Fr
open PySem PySem.Spec PyProof.Rows L2
/-- the record of an enumerate object -/
abbrev EO (f0 f1 : Value) (it : Addr) (c : Int) (old : Value) : Obj := { cls := .type "enumerate", dict := none, data := .fields #[f0, f1, .ref it, rawInt c, .none, old], slots := #[] }
abbrev PairO (c : Int) (t : Tok) (x : Value) : Obj := { cls := .type "tuple", data := .seq #[.int c t, x] }
/-- its next number is c; its pair is free, or was handed out and is still there -/
def EnumSt (h : Heap) (e it : Addr) (c : Int) : Prop := (∃ old, h.get? e = some (EO .none (.bool false) it c old)) ∨
  ∃ (a : Addr) (b : Bool) (x : Value) (o : Obj), h.get? e = some (EO (rawInt a) (.bool b) it c x) ∧ h.get? a = some o ∧ a ≠ e ∧ a ≠ it
theorem EnumSt.rec_ {h : Heap} {e it : Addr} {c : Int} (q : EnumSt h e it c) : ∃ f0 f1 old, h.get? e = some (EO f0 f1 it c old) := by
  rcases q with ⟨_, q⟩ | ⟨_, _, _, _, q, _⟩ <;> exact ⟨_, _, _, q⟩
/-- the heap h2 is h1 with one object more, but for e and it -/
structure Grew (e it : Addr) (h1 h2 : Heap) (o : Obj) : Prop where
  size : h2.objs.size = h1.objs.size + 1
  new : h2.get? h1.objs.size = some o
  old : ∀ b u, b ≠ e → b ≠ it → h1.get? b = some u → h2.get? b = some u
theorem Grew.then {e it : Addr} {h1 h2 h3 : Heap} {o : Obj} (g : Grew e it h1 h2 o) (he : e < h1.objs.size) (w : Heap.SameBut e h2 h3) : Grew e it h1 h3 o :=
  ⟨w.1.trans g.size, (w.2 _ (Nat.ne_of_gt he)).trans g.new, fun b u x y q => (w.2 b x).trans (g.old b u x y q)⟩
section
variable {prog : Program} {w : World} {A : Around} {E : Value → Shared → Prop} {s : Shared}
theorem alive_ {M : Model} {a : Addr} {Q : Option Obj → Shared → Prop} (h : Q (s.heap.get? a) s) : wpAny M A (loadIfAlive a) Q E s := fun _ _ _ => h
theorem en_next {e it l : Addr} {i : Nat} {c : Int} {xs : Array Value} {x : Value} {Q : Value → Shared → Prop} (st : EnumSt s.heap e it c) (hit : s.heap.IsListIter it l i) (hl : s.heap.IsList l xs) (hx : xs[i]? = some x) (ne : e ≠ it)
    (k : ∀ h', EnumSt h' e it (c + 1) → h'.IsListIter it l (i + 1) → Grew e it s.heap h' (PairO c s.toks x) → Q (.ref s.heap.objs.size) { s with heap := h', toks := s.toks + 1 }) :
    wpAny (model prog w) A (Builtin.«enumerate.__next__» ⟨[.ref e], []⟩) (fun r s' => ∃ v, r = .done (.ret v) ∧ Q v s') E s := by
  obtain ⟨h0, gs, dr, tk, os⟩ := s
  obtain ⟨f0, f1, old, q0⟩ := st.rec_
  have le : e < h0.objs.size := Heap.lt_size q0
  have li : it < h0.objs.size := let ⟨_, y, _⟩ := hit; Heap.lt_size y
  show wpAny _ _ (field (.ref e) 2 >>= _) _ _ _
  refine wpAny_bind (wpAny_field q0 rfl (x := .ref it) rfl (wpAny_bind (wpAny_nextOf_list_item hit hl hx fun h1 it1 w1 => ?_)))
  have q1 : h1.get? e = some (EO f0 f1 it c old) := (w1.2 e ne).trans q0
  refine wpAny_bind (wpAny_field q1 rfl (x := rawInt c) rfl ?_)
  refine wpAny_bind (wpAny_field q1 rfl (x := .none) rfl ?_)
  show wpAny _ _ (mkInt c >>= _) _ _ _
  refine wpAny_bind (wpAny_mkInt (wpAny_bind (wpAny_setField_rec q1 (by simp) fun h2 q2 w2 => wpAny_bind (wpAny_setField_rec q2 (by simp) fun h3 q3 w3 => ?_))))
  have q3' : h3.get? e = some (EO f0 f1 it (c + 1) old) := q3
  refine wpAny_bind (wpAny_newTuple ?_)
  have z3 : h3.objs.size = h0.objs.size := w3.1.trans (w2.1.trans w1.1)
  have G : Grew e it h0 (h3.push (PairO c tk x)) (PairO c tk x) :=
    ⟨by rw [Heap.size_push, z3], by rw [← z3]; exact Heap.get?_push_size _ rfl, fun b u be bi q => Heap.get?_push_of_some _ ((w3.2 b be).trans ((w2.2 b be).trans ((w1.2 b bi).trans q)))⟩
  have q4 : (h3.push (PairO c tk x)).get? e = some (EO f0 f1 it (c + 1) old) := Heap.get?_push_of_some _ q3'
  have it4 : (h3.push (PairO c tk x)).IsListIter it l (i + 1) := it1.at fun o q => Heap.get?_push_of_some _ ((w3.2 it (Ne.symm ne)).trans ((w2.2 it (Ne.symm ne)).trans q))
  show wpAny _ _ (Builtin.SmallTypes.ownedTupleIsFree (.ref e) >>= _) _ _ ⟨h3.push (PairO c tk x), gs, dr, tk + 1, os⟩
  rw [z3]
  generalize h3.push (PairO c tk x) = h4 at G q4 it4 ⊢
  refine wpAny_bind ?_
  unfold Builtin.SmallTypes.ownedTupleIsFree
  rcases st with ⟨_, q⟩ | ⟨a, b, _, o, q, qa, ae, ai⟩
  · cases q0.symm.trans q
    refine wpAny_bind (wpAny_field q4 rfl (x := .none) rfl (wpAny_pure ?_))
    rw [if_pos rfl]
    refine wpAny_bind (wpAny_rule (wpAny_bind (wpAny_field q4 rfl (x := old) rfl (wpAny_bind (wpAny_setField_rec q4 (by simp) fun h5 q5 w5 => wpAny_bind ?_)))))
    unfold Builtin.SmallTypes.ownedTupleHandOut
    refine wpAny_bind (wpAny_setField_rec q5 (by simp) fun h6 q6 w6 => wpAny_setField_rec q6 (by simp) fun h7 q7 w7 => wpAny_bind (wpAny_letGo (wpAny_pure ⟨_, rfl, ?_⟩)))
    have G7 := ((G.then le w5).then le w6).then le w7
    have q7' : h7.get? e = some (EO (rawInt h0.objs.size) (.bool false) it (c + 1) x) := q7
    exact k h7 (.inr ⟨_, false, x, _, q7', G7.new, Nat.ne_of_gt le, Nat.ne_of_gt li⟩) (it4.at fun o z => (w7.2 it (Ne.symm ne)).trans ((w6.2 it (Ne.symm ne)).trans ((w5.2 it (Ne.symm ne)).trans z))) G7
  · cases q0.symm.trans q
    have a4 : h4.get? a = some o := G.old a o ae ai qa
    refine wpAny_bind (wpAny_field q4 rfl (x := rawInt a) rfl ?_)
    show wpAny _ _ (loadIfAlive ((a : Int).toNat) >>= _) _ _ ⟨h4, gs, dr, tk + 1, os⟩
    refine wpAny_bind (alive_ ?_)
    rw [Int.toNat_natCast, show (Shared.heap ⟨h4, gs, dr, tk + 1, os⟩).get? a = some o from a4]
    show wpAny _ _ (field (.ref e) 1 >>= _) _ _ ⟨h4, gs, dr, tk + 1, os⟩
    refine wpAny_bind (wpAny_field q4 rfl (x := .bool b) rfl ?_)
    have fin : ∀ h5, h5.get? e = some (EO (rawInt a) (.bool true) it (c + 1) old) → Heap.SameBut e h4 h5 → Q (.ref h0.objs.size) ⟨h5, gs, dr, tk + 1, os⟩ := fun h5 q5 w5 =>
      k h5 (.inr ⟨a, true, old, o, q5, (w5.2 a ae).trans a4, ae, ai⟩) (it4.at fun o z => (w5.2 it (Ne.symm ne)).trans z) (G.then le w5)
    cases b with
    | true =>
      refine wpAny_pure ?_
      rw [if_neg Bool.false_ne_true]
      exact wpAny_pure ⟨_, rfl, fin h4 q4 ⟨rfl, fun _ _ => rfl⟩⟩
    | false =>
      refine wpAny_bind (wpAny_setField_rec q4 (by simp) fun h5 q5 w5 => wpAny_pure ?_)
      rw [if_neg Bool.false_ne_true]
      exact wpAny_pure ⟨_, rfl, fin h5 q5 w5⟩
end
end Fr
namespace Fr
open PySem PySem.Spec PyProof.Rows L2
/-- the pairs taken so far: their addresses, all above lo, no two alike -/
def EnumGot (h : Heap) (xs : Array Value) (c0 : Int) (lo : Addr) (Ts : List Addr) : Prop :=
  Ts.Nodup ∧ ∀ (j : Nat) (T : Addr), Ts[j]? = some T → lo < T ∧ T < h.objs.size ∧ ∃ t x, xs[j]? = some x ∧ h.get? T = some (PairO (c0 + (j : Nat)) t x)
abbrev ListO (Ts : List Addr) (n : Nat) : Obj := { cls := .type "list", dict := none, data := .seq (Ts.map Value.ref).toArray n, slots := #[] }
/-- where the objects of a loop over an enumerate object lie -/
structure Lie (e it l S lo : Addr) : Prop where
  ei : e ≠ it
  le : l ≠ e
  li : l ≠ it
  se : S ≠ e
  si : S ≠ it
  sl : S ≠ l
  elo : e ≤ lo
  ilo : it ≤ lo
  slo : S ≤ lo
theorem Lie.above {e it l S lo T : Addr} (L : Lie e it l S lo) (h : lo < T) : T ≠ e ∧ T ≠ it ∧ T ≠ S :=
  ⟨Nat.ne_of_gt (Nat.lt_of_le_of_lt L.elo h), Nat.ne_of_gt (Nat.lt_of_le_of_lt L.ilo h), Nat.ne_of_gt (Nat.lt_of_le_of_lt L.slo h)⟩
theorem EnumGot.keeps {h h' : Heap} {xs : Array Value} {c0 : Int} {lo : Addr} {Ts : List Addr} (G : EnumGot h xs c0 lo Ts) (k : ∀ T o, lo < T → h.get? T = some o → h'.get? T = some o) : EnumGot h' xs c0 lo Ts :=
  ⟨G.1, fun j T e => let ⟨a, _, t, x, b, d⟩ := G.2 j T e; ⟨a, Heap.lt_size (k T _ a d), t, x, b, k T _ a d⟩⟩
theorem EnumGot.snoc {h h' : Heap} {xs : Array Value} {c0 : Int} {lo : Addr} {Ts : List Addr} {t : Tok} {x : Value} (G : EnumGot h xs c0 lo Ts) (k : ∀ T o, lo < T → h.get? T = some o → h'.get? T = some o) (hlo : lo < h.objs.size)
    (hx : xs[Ts.length]? = some x) (hn : h'.get? h.objs.size = some (PairO (c0 + (Ts.length : Nat)) t x)) : EnumGot h' xs c0 lo (Ts ++ [h.objs.size]) := by
  have G' := G.keeps k
  refine ⟨?_, fun j T e => ?_⟩
  · rw [List.nodup_append]
    refine ⟨G.1, by simp, fun T hT b hb => ?_⟩
    obtain ⟨j, hj⟩ := List.getElem?_of_mem hT
    rw [List.mem_singleton.mp hb]
    exact Nat.ne_of_lt (G.2 j T hj).2.1
  · rcases Nat.lt_trichotomy j Ts.length with q | q | q
    · exact G'.2 j T (by rw [List.getElem?_append_left q] at e; exact e)
    · subst q
      rw [List.getElem?_append_right (Nat.le_refl _), Nat.sub_self] at e
      have e' : h.objs.size = T := Option.some.inj e
      subst e'
      exact ⟨hlo, Heap.lt_size hn, t, x, hx, hn⟩
    · rw [List.getElem?_eq_none (by rw [List.length_append]; exact q)] at e
      cases e
section
variable {prog : Program} {w : World} {A : Around} {E : Value → Shared → Prop} {s : Shared} {R : Result → Shared → Prop}
theorem EnumSt.ty {e it : Addr} {c : Int} (q : EnumSt s.heap e it c) : s.TypeIs (.ref e) "enumerate" := let ⟨_, _, _, z⟩ := q.rec_; ⟨_, z, rfl⟩
theorem en_pyNext {e it l : Addr} {i : Nat} {c : Int} {xs : Array Value} {x : Value} {Q : Option Value → Shared → Prop} (st : EnumSt s.heap e it c) (hit : s.heap.IsListIter it l i) (hl : s.heap.IsList l xs) (hx : xs[i]? = some x) (ne : e ≠ it)
    (k : ∀ h', EnumSt h' e it (c + 1) → h'.IsListIter it l (i + 1) → Grew e it s.heap h' (PairO c s.toks x) → Q (some (.ref s.heap.objs.size)) { s with heap := h', toks := s.toks + 1 }) :
    wpAny (model prog w) A (pyNext (.ref e)) Q E s := by
  unfold pyNext
  exact wpAny_bind (wpAny_attempt (wpAny_callSpecial?_slot (name := Str.ofString "__next__") st.ty F.slot_enumerate_next (wpAny_call_entry F.slot_enumerate_next st.ty F.entry_enumerate_next (en_next st hit hl hx ne fun h' p q r => wpAny_pure (k h' p q r)) (F.args_enumerate_next_1 _))))
theorem en_pyEnd {e it l : Addr} {i : Nat} {c : Int} {xs : Array Value} {Q : Option Value → Shared → Prop} (hh : A.handled = none) (st : EnumSt s.heap e it c) (hit : s.heap.IsListIter it l i) (hl : s.heap.IsList l xs) (hx : xs[i]? = none)
    (k : ∀ h', Heap.ExtBut it s.heap h' → Q none { s with heap := h' }) : wpAny (model prog w) A (pyNext (.ref e)) Q E s := by
  obtain ⟨f0, f1, old, q⟩ := st.rec_
  unfold pyNext
  refine wpAny_bind (wpAny_attempt (wpAny_callSpecial?_slot (name := Str.ofString "__next__") st.ty F.slot_enumerate_next (wpAny_call_entry F.slot_enumerate_next st.ty F.entry_enumerate_next ?_ (F.args_enumerate_next_1 _))))
  show wpAny _ _ (field (.ref e) 2 >>= _) _ _ _
  refine wpAny_bind (wpAny_field q rfl (x := .ref it) rfl (wpAny_bind (wpAny_nextOf_list_end hh hit hl hx fun h' y ext ⟨o, ho, hc⟩ => ?_)))
  exact wpAny_bind (wpAny_isInstance (T := "StopIteration") (b := true) ⟨o, ho, hc⟩ isSubtype_stop (wpAny_pure (k _ ext)))
/-- list.extend's loop over such an object -/
theorem en_loop {e it l S lo : Addr} {xs : Array Value} {c0 : Int} {res : Value} (hh : A.handled = none) (hn : xs.size ≤ 1000000) (L : Lie e it l S lo) : ∀ (k : Nat) (s : Shared) (Ts : List Addr) (n : Nat), xs.size - Ts.length = k → Ts.length ≤ xs.size →
    EnumSt s.heap e it (c0 + (Ts.length : Nat)) → s.heap.IsListIter it l Ts.length → s.heap.IsList l xs → lo < s.heap.objs.size → s.heap.get? S = some (ListO Ts n) → EnumGot s.heap xs c0 lo Ts →
    (∀ h' tk Us m, (∀ b o, b ≠ e → b ≠ it → b ≠ S → s.heap.get? b = some o → h'.get? b = some o) → h'.get? S = some (ListO Us m) → Us.length = xs.size → EnumGot h' xs c0 lo Us → R (.ok (.ret res)) { s with heap := h', toks := tk }) →
    codeAny (model prog w) A (.builtin "list.extend.loop" ⟨[.ref S, .ref e, res], []⟩) R s
  | 0, s, Ts, n, hk, hle, st, hit, hl, hlo, hS, G, done => by
    have full : Ts.length = xs.size := by omega
    refine codeAny_builtin F.entry_extend_loop ?_
    rw [Around.under_plainId F.plain_extend_loop _]
    show wpAny _ A.in1 (pyNext (.ref e) >>= _) _ _ s
    refine wpAny_bind (en_pyEnd (A := A.in1) hh st hit hl (by rw [full]; exact Array.getElem?_eq_none (Nat.le_refl _)) fun h' ext => wpAny_pure (done h' s.toks Ts n (fun b o _ bi _ z => ext b o bi z) (ext S _ L.si hS) full (G.keeps fun T o a z => ext T o (L.above a).2.1 z)))
  | k + 1, s, Ts, n, hk, hle, st, hit, hl, hlo, hS, G, done => by
    have more : Ts.length < xs.size := by omega
    have hx : xs[Ts.length]? = some xs[Ts.length] := Array.getElem?_eq_getElem more
    refine codeAny_builtin F.entry_extend_loop ?_
    rw [Around.under_plainId F.plain_extend_loop _]
    show wpAny _ A.in1 (pyNext (.ref e) >>= _) _ _ s
    refine wpAny_bind (en_pyNext st hit hl hx L.ei fun h1 st1 it1 g1 => ?_)
    have S1 : h1.get? S = some (ListO Ts n) := g1.old S _ L.se L.si hS
    have w2 := Heap.SameBut.update h1 S (Obj.mapSeq (·.push (Value.ref s.heap.objs.size)))
    obtain ⟨m, S2⟩ : ∃ m, (h1.update S (Obj.mapSeq (·.push (Value.ref s.heap.objs.size)))).get? S = some (ListO (Ts ++ [s.heap.objs.size]) m) := by
      have z := get?_update_seq S1 (·.push (Value.ref s.heap.objs.size))
      rw [show (Ts.map Value.ref).toArray.push (Value.ref s.heap.objs.size) = ((Ts ++ [s.heap.objs.size]).map Value.ref).toArray by simp] at z
      exact ⟨_, z⟩
    have few : (Ts.map Value.ref).toArray.size ≤ 1000000 := by rw [List.size_toArray, List.length_map]; omega
    show wpAny _ A.in1 (updateSeq S (·.push (.ref s.heap.objs.size)) >>= _) _ _ _
    refine wpAny_bind (wpAny_updateSeq S1 rfl ?_ (by rw [sizeLine_eq]; omega) (by rw [sizeLine_eq]; show ((Ts.map Value.ref).toArray.push _).size ≤ _; rw [Array.size_push]; omega))
    have ln : (Ts ++ [s.heap.objs.size]).length = Ts.length + 1 := by rw [List.length_append]; rfl
    have old2 : ∀ b o, b ≠ e → b ≠ it → b ≠ S → s.heap.get? b = some o → (h1.update S (Obj.mapSeq (·.push (Value.ref s.heap.objs.size)))).get? b = some o := fun b o x y z q => (w2.2 b z).trans (g1.old b o x y q)
    generalize h1.update S (Obj.mapSeq (·.push (Value.ref s.heap.objs.size))) = h2 at w2 S2 old2 ⊢
    have nS : s.heap.objs.size ≠ S := Nat.ne_of_gt (Heap.lt_size hS)
    refine wpAny_pure ⟨plainId_quiet F.plain_extend_loop _, en_loop hh hn L k _ (Ts ++ [s.heap.objs.size]) m (by rw [ln]; omega) (by rw [ln]; exact more) ?_ ?_ ?_ ?_ S2 ?_ fun h' tk Us m' kp eS eL eG => done h' tk Us m' (fun b o x y z q => kp b o x y z (old2 b o x y z q)) eS eL eG⟩
    · rw [ln, show c0 + ((Ts.length + 1 : Nat) : Int) = c0 + (Ts.length : Nat) + 1 by omega]
      rcases st1 with ⟨o, q⟩ | ⟨a, b, x, o, q, qa, ae, ai⟩
      · exact .inl ⟨o, (w2.2 e (Ne.symm L.se)).trans q⟩
      · refine .inr ⟨a, b, x, ?_⟩
        by_cases z : a = S
        · exact ⟨_, (w2.2 e (Ne.symm L.se)).trans q, by rw [z]; exact S2, ae, ai⟩
        · exact ⟨o, (w2.2 e (Ne.symm L.se)).trans q, (w2.2 a z).trans qa, ae, ai⟩
    · rw [ln]
      exact it1.at fun o q => (w2.2 it (Ne.symm L.si)).trans q
    · exact hl.at fun o q => old2 l o L.le L.li (Ne.symm L.sl) q
    · show lo < h2.objs.size
      rw [w2.1, g1.size]
      exact Nat.lt_succ_of_lt hlo
    · exact G.snoc (fun T o a q => old2 T o (L.above a).1 (L.above a).2.1 (L.above a).2.2 q) hlo hx ((w2.2 _ nS).trans g1.new)
end
end Fr
namespace Fr
open PySem PySem.Spec PyProof.Rows L2
/-- the keyword start=1 -/
abbrev kw1 (t : Tok) : List (Str × Value) := [(Str.ofString "start", .int 1 t)]
abbrev IterO (l : Addr) : Obj := { cls := .type "list_iterator", data := .fields #[.ref l, .int 0 0] }
theorem kw_type (a : Value) (t : Tok) : checkTypeCall "enumerate" ⟨[a], kw1 t⟩ = pure () := by kernel_rfl
theorem kw_new (a : Value) (t : Tok) : checkBuiltinCall "enumerate.__new__" ⟨[.type "enumerate", a], kw1 t⟩ = pure () := by kernel_rfl
theorem kw_init (a b : Value) (t : Tok) : argsOk "object.__init__" ⟨[a, b], kw1 t⟩ := by
  unfold argsOk
  rw [signature?_of (id := "object.__init__") (n := "__init__".toList.reverse) (o := "object".toList.reverse) (by kernel_rfl) F.owner_object]
  kernel_rfl
section
variable {prog : Program} {w : World} {A : Around} {E : Value → Shared → Prop} {s : Shared}
theorem en_new (l : Addr) (o : Obj) (xs : Array Value) (n : Nat) (hc : o.cls = .type "list") (hd : o.data = .seq xs n) (t : Tok) :
    Meets (Builtin.«enumerate.__new__» ⟨[.type "enumerate", .ref l], kw1 t⟩) (fun _ R s => s.heap.get? l = some o ∧ R (.ok (.ret (.ref (s.heap.push (IterO l)).objs.size))) { s with heap := (s.heap.push (IterO l)).push (EO .none (.bool false) s.heap.objs.size 1 .none) }) := by
  refine .of_wp fun prog w A R s h => ?_
  obtain ⟨h0, gs, dr, tk, os⟩ := s
  obtain ⟨q, fin⟩ := h
  have sub := sub_enumerate
  have isl : Heap.IsList (Shared.heap ⟨h0, gs, dr, tk, os⟩) l xs := ⟨o, q, hc, n, hd⟩
  wp_walk using AutoSeq1.wpAny_loadPart' q
  refine wpAny_stack_any fun st => wpAny_pure ?_
  split
  all_goals first
    | (wp_walk using AutoSeq1.wpAny_loadPart' q, wpAny_pyIter_list isl; exact ⟨_, rfl, fin⟩)
    | (rename_i c _ _ _ _ _; cases (c == Value.type "enumerate") <;> (wp_walk using AutoSeq1.wpAny_loadPart' q, wpAny_pyIter_list isl; exact ⟨_, rfl, fin⟩))
theorem en_init (self a : Value) (t : Tok) : Meets (Builtin.«object.__init__» ⟨[self, a], kw1 t⟩) (fun _ R s => s.TypeIs self "enumerate" ∧ R (.ok (.ret .none)) s) := by
  refine .of_wp fun prog w A R s ⟨ty, fin⟩ => ?_
  have lk := F.called_enumerate.init.lookup
  have md := F.called_enumerate.made
  have ne : (some "enumerate.__new__" != some "object.__new__") = true := by decide
  repeat (any_goals (first | assumption | wp_step))
  exact ⟨_, rfl, fin⟩
theorem en_call {l : Addr} {o : Obj} {xs : Array Value} {n : Nat} {t : Tok} {Q : Value → Shared → Prop} (q : s.heap.get? l = some o) (hc : o.cls = .type "list") (hd : o.data = .seq xs n)
    (k : Q (.ref (s.heap.push (IterO l)).objs.size) { s with heap := (s.heap.push (IterO l)).push (EO .none (.bool false) s.heap.objs.size 1 .none) }) : wpAny (model prog w) A (call (.type "enumerate") [.ref l] (kw1 t)) Q E s := by
  have ft := F.called_enumerate
  obtain ⟨c, tl, mro⟩ := ft.mro
  have f1 := ft.made
  have f2 := ft.sub
  have f3 := ft.notType
  have f4 := ft.canCreate
  have f5 := kw_type (.ref l) t
  generalize hs2 : ({ s with heap := (s.heap.push (IterO l)).push (EO .none (.bool false) s.heap.objs.size 1 .none) } : Shared) = s2 at k
  generalize hob : (s.heap.push (IterO l)).objs.size = ob at k
  have ty : s2.TypeIs (.ref ob) "enumerate" := by rw [← hs2, ← hob]; exact ⟨_, Heap.get?_push_size _ rfl, rfl⟩
  have made : codeAny (model prog w) A.in1 (.call (.builtin "enumerate.__new__") ⟨.type "enumerate" :: [.ref l], kw1 t⟩) (fun r s1 => r = .ok (.ret (.ref ob)) ∧ s1 = s2) s :=
    codeAny_call_builtin ft.plain F.entry_enumerate_new (wpAny_of_eq (kw_new _ _) (en_new l o xs n hc hd t prog w A.in1 (fun r s1 => r = .ok (.ret (.ref ob)) ∧ s1 = s2) s ⟨q, by rw [hob], hs2⟩))
  have inited : codeAny (model prog w) A.in1 (.call (.builtin "object.__init__") ⟨.ref ob :: [.ref l], kw1 t⟩) (fun r s1 => r = .ok (.ret .none) ∧ s1 = s2) s2 :=
    codeAny_call_builtin ft.init.plain F.entry_object_init (ft.init.check _ _ _ _ _ _ _ _ ty (kw_init _ _ _) (en_init _ _ _ prog w A.in1 (fun r s1 => r = .ok (.ret .none) ∧ s1 = s2) _ ⟨ty, rfl, rfl⟩))
  refine wpAny_call (codeAny_of_tree (show wpAny _ _ (callAny (.type "enumerate") _) _ _ _ from wpAny_pure ⟨Code.quiet_builtin _ (by decide +kernel), codeAny_builtin F.entry_type_call ?_⟩))
  rw [Around.under_plain (weight_type_call_type _ _ _) (units_type_call_type _ _ _)]
  repeat (any_goals (first | assumption | wp_step))
  refine codeAny_mono made fun r s1 hr => ?_
  obtain ⟨rfl, rfl⟩ := hr
  have f6 := ft.init.lookup
  have f7 := ft.init.bind (.ref ob)
  repeat (any_goals (first | assumption | wp_step))
  refine codeAny_mono inited fun r s1 hr => ?_
  obtain ⟨rfl, rfl⟩ := hr
  repeat (any_goals (first | assumption | wp_step))
end
end Fr
namespace Fr
open PySem PySem.Spec PyProof.Rows L2
theorem en_noLen : typeLookup (.type "enumerate") "__len__" = pure none := by rw [typeLookup_type, builtinLookup_eq_fast]; kernel_rfl
theorem en_noHint : typeLookup (.type "enumerate") "__length_hint__" = pure none := by rw [typeLookup_type, builtinLookup_eq_fast]; kernel_rfl
abbrev NilO (n : Nat) : Obj := { cls := .type "list", data := .seq #[] n }
section
variable {prog : Program} {w : World} {A : Around} {E : Value → Shared → Prop} {s : Shared}
/-- the end that is wanted of what list does: all pairs are there -/
def Taken (s : Shared) (e it S : Addr) (xs : Array Value) (R : Shared → Prop) : Prop := ∀ h' tk Us m, (∀ b o, b ≠ e → b ≠ it → b ≠ S → s.heap.get? b = some o → h'.get? b = some o) → h'.get? S = some (ListO Us m) → Us.length = xs.size → EnumGot h' xs 1 S Us → R { s with heap := h', toks := tk }
theorem en_extend {R : Result → Shared → Prop} {e it l S : Addr} {xs : Array Value} {n : Nat} (hh : A.handled = none) (hn : xs.size ≤ 1000000) (L : Lie e it l S S) (q : s.heap.get? e = some (EO .none (.bool false) it 1 .none)) (hit : s.heap.IsListIter it l 0) (hl : s.heap.IsList l xs) (hS : s.heap.get? S = some (NilO n))
    (k : Taken s e it S xs (R (.ok (.ret .none)))) :
    wpAny (model prog w) A.in1 (Builtin.List.listExtendWith (.ref S) (.ref e) .none) (fun r s' => match r with | .done f => R (.ok f) s' | .again c' => c'.quiet = true ∧ codeAny (model prog w) A c' R s') (fun e s' => R (.error e) s') s := by
  have ty : s.TypeIs (.ref e) "enumerate" := ⟨_, q, rfl⟩
  unfold Builtin.List.listExtendWith
  refine wpAny_bind (wpAny_typeOf ty ?_)
  rw [if_neg (by simp [Builtin.List.listSameRef, L.se])]
  refine wpAny_bind (wpAny_pyIter_enum q (wpAny_bind (wpAny_holding ?_)))
  unfold Builtin.List.listLengthHint
  refine wpAny_bind (wpAny_specialOf ty en_noLen (wpAny_bind (wpAny_specialOf ty en_noHint (wpAny_pure ?_))))
  refine wpAny_ite_split (fun _ => wpAny_bind (wpAny_rule (wpAny_bind ?_))) (fun z => absurd rfl z)
  show wpAny _ _ (updateSeq S (·.push .none) >>= fun _ => updateSeq S (·.pop)) _ _ _
  refine wpAny_bind (wpAny_updateSeq hS rfl ?_)
  have p1 := Heap.get?_update_self (Obj.mapSeq (·.push Value.none)) hS rfl
  have v1 := Heap.SameBut.update s.heap S (Obj.mapSeq (·.push Value.none))
  generalize s.heap.update S (Obj.mapSeq (·.push Value.none)) = h1 at p1 v1 ⊢
  refine wpAny_updateSeq (hz := by seq_fits) p1 rfl ?_
  have p2 := Heap.get?_update_self (Obj.mapSeq (·.pop)) p1 rfl
  have v2 := Heap.SameBut.update h1 S (Obj.mapSeq (·.pop))
  generalize h1.update S (Obj.mapSeq (·.pop)) = h2 at p2 v2 ⊢
  have kp : ∀ b o, b ≠ S → s.heap.get? b = some o → h2.get? b = some o := fun b o z x => (v2.2 b z).trans ((v1.2 b z).trans x)
  refine wpAny_pure ⟨plainId_quiet F.plain_extend_loop _, en_loop (c0 := 1) hh hn L xs.size _ [] _ rfl (Nat.zero_le _) (.inl ⟨_, kp e _ (Ne.symm L.se) q⟩) (hit.at fun o x => kp it o (Ne.symm L.si) x) (hl.at fun o x => kp l o (Ne.symm L.sl) x) (Heap.lt_size p2) p2 ⟨List.nodup_nil, fun j T x => by simp at x⟩
    fun h' tk Us m a b c d => k h' tk Us m (fun i o x y z u => a i o x y z (kp i o z u)) b c d⟩
theorem en_list {Q : Value → Shared → Prop} {e it l : Addr} {xs : Array Value} (hh : A.handled = none) (hn : xs.size ≤ 1000000) (ei : e ≠ it) (le : l ≠ e) (li : l ≠ it) (q : s.heap.get? e = some (EO .none (.bool false) it 1 .none)) (hit : s.heap.IsListIter it l 0) (hl : s.heap.IsList l xs)
    (k : Taken s e it s.heap.objs.size xs (Q (.ref s.heap.objs.size))) : wpAny (model prog w) A (call (.type "list") [.ref e]) Q E s := by
  have ze : e < s.heap.objs.size := Heap.lt_size q
  have zi : it < s.heap.objs.size := let ⟨_, y, _⟩ := hit; Heap.lt_size y
  have zl : l < s.heap.objs.size := let ⟨_, y, _⟩ := hl; Heap.lt_size y
  refine callType_codes (Q₁ := fun o s1 => o = .ref s.heap.objs.size ∧ s1 = { s with heap := s.heap.push (NilO 0) }) F.called_list (F.typeCall_list_1 _) F.entry_list_init (code_list_new _ ⟨rfl, rfl⟩) fun o s1 ⟨z1, z2⟩ => ?_
  subst z1 z2
  have hS : (s.heap.push (NilO 0)).get? s.heap.objs.size = some (NilO 0) := Heap.get?_push_size _ rfl
  refine ⟨⟨_, hS, rfl⟩, F.args_list_init_2 _ _, ?_⟩
  show wpAny _ _ (Builtin.List.listItems (.ref s.heap.objs.size) >>= _) _ _ _
  refine wpAny_bind (listItems_at hS rfl (wpAny_bind (listUpdate_at hS rfl (wpAny_bind (wpAny_letGo ?_)) (Nat.zero_le _) (Nat.zero_le _))))
  have p1 := get?_update_seq hS fun _ => (#[] : Array Value)
  have v1 := Heap.SameBut.update (s.heap.push (NilO 0)) s.heap.objs.size (Obj.mapSeq fun _ => (#[] : Array Value))
  generalize (s.heap.push (NilO 0)).update s.heap.objs.size (Obj.mapSeq fun _ => (#[] : Array Value)) = h1 at p1 v1 ⊢
  have kp : ∀ b o, s.heap.get? b = some o → h1.get? b = some o := fun b o x => (v1.2 b (Nat.ne_of_lt (Heap.lt_size x))).trans (Heap.get?_push_of_some _ x)
  exact en_extend (A := A.in1) (s := { s with heap := h1 }) hh hn ⟨ei, le, li, Nat.ne_of_gt ze, Nat.ne_of_gt zi, Nat.ne_of_gt zl, Nat.le_of_lt ze, Nat.le_of_lt zi, Nat.le_refl _⟩ (kp e _ q) (hit.at fun o x => kp it o x) (hl.at fun o x => kp l o x) p1
    fun h' tk Us m a b c d => ⟨rfl, k h' tk Us m (fun i o x y z u => a i o x y z (kp i o u)) b c d⟩
end
end Fr
namespace Fr
open PySem PySem.Spec PyProof.Rows L2
theorem cw_kw {M : Model} {A : Around} {E : Value → Shared → Prop} {s : Shared} {pos : Pos} {T : String} {as : List (Bool × Sem Value)} {ks : List (Option Str × Sem Value)} {Q : Value → Shared → Prop} (n1 : as.any (·.1) = false) (n2 : ks.any (·.1.isNone) = false)
    (h : wpAny M A (evalArgs (.type T) true as ks) (fun a s1 => wpAny M A (call (.type T) ([] ++ a.pos) a.kw) Q E s1) E s) : wpAny M A (callWith pos (.type T) [] as ks) Q E s := by
  unfold callWith
  refine wpAny_bind (wpAny_holding (thn h fun a s1 q => wpAny_bind (wpAny_standAt ?_)))
  simp only [n1, n2, Bool.or_false]
  exact wpAny_bind (wpAny_pure (wpAny_bind (thn q fun r s2 z => wpAny_bind (wpAny_holding (wpAny_point (wpAny_pure z))))))
section
variable {X : Cx} {e : Expr} {te : TE} {p p2 kp pos pos2 cpos : Pos} {j0 : Nat}
theorem boot_list' : bootBuiltins "list" = some (.type "list") := by decide +kernel
theorem boot_enum' : bootBuiltins "enumerate" = some (.type "enumerate") := by decide +kernel
theorem pe_listEnum (hc : X.calm = true) (hgl : Gl X "list") (hml : X.mg "list" = none) (hge : Gl X "enumerate") (hme : X.mg "enumerate" = none) (ha : PE X e te)
    (hs1 : starEach [.Call (.Name "enumerate" p2) [e] [⟨some "start", .Constant (.int 1) j0 cpos, kp⟩] pos2] X.env = (false, eval (.Call (.Name "enumerate" p2) [e] [⟨some "start", .Constant (.int 1) j0 cpos, kp⟩] pos2) X.env) :: starEach [] X.env := by rfl)
    (hp1 : (backTo pos (starEach [] X.env)).any (·.1) = false := by rfl)
    (hs2 : backTo pos2 (starEach [e] X.env) = (false, eval e X.env) :: backTo pos2 (starEach [] X.env) := by rfl)
    (hp2 : (backTo pos2 (starEach [e] X.env)).any (·.1) = false := by rfl)
    (hkw : (backToKw pos2 (keywordEach [⟨some "start", .Constant (.int 1) j0 cpos, kp⟩] X.env)).filterMap (·.1) = [Str.ofString "start"] := by rfl)
    (hall : (backToKw pos2 (keywordEach [⟨some "start", .Constant (.int 1) j0 cpos, kp⟩] X.env)).all (·.1.isSome) = true := by rfl)
    (hnn : (backToKw pos2 (keywordEach [⟨some "start", .Constant (.int 1) j0 cpos, kp⟩] X.env)).any (·.1.isNone) = false := by rfl) :
    PE X (.Call (.Name "list" p) [.Call (.Name "enumerate" p2) [e] [⟨some "start", .Constant (.int 1) j0 cpos, kp⟩] pos2] [] pos) (tListEnum X.K te) := by
  intro pins s σ H Q I h
  refine wpAny_Call_Name_kw (ld_blt I hgl hml boot_list' ?_)
  refine PyProof.Rows.callWith_type1 ?_ hs1 hp1
  rw [hs1]
  show wpAny _ _ (spliced ((false, eval _ X.env) :: backTo pos (starEach [] X.env))) _ _ s
  refine Calls.spliced_cons ?_
  refine wpAny_Call_Name_kw (ld_blt I hge hme boot_enum' ?_)
  refine cw_kw hp2 hnn ?_
  rw [hs2]
  refine evalArgs_kwB hall ?_
  refine Calls.spliced_cons (thn (ha pins s σ H _ I h) fun u s1 ⟨x, H1, I1, r1, q1⟩ => ?_)
  refine Calls.spliced_nil ?_
  obtain ⟨a, ys, rfl, hA, hyl, done⟩ := q1
  cases r1
  obtain ⟨its, rv, hl, _⟩ := I1.list hA
  refine kws_cons (wpAny_Constant_int (kws_nil ?_))
  rw [hkw]
  have I2 : Inv X pins σ H1 { s1 with toks := s1.toks + 1 } := I1.tok _
  obtain ⟨ol, qo, co, no, dox⟩ := hl.isList
  refine en_call (s := { s1 with toks := s1.toks + 1 }) qo co dox ?_
  have hz : ((s1.heap.push (IterO a)).push (EO .none (.bool false) s1.heap.objs.size 1 .none)).objs.size = s1.heap.objs.size + 2 := by rw [Heap.size_push, Heap.size_push]
  have hz1 : (s1.heap.push (IterO a)).objs.size = s1.heap.objs.size + 1 := Heap.size_push ..
  have he : ((s1.heap.push (IterO a)).push (EO .none (.bool false) s1.heap.objs.size 1 .none)).get? (s1.heap.push (IterO a)).objs.size = some (EO .none (.bool false) s1.heap.objs.size 1 .none) := Heap.get?_push_size _ rfl
  have hit : ((s1.heap.push (IterO a)).push (EO .none (.bool false) s1.heap.objs.size 1 .none)).IsListIter s1.heap.objs.size a 0 := ⟨_, Heap.get?_push_of_some _ (Heap.get?_push_size _ rfl), rfl, rfl⟩
  have hk : ∀ b o, s1.heap.get? b = some o → ((s1.heap.push (IterO a)).push (EO .none (.bool false) s1.heap.objs.size 1 .none)).get? b = some o := fun b o q => Heap.get?_push_of_some _ (Heap.get?_push_of_some _ q)
  show wpAny _ _ _ _ _ { s1 with heap := (s1.heap.push (IterO a)).push (EO .none (.bool false) s1.heap.objs.size 1 .none), toks := s1.toks + 1 }
  rw [hz1] at he ⊢
  generalize (s1.heap.push (IterO a)).push (EO .none (.bool false) s1.heap.objs.size 1 .none) = h' at hz he hit hk ⊢
  refine Calls.spliced_nil ?_
  have hll : a < s1.heap.objs.size := by obtain ⟨_, y, _⟩ := hl.isList; exact Heap.lt_size y
  have hlen := rv.length
  refine en_list (s := { s1 with heap := h', toks := s1.toks + 1 }) (I.ok.hd hc) (by rw [List.size_toArray]; omega) (Nat.succ_ne_self _) (Nat.ne_of_lt (Nat.lt_succ_of_lt hll)) (Nat.ne_of_lt hll) he hit (hl.isList.at fun o q => hk a o q) fun h2 tk Ts cc hk2 hS hT hG => ?_
  have keep : ∀ b o, s1.heap.get? b = some o → h2.get? b = some o := fun b o q => hk2 b o (Nat.ne_of_lt (Nat.lt_succ_of_lt (Heap.lt_size q))) (Nat.ne_of_lt (Heap.lt_size q)) (Nat.ne_of_lt (Heap.lt_size (hk b o q))) (hk b o q)
  have J0 : Inv X pins σ H1 { s1 with heap := h2, toks := tk } := I1.kept keep
  have hSge : s1.heap.objs.size ≤ h'.objs.size := by rw [hz]; exact Nat.le_add_right _ 2
  have Tge : ∀ T ∈ Ts, s1.heap.objs.size ≤ T ∧ h'.objs.size < T := fun T hT' => by
    obtain ⟨j, hj⟩ := List.getElem?_of_mem hT'
    have := (hG.2 j T hj).1
    exact ⟨Nat.le_trans hSge (Nat.le_of_lt this), this⟩
  have hTl : Ts.length = ys.length := by rw [hT, List.size_toArray, hlen]
  obtain ⟨H', J, sm, out, got⟩ := track_tups (X := X) (pins := pins) (σ := σ) (s := { s1 with heap := h2, toks := tk }) Ts ((List.range ys.length).map fun j => [V.int (1 + (j : Nat)), ys.getD j .non]) H1
    (by rw [List.length_map, List.length_range, hTl]) hG.1 (fun T hT' H' hn => I1.fpOk (Tge T hT').1 hn) (fun T hT' => I1.hok.fresh (Tge T hT').1) (fun j T xs e1 e2 => by
      have hj : j < ys.length := by have := (List.getElem?_eq_some_iff.mp e1).1; omega
      rw [List.getElem?_map, List.getElem?_range hj] at e2
      have e2' : [V.int (1 + (j : Nat)), ys.getD j .non] = xs := Option.some.inj e2
      subst e2'
      obtain ⟨_, _, t, x, g3, g4⟩ := hG.2 j T e1
      have gy : ys[j]? = some (ys.getD j .non) := by rw [List.getD_eq_getElem?_getD, List.getElem?_eq_getElem hj]; rfl
      obtain ⟨x', hx', rx'⟩ := rv.get gy
      have : x = x' := by
        have g3' : its[j]? = some x := by simpa using g3
        rw [hx'] at g3'
        exact (Option.some.inj g3').symm
      subst this
      exact ⟨by show 2 ≤ sizeLine; decide, [.int (1 + (j : Nat)) t, x], .cons ⟨_, rfl⟩ (.cons rx' .nil), ⟨_, g4, rfl, _, rfl⟩⟩) J0
  have nS : H1 h'.objs.size = none := I1.hok.fresh hSge
  have hSn : h'.objs.size ∉ Ts := fun z => Nat.lt_irrefl _ (Tge _ z).2
  have nS' : H' h'.objs.size = none := by rw [out _ hSn]; exact nS
  have vals : Vals (Ts.map V.ref) (Ts.map Value.ref) := by
    clear hT hG hTl got out Tge hSn hS
    induction Ts with
    | nil => exact .nil
    | cons T Ts ih => exact .cons rfl ih
  have J2 := track (o := .lst (Ts.map V.ref)) J (I1.fpOk hSge nS') ⟨by rw [List.length_map, hTl, sizeLine_eq]; omega, Ts.map Value.ref, cc, vals, hS⟩
  refine ⟨.ref h'.objs.size, _, J2, rfl, done _ _ Ts (sm.and nS') nS upd_same hTl fun j T y e1 e2 => ?_⟩
  have hj : j < ys.length := by have := (List.getElem?_eq_some_iff.mp e1).1; omega
  have gy : ys.getD j .non = y := by rw [List.getD_eq_getElem?_getD, e2]; rfl
  have g := got j T [V.int (1 + (j : Nat)), y] e1 (by rw [List.getElem?_map, List.getElem?_range hj, ← gy]; rfl)
  exact ⟨I1.hok.fresh (Tge T (List.mem_of_getElem? e1)).1, by rw [upd_ne (ne_of_none g nS')]; exact g⟩
end
end Fr
namespace Fr
open PySem PySem.Spec PyProof.Rows L2
/-- pairs of numbers stand in a list at p -/
def PairsAt (H : Hp) (p : Addr) (ws : List (Nat × Nat)) : Prop := ∃ ts : List Addr, H p = some (.lst (ts.map V.ref)) ∧ ts.length = ws.length ∧ ∀ (j : Nat) (t : Addr) (x : Nat × Nat), ts[j]? = some t → ws[j]? = some x → H t = some (.tup [.int (x.1 : Nat), .int (x.2 : Nat)])
def limV : Option Nat → V
  | none => .non
  | some k => .int (k : Nat)
def limN (n : Nat) : Option Nat → Nat
  | none => n
  | some k => k
theorem getElem?_app3 {α : Type} {a : α} {l : List α} {b : α} {j : Nat} {x : α} (h : ([a] ++ l ++ [b])[j]? = some x) : (j = 0 ∧ x = a) ∨ (∃ i, j = i + 1 ∧ l[i]? = some x) ∨ (j = l.length + 1 ∧ x = b) := by
  cases j with
  | zero => exact .inl ⟨rfl, (Option.some.inj h).symm⟩
  | succ i =>
    have h' : (l ++ [b])[i]? = some x := h
    by_cases hi : i < l.length
    · rw [List.getElem?_append_left hi] at h'
      exact .inr (.inl ⟨i, rfl, h'⟩)
    · rw [List.getElem?_append_right (by omega)] at h'
      have h0 : i - l.length = 0 := by
        by_cases q : i - l.length = 0
        · exact q
        · rw [List.getElem?_eq_none (by show 1 ≤ i - l.length; omega)] at h'; cases h'
      rw [h0] at h'
      exact .inr (.inr ⟨by omega, (Option.some.inj h').symm⟩)
theorem middle_get {fr : List Nat} {i v : Nat} (h : fr[i]? = some v) : (FrM.middle fr)[i]? = some (i + 1, v) := by
  have hi := (List.getElem?_eq_some_iff.mp h).1
  unfold FrM.middle
  rw [List.getElem?_map]
  have : ((List.range fr.length).zip fr)[i]? = some (i, v) := by rw [List.getElem?_zip_eq_some]; exact ⟨List.getElem?_range hi, h⟩
  rw [this]
  rfl
theorem written_snoc (l : List Nat) (ws : List (Nat × Nat)) (p b : Nat) : Vbaval.written l (ws ++ [(p, b)]) = (Vbaval.written l ws).set p b := by
  unfold Vbaval.written
  rw [List.foldl_append]
  rfl
theorem writes_place {fr : List Nat} {p : Nat × Nat} (h : p ∈ Vbaval.writes fr) : p.1 < fr.length + 1 := by
  rw [FrM.writes_eq] at h
  rcases List.mem_cons.mp h with rfl | h
  · exact Nat.succ_pos _
  · rcases List.mem_append.mp h with h | h
    · obtain ⟨q, hq, e⟩ := List.mem_map.mp h
      have := List.mem_range.mp (List.of_mem_zip hq).1
      rw [← e]
      show q.1 + 1 < _
      omega
    · rw [List.mem_singleton.mp h]; exact Nat.succ_pos _
section
variable {P : Program} {w : World} {K : PySem.W.Frag} {mg : Str → Option Value} {base : Heap} {CR : Addr}
def spRWrite (CR : Addr) : Sp := fun vs H Q _ => ∃ (g dg sl hl : Addr) (as : List Addr) (len : Nat) (slots : List (List Nat)) (hurt : List Bool) (n : Nat) (fa : Addr) (fr : List Nat) (lim : Option Nat) (l : List Nat), vs = [.ref g, .int (n : Nat), .ref fa, limV lim] ∧ RingIs CR H g dg sl hl as len slots hurt ∧
  (∀ l ∈ slots, l ≠ []) ∧ slots[n % slots.length]? = some l ∧ l.length = fr.length + 1 ∧ fr.length ≤ 1000 ∧ H fa = some (.lst (nv fr)) ∧
  ∀ H', RingIs CR H' g dg sl hl as len (slots.set (n % slots.length) (Vbaval.written l ((Vbaval.writes fr).take (limN (fr.length + 2) lim)))) (if limN (fr.length + 2) lim = 0 then hurt else hurt.set (n % slots.length) false) → FrB as hl H H' →
    Q (.bl (decide (fr.length + 2 ≤ limN (fr.length + 2) lim))) H'
theorem scRWrite : FnScope ["self", "number", "frame", "limit", "slot", "steps", "written", "place", "byte"] ["self", "number", "frame", "limit"] (defScope sRWrite) := ⟨rfl, rfl, rfl, by decide +kernel, rfl, by decide +kernel, by decide +kernel⟩
theorem d_rWrite (F : FunM K CR "write_frame" "Ring.write_frame" sRWrite) (T : Txt mg) (TR : TxtR K mg CR) : DefM P w K mg base CR "write_frame" 1 ["self", "number", "frame", "limit"] (spRWrite CR) := by
  obtain ⟨f, fd, F, hm⟩ := F
  refine ⟨f, fd, ?_, hm, F.binds fun _ _ _ _ _ _ us hl => match us, hl with | [_, _, _, _], _ => rfl⟩
  refine F.ok scRWrite (fun vs H Q E h => ?_) (fun cdv A outer s H vs Q E hr h => ?_)
  · obtain ⟨g, dg, sl, hl, as, len, slots, hurt, n, fa, fr, lim, l, rfl, _⟩ := h
    rfl
  · obtain ⟨g, dg, sl, hl, as, len, slots, hurt, n, fa, fr, lim, l, rfl, R, hall, hi, hll, hfl, hfa, k⟩ := h
    have nd := scRWrite.nd
    obtain ⟨tD, hD⟩ := TR.DONE
    have hlt := (List.getElem?_eq_some_iff.mp hi).1
    obtain ⟨a, ha⟩ : ∃ a, as[n % slots.length]? = some a := ⟨_, List.getElem?_eq_getElem (by rw [R.alen]; exact hlt)⟩
    refine ⟨_, pss_cons (ps_set (i := 4) nd rfl (Or.inl rfl) (pe_op op_mod (pv 1) (pe_fld (pv 0) rfl)))
      (pss_cons (ps_set (i := 5) nd rfl (Or.inl rfl) (pe_op op_cat (pe_op op_cat (pe_lst (pa_cons (pe_tup (pa_cons pe_int (pa_cons pe_int pa_nil))) pa_nil)) (pe_listEnum rfl rfl T.list rfl T.enumerate (pv 2)))
          (pe_lst (pa_cons (pe_tup (pa_cons pe_int (pa_cons (pe_glob (v := .int 165) rfl hD ⟨_, rfl⟩) pa_nil))) pa_nil))))
      (pss_cons (ps_set (i := 6) nd rfl (Or.inl rfl) (pe_ifExp (pt_cmpR op_isN (pv 3) pe_non (nomark _)) (pv 5) (pe_slice sl_list (pv 5) po_none (po_some (pv 3)))))
      (pss_cons (ps_for PassesOwn.never rfl (pi_list (pv 6)) (pg_pair (K := K) rfl rfl (pg_name (i := 7) nd rfl (Or.inl rfl) (Or.inr rfl)) (pg_name (i := 8) nd rfl (Or.inl rfl) (Or.inr rfl)))
        (pss_one (ps_asg (pv 8) (pg_sub (pe_ix ix_list (pe_fld (pv 0) rfl) (pv 4) (fun _ _ => rfl)) (pv 7) set_list))))
      (pss_cons (ps_if (pt_cmpR op_gt (pe_callB cr_len rfl T.len boot_len' (pa_cons (pv 6) pa_nil)) pe_int (nomark _)) (pss_one (ps_asg pe_bl (pg_sub (pe_fld (pv 0) rfl) (pv 4) set_list))) pss_nil)
      (pss_one (ps_ret (pe_cmpR op_eq (pe_callB cr_len rfl T.len boot_len' (pa_cons (pv 6) pa_nil)) (pe_callB cr_len rfl T.len boot_len' (pa_cons (pv 5) pa_nil)) (nomark _)))))))), ?_⟩
    have hmod : ((n : Nat) : Int) % ((slots.length : Nat) : Int) = ((n % slots.length : Nat) : Int) := by omega
    -- slot, steps
    refine ⟨_, rfl, _, rfl, g, CR, dg, _, _, rfl, R.obj, TR.cl, TR.nS, rfl, _, _, rfl, rfl, (by show (0 : Int) < (slots.length : Nat); omega), ?_⟩
    dsimp only
    rw [hmod]
    refine ⟨(by show 2 ≤ sizeLine; decide), fun t0 nt0 => ⟨(by show 1 ≤ sizeLine; decide), fun p1 np1 => ?_⟩⟩
    have s1 : Same H (upd (upd H t0 (.tup [.int 0, .int 0])) p1 (.lst [.ref t0])) := (Same.new nt0).and np1
    have et0 : (upd (upd H t0 (.tup [.int 0, .int 0])) p1 (.lst [.ref t0])) t0 = some (.tup [.int 0, .int 0]) := (Same.new np1) _ _ upd_same
    generalize hH1 : upd (upd H t0 (.tup [.int 0, .int 0])) p1 (.lst [.ref t0]) = H1 at s1 et0 ⊢
    have ep1 : H1 p1 = some (.lst [.ref t0]) := by rw [← hH1]; exact upd_same
    refine ⟨_, rfl, fa, _, rfl, SqL.of (s1 _ _ hfa), by rw [nv_length]; omega, fun H2 S Ts s2 nS eS hTl got => ?_⟩
    rw [nv_length] at hTl
    refine ⟨p1, S, _, _, rfl, rfl, s2 _ _ ep1, eS, ?_, fun p3 np3 => ?_⟩
    · rw [List.length_map, hTl, sizeLine_eq]
      show 1 + fr.length ≤ _
      omega
    refine ⟨(by show 2 ≤ sizeLine; decide), fun t4 nt4 => ⟨(by show 1 ≤ sizeLine; decide), fun p5 np5 => ?_⟩⟩
    have s3 : Same H2 (upd H2 p3 (.lst ([.ref t0] ++ Ts.map V.ref))) := Same.new np3
    generalize hH3 : upd H2 p3 (.lst ([.ref t0] ++ Ts.map V.ref)) = H3 at s3 nt4 np5 ⊢
    have e3 : H3 p3 = some (.lst ([.ref t0] ++ Ts.map V.ref)) := by rw [← hH3]; exact upd_same
    have s4 : Same H3 (upd (upd H3 t4 (.tup [.int 0, .int 165])) p5 (.lst [.ref t4])) := (Same.new nt4).and np5
    have et4 : (upd (upd H3 t4 (.tup [.int 0, .int 165])) p5 (.lst [.ref t4])) t4 = some (.tup [.int 0, .int 165]) := (Same.new np5) _ _ upd_same
    generalize hH5 : upd (upd H3 t4 (.tup [.int 0, .int 165])) p5 (.lst [.ref t4]) = H5 at s4 et4 ⊢
    have e5 : H5 p5 = some (.lst [.ref t4]) := by rw [← hH5]; exact upd_same
    refine ⟨p3, p5, _, _, rfl, rfl, s4 _ _ e3, e5, ?_, fun p6 np6 => ?_⟩
    · rw [List.length_append, List.length_map, hTl, sizeLine_eq]
      show 1 + fr.length + 1 ≤ _
      omega
    have s6 : Same H5 (upd H5 p6 (.lst ([.ref t0] ++ Ts.map V.ref ++ [.ref t4]))) := Same.new np6
    have e6 : (upd H5 p6 (.lst ([.ref t0] ++ Ts.map V.ref ++ [.ref t4]))) p6 = some (.lst (([t0] ++ Ts ++ [t4]).map V.ref)) := by
      rw [upd_same, List.map_append, List.map_append]
      rfl
    generalize upd H5 p6 (.lst ([.ref t0] ++ Ts.map V.ref ++ [.ref t4])) = H6 at s6 e6 ⊢
    have s06 : Same H H6 := s1.trans (s2.trans (s3.trans (s4.trans s6)))
    have PA : PairsAt H6 p6 (Vbaval.writes fr) := by
      refine ⟨[t0] ++ Ts ++ [t4], e6, ?_, fun j t x e1 e2 => ?_⟩
      · rw [List.length_append, List.length_append, hTl, FrM.writes_length]
        show 1 + fr.length + 1 = _
        omega
      · have ew : Vbaval.writes fr = [(0, 0)] ++ FrM.middle fr ++ [(0, Vbaval.DONE)] := FrM.writes_eq fr
        rw [ew] at e2
        rcases getElem?_app3 e1 with ⟨rfl, rfl⟩ | ⟨i, rfl, h1⟩ | ⟨rfl, rfl⟩
        · have e2' : ((0 : Nat), (0 : Nat)) = x := Option.some.inj e2
          subst e2'
          exact s6 _ _ (s4 _ _ (s3 _ _ (s2 _ _ et0)))
        · rcases getElem?_app3 e2 with ⟨q, _⟩ | ⟨i', q, h2⟩ | ⟨q, _⟩
          · omega
          · have : i' = i := by omega
            subst this
            have hi' : i' < fr.length := by have := (List.getElem?_eq_some_iff.mp h1).1; omega
            have hv : fr[i']? = some fr[i'] := List.getElem?_eq_getElem hi'
            rw [middle_get hv] at h2
            cases h2
            obtain ⟨_, g2⟩ := got i' t (.int (fr[i'] : Nat)) h1 (by rw [nv_get, hv]; rfl)
            have e8 : (1 : Int) + ((i' : Nat) : Int) = ((i' + 1 : Nat) : Int) := by omega
            rw [e8] at g2
            exact s6 _ _ (s4 _ _ (s3 _ _ g2))
          · have := (List.getElem?_eq_some_iff.mp h1).1
            rw [FrM.middle_length] at q
            omega
        · rcases getElem?_app3 e2 with ⟨q, _⟩ | ⟨i', q, h2⟩ | ⟨q, q2⟩
          · omega
          · have := (List.getElem?_eq_some_iff.mp h2).1
            rw [FrM.middle_length] at this
            omega
          · rw [q2]
            exact s6 _ _ et4
    clear got e3 e5 et4 et0 ep1
    obtain ⟨ts6, hp6, htl6, hat6⟩ := PA
    rw [FrM.writes_length] at htl6
    generalize hkk : limN (fr.length + 2) lim = kk at k
    have fin : ∀ (D : Ends) (σ7 : L2.St), σ7 = [some (.ref g), some (.int (n : Nat)), some (.ref fa), some (limV lim), some (.int ((n % slots.length : Nat) : Int)), some (.ref p6), none, none, none] →
        (∀ H7 pw, Same H6 H7 → PairsAt H7 pw ((Vbaval.writes fr).take kk) → D.nx [some (.ref g), some (.int (n : Nat)), some (.ref fa), some (limV lim), some (.int ((n % slots.length : Nat) : Int)), some (.ref p6), some (.ref pw), none, none] H7) →
        tAsg (tIf (tTest (tOp (fun x y H Q => y = .non ∧ Q (.bl (decide (x = .non))) H) (tVar 3) (tC .non))) (tVar 5) (tSl (rSlL K) (tVar 5) tNoPart (tPart (tVar 3)))) (gName 6) D σ7 H6 := by
      rintro D σ7 rfl hD
      cases lim with
      | none =>
        have hk' : kk = fr.length + 2 := hkk.symm
        refine ⟨_, rfl, rfl, _, rfl, _, rfl, hD H6 p6 (Same.refl _) ⟨ts6, hp6, ?_, fun j t x e1 e2 => ?_⟩⟩
        · rw [List.length_take, FrM.writes_length, htl6, hk', Nat.min_self]
        · rw [List.take_of_length_le (by rw [FrM.writes_length]; omega)] at e2
          exact hat6 j t x e1 e2
      | some q =>
        have hk' : kk = q := hkk.symm
        subst hk'
        refine ⟨_, rfl, rfl, _, rfl, _, rfl, _, rfl, _, rfl, p6, _, rfl, SqL.of hp6, fun p7 np7 => hD _ p7 (Same.new np7) ⟨ts6.take kk, ?_, ?_, fun j t x e1 e2 => ?_⟩⟩
        · rw [upd_same, cut_hi, List.map_take]
        · rw [List.length_take, List.length_take, FrM.writes_length, htl6]
        · have hj : j < kk := by
            have := (List.getElem?_eq_some_iff.mp e1).1
            rw [List.length_take] at this
            omega
          rw [List.getElem?_take_of_lt hj] at e1 e2
          exact (Same.new np7) _ _ (hat6 j t x e1 e2)
    refine fin _ _ rfl fun H7 pw s7 ⟨tw, hpw, htwl, hatw⟩ => ?_
    have s07 : Same H H7 := s06.trans s7
    have R7 := s07.ring R
    have hs0 : slots ≠ [] := fun q => by rw [q] at hlt; simp at hlt
    have hh0 : hurt ≠ [] := fun q => by
      have := R.hlen
      rw [q] at this
      exact hs0 (List.length_eq_zero_iff.mp this.symm)
    -- lists of references and pairs are not the ring's
    have apR : ∀ (c : Addr) (rs : List Addr), H7 c = some (.lst (rs.map V.ref)) → c ∉ as ∧ c ≠ hl := fun c rs e => by
      refine ⟨fun hc => ?_, fun hc => ?_⟩
      · obtain ⟨j, hj⟩ := List.getElem?_of_mem hc
        have hjl : j < slots.length := by rw [← R.alen]; exact (List.getElem?_eq_some_iff.mp hj).1
        have hA := R7.at_ j c _ hj (List.getElem?_eq_getElem hjl)
        rw [e] at hA
        exact lst_ne_ref (hall _ (List.getElem_mem hjl)) (Option.some.inj hA).symm
      · have := R7.hrt
        rw [← hc, e] at this
        exact bl_ne_ref hh0 (Option.some.inj this).symm
    have apT : ∀ (c : Addr) (xs : List V), H7 c = some (.tup xs) → c ∉ as ∧ c ≠ hl := fun c xs e => by
      refine ⟨fun hc => ?_, fun hc => ?_⟩
      · obtain ⟨j, hj⟩ := List.getElem?_of_mem hc
        have hjl : j < slots.length := by rw [← R.alen]; exact (List.getElem?_eq_some_iff.mp hj).1
        have hA := R7.at_ j c _ hj (List.getElem?_eq_getElem hjl)
        rw [e] at hA
        cases hA
      · have := R7.hrt
        rw [← hc, e] at this
        cases this
    have hp67 : H7 p6 = some (.lst (ts6.map V.ref)) := s7 _ _ hp6
    obtain ⟨aw1, aw2⟩ := apR pw tw hpw
    obtain ⟨a61, a62⟩ := apR p6 ts6 hp67
    have hln := hall l (List.mem_of_getElem? hi)
    have hwl : ∀ ws, Vbaval.written l ws ≠ [] := fun ws q => by
      have := congrArg List.length q
      rw [FrM.written_length] at this
      exact hln (List.length_eq_zero_iff.mp this)
    have setW : ∀ ws, (slots.set (n % slots.length) (Vbaval.written l ws))[n % slots.length]? = some (Vbaval.written l ws) := fun ws => List.getElem?_set_self hlt
    have allW : ∀ ws, ∀ m ∈ slots.set (n % slots.length) (Vbaval.written l ws), m ≠ [] := fun ws m hm' => by
      rcases List.mem_or_eq_of_mem_set hm' with h | h
      · exact hall m h
      · rw [h]; exact hwl ws
    have eR : (as.map V.ref)[n % slots.length]? = some (.ref a) := by rw [List.getElem?_map, ha]; rfl
    generalize hws : (Vbaval.writes fr).take kk = ws at htwl hatw k
    have hws_mem : ∀ x ∈ ws, x.1 < fr.length + 1 := fun x hx => writes_place (List.mem_of_mem_take (by rw [hws]; exact hx))
    have hws_len : ws.length = min kk (fr.length + 2) := by rw [← hws, List.length_take, FrM.writes_length]
    refine ⟨_, rfl, pw, rfl, ⟨_, SqL.of hpw⟩, for_gen (J := Itl K pw) ws.length (fun j σ H' => ∃ v7 v8 : Option V, σ = [some (.ref g), some (.int (n : Nat)), some (.ref fa), some (limV lim), some (.int ((n % slots.length : Nat) : Int)), some (.ref p6), some (.ref pw), v7, v8] ∧
        RingIs CR H' g dg sl hl as len (slots.set (n % slots.length) (Vbaval.written l (ws.take j))) hurt ∧ FrB as hl H7 H')
      ⟨none, none, rfl, ?_, FrB.of (Same.refl _)⟩ (fun j σ H' hj ⟨_, _, _, _, hF⟩ => list_go (SqL.of (hF _ _ hpw aw1 aw2)) (by rw [List.length_map]; omega)) (fun σ H' ⟨_, _, _, _, hF⟩ => list_stop (SqL.of (hF _ _ hpw aw1 aw2)) (by rw [List.length_map]; omega)) ?_ ?_⟩
    · have e0 : slots.set (n % slots.length) (Vbaval.written l (ws.take 0)) = slots := by
        show slots.set (n % slots.length) l = slots
        apply List.ext_getElem?
        intro j
        by_cases c : n % slots.length = j
        · subst c
          rw [List.getElem?_set_self hlt, hi]
        · rw [List.getElem?_set_ne c]
      rw [e0]
      exact R7
    · rintro j x σ H8 H' hj ⟨v7, v8, rfl, R8, hF⟩ hy
      obtain ⟨rfl, hx⟩ := hy
      obtain ⟨t, ht, rfl⟩ := ref_some (hx _ (SqL.of (hF _ _ hpw aw1 aw2)))
      obtain ⟨pb, hpb⟩ : ∃ pb, ws[j]? = some pb := ⟨_, List.getElem?_eq_getElem hj⟩
      have hT7 := hatw j t pb ht hpb
      obtain ⟨at1, at2⟩ := apT t _ hT7
      have hA8 := R8.at_ _ a _ ha (setW (ws.take j))
      have hpl : pb.1 < (Vbaval.written l (ws.take j)).length := by rw [FrM.written_length, hll]; exact hws_mem pb (List.mem_of_getElem? hpb)
      refine ⟨t, _, rfl, SqT.of (hF _ _ hT7 at1 at2), rfl, _, _, rfl, _, _, rfl, rfl, _, rfl, _, rfl, g, CR, dg, _, _, rfl, R8.obj, TR.cl, TR.nT, rfl, _, rfl, sl, _, _, _, rfl, rfl, SqL.of R8.lst, at_of (j := n % slots.length) rfl eR, _, rfl, a, _, _, pb.1, rfl, rfl, hA8, ixN_nat (by rw [nv_length]; exact hpl),
        some (.int (pb.1 : Nat)), some (.int (pb.2 : Nat)), rfl, ?_, hF.trans (FrB.slot (List.mem_of_getElem? ha))⟩
      have e9 : ws.take (j + 1) = ws.take j ++ [(pb.1, pb.2)] := by rw [List.take_add_one, hpb]; rfl
      rw [nv_set, e9, written_snoc]
      have := R8.setSlot (l' := (Vbaval.written l (ws.take j)).set pb.1 pb.2) ha (setW _) (hwl _)
      rw [List.set_set] at this
      exact this
    · rintro σ H8 ⟨v7, v8, rfl, R8, hF⟩
      rw [List.take_length] at R8
      have hF0 : FrB as hl H H8 := (FrB.of s07).trans hF
      have hpw8 := hF _ _ hpw aw1 aw2
      have hp68 := hF _ _ hp67 a61 a62
      have last : ∀ H9, FrB as hl H8 H9 → RingIs CR H9 g dg sl hl as len (slots.set (n % slots.length) (Vbaval.written l ws)) (if kk = 0 then hurt else hurt.set (n % slots.length) false) →
          H9 pw = some (.lst (tw.map V.ref)) → H9 p6 = some (.lst (ts6.map V.ref)) → Q (.bl (decide (V.int (((tw.map V.ref).length : Nat) : Int) = V.int (((ts6.map V.ref).length : Nat) : Int)))) H9 := fun H9 hF9 R9 _ _ => by
        have := k H9 R9 (hF0.trans hF9)
        have ed : decide (fr.length + 2 ≤ kk) = decide (V.int (((tw.map V.ref).length : Nat) : Int) = V.int (((ts6.map V.ref).length : Nat) : Int)) := by
          rw [dec_int, List.length_map, List.length_map, htwl, htl6, hws_len, Bool.eq_iff_iff, decide_eq_true_iff, beq_iff_eq]
          omega
        rw [ed] at this
        exact this
      refine ⟨_, rfl, pw, _, rfl, SqL.of hpw8, _, _, rfl, rfl, _, rfl, ite2 (fun c => ?_) (fun c => ?_)⟩
      · have hk0 : kk ≠ 0 := fun q => by
          have c1 := of_decide_eq_true c
          rw [List.length_map, htwl, hws_len, q] at c1
          simp at c1
        have R9 := R8.setHurt (allW ws) (fun q => by have := congrArg List.length q; rw [List.length_set, List.length_nil] at this; omega) (n % slots.length) false
        refine ⟨_, rfl, g, CR, dg, _, _, rfl, R8.obj, TR.cl, TR.nH, rfl, _, rfl, hl, _, _, n % slots.length, rfl, rfl, R8.hrt, ixN_nat (by rw [List.length_map, R.hlen]; exact hlt), ?_⟩
        rw [bl_set]
        have hpw9 : (upd H8 hl (.lst ((hurt.set (n % slots.length) false).map V.bl))) pw = some (.lst (tw.map V.ref)) := by rw [upd_ne aw2]; exact hpw8
        have hp69 : (upd H8 hl (.lst ((hurt.set (n % slots.length) false).map V.bl))) p6 = some (.lst (ts6.map V.ref)) := by rw [upd_ne a62]; exact hp68
        refine ⟨_, rfl, pw, _, rfl, SqL.of hpw9, _, rfl, p6, _, rfl, SqL.of hp69, rfl, last _ FrB.hurt ?_ hpw9 hp69⟩
        rw [if_neg hk0]
        exact R9
      · have hk0 : kk = 0 := by
          have c1 : ¬ (0 : Int) < (((tw.map V.ref).length : Nat) : Int) := fun q => c (decide_eq_true q)
          rw [List.length_map, htwl, hws_len] at c1
          omega
        refine ⟨_, rfl, pw, _, rfl, SqL.of hpw8, _, rfl, p6, _, rfl, SqL.of hp68, rfl, last H8 (FrB.of (Same.refl _)) ?_ hpw8 hp68⟩
        rw [if_pos hk0]
        exact R8
end
end Fr
namespace Fr
open PySem PySem.Spec PyProof.Rows L2
section
variable {P : Program} {w : World} {K : PySem.W.Frag} {mg : Str → Option Value} {base : Heap} {CR : Addr}
def spRInit (CR : Addr) : Sp := fun vs H Q _ => ∃ (g dg : Addr) (n len : Nat), vs = [.ref g, .int (n : Nat), .int (len : Nat)] ∧ H g = some (.ins CR dg []) ∧ n ≤ 16 ∧ len ≤ 16 ∧
  ∀ H' sl hl as, RingIs CR H' g dg sl hl as len (List.replicate n (List.replicate (len + 7) 0)) (List.replicate n false) → But g H H' → (∀ a ∈ as, H a = none) → H hl = none → Q .non H'
theorem scRInit : FnScope ["self", "size", "length", "slot"] ["self", "size", "length"] (defScope sRInit) := ⟨rfl, rfl, rfl, by decide +kernel, rfl, by decide +kernel, by decide +kernel⟩
theorem rep_flat {α : Type} (x : α) : ∀ k : Nat, (List.replicate k [x]).flatten = List.replicate k x
  | 0 => rfl
  | k + 1 => by rw [List.replicate_succ, List.flatten_cons, rep_flat x k, List.replicate_succ]; rfl
theorem nv_rep (k : Nat) : nv (List.replicate k 0) = List.replicate k (V.int 0) := by unfold nv; rw [List.map_replicate]; rfl
theorem d_rInit (F : FunC K mg CR "Ring" "Ring.__init__" sRInit) (T : Txt mg) (TR : TxtR K mg CR) : DefC P w K mg base CR "Ring" 1 ["self", "size", "length"] (spRInit CR) := by
  obtain ⟨f, fd, F, M, hm⟩ := F
  refine ⟨f, fd, ?_, M, hm, F.binds fun _ _ _ _ _ _ us hl => match us, hl with | [_, _, _], _ => rfl⟩
  refine F.ok scRInit (fun vs H Q E h => ?_) (fun cdv A outer s H vs Q E hr h => ?_)
  · obtain ⟨g, dg, n, len, rfl, _⟩ := h
    rfl
  · obtain ⟨g, dg, n, len, rfl, hg, hn, hl16, k⟩ := h
    have nd := scRInit.nd
    refine ⟨_, pss_cons (ps_fld (pv 0) (pv 1) rfl) (pss_cons (ps_fld (pv 0) (pv 2) rfl)
      (pss_cons (ps_fld (pv 0) (pe_lc rfl nd (pi_range1 rfl T.range (pa_cons (pv 1) pa_nil)) (blkOk_by (own := [("slot", 3)]) (by rfl)) (fun _ _ _ _ _ => pg_name (i := 3) nd rfl (Or.inl rfl) (Or.inr rfl)) (fun _ _ _ _ _ => pts_nil)
        (fun _ _ _ _ _ => pe_op op_rep (pe_lst (pa_cons pe_int pa_nil)) (pe_op op_add (pv 2) pe_int))) rfl)
      (pss_one (ps_fld (pv 0) (pe_op op_rep (pe_lst (pa_cons pe_bl pa_nil)) (pv 1)) rfl)))), ?_⟩
    refine ⟨_, rfl, _, rfl, g, CR, dg, _, rfl, hg, TR.cl, TR.nS, (by show 0 < 1000; decide), ?_⟩
    refine ⟨_, rfl, _, rfl, g, CR, dg, _, rfl, upd_same, TR.cl, TR.nL, (by show 1 < 1000; decide), ?_⟩
    rw [upd_upd]
    generalize hH1 : upd H g (.ins CR dg (putF "length" (.int (len : Nat)) (putF "size" (.int (n : Nat)) []))) = H1
    have hg1 : H1 g = some (.ins CR dg (fl [("size", .int (n : Nat)), ("length", .int (len : Nat))])) := by rw [← hH1]; exact upd_same
    have b1 : But g H H1 := by rw [← hH1]; exact But.upd
    refine ⟨_, rfl, _, rfl, by omega, by omega, fun D hD => lc_gen (J := Itr _ _) n (fun i acc H' => ∃ bs : List Addr, acc = bs.map V.ref ∧ bs.length = i ∧ bs.Nodup ∧ ∀ (j : Nat) (b : Addr), bs[j]? = some b → b ≠ D ∧ H1 b = none ∧ H' b = some (.lst (nv (List.replicate (len + 7) 0)))) hD
      (fun i H' hi hs => by show i < ((n : Nat) : Int).toNat; omega) (fun H' hs => by show ((n : Nat) : Int).toNat ≤ n; omega) ⟨[], rfl, rfl, List.nodup_nil, fun j b e => by simp at e⟩ ?_ ?_⟩
    · intro i x H2 H' acc hi hs hacc hln ⟨bs, ea, el, hnd, hR⟩ hy
      obtain ⟨rfl, rfl⟩ := hy
      refine ⟨rfl, (by show 1 ≤ sizeLine; decide), fun p1 n1 => ⟨_, rfl, _, _, rfl, rfl, p1, _, _, rfl, rfl, upd_same, by omega, by omega, ?_, fun p2 n2 => ?_⟩⟩
      · show 1 * ((len : Int) + 7).toNat ≤ sizeLine
        rw [sizeLine_eq]; omega
      · have s2 : Same H' (upd (upd H' p1 (.lst [.int 0])) p2 (.lst (List.replicate ((len : Int) + 7).toNat [V.int 0]).flatten)) := (Same.new n1).and n2
        have np2 : H' p2 = none := (Same.new n1).free n2
        have p2D : p2 ≠ D := fun q => by rw [q, hacc] at np2; cases np2
        refine lc_yes hD (by omega) hs hacc hln s2 ⟨bs ++ [p2], by rw [ea, List.map_append]; rfl, by rw [List.length_append, el]; rfl, ?_, fun j b e => ?_⟩
        · rw [List.nodup_append]
          refine ⟨hnd, by simp, fun c hc d hd => ?_⟩
          rw [List.mem_singleton.mp hd]
          obtain ⟨j, hj⟩ := List.getElem?_of_mem hc
          exact ne_of_none (hR j c hj).2.2 np2
        · by_cases hj : j < bs.length
          · rw [List.getElem?_append_left hj] at e
            obtain ⟨q1, q2, q3⟩ := hR j b e
            exact ⟨q1, q2, by rw [upd_ne q1]; exact s2 _ _ q3⟩
          · rw [List.getElem?_append_right (by omega)] at e
            have hj0 : j - bs.length = 0 := by
              by_cases q : j - bs.length = 0
              · exact q
              · rw [List.getElem?_eq_none (by show 1 ≤ j - bs.length; omega)] at e; cases e
            rw [hj0] at e
            have e' : p2 = b := Option.some.inj e
            subst e'
            refine ⟨p2D, hs.free np2, ?_⟩
            rw [upd_ne p2D, upd_same, rep_flat, nv_rep]
            have : ((len : Int) + 7).toNat = len + 7 := by omega
            rw [this]
    · intro H2 acc hln hs hacc ⟨bs, ea, el, hnd, hR⟩
      refine ⟨_, rfl, g, CR, dg, _, rfl, hs _ _ hg1, TR.cl, TR.nT, (by show 2 < 1000; decide), ?_⟩
      have Dg : D ≠ g := fun q => by rw [q, hg1] at hD; cases hD
      have bg : ∀ b ∈ bs, b ≠ g := fun b hb q => by
        obtain ⟨j, hj⟩ := List.getElem?_of_mem hb
        have := (hR j b hj).2.1
        rw [q, hg1] at this; cases this
      generalize hH3 : upd H2 g (.ins CR dg (putF "slots" (.ref D) (fl [("size", .int (n : Nat)), ("length", .int (len : Nat))]))) = H3
      have hg3 : H3 g = some (.ins CR dg (fl [("size", .int (n : Nat)), ("length", .int (len : Nat)), ("slots", .ref D)])) := by rw [← hH3]; exact upd_same
      have b3 : But g H2 H3 := by rw [← hH3]; exact But.upd
      refine ⟨(by show 1 ≤ sizeLine; decide), fun p4 n4 => ⟨_, rfl, p4, _, _, rfl, rfl, upd_same, by omega, by omega, ?_, fun p5 n5 => ?_⟩⟩
      · show 1 * ((n : Nat) : Int).toNat ≤ sizeLine
        rw [sizeLine_eq]; omega
      · have s5 : Same H3 (upd (upd H3 p4 (.lst [.bl false])) p5 (.lst (List.replicate ((n : Nat) : Int).toNat [V.bl false]).flatten)) := (Same.new n4).and n5
        have n5' : H3 p5 = none := (Same.new n4).free n5
        refine ⟨_, rfl, g, CR, dg, _, rfl, s5 _ _ hg3, TR.cl, TR.nH, (by show 3 < 1000; decide), ?_⟩
        have p5g : p5 ≠ g := fun q => by rw [q, hg3] at n5'; cases n5'
        have keep5 : ∀ b o, b ≠ g → H2 b = some o → (upd (upd (upd H3 p4 (.lst [.bl false])) p5 (.lst (List.replicate ((n : Nat) : Int).toNat [V.bl false]).flatten)) g (.ins CR dg (putF "hurt" (.ref p5) (fl [("size", .int (n : Nat)), ("length", .int (len : Nat)), ("slots", .ref D)])))) b = some o := fun b o hb e => by
          rw [upd_ne hb]
          exact s5 _ _ (b3 b o e hb)
        have back : ∀ b, b ≠ g → H3 b = none → H b = none := fun b hb e => by
          cases q : H b with
          | none => rfl
          | some o =>
            have := b3 b o (hs _ _ (b1 b o q hb)) hb
            rw [e] at this; cases this
        refine k _ D p5 bs ⟨?_, keep5 D _ Dg (by rw [hacc, ea]), hnd, by rw [el, List.length_replicate], fun i a l e1 e2 => ?_, ?_, by rw [List.length_replicate, List.length_replicate]⟩ (fun b o e hb => keep5 b o hb (hs _ _ (b1 b o e hb))) (fun b hb => ?_) (back p5 p5g n5')
        · rw [upd_same, List.length_replicate]
          rfl
        · have hin : i < n := by have := (List.getElem?_eq_some_iff.mp e1).1; omega
          rw [List.getElem?_replicate_of_lt hin] at e2
          cases e2
          exact keep5 a _ (bg a (List.mem_of_getElem? e1)) (hR i a e1).2.2
        · rw [upd_ne p5g, upd_same, rep_flat, Int.toNat_natCast, List.map_replicate]
        · obtain ⟨j, hj⟩ := List.getElem?_of_mem hb
          have h1 := (hR j b hj).2.1
          cases q : H b with
          | none => rfl
          | some o =>
            have := b1 b o q (bg b hb)
            rw [h1] at this; cases this
end
end Fr
namespace Fr
open PySem PySem.Spec PyProof.Rows L2
def hurtB (s : Vbaval.St) : List Bool := (List.range s.slots.length).map fun i => s.hurt.contains i
structure RA where
  r : Addr
  dr : Addr
  g : Addr
  dg : Addr
  sl : Addr
  hl : Addr
  pa : Addr
  as : List Addr
def recF (g pa : Addr) (s : Vbaval.St) : List (Str × V) := fl [("ring", .ref g), ("length", .int (s.len : Nat)), ("first", .int (s.first : Nat)), ("parameters", .ref pa), ("upcoming", .int (s.next : Nat)), ("cut_after", limV s.fuse),
  ("frames_recorded", .int (s.done : Nat)), ("powers_lost", .int (s.cuts : Nat)), ("bits_flipped", .int (s.flips : Nat))]
/-- the classes: the recorder's, the ring's, the parameters' -/
structure CC where
  r : Addr
  g : Addr
  p : Addr
structure RecIs (C : CC) (H : Hp) (a : RA) (s : Vbaval.St) : Prop where
  obj : H a.r = some (.ins C.r a.dr (recF a.g a.pa s))
  ring : RingIs C.g H a.g a.dg a.sl a.hl a.as s.len s.slots (hurtB s)
  par : ParsAt C.p H a.pa s.params
  ok : FrM.Ok s
theorem RecIs.grow {C : CC} {H H' : Hp} {a : RA} {s : Vbaval.St} (R : RecIs C H a s) (e : Same H H') : RecIs C H' a s := ⟨e _ _ R.obj, e.ring R.ring, e.pars R.par, R.ok⟩
/-- all but the recorder's own object, the slots' lists and the hurt list is as it was -/
def FrR (a : RA) (H H' : Hp) : Prop := ∀ c o, H c = some o → c ∉ a.as → c ≠ a.hl → c ≠ a.r → H' c = some o
theorem FrR.of {a : RA} {H H' : Hp} (s : Same H H') : FrR a H H' := fun c o e _ _ _ => s c o e
theorem FrR.trans {a : RA} {H H1 H2 : Hp} (x : FrR a H H1) (y : FrR a H1 H2) : FrR a H H2 := fun c o e h1 h2 h3 => y c o (x c o e h1 h2 h3) h1 h2 h3
theorem FrR.own {a : RA} {H : Hp} {o : HO} : FrR a H (upd H a.r o) := fun c u e _ _ h3 => by rw [upd_ne h3]; exact e
theorem FrR.ring {a : RA} {H H' : Hp} (s : FrB a.as a.hl H H') : FrR a H H' := fun c o e h1 h2 _ => s c o e h1 h2
/-- what a call answers, and the recorder behind it -/
def AnsR (C : CC) (H : Hp) (a : RA) (x : Vbaval.St × List Int) (Q : VK) : Prop := ∀ (H' : Hp) (p : Addr), RecIs C H' a x.1 → FrR a H H' → H p = none → H' p = some (.lst (iv x.2)) → Q (.ref p) H'
theorem AnsR.same {C : CC} {H : Hp} {a : RA} {s : Vbaval.St} {l : List Int} {Q : VK} (k : AnsR C H a (s, l) Q) (R : RecIs C H a s) : RetL H Q (iv l) := fun H' p s' np e => k H' p (R.grow s') (FrR.of s') np e
structure TxtRec (K : PySem.W.Frag) (C : Addr) : Prop where
  cl : Cls K C
  nG : NoAttr K C "ring"
  nL : NoAttr K C "length"
  nF : NoAttr K C "first"
  nP : NoAttr K C "parameters"
  nU : NoAttr K C "upcoming"
  nC : NoAttr K C "cut_after"
  nR : NoAttr K C "frames_recorded"
  nW : NoAttr K C "powers_lost"
  nB : NoAttr K C "bits_flipped"
section
variable {s : Vbaval.St}
theorem ok_slots (O : FrM.Ok s) : ∀ l ∈ s.slots, l.length = s.len + 7 ∧ ∀ b ∈ l, b < 256 := fun l h => ⟨O.slen l h, O.sby l h⟩
theorem ok_ne (O : FrM.Ok s) : ∀ l ∈ s.slots, l ≠ [] := fun l h q => by
  have := O.slen l h
  rw [q] at this
  simp at this
theorem ok_per (O : FrM.Ok s) : ∀ p ∈ s.params, 0 < p.period := fun p h => by
  have := (O.par p h).per
  omega
theorem goodL_facts (O : FrM.Ok s) {fs : List (List Nat)} (p : fs.Perm (goodL s.len s.slots (List.range s.slots.length))) : (∀ f ∈ fs, f.length = s.len + 6 ∧ ∀ b ∈ f, b < 256) ∧ fs.length ≤ 16 := by
  refine ⟨fun f hf => ?_, ?_⟩
  · obtain ⟨j, hj, e⟩ := List.mem_filterMap.mp (p.mem_iff.mp hf)
    have hj' : j < s.slots.length := List.mem_range.mp hj
    have hm : s.slots.getD j [] ∈ s.slots := by
      rw [List.getD_eq_getElem?_getD, List.getElem?_eq_getElem hj']
      exact List.getElem_mem hj'
    cases q : gd s.len s.slots.length j (s.slots.getD j []) with
    | none => rw [q] at e; cases e
    | some m =>
      rw [q] at e
      have e' : (s.slots.getD j []).drop 1 = f := Option.some.inj e
      rw [← e']
      refine ⟨?_, fun b hb => O.sby _ hm b (List.mem_of_mem_drop hb)⟩
      rw [List.length_drop, O.slen _ hm]
      omega
  · rw [p.length_eq]
    refine Nat.le_trans (List.length_filterMap_le ..) ?_
    rw [List.length_range]
    exact O.ns.2
theorem widths_len (O : FrM.Ok s) (n : Nat) : (Vbaval.widthsOf s.params n).length ≤ 12 := by
  have h1 : (Vbaval.widthsOf s.params n).length ≤ s.params.length := by
    rw [FrM.widthsOf_eq, List.length_map]
    exact List.length_filter_le ..
  exact Nat.le_trans h1 O.plen
theorem widths_mem (O : FrM.Ok s) (n : Nat) : ∀ x ∈ Vbaval.widthsOf s.params n, x ≤ 16 := fun x hx => by
  rw [FrM.widthsOf_eq] at hx
  obtain ⟨p, hp, rfl⟩ := List.mem_map.mp hx
  exact (O.par p (List.mem_filter.mp hp).1).w.2
theorem valuesOf_length : ∀ (ws l : List Nat), (Vbaval.valuesOf ws l).length = ws.length
  | [], _ => rfl
  | w :: ws, l => by
    show (_ :: Vbaval.valuesOf ws (l.drop w)).length = _
    rw [List.length_cons, List.length_cons, valuesOf_length ws]
theorem toldFrom_length {ts : List Vbaval.Told} : ∀ {m : Option Nat}, (∀ t ∈ ts, t.values.length ≤ 12) → (Vbaval.toldFrom m ts).length ≤ 15 * ts.length := by
  induction ts with
  | nil => intro m _; cases m <;> exact Nat.le_refl _
  | cons t ts ih =>
    intro m h
    have h1 := h t List.mem_cons_self
    have h2 := ih (m := some t.number) fun u hu => h u (List.mem_cons_of_mem _ hu)
    have e0 : (Vbaval.toldFrom m (t :: ts)).length = 2 + (1 + t.values.length + (Vbaval.toldFrom (some t.number) ts).length) := by
      have e1 : Vbaval.toldFrom m (t :: ts) = (t.number : Int) :: missV t.number m :: (Vbaval.listed (Vbaval.ints t.values) ++ Vbaval.toldFrom (some t.number) ts) := by cases m <;> rfl
      rw [e1, List.length_cons, List.length_cons, List.length_append]
      have e2 : (Vbaval.listed (Vbaval.ints t.values)).length = 1 + t.values.length := by
        unfold Vbaval.listed Vbaval.ints
        rw [List.length_cons, List.length_map]; omega
      omega
    rw [e0, List.length_cons]
    omega
theorem toldRows_length {ts : List Vbaval.Told} (h : ∀ t ∈ ts, t.values.length ≤ 12) : (Vbaval.toldRows ts).length ≤ 1 + 15 * ts.length := by
  have := toldFrom_length (m := none) h
  unfold Vbaval.toldRows
  rw [List.length_cons]
  omega
theorem toldOf_len (O : FrM.Ok s) (f : List Nat) : (toldOf s f).values.length ≤ 12 := by
  show (Vbaval.valuesOf _ _).length ≤ 12
  rw [valuesOf_length]
  exact widths_len O _
end
section
variable {P : Program} {w : World} {K : PySem.W.Frag} {mg : Str → Option Value} {base : Heap} {C : CC}
def spRecToldF (C : CC) : Sp := fun vs H Q _ => ∃ (a : RA) (s : Vbaval.St) (b : Addr) (f : List Nat), vs = [.ref a.r, .ref b] ∧ RecIs C H a s ∧ H b = some (.lst (nv f)) ∧ f.length = s.len + 6 ∧ (∀ x ∈ f, x < 256) ∧
  ∀ H' t v, Same H H' → H t = none → H v = none → H' t = some (.tup [.int (numF f : Nat), .ref v]) → H' v = some (.lst (nv (toldOf s f).values)) → Q (.ref t) H'
theorem scRecToldF : FnScope ["self", "frame", "number", "widths"] ["self", "frame"] (defScope sRecToldF) := ⟨rfl, rfl, rfl, by decide +kernel, rfl, by decide +kernel, by decide +kernel⟩
theorem d_recToldF (F : FunM K C.r "told_frame" "Recorder.told_frame" sRecToldF) (T : TxtRec K C.r) (DN : Def P w K mg base "frame_number" 1 ["frame"] (spNumber K)) (DW : Def P w K mg base "frame_widths" 3 ["parameters", "number"] (spWidths C.p)) (DV : Def P w K mg base "frame_values" 2 ["frame", "widths", "length"] (spValues K)) :
    DefM P w K mg base C.r "told_frame" 4 ["self", "frame"] (spRecToldF C) := by
  obtain ⟨f, fd, F, hm⟩ := F
  refine ⟨f, fd, ?_, hm, F.binds fun _ _ _ _ _ _ us hl => match us, hl with | [_, _], _ => rfl⟩
  refine F.ok scRecToldF (fun vs H Q E h => ?_) (fun cdv A outer s H vs Q E hr h => ?_)
  · obtain ⟨a, s, b, f, rfl, _⟩ := h
    rfl
  · obtain ⟨a, s, b, f, rfl, R, hB, hfl, hfb, k⟩ := h
    have nd := scRecToldF.nd
    have hr1 : Room 1 _ := hr.mono (by decide)
    have hr2 : Room 2 _ := hr.mono (by decide)
    have O := R.ok
    refine ⟨_, pss_cons (ps_set (i := 2) nd rfl (Or.inl rfl) (pe_fn DN hr1 rfl (pa_cons (pv 1) pa_nil)))
      (pss_cons (ps_set (i := 3) nd rfl (Or.inl rfl) (pe_fn DW hr rfl (pa_cons (pe_fld (pv 0) rfl) (pa_cons (pv 2) pa_nil))))
      (pss_one (ps_ret (pe_tup (pa_cons (pv 2) (pa_cons (pe_fn DV hr2 rfl (pa_cons (pv 1) (pa_cons (pv 3) (pa_cons (pe_fld (pv 0) rfl) pa_nil)))) pa_nil)))))), ?_⟩
    refine ⟨_, rfl, b, f, rfl, SqL.of hB, by omega, hfb, fun H1 s1 => ?_⟩
    have R1 := R.grow s1
    refine ⟨_, rfl, a.r, C.r, a.dr, _, _, rfl, R1.obj, T.cl, T.nP, rfl, _, rfl, a.pa, s.params, numF f, rfl, R1.par, ok_per O, by have := O.plen; omega, fun H2 p2 s2 n2 e2 => ?_⟩
    have R2 := R1.grow s2
    refine ⟨_, rfl, _, rfl, _, rfl, _, rfl, a.r, C.r, a.dr, _, _, rfl, R2.obj, T.cl, T.nL, rfl, b, p2, f, _, s.len, rfl, SqL.of ((s1.trans s2) _ _ hB), SqL.of e2, hfl, hfb, O.len.2, FrM.widthsOf_fit O.par O.fits _, by have := widths_len O (numF f); omega, fun H3 p3 s3 n3 e3 => ?_⟩
    refine ⟨(by show 2 ≤ sizeLine; decide), fun t nt => k _ t p3 ((s1.trans (s2.trans s3)).and nt) ((s1.trans (s2.trans s3)).free nt) ((s1.trans s2).free n3) upd_same ((Same.new nt) _ _ e3)⟩
def spRecTold (C : CC) : Sp := fun vs H Q _ => ∃ (a : RA) (s : Vbaval.St) (b : Addr) (fs : List (List Nat)), vs = [.ref a.r, .ref b] ∧ RecIs C H a s ∧ FramesAt H b fs ∧ (∀ f ∈ fs, f.length = s.len + 6 ∧ ∀ x ∈ f, x < 256) ∧ fs.length ≤ 10000 ∧
  RetL H Q (iv (Vbaval.toldRows (fs.map (toldOf s))))
theorem scRecTold : FnScope ["self", "frames", "frame"] ["self", "frames"] (defScope sRecTold) := ⟨rfl, rfl, rfl, by decide +kernel, rfl, by decide +kernel, by decide +kernel⟩
theorem d_recTold (F : FunM K C.r "told" "Recorder.told" sRecTold) (T : TxtRec K C.r) (DF : DefM P w K mg base C.r "told_frame" 4 ["self", "frame"] (spRecToldF C)) (DT : Def P w K mg base "frames_told" 1 ["frames"] spTold) :
    DefM P w K mg base C.r "told" 5 ["self", "frames"] (spRecTold C) := by
  obtain ⟨f, fd, F, hm⟩ := F
  refine ⟨f, fd, ?_, hm, F.binds fun _ _ _ _ _ _ us hl => match us, hl with | [_, _], _ => rfl⟩
  refine F.ok scRecTold (fun vs H Q E h => ?_) (fun cdv A outer s H vs Q E hr h => ?_)
  · obtain ⟨a, s, b, fs, rfl, _⟩ := h
    rfl
  · obtain ⟨a, s, b, fs, rfl, R, ⟨as, hA, hal, hat⟩, hf, hfl, k⟩ := h
    have nd := scRecTold.nd
    have hr1 : Room 1 _ := hr.mono (by decide)
    have O := R.ok
    refine ⟨_, pss_one (ps_ret (pe_fn DT hr1 rfl (pa_cons (pe_lc rfl nd (pi_list (pv 1)) (blkOk_by (own := [("frame", 2)]) (by rfl)) (fun _ _ _ _ _ => pg_name (i := 2) nd rfl (Or.inl rfl) (Or.inr rfl)) (fun _ _ _ _ _ => pts_nil)
      (fun _ _ _ _ _ => pe_mt (pv 0) T.cl DF hr (pa_cons (pv 2) pa_nil))) pa_nil))), ?_⟩
    refine ⟨_, rfl, b, rfl, ⟨_, SqL.of hA⟩, fun D hD => lc_gen (J := Itl K b) fs.length (fun i acc H' => ∃ ts : List (Addr × Addr), acc = ts.map (fun p => V.ref p.1) ∧ ts.length = i ∧ ∀ (j : Nat) (p : Addr × Addr) (f : List Nat), ts[j]? = some p → fs[j]? = some f →
        p.1 ≠ D ∧ p.2 ≠ D ∧ H' p.1 = some (.tup [.int (numF f : Nat), .ref p.2]) ∧ H' p.2 = some (.lst (nv (toldOf s f).values))) hD
      (fun i H' hi hs => list_go (SqL.of (hs _ _ hA)) (by rw [List.length_map]; omega)) (fun H' hs => list_stop (SqL.of (hs _ _ hA)) (by rw [List.length_map]; omega)) ⟨[], rfl, rfl, fun j p f e => by simp at e⟩ ?_ ?_⟩
    · intro i x H1 H' acc hi hs hacc hln ⟨ts, ea, el, hR⟩ hy
      obtain ⟨rfl, hx⟩ := hy
      obtain ⟨c, hc, rfl⟩ := ref_some (hx _ (SqL.of (hs _ _ hA)))
      obtain ⟨f, ef⟩ : ∃ f, fs[i]? = some f := ⟨_, List.getElem?_eq_getElem hi⟩
      have hcf := hat i c f hc ef
      obtain ⟨hf1, hf2⟩ := hf f (List.mem_of_getElem? ef)
      have R1 := R.grow hs
      refine ⟨rfl, _, rfl, a.r, a.dr, _, rfl, R1.obj, rfl, _, rfl, a, s, c, f, rfl, R1, hs _ _ hcf, hf1, hf2, fun H2 t v s2 nt nv_ et ev => ?_⟩
      have tD : t ≠ D := fun q => by rw [q, hacc] at nt; cases nt
      have vD : v ≠ D := fun q => by rw [q, hacc] at nv_; cases nv_
      refine lc_yes hD (by omega) hs hacc hln s2 ⟨ts ++ [(t, v)], by rw [ea, List.map_append]; rfl, by rw [List.length_append, el]; rfl, fun j p f' e1 e2 => ?_⟩
      by_cases hj : j < ts.length
      · rw [List.getElem?_append_left hj] at e1
        obtain ⟨q1, q2, q3, q4⟩ := hR j p f' e1 e2
        exact ⟨q1, q2, by rw [upd_ne q1]; exact s2 _ _ q3, by rw [upd_ne q2]; exact s2 _ _ q4⟩
      · rw [List.getElem?_append_right (by omega)] at e1
        have hj0 : j - ts.length = 0 := by
          by_cases q : j - ts.length = 0
          · exact q
          · rw [List.getElem?_eq_none (by show 1 ≤ j - ts.length; omega)] at e1; cases e1
        rw [hj0] at e1
        have e1' : (t, v) = p := Option.some.inj e1
        subst e1'
        have hji : j = i := by omega
        rw [hji, ef] at e2
        cases e2
        exact ⟨tD, vD, by rw [upd_ne tD]; exact et, by rw [upd_ne vD]; exact ev⟩
    · intro H' acc hln hs hacc ⟨ts, ea, el, hR⟩
      have hsz := toldRows_length (ts := fs.map (toldOf s)) fun t ht => by
        obtain ⟨f, _, rfl⟩ := List.mem_map.mp ht
        exact toldOf_len O f
      rw [List.length_map] at hsz
      refine ⟨D, fs.map (toldOf s), rfl, ⟨ts, by rw [hacc, ea], by rw [el, List.length_map], fun i p t e1 e2 => ?_⟩, by omega, fun H2 p2 s2 n2 e2 => k H2 p2 (hs.trans s2) (hs.free n2) e2⟩
      rw [List.getElem?_map] at e2
      cases q : fs[i]? with
      | none => rw [q] at e2; cases e2
      | some f =>
        rw [q] at e2
        have e2' : toldOf s f = t := Option.some.inj e2
        subst e2'
        exact ⟨(hR i p f e1 q).2.2.1, (hR i p f e1 q).2.2.2⟩
def spRecFound (C : CC) : Sp := fun vs H Q _ => ∃ (a : RA) (s : Vbaval.St), vs = [.ref a.r] ∧ RecIs C H a s ∧ ∀ H', Same H H' → Q (.int (Vbaval.found s : Nat)) H'
theorem scRecFound : FnScope ["self", "frames"] ["self"] (defScope sRecFound) := ⟨rfl, rfl, rfl, by decide +kernel, rfl, by decide +kernel, by decide +kernel⟩
theorem d_recFound (F : FunM K C.r "found" "Recorder.found" sRecFound) (T : TxtRec K C.r) (TR : TxtR K mg C.g) (DG : DefM P w K mg base C.g "good_frames" 5 ["self"] (spRFrames C.g)) (DN : Def P w K mg base "frame_number" 1 ["frame"] (spNumber K)) :
    DefM P w K mg base C.r "found" 6 ["self"] (spRecFound C) := by
  obtain ⟨f, fd, F, hm⟩ := F
  refine ⟨f, fd, ?_, hm, F.binds fun _ _ _ _ _ _ us hl => match us, hl with | [_], _ => rfl⟩
  refine F.ok scRecFound (fun vs H Q E h => ?_) (fun cdv A outer s H vs Q E hr h => ?_)
  · obtain ⟨a, s, rfl, _⟩ := h
    rfl
  · obtain ⟨a, s, rfl, R, k⟩ := h
    have nd := scRecFound.nd
    have hr1 : Room 1 _ := hr.mono (by decide)
    have O := R.ok
    refine ⟨_, pss_cons (ps_set (i := 1) nd rfl (Or.inl rfl) (pe_mt0 (pe_fld (pv 0) rfl) TR.cl DG hr))
      (pss_one (ps_ret (pe_ifExp (pt_truth (pv 1) (fun _ => rfl)) (pe_op op_add (pe_fn DN hr1 rfl (pa_cons (pe_ix ix_list (pv 1) (pe_un un_neg pe_int) (fun _ _ => rfl)) pa_nil)) pe_int) (pe_fld (pv 0) rfl)))), ?_⟩
    refine ⟨_, rfl, a.r, C.r, a.dr, _, _, rfl, R.obj, T.cl, T.nG, rfl, a.g, a.dg, _, rfl, R.ring.obj, rfl, a.g, a.dg, a.sl, a.hl, a.as, s.len, s.slots, hurtB s, rfl, R.ring, ok_slots O, O.len.2, O.ns.2, fun H1 p fs s1 ⟨as, hA, hal, hat⟩ hp hs => ?_⟩
    obtain ⟨hf1, hf2⟩ := goodL_facts O hp
    refine ⟨_, rfl, _, .inl ⟨_, SqL.of hA, rfl⟩, ite2 (fun c => ?_) (fun c => ?_)⟩
    · have has : as ≠ [] := fun q => by rw [q] at c; cases c
      have hfs : fs ≠ [] := fun q => by
        rw [q] at hal
        exact has (List.length_eq_zero_iff.mp hal)
      obtain ⟨as', x, rfl⟩ : ∃ as' x, as = as' ++ [x] := ⟨as.dropLast, as.getLast has, (List.dropLast_concat_getLast has).symm⟩
      obtain ⟨fs', y, rfl⟩ : ∃ fs' y, fs = fs' ++ [y] := ⟨fs.dropLast, fs.getLast hfs, (List.dropLast_concat_getLast hfs).symm⟩
      have hl' : as'.length = fs'.length := by
        rw [List.length_append, List.length_append] at hal
        exact Nat.add_right_cancel hal
      have hx := hat as'.length x y (by simp) (by rw [hl']; simp)
      obtain ⟨hy1, hy2⟩ := hf1 y (by simp)
      refine ⟨_, rfl, _, rfl, p, _, _, _, rfl, rfl, SqL.of hA, ?_, x, y, rfl, SqL.of hx, by omega, hy2, fun H2 s2 => ⟨_, _, rfl, rfl, ?_⟩⟩
      · rw [List.map_append]
        exact atI_last _ _
      · have hk := k H2 (s1.trans s2)
        rw [found_last O hp hs (List.getLast?_concat ..)] at hk
        exact hk
    · have has : as = [] := by
        cases as with
        | nil => rfl
        | cons x as => exact absurd rfl c
      have hfs : fs = [] := by
        rw [has] at hal
        exact List.length_eq_zero_iff.mp hal.symm
      have hk := k H1 s1
      rw [found_nil O hp hfs] at hk
      exact ⟨_, rfl, a.r, C.r, a.dr, _, _, rfl, (R.grow s1).obj, T.cl, T.nF, rfl, hk⟩
end
end Fr
namespace Fr
open PySem PySem.Spec PyProof.Rows L2
theorem RingIs.put {CR : Addr} {H : Hp} {g dg sl hl : Addr} {as : List Addr} {len : Nat} {slots : List (List Nat)} {hurt : List Bool} (R : RingIs CR H g dg sl hl as len slots hurt) {c : Addr} {o : HO} (n1 : g ≠ c) (n2 : ∀ xs, H c ≠ some (.lst xs)) : RingIs CR (upd H c o) g dg sl hl as len slots hurt := by
  have nl : ∀ x xs, H x = some (.lst xs) → x ≠ c := fun x xs e q => n2 xs (by rw [← q]; exact e)
  exact ⟨by rw [upd_ne n1]; exact R.obj, by rw [upd_ne (nl _ _ R.lst)]; exact R.lst, R.nd, R.alen, fun i a l e1 e2 => by rw [upd_ne (nl _ _ (R.at_ i a l e1 e2))]; exact R.at_ i a l e1 e2, by rw [upd_ne (nl _ _ R.hrt)]; exact R.hrt, R.hlen⟩
theorem pars_put {C : Addr} {H : Hp} {a : Addr} {ps : List Vbaval.Param} (h : ParsAt C H a ps) {c : Addr} {o : HO} (n2 : ∀ xs, H c ≠ some (.lst xs)) (n3 : ∀ dx p, H c ≠ some (.ins C dx (pf p))) : ParsAt C (upd H c o) a ps := by
  obtain ⟨as, h1, h2, h3⟩ := h
  refine ⟨as, by rw [upd_ne (fun q => n2 _ (by rw [← q]; exact h1))]; exact h1, h2, fun i b p e1 e2 => ?_⟩
  obtain ⟨dx, e⟩ := h3 i b p e1 e2
  exact ⟨dx, by rw [upd_ne (fun q => n3 dx p (by rw [← q]; exact e))]; exact e⟩
section
variable {C : CC} {H : Hp} {a : RA} {s : Vbaval.St}
theorem RecIs.nl (R : RecIs C H a s) : ∀ xs, H a.r ≠ some (.lst xs) := fun xs e => by rw [R.obj] at e; cases e
theorem RecIs.ng (R : RecIs C H a s) : a.g ≠ a.r := ne_of R.ring.obj R.obj fun e => by
  have e' := (HO.ins.inj e).2.2
  have := congrArg List.length e'
  exact absurd this (by show ¬ (4 : Nat) = 9; decide)
theorem RecIs.np (R : RecIs C H a s) : ∀ dx p, H a.r ≠ some (.ins C.p dx (pf p)) := fun dx p e => by
  rw [R.obj] at e
  have e' := (HO.ins.inj (Option.some.inj e)).2.2
  have := congrArg List.length e'
  exact absurd this (by show ¬ (9 : Nat) = 3; decide)
/-- the recorder's own object is written anew -/
theorem RecIs.own (R : RecIs C H a s) {t : Vbaval.St} (h1 : t.slots = s.slots) (h2 : t.len = s.len) (h3 : t.hurt = s.hurt) (h4 : t.params = s.params) (O : FrM.Ok t) : RecIs C (upd H a.r (.ins C.r a.dr (recF a.g a.pa t))) a t := by
  refine ⟨upd_same, ?_, by rw [h4]; exact pars_put R.par R.nl R.np, O⟩
  have : hurtB t = hurtB s := by unfold hurtB; rw [h1, h3]
  rw [h1, h2, this]
  exact R.ring.put R.ng R.nl
end
theorem upd_free {H : Hp} {a p : Addr} {o : HO} (h : (upd H a o) p = none) : H p = none := by
  by_cases q : p = a
  · rw [q, upd_same] at h; cases h
  · rw [upd_ne q] at h; exact h
/-- a list of references, or no list, is apart from what a ring writes on -/
theorem ring_apart {CR : Addr} {H : Hp} {g dg sl hl : Addr} {as : List Addr} {len : Nat} {slots : List (List Nat)} {hurt : List Bool} (R : RingIs CR H g dg sl hl as len slots hurt) (hall : ∀ l ∈ slots, l ≠ []) (hs : slots ≠ []) {c : Addr} {o : HO} (e : H c = some o)
    (h : (∃ rs : List Addr, o = .lst (rs.map V.ref)) ∨ (∀ xs, o ≠ .lst xs)) : c ∉ as ∧ c ≠ hl := by
  have hh0 : hurt ≠ [] := fun q => by
    have := R.hlen
    rw [q] at this
    exact hs (List.length_eq_zero_iff.mp this.symm)
  refine ⟨fun hc => ?_, fun hc => ?_⟩
  · obtain ⟨j, hj⟩ := List.getElem?_of_mem hc
    have hjl : j < slots.length := by rw [← R.alen]; exact (List.getElem?_eq_some_iff.mp hj).1
    have hA := R.at_ j c _ hj (List.getElem?_eq_getElem hjl)
    rw [e] at hA
    have hA' := Option.some.inj hA
    rcases h with ⟨rs, q⟩ | q
    · rw [q] at hA'
      exact lst_ne_ref (hall _ (List.getElem_mem hjl)) hA'.symm
    · exact q _ hA'
  · have hA := R.hrt
    rw [← hc, e] at hA
    have hA' := Option.some.inj hA
    rcases h with ⟨rs, q⟩ | q
    · rw [q] at hA'
      exact bl_ne_ref hh0 hA'.symm
    · exact q _ hA'
theorem ring_pars {CR C : Addr} {H H' : Hp} {g dg sl hl : Addr} {as : List Addr} {len : Nat} {slots : List (List Nat)} {hurt : List Bool} (R : RingIs CR H g dg sl hl as len slots hurt) (hall : ∀ l ∈ slots, l ≠ []) (hs : slots ≠ []) (f : FrB as hl H H') {pa : Addr} {ps : List Vbaval.Param} (h : ParsAt C H pa ps) : ParsAt C H' pa ps := by
  obtain ⟨bs, h1, h2, h3⟩ := h
  have a1 := ring_apart R hall hs h1 (.inl ⟨_, rfl⟩)
  refine ⟨bs, f _ _ h1 a1.1 a1.2, h2, fun i b p e1 e2 => ?_⟩
  obtain ⟨dx, e⟩ := h3 i b p e1 e2
  have a2 := ring_apart R hall hs e (.inr fun xs q => by cases q)
  exact ⟨dx, f _ _ e a2.1 a2.2⟩
theorem wrote_free {CR : Addr} {H H1 : Hp} {g dg sl hl : Addr} {as : List Addr} {len len1 : Nat} {slots slots1 : List (List Nat)} {hurt hurt1 : List Bool} (R : RingIs CR H g dg sl hl as len slots hurt) (f : FrB as hl H H1) (G : RingIs CR H1 g dg sl hl as len1 slots1 hurt1) {p : Addr} (h : H1 p = none) : H p = none := by
  cases e : H p with
  | none => rfl
  | some o =>
    exfalso
    by_cases c1 : p ∈ as
    · obtain ⟨j, hj⟩ := List.getElem?_of_mem c1
      have hjl : j < slots1.length := by rw [← G.alen]; exact (List.getElem?_eq_some_iff.mp hj).1
      have := G.at_ j p _ hj (List.getElem?_eq_getElem hjl)
      rw [h] at this; cases this
    · by_cases c2 : p = hl
      · have := G.hrt
        rw [← c2, h] at this; cases this
      · have := f p o e c1 c2
        rw [h] at this; cases this
theorem ok_nil {s : Vbaval.St} (O : FrM.Ok s) : s.slots ≠ [] := fun q => by
  have := O.ns.1
  rw [q] at this
  exact absurd this (by decide)
/-- the ring was written on; the recorder's own object then -/
theorem RecIs.wrote {C : CC} {H H1 : Hp} {a : RA} {s t : Vbaval.St} (R : RecIs C H a s) (f : FrB a.as a.hl H H1) (G : RingIs C.g H1 a.g a.dg a.sl a.hl a.as t.len t.slots (hurtB t)) (h4 : t.params = s.params) (O : FrM.Ok t) :
    H1 a.r = some (.ins C.r a.dr (recF a.g a.pa s)) ∧ RecIs C (upd H1 a.r (.ins C.r a.dr (recF a.g a.pa t))) a t := by
  have ap := ring_apart R.ring (ok_ne R.ok) (ok_nil R.ok) R.obj (.inr fun xs q => by cases q)
  have obj1 := f _ _ R.obj ap.1 ap.2
  have hg := ring_apart R.ring (ok_ne R.ok) (ok_nil R.ok) R.ring.obj (.inr fun xs q => by cases q)
  refine ⟨obj1, upd_same, G.put R.ng (fun xs e => by rw [obj1] at e; cases e), ?_, O⟩
  rw [h4]
  refine pars_put (ring_pars R.ring (ok_ne R.ok) (ok_nil R.ok) f R.par) (fun xs e => by rw [obj1] at e; cases e) (fun dx p e => ?_)
  rw [obj1] at e
  have e' := (HO.ins.inj (Option.some.inj e)).2.2
  have := congrArg List.length e'
  exact absurd this (by show ¬ (9 : Nat) = 3; decide)
theorem act_restart {s : Vbaval.St} (O : FrM.Ok s) : Vbaval.act s .restart = ({ s with next := Vbaval.found s, fuse := none }, [(Vbaval.found s : Int)]) := by
  exact if_neg (fun e => by rw [O.laid] at e; cases e)
theorem act_cut {s : Vbaval.St} (O : FrM.Ok s) (k : Int) : Vbaval.act s (.cut k) = if Vbaval.within k 0 1000 = false then (s, [-1]) else ({ s with fuse := some k.toNat }, [0]) := by
  exact if_neg (fun e => by rw [O.laid] at e; cases e)
theorem act_flip {s : Vbaval.St} (O : FrM.Ok s) (i b k : Int) : Vbaval.act s (.flip i b k) = if (Vbaval.within i 0 ((s.slots.length : Int) - 1) && (Vbaval.within b 0 ((s.len : Int) + 6) && Vbaval.within k 0 7)) = false then (s, [-1])
    else if s.hurt.contains i.toNat = true then (s, [-5]) else (FrM.flipped s i.toNat b.toNat k.toNat, [0]) := by
  exact if_neg (fun e => by rw [O.laid] at e; cases e)
theorem hurtB_get (s : Vbaval.St) {i : Nat} (h : i < s.slots.length) : (hurtB s)[i]? = some (s.hurt.contains i) := by
  unfold hurtB
  rw [List.getElem?_map, List.getElem?_range h]
  rfl
theorem hurtB_len (s : Vbaval.St) : (hurtB s).length = s.slots.length := by
  unfold hurtB
  rw [List.length_map, List.length_range]
theorem hurtB_flip (s : Vbaval.St) {i b k : Nat} (h : i < s.slots.length) : hurtB (FrM.flipped s i b k) = (hurtB s).set i true := by
  have hl : (FrM.flipped s i b k).slots.length = s.slots.length := List.length_set ..
  apply List.ext_getElem?
  intro j
  by_cases hj : j < s.slots.length
  · rw [hurtB_get _ (by rw [hl]; exact hj)]
    have hc : (FrM.flipped s i b k).hurt.contains j = (s.hurt.contains j || j == i) := by
      show (s.hurt ++ [i]).contains j = _
      rw [Bool.eq_iff_iff, Bool.or_eq_true, List.contains_iff_mem, List.contains_iff_mem, List.mem_append, List.mem_singleton, beq_iff_eq]
    rw [hc]
    by_cases q : i = j
    · subst q
      rw [List.getElem?_set_self (by rw [hurtB_len]; exact hj), beq_self_eq_true, Bool.or_true]
    · rw [List.getElem?_set_ne q, hurtB_get _ hj, beq_false_of_ne (Ne.symm q), Bool.or_false]
  · rw [List.getElem?_eq_none (by rw [hurtB_len, hl]; omega), List.getElem?_eq_none (by rw [List.length_set, hurtB_len]; omega)]
section
variable {P : Program} {w : World} {K : PySem.W.Frag} {mg : Str → Option Value} {base : Heap} {C : CC}
def spRecRestart (C : CC) : Sp := fun vs H Q _ => ∃ (a : RA) (s : Vbaval.St), vs = [.ref a.r] ∧ RecIs C H a s ∧ AnsR C H a (Vbaval.act s .restart) Q
theorem scRecRestart : FnScope ["self"] ["self"] (defScope sRecRestart) := ⟨rfl, rfl, rfl, by decide +kernel, rfl, by decide +kernel, by decide +kernel⟩
theorem d_recRestart (F : FunM K C.r "restart" "Recorder.restart" sRecRestart) (T : TxtRec K C.r) (DF : DefM P w K mg base C.r "found" 6 ["self"] (spRecFound C)) : DefM P w K mg base C.r "restart" 7 ["self"] (spRecRestart C) := by
  obtain ⟨f, fd, F, hm⟩ := F
  refine ⟨f, fd, ?_, hm, F.binds fun _ _ _ _ _ _ us hl => match us, hl with | [_], _ => rfl⟩
  refine F.ok scRecRestart (fun vs H Q E h => ?_) (fun cdv A outer s H vs Q E hr h => ?_)
  · obtain ⟨a, s, rfl, _⟩ := h
    rfl
  · obtain ⟨a, s, rfl, R, k⟩ := h
    have O := R.ok
    rw [act_restart O] at k
    refine ⟨_, pss_cons (ps_fld (pv 0) (pe_mt0 (pv 0) T.cl DF hr) rfl) (pss_cons (ps_fld (pv 0) pe_non rfl) (pss_one (ps_ret (pe_lst (pa_cons (pe_fld (pv 0) rfl) pa_nil))))), ?_⟩
    refine ⟨_, rfl, a.r, a.dr, _, rfl, R.obj, rfl, a, s, rfl, R, fun H1 s1 => ?_⟩
    have R1 := R.grow s1
    refine ⟨_, rfl, a.r, C.r, a.dr, _, rfl, R1.obj, T.cl, T.nU, (by show 9 < 1000; decide), ?_⟩
    refine ⟨_, rfl, a.r, C.r, a.dr, _, rfl, upd_same, T.cl, T.nC, (by show 9 < 1000; decide), ?_⟩
    rw [upd_upd]
    have R2 := R1.own (t := { s with next := Vbaval.found s, fuse := none }) rfl rfl rfl rfl O.restart
    refine ⟨_, rfl, a.r, C.r, a.dr, _, _, rfl, R2.obj, T.cl, T.nU, rfl, (by show 1 ≤ sizeLine; decide), fun p np => ?_⟩
    exact k _ p (R2.grow (Same.new np)) ((FrR.of s1).trans (FrR.own.trans (FrR.of (Same.new np)))) (s1.free (upd_free np)) upd_same
def spRecCut (C : CC) : Sp := fun vs H Q _ => ∃ (a : RA) (s : Vbaval.St) (k : Int), vs = [.ref a.r, .int k] ∧ RecIs C H a s ∧ AnsR C H a (Vbaval.act s (.cut k)) Q
theorem scRecCut : FnScope ["self", "limit"] ["self", "limit"] (defScope sRecCut) := ⟨rfl, rfl, rfl, by decide +kernel, rfl, by decide +kernel, by decide +kernel⟩
theorem d_recCut (F : FunM K C.r "cut" "Recorder.cut" sRecCut) (T : TxtRec K C.r) (TC : TxtC mg) : DefM P w K mg base C.r "cut" 1 ["self", "limit"] (spRecCut C) := by
  obtain ⟨f, fd, F, hm⟩ := F
  refine ⟨f, fd, ?_, hm, F.binds fun _ _ _ _ _ _ us hl => match us, hl with | [_, _], _ => rfl⟩
  refine F.ok scRecCut (fun vs H Q E h => ?_) (fun cdv A outer s H vs Q E hr h => ?_)
  · obtain ⟨a, s, k, rfl, _⟩ := h
    rfl
  · obtain ⟨a, s, z, rfl, R, k⟩ := h
    have O := R.ok
    obtain ⟨tO, hO⟩ := TC.OUT_OF_RANGE
    rw [act_cut O] at k
    refine ⟨_, pss_cons (ps_if (pt_not (pt_chain op_le op_le pe_int (pv 1) pe_int)) (pss_one (ps_ret (pe_lst (pa_cons (pe_glob (v := .int (-1)) rfl hO ⟨_, rfl⟩) pa_nil)))) pss_nil)
      (pss_cons (ps_fld (pv 0) (pv 1) rfl) (pss_one (ps_ret (pe_lst (pa_cons pe_int pa_nil))))), ?_⟩
    refine ⟨_, rfl, chain_b (p := fun i j => decide (i ≤ j)) (q := fun i j => decide (i ≤ j)) (fun _ h => h) ⟨_, rfl, ite2 (fun c => ?_) (fun c => ?_)⟩⟩
    · have c' : Vbaval.within z 0 1000 = false := (Bool.not_eq_true' _).mp c
      rw [if_pos c'] at k
      exact ⟨(by show 1 ≤ sizeLine; decide), fun p np => k.same R _ p (Same.new np) np upd_same⟩
    · have c' : ¬ Vbaval.within z 0 1000 = false := by simpa [Vbaval.within] using c
      rw [if_neg c'] at k
      have hw := FrM.within_iff.mp ((Bool.not_eq_false _).mp c')
      refine ⟨_, rfl, _, rfl, a.r, C.r, a.dr, _, rfl, R.obj, T.cl, T.nC, (by show 9 < 1000; decide), ?_⟩
      have R2 := R.own (t := { s with fuse := some z.toNat }) rfl rfl rfl rfl (O.cut (by omega))
      have e1 : putF "cut_after" (.int z) (recF a.g a.pa s) = recF a.g a.pa { s with fuse := some z.toNat } := by
        show putF "cut_after" (.int z) (recF a.g a.pa s) = putF "cut_after" (.int (z.toNat : Int)) (recF a.g a.pa s)
        rw [Int.toNat_of_nonneg hw.1]
      rw [e1]
      exact ⟨(by show 1 ≤ sizeLine; decide), fun p np => k _ p (R2.grow (Same.new np)) (FrR.own.trans (FrR.of (Same.new np))) (upd_free np) upd_same⟩
def spRecFlip (C : CC) : Sp := fun vs H Q _ => ∃ (a : RA) (s : Vbaval.St) (i b k : Int), vs = [.ref a.r, .int i, .int b, .int k] ∧ RecIs C H a s ∧ AnsR C H a (Vbaval.act s (.flip i b k)) Q
theorem scRecFlip : FnScope ["self", "slot", "place", "bit"] ["self", "slot", "place", "bit"] (defScope sRecFlip) := ⟨rfl, rfl, rfl, by decide +kernel, rfl, by decide +kernel, by decide +kernel⟩
theorem d_recFlip (F : FunM K C.r "flip" "Recorder.flip" sRecFlip) (T : TxtRec K C.r) (TR : TxtR K mg C.g) (TC : TxtC mg) (DF : DefM P w K mg base C.g "flip_bit" 1 ["self", "slot", "place", "bit"] (spRFlip C.g)) : DefM P w K mg base C.r "flip" 2 ["self", "slot", "place", "bit"] (spRecFlip C) := by
  obtain ⟨f, fd, F, hm⟩ := F
  refine ⟨f, fd, ?_, hm, F.binds fun _ _ _ _ _ _ us hl => match us, hl with | [_, _, _, _], _ => rfl⟩
  refine F.ok scRecFlip (fun vs H Q E h => ?_) (fun cdv A outer s H vs Q E hr h => ?_)
  · obtain ⟨a, s, i, b, k, rfl, _⟩ := h
    rfl
  · obtain ⟨a, s, i, b, z, rfl, R, k⟩ := h
    have O := R.ok
    obtain ⟨tO, hO⟩ := TC.OUT_OF_RANGE
    obtain ⟨tS, hS⟩ := TC.SLOT_HURT
    rw [act_flip O] at k
    refine ⟨_, pss_cons (ps_if (pt_not (PW.pt (pw_and (pt_chain op_le op_lt pe_int (pv 1) (pe_fld (pe_fld (pv 0) rfl) rfl)) (pw_and (pt_chain op_le op_le pe_int (pv 2) (pe_op op_add (pe_fld (pv 0) rfl) pe_int)) (pw_and1 (pt_chain op_le op_le pe_int (pv 3) pe_int))))))
        (pss_one (ps_ret (pe_lst (pa_cons (pe_glob (v := .int (-1)) rfl hO ⟨_, rfl⟩) pa_nil)))) pss_nil)
      (pss_cons (ps_if (pt_val (pe_ix ix_list (pe_fld (pe_fld (pv 0) rfl) rfl) (pv 1) (fun _ _ => rfl))) (pss_one (ps_ret (pe_lst (pa_cons (pe_glob (v := .int (-5)) rfl hS ⟨_, rfl⟩) pa_nil)))) pss_nil)
      (pss_cons (ps_expr (pe_mt (pe_fld (pv 0) rfl) TR.cl DF hr (pa_cons (pv 1) (pa_cons (pv 2) (pa_cons (pv 3) pa_nil)))))
      (pss_cons (ps_fldaug (pv 0) pe_int in_add) (pss_one (ps_ret (pe_lst (pa_cons pe_int pa_nil))))))), ?_⟩
    have neg : (Vbaval.within i 0 ((s.slots.length : Int) - 1) && (Vbaval.within b 0 ((s.len : Int) + 6) && Vbaval.within z 0 7)) = false → tLst (tCons (tC (.int (-1))) tNil) [some (.ref a.r), some (.int i), some (.int b), some (.int z)] H Q := fun e => by
      rw [if_pos e] at k
      exact ⟨(by show 1 ≤ sizeLine; decide), fun p np => k.same R _ p (Same.new np) np upd_same⟩
    refine ⟨_, rfl, chain_b (p := fun i j => decide (i ≤ j)) (q := fun i j => decide (i < j)) (z := (s.slots.length : Int)) (fun _ h => ⟨_, rfl, a.r, C.r, a.dr, _, _, rfl, R.obj, T.cl, T.nG, rfl, a.g, C.g, a.dg, _, _, rfl, R.ring.obj, TR.cl, TR.nS, rfl, h⟩) ⟨_, rfl, ite2 (fun c1 => ?_) (fun c1 => ?_)⟩⟩
    · refine ⟨_, rfl, chain_b (p := fun i j => decide (i ≤ j)) (q := fun i j => decide (i ≤ j)) (z := (s.len : Int) + 6) (fun _ h => ⟨_, rfl, a.r, C.r, a.dr, _, _, rfl, R.obj, T.cl, T.nL, rfl, _, _, rfl, rfl, h⟩) ⟨_, rfl, ite2 (fun c2 => ?_) (fun c2 => ?_)⟩⟩
      · refine ⟨_, rfl, chain_b (p := fun i j => decide (i ≤ j)) (q := fun i j => decide (i ≤ j)) (fun _ h => h) ⟨_, rfl, ite2 (fun c3 => ?_) (fun c3 => ?_)⟩⟩
        · refine neg ?_
          have c3' : Vbaval.within z 0 7 = false := (Bool.not_eq_true' _).mp c3
          rw [c3', Bool.and_false, Bool.and_false]
        · have c3' : (decide (0 ≤ z) && decide (z ≤ 7)) = true := by
            rw [Bool.not_eq_true, Bool.not_eq_false'] at c3
            exact c3
          simp only [Bool.and_eq_true, decide_eq_true_eq] at c1 c2 c3'
          have hw : ¬ (Vbaval.within i 0 ((s.slots.length : Int) - 1) && (Vbaval.within b 0 ((s.len : Int) + 6) && Vbaval.within z 0 7)) = false := by
            rw [Bool.not_eq_false, Bool.and_eq_true, Bool.and_eq_true, FrM.within_iff, FrM.within_iff, FrM.within_iff]
            omega
          rw [if_neg hw] at k
          obtain ⟨ii, rfl⟩ : ∃ n : Nat, i = n := ⟨i.toNat, by omega⟩
          obtain ⟨bb, rfl⟩ : ∃ n : Nat, b = n := ⟨b.toNat, by omega⟩
          obtain ⟨zz, rfl⟩ : ∃ n : Nat, z = n := ⟨z.toNat, by omega⟩
          rw [Int.toNat_natCast, Int.toNat_natCast, Int.toNat_natCast] at k
          have hii : ii < s.slots.length := by omega
          refine ⟨_, rfl, a.r, C.r, a.dr, _, _, rfl, R.obj, T.cl, T.nG, rfl, a.g, C.g, a.dg, _, _, rfl, R.ring.obj, TR.cl, TR.nH, rfl, _, rfl, a.hl, _, _, _, rfl, rfl, SqL.of R.ring.hrt, at_of (j := ii) rfl (by rw [List.getElem?_map, hurtB_get s hii]; rfl), _, rfl, ite2 (fun c4 => ?_) (fun c4 => ?_)⟩
          · rw [if_pos c4] at k
            exact ⟨(by show 1 ≤ sizeLine; decide), fun p np => k.same R _ p (Same.new np) np upd_same⟩
          · rw [if_neg c4] at k
            have hnh : ii ∉ s.hurt := fun q => c4 (List.contains_iff_mem.mpr q)
            have hsl : s.slots[ii]? = some (Vbaval.slotOf s ii) := FrM.slot_some hii
            have hsl2 := O.slen _ (FrM.slot_mem hii)
            have hO2 : FrM.Ok (FrM.flipped s ii bb zz) := O.flip hii (by omega) (by omega) hnh
            refine ⟨_, rfl, a.r, C.r, a.dr, _, _, rfl, R.obj, T.cl, T.nG, rfl, a.g, a.dg, _, rfl, R.ring.obj, rfl, _, rfl, _, rfl, _, rfl, a.g, a.dg, a.sl, a.hl, a.as, s.len, s.slots, hurtB s, ii, bb, zz, _, rfl, R.ring, ok_ne O, hsl, by omega, by omega, fun H1 G1 F1 => ?_⟩
            have G1' : RingIs C.g H1 a.g a.dg a.sl a.hl a.as (FrM.flipped s ii bb zz).len (FrM.flipped s ii bb zz).slots (hurtB (FrM.flipped s ii bb zz)) := by
              rw [hurtB_flip s hii]; exact G1
            obtain ⟨obj1, R1⟩ := R.wrote F1 G1' rfl hO2
            refine ⟨_, rfl, a.r, C.r, a.dr, _, _, rfl, obj1, T.cl, T.nB, rfl, _, _, rfl, rfl, a.dr, _, obj1, (by show 9 < 1000; decide), ?_⟩
            have e1 : putF "bits_flipped" (.int ((s.flips : Int) + 1)) (recF a.g a.pa s) = recF a.g a.pa (FrM.flipped s ii bb zz) := rfl
            rw [e1]
            exact ⟨(by show 1 ≤ sizeLine; decide), fun p np => k _ p (R1.grow (Same.new np)) ((FrR.ring F1).trans (FrR.own.trans (FrR.of (Same.new np)))) (wrote_free R.ring F1 G1 (upd_free np)) upd_same⟩
      · refine neg ?_
        have c2' : Vbaval.within b 0 ((s.len : Int) + 6) = false := by simpa [Vbaval.within] using c2
        rw [c2', Bool.false_and, Bool.and_false]
    · refine neg ?_
      have c1' : Vbaval.within i 0 ((s.slots.length : Int) - 1) = false := by
        cases q : Vbaval.within i 0 ((s.slots.length : Int) - 1) with
        | false => rfl
        | true =>
          rw [FrM.within_iff] at q
          exact absurd (by simp only [Bool.and_eq_true, decide_eq_true_eq]; omega) c1
      rw [c1', Bool.false_and]
end
end Fr
namespace Fr
open PySem PySem.Spec PyProof.Rows L2
section
variable {s : Vbaval.St}
theorem act_read (O : FrM.Ok s) : Vbaval.act s .read = (s, Vbaval.toldRows (Vbaval.readOut s)) := if_neg (fun e => by rw [O.laid] at e; cases e)
theorem act_slot (O : FrM.Ok s) (i : Int) : Vbaval.act s (.slot i) = if Vbaval.within i 0 ((s.slots.length : Int) - 1) = false then (s, [-1]) else (s, Vbaval.listed (Vbaval.ints (Vbaval.slotOf s i.toNat))) := if_neg (fun e => by rw [O.laid] at e; cases e)
theorem act_dump (O : FrM.Ok s) : Vbaval.act s .dump = (s, Vbaval.listed (Vbaval.ints (Vbaval.sent s))) := if_neg (fun e => by rw [O.laid] at e; cases e)
theorem act_hear (O : FrM.Ok s) (x p n : Int) : Vbaval.act s (.hear x p n) = if dmgOk x p n (Vbaval.sent s).length = false then (s, [-1]) else (s, Vbaval.toldRows (Vbaval.heard s (Vbaval.damaged x.toNat p.toNat n.toNat (Vbaval.sent s)))) := by
  refine (if_neg (fun e => by rw [O.laid] at e; cases e)).trans ?_
  unfold dmgOk
  by_cases c1 : (Vbaval.within x 0 2 && (Vbaval.within p 0 ((Vbaval.sent s).length : Int) && Vbaval.within n 0 (if x = 2 then 7 else 1000))) = false
  · rw [if_pos c1, c1, Bool.false_and, if_pos rfl]
  · rw [if_neg c1]
    rw [Bool.not_eq_false] at c1
    rw [c1, Bool.true_and]
    by_cases c2 : x = 2 ∧ p = ((Vbaval.sent s).length : Int)
    · rw [if_pos c2, decide_eq_true c2]; rfl
    · rw [if_neg c2, decide_eq_false c2]; rfl
theorem act_listen (O : FrM.Ok s) (l : List Int) : Vbaval.act s (.listen l) = if (decide (l.length ≤ 800) && l.all fun b => Vbaval.within b 0 255) = false then (s, [-1]) else (s, Vbaval.toldRows (Vbaval.heard s (Vbaval.nats l))) := if_neg (fun e => by rw [O.laid] at e; cases e)
theorem act_next (O : FrM.Ok s) : Vbaval.act s .next = (s, (s.next : Int) :: Vbaval.listed (Vbaval.ints (Vbaval.inFrame s.params s.next))) := if_neg (fun e => by rw [O.laid] at e; cases e)
theorem act_totals (O : FrM.Ok s) : Vbaval.act s .totals = (s, Vbaval.ints [s.done, s.cuts, s.flips, (Vbaval.goods s).length]) := if_neg (fun e => by rw [O.laid] at e; cases e)
end
theorem listed_nv (l : List Nat) : iv (Vbaval.listed (Vbaval.ints l)) = V.int (l.length : Nat) :: nv l := by
  unfold Vbaval.listed
  rw [nv_eq]
  have : (Vbaval.ints l).length = l.length := List.length_map ..
  rw [this]
  rfl
section
variable {P : Program} {w : World} {K : PySem.W.Frag} {mg : Str → Option Value} {base : Heap} {C : CC}
def spRecRead (C : CC) : Sp := fun vs H Q _ => ∃ (a : RA) (s : Vbaval.St), vs = [.ref a.r] ∧ RecIs C H a s ∧ AnsR C H a (Vbaval.act s .read) Q
theorem scRecRead : FnScope ["self"] ["self"] (defScope sRecRead) := ⟨rfl, rfl, rfl, by decide +kernel, rfl, by decide +kernel, by decide +kernel⟩
theorem d_recRead (F : FunM K C.r "read_out" "Recorder.read_out" sRecRead) (T : TxtRec K C.r) (TR : TxtR K mg C.g) (DG : DefM P w K mg base C.g "good_frames" 5 ["self"] (spRFrames C.g)) (DT : DefM P w K mg base C.r "told" 5 ["self", "frames"] (spRecTold C)) : DefM P w K mg base C.r "read_out" 6 ["self"] (spRecRead C) := by
  obtain ⟨f, fd, F, hm⟩ := F
  refine ⟨f, fd, ?_, hm, F.binds fun _ _ _ _ _ _ us hl => match us, hl with | [_], _ => rfl⟩
  refine F.ok scRecRead (fun vs H Q E h => ?_) (fun cdv A outer s H vs Q E hr h => ?_)
  · obtain ⟨a, s, rfl, _⟩ := h
    rfl
  · obtain ⟨a, s, rfl, R, k⟩ := h
    have O := R.ok
    rw [act_read O] at k
    refine ⟨_, pss_one (ps_ret (pe_mt (pv 0) T.cl DT hr (pa_cons (pe_mt0 (pe_fld (pv 0) rfl) TR.cl DG hr) pa_nil))), ?_⟩
    refine ⟨_, rfl, a.r, a.dr, _, rfl, R.obj, rfl, _, rfl, a.r, C.r, a.dr, _, _, rfl, R.obj, T.cl, T.nG, rfl, a.g, a.dg, _, rfl, R.ring.obj, rfl, a.g, a.dg, a.sl, a.hl, a.as, s.len, s.slots, hurtB s, rfl, R.ring, ok_slots O, O.len.2, O.ns.2, fun H1 p fs s1 hF hp hs => ?_⟩
    obtain ⟨hf1, hf2⟩ := goodL_facts O hp
    refine ⟨a, s, p, fs, rfl, R.grow s1, hF, hf1, by omega, fun H2 q s2 nq eq => k.same R H2 q (s1.trans s2) (s1.free nq) ?_⟩
    rw [readOut_frames hp hs]
    exact eq
def spRecSlot (C : CC) : Sp := fun vs H Q _ => ∃ (a : RA) (s : Vbaval.St) (i : Int), vs = [.ref a.r, .int i] ∧ RecIs C H a s ∧ AnsR C H a (Vbaval.act s (.slot i)) Q
theorem scRecSlot : FnScope ["self", "slot"] ["self", "slot"] (defScope sRecSlot) := ⟨rfl, rfl, rfl, by decide +kernel, rfl, by decide +kernel, by decide +kernel⟩
theorem d_recSlot (F : FunM K C.r "slot_bytes" "Recorder.slot_bytes" sRecSlot) (T : TxtRec K C.r) (TR : TxtR K mg C.g) (TC : TxtC mg) : DefM P w K mg base C.r "slot_bytes" 1 ["self", "slot"] (spRecSlot C) := by
  obtain ⟨f, fd, F, hm⟩ := F
  refine ⟨f, fd, ?_, hm, F.binds fun _ _ _ _ _ _ us hl => match us, hl with | [_, _], _ => rfl⟩
  refine F.ok scRecSlot (fun vs H Q E h => ?_) (fun cdv A outer s H vs Q E hr h => ?_)
  · obtain ⟨a, s, i, rfl, _⟩ := h
    rfl
  · obtain ⟨a, s, i, rfl, R, k⟩ := h
    have O := R.ok
    obtain ⟨tO, hO⟩ := TC.OUT_OF_RANGE
    rw [act_slot O] at k
    refine ⟨_, pss_cons (ps_if (pt_not (pt_chain op_le op_lt pe_int (pv 1) (pe_fld (pe_fld (pv 0) rfl) rfl))) (pss_one (ps_ret (pe_lst (pa_cons (pe_glob (v := .int (-1)) rfl hO ⟨_, rfl⟩) pa_nil)))) pss_nil)
      (pss_one (ps_ret (pe_op op_cat (pe_lst (pa_cons (pe_op op_add (pe_fld (pv 0) rfl) pe_int) pa_nil)) (pe_ix ix_list (pe_fld (pe_fld (pv 0) rfl) rfl) (pv 1) (fun _ _ => rfl))))), ?_⟩
    refine ⟨_, rfl, chain_b (p := fun i j => decide (i ≤ j)) (q := fun i j => decide (i < j)) (z := (s.slots.length : Int)) (fun _ h => ⟨_, rfl, a.r, C.r, a.dr, _, _, rfl, R.obj, T.cl, T.nG, rfl, a.g, C.g, a.dg, _, _, rfl, R.ring.obj, TR.cl, TR.nS, rfl, h⟩) ⟨_, rfl, ite2 (fun c => ?_) (fun c => ?_)⟩⟩
    · have c' : Vbaval.within i 0 ((s.slots.length : Int) - 1) = false := by
        have c1 := (Bool.not_eq_true' _).mp c
        cases q : Vbaval.within i 0 ((s.slots.length : Int) - 1) with
        | false => rfl
        | true =>
          rw [FrM.within_iff] at q
          have : (decide (0 ≤ i) && decide (i < (s.slots.length : Int))) = true := by simp only [Bool.and_eq_true, decide_eq_true_eq]; omega
          rw [this] at c1; cases c1
      rw [if_pos c'] at k
      exact ⟨(by show 1 ≤ sizeLine; decide), fun p np => k.same R _ p (Same.new np) np upd_same⟩
    · have c1 : (decide (0 ≤ i) && decide (i < (s.slots.length : Int))) = true := by
        rw [Bool.not_eq_true, Bool.not_eq_false'] at c
        exact c
      simp only [Bool.and_eq_true, decide_eq_true_eq] at c1
      have c' : ¬ Vbaval.within i 0 ((s.slots.length : Int) - 1) = false := by
        rw [Bool.not_eq_false, FrM.within_iff]; omega
      rw [if_neg c'] at k
      obtain ⟨ii, rfl⟩ : ∃ n : Nat, i = n := ⟨i.toNat, by omega⟩
      rw [Int.toNat_natCast] at k
      have hii : ii < s.slots.length := by omega
      have hsl : s.slots[ii]? = some (Vbaval.slotOf s ii) := FrM.slot_some hii
      have hsl2 := O.slen _ (FrM.slot_mem hii)
      obtain ⟨b, hb⟩ : ∃ b, a.as[ii]? = some b := ⟨_, List.getElem?_eq_getElem (by rw [R.ring.alen]; exact hii)⟩
      have k' := k.same R
      rw [listed_nv, hsl2] at k'
      have hlen := O.len.2
      refine ⟨_, rfl, a.r, C.r, a.dr, _, _, rfl, R.obj, T.cl, T.nL, rfl, _, _, rfl, rfl, (by show 1 ≤ sizeLine; decide), fun p np => ?_⟩
      have R1 := R.grow (Same.new (o := .lst [.int ((s.len : Int) + 7)]) np)
      refine ⟨_, rfl, a.r, C.r, a.dr, _, _, rfl, R1.obj, T.cl, T.nG, rfl, a.g, C.g, a.dg, _, _, rfl, R1.ring.obj, TR.cl, TR.nT, rfl, _, rfl, a.sl, _, _, _, rfl, rfl, SqL.of R1.ring.lst, at_of (j := ii) rfl (by rw [List.getElem?_map, hb]; rfl), p, b, _, _, rfl, rfl, upd_same, R1.ring.at_ ii b _ hb hsl, ?_, fun q nq => k' _ q ((Same.new np).and nq) ((Same.new np).free nq) ?_⟩
      · rw [nv_length, hsl2, sizeLine_eq]
        show 1 + (s.len + 7) ≤ _
        omega
      · rw [upd_same]
        rfl
def spRecDump (C : CC) : Sp := fun vs H Q _ => ∃ (a : RA) (s : Vbaval.St), vs = [.ref a.r] ∧ RecIs C H a s ∧ AnsR C H a (Vbaval.act s .dump) Q
theorem scRecDump : FnScope ["self", "sent"] ["self"] (defScope sRecDump) := ⟨rfl, rfl, rfl, by decide +kernel, rfl, by decide +kernel, by decide +kernel⟩
theorem sent_len {s : Vbaval.St} {fs : List (List Nat)} (h1 : ∀ f ∈ fs, f.length = s.len + 6 ∧ ∀ b ∈ f, b < 256) (h2 : fs.length ≤ 16) (hl : s.len ≤ 16) : (sentF fs).length ≤ 736 := by
  have := sentF_length (n := 22) fs fun f hf => by have := (h1 f hf).1; omega
  omega
theorem d_recDump (F : FunM K C.r "dump" "Recorder.dump" sRecDump) (T0 : Txt mg) (T : TxtRec K C.r) (TR : TxtR K mg C.g) (DG : DefM P w K mg base C.g "good_frames" 5 ["self"] (spRFrames C.g)) (DS : Def P w K mg base "sent_frames" 2 ["frames"] spSentF) : DefM P w K mg base C.r "dump" 6 ["self"] (spRecDump C) := by
  obtain ⟨f, fd, F, hm⟩ := F
  refine ⟨f, fd, ?_, hm, F.binds fun _ _ _ _ _ _ us hl => match us, hl with | [_], _ => rfl⟩
  refine F.ok scRecDump (fun vs H Q E h => ?_) (fun cdv A outer s H vs Q E hr h => ?_)
  · obtain ⟨a, s, rfl, _⟩ := h
    rfl
  · obtain ⟨a, s, rfl, R, k⟩ := h
    have nd := scRecDump.nd
    have hr2 : Room 2 _ := hr.mono (by decide)
    have O := R.ok
    rw [act_dump O] at k
    refine ⟨_, pss_cons (ps_set (i := 1) nd rfl (Or.inl rfl) (pe_fn DS hr2 rfl (pa_cons (pe_mt0 (pe_fld (pv 0) rfl) TR.cl DG hr) pa_nil)))
      (pss_one (ps_ret (pe_op op_cat (pe_lst (pa_cons (pe_callB cr_len rfl T0.len boot_len' (pa_cons (pv 1) pa_nil)) pa_nil)) (pv 1)))), ?_⟩
    refine ⟨_, rfl, a.r, C.r, a.dr, _, _, rfl, R.obj, T.cl, T.nG, rfl, a.g, a.dg, _, rfl, R.ring.obj, rfl, a.g, a.dg, a.sl, a.hl, a.as, s.len, s.slots, hurtB s, rfl, R.ring, ok_slots O, O.len.2, O.ns.2, fun H1 p fs s1 hF hp hs => ?_⟩
    obtain ⟨hf1, hf2⟩ := goodL_facts O hp
    have hlen := O.len.2
    have hsl := sent_len hf1 hf2 hlen
    have k' := k.same R
    rw [sent_eq hp hs, listed_nv] at k'
    refine ⟨p, fs, rfl, hF, fun f hf => by have := (hf1 f hf).1; omega, by omega, fun H2 q s2 nq eq => ?_⟩
    refine ⟨_, rfl, q, _, rfl, SqL.of eq, (by show 1 ≤ sizeLine; decide), fun q3 n3 => ?_⟩
    refine ⟨_, rfl, q3, q, _, _, rfl, rfl, upd_same, (Same.new n3) _ _ eq, ?_, fun q4 n4 => k' _ q4 (((s1.trans s2).and n3).and n4) (((s1.trans s2).and n3).free n4) ?_⟩
    · rw [nv_length, sizeLine_eq]
      show 1 + _ ≤ _
      omega
    · rw [upd_same, nv_length]
      rfl
def spRecHear (C : CC) : Sp := fun vs H Q _ => ∃ (a : RA) (s : Vbaval.St) (x p n : Int), vs = [.ref a.r, .int x, .int p, .int n] ∧ RecIs C H a s ∧ AnsR C H a (Vbaval.act s (.hear x p n)) Q
theorem scRecHear : FnScope ["self", "what", "place", "amount", "sent"] ["self", "what", "place", "amount"] (defScope sRecHear) := ⟨rfl, rfl, rfl, by decide +kernel, rfl, by decide +kernel, by decide +kernel⟩
theorem heard_facts {len : Nat} : ∀ (l : List Nat) (e : PEar) (i : Nat), (∀ b ∈ l, b < 256) → EarOk len e i → EarOk len (l.foldl (earStep len) e) (i + l.length)
  | [], _, _, _, h => h
  | b :: l, e, i, hb, h => by
    have := heard_facts l (earStep len e b) (i + 1) (fun c hc => hb c (List.mem_cons_of_mem _ hc)) (h.step (hb b List.mem_cons_self))
    rw [List.length_cons, show i + (l.length + 1) = i + 1 + l.length by omega]
    exact this
theorem d_recHear (F : FunM K C.r "hear" "Recorder.hear" sRecHear) (T0 : Txt mg) (TC : TxtC mg) (T : TxtRec K C.r) (TR : TxtR K mg C.g) (DG : DefM P w K mg base C.g "good_frames" 5 ["self"] (spRFrames C.g)) (DS : Def P w K mg base "sent_frames" 2 ["frames"] spSentF)
    (DI : Def P w K mg base "is_damage" 1 ["what", "place", "amount", "sent_count"] spIsDmg) (DD : Def P w K mg base "damaged" 1 ["sent", "what", "place", "amount"] spDmg) (DH : Def P w K mg base "heard_frames" 7 ["some", "length"] (spHeard K)) (DT : DefM P w K mg base C.r "told" 5 ["self", "frames"] (spRecTold C)) :
    DefM P w K mg base C.r "hear" 8 ["self", "what", "place", "amount"] (spRecHear C) := by
  obtain ⟨f, fd, F, hm⟩ := F
  refine ⟨f, fd, ?_, hm, F.binds fun _ _ _ _ _ _ us hl => match us, hl with | [_, _, _, _], _ => rfl⟩
  refine F.ok scRecHear (fun vs H Q E h => ?_) (fun cdv A outer s H vs Q E hr h => ?_)
  · obtain ⟨a, s, x, p, n, rfl, _⟩ := h
    rfl
  · obtain ⟨a, s, x, y, z, rfl, R, k⟩ := h
    have nd := scRecHear.nd
    have hr1 : Room 1 _ := hr.mono (by decide)
    have hr2 : Room 2 _ := hr.mono (by decide)
    have hr5 : Room 5 _ := hr.mono (by decide)
    have O := R.ok
    obtain ⟨tO, hO⟩ := TC.OUT_OF_RANGE
    rw [act_hear O] at k
    refine ⟨_, pss_cons (ps_set (i := 4) nd rfl (Or.inl rfl) (pe_fn DS hr2 rfl (pa_cons (pe_mt0 (pe_fld (pv 0) rfl) TR.cl DG hr5) pa_nil)))
      (pss_cons (ps_if (pt_not (pt_val (pe_fn DI hr1 rfl (pa_cons (pv 1) (pa_cons (pv 2) (pa_cons (pv 3) (pa_cons (pe_callB cr_len rfl T0.len boot_len' (pa_cons (pv 4) pa_nil)) pa_nil))))))) (pss_one (ps_ret (pe_lst (pa_cons (pe_glob (v := .int (-1)) rfl hO ⟨_, rfl⟩) pa_nil)))) pss_nil)
      (pss_one (ps_ret (pe_mt (pv 0) T.cl DT hr5 (pa_cons (pe_fn DH hr rfl (pa_cons (pe_fn DD hr1 rfl (pa_cons (pv 4) (pa_cons (pv 1) (pa_cons (pv 2) (pa_cons (pv 3) pa_nil))))) (pa_cons (pe_fld (pv 0) rfl) pa_nil))) pa_nil))))), ?_⟩
    refine ⟨_, rfl, a.r, C.r, a.dr, _, _, rfl, R.obj, T.cl, T.nG, rfl, a.g, a.dg, _, rfl, R.ring.obj, rfl, a.g, a.dg, a.sl, a.hl, a.as, s.len, s.slots, hurtB s, rfl, R.ring, ok_slots O, O.len.2, O.ns.2, fun H1 p fs s1 hF hp hs => ?_⟩
    obtain ⟨hf1, hf2⟩ := goodL_facts O hp
    have hlen := O.len.2
    have hsl := sent_len hf1 hf2 hlen
    rw [sent_eq hp hs] at k
    refine ⟨p, fs, rfl, hF, fun f hf => by have := (hf1 f hf).1; omega, by omega, fun H2 q s2 nq eq => ?_⟩
    have hsb := sentF_lt (fs := fs) fun f hf => (hf1 f hf).2
    generalize sentF fs = l at hsl hsb eq k
    refine ⟨_, rfl, _, rfl, _, rfl, _, rfl, q, _, rfl, SqL.of eq, x, y, z, l.length, ?_, fun H3 s3 => ⟨_, rfl, ite2 (fun c => ?_) (fun c => ?_)⟩⟩
    · rw [nv_length]; rfl
    · have c' : dmgOk x y z l.length = false := (Bool.not_eq_true' _).mp c
      rw [if_pos c'] at k
      have s03 := s1.trans (s2.trans s3)
      exact ⟨(by show 1 ≤ sizeLine; decide), fun p np => k.same R _ p (s03.and np) (s03.free np) upd_same⟩
    · have c' : dmgOk x y z l.length = true := by
        rw [Bool.not_eq_true, Bool.not_eq_false'] at c
        exact c
      rw [if_neg (by rw [c']; decide)] at k
      have hx : 0 ≤ x ∧ x ≤ 2 ∧ 0 ≤ y ∧ 0 ≤ z ∧ (x = 2 → y < l.length ∧ z ≤ 7) := by
        by_cases q : x = 2
        · subst q
          rw [dmg2] at c'
          simp only [Bool.and_eq_true, decide_eq_true_eq] at c'
          omega
        · rw [dmg01 q] at c'
          simp only [Bool.and_eq_true, Bool.or_eq_true, decide_eq_true_eq] at c'
          omega
      obtain ⟨hx1, hx2, hx3, hx4, hx5⟩ := hx
      obtain ⟨x', rfl⟩ : ∃ n : Nat, x = n := ⟨x.toNat, by omega⟩
      obtain ⟨y', rfl⟩ : ∃ n : Nat, y = n := ⟨y.toNat, by omega⟩
      obtain ⟨z', rfl⟩ : ∃ n : Nat, z = n := ⟨z.toNat, by omega⟩
      rw [Int.toNat_natCast, Int.toNat_natCast, Int.toNat_natCast] at k
      have s03 := s1.trans (s2.trans s3)
      have R3 := R.grow s03
      have hdl : (Vbaval.damaged x' y' z' l).length ≤ 2 * l.length := damaged_length
      have hdb := damaged_lt (what := x') (p := y') (n := z') hsb fun h0 h1 => (by
        have := hx5 (by omega)
        omega)
      refine ⟨_, rfl, a.r, a.dr, _, rfl, R3.obj, rfl, _, rfl, _, rfl, _, rfl, _, rfl, q, l, x', y', z', rfl, s3 _ _ eq, by omega, fun h2 => by have := hx5 (by omega); omega, by omega, fun H4 q4 s4 n4 e4 => ?_⟩
      have R4 := R3.grow s4
      refine ⟨_, rfl, a.r, C.r, a.dr, _, _, rfl, R4.obj, T.cl, T.nL, rfl, q4, _, s.len, rfl, SqL.of e4, hdb, by omega, hlen, fun H5 q5 s5 F5 => ?_⟩
      have hH := heard_facts (len := s.len) (Vbaval.damaged x' y' z' l) ear0 0 hdb (ear0_ok _)
      have hHl := hH.hl
      refine ⟨a, s, q5, _, rfl, R4.grow s5, F5, hH.fr, by omega, fun H6 q6 s6 n6 e6 => k.same R H6 q6 (s03.trans (s4.trans (s5.trans s6))) ((s03.trans (s4.trans s5)).free n6) ?_⟩
      rw [heard_eq]
      exact e6
def spRecListen (K : PySem.W.Frag) (C : CC) : Sp := fun vs H Q _ => ∃ (a : RA) (s : Vbaval.St) (b : Addr) (l : List Int), vs = [.ref a.r, .ref b] ∧ RecIs C H a s ∧ SqL K H b (iv l) ∧ l.length ≤ 10000 ∧ AnsR C H a (Vbaval.act s (.listen l)) Q
theorem scRecListen : FnScope ["self", "some", "byte"] ["self", "some"] (defScope sRecListen) := ⟨rfl, rfl, rfl, by decide +kernel, rfl, by decide +kernel, by decide +kernel⟩
theorem nats_nv {l : List Int} (h : ∀ x ∈ l, 0 ≤ x) : nv (Vbaval.nats l) = iv l := by
  unfold nv Vbaval.nats iv
  rw [List.map_map]
  refine List.map_congr_left fun x hx => ?_
  show V.int ((x.toNat : Nat) : Int) = V.int x
  rw [Int.toNat_of_nonneg (h x hx)]
theorem d_recListen (F : FunM K C.r "listen" "Recorder.listen" sRecListen) (T0 : Txt mg) (TC : TxtC mg) (T : TxtRec K C.r) (DH : Def P w K mg base "heard_frames" 7 ["some", "length"] (spHeard K)) (DT : DefM P w K mg base C.r "told" 5 ["self", "frames"] (spRecTold C)) :
    DefM P w K mg base C.r "listen" 8 ["self", "some"] (spRecListen K C) := by
  obtain ⟨f, fd, F, hm⟩ := F
  refine ⟨f, fd, ?_, hm, F.binds fun _ _ _ _ _ _ us hl => match us, hl with | [_, _], _ => rfl⟩
  refine F.ok scRecListen (fun vs H Q E h => ?_) (fun cdv A outer s H vs Q E hr h => ?_)
  · obtain ⟨a, s, b, l, rfl, _⟩ := h
    rfl
  · obtain ⟨a, s, b, l, rfl, R, hB, hll, k⟩ := h
    have nd := scRecListen.nd
    have hr5 : Room 5 _ := hr.mono (by decide)
    have O := R.ok
    obtain ⟨tO, hO⟩ := TC.OUT_OF_RANGE
    obtain ⟨tM, hM⟩ := TC.MOST_HEARD
    rw [act_listen O] at k
    refine ⟨_, pss_cons (ps_if (PW.pt (pw_or (pt_cmpR op_gt (pe_callB cr_len rfl T0.len boot_len' (pa_cons (pv 1) pa_nil)) (pe_glob (v := .int 800) rfl hM ⟨_, rfl⟩) (nomark _))
        (pw_or1 (pt_not (pt_val (pe_callB (cr_all rfl) rfl T0.all boot_all' (pa_cons (pe_lc rfl nd (pi_list (pv 1)) (blkOk_by (own := [("byte", 2)]) (by rfl)) (fun _ _ _ _ _ => pg_name (i := 2) nd rfl (Or.inl rfl) (Or.inr rfl)) (fun _ _ _ _ _ => pts_nil)
          (fun _ _ _ _ _ => pe_chain op_le op_le pe_int (pv 2) pe_int)) pa_nil))))))) (pss_one (ps_ret (pe_lst (pa_cons (pe_glob (v := .int (-1)) rfl hO ⟨_, rfl⟩) pa_nil)))) pss_nil)
      (pss_one (ps_ret (pe_mt (pv 0) T.cl DT hr5 (pa_cons (pe_fn DH hr rfl (pa_cons (pv 1) (pa_cons (pe_fld (pv 0) rfl) pa_nil))) pa_nil)))), ?_⟩
    have neg : ∀ H1, Same H H1 → (decide (l.length ≤ 800) && l.all fun b => Vbaval.within b 0 255) = false → tLst (tCons (tC (.int (-1))) tNil) [some (.ref a.r), some (.ref b), none] H1 Q := fun H1 s1 e => by
      rw [if_pos e] at k
      exact ⟨(by show 1 ≤ sizeLine; decide), fun p np => k.same R _ p (s1.and np) (s1.free np) upd_same⟩
    refine ⟨_, rfl, b, _, rfl, hB, _, _, rfl, rfl, _, rfl, ite2 (fun c => ?_) (fun c => ?_)⟩
    · have c1 : (800 : Int) < ((iv l).length : Nat) := of_decide_eq_true c
      rw [iv_length] at c1
      refine neg H (Same.refl H) ?_
      rw [decide_eq_false (by omega), Bool.false_and]
    · have c1 : ¬ (800 : Int) < ((iv l).length : Nat) := fun q => c (decide_eq_true q)
      rw [iv_length] at c1
      have hl8 : l.length ≤ 800 := by omega
      refine ⟨_, rfl, b, rfl, ⟨_, hB⟩, fun D hD => lc_gen (J := Itl K b) l.length (fun i acc _ => acc = (l.take i).map fun x => V.bl (Vbaval.within x 0 255)) hD
        (fun i H' hi hs => list_go (hs.seq hB) (by rw [iv_length]; omega)) (fun H' hs => list_stop (hs.seq hB) (by rw [iv_length]; omega)) rfl ?_ ?_⟩
      · intro i x H1 H' acc hi hs hacc hln hR hy
        obtain ⟨rfl, hx⟩ := hy
        obtain ⟨y, hy, rfl⟩ := iv_some (hx _ (hs.seq hB))
        refine ⟨rfl, _, rfl, chain_b (p := fun i j => decide (i ≤ j)) (q := fun i j => decide (i ≤ j)) (fun _ h => h) (lc_yes hD (by omega) hs hacc hln (Same.refl _) ?_)⟩
        rw [hR, List.take_add_one, hy, List.map_append]
        rfl
      · intro H' acc hln hs hacc hR
        rw [List.take_length] at hR
        refine ⟨D, l.map fun x => Vbaval.within x 0 255, rfl, SqL.of ?_, ?_⟩
        · rw [hacc, hR, List.map_map]
          rfl
        · rw [List.all_map]
          refine ⟨_, rfl, ite2 (fun c2 => ?_) (fun c2 => ?_)⟩
          · refine neg H' hs ?_
            have c3 := (Bool.not_eq_true' _).mp c2
            have c4 : (l.all fun b => Vbaval.within b 0 255) = false := c3
            rw [c4, Bool.and_false]
          · have c4 : (l.all fun b => Vbaval.within b 0 255) = true := by
              rw [Bool.not_eq_true, Bool.not_eq_false'] at c2
              exact c2
            rw [if_neg (by rw [c4, decide_eq_true hl8]; decide)] at k
            have hin : ∀ x ∈ l, 0 ≤ x ∧ x ≤ 255 := fun x hx => FrM.within_iff.mp (List.all_eq_true.mp c4 x hx)
            have R1 := R.grow hs
            have hnb : ∀ b ∈ Vbaval.nats l, b < 256 := fun b hb => by
              obtain ⟨x, hx, rfl⟩ := List.mem_map.mp hb
              have := hin x hx
              omega
            have hnl : (Vbaval.nats l).length = l.length := List.length_map ..
            have hlen := O.len.2
            refine ⟨_, rfl, a.r, a.dr, _, rfl, R1.obj, rfl, _, rfl, _, rfl, a.r, C.r, a.dr, _, _, rfl, R1.obj, T.cl, T.nL, rfl, b, Vbaval.nats l, s.len, rfl, ?_, hnb, by omega, hlen, fun H5 q5 s5 F5 => ?_⟩
            · rw [nats_nv fun x hx => (hin x hx).1]
              exact hs.seq hB
            · have hH := heard_facts (len := s.len) (Vbaval.nats l) ear0 0 hnb (ear0_ok _)
              have hHl := hH.hl
              refine ⟨a, s, q5, _, rfl, R1.grow s5, F5, hH.fr, by omega, fun H6 q6 s6 n6 e6 => k.same R H6 q6 (hs.trans (s5.trans s6)) ((hs.trans s5).free n6) ?_⟩
              rw [heard_eq]
              exact e6
def spRecNext (C : CC) : Sp := fun vs H Q _ => ∃ (a : RA) (s : Vbaval.St), vs = [.ref a.r] ∧ RecIs C H a s ∧ AnsR C H a (Vbaval.act s .next) Q
theorem scRecNext : FnScope ["self", "places"] ["self"] (defScope sRecNext) := ⟨rfl, rfl, rfl, by decide +kernel, rfl, by decide +kernel, by decide +kernel⟩
theorem d_recNext (F : FunM K C.r "next_number" "Recorder.next_number" sRecNext) (T0 : Txt mg) (T : TxtRec K C.r) (DP : Def P w K mg base "frame_parameters" 2 ["parameters", "number"] (spPars C.p)) : DefM P w K mg base C.r "next_number" 3 ["self"] (spRecNext C) := by
  obtain ⟨f, fd, F, hm⟩ := F
  refine ⟨f, fd, ?_, hm, F.binds fun _ _ _ _ _ _ us hl => match us, hl with | [_], _ => rfl⟩
  refine F.ok scRecNext (fun vs H Q E h => ?_) (fun cdv A outer s H vs Q E hr h => ?_)
  · obtain ⟨a, s, rfl, _⟩ := h
    rfl
  · obtain ⟨a, s, rfl, R, k⟩ := h
    have nd := scRecNext.nd
    have O := R.ok
    rw [act_next O] at k
    have k' := k.same R
    have eiv : iv ((s.next : Int) :: Vbaval.listed (Vbaval.ints (Vbaval.inFrame s.params s.next))) = V.int (s.next : Nat) :: V.int ((Vbaval.inFrame s.params s.next).length : Nat) :: nv (Vbaval.inFrame s.params s.next) := by
      rw [← listed_nv]; rfl
    rw [eiv] at k'
    have hpl := O.plen
    have hil : (Vbaval.inFrame s.params s.next).length ≤ 12 := by
      refine Nat.le_trans (List.length_filter_le ..) ?_
      rw [List.length_range]; exact hpl
    refine ⟨_, pss_cons (ps_set (i := 1) nd rfl (Or.inl rfl) (pe_fn DP hr rfl (pa_cons (pe_fld (pv 0) rfl) (pa_cons (pe_fld (pv 0) rfl) pa_nil))))
      (pss_one (ps_ret (pe_op op_cat (pe_lst (pa_cons (pe_fld (pv 0) rfl) (pa_cons (pe_callB cr_len rfl T0.len boot_len' (pa_cons (pv 1) pa_nil)) pa_nil))) (pv 1)))), ?_⟩
    refine ⟨_, rfl, a.r, C.r, a.dr, _, _, rfl, R.obj, T.cl, T.nP, rfl, _, rfl, a.r, C.r, a.dr, _, _, rfl, R.obj, T.cl, T.nU, rfl, a.pa, s.params, s.next, rfl, R.par, ok_per O, by omega, fun H1 p s1 np e1 => ?_⟩
    have R1 := R.grow s1
    refine ⟨_, rfl, a.r, C.r, a.dr, _, _, rfl, R1.obj, T.cl, T.nU, rfl, _, rfl, p, _, rfl, SqL.of e1, (by show 2 ≤ sizeLine; decide), fun q nq => ?_⟩
    refine ⟨_, rfl, q, p, _, _, rfl, rfl, upd_same, (Same.new nq) _ _ e1, ?_, fun q2 n2 => k' _ q2 ((s1.and nq).and n2) ((s1.and nq).free n2) ?_⟩
    · rw [nv_length, sizeLine_eq]
      show 2 + _ ≤ _
      omega
    · rw [upd_same, nv_length]
      rfl
def spRecTotals (C : CC) : Sp := fun vs H Q _ => ∃ (a : RA) (s : Vbaval.St), vs = [.ref a.r] ∧ RecIs C H a s ∧ AnsR C H a (Vbaval.act s .totals) Q
theorem scRecTotals : FnScope ["self", "good"] ["self"] (defScope sRecTotals) := ⟨rfl, rfl, rfl, by decide +kernel, rfl, by decide +kernel, by decide +kernel⟩
theorem d_recTotals (F : FunM K C.r "totals" "Recorder.totals" sRecTotals) (T0 : Txt mg) (T : TxtRec K C.r) (TR : TxtR K mg C.g) (DG : DefM P w K mg base C.g "good_frames" 5 ["self"] (spRFrames C.g)) : DefM P w K mg base C.r "totals" 6 ["self"] (spRecTotals C) := by
  obtain ⟨f, fd, F, hm⟩ := F
  refine ⟨f, fd, ?_, hm, F.binds fun _ _ _ _ _ _ us hl => match us, hl with | [_], _ => rfl⟩
  refine F.ok scRecTotals (fun vs H Q E h => ?_) (fun cdv A outer s H vs Q E hr h => ?_)
  · obtain ⟨a, s, rfl, _⟩ := h
    rfl
  · obtain ⟨a, s, rfl, R, k⟩ := h
    have nd := scRecTotals.nd
    have O := R.ok
    rw [act_totals O] at k
    refine ⟨_, pss_cons (ps_set (i := 1) nd rfl (Or.inl rfl) (pe_callB cr_len rfl T0.len boot_len' (pa_cons (pe_mt0 (pe_fld (pv 0) rfl) TR.cl DG hr) pa_nil)))
      (pss_one (ps_ret (pe_lst (pa_cons (pe_fld (pv 0) rfl) (pa_cons (pe_fld (pv 0) rfl) (pa_cons (pe_fld (pv 0) rfl) (pa_cons (pv 1) pa_nil))))))), ?_⟩
    refine ⟨_, rfl, a.r, C.r, a.dr, _, _, rfl, R.obj, T.cl, T.nG, rfl, a.g, a.dg, _, rfl, R.ring.obj, rfl, a.g, a.dg, a.sl, a.hl, a.as, s.len, s.slots, hurtB s, rfl, R.ring, ok_slots O, O.len.2, O.ns.2, fun H1 p fs s1 ⟨as, hA, hal, _⟩ hp hs => ?_⟩
    have R1 := R.grow s1
    have hgl : (Vbaval.goods s).length = fs.length := by
      rw [← (goods_frames hp).length_eq, List.length_map]
    rw [hgl] at k
    refine ⟨p, _, rfl, SqL.of hA, ?_⟩
    refine ⟨_, rfl, a.r, C.r, a.dr, _, _, rfl, R1.obj, T.cl, T.nR, rfl, _, rfl, a.r, C.r, a.dr, _, _, rfl, R1.obj, T.cl, T.nW, rfl, _, rfl, a.r, C.r, a.dr, _, _, rfl, R1.obj, T.cl, T.nB, rfl, _, rfl, (by show 4 ≤ sizeLine; decide), fun q nq => k.same R _ q (s1.and nq) (s1.free nq) ?_⟩
    rw [upd_same, List.length_map, hal]
    rfl
end
end Fr
namespace Fr
open PySem PySem.Spec PyProof.Rows L2
theorem act_record {s : Vbaval.St} (O : FrM.Ok s) (l : List Int) : Vbaval.act s (.record l) = if 65535 < s.next then (s, [-6]) else if Vbaval.valuesOk s.params s.next l = false then (s, [-4])
    else ((Vbaval.recorded s (Vbaval.nats l)).1, [if (Vbaval.recorded s (Vbaval.nats l)).2 = true then 1 else 0, (s.next : Int)]) := if_neg (fun e => by rw [O.laid] at e; cases e)
theorem limN_ration (s : Vbaval.St) {n : Nat} (h : n = s.len + 8) : limN n s.fuse = FrM.ration s := by
  unfold limN FrM.ration
  cases s.fuse with
  | none => exact h
  | some k => rfl
theorem hurtB_wrote (s : Vbaval.St) (O : FrM.Ok s) (vs : List Nat) : hurtB (FrM.wrote s vs) = if FrM.ration s = 0 then hurtB s else (hurtB s).set (FrM.slotAt s) false := by
  have hl : (FrM.wrote s vs).slots.length = s.slots.length := List.length_set ..
  by_cases c : FrM.ration s = 0
  · rw [if_pos c]
    have hh : (FrM.wrote s vs).hurt = s.hurt := by
      show (if FrM.ration s = 0 then s.hurt else _) = _
      rw [if_pos c]
    unfold hurtB
    rw [hl, hh]
  · rw [if_neg c]
    have hh : (FrM.wrote s vs).hurt = s.hurt.filter fun x => x != FrM.slotAt s := by
      show (if FrM.ration s = 0 then s.hurt else _) = _
      rw [if_neg c]
    apply List.ext_getElem?
    intro j
    by_cases hj : j < s.slots.length
    · rw [hurtB_get _ (by rw [hl]; exact hj), hh]
      have hc : (s.hurt.filter fun x => x != FrM.slotAt s).contains j = (s.hurt.contains j && (j != FrM.slotAt s)) := by
        rw [Bool.eq_iff_iff, Bool.and_eq_true, List.contains_iff_mem, List.contains_iff_mem, List.mem_filter]
      rw [hc]
      by_cases q : FrM.slotAt s = j
      · rw [q, List.getElem?_set_self (by rw [hurtB_len]; exact hj)]
        simp
      · rw [List.getElem?_set_ne q, hurtB_get _ hj]
        have : (j != FrM.slotAt s) = true := by simp [Ne.symm q]
        rw [this, Bool.and_true]
    · rw [List.getElem?_eq_none (by rw [hurtB_len, hl]; omega), List.getElem?_eq_none (by rw [List.length_set, hurtB_len]; omega)]
theorem zip_nats {ws : List Nat} {l : List Int} (h : ∀ p ∈ ws.zip l, Vbaval.within p.2 0 ((2 ^ p.1 : Nat) - 1) = true) : ∀ p ∈ ws.zip (Vbaval.nats l), p.2 < 2 ^ p.1 := fun p hp => by
  unfold Vbaval.nats at hp
  rw [List.zip_map_right] at hp
  obtain ⟨q, hq, rfl⟩ := List.mem_map.mp hp
  have := FrM.within_iff.mp (h q hq)
  show q.2.toNat < 2 ^ q.1
  omega
theorem zip_pos {ws : List Nat} {l : List Int} (hl : l.length = ws.length) (h : ∀ p ∈ ws.zip l, Vbaval.within p.2 0 ((2 ^ p.1 : Nat) - 1) = true) : ∀ x ∈ l, 0 ≤ x := fun x hx => by
  obtain ⟨i, hi⟩ := List.getElem?_of_mem hx
  have hil : i < ws.length := by rw [← hl]; exact (List.getElem?_eq_some_iff.mp hi).1
  have hm : (ws[i], x) ∈ ws.zip l := by
    refine List.mem_of_getElem? (i := i) ?_
    rw [List.getElem?_zip_eq_some]
    exact ⟨List.getElem?_eq_getElem hil, hi⟩
  exact (FrM.within_iff.mp (h _ hm)).1
section
variable {P : Program} {w : World} {K : PySem.W.Frag} {mg : Str → Option Value} {base : Heap} {C : CC}
def spRecRecord (K : PySem.W.Frag) (C : CC) : Sp := fun vs H Q _ => ∃ (a : RA) (s : Vbaval.St) (b : Addr) (l : List Int), vs = [.ref a.r, .ref b] ∧ RecIs C H a s ∧ SqL K H b (iv l) ∧ l.length ≤ 1000 ∧ AnsR C H a (Vbaval.act s (.record l)) Q
theorem scRecRecord : FnScope ["self", "samples", "number", "widths", "frame", "recorded"] ["self", "samples"] (defScope sRecRecord) := ⟨rfl, rfl, rfl, by decide +kernel, rfl, by decide +kernel, by decide +kernel⟩
theorem d_recRecord (F : FunM K C.r "record" "Recorder.record" sRecRecord) (TC : TxtC mg) (T : TxtRec K C.r) (TR : TxtR K mg C.g) (DW : Def P w K mg base "frame_widths" 3 ["parameters", "number"] (spWidths C.p)) (DV : Def P w K mg base "values_fit" 1 ["widths", "samples"] (spFit K))
    (DB : Def P w K mg base "frame_bytes" 3 ["number", "widths", "samples", "length"] (spFrame K)) (DWr : DefM P w K mg base C.g "write_frame" 1 ["self", "number", "frame", "limit"] (spRWrite C.g)) (DF : DefM P w K mg base C.r "found" 6 ["self"] (spRecFound C)) :
    DefM P w K mg base C.r "record" 7 ["self", "samples"] (spRecRecord K C) := by
  obtain ⟨f, fd, F, hm⟩ := F
  refine ⟨f, fd, ?_, hm, F.binds fun _ _ _ _ _ _ us hl => match us, hl with | [_, _], _ => rfl⟩
  refine F.ok scRecRecord (fun vs H Q E h => ?_) (fun cdv A outer s H vs Q E hr h => ?_)
  · obtain ⟨a, s, b, l, rfl, _⟩ := h
    rfl
  · obtain ⟨a, s, b, l, rfl, R, hB, hll, k⟩ := h
    have nd := scRecRecord.nd
    have hr1 : Room 1 _ := hr.mono (by decide)
    have hr3 : Room 3 _ := hr.mono (by decide)
    have O := R.ok
    obtain ⟨tL, hL⟩ := TC.LAST_NUMBER
    obtain ⟨tU, hU⟩ := TC.NUMBERS_USED_UP
    obtain ⟨tV, hV⟩ := TC.WRONG_VALUES
    rw [act_record O] at k
    refine ⟨_, pss_cons (ps_set (i := 2) nd rfl (Or.inl rfl) (pe_fld (pv 0) rfl))
      (pss_cons (ps_if (pt_cmpR op_gt (pv 2) (pe_glob (v := .int 65535) rfl hL ⟨_, rfl⟩) (nomark _)) (pss_one (ps_ret (pe_lst (pa_cons (pe_glob (v := .int (-6)) rfl hU ⟨_, rfl⟩) pa_nil)))) pss_nil)
      (pss_cons (ps_set (i := 3) nd rfl (Or.inl rfl) (pe_fn DW hr3 rfl (pa_cons (pe_fld (pv 0) rfl) (pa_cons (pv 2) pa_nil))))
      (pss_cons (ps_if (pt_not (pt_val (pe_fn DV hr1 rfl (pa_cons (pv 3) (pa_cons (pv 1) pa_nil))))) (pss_one (ps_ret (pe_lst (pa_cons (pe_glob (v := .int (-4)) rfl hV ⟨_, rfl⟩) pa_nil)))) pss_nil)
      (pss_cons (ps_set (i := 4) nd rfl (Or.inl rfl) (pe_fn DB hr3 rfl (pa_cons (pv 2) (pa_cons (pv 3) (pa_cons (pv 1) (pa_cons (pe_fld (pv 0) rfl) pa_nil))))))
      (pss_cons (ps_set (i := 5) nd rfl (Or.inl rfl) (pe_mt (pe_fld (pv 0) rfl) TR.cl DWr hr1 (pa_cons (pv 2) (pa_cons (pv 4) (pa_cons (pe_fld (pv 0) rfl) pa_nil)))))
      (pss_cons (ps_fld (pv 0) pe_non rfl)
      (pss_cons (ps_if (pt_val (pv 5)) (pss_cons (ps_fld (pv 0) (pe_op op_add (pv 2) pe_int) rfl) (pss_cons (ps_fldaug (pv 0) pe_int in_add) (pss_one (ps_ret (pe_lst (pa_cons pe_int (pa_cons (pv 2) pa_nil))))))) pss_nil)
      (pss_cons (ps_fld (pv 0) (pe_mt0 (pv 0) T.cl DF hr) rfl)
      (pss_cons (ps_fldaug (pv 0) pe_int in_add) (pss_one (ps_ret (pe_lst (pa_cons pe_int (pa_cons (pv 2) pa_nil)))))))))))))), ?_⟩
    refine ⟨_, rfl, a.r, C.r, a.dr, _, _, rfl, R.obj, T.cl, T.nU, rfl, ?_⟩
    refine ⟨_, rfl, _, _, rfl, rfl, _, rfl, ite2 (fun c => ?_) (fun c => ?_)⟩
    · have c1 : (65535 : Int) < (s.next : Nat) := of_decide_eq_true c
      rw [if_pos (by omega)] at k
      exact ⟨(by show 1 ≤ sizeLine; decide), fun p np => k.same R _ p (Same.new np) np upd_same⟩
    have hn : s.next ≤ 65535 := by
      have c1 : ¬ (65535 : Int) < (s.next : Nat) := fun q => c (decide_eq_true q)
      omega
    rw [if_neg (by omega)] at k
    refine ⟨_, rfl, a.r, C.r, a.dr, _, _, rfl, R.obj, T.cl, T.nP, rfl, _, rfl, a.pa, s.params, s.next, rfl, R.par, ok_per O, by have := O.plen; omega, fun H1 p1 s1 n1 e1 => ?_⟩
    have hwl := widths_len O s.next
    have hws := FrM.widthsOf_fit O.par O.fits s.next
    refine ⟨_, rfl, _, rfl, p1, b, _, l, rfl, SqL.of e1, s1.seq hB, widths_mem O s.next, by omega, hll, fun H2 s2 => ⟨_, rfl, ite2 (fun c2 => ?_) (fun c2 => ?_)⟩⟩
    · have c' : Vbaval.valuesOk s.params s.next l = false := (Bool.not_eq_true' _).mp c2
      rw [if_pos c'] at k
      have s02 := s1.trans s2
      exact ⟨(by show 1 ≤ sizeLine; decide), fun p np => k.same R _ p (s02.and np) (s02.free np) upd_same⟩
    have c' : Vbaval.valuesOk s.params s.next l = true := by
      rw [Bool.not_eq_true, Bool.not_eq_false'] at c2
      exact c2
    rw [if_neg (by rw [c']; decide)] at k
    have hval : l.length = (Vbaval.widthsOf s.params s.next).length ∧ ∀ p ∈ (Vbaval.widthsOf s.params s.next).zip l, Vbaval.within p.2 0 ((2 ^ p.1 : Nat) - 1) = true := by
      unfold Vbaval.valuesOk at c'
      rw [Bool.and_eq_true, beq_iff_eq, List.all_eq_true] at c'
      exact c'
    obtain ⟨hv1, hv2⟩ := hval
    have hnl : (Vbaval.nats l).length = l.length := List.length_map ..
    have R2 := R.grow (s1.trans s2)
    have hB2 : SqL K H2 b (nv (Vbaval.nats l)) := by
      rw [nats_nv (zip_pos hv1 hv2)]
      exact (s1.trans s2).seq hB
    refine ⟨_, rfl, _, rfl, _, rfl, _, rfl, a.r, C.r, a.dr, _, _, rfl, R2.obj, T.cl, T.nL, rfl, s.next, p1, b, _, Vbaval.nats l, s.len, rfl, hn, SqL.of (s2 _ _ e1), hB2, by omega, zip_nats hv2, hws, O.len.2, by omega, fun head hhead H3 p3 s3 n3 e3 => ?_⟩
    have efr : head ++ (Vbaval.two (Vbaval.sum head) ++ Vbaval.two s.next) = FrM.frameAt s (Vbaval.nats l) := by rw [hhead]; rfl
    rw [efr] at e3
    have s03 := (s1.trans s2).trans s3
    have R3 := R.grow s03
    have hfl := FrM.frameAt_length s (Vbaval.nats l)
    have hat := O.at_lt
    have hsl : s.slots[s.next % s.slots.length]? = some (Vbaval.slotOf s (FrM.slotAt s)) := FrM.slot_some hat
    have hsl2 := O.slen _ (FrM.slot_mem hat)
    have hlen := O.len.2
    have hlim : limN ((FrM.frameAt s (Vbaval.nats l)).length + 2) s.fuse = FrM.ration s := limN_ration s (by omega)
    refine ⟨_, rfl, a.r, C.r, a.dr, _, _, rfl, R3.obj, T.cl, T.nG, rfl, a.g, a.dg, _, rfl, R3.ring.obj, rfl, _, rfl, _, rfl, _, rfl, a.r, C.r, a.dr, _, _, rfl, R3.obj, T.cl, T.nC, rfl,
      a.g, a.dg, a.sl, a.hl, a.as, s.len, s.slots, hurtB s, s.next, p3, FrM.frameAt s (Vbaval.nats l), s.fuse, Vbaval.slotOf s (FrM.slotAt s), rfl, R3.ring, ok_ne O, hsl, by omega, by omega, e3, fun H4 G4 F4 => ?_⟩
    rw [hlim] at G4 ⊢
    rw [hfl, show s.len + 6 + 2 = s.len + 8 by omega]
    have hO1 : FrM.Ok (FrM.wrote s (Vbaval.nats l)) := O.wrote hn _
    have G4' : RingIs C.g H4 a.g a.dg a.sl a.hl a.as (FrM.wrote s (Vbaval.nats l)).len (FrM.wrote s (Vbaval.nats l)).slots (hurtB (FrM.wrote s (Vbaval.nats l))) := by
      rw [hurtB_wrote s O]; exact G4
    obtain ⟨obj4, R4⟩ := R3.wrote F4 G4' rfl hO1
    have hOr := O.recorded hn (Vbaval.nats l)
    rw [FrM.recorded_eq] at k hOr
    have fr4 : FrR a H H4 := (FrR.of s03).trans (FrR.ring F4)
    have free4 : ∀ p, H4 p = none → H p = none := fun p np => s03.free (wrote_free R3.ring F4 G4 np)
    refine ⟨_, rfl, a.r, C.r, a.dr, _, rfl, obj4, T.cl, T.nC, (by show 9 < 1000; decide), ?_⟩
    have e4 : putF "cut_after" .non (recF a.g a.pa s) = recF a.g a.pa (FrM.wrote s (Vbaval.nats l)) := rfl
    rw [e4]
    generalize hH5 : upd H4 a.r (.ins C.r a.dr (recF a.g a.pa (FrM.wrote s (Vbaval.nats l)))) = H5 at R4 ⊢
    have fr5 : FrR a H H5 := by rw [← hH5]; exact fr4.trans FrR.own
    have free5 : ∀ p, H5 p = none → H p = none := fun p np => by rw [← hH5] at np; exact free4 p (upd_free np)
    refine ⟨_, rfl, _, rfl, ite2 (fun c3 => ?_) (fun c3 => ?_)⟩
    · have c4 : s.len + 8 ≤ FrM.ration s := of_decide_eq_true c3
      rw [if_pos c4] at k hOr
      have R6 := R4.own (t := { FrM.wrote s (Vbaval.nats l) with next := s.next + 1, done := s.done + 1 }) rfl rfl rfl rfl hOr
      refine ⟨_, rfl, _, _, rfl, rfl, _, rfl, a.r, C.r, a.dr, _, rfl, R4.obj, T.cl, T.nU, (by show 9 < 1000; decide), ?_⟩
      refine ⟨_, rfl, a.r, C.r, a.dr, _, _, rfl, upd_same, T.cl, T.nR, rfl, _, _, rfl, rfl, a.dr, _, upd_same, (by show 9 < 1000; decide), ?_⟩
      rw [upd_upd]
      have e6 : putF "frames_recorded" (.int ((s.done : Int) + 1)) (putF "upcoming" (.int ((s.next : Int) + 1)) (recF a.g a.pa (FrM.wrote s (Vbaval.nats l)))) = recF a.g a.pa { FrM.wrote s (Vbaval.nats l) with next := s.next + 1, done := s.done + 1 } := rfl
      refine ⟨_, rfl, (by show 2 ≤ sizeLine; decide), fun p np => k _ p (R6.grow (Same.new np)) (fr5.trans (FrR.own.trans (FrR.of (Same.new np)))) (free5 p (upd_free np)) upd_same⟩
    · have c4 : ¬ s.len + 8 ≤ FrM.ration s := fun q => c3 (decide_eq_true q)
      rw [if_neg c4] at k hOr
      refine ⟨_, rfl, a.r, a.dr, _, rfl, R4.obj, rfl, a, _, rfl, R4, fun H6 s6 => ?_⟩
      have R6 := R4.grow s6
      have R7 := R6.own (t := { FrM.wrote s (Vbaval.nats l) with next := Vbaval.found (FrM.wrote s (Vbaval.nats l)), cuts := s.cuts + 1 }) rfl rfl rfl rfl hOr
      refine ⟨_, rfl, a.r, C.r, a.dr, _, rfl, R6.obj, T.cl, T.nU, (by show 9 < 1000; decide), ?_⟩
      refine ⟨_, rfl, a.r, C.r, a.dr, _, _, rfl, upd_same, T.cl, T.nW, rfl, _, _, rfl, rfl, a.dr, _, upd_same, (by show 9 < 1000; decide), ?_⟩
      rw [upd_upd]
      refine ⟨_, rfl, (by show 2 ≤ sizeLine; decide), fun p np => k _ p (R7.grow (Same.new np)) (fr5.trans ((FrR.of s6).trans (FrR.own.trans (FrR.of (Same.new np))))) (free5 p (s6.free (upd_free np))) upd_same⟩
def spRecInit (C : CC) : Sp := fun vs H Q _ => ∃ (r dr : Addr) (n len first : Nat) (pa : Addr) (ps : List Vbaval.Param), vs = [.ref r, .int (n : Nat), .int (len : Nat), .int (first : Nat), .ref pa] ∧ H r = some (.ins C.r dr []) ∧ ParsAt C.p H pa ps ∧ n ≤ 16 ∧ len ≤ 16 ∧ FrM.Ok (FrM.laidSt n len first ps) ∧
  ∀ H' (a : RA), a.r = r → a.pa = pa → RecIs C H' a (FrM.laidSt n len first ps) → But r H H' → (∀ c ∈ a.as, H c = none) → H a.hl = none → Q .non H'
theorem scRecInit : FnScope ["self", "slots", "length", "first", "parameters"] ["self", "slots", "length", "first", "parameters"] (defScope sRecInit) := ⟨rfl, rfl, rfl, by decide +kernel, rfl, by decide +kernel, by decide +kernel⟩
theorem hurtB_laid (n len first : Nat) (ps : List Vbaval.Param) : hurtB (FrM.laidSt n len first ps) = List.replicate n false := by
  unfold hurtB
  have : (FrM.laidSt n len first ps).slots.length = n := List.length_replicate ..
  rw [this]
  refine List.ext_getElem? fun j => ?_
  by_cases hj : j < n
  · rw [List.getElem?_map, List.getElem?_range hj, List.getElem?_replicate_of_lt hj]
    rfl
  · rw [List.getElem?_eq_none (by rw [List.length_map, List.length_range]; omega), List.getElem?_eq_none (by rw [List.length_replicate]; omega)]
theorem d_recInit (F : FunC K mg C.r "Recorder" "Recorder.__init__" sRecInit) (T : TxtRec K C.r) (DR : DefC P w K mg base C.g "Ring" 1 ["self", "size", "length"] (spRInit C.g)) : DefC P w K mg base C.r "Recorder" 3 ["self", "slots", "length", "first", "parameters"] (spRecInit C) := by
  obtain ⟨f, fd, F, M, hm⟩ := F
  refine ⟨f, fd, ?_, M, hm, F.binds fun _ _ _ _ _ _ us hl => match us, hl with | [_, _, _, _, _], _ => rfl⟩
  refine F.ok scRecInit (fun vs H Q E h => ?_) (fun cdv A outer s H vs Q E hr h => ?_)
  · obtain ⟨r, dr, n, len, first, pa, ps, rfl, _⟩ := h
    rfl
  · obtain ⟨r, dr, n, len, first, pa, ps, rfl, hR, hP, hn, hlen, O, k⟩ := h
    refine ⟨_, pss_cons (ps_fld (pv 0) (pe_cl DR hr rfl (pa_cons (pv 1) (pa_cons (pv 2) pa_nil))) rfl) (pss_cons (ps_fld (pv 0) (pv 2) rfl) (pss_cons (ps_fld (pv 0) (pv 3) rfl) (pss_cons (ps_fld (pv 0) (pv 4) rfl) (pss_cons (ps_fld (pv 0) (pv 3) rfl)
      (pss_cons (ps_fld (pv 0) pe_non rfl) (pss_cons (ps_fld (pv 0) pe_int rfl) (pss_cons (ps_fld (pv 0) pe_int rfl) (pss_one (ps_fld (pv 0) pe_int rfl))))))))), ?_⟩
    refine ⟨_, rfl, _, rfl, fun g dg ng ndg dne => ⟨g, dg, n, len, rfl, upd_same, hn, hlen, fun H1 sl hl as G1 b1 na nh => ⟨rfl, ?_⟩⟩⟩
    have s1 : Same H H1 := fun c o ec => b1 c o (by rw [upd_ne (ne_of_none ec ng), upd_ne (ne_of_none ec ndg)]; exact ec) (ne_of_none ec ng)
    have hr1 := s1 _ _ hR
    refine ⟨_, rfl, r, C.r, dr, _, rfl, hr1, T.cl, T.nG, (by show 0 < 1000; decide), ?_⟩
    refine ⟨_, rfl, _, rfl, r, C.r, dr, _, rfl, upd_same, T.cl, T.nL, (by show 1 < 1000; decide), ?_⟩
    refine ⟨_, rfl, _, rfl, r, C.r, dr, _, rfl, upd_same, T.cl, T.nF, (by show 2 < 1000; decide), ?_⟩
    refine ⟨_, rfl, _, rfl, r, C.r, dr, _, rfl, upd_same, T.cl, T.nP, (by show 3 < 1000; decide), ?_⟩
    refine ⟨_, rfl, _, rfl, r, C.r, dr, _, rfl, upd_same, T.cl, T.nU, (by show 4 < 1000; decide), ?_⟩
    refine ⟨_, rfl, r, C.r, dr, _, rfl, upd_same, T.cl, T.nC, (by show 5 < 1000; decide), ?_⟩
    refine ⟨_, rfl, r, C.r, dr, _, rfl, upd_same, T.cl, T.nR, (by show 6 < 1000; decide), ?_⟩
    refine ⟨_, rfl, r, C.r, dr, _, rfl, upd_same, T.cl, T.nW, (by show 7 < 1000; decide), ?_⟩
    refine ⟨_, rfl, r, C.r, dr, _, rfl, upd_same, T.cl, T.nB, (by show 8 < 1000; decide), ?_⟩
    rw [upd_upd, upd_upd, upd_upd, upd_upd, upd_upd, upd_upd, upd_upd, upd_upd]
    have ngr : g ≠ r := fun q => by rw [q, hR] at ng; cases ng
    have nl : ∀ xs, H1 r ≠ some (.lst xs) := fun xs e => by rw [hr1] at e; cases e
    have np : ∀ dx p, H1 r ≠ some (.ins C.p dx (pf p)) := fun dx p e => by
      rw [hr1] at e
      have e' := (HO.ins.inj (Option.some.inj e)).2.2
      have := congrArg List.length e'
      exact absurd this (by show ¬ (0 : Nat) = 3; decide)
    refine k _ ⟨r, dr, g, dg, sl, hl, pa, as⟩ rfl rfl ⟨upd_same, ?_, pars_put (s1.pars hP) nl np, O⟩ (fun c o ec hc => by rw [upd_ne hc]; exact s1 _ _ ec) (fun c hc => upd_free (upd_free (na c hc))) (upd_free (upd_free nh))
    rw [hurtB_laid]
    exact G1.put ngr nl
end
end Fr
namespace Fr
open PySem PySem.Spec PyProof.Rows L2
theorem and_b {ta tb : TE} {σ : L2.St} {H : Hp} {Q : VK} {a b : Bool} (ha : ∀ Q' : VK, Q' (.bl a) H → ta σ H Q') (hb : ∀ Q' : VK, Q' (.bl b) H → tb σ H Q') (h : Q (.bl (a && b)) H) : tAndV ta tb σ H Q := by
  refine ha _ ⟨a, rfl, ite2 (fun c => hb _ ?_) (fun c => ?_)⟩
  · rw [c, Bool.true_and] at h; exact h
  · rw [Bool.not_eq_true] at c
    rw [c, Bool.false_and] at h; exact h
/-- what S protects is kept -/
def KS (S : Addr → Prop) (H H' : Hp) : Prop := ∀ c o, S c → H c = some o → H' c = some o
theorem KS.of {S : Addr → Prop} {H H' : Hp} (s : Same H H') : KS S H H' := fun c o _ e => s c o e
theorem KS.trans {S : Addr → Prop} {H H1 H2 : Hp} (x : KS S H H1) (y : KS S H1 H2) : KS S H H2 := fun c o h e => y c o h (x c o h e)
theorem KS.put {S : Addr → Prop} {H : Hp} {a : Addr} {o : HO} (n : ¬ S a) : KS S H (upd H a o) := fun c u h e => by rw [upd_ne (fun q => n (by rw [← q]; exact h))]; exact e
structure RecIn (S : Addr → Prop) (C : CC) (H : Hp) (a : RA) (s : Vbaval.St) : Prop where
  is_ : RecIs C H a s
  nr : ¬ S a.r
  nh : ¬ S a.hl
  np : ¬ S a.pa
  na : ∀ c ∈ a.as, ¬ S c
theorem RecIn.ks {S : Addr → Prop} {C : CC} {H H' : Hp} {a : RA} {s : Vbaval.St} (R : RecIn S C H a s) (f : FrR a H H') : KS S H H' := fun c o h e => f c o e (fun q => R.na c q h) (fun q => R.nh (by rw [← q]; exact h)) (fun q => R.nr (by rw [← q]; exact h))
def LineIs (S : Addr → Prop) (CL : Addr) (C : CC) (H : Hp) (l dl : Addr) (s : Vbaval.St) : Prop := ¬ S l ∧ ((H l = some (.ins CL dl (fl [("recorder", .non)])) ∧ s = Vbaval.start) ∨ ∃ a : RA, H l = some (.ins CL dl (fl [("recorder", .ref a.r)])) ∧ RecIn S C H a s)
structure TxtLn (K : PySem.W.Frag) (CL : Addr) : Prop where
  cl : Cls K CL
  nR : NoAttr K CL "recorder"
/-- an object of one field is apart from the recorder -/
theorem RecIs.put {C : CC} {H : Hp} {a : RA} {s : Vbaval.St} (R : RecIs C H a s) {c : Addr} {CL dl : Addr} {fs : List (Str × V)} {o : HO} (hc : H c = some (.ins CL dl fs)) (hl : fs.length = 1) : RecIs C (upd H c o) a s := by
  have nf : ∀ (C' d' : Addr) (fs' : List (Str × V)) (x : Addr), H x = some (.ins C' d' fs') → fs'.length ≠ 1 → x ≠ c := fun C' d' fs' x e hn q => by
    rw [q, hc] at e
    have e' := (HO.ins.inj (Option.some.inj e)).2.2
    rw [← e'] at hn
    exact hn hl
  have nl : ∀ xs, H c ≠ some (.lst xs) := fun xs e => by rw [hc] at e; cases e
  refine ⟨by rw [upd_ne (nf _ _ _ _ R.obj (by show ¬ (9 : Nat) = 1; decide))]; exact R.obj, R.ring.put (nf _ _ _ _ R.ring.obj (by show ¬ (4 : Nat) = 1; decide)) nl, pars_put R.par nl (fun dx p e => ?_), R.ok⟩
  rw [hc] at e
  have e' := (HO.ins.inj (Option.some.inj e)).2.2
  rw [e'] at hl
  exact absurd hl (by show ¬ (3 : Nat) = 1; decide)
theorem RecIs.nline {C : CC} {H : Hp} {a : RA} {s : Vbaval.St} (R : RecIs C H a s) {c : Addr} {CL dl : Addr} {fs : List (Str × V)} (hc : H c = some (.ins CL dl fs)) (hl : fs.length = 1) : c ∉ a.as ∧ c ≠ a.hl ∧ c ≠ a.r := by
  have ap := ring_apart R.ring (ok_ne R.ok) (ok_nil R.ok) hc (.inr fun xs q => by cases q)
  refine ⟨ap.1, ap.2, fun q => ?_⟩
  rw [q, R.obj] at hc
  have e' := (HO.ins.inj (Option.some.inj hc)).2.2
  rw [← e'] at hl
  exact absurd hl (by show ¬ (9 : Nat) = 1; decide)
theorem fits_iff {len : Nat} {ps : List Vbaval.Param} : Vbaval.fitsIn len ps = true ↔ ∀ n, n < 16 → (Vbaval.widthsOf ps n).sum ≤ 8 * len := by
  unfold Vbaval.fitsIn
  rw [List.all_eq_true]
  constructor
  · intro h n hn
    have := of_decide_eq_true (h n (List.mem_range.mpr hn))
    rw [FrM.sum_eq] at this
    exact this
  · intro h n hn
    refine decide_eq_true ?_
    rw [FrM.sum_eq]
    exact h n (List.mem_range.mp hn)
theorem paramsOf_some {l : List Int} {ps : List Vbaval.Param} (h : Vbaval.paramsOf l = some ps) : ∃ m, l.length = 3 * m ∧ (∀ i, i < m → FrM.okAt l i = true) ∧ ps = (List.range m).map (FrM.parAt l) := by
  by_cases c : l.length % 3 = 0
  · obtain ⟨m, hm⟩ : ∃ m, l.length = 3 * m := ⟨l.length / 3, by omega⟩
    rw [FrM.paramsOf_eq m l hm] at h
    by_cases c2 : (List.range m).all (FrM.okAt l) = true
    · rw [if_pos c2] at h
      exact ⟨m, hm, fun i hi => List.all_eq_true.mp c2 i (List.mem_range.mpr hi), (Option.some.inj h).symm⟩
    · rw [if_neg c2] at h; cases h
  · rw [FrM.paramsOf_odd l c] at h; cases h
section
variable {P : Program} {w : World} {K : PySem.W.Frag} {mg : Str → Option Value} {base : Heap} {C : CC} {CL : Addr}
def spLInit (CL : Addr) : Sp := fun vs H Q _ => ∃ (l dl : Addr), vs = [.ref l] ∧ H l = some (.ins CL dl []) ∧ ∀ H', H' l = some (.ins CL dl (fl [("recorder", .non)])) → But l H H' → Q .non H'
theorem scLInit : FnScope ["self"] ["self"] (defScope sLInit) := ⟨rfl, rfl, rfl, by decide +kernel, rfl, by decide +kernel, by decide +kernel⟩
theorem d_lInit (F : FunC K mg CL "CallLine" "CallLine.__init__" sLInit) (T : TxtLn K CL) : DefC P w K mg base CL "CallLine" 1 ["self"] (spLInit CL) := by
  obtain ⟨f, fd, F, M, hm⟩ := F
  refine ⟨f, fd, ?_, M, hm, F.binds fun _ _ _ _ _ _ us hl => match us, hl with | [_], _ => rfl⟩
  refine F.ok scLInit (fun vs H Q E h => ?_) (fun cdv A outer s H vs Q E hr h => ?_)
  · obtain ⟨l, dl, rfl, _⟩ := h
    rfl
  · obtain ⟨l, dl, rfl, hL, k⟩ := h
    exact ⟨_, pss_one (ps_fld (pv 0) pe_non rfl), _, rfl, l, CL, dl, _, rfl, hL, T.cl, T.nR, (by show 0 < 1000; decide), k _ upd_same But.upd⟩
/-- what a call on the line answers -/
def AnsL (S : Addr → Prop) (CL : Addr) (C : CC) (H : Hp) (l dl : Addr) (x : Vbaval.St × List Int) (Q : VK) : Prop := ∀ (H' : Hp) (p : Addr), LineIs S CL C H' l dl x.1 → KS S H H' → H p = none → H' p = some (.lst (iv x.2)) → Q (.ref p) H'
theorem LineIs.grow {S : Addr → Prop} {H H' : Hp} {l dl : Addr} {s : Vbaval.St} (h : LineIs S CL C H l dl s) (e : Same H H') : LineIs S CL C H' l dl s := by
  obtain ⟨h1, h2 | ⟨a, h2, h3⟩⟩ := h
  · exact ⟨h1, .inl ⟨e _ _ h2.1, h2.2⟩⟩
  · exact ⟨h1, .inr ⟨a, e _ _ h2, h3.is_.grow e, h3.nr, h3.nh, h3.np, h3.na⟩⟩
theorem AnsL.same {S : Addr → Prop} {H : Hp} {l dl : Addr} {s : Vbaval.St} {x : List Int} {Q : VK} (k : AnsL S CL C H l dl (s, x) Q) (L : LineIs S CL C H l dl s) : RetL H Q (iv x) := fun H' p s' np e => k H' p (L.grow s') (KS.of s') np e
def spLLay (K : PySem.W.Frag) (C : CC) (CL : Addr) : Sp := fun vs H Q _ => ∃ (S : Addr → Prop) (l dl : Addr) (s : Vbaval.St) (x y z : Int) (b : Addr) (row : List Int), vs = [.ref l, .int x, .int y, .int z, .ref b] ∧ LineIs S CL C H l dl s ∧ SqL K H b (iv row) ∧ row.length ≤ 100000 ∧
  (∀ c, S c → ∃ o, H c = some o) ∧ AnsL S CL C H l dl (Vbaval.act s (.lay x y z row)) Q
theorem scLLay : FnScope ["self", "slots", "length", "first", "row", "in_range", "parameters"] ["self", "slots", "length", "first", "row"] (defScope sLLay) := ⟨rfl, rfl, rfl, by decide +kernel, rfl, by decide +kernel, by decide +kernel⟩
theorem d_lLay (F : FunM K CL "lay" "CallLine.lay" sLLay) (TC : TxtC mg) (T : TxtLn K CL) (DA : Def P w K mg base "are_parameters" 2 ["numbers"] (spArePar K)) (DP : Def P w K mg base "parameters_of" 3 ["numbers"] (spParOf K C.p)) (DW : Def P w K mg base "widest_frame" 4 ["parameters"] (spWidest C.p))
    (DR : DefC P w K mg base C.r "Recorder" 3 ["self", "slots", "length", "first", "parameters"] (spRecInit C)) : DefM P w K mg base CL "lay" 5 ["self", "slots", "length", "first", "row"] (spLLay K C CL) := by
  obtain ⟨f, fd, F, hm⟩ := F
  refine ⟨f, fd, ?_, hm, F.binds fun _ _ _ _ _ _ us hl => match us, hl with | [_, _, _, _, _], _ => rfl⟩
  refine F.ok scLLay (fun vs H Q E h => ?_) (fun cdv A outer s H vs Q E hr h => ?_)
  · obtain ⟨S, l, dl, s, x, y, z, b, row, rfl, _⟩ := h
    rfl
  · obtain ⟨S, l, dl, s, x, y, z, b, row, rfl, L, hB, hrl, hdom, k⟩ := h
    have nd := scLLay.nd
    have hr2 : Room 2 _ := hr.mono (by decide)
    have hr3 : Room 3 _ := hr.mono (by decide)
    obtain ⟨tL, hL⟩ := TC.LAST_NUMBER
    obtain ⟨tO, hO⟩ := TC.OUT_OF_RANGE
    obtain ⟨tF, hF⟩ := TC.FRAME_TOO_WIDE
    refine ⟨_, pss_cons (ps_set (i := 5) nd rfl (Or.inl rfl) (pe_and (pe_chain op_le op_le pe_int (pv 1) pe_int) (pe_and (pe_chain op_le op_le pe_int (pv 2) pe_int) (pe_one (pe_chain op_le op_le pe_int (pv 3) (pe_glob (v := .int 65535) rfl hL ⟨_, rfl⟩))))))
      (pss_cons (ps_if (PW.pt (pw_or (pt_not (pt_val (pv 5))) (pw_or1 (pt_not (pt_val (pe_fn DA hr2 rfl (pa_cons (pv 4) pa_nil))))))) (pss_one (ps_ret (pe_lst (pa_cons (pe_glob (v := .int (-1)) rfl hO ⟨_, rfl⟩) pa_nil)))) pss_nil)
      (pss_cons (ps_set (i := 6) nd rfl (Or.inl rfl) (pe_fn DP hr3 rfl (pa_cons (pv 4) pa_nil)))
      (pss_cons (ps_if (pt_cmpR op_gt (pe_fn DW hr rfl (pa_cons (pv 6) pa_nil)) (pe_op op_mul pe_int (pv 2)) (nomark _)) (pss_one (ps_ret (pe_lst (pa_cons (pe_glob (v := .int (-3)) rfl hF ⟨_, rfl⟩) pa_nil)))) pss_nil)
      (pss_cons (ps_fld (pv 0) (pe_cl DR hr rfl (pa_cons (pv 1) (pa_cons (pv 2) (pa_cons (pv 3) (pa_cons (pv 6) pa_nil))))) rfl)
      (pss_one (ps_ret (pe_lst (pa_cons (pe_op op_add (pv 2) pe_int) pa_nil)))))))), ?_⟩
    have eact : Vbaval.act s (.lay x y z row) = if (Vbaval.within x 2 16 && (Vbaval.within y 1 16 && (Vbaval.within z 0 65535 && decide (row.length ≤ 36)))) = false then (s, [-1])
        else match Vbaval.paramsOf row with
          | none => (s, [-1])
          | some ps => if Vbaval.fitsIn y.toNat ps = false then (s, [-3]) else (FrM.laidSt x.toNat y.toNat z.toNat ps, [y + 7]) := rfl
    rw [eact] at k
    have refuse : ((Vbaval.within x 2 16 && (Vbaval.within y 1 16 && Vbaval.within z 0 65535)) && (decide (row.length ≤ 36) && (Vbaval.paramsOf row).isSome)) = false → ∀ H1 (σ : L2.St), Same H H1 → tLst (tCons (tC (.int (-1))) tNil) σ H1 Q := fun e H1 σ s1 => by
      have k1 : AnsL S CL C H l dl (s, [-1]) Q := by
        by_cases c : (Vbaval.within x 2 16 && (Vbaval.within y 1 16 && (Vbaval.within z 0 65535 && decide (row.length ≤ 36)))) = false
        · rw [if_pos c] at k; exact k
        · rw [if_neg c] at k
          rw [Bool.not_eq_false] at c
          simp only [Bool.and_eq_true] at c
          obtain ⟨c1, c2, c3, c4⟩ := c
          rw [c1, c2, c3, c4, Bool.true_and, Bool.true_and, Bool.true_and, Bool.true_and] at e
          cases q : Vbaval.paramsOf row with
          | none => rw [q] at k; exact k
          | some ps => rw [q] at e; cases e
      exact ⟨(by show 1 ≤ sizeLine; decide), fun p np => k1.same L _ p (s1.and np) (s1.free np) upd_same⟩
    refine and_b (a := Vbaval.within x 2 16) (b := Vbaval.within y 1 16 && Vbaval.within z 0 65535) (fun _ h => ⟨_, rfl, chain_b (p := fun i j => decide (i ≤ j)) (q := fun i j => decide (i ≤ j)) (fun _ h => h) h⟩)
      (fun _ h => and_b (a := Vbaval.within y 1 16) (b := Vbaval.within z 0 65535) (fun _ h => ⟨_, rfl, chain_b (p := fun i j => decide (i ≤ j)) (q := fun i j => decide (i ≤ j)) (fun _ h => h) h⟩) (fun _ h => ⟨_, rfl, chain_b (p := fun i j => decide (i ≤ j)) (q := fun i j => decide (i ≤ j)) (fun _ h => h) h⟩) h) ?_
    refine ⟨_, rfl, _, rfl, ite2 (fun c => ?_) (fun c => ?_)⟩
    · have c' := (Bool.not_eq_true' _).mp c
      exact refuse (by rw [c', Bool.false_and]) H [] (Same.refl H)
    have c' : (Vbaval.within x 2 16 && (Vbaval.within y 1 16 && Vbaval.within z 0 65535)) = true := by
      rw [Bool.not_eq_true, Bool.not_eq_false'] at c
      exact c
    refine ⟨_, rfl, b, row, rfl, hB, hrl, fun H1 s1 => ⟨_, rfl, ite2 (fun c2 => ?_) (fun c2 => ?_)⟩⟩
    · have c2' := (Bool.not_eq_true' _).mp c2
      exact refuse (by rw [c2', Bool.and_false]) H1 [] s1
    have c2' : (decide (row.length ≤ 36) && (Vbaval.paramsOf row).isSome) = true := by
      rw [Bool.not_eq_true, Bool.not_eq_false'] at c2
      exact c2
    simp only [Bool.and_eq_true] at c' c2'
    obtain ⟨hx, hy, hz⟩ := c'
    obtain ⟨h36, hsome⟩ := c2'
    rw [if_neg (by rw [hx, hy, hz, h36]; decide)] at k
    obtain ⟨ps, hps⟩ := Option.isSome_iff_exists.mp hsome
    rw [hps] at k
    dsimp only at k
    obtain ⟨m, hm1, hm2, hm3⟩ := paramsOf_some hps
    have h36' := of_decide_eq_true h36
    rw [FrM.within_iff] at hx hy hz
    obtain ⟨xx, rfl⟩ : ∃ n : Nat, x = n := ⟨x.toNat, by omega⟩
    obtain ⟨yy, rfl⟩ : ∃ n : Nat, y = n := ⟨y.toNat, by omega⟩
    obtain ⟨zz, rfl⟩ : ∃ n : Nat, z = n := ⟨z.toNat, by omega⟩
    rw [Int.toNat_natCast, Int.toNat_natCast, Int.toNat_natCast] at k
    have hpo : ∀ p ∈ ps, FrM.ParOk p := fun p hp => by
      rw [hm3] at hp
      obtain ⟨i, hi, rfl⟩ := List.mem_map.mp hp
      exact FrM.parAt_ok (hm2 i (List.mem_range.mp hi))
    have hpl : ps.length ≤ 12 := by
      rw [hm3, List.length_map, List.length_range]; omega
    refine ⟨_, rfl, b, row, m, rfl, s1.seq hB, hm1, by omega, hm2, fun H2 p2 s2 n2 P2 => ?_⟩
    rw [← hm3] at P2
    have s02 := s1.trans s2
    refine ⟨_, rfl, p2, ps, rfl, P2, fun p hp => by have := (hpo p hp).per; omega, by omega, fun H3 mx s3 hmx hex => ?_⟩
    have s03 := s02.trans s3
    refine ⟨_, rfl, _, _, rfl, rfl, .inl ⟨by decide, by omega⟩, _, _, rfl, rfl, _, rfl, ite2 (fun c3 => ?_) (fun c3 => ?_)⟩
    · have c4 : (8 : Int) * (yy : Nat) < (mx : Nat) := of_decide_eq_true c3
      have hfit : Vbaval.fitsIn yy ps = false := by
        cases q : Vbaval.fitsIn yy ps with
        | false => rfl
        | true =>
          obtain ⟨n, hn, e⟩ := hex
          have := fits_iff.mp q n hn
          omega
      rw [if_pos hfit] at k
      exact ⟨(by show 1 ≤ sizeLine; decide), fun p np => k.same L _ p (s03.and np) (s03.free np) upd_same⟩
    · have c4 : ¬ (8 : Int) * (yy : Nat) < (mx : Nat) := fun q => c3 (decide_eq_true q)
      have hfit : Vbaval.fitsIn yy ps = true := fits_iff.mpr fun n hn => by
        have := hmx n hn
        omega
      rw [if_neg (by rw [hfit]; decide)] at k
      have O := FrM.laid_ok (slots := xx) (len := yy) (first := zz) (ps := ps) (by omega) (by omega) (by omega) hpo hpl hfit
      refine ⟨_, rfl, _, rfl, _, rfl, _, rfl, fun r dr nr ndr dne => ⟨r, dr, xx, yy, zz, p2, ps, rfl, upd_same, ?_, by omega, by omega, O, fun H4 a er ep R4 b4 na nh => ⟨rfl, ?_⟩⟩⟩
      · exact (((Same.new ndr).and (by rw [upd_ne (Ne.symm dne)]; exact nr))).pars (s3.pars P2)
      have s4 : Same H3 H4 := fun c o ec => b4 c o (by rw [upd_ne (ne_of_none ec nr), upd_ne (ne_of_none ec ndr)]; exact ec) (ne_of_none ec nr)
      have s04 := s03.trans s4
      have new : ∀ c, H c = none → ¬ S c := fun c hc q => by
        obtain ⟨o, e⟩ := hdom c q
        rw [hc] at e; cases e
      have L4 := L.grow s04
      obtain ⟨nSl, hl4⟩ : ¬ S l ∧ ∃ v, H4 l = some (.ins CL dl (fl [("recorder", v)])) := by
        obtain ⟨h1, h2 | ⟨a', h2, _⟩⟩ := L4
        · exact ⟨h1, _, h2.1⟩
        · exact ⟨h1, _, h2⟩
      obtain ⟨v, hl4⟩ := hl4
      refine ⟨_, rfl, l, CL, dl, _, rfl, hl4, T.cl, T.nR, (by show 1 < 1000; decide), ?_⟩
      have R5 := R4.put (o := .ins CL dl (fl [("recorder", .ref r)])) hl4 rfl
      refine ⟨_, rfl, _, _, rfl, rfl, (by show 1 ≤ sizeLine; decide), fun p np => ?_⟩
      refine k _ p ⟨nSl, .inr ⟨a, ?_, R5.grow (Same.new np), new _ (by rw [er]; exact s03.free nr), new _ (s03.free (upd_free (upd_free nh))), new _ (by rw [ep]; exact s1.free n2), fun c hc => new _ (s03.free (upd_free (upd_free (na c hc))))⟩⟩ ((KS.of s04).trans ((KS.put nSl).trans (KS.of (Same.new np)))) (s04.free (upd_free np)) upd_same
      rw [er]
      exact (Same.new np) _ _ upd_same
end
end Fr
namespace Fr
open PySem PySem.Spec PyProof.Rows L2
open Vbaval (Call)
def argsOf : Call → Int × List Int × List Int
  | .lay x y z l => (0, [x, y, z], l)
  | .record l => (1, [], l)
  | .cut k => (2, [k], [])
  | .flip x y z => (3, [x, y, z], [])
  | .restart => (4, [], [])
  | .read => (5, [], [])
  | .slot i => (6, [i], [])
  | .dump => (7, [], [])
  | .hear x y z => (8, [x, y, z], [])
  | .listen l => (9, [], l)
  | .next => (10, [], [])
  | .totals => (11, [], [])
section
variable {P : Program} {w : World} {K : PySem.W.Frag} {mg : Str → Option Value} {base : Heap} {C : CC} {CL : Addr}
def spAsk (K : PySem.W.Frag) (C : CC) (lo : Int) : Sp := fun vs H Q _ => ∃ (a : RA) (s : Vbaval.St) (d : Call) (nb rb : Addr), vs = [.ref a.r, .int (argsOf d).1, .ref nb, .ref rb] ∧ lo ≤ (argsOf d).1 ∧ RecIs C H a s ∧ SqL K H nb (iv (argsOf d).2.1) ∧ SqL K H rb (iv (argsOf d).2.2) ∧ (argsOf d).2.2.length ≤ 1000 ∧ AnsR C H a (Vbaval.act s d) Q
theorem scAsked : FnScope ["recorder", "call", "numbers", "row"] ["recorder", "call", "numbers", "row"] (defScope sAsked) := ⟨rfl, rfl, rfl, by decide +kernel, rfl, by decide +kernel, by decide +kernel⟩
theorem d_asked (F : FunD K mg "asked_answer" sAsked) (TC : TxtC mg) (T : TxtRec K C.r)
    (D5 : DefM P w K mg base C.r "read_out" 6 ["self"] (spRecRead C)) (D6 : DefM P w K mg base C.r "slot_bytes" 1 ["self", "slot"] (spRecSlot C)) (D7 : DefM P w K mg base C.r "dump" 6 ["self"] (spRecDump C)) (D8 : DefM P w K mg base C.r "hear" 8 ["self", "what", "place", "amount"] (spRecHear C))
    (D9 : DefM P w K mg base C.r "listen" 8 ["self", "some"] (spRecListen K C)) (D10 : DefM P w K mg base C.r "next_number" 3 ["self"] (spRecNext C)) (D11 : DefM P w K mg base C.r "totals" 6 ["self"] (spRecTotals C)) :
    Def P w K mg base "asked_answer" 9 ["recorder", "call", "numbers", "row"] (spAsk K C 5) := by
  obtain ⟨f, fd, F, hm⟩ := F
  refine ⟨f, fd, ?_, hm, F.kp, F.binds fun _ _ _ _ _ _ us hl => match us, hl with | [_, _, _, _], _ => rfl⟩
  refine F.ok scAsked (fun vs H Q E h => ?_) (fun cdv A outer s H vs Q E hr h => ?_)
  · obtain ⟨a, s, d, nb, rb, rfl, _⟩ := h
    rfl
  · obtain ⟨a, s, d, nb, rb, rfl, hd, R, hN, hR, hrl, k⟩ := h
    obtain ⟨t5, h5⟩ := TC.READ
    obtain ⟨t6, h6⟩ := TC.SLOT
    obtain ⟨t7, h7⟩ := TC.DUMP
    obtain ⟨t8, h8⟩ := TC.HEAR
    obtain ⟨t9, h9⟩ := TC.LISTEN
    obtain ⟨t10, h10⟩ := TC.NEXT_NUMBER
    have hr1 : Room 1 _ := hr.mono (by decide)
    have hr3 : Room 3 _ := hr.mono (by decide)
    have hr6 : Room 6 _ := hr.mono (by decide)
    refine ⟨_, pss_cons (ps_if (pt_cmpR op_eq (pv 1) (pe_glob (v := .int 5) rfl h5 ⟨_, rfl⟩) (nomark _)) (pss_one (ps_ret (pe_mt0 (pv 0) T.cl D5 hr6))) pss_nil)
      (pss_cons (ps_if (pt_cmpR op_eq (pv 1) (pe_glob (v := .int 6) rfl h6 ⟨_, rfl⟩) (nomark _)) (pss_one (ps_ret (pe_mt (pv 0) T.cl D6 hr1 (pa_cons (pe_ix ix_list (pv 2) pe_int (fun _ _ => rfl)) pa_nil)))) pss_nil)
      (pss_cons (ps_if (pt_cmpR op_eq (pv 1) (pe_glob (v := .int 7) rfl h7 ⟨_, rfl⟩) (nomark _)) (pss_one (ps_ret (pe_mt0 (pv 0) T.cl D7 hr6))) pss_nil)
      (pss_cons (ps_if (pt_cmpR op_eq (pv 1) (pe_glob (v := .int 8) rfl h8 ⟨_, rfl⟩) (nomark _)) (pss_one (ps_ret (pe_mt (pv 0) T.cl D8 hr (pa_cons (pe_ix ix_list (pv 2) pe_int (fun _ _ => rfl)) (pa_cons (pe_ix ix_list (pv 2) pe_int (fun _ _ => rfl)) (pa_cons (pe_ix ix_list (pv 2) pe_int (fun _ _ => rfl)) pa_nil)))))) pss_nil)
      (pss_cons (ps_if (pt_cmpR op_eq (pv 1) (pe_glob (v := .int 9) rfl h9 ⟨_, rfl⟩) (nomark _)) (pss_one (ps_ret (pe_mt (pv 0) T.cl D9 hr (pa_cons (pv 3) pa_nil)))) pss_nil)
      (pss_cons (ps_if (pt_cmpR op_eq (pv 1) (pe_glob (v := .int 10) rfl h10 ⟨_, rfl⟩) (nomark _)) (pss_one (ps_ret (pe_mt0 (pv 0) T.cl D10 hr3))) pss_nil)
      (pss_one (ps_ret (pe_mt0 (pv 0) T.cl D11 hr6)))))))), ?_⟩
    cases d with
    | lay x y z l => exact absurd hd (by show ¬ (5 : Int) ≤ 0; decide)
    | record l => exact absurd hd (by show ¬ (5 : Int) ≤ 1; decide)
    | cut z => exact absurd hd (by show ¬ (5 : Int) ≤ 2; decide)
    | flip x y z => exact absurd hd (by show ¬ (5 : Int) ≤ 3; decide)
    | restart => exact absurd hd (by show ¬ (5 : Int) ≤ 4; decide)
    | read =>
      exact ⟨_, rfl, rfl, _, rfl, _, rfl, a.r, a.dr, _, rfl, R.obj, rfl, a, s, rfl, R, k⟩
    | slot i =>
      refine ⟨_, rfl, rfl, _, rfl, _, rfl, rfl, _, rfl, ?_⟩
      exact ⟨_, rfl, a.r, a.dr, _, rfl, R.obj, rfl, _, rfl, nb, _, _, _, rfl, rfl, hN, at_of (j := 0) rfl rfl, a, s, i, rfl, R, k⟩
    | dump =>
      refine ⟨_, rfl, rfl, _, rfl, _, rfl, rfl, _, rfl, _, rfl, rfl, _, rfl, ?_⟩
      exact ⟨_, rfl, a.r, a.dr, _, rfl, R.obj, rfl, a, s, rfl, R, k⟩
    | hear x y z =>
      refine ⟨_, rfl, rfl, _, rfl, _, rfl, rfl, _, rfl, _, rfl, rfl, _, rfl, _, rfl, rfl, _, rfl, ?_⟩
      exact ⟨_, rfl, a.r, a.dr, _, rfl, R.obj, rfl, _, rfl, nb, _, _, _, rfl, rfl, hN, at_of (j := 0) rfl rfl, _, rfl, nb, _, _, _, rfl, rfl, hN, at_of (j := 1) rfl rfl, _, rfl, nb, _, _, _, rfl, rfl, hN, at_of (j := 2) rfl rfl, a, s, x, y, z, rfl, R, k⟩
    | listen l =>
      refine ⟨_, rfl, rfl, _, rfl, _, rfl, rfl, _, rfl, _, rfl, rfl, _, rfl, _, rfl, rfl, _, rfl, _, rfl, rfl, _, rfl, ?_⟩
      exact ⟨_, rfl, a.r, a.dr, _, rfl, R.obj, rfl, _, rfl, a, s, rb, l, rfl, R, hR, Nat.le_trans hrl (by decide), k⟩
    | next =>
      refine ⟨_, rfl, rfl, _, rfl, _, rfl, rfl, _, rfl, _, rfl, rfl, _, rfl, _, rfl, rfl, _, rfl, _, rfl, rfl, _, rfl, _, rfl, rfl, _, rfl, ?_⟩
      exact ⟨_, rfl, a.r, a.dr, _, rfl, R.obj, rfl, a, s, rfl, R, k⟩
    | totals =>
      refine ⟨_, rfl, rfl, _, rfl, _, rfl, rfl, _, rfl, _, rfl, rfl, _, rfl, _, rfl, rfl, _, rfl, _, rfl, rfl, _, rfl, _, rfl, rfl, _, rfl, ?_⟩
      exact ⟨_, rfl, a.r, a.dr, _, rfl, R.obj, rfl, a, s, rfl, R, k⟩
theorem scRecAns : FnScope ["recorder", "call", "numbers", "row"] ["recorder", "call", "numbers", "row"] (defScope sRecAns) := ⟨rfl, rfl, rfl, by decide +kernel, rfl, by decide +kernel, by decide +kernel⟩
theorem d_recAns (F : FunD K mg "recorder_answer" sRecAns) (TC : TxtC mg) (T : TxtRec K C.r)
    (D1 : DefM P w K mg base C.r "record" 7 ["self", "samples"] (spRecRecord K C)) (D2 : DefM P w K mg base C.r "cut" 1 ["self", "limit"] (spRecCut C)) (D3 : DefM P w K mg base C.r "flip" 2 ["self", "slot", "place", "bit"] (spRecFlip C)) (D4 : DefM P w K mg base C.r "restart" 7 ["self"] (spRecRestart C))
    (D5 : Def P w K mg base "asked_answer" 9 ["recorder", "call", "numbers", "row"] (spAsk K C 5)) : Def P w K mg base "recorder_answer" 10 ["recorder", "call", "numbers", "row"] (spAsk K C 1) := by
  obtain ⟨f, fd, F, hm⟩ := F
  refine ⟨f, fd, ?_, hm, F.kp, F.binds fun _ _ _ _ _ _ us hl => match us, hl with | [_, _, _, _], _ => rfl⟩
  refine F.ok scRecAns (fun vs H Q E h => ?_) (fun cdv A outer s H vs Q E hr h => ?_)
  · obtain ⟨a, s, d, nb, rb, rfl, _⟩ := h
    rfl
  · obtain ⟨a, s, d, nb, rb, rfl, hd, R, hN, hR, hrl, k⟩ := h
    obtain ⟨t1, h1⟩ := TC.RECORD
    obtain ⟨t2, h2⟩ := TC.CUT
    obtain ⟨t3, h3⟩ := TC.FLIP
    obtain ⟨t4, h4⟩ := TC.RESTART
    have hr1 : Room 1 _ := hr.mono (by decide)
    have hr2 : Room 2 _ := hr.mono (by decide)
    have hr7 : Room 7 _ := hr.mono (by decide)
    refine ⟨_, pss_cons (ps_if (pt_cmpR op_eq (pv 1) (pe_glob (v := .int 1) rfl h1 ⟨_, rfl⟩) (nomark _)) (pss_one (ps_ret (pe_mt (pv 0) T.cl D1 hr7 (pa_cons (pv 3) pa_nil)))) pss_nil)
      (pss_cons (ps_if (pt_cmpR op_eq (pv 1) (pe_glob (v := .int 2) rfl h2 ⟨_, rfl⟩) (nomark _)) (pss_one (ps_ret (pe_mt (pv 0) T.cl D2 hr1 (pa_cons (pe_ix ix_list (pv 2) pe_int (fun _ _ => rfl)) pa_nil)))) pss_nil)
      (pss_cons (ps_if (pt_cmpR op_eq (pv 1) (pe_glob (v := .int 3) rfl h3 ⟨_, rfl⟩) (nomark _)) (pss_one (ps_ret (pe_mt (pv 0) T.cl D3 hr2 (pa_cons (pe_ix ix_list (pv 2) pe_int (fun _ _ => rfl)) (pa_cons (pe_ix ix_list (pv 2) pe_int (fun _ _ => rfl)) (pa_cons (pe_ix ix_list (pv 2) pe_int (fun _ _ => rfl)) pa_nil)))))) pss_nil)
      (pss_cons (ps_if (pt_cmpR op_eq (pv 1) (pe_glob (v := .int 4) rfl h4 ⟨_, rfl⟩) (nomark _)) (pss_one (ps_ret (pe_mt0 (pv 0) T.cl D4 hr7))) pss_nil)
      (pss_one (ps_ret (pe_fn D5 hr rfl (pa_cons (pv 0) (pa_cons (pv 1) (pa_cons (pv 2) (pa_cons (pv 3) pa_nil)))))))))), ?_⟩
    cases d with
    | lay x y z l => exact absurd hd (by show ¬ (1 : Int) ≤ 0; decide)
    | record l =>
      exact ⟨_, rfl, rfl, _, rfl, _, rfl, a.r, a.dr, _, rfl, R.obj, rfl, _, rfl, a, s, rb, l, rfl, R, hR, hrl, k⟩
    | cut z =>
      refine ⟨_, rfl, rfl, _, rfl, _, rfl, rfl, _, rfl, ?_⟩
      exact ⟨_, rfl, a.r, a.dr, _, rfl, R.obj, rfl, _, rfl, nb, _, _, _, rfl, rfl, hN, at_of (j := 0) rfl rfl, a, s, z, rfl, R, k⟩
    | flip x y z =>
      refine ⟨_, rfl, rfl, _, rfl, _, rfl, rfl, _, rfl, _, rfl, rfl, _, rfl, ?_⟩
      exact ⟨_, rfl, a.r, a.dr, _, rfl, R.obj, rfl, _, rfl, nb, _, _, _, rfl, rfl, hN, at_of (j := 0) rfl rfl, _, rfl, nb, _, _, _, rfl, rfl, hN, at_of (j := 1) rfl rfl, _, rfl, nb, _, _, _, rfl, rfl, hN, at_of (j := 2) rfl rfl, a, s, x, y, z, rfl, R, k⟩
    | restart =>
      refine ⟨_, rfl, rfl, _, rfl, _, rfl, rfl, _, rfl, _, rfl, rfl, _, rfl, _, rfl, rfl, _, rfl, ?_⟩
      exact ⟨_, rfl, a.r, a.dr, _, rfl, R.obj, rfl, a, s, rfl, R, k⟩
    | read => exact ⟨_, rfl, rfl, _, rfl, _, rfl, rfl, _, rfl, _, rfl, rfl, _, rfl, _, rfl, rfl, _, rfl, _, rfl, _, rfl, _, rfl, _, rfl, a, s, .read, nb, rb, rfl, by decide, R, hN, hR, hrl, k⟩
    | slot i => exact ⟨_, rfl, rfl, _, rfl, _, rfl, rfl, _, rfl, _, rfl, rfl, _, rfl, _, rfl, rfl, _, rfl, _, rfl, _, rfl, _, rfl, _, rfl, a, s, .slot i, nb, rb, rfl, (by show (5 : Int) ≤ 6; decide), R, hN, hR, hrl, k⟩
    | dump => exact ⟨_, rfl, rfl, _, rfl, _, rfl, rfl, _, rfl, _, rfl, rfl, _, rfl, _, rfl, rfl, _, rfl, _, rfl, _, rfl, _, rfl, _, rfl, a, s, .dump, nb, rb, rfl, by decide, R, hN, hR, hrl, k⟩
    | hear x y z => exact ⟨_, rfl, rfl, _, rfl, _, rfl, rfl, _, rfl, _, rfl, rfl, _, rfl, _, rfl, rfl, _, rfl, _, rfl, _, rfl, _, rfl, _, rfl, a, s, .hear x y z, nb, rb, rfl, (by show (5 : Int) ≤ 8; decide), R, hN, hR, hrl, k⟩
    | listen l => exact ⟨_, rfl, rfl, _, rfl, _, rfl, rfl, _, rfl, _, rfl, rfl, _, rfl, _, rfl, rfl, _, rfl, _, rfl, _, rfl, _, rfl, _, rfl, a, s, .listen l, nb, rb, rfl, (by show (5 : Int) ≤ 9; decide), R, hN, hR, hrl, k⟩
    | next => exact ⟨_, rfl, rfl, _, rfl, _, rfl, rfl, _, rfl, _, rfl, rfl, _, rfl, _, rfl, rfl, _, rfl, _, rfl, _, rfl, _, rfl, _, rfl, a, s, .next, nb, rb, rfl, by decide, R, hN, hR, hrl, k⟩
    | totals => exact ⟨_, rfl, rfl, _, rfl, _, rfl, rfl, _, rfl, _, rfl, rfl, _, rfl, _, rfl, rfl, _, rfl, _, rfl, _, rfl, _, rfl, _, rfl, a, s, .totals, nb, rb, rfl, by decide, R, hN, hR, hrl, k⟩
def spLAns (K : PySem.W.Frag) (C : CC) (CL : Addr) : Sp := fun vs H Q _ => ∃ (S : Addr → Prop) (l dl : Addr) (s : Vbaval.St) (d : Call) (nb rb : Addr), vs = [.ref l, .int (argsOf d).1, .ref nb, .ref rb] ∧ LineIs S CL C H l dl s ∧ SqL K H nb (iv (argsOf d).2.1) ∧ SqL K H rb (iv (argsOf d).2.2) ∧ (argsOf d).2.2.length ≤ 1000 ∧
  (∀ c, S c → ∃ o, H c = some o) ∧ AnsL S CL C H l dl (Vbaval.act s d) Q
theorem scLAns : FnScope ["self", "call", "numbers", "row"] ["self", "call", "numbers", "row"] (defScope sLAnswer) := ⟨rfl, rfl, rfl, by decide +kernel, rfl, by decide +kernel, by decide +kernel⟩
theorem act_start {d : Call} (h : 1 ≤ (argsOf d).1) : Vbaval.act Vbaval.start d = (Vbaval.start, [-2]) := by
  cases d with
  | lay x y z l => exact absurd h (by show ¬ (1 : Int) ≤ 0; decide)
  | _ => rfl
theorem d_lAns (F : FunM K CL "answer" "CallLine.answer" sLAnswer) (TC : TxtC mg) (T : TxtLn K CL) (DL : DefM P w K mg base CL "lay" 5 ["self", "slots", "length", "first", "row"] (spLLay K C CL)) (DR : Def P w K mg base "recorder_answer" 10 ["recorder", "call", "numbers", "row"] (spAsk K C 1)) :
    DefM P w K mg base CL "answer" 11 ["self", "call", "numbers", "row"] (spLAns K C CL) := by
  obtain ⟨f, fd, F, hm⟩ := F
  refine ⟨f, fd, ?_, hm, F.binds fun _ _ _ _ _ _ us hl => match us, hl with | [_, _, _, _], _ => rfl⟩
  refine F.ok scLAns (fun vs H Q E h => ?_) (fun cdv A outer s H vs Q E hr h => ?_)
  · obtain ⟨S, l, dl, s, d, nb, rb, rfl, _⟩ := h
    rfl
  · obtain ⟨S, l, dl, s, d, nb, rb, rfl, L, hN, hR, hrl, hdom, k⟩ := h
    obtain ⟨t0, h0⟩ := TC.LAY
    obtain ⟨t1, h1⟩ := TC.NOTHING_LAID
    have hr5 : Room 5 _ := hr.mono (by decide)
    refine ⟨_, pss_cons (ps_if (pt_cmpR op_eq (pv 1) (pe_glob (v := .int 0) rfl h0 ⟨_, rfl⟩) (nomark _)) (pss_one (ps_ret (pe_mt (pv 0) T.cl DL hr5 (pa_cons (pe_ix ix_list (pv 2) pe_int (fun _ _ => rfl)) (pa_cons (pe_ix ix_list (pv 2) pe_int (fun _ _ => rfl)) (pa_cons (pe_ix ix_list (pv 2) pe_int (fun _ _ => rfl)) (pa_cons (pv 3) pa_nil))))))) pss_nil)
      (pss_cons (ps_if (pt_cmpR op_isN (pe_fld (pv 0) rfl) pe_non (nomark _)) (pss_one (ps_ret (pe_lst (pa_cons (pe_glob (v := .int (-2)) rfl h1 ⟨_, rfl⟩) pa_nil)))) pss_nil)
      (pss_one (ps_ret (pe_fn DR hr rfl (pa_cons (pe_fld (pv 0) rfl) (pa_cons (pv 1) (pa_cons (pv 2) (pa_cons (pv 3) pa_nil)))))))), ?_⟩
    by_cases hd : (argsOf d).1 = 0
    · cases d with
      | lay x y z row =>
        obtain ⟨v, hl⟩ : ∃ v, H l = some (.ins CL dl (fl [("recorder", v)])) := by
          obtain ⟨_, q | ⟨a, q, _⟩⟩ := L
          · exact ⟨_, q.1⟩
          · exact ⟨_, q⟩
        exact ⟨_, rfl, rfl, _, rfl, _, rfl, l, dl, _, rfl, hl, rfl, _, rfl, nb, _, _, _, rfl, rfl, hN, at_of (j := 0) rfl rfl, _, rfl, nb, _, _, _, rfl, rfl, hN, at_of (j := 1) rfl rfl, _, rfl, nb, _, _, _, rfl, rfl, hN, at_of (j := 2) rfl rfl, _, rfl,
          S, l, dl, s, x, y, z, rb, row, rfl, L, hR, Nat.le_trans hrl (by decide), hdom, k⟩
      | _ => simp [argsOf] at hd
    · have hd1 : 1 ≤ (argsOf d).1 := by cases d <;> first | exact absurd rfl hd | simp [argsOf]
      refine ⟨_, rfl, rfl, _, rfl, ite2 (fun c => absurd (by rw [dec_int, beq_iff_eq] at c; exact c) hd) (fun _ => ?_)⟩
      obtain ⟨nS, ⟨hl, rfl⟩ | ⟨a, hl, R⟩⟩ := L
      · rw [act_start hd1] at k
        exact ⟨_, rfl, l, CL, dl, _, _, rfl, hl, T.cl, T.nR, rfl, rfl, _, rfl, (by show 1 ≤ sizeLine; decide), fun p np => k.same ⟨nS, .inl ⟨hl, rfl⟩⟩ _ p (Same.new np) np upd_same⟩
      · refine ⟨_, rfl, l, CL, dl, _, _, rfl, hl, T.cl, T.nR, rfl, rfl, _, rfl, ?_⟩
        refine ⟨_, rfl, l, CL, dl, _, _, rfl, hl, T.cl, T.nR, rfl, _, rfl, _, rfl, _, rfl, a, s, d, nb, rb, rfl, hd1, R.is_, hN, hR, hrl, fun H' p R' f' np ep => ?_⟩
        obtain ⟨n1, n2, n3⟩ := R.is_.nline hl rfl
        exact k H' p ⟨nS, .inr ⟨a, f' _ _ hl n1 n2 n3, R', R.nr, R.nh, R.np, R.na⟩⟩ (R.ks f') np ep
end
end Fr
namespace Fr
open PySem PySem.Spec PyProof.Rows L2
def spAns (K : PySem.W.Frag) : Sp := fun vs H Q _ => ∃ (a : Addr) (ns : List Int), vs = [.ref a] ∧ SqL K H a (ns.map V.int) ∧ ns.length ≤ 17000 ∧ PyVbaval.answers_asked ns = true ∧ ∀ (H' : Hp) (p : Addr), H' p = some (.lst ((PyVbaval.answers ns).map V.int)) → Q (.ref p) H'
theorem funD_mk {K : PySem.W.Frag} {h : Heap} {mg : Str → Option Value} {x : Str} {st : Stmt} {f : Addr} {oc : Value} {od an : Option Addr} {osl : Array (Option Value)} {kV doc pm cdv ct : Value} (X : K.In h) (G : h.Ns mainGlobals mg)
    (a : PySem.W.nsIn K mainGlobals x = some (some (.ref f))) (l : K.lookup f = some ⟨oc, od, .func (PySem.W.fnOf x x (defArgs st) (defBody st) (defScope st) .none kV doc pm an cdv ct), osl⟩) (c : PySem.W.codeIn K cdv x = true) (k : PySem.W.keepIn K (.ref f) = true) : FunD K mg x st :=
  ⟨f, _, fun_mk l c k, PySem.W.mg_of X G a⟩
theorem funM_mk {K : PySem.W.Frag} {C : Addr} {x qual : Str} {st : Stmt} {f : Addr} {oc : Value} {od an : Option Addr} {osl : Array (Option Value)} {kV doc pm cdv ct : Value}
    (a : PySem.W.findIn K (.ref C) x = some (some (.ref f))) (i : PySem.W.isFn K (.ref f) = true) (l : K.lookup f = some ⟨oc, od, .func (PySem.W.fnOf x qual (defArgs st) (defBody st) (defScope st) .none kV doc pm an cdv ct), osl⟩) (c : PySem.W.codeIn K cdv qual = true) (k : PySem.W.keepIn K (.ref f) = true) : FunM K C x qual st :=
  ⟨f, _, fun_mk l c k, a, i, k⟩
theorem funC_mk {K : PySem.W.Frag} {h : Heap} {mg : Str → Option Value} {C : Addr} {x qual : Str} {st : Stmt} {f : Addr} {oc : Value} {od an : Option Addr} {osl : Array (Option Value)} {kV doc pm cdv ct : Value} (X : K.In h) (G : h.Ns mainGlobals mg)
    (aC : PySem.W.nsIn K mainGlobals x = some (some (.ref C))) (a : PySem.W.findIn K (.ref C) "__init__" = some (some (.ref f))) (i : PySem.W.isFn K (.ref f) = true) (l : K.lookup f = some ⟨oc, od, .func (PySem.W.fnOf "__init__" qual (defArgs st) (defBody st) (defScope st) .none kV doc pm an cdv ct), osl⟩) (c : PySem.W.codeIn K cdv qual = true) (k : PySem.W.keepIn K (.ref f) = true)
    (mk : PySem.W.makesIn K C = true) (kc : PySem.W.keepIn K (.ref C) = true) : FunC K mg C x qual st :=
  ⟨f, _, fun_mk l c k, ⟨mk, a, i, kc⟩, PySem.W.mg_of X G aC⟩
theorem int_mk {K : PySem.W.Frag} {h : Heap} {mg : Str → Option Value} {x : Str} {i : Int} {t : Tok} (X : K.In h) (G : h.Ns mainGlobals mg) (a : PySem.W.nsIn K mainGlobals x = some (some (.int i t))) : ∃ t, mg x = some (.int i t) := ⟨t, PySem.W.mg_of X G a⟩
theorem none_mk {K : PySem.W.Frag} {h : Heap} {mg : Str → Option Value} {x : Str} (X : K.In h) (G : h.Ns mainGlobals mg) (a : PySem.W.nsIn K mainGlobals x = some none) : mg x = none := PySem.W.mg_none_of X G a
end Fr
namespace Fr
open PySem PySem.Spec PyProof.Rows L2
open Vbaval (Call)
def counts : List Nat := [3, 0, 1, 3, 0, 0, 1, 0, 3, 0, 0, 0]
def hasRow : List Bool := [true, true, false, false, false, false, false, false, false, true, false, false]
def Counts (K : PySem.W.Frag) (mg : Str → Option Value) : Prop := ∃ pa, mg "NUMBER_COUNTS" = some (.ref pa) ∧ ∀ H : Hp, SqT K H pa (nv counts)
def HasRow (K : PySem.W.Frag) (mg : Str → Option Value) : Prop := ∃ pa, mg "HAS_ROW" = some (.ref pa) ∧ ∀ H : Hp, SqT K H pa (hasRow.map V.bl)
theorem shape_ix {p : Int} {n k : Nat} (h : PyVbaval.shape p = some (n, k)) : ∃ j : Nat, p = (j : Int) ∧ (nv counts)[j]? = some (.int (n : Nat)) ∧ (hasRow.map V.bl)[j]? = some (.bl (decide (k = 1))) := by
  have hm := FrM.shape_mem h
  unfold FrM.shapes at hm
  simp only [List.mem_cons, List.not_mem_nil, or_false, Prod.mk.injEq] at hm
  rcases hm with ⟨rfl, rfl, rfl⟩ | ⟨rfl, rfl, rfl⟩ | ⟨rfl, rfl, rfl⟩ | ⟨rfl, rfl, rfl⟩ | ⟨rfl, rfl, rfl⟩ | ⟨rfl, rfl, rfl⟩ | ⟨rfl, rfl, rfl⟩ | ⟨rfl, rfl, rfl⟩ | ⟨rfl, rfl, rfl⟩ | ⟨rfl, rfl, rfl⟩ | ⟨rfl, rfl, rfl⟩ | ⟨rfl, rfl, rfl⟩
  · exact ⟨0, rfl, rfl, rfl⟩
  · exact ⟨1, rfl, rfl, rfl⟩
  · exact ⟨2, rfl, rfl, rfl⟩
  · exact ⟨3, rfl, rfl, rfl⟩
  · exact ⟨4, rfl, rfl, rfl⟩
  · exact ⟨5, rfl, rfl, rfl⟩
  · exact ⟨6, rfl, rfl, rfl⟩
  · exact ⟨7, rfl, rfl, rfl⟩
  · exact ⟨8, rfl, rfl, rfl⟩
  · exact ⟨9, rfl, rfl, rfl⟩
  · exact ⟨10, rfl, rfl, rfl⟩
  · exact ⟨11, rfl, rfl, rfl⟩
theorem len0 {l : List Int} (h : l.length = 0) : l = [] := List.length_eq_zero_iff.mp h
theorem len1 {l : List Int} (h : l.length = 1) : ∃ x, l = [x] := List.length_eq_one_iff.mp h
theorem len3 {l : List Int} (h : l.length = 3) : ∃ x y z, l = [x, y, z] := by
  match l, h with
  | [x, y, z], _ => exact ⟨x, y, z, rfl⟩
theorem decode0 {p : Int} {n : Nat} {xs : List Int} (h : PyVbaval.shape p = some (n, 0)) (hl : xs.length = n) : ∃ d, Vbaval.decode [p :: xs] = some d ∧ argsOf d = (p, xs, []) := by
  have hm := FrM.shape_mem h
  unfold FrM.shapes at hm
  simp only [List.mem_cons, List.not_mem_nil, or_false, Prod.mk.injEq] at hm
  rcases hm with ⟨_, _, q⟩ | ⟨_, _, q⟩ | ⟨rfl, rfl, _⟩ | ⟨rfl, rfl, _⟩ | ⟨rfl, rfl, _⟩ | ⟨rfl, rfl, _⟩ | ⟨rfl, rfl, _⟩ | ⟨rfl, rfl, _⟩ | ⟨rfl, rfl, _⟩ | ⟨_, _, q⟩ | ⟨rfl, rfl, _⟩ | ⟨rfl, rfl, _⟩
  · cases q
  · cases q
  · obtain ⟨x, rfl⟩ := len1 hl; exact ⟨.cut x, rfl, rfl⟩
  · obtain ⟨x, y, z, rfl⟩ := len3 hl; exact ⟨.flip x y z, rfl, rfl⟩
  · obtain rfl := len0 hl; exact ⟨.restart, rfl, rfl⟩
  · obtain rfl := len0 hl; exact ⟨.read, rfl, rfl⟩
  · obtain ⟨x, rfl⟩ := len1 hl; exact ⟨.slot x, rfl, rfl⟩
  · obtain rfl := len0 hl; exact ⟨.dump, rfl, rfl⟩
  · obtain ⟨x, y, z, rfl⟩ := len3 hl; exact ⟨.hear x y z, rfl, rfl⟩
  · cases q
  · obtain rfl := len0 hl; exact ⟨.next, rfl, rfl⟩
  · obtain rfl := len0 hl; exact ⟨.totals, rfl, rfl⟩
theorem decode1 {p : Int} {n : Nat} {xs row : List Int} (h : PyVbaval.shape p = some (n, 1)) (hl : xs.length = n) (ha : VbavalNeutral.asked1 [p :: xs, row] = true) : (∃ d, Vbaval.decode [p :: xs, row] = some d ∧ argsOf d = (p, xs, row)) ∧ row.length ≤ 1000 := by
  have hm := FrM.shape_mem h
  unfold FrM.shapes at hm
  simp only [List.mem_cons, List.not_mem_nil, or_false, Prod.mk.injEq] at hm
  rcases hm with ⟨rfl, rfl, _⟩ | ⟨rfl, rfl, _⟩ | ⟨_, _, q⟩ | ⟨_, _, q⟩ | ⟨_, _, q⟩ | ⟨_, _, q⟩ | ⟨_, _, q⟩ | ⟨_, _, q⟩ | ⟨_, _, q⟩ | ⟨rfl, rfl, _⟩ | ⟨_, _, q⟩ | ⟨_, _, q⟩
  · obtain ⟨x, y, z, rfl⟩ := len3 hl
    refine ⟨⟨.lay x y z row, rfl, rfl⟩, ?_⟩
    simp only [VbavalNeutral.asked1, Bool.and_eq_true, decide_eq_true_eq] at ha
    omega
  · obtain rfl := len0 hl
    refine ⟨⟨.record row, rfl, rfl⟩, ?_⟩
    simp only [VbavalNeutral.asked1, Bool.and_eq_true, decide_eq_true_eq] at ha
    omega
  · cases q
  · cases q
  · cases q
  · cases q
  · cases q
  · cases q
  · cases q
  · obtain rfl := len0 hl
    refine ⟨⟨.listen row, rfl, rfl⟩, ?_⟩
    simp only [VbavalNeutral.asked1, Bool.and_eq_true, decide_eq_true_eq] at ha
    omega
  · cases q
  · cases q
theorem step_of {s : Vbaval.St} {c : List (List Int)} {d : Call} (h : Vbaval.decode c = some d) : Vbaval.stepRows s c = Vbaval.act s d := by
  unfold Vbaval.stepRows
  rw [h]
theorem iv_ne_ref {out : List Int} {rs : List Addr} (h : rs ≠ []) : HO.lst (rs.map V.ref) ≠ HO.lst (iv out) := fun e => by
  cases rs with
  | nil => exact h rfl
  | cons b bs =>
    cases out with
    | nil => cases e
    | cons x xs => cases e
section
variable {S : Addr → Prop} {C : CC} {CL : Addr} {H : Hp} {a : RA} {s : Vbaval.St} {l dl gl : Addr} {out : List Int} {o : HO}
theorem RecIn.put (R : RecIn S C H a s) (hS : S gl) (hg : H gl = some (.lst (iv out))) : RecIn S C (upd H gl o) a s := by
  have R0 := R.is_
  have nS : ∀ x, ¬ S x → x ≠ gl := fun x n q => n (by rw [q]; exact hS)
  have has : a.as ≠ [] := fun q => by
    have h1 := R0.ring.alen
    have h2 := R0.ok.ns.1
    rw [q] at h1
    simp at h1
    omega
  have nI : ∀ x c d fs, H x = some (.ins c d fs) → x ≠ gl := fun x c d fs e q => by rw [q, hg] at e; cases e
  refine ⟨⟨by rw [upd_ne (nS _ R.nr)]; exact R0.obj, ⟨by rw [upd_ne (nI _ _ _ _ R0.ring.obj)]; exact R0.ring.obj, ?_, R0.ring.nd, R0.ring.alen, fun i b m e1 e2 => ?_, by rw [upd_ne (nS _ R.nh)]; exact R0.ring.hrt, R0.ring.hlen⟩, ?_, R0.ok⟩, R.nr, R.nh, R.np, R.na⟩
  · rw [upd_ne (fun q => by
      have := R0.ring.lst
      rw [q, hg] at this
      exact iv_ne_ref has (Option.some.inj this).symm)]
    exact R0.ring.lst
  · rw [upd_ne (nS _ (R.na b (List.mem_of_getElem? e1)))]
    exact R0.ring.at_ i b m e1 e2
  · obtain ⟨bs, h1, h2, h3⟩ := R0.par
    refine ⟨bs, by rw [upd_ne (nS _ R.np)]; exact h1, h2, fun i b p e1 e2 => ?_⟩
    obtain ⟨dx, e⟩ := h3 i b p e1 e2
    exact ⟨dx, by rw [upd_ne (nI _ _ _ _ e)]; exact e⟩
theorem LineIs.put (L : LineIs S CL C H l dl s) (hS : S gl) (hg : H gl = some (.lst (iv out))) : LineIs S CL C (upd H gl o) l dl s := by
  obtain ⟨h1, h2⟩ := L
  have nl : l ≠ gl := fun q => h1 (by rw [q]; exact hS)
  refine ⟨h1, ?_⟩
  rcases h2 with ⟨h2, h3⟩ | ⟨a, h2, h3⟩
  · exact .inl ⟨by rw [upd_ne nl]; exact h2, h3⟩
  · exact .inr ⟨a, by rw [upd_ne nl]; exact h2, h3.put hS hg⟩
end
/-- what the loop keeps: H the heap at the start, P the place, .. -/
def Sg (H : Hp) (gl : Addr) : Addr → Prop := fun c => c = gl ∨ ∃ o, H c = some o
structure AInv (CL : Addr) (C : CC) (H : Hp) (l dl gl : Addr) (ns : List Int) (P : Nat) (H' : Hp) : Prop where
  go : ∃ (f : Nat) (cs : List (List (List Int))) (s : Vbaval.St) (out : List Int), PyFlat.calls PyVbaval.shape f (ns.drop P) = some cs ∧ (∀ c ∈ cs, VbavalNeutral.asked1 c = true) ∧ PyVbaval.answers ns = out ++ FrM.played s cs ∧ H' gl = some (.lst (iv out)) ∧ LineIs (Sg H gl) CL C H' l dl s
  le : P ≤ ns.length
  same : Same H H'
section
variable {P : Program} {w : World} {K : PySem.W.Frag} {mg : Str → Option Value} {base : Heap} {C : CC} {CL : Addr}
theorem scAnswers : FnScope ["calls", "call_line", "given", "place", "call", "row_place", "numbers", "row", "answer"] ["calls"] (defScope sAnswers) := ⟨rfl, rfl, rfl, by decide +kernel, rfl, by decide +kernel, by decide +kernel⟩
/-- the turn's last part: the call is answered, the answer is given -/
theorem turn_end {H : Hp} {l dl gl a : Addr} {ns : List Int} {P' f' : Nat} {d : Call} {p0 : Int} {c : List (List Int)} {cs' : List (List (List Int))} {s : Vbaval.St} {out : List Int} {v5 v8 : Option V} {nb rb : Addr} {H4 : Hp} {D : Ends}
    (hp0 : (argsOf d).1 = p0) (hdec : Vbaval.decode c = some d) (hcs : PyFlat.calls PyVbaval.shape f' (ns.drop P') = some cs') (hask : ∀ c ∈ cs', VbavalNeutral.asked1 c = true) (hans : PyVbaval.answers ns = out ++ FrM.played s (c :: cs')) (hlen : (PyVbaval.answers ns).length ≤ 10000000) (hP : P' ≤ ns.length)
    (hgl : H gl = none) (hout : H4 gl = some (.lst (iv out))) (L : LineIs (Sg H gl) CL C H4 l dl s) (hs : Same H H4) (hN : SqL K H4 nb (iv (argsOf d).2.1)) (hR : SqL K H4 rb (iv (argsOf d).2.2)) (hrl : (argsOf d).2.2.length ≤ 1000)
    (nx : ∀ v8 H', AInv CL C H l dl gl ns P' H' → D.nx [some (.ref a), some (.ref l), some (.ref gl), some (.int (P' : Nat)), some (.int p0), v5, some (.ref nb), some (.ref rb), v8] H') :
    tSeq (tAsg (tMeth CL "answer" (spLAns K C CL) [] E0 (tVar 1) (tCons (tVar 4) (tCons (tVar 6) (tCons (tVar 7) tNil)))) (gName 8))
      (tSeq (tDrop (tBM K "list" rAppend (tVar 2) (tCons (tCB (rLen K) (tCons (tVar 8) tNil)) tNil))) (tDrop (tBM K "list" rExtend (tVar 2) (tCons (tVar 8) tNil))))
      D [some (.ref a), some (.ref l), some (.ref gl), some (.int (P' : Nat)), some (.int p0), v5, some (.ref nb), some (.ref rb), v8] H4 := by
  subst hp0
  have hst := step_of (s := s) hdec
  rw [FrM.played_cons, hst] at hans
  have hdom : ∀ c, Sg H gl c → ∃ o, H4 c = some o := fun c hc => by
    rcases hc with rfl | ⟨o, e⟩
    · exact ⟨_, hout⟩
    · exact ⟨o, hs _ _ e⟩
  obtain ⟨v, hl4⟩ : ∃ v, H4 l = some (.ins CL dl (fl [("recorder", v)])) := by
    obtain ⟨_, q | ⟨a, q, _⟩⟩ := L
    · exact ⟨_, q.1⟩
    · exact ⟨_, q⟩
  refine ⟨_, rfl, l, dl, _, rfl, hl4, rfl, _, rfl, _, rfl, _, rfl, Sg H gl, l, dl, s, d, nb, rb, rfl, L, hN, hR, hrl, hdom, fun H5 p L5 k5 np ep => ?_⟩
  generalize hx : Vbaval.act s d = x at hans L5 ep
  have out5 : H5 gl = some (.lst (iv out)) := k5 gl _ (.inl rfl) hout
  have s5 : Same H H5 := fun c o e => k5 c o (.inr ⟨o, e⟩) (hs _ _ e)
  have pg : p ≠ gl := fun q => by rw [q, hout] at np; cases np
  have hsz : out.length + 1 + x.2.length ≤ 10000000 := by
    rw [hans, List.length_append, List.length_append, List.length_cons] at hlen
    omega
  refine ⟨_, rfl, .inl ⟨rfl, _, SqL.of out5⟩, _, rfl, p, _, rfl, SqL.of ep, gl, _, _, rfl, rfl, out5, ?_, ?_⟩
  · rw [iv_length, sizeLine_eq]; omega
  have out6 : (upd H5 gl (.lst (iv out ++ [.int ((iv x.2).length : Nat)]))) gl = some (.lst (iv (out ++ [(x.2.length : Int)]))) := by
    rw [upd_same, iv_append, iv_length]; rfl
  have L6 := L5.put (o := .lst (iv out ++ [.int ((iv x.2).length : Nat)])) (.inl rfl) out5
  have p6 : (upd H5 gl (.lst (iv out ++ [.int ((iv x.2).length : Nat)]))) p = some (.lst (iv x.2)) := by rw [upd_ne pg]; exact ep
  have s6 : Same H (upd H5 gl (.lst (iv out ++ [.int ((iv x.2).length : Nat)]))) := But.same s5 hgl But.upd
  generalize upd H5 gl (.lst (iv out ++ [.int ((iv x.2).length : Nat)])) = H6 at out6 L6 p6 s6 ⊢
  refine ⟨_, rfl, .inl ⟨rfl, _, SqL.of out6⟩, _, rfl, gl, p, _, _, rfl, rfl, out6, p6, ?_, nx _ _ ⟨⟨f', cs', x.1, out ++ [(x.2.length : Int)] ++ x.2, hcs, hask, ?_, ?_, L6.put (.inl rfl) out6⟩, hP, But.same s6 hgl But.upd⟩⟩
  · rw [iv_length, iv_length, List.length_append, sizeLine_eq]
    show out.length + 1 + _ ≤ _
    omega
  · rw [hans]
    simp
  · rw [upd_same, ← iv_append]
theorem ok_answers {f : Addr} {fd : FuncData} (F : Fun K "answers" "answers" sAnswers f fd) (T0 : Txt mg) (TN : Counts K mg) (TH : HasRow K mg) (T : TxtLn K CL) (DC : DefC P w K mg base CL "CallLine" 1 ["self"] (spLInit CL)) (DA : DefM P w K mg base CL "answer" 11 ["self", "call", "numbers", "row"] (spLAns K C CL)) :
    FnOk P w K mg base CX0 12 f fd ["calls"] (spAns K) := by
  refine F.ok scAnswers (fun vs H Q E h => ?_) (fun cdv A outer s H vs Q E hr h => ?_)
  · obtain ⟨a, ns, rfl, _⟩ := h
    rfl
  · obtain ⟨a, ns, rfl, hA, hnl, hask, k⟩ := h
    have nd := scAnswers.nd
    have hr2 : Room 2 _ := hr.mono (by decide)
    obtain ⟨pN, hN1, hN2⟩ := TN
    obtain ⟨pH, hH1, hH2⟩ := TH
    obtain ⟨cs0, hc1, hc2, hc3, hc4⟩ := FrM.asked_iff hask
    have hA' : SqL K H a (iv ns) := hA
    refine ⟨_, pss_cons (ps_set (i := 1) nd rfl (Or.inl rfl) (pe_cl0 DC hr2 rfl))
      (pss_cons (ps_set (i := 2) nd rfl (Or.inl rfl) (pe_lst pa_nil))
      (pss_cons (ps_set (i := 3) nd rfl (Or.inl rfl) pe_int)
      (pss_cons (ps_while PassesOwn.never (pt_cmpR op_lt (pv 3) (pe_callB cr_len rfl T0.len boot_len' (pa_cons (pv 0) pa_nil)) (nomark _))
        (pss_cons (ps_set (i := 4) nd rfl (Or.inl rfl) (pe_ix ix_list (pv 0) (pv 3) (fun _ _ => rfl)))
        (pss_cons (ps_set (i := 5) nd rfl (Or.inl rfl) (pe_op op_add (pe_op op_add (pv 3) pe_int) (pe_ix ix_tup (pe_glob (v := .ref pN) rfl hN1 rfl) (pv 4) (fun _ _ => rfl))))
        (pss_cons (ps_set (i := 6) nd rfl (Or.inl rfl) (pe_slice sl_list (pv 0) (po_some (pe_op op_add (pv 3) pe_int)) (po_some (pv 5))))
        (pss_cons (ps_set (i := 7) nd rfl (Or.inl rfl) (pe_lst pa_nil))
        (pss_cons (ps_set (i := 3) nd rfl (Or.inl rfl) (pv 5))
        (pss_cons (ps_if (pt_val (pe_ix ix_tup (pe_glob (v := .ref pH) rfl hH1 rfl) (pv 4) (fun _ _ => rfl)))
            (pss_cons (ps_set (i := 3) nd rfl (Or.inl rfl) (pe_op op_add (pe_op op_add (pv 5) pe_int) (pe_ix ix_list (pv 0) (pv 5) (fun _ _ => rfl))))
              (pss_one (ps_set (i := 7) nd rfl (Or.inl rfl) (pe_slice sl_list (pv 0) (po_some (pe_op op_add (pv 5) pe_int)) (po_some (pv 3)))))) pss_nil)
        (pss_cons (ps_set (i := 8) nd rfl (Or.inl rfl) (pe_mt (pv 1) T.cl DA hr (pa_cons (pv 4) (pa_cons (pv 6) (pa_cons (pv 7) pa_nil)))))
        (pss_cons (ps_expr (pe_bm PySem.F.plainAttrs_list PySem.F.slot_list_append PySem.F.type_list_append mt_append (pv 2) (pa_cons (pe_callB cr_len rfl T0.len boot_len' (pa_cons (pv 8) pa_nil)) pa_nil)))
        (pss_one (ps_expr (pe_bm PySem.F.plainAttrs_list PySem.F.slot_list_extend PySem.F.type_list_extend mt_extend (pv 2) (pa_cons (pv 8) pa_nil)))))))))))))
      (pss_one (ps_ret (pv 2)))))), ?_⟩
    refine fun l dl nl ndl dne => ⟨l, dl, rfl, upd_same, fun H1 e1 b1 => ⟨rfl, ?_⟩⟩
    have s1 : Same H H1 := fun c o ec => b1 c o (by rw [upd_ne (ne_of_none ec nl), upd_ne (ne_of_none ec ndl)]; exact ec) (ne_of_none ec nl)
    refine ⟨(by show 0 ≤ sizeLine; decide), fun gl ngl => ?_⟩
    have ngl0 : H gl = none := s1.free ngl
    have glne : l ≠ gl := fun q => by rw [← q, e1] at ngl; cases ngl
    have s2 : Same H (upd H1 gl (.lst [])) := s1.and ngl
    have L2' : LineIs (Sg H gl) CL C (upd H1 gl (.lst [])) l dl Vbaval.start := by
      refine ⟨fun q => ?_, .inl ⟨(Same.new ngl) _ _ e1, rfl⟩⟩
      rcases q with q | ⟨o, e⟩
      · exact glne q
      · rw [nl] at e; cases e
    have I2 : AInv CL C H l dl gl ns 0 (upd H1 gl (.lst [])) := ⟨⟨ns.length, cs0, Vbaval.start, [], by rw [List.drop_zero]; exact hc1, hc3, FrM.answers_eq hc1, upd_same, L2'⟩, Nat.zero_le _, s2⟩
    refine ⟨fun m σ H' => ∃ (P : Nat) (v4 v5 v6 v7 v8 : Option V), m = ns.length - P ∧ σ = [some (.ref a), some (.ref l), some (.ref gl), some (.int (P : Nat)), v4, v5, v6, v7, v8] ∧ AInv CL C H l dl gl ns P H', ⟨_, 0, none, none, none, none, none, rfl, rfl, I2⟩, ?_⟩
    rintro m σ H' ⟨P, v4, v5, v6, v7, v8, rfl, rfl, I⟩
    have hA3 : SqL K H' a (iv ns) := I.same.seq hA'
    refine ⟨_, rfl, _, rfl, a, _, rfl, hA3, _, _, rfl, rfl, _, rfl, ite2 (fun c => ?_) (fun c => ?_)⟩
    · have hP : P < ns.length := by
        have c1 : ((P : Nat) : Int) < ((iv ns).length : Nat) := of_decide_eq_true c
        rw [iv_length] at c1
        omega
      obtain ⟨ff, cs, s, out, h1, h2, h3, h4, h5⟩ := I.go
      obtain ⟨p, r, hpr⟩ : ∃ p r, ns.drop P = p :: r := ⟨_, _, List.drop_eq_getElem_cons hP⟩
      rw [hpr] at h1
      obtain ⟨f', cc, t, cs', rfl, g1, g2, rfl⟩ := FrM.calls_step h1
      obtain ⟨n, kk, g3, g4, g5⟩ := FrM.call_iff g1
      obtain ⟨j, hj, hj1, hj2⟩ := shape_ix g3
      have hdr : ∀ i, ns.drop (P + 1 + i) = r.drop i := fun i => by
        rw [← List.drop_drop, ← List.drop_drop, hpr]; rfl
      have hgp : ns[P]? = some p := by
        have : (ns.drop P)[0]? = some p := by rw [hpr]; rfl
        rw [List.getElem?_drop] at this
        exact this
      have hrl : r.length = ns.length - (P + 1) := by
        have := hdr 0
        rw [Nat.add_zero, List.drop_zero] at this
        rw [← this, List.length_drop]
      have hxl : (r.take n).length = n := by rw [List.length_take]; omega
      have hcask := h2 cc List.mem_cons_self
      have hask' : ∀ c ∈ cs', VbavalNeutral.asked1 c = true := fun c hc => h2 c (List.mem_cons_of_mem _ hc)
      refine ⟨fun σ H2 => ∃ (P' : Nat) (v4 v5 v6 v7 v8 : Option V), P < P' ∧ P' ≤ ns.length ∧ σ = [some (.ref a), some (.ref l), some (.ref gl), some (.int (P' : Nat)), v4, v5, v6, v7, v8] ∧ AInv CL C H l dl gl ns P' H2, fun σ' H2 ⟨P', v4, v5, v6, v7, v8, q1, q2, q3, q4⟩ => ⟨ns.length - P', by omega, P', v4, v5, v6, v7, v8, rfl, q3, q4⟩, ?_⟩
      refine ⟨_, rfl, _, rfl, a, _, _, _, rfl, rfl, hA3, at_of (j := P) rfl (by rw [iv_get, hgp]; rfl), ?_⟩
      refine ⟨_, rfl, _, _, rfl, rfl, _, rfl, pN, _, _, _, rfl, rfl, hN2 _, at_of (j := j) hj hj1, _, _, rfl, rfl, ?_⟩
      dsimp only
      have e5 : ((P : Nat) : Int) + 1 + ((n : Nat) : Int) = ((P + 1 + n : Nat) : Int) := by omega
      have e51 : ((P : Nat) : Int) + 1 = ((P + 1 : Nat) : Int) := by omega
      rw [e5]
      refine ⟨_, rfl, _, rfl, _, _, rfl, rfl, _, rfl, _, rfl, _, rfl, a, _, rfl, hA3, fun nb nnb => ?_⟩
      dsimp only
      have ecut : cutV (iv ns) (some (((P : Nat) : Int) + 1)) (some ((P + 1 + n : Nat) : Int)) = iv (r.take n) := by
        rw [e51, cut_mid, iv_drop, iv_take, show P + 1 + n - (P + 1) = n by omega]
        have := hdr 0
        rw [Nat.add_zero, List.drop_zero] at this
        rw [this]
      rw [ecut]
      refine ⟨(by show 0 ≤ sizeLine; decide), fun rb nrb => ?_⟩
      have snb : Same H' (upd H' nb (.lst (iv (r.take n)))) := Same.new nnb
      have srb : Same (upd H' nb (.lst (iv (r.take n)))) (upd (upd H' nb (.lst (iv (r.take n)))) rb (.lst [])) := Same.new nrb
      have enb : (upd (upd H' nb (.lst (iv (r.take n)))) rb (.lst [])) nb = some (.lst (iv (r.take n))) := srb _ _ upd_same
      have erb : (upd (upd H' nb (.lst (iv (r.take n)))) rb (.lst [])) rb = some (.lst (iv [])) := upd_same
      have s3 : Same H' (upd (upd H' nb (.lst (iv (r.take n)))) rb (.lst [])) := snb.trans srb
      generalize upd (upd H' nb (.lst (iv (r.take n)))) rb (.lst []) = H3 at enb erb s3 ⊢
      refine ⟨_, rfl, ?_⟩
      refine ⟨_, rfl, pH, _, _, _, rfl, rfl, hH2 _, at_of (j := j) hj hj2, _, rfl, ?_⟩
      rcases g5 with ⟨rfl, rfl, rfl⟩ | ⟨rfl, m, q, g6, g7, rfl, rfl⟩
      · obtain ⟨d, d1, d2⟩ := decode0 g3 hxl
        have hd1 : (argsOf d).1 = p := by rw [d2]
        have hd2 : (argsOf d).2.1 = r.take n := by rw [d2]
        have hd3 : (argsOf d).2.2 = [] := by rw [d2]
        exact turn_end (P' := P + 1 + n) hd1 d1 (by rw [hdr]; exact g2) hask' h3 hc4 (by omega) ngl0 (s3 _ _ h4) (h5.grow s3) (I.same.trans s3) (by rw [hd2]; exact SqL.of enb) (by rw [hd3]; exact SqL.of erb) (by rw [hd3]; exact Nat.zero_le _)
          (fun v8 H2 I2 => ⟨P + 1 + n, _, _, _, _, _, by omega, I2.le, rfl, I2⟩)
      · obtain ⟨⟨d, d1, d2⟩, hrow⟩ := decode1 g3 hxl hcask
        have hd1 : (argsOf d).1 = p := by rw [d2]
        have hd2 : (argsOf d).2.1 = r.take n := by rw [d2]
        have hd3 : (argsOf d).2.2 = q.take m := by rw [d2]
        have hA4 := s3.seq hA3
        have hq : ns.drop (P + 1 + n) = (m : Int) :: q := by rw [hdr]; exact g6
        have hgm : ns[P + 1 + n]? = some (m : Int) := by
          have : (ns.drop (P + 1 + n))[0]? = some (m : Int) := by rw [hq]; rfl
          rw [List.getElem?_drop] at this
          exact this
        have hq2 : ns.drop (P + 1 + n + 1) = q := by
          rw [← List.drop_drop, hq]; rfl
        have hql : q.length = ns.length - (P + 1 + n + 1) := by rw [← hq2, List.length_drop]
        have hPn : P + 1 + n < ns.length := (List.getElem?_eq_some_iff.mp hgm).1
        refine ⟨_, rfl, _, _, rfl, rfl, _, rfl, _, rfl, a, _, _, _, rfl, rfl, hA4, at_of (j := P + 1 + n) rfl (by rw [iv_get, hgm]; rfl), _, _, rfl, rfl, ?_⟩
        dsimp only
        have e7 : ((P + 1 + n : Nat) : Int) + 1 + ((m : Nat) : Int) = ((P + 1 + n + 1 + m : Nat) : Int) := by omega
        have e71 : ((P + 1 + n : Nat) : Int) + 1 = ((P + 1 + n + 1 : Nat) : Int) := by omega
        rw [e7]
        refine ⟨_, rfl, _, rfl, _, _, rfl, rfl, _, rfl, _, rfl, _, rfl, a, _, rfl, hA4, fun rb2 nrb2 => ?_⟩
        dsimp only
        have ecut2 : cutV (iv ns) (some (((P + 1 + n : Nat) : Int) + 1)) (some ((P + 1 + n + 1 + m : Nat) : Int)) = iv (q.take m) := by
          rw [e71, cut_mid, iv_drop, iv_take, show P + 1 + n + 1 + m - (P + 1 + n + 1) = m by omega, hq2]
        rw [ecut2]
        have s4 : Same H3 (upd H3 rb2 (.lst (iv (q.take m)))) := Same.new nrb2
        have erb2 : (upd H3 rb2 (.lst (iv (q.take m)))) rb2 = some (.lst (iv (q.take m))) := upd_same
        have s34 := s3.trans s4
        exact turn_end (P' := P + 1 + n + 1 + m) hd1 d1 (by rw [← List.drop_drop, hq2]; exact g2) hask' h3 hc4 (by omega) ngl0 (s34 _ _ h4) (h5.grow s34) (I.same.trans s34) (by rw [hd2]; exact SqL.of (s4 _ _ enb)) (by rw [hd3]; exact SqL.of erb2) (by rw [hd3]; exact hrow)
          (fun v8 H2 I2 => ⟨P + 1 + n + 1 + m, _, _, _, _, _, by omega, I2.le, rfl, I2⟩)
    · have hP : ns.length ≤ P := by
        have c1 : ¬ ((P : Nat) : Int) < ((iv ns).length : Nat) := fun q => c (decide_eq_true q)
        rw [iv_length] at c1
        omega
      obtain ⟨ff, cs, s, out, h1, h2, h3, h4, h5⟩ := I.go
      rw [List.drop_of_length_le hP] at h1
      have := FrM.calls_nil h1
      rw [this, FrM.played_nil, List.append_nil] at h3
      refine ⟨_, rfl, k H' gl ?_⟩
      rw [h3]
      exact h4
end
end Fr
namespace Fr
open PySem PySem.Spec PyProof.Rows L2
open PySem.W (nsIn findIn isFn fnOf codeIn keepIn makesIn plainGet hasDictIn plainOver mg_of)
theorem chain {P : Program} {w : World} {K : PySem.W.Frag} {mg : Str → Option Value} {base : Heap} {C : CC} {CE CL : Addr} {f : Addr} {fd : FuncData} (T0 : Txt mg) (TL : TxtL mg) (TC : TxtC mg) (TPer : Periods K mg) (TN : Counts K mg) (TH : HasRow K mg)
    (TEar : TxtE K CE) (TParameter : TxtP K C.p) (TRing : TxtR K mg C.g) (TRecorder : TxtRec K C.r) (TCallLine : TxtLn K CL)
    (F_two_bytes : FunD K mg "two_bytes" sTwo)
    (F_sum_bytes : FunD K mg "sum_bytes" sSum)
    (F_values_fit : FunD K mg "values_fit" sFit)
    (F_packed : FunD K mg "packed" sPack)
    (F_unpacked : FunD K mg "unpacked" sUnpack)
    (F_frame_bytes : FunD K mg "frame_bytes" sFrame)
    (F_is_right_frame : FunD K mg "is_right_frame" sRight)
    (F_frame_number : FunD K mg "frame_number" sNumber)
    (F_frame_values : FunD K mg "frame_values" sValues)
    (F_frames_told : FunD K mg "frames_told" sTold)
    (F_sent_byte : FunD K mg "sent_byte" sSentB)
    (F_sent_frames : FunD K mg "sent_frames" sSentF)
    (F_is_damage : FunD K mg "is_damage" sIsDmg)
    (F_damaged : FunD K mg "damaged" sDmg)
    (F_heard_frames : FunD K mg "heard_frames" sHeard)
    (F_threes : FunD K mg "threes" sThrees)
    (F_is_parameter : FunD K mg "is_parameter" sIsPar)
    (F_are_parameters : FunD K mg "are_parameters" sArePar)
    (F_parameters_of : FunD K mg "parameters_of" sParOf)
    (F_frame_parameters : FunD K mg "frame_parameters" sPars)
    (F_frame_widths : FunD K mg "frame_widths" sWidths)
    (F_widest_frame : FunD K mg "widest_frame" sWidest)
    (F_recorder_answer : FunD K mg "recorder_answer" sRecAns)
    (F_asked_answer : FunD K mg "asked_answer" sAsked)
    (F_Ear_init : FunC K mg CE "Ear" "Ear.__init__" sEInit)
    (F_Ear_take : FunM K CE "take" "Ear.take" sETake)
    (F_Ear_take_inside : FunM K CE "take_inside" "Ear.take_inside" sEIn)
    (F_Ear_take_escaped : FunM K CE "take_escaped" "Ear.take_escaped" sEEsc)
    (F_Ear_end_frame : FunM K CE "end_frame" "Ear.end_frame" sEEnd)
    (F_Ear_is_told : FunM K CE "is_told" "Ear.is_told" sETold)
    (F_Parameter_init : FunC K mg C.p "Parameter" "Parameter.__init__" sParInit)
    (F_Parameter_is_in_frame : FunM K C.p "is_in_frame" "Parameter.is_in_frame" sParIn)
    (F_Ring_init : FunC K mg C.g "Ring" "Ring.__init__" sRInit)
    (F_Ring_write_frame : FunM K C.g "write_frame" "Ring.write_frame" sRWrite)
    (F_Ring_flip_bit : FunM K C.g "flip_bit" "Ring.flip_bit" sRFlip)
    (F_Ring_is_good : FunM K C.g "is_good" "Ring.is_good" sRGood)
    (F_Ring_frame_in : FunM K C.g "frame_in" "Ring.frame_in" sRIn)
    (F_Ring_good_frames : FunM K C.g "good_frames" "Ring.good_frames" sRFrames)
    (F_Recorder_init : FunC K mg C.r "Recorder" "Recorder.__init__" sRecInit)
    (F_Recorder_record : FunM K C.r "record" "Recorder.record" sRecRecord)
    (F_Recorder_found : FunM K C.r "found" "Recorder.found" sRecFound)
    (F_Recorder_cut : FunM K C.r "cut" "Recorder.cut" sRecCut)
    (F_Recorder_flip : FunM K C.r "flip" "Recorder.flip" sRecFlip)
    (F_Recorder_restart : FunM K C.r "restart" "Recorder.restart" sRecRestart)
    (F_Recorder_read_out : FunM K C.r "read_out" "Recorder.read_out" sRecRead)
    (F_Recorder_slot_bytes : FunM K C.r "slot_bytes" "Recorder.slot_bytes" sRecSlot)
    (F_Recorder_dump : FunM K C.r "dump" "Recorder.dump" sRecDump)
    (F_Recorder_hear : FunM K C.r "hear" "Recorder.hear" sRecHear)
    (F_Recorder_listen : FunM K C.r "listen" "Recorder.listen" sRecListen)
    (F_Recorder_next_number : FunM K C.r "next_number" "Recorder.next_number" sRecNext)
    (F_Recorder_totals : FunM K C.r "totals" "Recorder.totals" sRecTotals)
    (F_Recorder_told : FunM K C.r "told" "Recorder.told" sRecTold)
    (F_Recorder_told_frame : FunM K C.r "told_frame" "Recorder.told_frame" sRecToldF)
    (F_CallLine_init : FunC K mg CL "CallLine" "CallLine.__init__" sLInit)
    (F_CallLine_answer : FunM K CL "answer" "CallLine.answer" sLAnswer)
    (F_CallLine_lay : FunM K CL "lay" "CallLine.lay" sLLay)
    (F_answers : Fun K "answers" "answers" sAnswers f fd) : FnOk P w K mg base CX0 12 f fd ["calls"] (spAns K) := by
  have two := d_two (P := P) (w := w) (base := base) F_two_bytes
  have sum_ := d_sum F_sum_bytes T0 two
  have fit := d_fit (P := P) (w := w) (base := base) F_values_fit T0
  have pack := d_pack (P := P) (w := w) (base := base) F_packed T0
  have unpack := d_unpack (P := P) (w := w) (base := base) F_unpacked T0
  have frame := d_frame F_frame_bytes T0 two sum_ pack
  have right := d_right F_is_right_frame T0 sum_
  have number := d_number (P := P) (w := w) (base := base) F_frame_number
  have values := d_values F_frame_values T0 unpack
  have told := d_told (P := P) (w := w) (base := base) F_frames_told T0
  have sentB := d_sentB (P := P) (w := w) (base := base) F_sent_byte TL
  have sentF := d_sentF F_sent_frames TL sentB
  have isDmg := d_isDmg (P := P) (w := w) (base := base) F_is_damage TL
  have dmg := d_dmg (P := P) (w := w) (base := base) F_damaged TL
  have eInit := d_eInit (P := P) (w := w) (base := base) F_Ear_init TEar
  have eTold := d_eTold F_Ear_is_told TEar right number
  have eEnd := d_eEnd F_Ear_end_frame TEar eTold
  have eEsc := d_eEsc (P := P) (w := w) (base := base) F_Ear_take_escaped TEar TL
  have eIn := d_eIn F_Ear_take_inside TEar TL eEsc
  have eTake := d_eTake F_Ear_take TEar TL eEnd eIn
  have heard := d_heard F_heard_frames TEar eInit eTake
  have parInit := d_parInit (P := P) (w := w) (base := base) F_Parameter_init TParameter
  have parIn := d_parIn (P := P) (w := w) (mg := mg) (base := base) F_Parameter_is_in_frame TParameter
  have thr := d_threes (P := P) (w := w) (base := base) F_threes T0
  have isPar := d_isPar (P := P) (w := w) (base := base) F_is_parameter T0 TPer
  have arePar := d_arePar F_are_parameters T0 thr isPar
  have parOf := d_parOf F_parameters_of thr parInit
  have pars := d_pars F_frame_parameters T0 TParameter parIn
  have widths := d_widths F_frame_widths TParameter pars
  have widest := d_widest F_widest_frame T0 widths
  have rIn := d_rIn (P := P) (w := w) (base := base) F_Ring_frame_in TRing
  have rGood := d_rGood F_Ring_is_good TRing rIn right number
  have rFrames := d_rFrames F_Ring_good_frames T0 TRing rIn rGood number
  have rFlip := d_rFlip (P := P) (w := w) (base := base) F_Ring_flip_bit TRing
  have rWrite := d_rWrite (P := P) (w := w) (base := base) F_Ring_write_frame T0 TRing
  have rInit := d_rInit (P := P) (w := w) (base := base) F_Ring_init T0 TRing
  have toldF := d_recToldF F_Recorder_told_frame TRecorder number widths values
  have recTold := d_recTold F_Recorder_told TRecorder toldF told
  have recFound := d_recFound F_Recorder_found TRecorder TRing rFrames number
  have recRestart := d_recRestart F_Recorder_restart TRecorder recFound
  have recCut := d_recCut (P := P) (w := w) (base := base) F_Recorder_cut TRecorder TC
  have recFlip := d_recFlip F_Recorder_flip TRecorder TRing TC rFlip
  have recRead := d_recRead F_Recorder_read_out TRecorder TRing rFrames recTold
  have recSlot := d_recSlot (P := P) (w := w) (base := base) F_Recorder_slot_bytes TRecorder TRing TC
  have recDump := d_recDump F_Recorder_dump T0 TRecorder TRing rFrames sentF
  have recHear := d_recHear F_Recorder_hear T0 TC TRecorder TRing rFrames sentF isDmg dmg heard recTold
  have recListen := d_recListen F_Recorder_listen T0 TC TRecorder heard recTold
  have recNext := d_recNext F_Recorder_next_number T0 TRecorder pars
  have recTotals := d_recTotals F_Recorder_totals T0 TRecorder TRing rFrames
  have recRecord := d_recRecord F_Recorder_record TC TRecorder TRing widths fit frame rWrite recFound
  have recInit := d_recInit F_Recorder_init TRecorder rInit
  have asked := d_asked F_asked_answer TC TRecorder recRead recSlot recDump recHear recListen recNext recTotals
  have recAns := d_recAns F_recorder_answer TC TRecorder recRecord recCut recFlip recRestart asked
  have lInit := d_lInit (P := P) (w := w) (base := base) F_CallLine_init TCallLine
  have lLay := d_lLay F_CallLine_lay TC TCallLine arePar parOf widest recInit
  have lAns := d_lAns F_CallLine_answer TC TCallLine lLay recAns
  exact ok_answers F_answers T0 TN TH TCallLine lInit lAns
theorem all_mk {P : Program} {w : World} {K : PySem.W.Frag} {h : Heap} {mg : Str → Option Value} {fa : Addr} (X : K.In h) (G : h.Ns mainGlobals mg) (hfa : mg "answers" = some (.ref fa))
    {t_HEAD : Tok}
    {t_TAIL : Tok}
    {t_MOST_PARAMETERS : Tok}
    {t_WIDEST : Tok}
    {t_LONGEST_PERIOD : Tok}
    {t_DONE : Tok}
    {t_BEGIN : Tok}
    {t_END : Tok}
    {t_ESCAPE : Tok}
    {t_LOST : Tok}
    {t_DOUBLED : Tok}
    {t_FLIPPED : Tok}
    {t_OUT_OF_RANGE : Tok}
    {t_NOTHING_LAID : Tok}
    {t_FRAME_TOO_WIDE : Tok}
    {t_WRONG_VALUES : Tok}
    {t_SLOT_HURT : Tok}
    {t_NUMBERS_USED_UP : Tok}
    {t_LAST_NUMBER : Tok}
    {t_MOST_HEARD : Tok}
    {t_LAY : Tok}
    {t_RECORD : Tok}
    {t_CUT : Tok}
    {t_FLIP : Tok}
    {t_RESTART : Tok}
    {t_READ : Tok}
    {t_SLOT : Tok}
    {t_DUMP : Tok}
    {t_HEAR : Tok}
    {t_LISTEN : Tok}
    {t_NEXT_NUMBER : Tok}
    {f_q0 : Addr} {od_q0 an_q0 : Option Addr} {sl_q0 : Array (Option Value)} {oc_q0 kV_q0 dc_q0 pm_q0 cd_q0 ct_q0 : Value}
    {f_q1 : Addr} {od_q1 an_q1 : Option Addr} {sl_q1 : Array (Option Value)} {oc_q1 kV_q1 dc_q1 pm_q1 cd_q1 ct_q1 : Value}
    {f_q2 : Addr} {od_q2 an_q2 : Option Addr} {sl_q2 : Array (Option Value)} {oc_q2 kV_q2 dc_q2 pm_q2 cd_q2 ct_q2 : Value}
    {f_q3 : Addr} {od_q3 an_q3 : Option Addr} {sl_q3 : Array (Option Value)} {oc_q3 kV_q3 dc_q3 pm_q3 cd_q3 ct_q3 : Value}
    {f_q4 : Addr} {od_q4 an_q4 : Option Addr} {sl_q4 : Array (Option Value)} {oc_q4 kV_q4 dc_q4 pm_q4 cd_q4 ct_q4 : Value}
    {f_q5 : Addr} {od_q5 an_q5 : Option Addr} {sl_q5 : Array (Option Value)} {oc_q5 kV_q5 dc_q5 pm_q5 cd_q5 ct_q5 : Value}
    {f_q6 : Addr} {od_q6 an_q6 : Option Addr} {sl_q6 : Array (Option Value)} {oc_q6 kV_q6 dc_q6 pm_q6 cd_q6 ct_q6 : Value}
    {f_q7 : Addr} {od_q7 an_q7 : Option Addr} {sl_q7 : Array (Option Value)} {oc_q7 kV_q7 dc_q7 pm_q7 cd_q7 ct_q7 : Value}
    {f_q8 : Addr} {od_q8 an_q8 : Option Addr} {sl_q8 : Array (Option Value)} {oc_q8 kV_q8 dc_q8 pm_q8 cd_q8 ct_q8 : Value}
    {f_q9 : Addr} {od_q9 an_q9 : Option Addr} {sl_q9 : Array (Option Value)} {oc_q9 kV_q9 dc_q9 pm_q9 cd_q9 ct_q9 : Value}
    {f_q10 : Addr} {od_q10 an_q10 : Option Addr} {sl_q10 : Array (Option Value)} {oc_q10 kV_q10 dc_q10 pm_q10 cd_q10 ct_q10 : Value}
    {f_q11 : Addr} {od_q11 an_q11 : Option Addr} {sl_q11 : Array (Option Value)} {oc_q11 kV_q11 dc_q11 pm_q11 cd_q11 ct_q11 : Value}
    {f_q12 : Addr} {od_q12 an_q12 : Option Addr} {sl_q12 : Array (Option Value)} {oc_q12 kV_q12 dc_q12 pm_q12 cd_q12 ct_q12 : Value}
    {f_q13 : Addr} {od_q13 an_q13 : Option Addr} {sl_q13 : Array (Option Value)} {oc_q13 kV_q13 dc_q13 pm_q13 cd_q13 ct_q13 : Value}
    {f_q14 : Addr} {od_q14 an_q14 : Option Addr} {sl_q14 : Array (Option Value)} {oc_q14 kV_q14 dc_q14 pm_q14 cd_q14 ct_q14 : Value}
    {f_q15 : Addr} {od_q15 an_q15 : Option Addr} {sl_q15 : Array (Option Value)} {oc_q15 kV_q15 dc_q15 pm_q15 cd_q15 ct_q15 : Value}
    {f_q16 : Addr} {od_q16 an_q16 : Option Addr} {sl_q16 : Array (Option Value)} {oc_q16 kV_q16 dc_q16 pm_q16 cd_q16 ct_q16 : Value}
    {f_q17 : Addr} {od_q17 an_q17 : Option Addr} {sl_q17 : Array (Option Value)} {oc_q17 kV_q17 dc_q17 pm_q17 cd_q17 ct_q17 : Value}
    {f_q18 : Addr} {od_q18 an_q18 : Option Addr} {sl_q18 : Array (Option Value)} {oc_q18 kV_q18 dc_q18 pm_q18 cd_q18 ct_q18 : Value}
    {f_q19 : Addr} {od_q19 an_q19 : Option Addr} {sl_q19 : Array (Option Value)} {oc_q19 kV_q19 dc_q19 pm_q19 cd_q19 ct_q19 : Value}
    {f_q20 : Addr} {od_q20 an_q20 : Option Addr} {sl_q20 : Array (Option Value)} {oc_q20 kV_q20 dc_q20 pm_q20 cd_q20 ct_q20 : Value}
    {f_q21 : Addr} {od_q21 an_q21 : Option Addr} {sl_q21 : Array (Option Value)} {oc_q21 kV_q21 dc_q21 pm_q21 cd_q21 ct_q21 : Value}
    {f_q22 : Addr} {od_q22 an_q22 : Option Addr} {sl_q22 : Array (Option Value)} {oc_q22 kV_q22 dc_q22 pm_q22 cd_q22 ct_q22 : Value}
    {f_q23 : Addr} {od_q23 an_q23 : Option Addr} {sl_q23 : Array (Option Value)} {oc_q23 kV_q23 dc_q23 pm_q23 cd_q23 ct_q23 : Value}
    {f_answers : Addr} {od_answers an_answers : Option Addr} {sl_answers : Array (Option Value)} {oc_answers kV_answers dc_answers pm_answers cd_answers ct_answers : Value}
    {C_Ear : Addr}
    {f_q24 : Addr} {od_q24 an_q24 : Option Addr} {sl_q24 : Array (Option Value)} {oc_q24 kV_q24 dc_q24 pm_q24 cd_q24 ct_q24 : Value}
    {f_q25 : Addr} {od_q25 an_q25 : Option Addr} {sl_q25 : Array (Option Value)} {oc_q25 kV_q25 dc_q25 pm_q25 cd_q25 ct_q25 : Value}
    {f_q26 : Addr} {od_q26 an_q26 : Option Addr} {sl_q26 : Array (Option Value)} {oc_q26 kV_q26 dc_q26 pm_q26 cd_q26 ct_q26 : Value}
    {f_q27 : Addr} {od_q27 an_q27 : Option Addr} {sl_q27 : Array (Option Value)} {oc_q27 kV_q27 dc_q27 pm_q27 cd_q27 ct_q27 : Value}
    {f_q28 : Addr} {od_q28 an_q28 : Option Addr} {sl_q28 : Array (Option Value)} {oc_q28 kV_q28 dc_q28 pm_q28 cd_q28 ct_q28 : Value}
    {f_q29 : Addr} {od_q29 an_q29 : Option Addr} {sl_q29 : Array (Option Value)} {oc_q29 kV_q29 dc_q29 pm_q29 cd_q29 ct_q29 : Value}
    {C_Parameter : Addr}
    {f_q30 : Addr} {od_q30 an_q30 : Option Addr} {sl_q30 : Array (Option Value)} {oc_q30 kV_q30 dc_q30 pm_q30 cd_q30 ct_q30 : Value}
    {f_q31 : Addr} {od_q31 an_q31 : Option Addr} {sl_q31 : Array (Option Value)} {oc_q31 kV_q31 dc_q31 pm_q31 cd_q31 ct_q31 : Value}
    {C_Ring : Addr}
    {f_q32 : Addr} {od_q32 an_q32 : Option Addr} {sl_q32 : Array (Option Value)} {oc_q32 kV_q32 dc_q32 pm_q32 cd_q32 ct_q32 : Value}
    {f_q33 : Addr} {od_q33 an_q33 : Option Addr} {sl_q33 : Array (Option Value)} {oc_q33 kV_q33 dc_q33 pm_q33 cd_q33 ct_q33 : Value}
    {f_q34 : Addr} {od_q34 an_q34 : Option Addr} {sl_q34 : Array (Option Value)} {oc_q34 kV_q34 dc_q34 pm_q34 cd_q34 ct_q34 : Value}
    {f_q35 : Addr} {od_q35 an_q35 : Option Addr} {sl_q35 : Array (Option Value)} {oc_q35 kV_q35 dc_q35 pm_q35 cd_q35 ct_q35 : Value}
    {f_q36 : Addr} {od_q36 an_q36 : Option Addr} {sl_q36 : Array (Option Value)} {oc_q36 kV_q36 dc_q36 pm_q36 cd_q36 ct_q36 : Value}
    {f_q37 : Addr} {od_q37 an_q37 : Option Addr} {sl_q37 : Array (Option Value)} {oc_q37 kV_q37 dc_q37 pm_q37 cd_q37 ct_q37 : Value}
    {C_Recorder : Addr}
    {f_q38 : Addr} {od_q38 an_q38 : Option Addr} {sl_q38 : Array (Option Value)} {oc_q38 kV_q38 dc_q38 pm_q38 cd_q38 ct_q38 : Value}
    {f_q39 : Addr} {od_q39 an_q39 : Option Addr} {sl_q39 : Array (Option Value)} {oc_q39 kV_q39 dc_q39 pm_q39 cd_q39 ct_q39 : Value}
    {f_q40 : Addr} {od_q40 an_q40 : Option Addr} {sl_q40 : Array (Option Value)} {oc_q40 kV_q40 dc_q40 pm_q40 cd_q40 ct_q40 : Value}
    {f_q41 : Addr} {od_q41 an_q41 : Option Addr} {sl_q41 : Array (Option Value)} {oc_q41 kV_q41 dc_q41 pm_q41 cd_q41 ct_q41 : Value}
    {f_q42 : Addr} {od_q42 an_q42 : Option Addr} {sl_q42 : Array (Option Value)} {oc_q42 kV_q42 dc_q42 pm_q42 cd_q42 ct_q42 : Value}
    {f_q43 : Addr} {od_q43 an_q43 : Option Addr} {sl_q43 : Array (Option Value)} {oc_q43 kV_q43 dc_q43 pm_q43 cd_q43 ct_q43 : Value}
    {f_q44 : Addr} {od_q44 an_q44 : Option Addr} {sl_q44 : Array (Option Value)} {oc_q44 kV_q44 dc_q44 pm_q44 cd_q44 ct_q44 : Value}
    {f_q45 : Addr} {od_q45 an_q45 : Option Addr} {sl_q45 : Array (Option Value)} {oc_q45 kV_q45 dc_q45 pm_q45 cd_q45 ct_q45 : Value}
    {f_q46 : Addr} {od_q46 an_q46 : Option Addr} {sl_q46 : Array (Option Value)} {oc_q46 kV_q46 dc_q46 pm_q46 cd_q46 ct_q46 : Value}
    {f_q47 : Addr} {od_q47 an_q47 : Option Addr} {sl_q47 : Array (Option Value)} {oc_q47 kV_q47 dc_q47 pm_q47 cd_q47 ct_q47 : Value}
    {f_q48 : Addr} {od_q48 an_q48 : Option Addr} {sl_q48 : Array (Option Value)} {oc_q48 kV_q48 dc_q48 pm_q48 cd_q48 ct_q48 : Value}
    {f_q49 : Addr} {od_q49 an_q49 : Option Addr} {sl_q49 : Array (Option Value)} {oc_q49 kV_q49 dc_q49 pm_q49 cd_q49 ct_q49 : Value}
    {f_q50 : Addr} {od_q50 an_q50 : Option Addr} {sl_q50 : Array (Option Value)} {oc_q50 kV_q50 dc_q50 pm_q50 cd_q50 ct_q50 : Value}
    {f_q51 : Addr} {od_q51 an_q51 : Option Addr} {sl_q51 : Array (Option Value)} {oc_q51 kV_q51 dc_q51 pm_q51 cd_q51 ct_q51 : Value}
    {f_q52 : Addr} {od_q52 an_q52 : Option Addr} {sl_q52 : Array (Option Value)} {oc_q52 kV_q52 dc_q52 pm_q52 cd_q52 ct_q52 : Value}
    {C_CallLine : Addr}
    {f_q53 : Addr} {od_q53 an_q53 : Option Addr} {sl_q53 : Array (Option Value)} {oc_q53 kV_q53 dc_q53 pm_q53 cd_q53 ct_q53 : Value}
    {f_q54 : Addr} {od_q54 an_q54 : Option Addr} {sl_q54 : Array (Option Value)} {oc_q54 kV_q54 dc_q54 pm_q54 cd_q54 ct_q54 : Value}
    {f_q55 : Addr} {od_q55 an_q55 : Option Addr} {sl_q55 : Array (Option Value)} {oc_q55 kV_q55 dc_q55 pm_q55 cd_q55 ct_q55 : Value}
    {p_PERIODS : Addr} {d_PERIODS : Option Addr} {s_PERIODS : Array (Option Value)} {n_PERIODS : Nat} {u_PERIODS_0 u_PERIODS_1 u_PERIODS_2 u_PERIODS_3 u_PERIODS_4 : Tok}
    {p_NUMBER_COUNTS : Addr} {d_NUMBER_COUNTS : Option Addr} {s_NUMBER_COUNTS : Array (Option Value)} {n_NUMBER_COUNTS : Nat} {u_NUMBER_COUNTS_0 u_NUMBER_COUNTS_1 u_NUMBER_COUNTS_2 u_NUMBER_COUNTS_3 u_NUMBER_COUNTS_4 u_NUMBER_COUNTS_5 u_NUMBER_COUNTS_6 u_NUMBER_COUNTS_7 u_NUMBER_COUNTS_8 u_NUMBER_COUNTS_9 u_NUMBER_COUNTS_10 u_NUMBER_COUNTS_11 : Tok}
    {p_HAS_ROW : Addr} {d_HAS_ROW : Option Addr} {s_HAS_ROW : Array (Option Value)} {n_HAS_ROW : Nat}
    (z_sum : nsIn K mainGlobals "sum" = some none)
    (z_len : nsIn K mainGlobals "len" = some none)
    (z_zip : nsIn K mainGlobals "zip" = some none)
    (z_all : nsIn K mainGlobals "all" = some none)
    (z_range : nsIn K mainGlobals "range" = some none)
    (z_max : nsIn K mainGlobals "max" = some none)
    (z_list : nsIn K mainGlobals "list" = some none)
    (z_enumerate : nsIn K mainGlobals "enumerate" = some none)
    (z_sorted : nsIn K mainGlobals "sorted" = some none)
    (i_HEAD : nsIn K mainGlobals "HEAD" = some (some (.int (2) t_HEAD)))
    (i_TAIL : nsIn K mainGlobals "TAIL" = some (some (.int (4) t_TAIL)))
    (i_MOST_PARAMETERS : nsIn K mainGlobals "MOST_PARAMETERS" = some (some (.int (12) t_MOST_PARAMETERS)))
    (i_WIDEST : nsIn K mainGlobals "WIDEST" = some (some (.int (16) t_WIDEST)))
    (i_LONGEST_PERIOD : nsIn K mainGlobals "LONGEST_PERIOD" = some (some (.int (16) t_LONGEST_PERIOD)))
    (i_DONE : nsIn K mainGlobals "DONE" = some (some (.int (165) t_DONE)))
    (i_BEGIN : nsIn K mainGlobals "BEGIN" = some (some (.int (192) t_BEGIN)))
    (i_END : nsIn K mainGlobals "END" = some (some (.int (193) t_END)))
    (i_ESCAPE : nsIn K mainGlobals "ESCAPE" = some (some (.int (194) t_ESCAPE)))
    (i_LOST : nsIn K mainGlobals "LOST" = some (some (.int (0) t_LOST)))
    (i_DOUBLED : nsIn K mainGlobals "DOUBLED" = some (some (.int (1) t_DOUBLED)))
    (i_FLIPPED : nsIn K mainGlobals "FLIPPED" = some (some (.int (2) t_FLIPPED)))
    (i_OUT_OF_RANGE : nsIn K mainGlobals "OUT_OF_RANGE" = some (some (.int (-1) t_OUT_OF_RANGE)))
    (i_NOTHING_LAID : nsIn K mainGlobals "NOTHING_LAID" = some (some (.int (-2) t_NOTHING_LAID)))
    (i_FRAME_TOO_WIDE : nsIn K mainGlobals "FRAME_TOO_WIDE" = some (some (.int (-3) t_FRAME_TOO_WIDE)))
    (i_WRONG_VALUES : nsIn K mainGlobals "WRONG_VALUES" = some (some (.int (-4) t_WRONG_VALUES)))
    (i_SLOT_HURT : nsIn K mainGlobals "SLOT_HURT" = some (some (.int (-5) t_SLOT_HURT)))
    (i_NUMBERS_USED_UP : nsIn K mainGlobals "NUMBERS_USED_UP" = some (some (.int (-6) t_NUMBERS_USED_UP)))
    (i_LAST_NUMBER : nsIn K mainGlobals "LAST_NUMBER" = some (some (.int (65535) t_LAST_NUMBER)))
    (i_MOST_HEARD : nsIn K mainGlobals "MOST_HEARD" = some (some (.int (800) t_MOST_HEARD)))
    (i_LAY : nsIn K mainGlobals "LAY" = some (some (.int (0) t_LAY)))
    (i_RECORD : nsIn K mainGlobals "RECORD" = some (some (.int (1) t_RECORD)))
    (i_CUT : nsIn K mainGlobals "CUT" = some (some (.int (2) t_CUT)))
    (i_FLIP : nsIn K mainGlobals "FLIP" = some (some (.int (3) t_FLIP)))
    (i_RESTART : nsIn K mainGlobals "RESTART" = some (some (.int (4) t_RESTART)))
    (i_READ : nsIn K mainGlobals "READ" = some (some (.int (5) t_READ)))
    (i_SLOT : nsIn K mainGlobals "SLOT" = some (some (.int (6) t_SLOT)))
    (i_DUMP : nsIn K mainGlobals "DUMP" = some (some (.int (7) t_DUMP)))
    (i_HEAR : nsIn K mainGlobals "HEAR" = some (some (.int (8) t_HEAR)))
    (i_LISTEN : nsIn K mainGlobals "LISTEN" = some (some (.int (9) t_LISTEN)))
    (i_NEXT_NUMBER : nsIn K mainGlobals "NEXT_NUMBER" = some (some (.int (10) t_NEXT_NUMBER)))
    (a_q0 : nsIn K mainGlobals "two_bytes" = some (some (.ref f_q0)))
    (l_q0 : K.lookup f_q0 = some ⟨oc_q0, od_q0, .func (fnOf "two_bytes" "two_bytes" (defArgs sTwo) (defBody sTwo) (defScope sTwo) .none kV_q0 dc_q0 pm_q0 an_q0 cd_q0 ct_q0), sl_q0⟩)
    (c_q0 : codeIn K cd_q0 "two_bytes" = true)
    (k_q0 : keepIn K (.ref f_q0) = true)
    (a_q1 : nsIn K mainGlobals "sum_bytes" = some (some (.ref f_q1)))
    (l_q1 : K.lookup f_q1 = some ⟨oc_q1, od_q1, .func (fnOf "sum_bytes" "sum_bytes" (defArgs sSum) (defBody sSum) (defScope sSum) .none kV_q1 dc_q1 pm_q1 an_q1 cd_q1 ct_q1), sl_q1⟩)
    (c_q1 : codeIn K cd_q1 "sum_bytes" = true)
    (k_q1 : keepIn K (.ref f_q1) = true)
    (a_q2 : nsIn K mainGlobals "values_fit" = some (some (.ref f_q2)))
    (l_q2 : K.lookup f_q2 = some ⟨oc_q2, od_q2, .func (fnOf "values_fit" "values_fit" (defArgs sFit) (defBody sFit) (defScope sFit) .none kV_q2 dc_q2 pm_q2 an_q2 cd_q2 ct_q2), sl_q2⟩)
    (c_q2 : codeIn K cd_q2 "values_fit" = true)
    (k_q2 : keepIn K (.ref f_q2) = true)
    (a_q3 : nsIn K mainGlobals "packed" = some (some (.ref f_q3)))
    (l_q3 : K.lookup f_q3 = some ⟨oc_q3, od_q3, .func (fnOf "packed" "packed" (defArgs sPack) (defBody sPack) (defScope sPack) .none kV_q3 dc_q3 pm_q3 an_q3 cd_q3 ct_q3), sl_q3⟩)
    (c_q3 : codeIn K cd_q3 "packed" = true)
    (k_q3 : keepIn K (.ref f_q3) = true)
    (a_q4 : nsIn K mainGlobals "unpacked" = some (some (.ref f_q4)))
    (l_q4 : K.lookup f_q4 = some ⟨oc_q4, od_q4, .func (fnOf "unpacked" "unpacked" (defArgs sUnpack) (defBody sUnpack) (defScope sUnpack) .none kV_q4 dc_q4 pm_q4 an_q4 cd_q4 ct_q4), sl_q4⟩)
    (c_q4 : codeIn K cd_q4 "unpacked" = true)
    (k_q4 : keepIn K (.ref f_q4) = true)
    (a_q5 : nsIn K mainGlobals "frame_bytes" = some (some (.ref f_q5)))
    (l_q5 : K.lookup f_q5 = some ⟨oc_q5, od_q5, .func (fnOf "frame_bytes" "frame_bytes" (defArgs sFrame) (defBody sFrame) (defScope sFrame) .none kV_q5 dc_q5 pm_q5 an_q5 cd_q5 ct_q5), sl_q5⟩)
    (c_q5 : codeIn K cd_q5 "frame_bytes" = true)
    (k_q5 : keepIn K (.ref f_q5) = true)
    (a_q6 : nsIn K mainGlobals "is_right_frame" = some (some (.ref f_q6)))
    (l_q6 : K.lookup f_q6 = some ⟨oc_q6, od_q6, .func (fnOf "is_right_frame" "is_right_frame" (defArgs sRight) (defBody sRight) (defScope sRight) .none kV_q6 dc_q6 pm_q6 an_q6 cd_q6 ct_q6), sl_q6⟩)
    (c_q6 : codeIn K cd_q6 "is_right_frame" = true)
    (k_q6 : keepIn K (.ref f_q6) = true)
    (a_q7 : nsIn K mainGlobals "frame_number" = some (some (.ref f_q7)))
    (l_q7 : K.lookup f_q7 = some ⟨oc_q7, od_q7, .func (fnOf "frame_number" "frame_number" (defArgs sNumber) (defBody sNumber) (defScope sNumber) .none kV_q7 dc_q7 pm_q7 an_q7 cd_q7 ct_q7), sl_q7⟩)
    (c_q7 : codeIn K cd_q7 "frame_number" = true)
    (k_q7 : keepIn K (.ref f_q7) = true)
    (a_q8 : nsIn K mainGlobals "frame_values" = some (some (.ref f_q8)))
    (l_q8 : K.lookup f_q8 = some ⟨oc_q8, od_q8, .func (fnOf "frame_values" "frame_values" (defArgs sValues) (defBody sValues) (defScope sValues) .none kV_q8 dc_q8 pm_q8 an_q8 cd_q8 ct_q8), sl_q8⟩)
    (c_q8 : codeIn K cd_q8 "frame_values" = true)
    (k_q8 : keepIn K (.ref f_q8) = true)
    (a_q9 : nsIn K mainGlobals "frames_told" = some (some (.ref f_q9)))
    (l_q9 : K.lookup f_q9 = some ⟨oc_q9, od_q9, .func (fnOf "frames_told" "frames_told" (defArgs sTold) (defBody sTold) (defScope sTold) .none kV_q9 dc_q9 pm_q9 an_q9 cd_q9 ct_q9), sl_q9⟩)
    (c_q9 : codeIn K cd_q9 "frames_told" = true)
    (k_q9 : keepIn K (.ref f_q9) = true)
    (a_q10 : nsIn K mainGlobals "sent_byte" = some (some (.ref f_q10)))
    (l_q10 : K.lookup f_q10 = some ⟨oc_q10, od_q10, .func (fnOf "sent_byte" "sent_byte" (defArgs sSentB) (defBody sSentB) (defScope sSentB) .none kV_q10 dc_q10 pm_q10 an_q10 cd_q10 ct_q10), sl_q10⟩)
    (c_q10 : codeIn K cd_q10 "sent_byte" = true)
    (k_q10 : keepIn K (.ref f_q10) = true)
    (a_q11 : nsIn K mainGlobals "sent_frames" = some (some (.ref f_q11)))
    (l_q11 : K.lookup f_q11 = some ⟨oc_q11, od_q11, .func (fnOf "sent_frames" "sent_frames" (defArgs sSentF) (defBody sSentF) (defScope sSentF) .none kV_q11 dc_q11 pm_q11 an_q11 cd_q11 ct_q11), sl_q11⟩)
    (c_q11 : codeIn K cd_q11 "sent_frames" = true)
    (k_q11 : keepIn K (.ref f_q11) = true)
    (a_q12 : nsIn K mainGlobals "is_damage" = some (some (.ref f_q12)))
    (l_q12 : K.lookup f_q12 = some ⟨oc_q12, od_q12, .func (fnOf "is_damage" "is_damage" (defArgs sIsDmg) (defBody sIsDmg) (defScope sIsDmg) .none kV_q12 dc_q12 pm_q12 an_q12 cd_q12 ct_q12), sl_q12⟩)
    (c_q12 : codeIn K cd_q12 "is_damage" = true)
    (k_q12 : keepIn K (.ref f_q12) = true)
    (a_q13 : nsIn K mainGlobals "damaged" = some (some (.ref f_q13)))
    (l_q13 : K.lookup f_q13 = some ⟨oc_q13, od_q13, .func (fnOf "damaged" "damaged" (defArgs sDmg) (defBody sDmg) (defScope sDmg) .none kV_q13 dc_q13 pm_q13 an_q13 cd_q13 ct_q13), sl_q13⟩)
    (c_q13 : codeIn K cd_q13 "damaged" = true)
    (k_q13 : keepIn K (.ref f_q13) = true)
    (a_q14 : nsIn K mainGlobals "heard_frames" = some (some (.ref f_q14)))
    (l_q14 : K.lookup f_q14 = some ⟨oc_q14, od_q14, .func (fnOf "heard_frames" "heard_frames" (defArgs sHeard) (defBody sHeard) (defScope sHeard) .none kV_q14 dc_q14 pm_q14 an_q14 cd_q14 ct_q14), sl_q14⟩)
    (c_q14 : codeIn K cd_q14 "heard_frames" = true)
    (k_q14 : keepIn K (.ref f_q14) = true)
    (a_q15 : nsIn K mainGlobals "threes" = some (some (.ref f_q15)))
    (l_q15 : K.lookup f_q15 = some ⟨oc_q15, od_q15, .func (fnOf "threes" "threes" (defArgs sThrees) (defBody sThrees) (defScope sThrees) .none kV_q15 dc_q15 pm_q15 an_q15 cd_q15 ct_q15), sl_q15⟩)
    (c_q15 : codeIn K cd_q15 "threes" = true)
    (k_q15 : keepIn K (.ref f_q15) = true)
    (a_q16 : nsIn K mainGlobals "is_parameter" = some (some (.ref f_q16)))
    (l_q16 : K.lookup f_q16 = some ⟨oc_q16, od_q16, .func (fnOf "is_parameter" "is_parameter" (defArgs sIsPar) (defBody sIsPar) (defScope sIsPar) .none kV_q16 dc_q16 pm_q16 an_q16 cd_q16 ct_q16), sl_q16⟩)
    (c_q16 : codeIn K cd_q16 "is_parameter" = true)
    (k_q16 : keepIn K (.ref f_q16) = true)
    (a_q17 : nsIn K mainGlobals "are_parameters" = some (some (.ref f_q17)))
    (l_q17 : K.lookup f_q17 = some ⟨oc_q17, od_q17, .func (fnOf "are_parameters" "are_parameters" (defArgs sArePar) (defBody sArePar) (defScope sArePar) .none kV_q17 dc_q17 pm_q17 an_q17 cd_q17 ct_q17), sl_q17⟩)
    (c_q17 : codeIn K cd_q17 "are_parameters" = true)
    (k_q17 : keepIn K (.ref f_q17) = true)
    (a_q18 : nsIn K mainGlobals "parameters_of" = some (some (.ref f_q18)))
    (l_q18 : K.lookup f_q18 = some ⟨oc_q18, od_q18, .func (fnOf "parameters_of" "parameters_of" (defArgs sParOf) (defBody sParOf) (defScope sParOf) .none kV_q18 dc_q18 pm_q18 an_q18 cd_q18 ct_q18), sl_q18⟩)
    (c_q18 : codeIn K cd_q18 "parameters_of" = true)
    (k_q18 : keepIn K (.ref f_q18) = true)
    (a_q19 : nsIn K mainGlobals "frame_parameters" = some (some (.ref f_q19)))
    (l_q19 : K.lookup f_q19 = some ⟨oc_q19, od_q19, .func (fnOf "frame_parameters" "frame_parameters" (defArgs sPars) (defBody sPars) (defScope sPars) .none kV_q19 dc_q19 pm_q19 an_q19 cd_q19 ct_q19), sl_q19⟩)
    (c_q19 : codeIn K cd_q19 "frame_parameters" = true)
    (k_q19 : keepIn K (.ref f_q19) = true)
    (a_q20 : nsIn K mainGlobals "frame_widths" = some (some (.ref f_q20)))
    (l_q20 : K.lookup f_q20 = some ⟨oc_q20, od_q20, .func (fnOf "frame_widths" "frame_widths" (defArgs sWidths) (defBody sWidths) (defScope sWidths) .none kV_q20 dc_q20 pm_q20 an_q20 cd_q20 ct_q20), sl_q20⟩)
    (c_q20 : codeIn K cd_q20 "frame_widths" = true)
    (k_q20 : keepIn K (.ref f_q20) = true)
    (a_q21 : nsIn K mainGlobals "widest_frame" = some (some (.ref f_q21)))
    (l_q21 : K.lookup f_q21 = some ⟨oc_q21, od_q21, .func (fnOf "widest_frame" "widest_frame" (defArgs sWidest) (defBody sWidest) (defScope sWidest) .none kV_q21 dc_q21 pm_q21 an_q21 cd_q21 ct_q21), sl_q21⟩)
    (c_q21 : codeIn K cd_q21 "widest_frame" = true)
    (k_q21 : keepIn K (.ref f_q21) = true)
    (a_q22 : nsIn K mainGlobals "recorder_answer" = some (some (.ref f_q22)))
    (l_q22 : K.lookup f_q22 = some ⟨oc_q22, od_q22, .func (fnOf "recorder_answer" "recorder_answer" (defArgs sRecAns) (defBody sRecAns) (defScope sRecAns) .none kV_q22 dc_q22 pm_q22 an_q22 cd_q22 ct_q22), sl_q22⟩)
    (c_q22 : codeIn K cd_q22 "recorder_answer" = true)
    (k_q22 : keepIn K (.ref f_q22) = true)
    (a_q23 : nsIn K mainGlobals "asked_answer" = some (some (.ref f_q23)))
    (l_q23 : K.lookup f_q23 = some ⟨oc_q23, od_q23, .func (fnOf "asked_answer" "asked_answer" (defArgs sAsked) (defBody sAsked) (defScope sAsked) .none kV_q23 dc_q23 pm_q23 an_q23 cd_q23 ct_q23), sl_q23⟩)
    (c_q23 : codeIn K cd_q23 "asked_answer" = true)
    (k_q23 : keepIn K (.ref f_q23) = true)
    (a_answers : nsIn K mainGlobals "answers" = some (some (.ref f_answers)))
    (l_answers : K.lookup f_answers = some ⟨oc_answers, od_answers, .func (fnOf "answers" "answers" (defArgs sAnswers) (defBody sAnswers) (defScope sAnswers) .none kV_answers dc_answers pm_answers an_answers cd_answers ct_answers), sl_answers⟩)
    (c_answers : codeIn K cd_answers "answers" = true)
    (k_answers : keepIn K (.ref f_answers) = true)
    (a_Ear : nsIn K mainGlobals "Ear" = some (some (.ref C_Ear)))
    (a_q24 : findIn K (.ref C_Ear) "__init__" = some (some (.ref f_q24)))
    (i_q24 : isFn K (.ref f_q24) = true)
    (l_q24 : K.lookup f_q24 = some ⟨oc_q24, od_q24, .func (fnOf "__init__" "Ear.__init__" (defArgs sEInit) (defBody sEInit) (defScope sEInit) .none kV_q24 dc_q24 pm_q24 an_q24 cd_q24 ct_q24), sl_q24⟩)
    (c_q24 : codeIn K cd_q24 "Ear.__init__" = true)
    (k_q24 : keepIn K (.ref f_q24) = true)
    (mk_Ear : makesIn K C_Ear = true)
    (kc_Ear : keepIn K (.ref C_Ear) = true)
    (a_q25 : findIn K (.ref C_Ear) "take" = some (some (.ref f_q25)))
    (i_q25 : isFn K (.ref f_q25) = true)
    (l_q25 : K.lookup f_q25 = some ⟨oc_q25, od_q25, .func (fnOf "take" "Ear.take" (defArgs sETake) (defBody sETake) (defScope sETake) .none kV_q25 dc_q25 pm_q25 an_q25 cd_q25 ct_q25), sl_q25⟩)
    (c_q25 : codeIn K cd_q25 "Ear.take" = true)
    (k_q25 : keepIn K (.ref f_q25) = true)
    (a_q26 : findIn K (.ref C_Ear) "take_inside" = some (some (.ref f_q26)))
    (i_q26 : isFn K (.ref f_q26) = true)
    (l_q26 : K.lookup f_q26 = some ⟨oc_q26, od_q26, .func (fnOf "take_inside" "Ear.take_inside" (defArgs sEIn) (defBody sEIn) (defScope sEIn) .none kV_q26 dc_q26 pm_q26 an_q26 cd_q26 ct_q26), sl_q26⟩)
    (c_q26 : codeIn K cd_q26 "Ear.take_inside" = true)
    (k_q26 : keepIn K (.ref f_q26) = true)
    (a_q27 : findIn K (.ref C_Ear) "take_escaped" = some (some (.ref f_q27)))
    (i_q27 : isFn K (.ref f_q27) = true)
    (l_q27 : K.lookup f_q27 = some ⟨oc_q27, od_q27, .func (fnOf "take_escaped" "Ear.take_escaped" (defArgs sEEsc) (defBody sEEsc) (defScope sEEsc) .none kV_q27 dc_q27 pm_q27 an_q27 cd_q27 ct_q27), sl_q27⟩)
    (c_q27 : codeIn K cd_q27 "Ear.take_escaped" = true)
    (k_q27 : keepIn K (.ref f_q27) = true)
    (a_q28 : findIn K (.ref C_Ear) "end_frame" = some (some (.ref f_q28)))
    (i_q28 : isFn K (.ref f_q28) = true)
    (l_q28 : K.lookup f_q28 = some ⟨oc_q28, od_q28, .func (fnOf "end_frame" "Ear.end_frame" (defArgs sEEnd) (defBody sEEnd) (defScope sEEnd) .none kV_q28 dc_q28 pm_q28 an_q28 cd_q28 ct_q28), sl_q28⟩)
    (c_q28 : codeIn K cd_q28 "Ear.end_frame" = true)
    (k_q28 : keepIn K (.ref f_q28) = true)
    (a_q29 : findIn K (.ref C_Ear) "is_told" = some (some (.ref f_q29)))
    (i_q29 : isFn K (.ref f_q29) = true)
    (l_q29 : K.lookup f_q29 = some ⟨oc_q29, od_q29, .func (fnOf "is_told" "Ear.is_told" (defArgs sETold) (defBody sETold) (defScope sETold) .none kV_q29 dc_q29 pm_q29 an_q29 cd_q29 ct_q29), sl_q29⟩)
    (c_q29 : codeIn K cd_q29 "Ear.is_told" = true)
    (k_q29 : keepIn K (.ref f_q29) = true)
    (pg_Ear : plainGet K C_Ear Str.empty = true)
    (hd_Ear : hasDictIn K C_Ear = true)
    (po_Ear : plainOver K C_Ear = true)
    (sa_Ear : findIn K (.ref C_Ear) "__setattr__" = some (some (.builtin "object.__setattr__")))
    (n_Ear_length : findIn K (.ref C_Ear) "length" = some none)
    (n_Ear_heard : findIn K (.ref C_Ear) "heard" = some none)
    (n_Ear_begun : findIn K (.ref C_Ear) "begun" = some none)
    (n_Ear_waits : findIn K (.ref C_Ear) "waits" = some none)
    (a_Parameter : nsIn K mainGlobals "Parameter" = some (some (.ref C_Parameter)))
    (a_q30 : findIn K (.ref C_Parameter) "__init__" = some (some (.ref f_q30)))
    (i_q30 : isFn K (.ref f_q30) = true)
    (l_q30 : K.lookup f_q30 = some ⟨oc_q30, od_q30, .func (fnOf "__init__" "Parameter.__init__" (defArgs sParInit) (defBody sParInit) (defScope sParInit) .none kV_q30 dc_q30 pm_q30 an_q30 cd_q30 ct_q30), sl_q30⟩)
    (c_q30 : codeIn K cd_q30 "Parameter.__init__" = true)
    (k_q30 : keepIn K (.ref f_q30) = true)
    (mk_Parameter : makesIn K C_Parameter = true)
    (kc_Parameter : keepIn K (.ref C_Parameter) = true)
    (a_q31 : findIn K (.ref C_Parameter) "is_in_frame" = some (some (.ref f_q31)))
    (i_q31 : isFn K (.ref f_q31) = true)
    (l_q31 : K.lookup f_q31 = some ⟨oc_q31, od_q31, .func (fnOf "is_in_frame" "Parameter.is_in_frame" (defArgs sParIn) (defBody sParIn) (defScope sParIn) .none kV_q31 dc_q31 pm_q31 an_q31 cd_q31 ct_q31), sl_q31⟩)
    (c_q31 : codeIn K cd_q31 "Parameter.is_in_frame" = true)
    (k_q31 : keepIn K (.ref f_q31) = true)
    (pg_Parameter : plainGet K C_Parameter Str.empty = true)
    (hd_Parameter : hasDictIn K C_Parameter = true)
    (po_Parameter : plainOver K C_Parameter = true)
    (sa_Parameter : findIn K (.ref C_Parameter) "__setattr__" = some (some (.builtin "object.__setattr__")))
    (n_Parameter_width : findIn K (.ref C_Parameter) "width" = some none)
    (n_Parameter_period : findIn K (.ref C_Parameter) "period" = some none)
    (n_Parameter_phase : findIn K (.ref C_Parameter) "phase" = some none)
    (a_Ring : nsIn K mainGlobals "Ring" = some (some (.ref C_Ring)))
    (a_q32 : findIn K (.ref C_Ring) "__init__" = some (some (.ref f_q32)))
    (i_q32 : isFn K (.ref f_q32) = true)
    (l_q32 : K.lookup f_q32 = some ⟨oc_q32, od_q32, .func (fnOf "__init__" "Ring.__init__" (defArgs sRInit) (defBody sRInit) (defScope sRInit) .none kV_q32 dc_q32 pm_q32 an_q32 cd_q32 ct_q32), sl_q32⟩)
    (c_q32 : codeIn K cd_q32 "Ring.__init__" = true)
    (k_q32 : keepIn K (.ref f_q32) = true)
    (mk_Ring : makesIn K C_Ring = true)
    (kc_Ring : keepIn K (.ref C_Ring) = true)
    (a_q33 : findIn K (.ref C_Ring) "write_frame" = some (some (.ref f_q33)))
    (i_q33 : isFn K (.ref f_q33) = true)
    (l_q33 : K.lookup f_q33 = some ⟨oc_q33, od_q33, .func (fnOf "write_frame" "Ring.write_frame" (defArgs sRWrite) (defBody sRWrite) (defScope sRWrite) .none kV_q33 dc_q33 pm_q33 an_q33 cd_q33 ct_q33), sl_q33⟩)
    (c_q33 : codeIn K cd_q33 "Ring.write_frame" = true)
    (k_q33 : keepIn K (.ref f_q33) = true)
    (a_q34 : findIn K (.ref C_Ring) "flip_bit" = some (some (.ref f_q34)))
    (i_q34 : isFn K (.ref f_q34) = true)
    (l_q34 : K.lookup f_q34 = some ⟨oc_q34, od_q34, .func (fnOf "flip_bit" "Ring.flip_bit" (defArgs sRFlip) (defBody sRFlip) (defScope sRFlip) .none kV_q34 dc_q34 pm_q34 an_q34 cd_q34 ct_q34), sl_q34⟩)
    (c_q34 : codeIn K cd_q34 "Ring.flip_bit" = true)
    (k_q34 : keepIn K (.ref f_q34) = true)
    (a_q35 : findIn K (.ref C_Ring) "is_good" = some (some (.ref f_q35)))
    (i_q35 : isFn K (.ref f_q35) = true)
    (l_q35 : K.lookup f_q35 = some ⟨oc_q35, od_q35, .func (fnOf "is_good" "Ring.is_good" (defArgs sRGood) (defBody sRGood) (defScope sRGood) .none kV_q35 dc_q35 pm_q35 an_q35 cd_q35 ct_q35), sl_q35⟩)
    (c_q35 : codeIn K cd_q35 "Ring.is_good" = true)
    (k_q35 : keepIn K (.ref f_q35) = true)
    (a_q36 : findIn K (.ref C_Ring) "frame_in" = some (some (.ref f_q36)))
    (i_q36 : isFn K (.ref f_q36) = true)
    (l_q36 : K.lookup f_q36 = some ⟨oc_q36, od_q36, .func (fnOf "frame_in" "Ring.frame_in" (defArgs sRIn) (defBody sRIn) (defScope sRIn) .none kV_q36 dc_q36 pm_q36 an_q36 cd_q36 ct_q36), sl_q36⟩)
    (c_q36 : codeIn K cd_q36 "Ring.frame_in" = true)
    (k_q36 : keepIn K (.ref f_q36) = true)
    (a_q37 : findIn K (.ref C_Ring) "good_frames" = some (some (.ref f_q37)))
    (i_q37 : isFn K (.ref f_q37) = true)
    (l_q37 : K.lookup f_q37 = some ⟨oc_q37, od_q37, .func (fnOf "good_frames" "Ring.good_frames" (defArgs sRFrames) (defBody sRFrames) (defScope sRFrames) .none kV_q37 dc_q37 pm_q37 an_q37 cd_q37 ct_q37), sl_q37⟩)
    (c_q37 : codeIn K cd_q37 "Ring.good_frames" = true)
    (k_q37 : keepIn K (.ref f_q37) = true)
    (pg_Ring : plainGet K C_Ring Str.empty = true)
    (hd_Ring : hasDictIn K C_Ring = true)
    (po_Ring : plainOver K C_Ring = true)
    (sa_Ring : findIn K (.ref C_Ring) "__setattr__" = some (some (.builtin "object.__setattr__")))
    (n_Ring_size : findIn K (.ref C_Ring) "size" = some none)
    (n_Ring_length : findIn K (.ref C_Ring) "length" = some none)
    (n_Ring_slots : findIn K (.ref C_Ring) "slots" = some none)
    (n_Ring_hurt : findIn K (.ref C_Ring) "hurt" = some none)
    (a_Recorder : nsIn K mainGlobals "Recorder" = some (some (.ref C_Recorder)))
    (a_q38 : findIn K (.ref C_Recorder) "__init__" = some (some (.ref f_q38)))
    (i_q38 : isFn K (.ref f_q38) = true)
    (l_q38 : K.lookup f_q38 = some ⟨oc_q38, od_q38, .func (fnOf "__init__" "Recorder.__init__" (defArgs sRecInit) (defBody sRecInit) (defScope sRecInit) .none kV_q38 dc_q38 pm_q38 an_q38 cd_q38 ct_q38), sl_q38⟩)
    (c_q38 : codeIn K cd_q38 "Recorder.__init__" = true)
    (k_q38 : keepIn K (.ref f_q38) = true)
    (mk_Recorder : makesIn K C_Recorder = true)
    (kc_Recorder : keepIn K (.ref C_Recorder) = true)
    (a_q39 : findIn K (.ref C_Recorder) "record" = some (some (.ref f_q39)))
    (i_q39 : isFn K (.ref f_q39) = true)
    (l_q39 : K.lookup f_q39 = some ⟨oc_q39, od_q39, .func (fnOf "record" "Recorder.record" (defArgs sRecRecord) (defBody sRecRecord) (defScope sRecRecord) .none kV_q39 dc_q39 pm_q39 an_q39 cd_q39 ct_q39), sl_q39⟩)
    (c_q39 : codeIn K cd_q39 "Recorder.record" = true)
    (k_q39 : keepIn K (.ref f_q39) = true)
    (a_q40 : findIn K (.ref C_Recorder) "found" = some (some (.ref f_q40)))
    (i_q40 : isFn K (.ref f_q40) = true)
    (l_q40 : K.lookup f_q40 = some ⟨oc_q40, od_q40, .func (fnOf "found" "Recorder.found" (defArgs sRecFound) (defBody sRecFound) (defScope sRecFound) .none kV_q40 dc_q40 pm_q40 an_q40 cd_q40 ct_q40), sl_q40⟩)
    (c_q40 : codeIn K cd_q40 "Recorder.found" = true)
    (k_q40 : keepIn K (.ref f_q40) = true)
    (a_q41 : findIn K (.ref C_Recorder) "cut" = some (some (.ref f_q41)))
    (i_q41 : isFn K (.ref f_q41) = true)
    (l_q41 : K.lookup f_q41 = some ⟨oc_q41, od_q41, .func (fnOf "cut" "Recorder.cut" (defArgs sRecCut) (defBody sRecCut) (defScope sRecCut) .none kV_q41 dc_q41 pm_q41 an_q41 cd_q41 ct_q41), sl_q41⟩)
    (c_q41 : codeIn K cd_q41 "Recorder.cut" = true)
    (k_q41 : keepIn K (.ref f_q41) = true)
    (a_q42 : findIn K (.ref C_Recorder) "flip" = some (some (.ref f_q42)))
    (i_q42 : isFn K (.ref f_q42) = true)
    (l_q42 : K.lookup f_q42 = some ⟨oc_q42, od_q42, .func (fnOf "flip" "Recorder.flip" (defArgs sRecFlip) (defBody sRecFlip) (defScope sRecFlip) .none kV_q42 dc_q42 pm_q42 an_q42 cd_q42 ct_q42), sl_q42⟩)
    (c_q42 : codeIn K cd_q42 "Recorder.flip" = true)
    (k_q42 : keepIn K (.ref f_q42) = true)
    (a_q43 : findIn K (.ref C_Recorder) "restart" = some (some (.ref f_q43)))
    (i_q43 : isFn K (.ref f_q43) = true)
    (l_q43 : K.lookup f_q43 = some ⟨oc_q43, od_q43, .func (fnOf "restart" "Recorder.restart" (defArgs sRecRestart) (defBody sRecRestart) (defScope sRecRestart) .none kV_q43 dc_q43 pm_q43 an_q43 cd_q43 ct_q43), sl_q43⟩)
    (c_q43 : codeIn K cd_q43 "Recorder.restart" = true)
    (k_q43 : keepIn K (.ref f_q43) = true)
    (a_q44 : findIn K (.ref C_Recorder) "read_out" = some (some (.ref f_q44)))
    (i_q44 : isFn K (.ref f_q44) = true)
    (l_q44 : K.lookup f_q44 = some ⟨oc_q44, od_q44, .func (fnOf "read_out" "Recorder.read_out" (defArgs sRecRead) (defBody sRecRead) (defScope sRecRead) .none kV_q44 dc_q44 pm_q44 an_q44 cd_q44 ct_q44), sl_q44⟩)
    (c_q44 : codeIn K cd_q44 "Recorder.read_out" = true)
    (k_q44 : keepIn K (.ref f_q44) = true)
    (a_q45 : findIn K (.ref C_Recorder) "slot_bytes" = some (some (.ref f_q45)))
    (i_q45 : isFn K (.ref f_q45) = true)
    (l_q45 : K.lookup f_q45 = some ⟨oc_q45, od_q45, .func (fnOf "slot_bytes" "Recorder.slot_bytes" (defArgs sRecSlot) (defBody sRecSlot) (defScope sRecSlot) .none kV_q45 dc_q45 pm_q45 an_q45 cd_q45 ct_q45), sl_q45⟩)
    (c_q45 : codeIn K cd_q45 "Recorder.slot_bytes" = true)
    (k_q45 : keepIn K (.ref f_q45) = true)
    (a_q46 : findIn K (.ref C_Recorder) "dump" = some (some (.ref f_q46)))
    (i_q46 : isFn K (.ref f_q46) = true)
    (l_q46 : K.lookup f_q46 = some ⟨oc_q46, od_q46, .func (fnOf "dump" "Recorder.dump" (defArgs sRecDump) (defBody sRecDump) (defScope sRecDump) .none kV_q46 dc_q46 pm_q46 an_q46 cd_q46 ct_q46), sl_q46⟩)
    (c_q46 : codeIn K cd_q46 "Recorder.dump" = true)
    (k_q46 : keepIn K (.ref f_q46) = true)
    (a_q47 : findIn K (.ref C_Recorder) "hear" = some (some (.ref f_q47)))
    (i_q47 : isFn K (.ref f_q47) = true)
    (l_q47 : K.lookup f_q47 = some ⟨oc_q47, od_q47, .func (fnOf "hear" "Recorder.hear" (defArgs sRecHear) (defBody sRecHear) (defScope sRecHear) .none kV_q47 dc_q47 pm_q47 an_q47 cd_q47 ct_q47), sl_q47⟩)
    (c_q47 : codeIn K cd_q47 "Recorder.hear" = true)
    (k_q47 : keepIn K (.ref f_q47) = true)
    (a_q48 : findIn K (.ref C_Recorder) "listen" = some (some (.ref f_q48)))
    (i_q48 : isFn K (.ref f_q48) = true)
    (l_q48 : K.lookup f_q48 = some ⟨oc_q48, od_q48, .func (fnOf "listen" "Recorder.listen" (defArgs sRecListen) (defBody sRecListen) (defScope sRecListen) .none kV_q48 dc_q48 pm_q48 an_q48 cd_q48 ct_q48), sl_q48⟩)
    (c_q48 : codeIn K cd_q48 "Recorder.listen" = true)
    (k_q48 : keepIn K (.ref f_q48) = true)
    (a_q49 : findIn K (.ref C_Recorder) "next_number" = some (some (.ref f_q49)))
    (i_q49 : isFn K (.ref f_q49) = true)
    (l_q49 : K.lookup f_q49 = some ⟨oc_q49, od_q49, .func (fnOf "next_number" "Recorder.next_number" (defArgs sRecNext) (defBody sRecNext) (defScope sRecNext) .none kV_q49 dc_q49 pm_q49 an_q49 cd_q49 ct_q49), sl_q49⟩)
    (c_q49 : codeIn K cd_q49 "Recorder.next_number" = true)
    (k_q49 : keepIn K (.ref f_q49) = true)
    (a_q50 : findIn K (.ref C_Recorder) "totals" = some (some (.ref f_q50)))
    (i_q50 : isFn K (.ref f_q50) = true)
    (l_q50 : K.lookup f_q50 = some ⟨oc_q50, od_q50, .func (fnOf "totals" "Recorder.totals" (defArgs sRecTotals) (defBody sRecTotals) (defScope sRecTotals) .none kV_q50 dc_q50 pm_q50 an_q50 cd_q50 ct_q50), sl_q50⟩)
    (c_q50 : codeIn K cd_q50 "Recorder.totals" = true)
    (k_q50 : keepIn K (.ref f_q50) = true)
    (a_q51 : findIn K (.ref C_Recorder) "told" = some (some (.ref f_q51)))
    (i_q51 : isFn K (.ref f_q51) = true)
    (l_q51 : K.lookup f_q51 = some ⟨oc_q51, od_q51, .func (fnOf "told" "Recorder.told" (defArgs sRecTold) (defBody sRecTold) (defScope sRecTold) .none kV_q51 dc_q51 pm_q51 an_q51 cd_q51 ct_q51), sl_q51⟩)
    (c_q51 : codeIn K cd_q51 "Recorder.told" = true)
    (k_q51 : keepIn K (.ref f_q51) = true)
    (a_q52 : findIn K (.ref C_Recorder) "told_frame" = some (some (.ref f_q52)))
    (i_q52 : isFn K (.ref f_q52) = true)
    (l_q52 : K.lookup f_q52 = some ⟨oc_q52, od_q52, .func (fnOf "told_frame" "Recorder.told_frame" (defArgs sRecToldF) (defBody sRecToldF) (defScope sRecToldF) .none kV_q52 dc_q52 pm_q52 an_q52 cd_q52 ct_q52), sl_q52⟩)
    (c_q52 : codeIn K cd_q52 "Recorder.told_frame" = true)
    (k_q52 : keepIn K (.ref f_q52) = true)
    (pg_Recorder : plainGet K C_Recorder Str.empty = true)
    (hd_Recorder : hasDictIn K C_Recorder = true)
    (po_Recorder : plainOver K C_Recorder = true)
    (sa_Recorder : findIn K (.ref C_Recorder) "__setattr__" = some (some (.builtin "object.__setattr__")))
    (n_Recorder_ring : findIn K (.ref C_Recorder) "ring" = some none)
    (n_Recorder_length : findIn K (.ref C_Recorder) "length" = some none)
    (n_Recorder_first : findIn K (.ref C_Recorder) "first" = some none)
    (n_Recorder_parameters : findIn K (.ref C_Recorder) "parameters" = some none)
    (n_Recorder_upcoming : findIn K (.ref C_Recorder) "upcoming" = some none)
    (n_Recorder_cut_after : findIn K (.ref C_Recorder) "cut_after" = some none)
    (n_Recorder_frames_recorded : findIn K (.ref C_Recorder) "frames_recorded" = some none)
    (n_Recorder_powers_lost : findIn K (.ref C_Recorder) "powers_lost" = some none)
    (n_Recorder_bits_flipped : findIn K (.ref C_Recorder) "bits_flipped" = some none)
    (a_CallLine : nsIn K mainGlobals "CallLine" = some (some (.ref C_CallLine)))
    (a_q53 : findIn K (.ref C_CallLine) "__init__" = some (some (.ref f_q53)))
    (i_q53 : isFn K (.ref f_q53) = true)
    (l_q53 : K.lookup f_q53 = some ⟨oc_q53, od_q53, .func (fnOf "__init__" "CallLine.__init__" (defArgs sLInit) (defBody sLInit) (defScope sLInit) .none kV_q53 dc_q53 pm_q53 an_q53 cd_q53 ct_q53), sl_q53⟩)
    (c_q53 : codeIn K cd_q53 "CallLine.__init__" = true)
    (k_q53 : keepIn K (.ref f_q53) = true)
    (mk_CallLine : makesIn K C_CallLine = true)
    (kc_CallLine : keepIn K (.ref C_CallLine) = true)
    (a_q54 : findIn K (.ref C_CallLine) "answer" = some (some (.ref f_q54)))
    (i_q54 : isFn K (.ref f_q54) = true)
    (l_q54 : K.lookup f_q54 = some ⟨oc_q54, od_q54, .func (fnOf "answer" "CallLine.answer" (defArgs sLAnswer) (defBody sLAnswer) (defScope sLAnswer) .none kV_q54 dc_q54 pm_q54 an_q54 cd_q54 ct_q54), sl_q54⟩)
    (c_q54 : codeIn K cd_q54 "CallLine.answer" = true)
    (k_q54 : keepIn K (.ref f_q54) = true)
    (a_q55 : findIn K (.ref C_CallLine) "lay" = some (some (.ref f_q55)))
    (i_q55 : isFn K (.ref f_q55) = true)
    (l_q55 : K.lookup f_q55 = some ⟨oc_q55, od_q55, .func (fnOf "lay" "CallLine.lay" (defArgs sLLay) (defBody sLLay) (defScope sLLay) .none kV_q55 dc_q55 pm_q55 an_q55 cd_q55 ct_q55), sl_q55⟩)
    (c_q55 : codeIn K cd_q55 "CallLine.lay" = true)
    (k_q55 : keepIn K (.ref f_q55) = true)
    (pg_CallLine : plainGet K C_CallLine Str.empty = true)
    (hd_CallLine : hasDictIn K C_CallLine = true)
    (po_CallLine : plainOver K C_CallLine = true)
    (sa_CallLine : findIn K (.ref C_CallLine) "__setattr__" = some (some (.builtin "object.__setattr__")))
    (n_CallLine_recorder : findIn K (.ref C_CallLine) "recorder" = some none)
    (a_PERIODS : nsIn K mainGlobals "PERIODS" = some (some (.ref p_PERIODS)))
    (l_PERIODS : K.lookup p_PERIODS = some ⟨.type "tuple", d_PERIODS, .seq #[.int 1 u_PERIODS_0, .int 2 u_PERIODS_1, .int 4 u_PERIODS_2, .int 8 u_PERIODS_3, .int 16 u_PERIODS_4] n_PERIODS, s_PERIODS⟩)
    (a_NUMBER_COUNTS : nsIn K mainGlobals "NUMBER_COUNTS" = some (some (.ref p_NUMBER_COUNTS)))
    (l_NUMBER_COUNTS : K.lookup p_NUMBER_COUNTS = some ⟨.type "tuple", d_NUMBER_COUNTS, .seq #[.int 3 u_NUMBER_COUNTS_0, .int 0 u_NUMBER_COUNTS_1, .int 1 u_NUMBER_COUNTS_2, .int 3 u_NUMBER_COUNTS_3, .int 0 u_NUMBER_COUNTS_4, .int 0 u_NUMBER_COUNTS_5, .int 1 u_NUMBER_COUNTS_6, .int 0 u_NUMBER_COUNTS_7, .int 3 u_NUMBER_COUNTS_8, .int 0 u_NUMBER_COUNTS_9, .int 0 u_NUMBER_COUNTS_10, .int 0 u_NUMBER_COUNTS_11] n_NUMBER_COUNTS, s_NUMBER_COUNTS⟩)
    (a_HAS_ROW : nsIn K mainGlobals "HAS_ROW" = some (some (.ref p_HAS_ROW)))
    (l_HAS_ROW : K.lookup p_HAS_ROW = some ⟨.type "tuple", d_HAS_ROW, .seq #[.bool true, .bool true, .bool false, .bool false, .bool false, .bool false, .bool false, .bool false, .bool false, .bool true, .bool false, .bool false] n_HAS_ROW, s_HAS_ROW⟩)
    : ∃ fd : FuncData, (∀ (s : Shared) (us : List Value), us.length = (["calls"] : List Str).length → BindsTo s fd ⟨us, []⟩ ((["calls"] : List Str).zip us)) ∧ ∀ base : Heap, K.In base → base.Ns mainGlobals mg → FnOk P w K mg base CX0 12 fa fd ["calls"] (spAns K) := by
  have e := hfa.symm.trans (mg_of X G a_answers)
  cases e
  have T0 : Txt mg := ⟨none_mk X G z_sum, none_mk X G z_len, none_mk X G z_zip, none_mk X G z_all, none_mk X G z_range, none_mk X G z_max, none_mk X G z_list, none_mk X G z_enumerate, none_mk X G z_sorted, int_mk X G i_HEAD, int_mk X G i_TAIL, int_mk X G i_MOST_PARAMETERS, int_mk X G i_WIDEST, int_mk X G i_LONGEST_PERIOD⟩
  have TL : TxtL mg := ⟨int_mk X G i_BEGIN, int_mk X G i_END, int_mk X G i_ESCAPE, int_mk X G i_LOST, int_mk X G i_DOUBLED, int_mk X G i_FLIPPED⟩
  have TC : TxtC mg := ⟨int_mk X G i_OUT_OF_RANGE, int_mk X G i_NOTHING_LAID, int_mk X G i_FRAME_TOO_WIDE, int_mk X G i_WRONG_VALUES, int_mk X G i_SLOT_HURT, int_mk X G i_NUMBERS_USED_UP, int_mk X G i_LAST_NUMBER, int_mk X G i_MOST_HEARD, int_mk X G i_LAY, int_mk X G i_RECORD, int_mk X G i_CUT, int_mk X G i_FLIP, int_mk X G i_RESTART, int_mk X G i_READ, int_mk X G i_SLOT, int_mk X G i_DUMP, int_mk X G i_HEAR, int_mk X G i_LISTEN, int_mk X G i_NEXT_NUMBER⟩
  have TPer : Periods K mg := ⟨p_PERIODS, mg_of X G a_PERIODS, fun H => .inr ⟨_, _, _, l_PERIODS, rfl, rfl, by show 5 ≤ sizeLine; decide, (.cons ⟨_, rfl⟩ (.cons ⟨_, rfl⟩ (.cons ⟨_, rfl⟩ (.cons ⟨_, rfl⟩ (.cons ⟨_, rfl⟩ .nil)))))⟩⟩
  have TN : Counts K mg := ⟨p_NUMBER_COUNTS, mg_of X G a_NUMBER_COUNTS, fun H => .inr ⟨_, _, _, l_NUMBER_COUNTS, rfl, rfl, by show 12 ≤ sizeLine; decide, (.cons ⟨_, rfl⟩ (.cons ⟨_, rfl⟩ (.cons ⟨_, rfl⟩ (.cons ⟨_, rfl⟩ (.cons ⟨_, rfl⟩ (.cons ⟨_, rfl⟩ (.cons ⟨_, rfl⟩ (.cons ⟨_, rfl⟩ (.cons ⟨_, rfl⟩ (.cons ⟨_, rfl⟩ (.cons ⟨_, rfl⟩ (.cons ⟨_, rfl⟩ .nil))))))))))))⟩⟩
  have TH : HasRow K mg := ⟨p_HAS_ROW, mg_of X G a_HAS_ROW, fun H => .inr ⟨_, _, _, l_HAS_ROW, rfl, rfl, by show 12 ≤ sizeLine; decide, (.cons rfl (.cons rfl (.cons rfl (.cons rfl (.cons rfl (.cons rfl (.cons rfl (.cons rfl (.cons rfl (.cons rfl (.cons rfl (.cons rfl .nil))))))))))))⟩⟩
  have TEar : TxtE K C_Ear := ⟨⟨pg_Ear, hd_Ear, po_Ear, sa_Ear⟩, n_Ear_length, n_Ear_heard, n_Ear_begun, n_Ear_waits⟩
  have TParameter : TxtP K C_Parameter := ⟨⟨pg_Parameter, hd_Parameter, po_Parameter, sa_Parameter⟩, n_Parameter_width, n_Parameter_period, n_Parameter_phase⟩
  have TRing : TxtR K mg C_Ring := ⟨⟨pg_Ring, hd_Ring, po_Ring, sa_Ring⟩, n_Ring_size, n_Ring_length, n_Ring_slots, n_Ring_hurt, int_mk X G i_DONE⟩
  have TRecorder : TxtRec K C_Recorder := ⟨⟨pg_Recorder, hd_Recorder, po_Recorder, sa_Recorder⟩, n_Recorder_ring, n_Recorder_length, n_Recorder_first, n_Recorder_parameters, n_Recorder_upcoming, n_Recorder_cut_after, n_Recorder_frames_recorded, n_Recorder_powers_lost, n_Recorder_bits_flipped⟩
  have TCallLine : TxtLn K C_CallLine := ⟨⟨pg_CallLine, hd_CallLine, po_CallLine, sa_CallLine⟩, n_CallLine_recorder⟩
  exact ⟨fnOf "answers" "answers" (defArgs sAnswers) (defBody sAnswers) (defScope sAnswers) .none kV_answers dc_answers pm_answers an_answers cd_answers ct_answers, fun s us hu => match us, hu with | [_], _ => .of_eq rfl, fun base _ _ => chain (C := ⟨C_Recorder, C_Ring, C_Parameter⟩) T0 TL TC TPer TN TH TEar TParameter TRing TRecorder TCallLine
    (funD_mk X G a_q0 l_q0 c_q0 k_q0)
    (funD_mk X G a_q1 l_q1 c_q1 k_q1)
    (funD_mk X G a_q2 l_q2 c_q2 k_q2)
    (funD_mk X G a_q3 l_q3 c_q3 k_q3)
    (funD_mk X G a_q4 l_q4 c_q4 k_q4)
    (funD_mk X G a_q5 l_q5 c_q5 k_q5)
    (funD_mk X G a_q6 l_q6 c_q6 k_q6)
    (funD_mk X G a_q7 l_q7 c_q7 k_q7)
    (funD_mk X G a_q8 l_q8 c_q8 k_q8)
    (funD_mk X G a_q9 l_q9 c_q9 k_q9)
    (funD_mk X G a_q10 l_q10 c_q10 k_q10)
    (funD_mk X G a_q11 l_q11 c_q11 k_q11)
    (funD_mk X G a_q12 l_q12 c_q12 k_q12)
    (funD_mk X G a_q13 l_q13 c_q13 k_q13)
    (funD_mk X G a_q14 l_q14 c_q14 k_q14)
    (funD_mk X G a_q15 l_q15 c_q15 k_q15)
    (funD_mk X G a_q16 l_q16 c_q16 k_q16)
    (funD_mk X G a_q17 l_q17 c_q17 k_q17)
    (funD_mk X G a_q18 l_q18 c_q18 k_q18)
    (funD_mk X G a_q19 l_q19 c_q19 k_q19)
    (funD_mk X G a_q20 l_q20 c_q20 k_q20)
    (funD_mk X G a_q21 l_q21 c_q21 k_q21)
    (funD_mk X G a_q22 l_q22 c_q22 k_q22)
    (funD_mk X G a_q23 l_q23 c_q23 k_q23)
    (funC_mk X G a_Ear a_q24 i_q24 l_q24 c_q24 k_q24 mk_Ear kc_Ear)
    (funM_mk a_q25 i_q25 l_q25 c_q25 k_q25)
    (funM_mk a_q26 i_q26 l_q26 c_q26 k_q26)
    (funM_mk a_q27 i_q27 l_q27 c_q27 k_q27)
    (funM_mk a_q28 i_q28 l_q28 c_q28 k_q28)
    (funM_mk a_q29 i_q29 l_q29 c_q29 k_q29)
    (funC_mk X G a_Parameter a_q30 i_q30 l_q30 c_q30 k_q30 mk_Parameter kc_Parameter)
    (funM_mk a_q31 i_q31 l_q31 c_q31 k_q31)
    (funC_mk X G a_Ring a_q32 i_q32 l_q32 c_q32 k_q32 mk_Ring kc_Ring)
    (funM_mk a_q33 i_q33 l_q33 c_q33 k_q33)
    (funM_mk a_q34 i_q34 l_q34 c_q34 k_q34)
    (funM_mk a_q35 i_q35 l_q35 c_q35 k_q35)
    (funM_mk a_q36 i_q36 l_q36 c_q36 k_q36)
    (funM_mk a_q37 i_q37 l_q37 c_q37 k_q37)
    (funC_mk X G a_Recorder a_q38 i_q38 l_q38 c_q38 k_q38 mk_Recorder kc_Recorder)
    (funM_mk a_q39 i_q39 l_q39 c_q39 k_q39)
    (funM_mk a_q40 i_q40 l_q40 c_q40 k_q40)
    (funM_mk a_q41 i_q41 l_q41 c_q41 k_q41)
    (funM_mk a_q42 i_q42 l_q42 c_q42 k_q42)
    (funM_mk a_q43 i_q43 l_q43 c_q43 k_q43)
    (funM_mk a_q44 i_q44 l_q44 c_q44 k_q44)
    (funM_mk a_q45 i_q45 l_q45 c_q45 k_q45)
    (funM_mk a_q46 i_q46 l_q46 c_q46 k_q46)
    (funM_mk a_q47 i_q47 l_q47 c_q47 k_q47)
    (funM_mk a_q48 i_q48 l_q48 c_q48 k_q48)
    (funM_mk a_q49 i_q49 l_q49 c_q49 k_q49)
    (funM_mk a_q50 i_q50 l_q50 c_q50 k_q50)
    (funM_mk a_q51 i_q51 l_q51 c_q51 k_q51)
    (funM_mk a_q52 i_q52 l_q52 c_q52 k_q52)
    (funC_mk X G a_CallLine a_q53 i_q53 l_q53 c_q53 k_q53 mk_CallLine kc_CallLine)
    (funM_mk a_q54 i_q54 l_q54 c_q54 k_q54)
    (funM_mk a_q55 i_q55 l_q55 c_q55 k_q55)
    (fun_mk l_answers c_answers k_answers)⟩
end Fr
open PySem PySem.W PyProof.Rows
section
local macro_rules | `(tactic| o_headS $H) => `(tactic| assumption)
theorem Fr.kept (h : PySem.Challenge.rw_framering_s01_answers.Holds) : PySem.Challenge.rw_framering_s01_answers.Holds := by
  w_on; k_headS
end
open PySem PySem.W PyProof.Rows
noncomputable section
namespace Fr
open PySem.Challenge (pw_framering_s01_answers)
abbrev pg : Program := pw_framering_s01_answers
abbrev b0 := boot_o_0
abbrev b1 := boot_o_1
abbrev b2 := boot_o_2
abbrev b3 := boot_o_3
abbrev b4 := boot_o_4
abbrev b5 := boot_o_5
abbrev b6 := boot_o_6
abbrev b7 := boot_o_7
abbrev b8 := boot_o_8
abbrev b9 := boot_o_9
abbrev b10 := boot_o_10
abbrev n := BT.node
abbrev l := BT.nil
def z : Obj := { cls := .none, data := .fields #[] }
def e : Obj := { cls := .type "tuple", data := .seq #[] }
def k (a : Nat) (P : Params) : Obj := ((kept.heap_1 P).lookup a).getD default
def c (a : Nat) (P : Params) : Obj := match (k a P).data with
  | .func F => { cls := .none, data := .func { F with globals := 0, doc := .none, pyModule := .none, annotations := none, code := .none, closureTuple := .none, builtins := 0 } }
  | _ => default
abbrev g (P : Params) (s : Str) (t : Nat) (v : Value) : DictEntry := { hash := PyData.keyHash P s, key := .str s t, val := v }
def xS13 (P : Params) : Obj := { cls := .type "code", data := .fields #[.str "<module>" 182, .str "<module>" 183, .str "/claim/cut.py" 184, .int 1 0, .int 0 0, .int 0 0, .int 0 0, .int 0 0, .ref 11, .bool false, .int 181 0, .ref 12, .none, .none, .none, .none, .int 185 0, .int 1 0, .str "/claim/cut.py" 186] }
def xS14 (P : Params) : Obj := { cls := .type "frame", slots := #[some (.ref 13), some (.ref 3), some (.ref 3), none, some (.str "__main__" 164), none, some (.ref 0)] }
def xA3 (P : Params) : Obj := { cls := .type "dict", data := .dict #[g P "__name__" 165 (.str "framering.parameters" 412), g P "__doc__" 166 (.none), g P "__package__" 167 (.none), g P "__loader__" 168 (.builtin "__main__.__loader__#opaque"), g P "__spec__" 169 (.none), g P "__annotations__" 170 (.ref 6), g P "__builtins__" 171 (.ref 4), g P "__file__" 173 (.str "/claim/cut.py" 172), g P "__cached__" 174 (.none), g P "HEAD" 190 (.int 2 189), g P "TAIL" 192 (.int 4 191), g P "two_bytes" 199 (.ref 21), g P "sum_bytes" 206 (.ref 28), g P "values_fit" 212 (.ref 33), g P "packed" 218 (.ref 38), g P "unpacked" 231 (.ref 45), g P "frame_bytes" 242 (.ref 52), g P "is_right_frame" 251 (.ref 59), g P "frame_number" 258 (.ref 66), g P "frame_values" 267 (.ref 73), g P "frames_told" 279 (.ref 80), g P "BEGIN" 283 (.int 192 282), g P "END" 285 (.int 193 284), g P "ESCAPE" 287 (.int 194 286), g P "LOST" 289 (.int 0 288), g P "DOUBLED" 291 (.int 1 290), g P "FLIPPED" 293 (.int 2 292), g P "sent_byte" 300 (.ref 87), g P "sent_frames" 310 (.ref 94), g P "is_damage" 320 (.ref 101), g P "damaged" 330 (.ref 108), g P "Ear" 401 (.ref 160), g P "heard_frames" 411 (.ref 171), g P "MOST_PARAMETERS" 415 (.int 12 414), g P "WIDEST" 417 (.int 16 416), g P "PERIODS" 423 (.ref 172), g P "LONGEST_PERIOD" 425 (.int 16 424)] 37 }
def xA12 (P : Params) : Obj := { cls := .none, data := .fields #[.int 4 0, .int 0 0, .ref 20, .int 6 0, .int 0 0, .ref 27, .int 8 0, .int 0 0, .ref 32, .int 12 0, .int 0 0, .ref 37, .int 18 0, .int 0 0, .ref 44, .int 28 0, .int 0 0, .ref 51, .int 31 0, .int 0 0, .ref 58, .int 36 0, .int 0 0, .ref 65, .int 38 0, .int 0 0, .ref 72, .int 40 0, .int 0 0, .ref 79, .int 56 0, .int 0 0, .ref 86, .int 58 0, .int 0 0, .ref 93, .int 66 0, .int 0 0, .ref 100, .int 70 0, .int 0 0, .ref 107, .int 76 0, .int 0 0, .ref 114, .int 117 0, .int 0 0, .ref 170] }
def xA110 (P : Params) : Obj := { cls := .type "builtin_function_or_method", data := .fields #[.builtin "type.__prepare__", .type "type"] }
def xA111 (P : Params) : Obj := { cls := .type "dict", data := .dict #[g P "__module__" 338 (.str "framering.line" 280), g P "__qualname__" 340 (.str "Ear" 339), g P "__firstlineno__" 342 (.int 76 341), g P "__init__" 350 (.ref 122), g P "take" 358 (.ref 129), g P "take_inside" 366 (.ref 136), g P "take_escaped" 374 (.ref 143), g P "end_frame" 381 (.ref 150), g P "is_told" 389 (.ref 157), g P "__static_attributes__" 394 (.ref 158)] 10 }
def xA113 (P : Params) : Obj := { cls := .none, data := .fields #[.int 78 0, .int 4 0, .ref 121, .int 84 0, .int 4 0, .ref 128, .int 93 0, .int 4 0, .ref 135, .int 102 0, .int 4 0, .ref 142, .int 108 0, .int 4 0, .ref 149, .int 113 0, .int 4 0, .ref 156] }
def xA114 (P : Params) : Obj := { cls := .type "code", data := .fields #[.str "Ear" 333, .str "Ear" 334, .str "/claim/cut.py" 335, .int 76 0, .int 0 0, .int 0 0, .int 0 0, .int 0 0, .ref 112, .bool false, .int 181 0, .ref 113, .none, .none, .none, .none, .int 336 0, .int 76 0, .str "/claim/cut.py" 337] }
def xA115 (P : Params) : Obj := { cls := .type "frame", slots := #[some (.ref 114), some (.ref 3), some (.ref 111), none, some (.str "framering.line" 280), none, some (.ref 0)] }
def xA163 (P : Params) : Obj := { cls := .type "super", data := .fields #[.ref 160, .ref 160, .ref 160] }
def xA164 (P : Params) : Obj := { cls := .type "builtin_function_or_method", data := .fields #[.builtin "object.__init_subclass__", .ref 160] }
def xB3 (P : Params) : Obj := { cls := .type "dict", data := .dict #[g P "__name__" 165 (.str "framering.recorder" 610), g P "__doc__" 166 (.none), g P "__package__" 167 (.none), g P "__loader__" 168 (.builtin "__main__.__loader__#opaque"), g P "__spec__" 169 (.none), g P "__annotations__" 170 (.ref 6), g P "__builtins__" 171 (.ref 4), g P "__file__" 173 (.str "/claim/cut.py" 172), g P "__cached__" 174 (.none), g P "HEAD" 190 (.int 2 189), g P "TAIL" 192 (.int 4 191), g P "two_bytes" 199 (.ref 21), g P "sum_bytes" 206 (.ref 28), g P "values_fit" 212 (.ref 33), g P "packed" 218 (.ref 38), g P "unpacked" 231 (.ref 45), g P "frame_bytes" 242 (.ref 52), g P "is_right_frame" 251 (.ref 59), g P "frame_number" 258 (.ref 66), g P "frame_values" 267 (.ref 73), g P "frames_told" 279 (.ref 80), g P "BEGIN" 283 (.int 192 282), g P "END" 285 (.int 193 284), g P "ESCAPE" 287 (.int 194 286), g P "LOST" 289 (.int 0 288), g P "DOUBLED" 291 (.int 1 290), g P "FLIPPED" 293 (.int 2 292), g P "sent_byte" 300 (.ref 87), g P "sent_frames" 310 (.ref 94), g P "is_damage" 320 (.ref 101), g P "damaged" 330 (.ref 108), g P "Ear" 401 (.ref 160), g P "heard_frames" 411 (.ref 171), g P "MOST_PARAMETERS" 415 (.int 12 414), g P "WIDEST" 417 (.int 16 416), g P "PERIODS" 423 (.ref 172), g P "LONGEST_PERIOD" 425 (.int 16 424), g P "Parameter" 466 (.ref 196), g P "threes" 472 (.ref 205), g P "is_parameter" 479 (.ref 212), g P "are_parameters" 485 (.ref 217), g P "parameters_of" 491 (.ref 222), g P "frame_parameters" 497 (.ref 227), g P "frame_widths" 503 (.ref 232), g P "widest_frame" 509 (.ref 237), g P "OUT_OF_RANGE" 512 (.int (-1) 511), g P "NOTHING_LAID" 515 (.int (-2) 514), g P "FRAME_TOO_WIDE" 518 (.int (-3) 517), g P "WRONG_VALUES" 521 (.int (-4) 520), g P "SLOT_HURT" 524 (.int (-5) 523), g P "NUMBERS_USED_UP" 527 (.int (-6) 526), g P "DONE" 531 (.int 165 530), g P "Ring" 609 (.ref 285), g P "LAST_NUMBER" 613 (.int 65535 612), g P "MOST_HEARD" 615 (.int 800 614), g P "LAY" 617 (.int 0 616), g P "RECORD" 619 (.int 1 618), g P "CUT" 621 (.int 2 620), g P "FLIP" 623 (.int 3 622), g P "RESTART" 625 (.int 4 624), g P "READ" 627 (.int 5 626), g P "SLOT" 629 (.int 6 628), g P "DUMP" 631 (.int 7 630), g P "HEAR" 633 (.int 8 632), g P "LISTEN" 635 (.int 9 634), g P "NEXT_NUMBER" 637 (.int 10 636), g P "NUMBER_COUNTS" 650 (.ref 290), g P "HAS_ROW" 651 (.ref 291)] 68 }
def xB12 (P : Params) : Obj := { cls := .none, data := .fields #[.int 4 0, .int 0 0, .ref 20, .int 6 0, .int 0 0, .ref 27, .int 8 0, .int 0 0, .ref 32, .int 12 0, .int 0 0, .ref 37, .int 18 0, .int 0 0, .ref 44, .int 28 0, .int 0 0, .ref 51, .int 31 0, .int 0 0, .ref 58, .int 36 0, .int 0 0, .ref 65, .int 38 0, .int 0 0, .ref 72, .int 40 0, .int 0 0, .ref 79, .int 56 0, .int 0 0, .ref 86, .int 58 0, .int 0 0, .ref 93, .int 66 0, .int 0 0, .ref 100, .int 70 0, .int 0 0, .ref 107, .int 76 0, .int 0 0, .ref 114, .int 117 0, .int 0 0, .ref 170, .int 127 0, .int 0 0, .ref 178, .int 136 0, .int 0 0, .ref 204, .int 138 0, .int 0 0, .ref 211, .int 140 0, .int 0 0, .ref 216, .int 144 0, .int 0 0, .ref 221, .int 146 0, .int 0 0, .ref 226, .int 148 0, .int 0 0, .ref 231, .int 150 0, .int 0 0, .ref 236, .int 160 0, .int 0 0, .ref 243] }
def xB175 (P : Params) : Obj := { cls := .type "dict", data := .dict #[g P "__module__" 433 (.str "framering.parameters" 412), g P "__qualname__" 435 (.str "Parameter" 434), g P "__firstlineno__" 437 (.int 127 436), g P "__init__" 447 (.ref 186), g P "is_in_frame" 455 (.ref 193), g P "__static_attributes__" 459 (.ref 194)] 6 }
def xB177 (P : Params) : Obj := { cls := .none, data := .fields #[.int 129 0, .int 4 0, .ref 185, .int 134 0, .int 4 0, .ref 192] }
def xB178 (P : Params) : Obj := { cls := .type "code", data := .fields #[.str "Parameter" 428, .str "Parameter" 429, .str "/claim/cut.py" 430, .int 127 0, .int 0 0, .int 0 0, .int 0 0, .int 0 0, .ref 176, .bool false, .int 181 0, .ref 177, .none, .none, .none, .none, .int 431 0, .int 127 0, .str "/claim/cut.py" 432] }
def xB179 (P : Params) : Obj := { cls := .type "frame", slots := #[some (.ref 178), some (.ref 3), some (.ref 175), none, some (.str "framering.parameters" 412), none, some (.ref 0)] }
def xB199 (P : Params) : Obj := { cls := .type "super", data := .fields #[.ref 196, .ref 196, .ref 196] }
def xB200 (P : Params) : Obj := { cls := .type "builtin_function_or_method", data := .fields #[.builtin "object.__init_subclass__", .ref 196] }
def xB240 (P : Params) : Obj := { cls := .type "dict", data := .dict #[g P "__module__" 539 (.str "framering.ring" 528), g P "__qualname__" 541 (.str "Ring" 540), g P "__firstlineno__" 543 (.int 160 542), g P "__init__" 549 (.ref 249), g P "write_frame" 564 (.ref 256), g P "flip_bit" 574 (.ref 263), g P "is_good" 583 (.ref 270), g P "frame_in" 591 (.ref 277), g P "good_frames" 597 (.ref 282), g P "__static_attributes__" 602 (.ref 283)] 10 }
def xB242 (P : Params) : Obj := { cls := .none, data := .fields #[.int 162 0, .int 4 0, .ref 248, .int 168 0, .int 4 0, .ref 255, .int 178 0, .int 4 0, .ref 262, .int 182 0, .int 4 0, .ref 269, .int 188 0, .int 4 0, .ref 276, .int 191 0, .int 4 0, .ref 281] }
def xB243 (P : Params) : Obj := { cls := .type "code", data := .fields #[.str "Ring" 534, .str "Ring" 535, .str "/claim/cut.py" 536, .int 160 0, .int 0 0, .int 0 0, .int 0 0, .int 0 0, .ref 241, .bool false, .int 181 0, .ref 242, .none, .none, .none, .none, .int 537 0, .int 160 0, .str "/claim/cut.py" 538] }
def xB244 (P : Params) : Obj := { cls := .type "frame", slots := #[some (.ref 243), some (.ref 3), some (.ref 240), none, some (.str "framering.ring" 528), none, some (.ref 0)] }
def xB288 (P : Params) : Obj := { cls := .type "super", data := .fields #[.ref 285, .ref 285, .ref 285] }
def xB289 (P : Params) : Obj := { cls := .type "builtin_function_or_method", data := .fields #[.builtin "object.__init_subclass__", .ref 285] }
def xF12 (P : Params) : Obj := { cls := .none, data := .fields #[.int 4 0, .int 0 0, .ref 20, .int 6 0, .int 0 0, .ref 27, .int 8 0, .int 0 0, .ref 32, .int 12 0, .int 0 0, .ref 37, .int 18 0, .int 0 0, .ref 44, .int 28 0, .int 0 0, .ref 51, .int 31 0, .int 0 0, .ref 58, .int 36 0, .int 0 0, .ref 65, .int 38 0, .int 0 0, .ref 72, .int 40 0, .int 0 0, .ref 79, .int 56 0, .int 0 0, .ref 86, .int 58 0, .int 0 0, .ref 93, .int 66 0, .int 0 0, .ref 100, .int 70 0, .int 0 0, .ref 107, .int 76 0, .int 0 0, .ref 114, .int 117 0, .int 0 0, .ref 170, .int 127 0, .int 0 0, .ref 178, .int 136 0, .int 0 0, .ref 204, .int 138 0, .int 0 0, .ref 211, .int 140 0, .int 0 0, .ref 216, .int 144 0, .int 0 0, .ref 221, .int 146 0, .int 0 0, .ref 226, .int 148 0, .int 0 0, .ref 231, .int 150 0, .int 0 0, .ref 236, .int 160 0, .int 0 0, .ref 243, .int 210 0, .int 0 0, .ref 297, .int 303 0, .int 0 0, .ref 412, .int 324 0, .int 0 0, .ref 447, .int 334 0, .int 0 0, .ref 454, .int 348 0, .int 0 0, .ref 461] }
def xF294 (P : Params) : Obj := { cls := .type "dict", data := .dict #[g P "__module__" 659 (.str "framering.recorder" 610), g P "__qualname__" 661 (.str "Recorder" 660), g P "__firstlineno__" 663 (.int 210 662), g P "__init__" 674 (.ref 305), g P "record" 686 (.ref 312), g P "found" 694 (.ref 319), g P "cut" 702 (.ref 326), g P "flip" 712 (.ref 333), g P "restart" 719 (.ref 340), g P "read_out" 726 (.ref 347), g P "slot_bytes" 734 (.ref 354), g P "dump" 742 (.ref 361), g P "hear" 753 (.ref 368), g P "listen" 759 (.ref 373), g P "next_number" 767 (.ref 380), g P "totals" 775 (.ref 387), g P "told" 781 (.ref 392), g P "told_frame" 791 (.ref 399), g P "__static_attributes__" 801 (.ref 400)] 19 }
def xF296 (P : Params) : Obj := { cls := .none, data := .fields #[.int 212 0, .int 4 0, .ref 304, .int 223 0, .int 4 0, .ref 311, .int 241 0, .int 4 0, .ref 318, .int 245 0, .int 4 0, .ref 325, .int 251 0, .int 4 0, .ref 332, .int 260 0, .int 4 0, .ref 339, .int 265 0, .int 4 0, .ref 346, .int 268 0, .int 4 0, .ref 353, .int 273 0, .int 4 0, .ref 360, .int 277 0, .int 4 0, .ref 367, .int 283 0, .int 4 0, .ref 372, .int 288 0, .int 4 0, .ref 379, .int 292 0, .int 4 0, .ref 386, .int 296 0, .int 4 0, .ref 391, .int 299 0, .int 4 0, .ref 398] }
def xF297 (P : Params) : Obj := { cls := .type "code", data := .fields #[.str "Recorder" 654, .str "Recorder" 655, .str "/claim/cut.py" 656, .int 210 0, .int 0 0, .int 0 0, .int 0 0, .int 0 0, .ref 295, .bool false, .int 181 0, .ref 296, .none, .none, .none, .none, .int 657 0, .int 210 0, .str "/claim/cut.py" 658] }
def xF298 (P : Params) : Obj := { cls := .type "frame", slots := #[some (.ref 297), some (.ref 3), some (.ref 294), none, some (.str "framering.recorder" 610), none, some (.ref 0)] }
def xF405 (P : Params) : Obj := { cls := .type "super", data := .fields #[.ref 402, .ref 402, .ref 402] }
def xF406 (P : Params) : Obj := { cls := .type "builtin_function_or_method", data := .fields #[.builtin "object.__init_subclass__", .ref 402] }
def xF409 (P : Params) : Obj := { cls := .type "dict", data := .dict #[g P "__module__" 816 (.str "framering.recorder" 610), g P "__qualname__" 818 (.str "CallLine" 817), g P "__firstlineno__" 820 (.int 303 819), g P "__init__" 827 (.ref 420), g P "answer" 837 (.ref 427), g P "lay" 850 (.ref 434), g P "__static_attributes__" 852 (.ref 435)] 7 }
def xF411 (P : Params) : Obj := { cls := .none, data := .fields #[.int 305 0, .int 4 0, .ref 419, .int 308 0, .int 4 0, .ref 426, .int 315 0, .int 4 0, .ref 433] }
def xF412 (P : Params) : Obj := { cls := .type "code", data := .fields #[.str "CallLine" 811, .str "CallLine" 812, .str "/claim/cut.py" 813, .int 303 0, .int 0 0, .int 0 0, .int 0 0, .int 0 0, .ref 410, .bool false, .int 181 0, .ref 411, .none, .none, .none, .none, .int 814 0, .int 303 0, .str "/claim/cut.py" 815] }
def xF413 (P : Params) : Obj := { cls := .type "frame", slots := #[some (.ref 412), some (.ref 3), some (.ref 409), none, some (.str "framering.recorder" 610), none, some (.ref 0)] }
def xF440 (P : Params) : Obj := { cls := .type "super", data := .fields #[.ref 437, .ref 437, .ref 437] }
def xF441 (P : Params) : Obj := { cls := .type "builtin_function_or_method", data := .fields #[.builtin "object.__init_subclass__", .ref 437] }
def tS (P : Params) : BT := (n (b0 P) (n (b1 P) (n (b3 P) (n (b7 P) l l) (n e l l)) (n (b5 P) (n (b9 P) l l) (n (xS13 P) l l))) (n (b2 P) (n (b4 P) (n (b8 P) l l) (n z l l)) (n (b6 P) (n (b10 P) l l) (n (xS14 P) l l))))
def hS (P : Params) : Heap := ⟨⟨[(b0 P), (b1 P), (b2 P), (b3 P), (b4 P), (b5 P), (b6 P), (b7 P), (b8 P), (b9 P), (b10 P), e, z, (xS13 P), (xS14 P)]⟩, { }⟩
def tA (P : Params) : BT := (n (b0 P) (n (b1 P) (n (xA3 P) (n (b7 P) (n (k 15 P) (n (c 33 P) (n (k 63 P) (n (c 129 P) l l) l) (n (k 95 P) (n (k 159 P) l l) l)) (n z (n (k 79 P) (n (k 143 P) l l) l) (n (xA111 P) l l))) (n z (n (k 39 P) (n (c 73 P) (n (k 135 P) l l) l) (n z (n (k 167 P) l l) l)) (n (k 55 P) (n (k 87 P) (n (k 151 P) l l) l) (n (k 119 P) l l)))) (n e (n (c 21 P) (n z (n (k 67 P) (n z l l) l) (n (c 101 P) (n (xA163 P) l l) l)) (n (k 51 P) (n (k 83 P) (n (k 147 P) l l) l) (n (xA115 P) l l))) (n (k 27 P) (n (c 45 P) (n z (n (k 139 P) l l) l) (n (k 107 P) (n (k 171 P) l l) l)) (n (k 59 P) (n (k 91 P) (n (c 157 P) l l) l) (n (k 123 P) l l))))) (n (b5 P) (n (b9 P) (n (k 17 P) (n (k 33 P) (n (k 65 P) (n (k 129 P) l l) l) (n (k 97 P) (n (k 161 P) l l) l)) (n (k 49 P) (n (k 81 P) (n z l l) l) (n (xA113 P) l l))) (n (k 25 P) (n (k 41 P) (n (k 73 P) (n (k 137 P) l l) l) (n (k 105 P) (n (c 171 P) l l) l)) (n (c 59 P) (n z (n (k 153 P) l l) l) (n (k 121 P) l l)))) (n (xS13 P) (n (k 21 P) (n (k 37 P) (n (k 69 P) (n (k 133 P) l l) l) (n (k 101 P) (n (k 165 P) l l) l)) (n (k 53 P) (n (c 87 P) (n (k 149 P) l l) l) (n z l l))) (n (k 29 P) (n (k 45 P) (n (k 77 P) (n (c 143 P) l l) l) (n e l l)) (n z (n (k 93 P) (n (k 157 P) l l) l) (n (k 125 P) l l)))))) (n (b2 P) (n (b4 P) (n (b8 P) (n z (n (k 32 P) (n (c 66 P) (n (k 128 P) l l) l) (n z (n (k 160 P) l l) l)) (n (k 48 P) (n (k 80 P) (n (k 144 P) l l) l) (n e l l))) (n (k 24 P) (n z (n (k 72 P) (n (k 136 P) l l) l) (n (k 104 P) (n (k 168 P) l l) l)) (n (k 56 P) (n (k 88 P) (n z l l) l) (n (c 122 P) l l)))) (n (xA12 P) (n (k 20 P) (n (c 38 P) (n z (n (k 132 P) l l) l) (n (k 100 P) (n (xA164 P) l l) l)) (n (k 52 P) (n (k 84 P) (n (c 150 P) l l) l) (n (k 116 P) l l))) (n (k 28 P) (n (k 44 P) (n (k 76 P) (n (k 140 P) l l) l) (n (k 108 P) (n (k 172 P) l l) l)) (n (k 60 P) (n (c 94 P) (n (k 156 P) l l) l) (n z l l))))) (n (b6 P) (n (b10 P) (n (k 18 P) (n (k 34 P) (n (k 66 P) (n (k 130 P) l l) l) (n (k 98 P) (n (k 162 P) l l) l)) (n (c 52 P) (n z (n (k 146 P) l l) l) (n (xA114 P) l l))) (n (c 28 P) (n (k 42 P) (n (k 74 P) (n z l l) l) (n (c 108 P) (n (k 170 P) l l) l)) (n (k 58 P) (n (k 90 P) (n (k 154 P) l l) l) (n (k 122 P) l l)))) (n (xS14 P) (n (k 22 P) (n (k 38 P) (n (k 70 P) (n (c 136 P) l l) l) (n (k 102 P) (n z l l) l)) (n z (n (k 86 P) (n (k 150 P) l l) l) (n (k 118 P) l l))) (n z (n (k 46 P) (n (c 80 P) (n (k 142 P) l l) l) (n (xA110 P) l l)) (n (k 62 P) (n (k 94 P) (n (k 158 P) l l) l) (n (k 126 P) l l)))))))
def tB (P : Params) : BT := (n (b0 P) (n (b1 P) (n (xB3 P) (n (b7 P) (n (k 15 P) (n (c 33 P) (n (k 63 P) (n (c 129 P) (n (k 255 P) l l) l) (n (c 193 P) l l)) (n (k 95 P) (n (k 159 P) (n (k 287 P) l l) l) (n (k 223 P) l l))) (n z (n (k 79 P) (n (k 143 P) (n (k 271 P) l l) l) (n z l l)) (n (xA111 P) (n (xB175 P) l l) (n (xA110 P) l l)))) (n z (n (k 39 P) (n (c 73 P) (n (k 135 P) (n (k 263 P) l l) l) (n (xB199 P) l l)) (n z (n (k 167 P) l l) (n (k 231 P) l l))) (n (k 55 P) (n (k 87 P) (n (k 151 P) (n z l l) l) (n (c 217 P) l l)) (n (k 119 P) (n (k 183 P) l l) (n (c 249 P) l l))))) (n e (n (c 21 P) (n z (n (k 67 P) (n z (n (k 259 P) l l) l) (n (k 195 P) l l)) (n (c 101 P) (n (xA163 P) (n (k 291 P) l l) l) (n (k 227 P) l l))) (n (k 51 P) (n (k 83 P) (n (k 147 P) (n (c 277 P) l l) l) (n (k 211 P) l l)) (n (xA115 P) (n (xB179 P) l l) (n (xB243 P) l l)))) (n (k 27 P) (n (c 45 P) (n z (n (k 139 P) (n (k 267 P) l l) l) (n (c 205 P) l l)) (n (k 107 P) (n (k 171 P) l l) (n (c 237 P) l l))) (n (k 59 P) (n (k 91 P) (n (c 157 P) (n (k 283 P) l l) l) (n z l l)) (n (k 123 P) (n (k 187 P) l l) (n z l l)))))) (n (b5 P) (n (b9 P) (n (k 17 P) (n (k 33 P) (n (k 65 P) (n (k 129 P) (n (k 257 P) l l) l) (n (k 193 P) l l)) (n (k 97 P) (n (k 161 P) (n (xB289 P) l l) l) (n (c 227 P) l l))) (n (k 49 P) (n (k 81 P) (n z (n (k 273 P) l l) l) (n (k 209 P) l l)) (n (xA113 P) (n (xB177 P) l l) (n e l l)))) (n (k 25 P) (n (k 41 P) (n (k 73 P) (n (k 137 P) (n z l l) l) (n (k 201 P) l l)) (n (k 105 P) (n (c 171 P) l l) (n (k 233 P) l l))) (n (c 59 P) (n z (n (k 153 P) (n (k 281 P) l l) l) (n (k 217 P) l l)) (n (k 121 P) (n (k 185 P) l l) (n (k 249 P) l l))))) (n (xS13 P) (n (k 21 P) (n (k 37 P) (n (k 69 P) (n (k 133 P) (n (c 263 P) l l) l) (n (k 197 P) l l)) (n (k 101 P) (n (k 165 P) l l) (n z l l))) (n (k 53 P) (n (c 87 P) (n (k 149 P) (n (k 277 P) l l) l) (n (k 213 P) l l)) (n z (n z l l) (n (k 245 P) l l)))) (n (k 29 P) (n (k 45 P) (n (k 77 P) (n (c 143 P) (n (k 269 P) l l) l) (n (k 205 P) l l)) (n e (n e l l) (n (k 237 P) l l))) (n z (n (k 93 P) (n (k 157 P) (n (k 285 P) l l) l) (n (k 221 P) l l)) (n (k 125 P) (n (k 189 P) l l) (n (k 253 P) l l))))))) (n (b2 P) (n (b4 P) (n (b8 P) (n z (n (k 32 P) (n (c 66 P) (n (k 128 P) (n (k 256 P) l l) l) (n (k 192 P) l l)) (n z (n (k 160 P) (n (xB288 P) l l) l) (n z l l))) (n (k 48 P) (n (k 80 P) (n (k 144 P) (n z l l) l) (n (k 208 P) l l)) (n e (n e l l) (n (xB240 P) l l)))) (n (k 24 P) (n z (n (k 72 P) (n (k 136 P) (n (k 264 P) l l) l) (n (xB200 P) l l)) (n (k 104 P) (n (k 168 P) l l) (n (k 232 P) l l))) (n (k 56 P) (n (k 88 P) (n z (n (c 282 P) l l) l) (n (k 216 P) l l)) (n (c 122 P) (n (c 186 P) l l) (n (k 248 P) l l))))) (n (xB12 P) (n (k 20 P) (n (c 38 P) (n z (n (k 132 P) (n (k 260 P) l l) l) (n (k 196 P) l l)) (n (k 100 P) (n (xA164 P) l l) (n (k 228 P) l l))) (n (k 52 P) (n (k 84 P) (n (c 150 P) (n (k 276 P) l l) l) (n (k 212 P) l l)) (n (k 116 P) (n (k 180 P) l l) (n (xB244 P) l l)))) (n (k 28 P) (n (k 44 P) (n (k 76 P) (n (k 140 P) (n (c 270 P) l l) l) (n (k 204 P) l l)) (n (k 108 P) (n (k 172 P) l l) (n (k 236 P) l l))) (n (k 60 P) (n (c 94 P) (n (k 156 P) (n (k 284 P) l l) l) (n (c 222 P) l l)) (n z (n z l l) (n (k 252 P) l l)))))) (n (b6 P) (n (b10 P) (n (k 18 P) (n (k 34 P) (n (k 66 P) (n (k 130 P) (n z l l) l) (n (k 194 P) l l)) (n (k 98 P) (n (k 162 P) (n (k 290 P) l l) l) (n (k 226 P) l l))) (n (c 52 P) (n z (n (k 146 P) (n (k 274 P) l l) l) (n (c 212 P) l l)) (n (xA114 P) (n (xB178 P) l l) (n (xB242 P) l l)))) (n (c 28 P) (n (k 42 P) (n (k 74 P) (n z (n (k 266 P) l l) l) (n z l l)) (n (c 108 P) (n (k 170 P) l l) (n z l l))) (n (k 58 P) (n (k 90 P) (n (k 154 P) (n (k 282 P) l l) l) (n (k 218 P) l l)) (n (k 122 P) (n (k 186 P) l l) (n (k 250 P) l l))))) (n (xS14 P) (n (k 22 P) (n (k 38 P) (n (k 70 P) (n (c 136 P) (n (k 262 P) l l) l) (n (k 198 P) l l)) (n (k 102 P) (n z l l) (n (c 232 P) l l))) (n z (n (k 86 P) (n (k 150 P) (n (k 278 P) l l) l) (n z l l)) (n (k 118 P) (n (k 182 P) l l) (n z l l)))) (n z (n (k 46 P) (n (c 80 P) (n (k 142 P) (n (k 270 P) l l) l) (n (k 206 P) l l)) (n (xA110 P) (n (xA110 P) l l) (n e l l))) (n (k 62 P) (n (k 94 P) (n (k 158 P) (n (k 286 P) l l) l) (n (k 222 P) l l)) (n (k 126 P) (n (k 190 P) l l) (n (c 256 P) l l))))))))
def tF (P : Params) : BT := (n (b0 P) (n (b1 P) (n (k 3 P) (n (b7 P) (n (k 15 P) (n (c 33 P) (n (k 63 P) (n (c 129 P) (n (k 255 P) l l) (n (k 383 P) l l)) (n (c 193 P) (n (k 319 P) l l) (n (k 447 P) l l))) (n (k 95 P) (n (k 159 P) (n (k 287 P) l l) (n z l l)) (n (k 223 P) (n (k 351 P) l l) l))) (n z (n (k 79 P) (n (k 143 P) (n (k 271 P) l l) (n (k 399 P) l l)) (n z (n z l l) l)) (n (xA111 P) (n (xB175 P) (n (c 305 P) l l) (n (k 431 P) l l)) (n (xA110 P) (n (k 367 P) l l) l)))) (n z (n (k 39 P) (n (c 73 P) (n (k 135 P) (n (k 263 P) l l) (n (k 391 P) l l)) (n (xB199 P) (n (k 327 P) l l) (n (k 455 P) l l))) (n z (n (k 167 P) (n e l l) (n (k 423 P) l l)) (n (k 231 P) (n (c 361 P) l l) l))) (n (k 55 P) (n (k 87 P) (n (k 151 P) (n z l l) (n e l l)) (n (c 217 P) (n (k 343 P) l l) l)) (n (k 119 P) (n (k 183 P) (n (k 311 P) l l) (n (k 439 P) l l)) (n (c 249 P) (n z l l) l))))) (n e (n (c 21 P) (n z (n (k 67 P) (n z (n (k 259 P) l l) (n (k 387 P) l l)) (n (k 195 P) (n (k 323 P) l l) (n (k 451 P) l l))) (n (c 101 P) (n (xA163 P) (n (k 291 P) l l) (n (k 419 P) l l)) (n (k 227 P) (n (k 355 P) l l) l))) (n (k 51 P) (n (k 83 P) (n (k 147 P) (n (c 277 P) l l) (n (k 403 P) l l)) (n (k 211 P) (n (k 339 P) l l) l)) (n (xA115 P) (n (xB179 P) (n z l l) (n (k 435 P) l l)) (n (xB243 P) (n (c 373 P) l l) l)))) (n (k 27 P) (n (c 45 P) (n z (n (k 139 P) (n (k 267 P) l l) (n (k 395 P) l l)) (n (c 205 P) (n (c 333 P) l l) (n (k 459 P) l l))) (n (k 107 P) (n (k 171 P) (n (k 299 P) l l) (n (k 427 P) l l)) (n (c 237 P) (n z l l) l))) (n (k 59 P) (n (k 91 P) (n (c 157 P) (n (k 283 P) l l) (n (xF411 P) l l)) (n z (n (k 347 P) l l) l)) (n (k 123 P) (n (k 187 P) (n (k 315 P) l l) (n z l l)) (n z (n (k 379 P) l l) l)))))) (n (b5 P) (n (b9 P) (n (k 17 P) (n (k 33 P) (n (k 65 P) (n (k 129 P) (n (k 257 P) l l) (n (c 387 P) l l)) (n (k 193 P) (n z l l) (n (k 449 P) l l))) (n (k 97 P) (n (k 161 P) (n (xB289 P) l l) (n (k 417 P) l l)) (n (c 227 P) (n (k 353 P) l l) l))) (n (k 49 P) (n (k 81 P) (n z (n (k 273 P) l l) (n (k 401 P) l l)) (n (k 209 P) (n (k 337 P) l l) l)) (n (xA113 P) (n (xB177 P) (n (k 305 P) l l) (n (k 433 P) l l)) (n e (n (k 369 P) l l) l)))) (n (k 25 P) (n (k 41 P) (n (k 73 P) (n (k 137 P) (n z l l) (n (k 393 P) l l)) (n (k 201 P) (n (k 329 P) l l) (n z l l))) (n (k 105 P) (n (c 171 P) (n (xF297 P) l l) (n (c 427 P) l l)) (n (k 233 P) (n (k 361 P) l l) l))) (n (c 59 P) (n z (n (k 153 P) (n (k 281 P) l l) (n (xF409 P) l l)) (n (k 217 P) (n (c 347 P) l l) l)) (n (k 121 P) (n (k 185 P) (n (k 313 P) l l) (n (xF441 P) l l)) (n (k 249 P) (n (k 377 P) l l) l))))) (n (xS13 P) (n (k 21 P) (n (k 37 P) (n (k 69 P) (n (k 133 P) (n (c 263 P) l l) (n z l l)) (n (k 197 P) (n (k 325 P) l l) (n (c 455 P) l l))) (n (k 101 P) (n (k 165 P) (n (xA110 P) l l) (n (k 421 P) l l)) (n z (n (k 357 P) l l) l))) (n (k 53 P) (n (c 87 P) (n (k 149 P) (n (k 277 P) l l) (n (xF405 P) l l)) (n (k 213 P) (n (k 341 P) l l) l)) (n z (n z (n (k 309 P) l l) (n (k 437 P) l l)) (n (k 245 P) (n (k 373 P) l l) l)))) (n (k 29 P) (n (k 45 P) (n (k 77 P) (n (c 143 P) (n (k 269 P) l l) (n (c 399 P) l l)) (n (k 205 P) (n (k 333 P) l l) (n (k 461 P) l l))) (n e (n e (n (k 301 P) l l) (n z l l)) (n (k 237 P) (n (k 365 P) l l) l))) (n z (n (k 93 P) (n (k 157 P) (n (k 285 P) l l) (n (xF413 P) l l)) (n (k 221 P) (n z l l) l)) (n (k 125 P) (n (k 189 P) (n (c 319 P) l l) (n (k 445 P) l l)) (n (k 253 P) (n (k 381 P) l l) l))))))) (n (b2 P) (n (b4 P) (n (b8 P) (n z (n (k 32 P) (n (c 66 P) (n (k 128 P) (n (k 256 P) l l) (n (k 384 P) l l)) (n (k 192 P) (n (k 320 P) l l) (n (k 448 P) l l))) (n z (n (k 160 P) (n (xB288 P) l l) (n (k 416 P) l l)) (n z (n (c 354 P) l l) l))) (n (k 48 P) (n (k 80 P) (n (k 144 P) (n z l l) (n (k 400 P) l l)) (n (k 208 P) (n (k 336 P) l l) l)) (n e (n e (n (k 304 P) l l) (n (c 434 P) l l)) (n (xB240 P) (n (k 368 P) l l) l)))) (n (k 24 P) (n z (n (k 72 P) (n (k 136 P) (n (k 264 P) l l) (n (k 392 P) l l)) (n (xB200 P) (n z l l) (n (k 456 P) l l))) (n (k 104 P) (n (k 168 P) (n (xF296 P) l l) (n (k 424 P) l l)) (n (k 232 P) (n (k 360 P) l l) l))) (n (k 56 P) (n (k 88 P) (n z (n (c 282 P) l l) (n (xA110 P) l l)) (n (k 216 P) (n (k 344 P) l l) l)) (n (c 122 P) (n (c 186 P) (n (k 312 P) l l) (n (xF440 P) l l)) (n (k 248 P) (n (k 376 P) l l) l))))) (n (xF12 P) (n (k 20 P) (n (c 38 P) (n z (n (k 132 P) (n (k 260 P) l l) (n (k 388 P) l l)) (n (k 196 P) (n (c 326 P) l l) (n (k 452 P) l l))) (n (k 100 P) (n (xA164 P) (n e l l) (n (k 420 P) l l)) (n (k 228 P) (n z l l) l))) (n (k 52 P) (n (k 84 P) (n (c 150 P) (n (k 276 P) l l) (n (k 404 P) l l)) (n (k 212 P) (n (k 340 P) l l) l)) (n (k 116 P) (n (k 180 P) (n (k 308 P) l l) (n (k 436 P) l l)) (n (xB244 P) (n (k 372 P) l l) l)))) (n (k 28 P) (n (k 44 P) (n (k 76 P) (n (k 140 P) (n (c 270 P) l l) (n (k 396 P) l l)) (n (k 204 P) (n (k 332 P) l l) (n (c 462 P) l l))) (n (k 108 P) (n (k 172 P) (n z l l) (n (k 428 P) l l)) (n (k 236 P) (n (k 364 P) l l) l))) (n (k 60 P) (n (c 94 P) (n (k 156 P) (n (k 284 P) l l) (n (xF412 P) l l)) (n (c 222 P) (n (k 348 P) l l) l)) (n z (n z (n (k 316 P) l l) (n (k 444 P) l l)) (n (k 252 P) (n (k 380 P) l l) l)))))) (n (b6 P) (n (b10 P) (n (k 18 P) (n (k 34 P) (n (k 66 P) (n (k 130 P) (n z l l) (n (k 386 P) l l)) (n (k 194 P) (n (k 322 P) l l) (n z l l))) (n (k 98 P) (n (k 162 P) (n (k 290 P) l l) (n (c 420 P) l l)) (n (k 226 P) (n (k 354 P) l l) l))) (n (c 52 P) (n z (n (k 146 P) (n (k 274 P) l l) (n (k 402 P) l l)) (n (c 212 P) (n (c 340 P) l l) l)) (n (xA114 P) (n (xB178 P) (n (k 306 P) l l) (n (k 434 P) l l)) (n (xB242 P) (n z l l) l)))) (n (c 28 P) (n (k 42 P) (n (k 74 P) (n z (n (k 266 P) l l) (n z l l)) (n z (n (k 330 P) l l) (n (k 458 P) l l))) (n (c 108 P) (n (k 170 P) (n (xF298 P) l l) (n (k 426 P) l l)) (n z (n (k 362 P) l l) l))) (n (k 58 P) (n (k 90 P) (n (k 154 P) (n (k 282 P) l l) (n e l l)) (n (k 218 P) (n (k 346 P) l l) l)) (n (k 122 P) (n (k 186 P) (n z l l) (n (k 442 P) l l)) (n (k 250 P) (n (c 380 P) l l) l))))) (n (xS14 P) (n (k 22 P) (n (k 38 P) (n (k 70 P) (n (c 136 P) (n (k 262 P) l l) (n (c 392 P) l l)) (n (k 198 P) (n (k 326 P) l l) (n (k 454 P) l l))) (n (k 102 P) (n z (n (xF294 P) l l) (n z l l)) (n (c 232 P) (n (k 358 P) l l) l))) (n z (n (k 86 P) (n (k 150 P) (n (k 278 P) l l) (n (xF406 P) l l)) (n z (n z l l) l)) (n (k 118 P) (n (k 182 P) (n (c 312 P) l l) (n (k 438 P) l l)) (n z (n (k 374 P) l l) l)))) (n z (n (k 46 P) (n (c 80 P) (n (k 142 P) (n (k 270 P) l l) (n (k 398 P) l l)) (n (k 206 P) (n (k 334 P) l l) (n (k 462 P) l l))) (n (xA110 P) (n (xA110 P) (n (k 302 P) l l) (n (k 430 P) l l)) (n e (n (c 368 P) l l) l))) (n (k 62 P) (n (k 94 P) (n (k 158 P) (n (k 286 P) l l) (n (k 414 P) l l)) (n (k 222 P) (n (k 350 P) l l) l)) (n (k 126 P) (n (k 190 P) (n (k 318 P) l l) (n (c 448 P) l l)) (n (c 256 P) (n z l l) l))))))))
def hF (P : Params) : Heap := ⟨⟨[(b0 P), (b1 P), (b2 P), (k 3 P), (b4 P), (b5 P), (b6 P), (b7 P), (b8 P), (b9 P), (b10 P), e, (xF12 P), (xS13 P), (xS14 P), (k 15 P), z, (k 17 P), (k 18 P), (c 21 P), (k 20 P), (k 21 P), (k 22 P), z, (k 24 P), (k 25 P), (c 28 P), (k 27 P), (k 28 P), (k 29 P), z, (c 33 P), (k 32 P), (k 33 P), (k 34 P), z, (c 38 P), (k 37 P), (k 38 P), (k 39 P), z, (k 41 P), (k 42 P), (c 45 P), (k 44 P), (k 45 P), (k 46 P), z, (k 48 P), (k 49 P), (c 52 P), (k 51 P), (k 52 P), (k 53 P), z, (k 55 P), (k 56 P), (c 59 P), (k 58 P), (k 59 P), (k 60 P), z, (k 62 P), (k 63 P), (c 66 P), (k 65 P), (k 66 P), (k 67 P), z, (k 69 P), (k 70 P), (c 73 P), (k 72 P), (k 73 P), (k 74 P), z, (k 76 P), (k 77 P), (c 80 P), (k 79 P), (k 80 P), (k 81 P), z, (k 83 P), (k 84 P), (c 87 P), (k 86 P), (k 87 P), (k 88 P), z, (k 90 P), (k 91 P), (c 94 P), (k 93 P), (k 94 P), (k 95 P), z, (k 97 P), (k 98 P), (c 101 P), (k 100 P), (k 101 P), (k 102 P), z, (k 104 P), (k 105 P), (c 108 P), (k 107 P), (k 108 P), e, (xA110 P), (xA111 P), e, (xA113 P), (xA114 P), (xA115 P), (k 116 P), z, (k 118 P), (k 119 P), (c 122 P), (k 121 P), (k 122 P), (k 123 P), z, (k 125 P), (k 126 P), (c 129 P), (k 128 P), (k 129 P), (k 130 P), z, (k 132 P), (k 133 P), (c 136 P), (k 135 P), (k 136 P), (k 137 P), z, (k 139 P), (k 140 P), (c 143 P), (k 142 P), (k 143 P), (k 144 P), z, (k 146 P), (k 147 P), (c 150 P), (k 149 P), (k 150 P), (k 151 P), z, (k 153 P), (k 154 P), (c 157 P), (k 156 P), (k 157 P), (k 158 P), (k 159 P), (k 160 P), (k 161 P), (k 162 P), (xA163 P), (xA164 P), (k 165 P), z, (k 167 P), (k 168 P), (c 171 P), (k 170 P), (k 171 P), (k 172 P), e, (xA110 P), (xB175 P), e, (xB177 P), (xB178 P), (xB179 P), (k 180 P), z, (k 182 P), (k 183 P), (c 186 P), (k 185 P), (k 186 P), (k 187 P), z, (k 189 P), (k 190 P), (c 193 P), (k 192 P), (k 193 P), (k 194 P), (k 195 P), (k 196 P), (k 197 P), (k 198 P), (xB199 P), (xB200 P), (k 201 P), z, (c 205 P), (k 204 P), (k 205 P), (k 206 P), z, (k 208 P), (k 209 P), (c 212 P), (k 211 P), (k 212 P), (k 213 P), z, (c 217 P), (k 216 P), (k 217 P), (k 218 P), z, (c 222 P), (k 221 P), (k 222 P), (k 223 P), z, (c 227 P), (k 226 P), (k 227 P), (k 228 P), z, (c 232 P), (k 231 P), (k 232 P), (k 233 P), z, (c 237 P), (k 236 P), (k 237 P), e, (xA110 P), (xB240 P), e, (xB242 P), (xB243 P), (xB244 P), (k 245 P), z, (c 249 P), (k 248 P), (k 249 P), (k 250 P), z, (k 252 P), (k 253 P), (c 256 P), (k 255 P), (k 256 P), (k 257 P), z, (k 259 P), (k 260 P), (c 263 P), (k 262 P), (k 263 P), (k 264 P), z, (k 266 P), (k 267 P), (c 270 P), (k 269 P), (k 270 P), (k 271 P), z, (k 273 P), (k 274 P), (c 277 P), (k 276 P), (k 277 P), (k 278 P), z, (c 282 P), (k 281 P), (k 282 P), (k 283 P), (k 284 P), (k 285 P), (k 286 P), (k 287 P), (xB288 P), (xB289 P), (k 290 P), (k 291 P), e, (xA110 P), (xF294 P), e, (xF296 P), (xF297 P), (xF298 P), (k 299 P), z, (k 301 P), (k 302 P), (c 305 P), (k 304 P), (k 305 P), (k 306 P), z, (k 308 P), (k 309 P), (c 312 P), (k 311 P), (k 312 P), (k 313 P), z, (k 315 P), (k 316 P), (c 319 P), (k 318 P), (k 319 P), (k 320 P), z, (k 322 P), (k 323 P), (c 326 P), (k 325 P), (k 326 P), (k 327 P), z, (k 329 P), (k 330 P), (c 333 P), (k 332 P), (k 333 P), (k 334 P), z, (k 336 P), (k 337 P), (c 340 P), (k 339 P), (k 340 P), (k 341 P), z, (k 343 P), (k 344 P), (c 347 P), (k 346 P), (k 347 P), (k 348 P), z, (k 350 P), (k 351 P), (c 354 P), (k 353 P), (k 354 P), (k 355 P), z, (k 357 P), (k 358 P), (c 361 P), (k 360 P), (k 361 P), (k 362 P), z, (k 364 P), (k 365 P), (c 368 P), (k 367 P), (k 368 P), (k 369 P), z, (c 373 P), (k 372 P), (k 373 P), (k 374 P), z, (k 376 P), (k 377 P), (c 380 P), (k 379 P), (k 380 P), (k 381 P), z, (k 383 P), (k 384 P), (c 387 P), (k 386 P), (k 387 P), (k 388 P), z, (c 392 P), (k 391 P), (k 392 P), (k 393 P), z, (k 395 P), (k 396 P), (c 399 P), (k 398 P), (k 399 P), (k 400 P), (k 401 P), (k 402 P), (k 403 P), (k 404 P), (xF405 P), (xF406 P), e, (xA110 P), (xF409 P), e, (xF411 P), (xF412 P), (xF413 P), (k 414 P), z, (k 416 P), (k 417 P), (c 420 P), (k 419 P), (k 420 P), (k 421 P), z, (k 423 P), (k 424 P), (c 427 P), (k 426 P), (k 427 P), (k 428 P), z, (k 430 P), (k 431 P), (c 434 P), (k 433 P), (k 434 P), (k 435 P), (k 436 P), (k 437 P), (k 438 P), (k 439 P), (xF440 P), (xF441 P), (k 442 P), z, (k 444 P), (k 445 P), (c 448 P), (k 447 P), (k 448 P), (k 449 P), z, (k 451 P), (k 452 P), (c 455 P), (k 454 P), (k 455 P), (k 456 P), z, (k 458 P), (k 459 P), (c 462 P), (k 461 P), (k 462 P)]⟩, { }⟩

def en : Env := { scope := pg.main.scope, locals := mainNs, globals := mainNs, cells := [], code := .ref 13, frame := some 14 }
def bd : List Stmt := behindTheImports pg
def cE : Code := .body bd en
def q0 : Pos := ⟨0, 0, 0, 0⟩
def qA : Pos := ⟨126, 0, 126, 14⟩
def qB : Pos := ⟨209, 0, 209, 7⟩
def qF : Pos := ⟨348, 0, 364, 16⟩
def sT (t : Params → BT) (m k : Nat) (w : World) (os : OsState) : SharedT := ⟨t w.params, m, {}, #[], {}, k, os⟩
def l1 : List Stmt := bd.take 31
def l2 : List Stmt := (bd.drop 31).take 33
def l3 : List Stmt := (bd.drop 31).drop 33
end Fr
end
open PySem PySem.W PyProof.Rows
namespace Fr
theorem pc1 : ∀ (w : World) (os : OsState), segRunT treeTable pg w 11 (some (.ref 6)) 1 986 (sT tS 15 187 w os) (piecesOf l1 en cE q0 [topFrame q0]) = some (.next, sT tA 173 426 w os, cE, qA) := by
  rw [PySem.W.Fast.te10110043849684766642, PySem.W.Fast.te14364793385576792824]
  exact fun w os => by kernel_rfl
end Fr
open PySem PySem.W PyProof.Rows
namespace Fr
theorem pc2 : ∀ (w : World) (os : OsState), segRunT treeTable pg w 11 (some (.ref 6)) 1 1091 (sT tA 173 426 w os) (piecesOf l2 en cE qA [topFrame q0]) = some (.next, sT tB 292 652 w os, cE, qB) := by
  rw [PySem.W.Fast.te10110043849684766642, PySem.W.Fast.te14364793385576792824]
  exact fun w os => by kernel_rfl
theorem pc3 : ∀ (w : World) (os : OsState), segRunT treeTable pg w 11 (some (.ref 6)) 1 1076 (sT tB 292 652 w os) (piecesOf l3 en cE qB [topFrame q0]) = some (.next, sT tF 463 895 w os, cE, qF) := by
  rw [PySem.W.Fast.te10110043849684766642, PySem.W.Fast.te14364793385576792824]
  exact fun w os => by kernel_rfl
end Fr
open PySem PySem.W PyProof.Rows
namespace Fr
theorem pc0 : ∀ (w : World) (os : OsState), topGo treeTable pg w 11 (some (.ref 6)) 12 ⟨boot_heap w.params, #[], boot_drawn, boot_toks, os⟩ (topStub pg) = some ((sT tS 15 187 w os).abs, ⟨denote treeTable cE, cE, q0, [topFrame q0]⟩) := by
  rw [PySem.W.Fast.te15667345088766844465, PySem.W.Fast.te11892475500146522536, PySem.W.Fast.te14364793385576792824]
  exact fun w os => by kernel_rfl
theorem pcb : ∀ (w : World) (os : OsState), segRun treeTable pg w 11 (some (.ref 6)) 1 1 (sT tS 15 187 w os).abs (blockOf bd en cE q0 [topFrame q0]) = some (.next, (sT tS 15 187 w os).abs, cE, q0) := by
  rw [PySem.W.Fast.te14374325043358763698, PySem.W.Fast.te14364793385576792824]
  exact fun w os => by kernel_rfl
theorem pcf : ∀ (w : World) (os : OsState), topRun treeTable pg w 11 (some (.ref 6)) 2 (sT tF 463 895 w os).abs ⟨doneF .next, cE, qF, [topFrame q0]⟩ = some ⟨hF w.params, #[], {}, 895, os⟩ := by
  rw [PySem.W.Fast.te14082659384304107361, PySem.W.Fast.te14364793385576792824]
  exact fun w os => by kernel_rfl
end Fr
open PySem PySem.W PyProof.Rows
namespace Fr
theorem parts (l : List Stmt) : l = l.take 31 ++ ((l.drop 31).take 33 ++ ((l.drop 31).drop 33 ++ [])) := by
  rw [List.append_nil, List.take_append_drop, List.take_append_drop]
theorem run_ (w : World) (os : OsState) : topRun treeTable pg w 11 (some (.ref 6)) (12 + (1 + (986 + (1091 + (1076 + 2))))) ⟨boot_heap w.params, #[], boot_drawn, boot_toks, os⟩ (topStub pg) = some ⟨hF w.params, #[], {}, 895, os⟩ := by
  have h : topRun treeTable pg w 11 (some (.ref 6)) (986 + (1091 + (1076 + 2))) (sT tS 15 187 w os).abs (restOf (l1 ++ (l2 ++ (l3 ++ []))) en cE q0 [topFrame q0]) = some ⟨hF w.params, #[], {}, 895, os⟩ :=
    piece_app (segRun_of (pc1 w os)) (piece_app (segRun_of (pc2 w os)) (piece_app (segRun_of (pc3 w os)) (piece_nil (pcf w os))))
  have e : restOf bd en cE q0 [topFrame q0] = restOf (l1 ++ (l2 ++ (l3 ++ []))) en cE q0 [topFrame q0] := congrArg (fun b => restOf b en cE q0 [topFrame q0]) (parts bd)
  rw [← e] at h
  exact go_top (pc0 w os) (piece_block (pcb w os) h)
theorem open_ : ∀ w : World, (fencedOpening treeTable pg w 6426).map (fun s => (s.heap, s.gens, s.drawn, s.toks)) = some (boot_heap w.params, Array.mk [], boot_drawn, boot_toks) :=
  boot_open (by kernel_rfl) (by decide) (fun s => by kernel_rfl)
theorem size_ : ∀ w : World, ((boot_heap w.params).isNs mainGlobals && (#[] : Array GenState).size == 0, (boot_heap w.params).objs.size, (boot_heap w.params).nsMap mainGlobals "__annotations__") = (true, 11, some (.ref 6)) := by
  rw [PySem.W.Fast.te8920871248978507458]
  exact fun w => by kernel_rfl
end Fr
open PySem PySem.W PyProof.Rows
noncomputable section
namespace Fr
def view : Program := { pg with main := { pg.main with body := [top 1, top 2, top 3, top 4, top 5, top 6, top 7, top 8, top 9, top 10, top 11, top 12, top 14, top 15, top 16, top 17, top 18, top 19, top 20, top 21, top 22, top 23, top 24, top 25, top 27, top 28, top 29, top 30, top 31, top 32, top 33, top 34, top 35, top 36, top 37, top 38, top 39, top 40, top 41, top 42, top 43, top 44, top 46, top 47, top 49, top 50, top 51, top 52, top 53, top 54, top 55, top 56, top 57, top 58, top 59, top 60, top 61, top 62, top 63, top 64, top 65, top 66, top 67, top 68] } }
def ha : List Addr := [2, 3, 15, 17, 18, 20, 21, 22, 24, 25, 27, 28, 29, 32, 33, 34, 37, 38, 39, 41, 42, 44, 45, 46, 48, 49, 51, 52, 53, 55, 56, 58, 59, 60, 62, 63, 65, 66, 67, 69, 70, 72, 73, 74, 76, 77, 79, 80, 81, 83, 84, 86, 87, 88, 90, 91, 93, 94, 95, 97, 98, 100, 101, 102, 104, 105, 107, 108, 116, 118, 119, 121, 122, 123, 125, 126, 128, 129, 130, 132, 133, 135, 136, 137, 139, 140, 142, 143, 144, 146, 147, 149, 150, 151, 153, 154, 156, 157, 158, 159, 160, 161, 162, 165, 167, 168, 170, 171, 172, 180, 182, 183, 185, 186, 187, 189, 190, 192, 193, 194, 195, 196, 197, 198, 201, 204, 205, 206, 208, 209, 211, 212, 213, 216, 217, 218, 221, 222, 223, 226, 227, 228, 231, 232, 233, 236, 237, 245, 248, 249, 250, 252, 253, 255, 256, 257, 259, 260, 262, 263, 264, 266, 267, 269, 270, 271, 273, 274, 276, 277, 278, 281, 282, 283, 284, 285, 286, 287, 290, 291, 299, 301, 302, 304, 305, 306, 308, 309, 311, 312, 313, 315, 316, 318, 319, 320, 322, 323, 325, 326, 327, 329, 330, 332, 333, 334, 336, 337, 339, 340, 341, 343, 344, 346, 347, 348, 350, 351, 353, 354, 355, 357, 358, 360, 361, 362, 364, 365, 367, 368, 369, 372, 373, 374, 376, 377, 379, 380, 381, 383, 384, 386, 387, 388, 391, 392, 393, 395, 396, 398, 399, 400, 401, 402, 403, 404, 414, 416, 417, 419, 420, 421, 423, 424, 426, 427, 428, 430, 431, 433, 434, 435, 436, 437, 438, 439, 442, 444, 445, 447, 448, 449, 451, 452, 454, 455, 456, 458, 459, 461, 462]
theorem ha_eq : ∀ P, ha = (kept.heap_1 P).map (·.1) := fun _ => by kernel_rfl
noncomputable abbrev hk : Hook := kHook kept.heap_1 ha ha_eq
abbrev sF (w : World) (os : OsState) : Shared := ⟨hF w.params, #[], {}, 895, os⟩
theorem look1 : ∀ (w : World) (os : OsState), (staticsOk (importedModules pg.main.body) (boot_heap w.params) (hF w.params) && namesBound pg (hF w.params) && gensDone (sF w os) && laidKept (boot_heap w.params) (hF w.params)) = true := by
  rw [PySem.W.Fast.te5923862056798008813]
  exact fun w os => by kernel_rfl
theorem look3 : ∀ (w : World) (os : OsState), hk.obs (sF w os) = hk.val w := fun w os => by kernel_rfl
theorem look2 : ∀ (w : World) (os : OsState), openSeen view [] (importedModules pg.main.body) (fun s => xlAt view [] s && recOk [] s) true (sF w os) = openGood view [] := by
  rw [PySem.W.Fast.te5923862056798008813, PySem.W.Fast.te4187177175401517315]
  exact fun w os => by kernel_rfl
end Fr
end
open PySem PySem.W PyProof.Rows
theorem Fr.left_ : LeftO Fr.pg Fr.view [] (fun s => xlAt Fr.view [] s && recOk [] s) Fr.hk.obs Fr.hk.val 6426 :=
  LeftO.of_pieces Fr.open_ Fr.size_ Fr.run_ (by decide) (fun w => funext fun os => by
    rw [Fr.look1 w os, Fr.look2 w os, Fr.look3 w os])
local macro_rules | `(tactic| o_headS $_) => `(tactic| refine holds_os (q := Fr.view) (loose := []) (Xt := fun s => xlAt Fr.view [] s && recOk [] s) (XP := XL Fr.view []) (Yf := Hook.obs (kHook Fr.kept.heap_1 Fr.ha Fr.ha_eq)) (Ya := Hook.val (kHook Fr.kept.heap_1 Fr.ha Fr.ha_eq)) (YP := Hook.says (kHook Fr.kept.heap_1 Fr.ha Fr.ha_eq)) (N := 6426) Fr.left_ (Hook.of (kHook Fr.kept.heap_1 Fr.ha Fr.ha_eq)) (Hook.keeps (kHook Fr.kept.heap_1 Fr.ha Fr.ha_eq))
    (fun s e => xl_of s (Bool.and_eq_true_iff.mp e).1) XL.keeps (by rfl) (by rfl) (by rfl) (fun s e => recFacts_of (Bool.and_eq_true_iff.mp e).2) os_shapes (by decide +kernel) (by decide +kernel) ⟨rfl, rfl, rfl, rfl, rfl, by decide +kernel⟩ ?hw ?hc)
set_option maxRecDepth 100000 in
set_option maxHeartbeats 0 in
theorem PySem.Challenge.cw_framering_s01_answers_holds : PySem.Challenge.rw_framering_s01_answers.Holds := by
  w_on; k_headS
  (case hw => exact ⟨[.list [.int 4]], by decide +kernel, by decide +kernel⟩)
  k_fillS
  refine L2.walk_specK (r := PySem.Challenge.rw_framering_s01_answers) (k := 12) (CX := L2.CX0) (ps := ["calls"]) (sp := Fr.spAns) (by decide +kernel) rfl rfl ⟨rfl, by decide, by decide⟩ (fun w h Y => PySem.W.kIn_of Y) ?F ?S (fun _ _ _ _ z => z)
  case F =>
    intro w mg fa h Y KX G hmg
    refine' Fr.all_mk KX G hmg ?z_sum ?z_len ?z_zip ?z_all ?z_range ?z_max ?z_list ?z_enumerate ?z_sorted ?i_HEAD ?i_TAIL ?i_MOST_PARAMETERS ?i_WIDEST ?i_LONGEST_PERIOD ?i_DONE ?i_BEGIN ?i_END ?i_ESCAPE ?i_LOST ?i_DOUBLED ?i_FLIPPED ?i_OUT_OF_RANGE ?i_NOTHING_LAID ?i_FRAME_TOO_WIDE ?i_WRONG_VALUES ?i_SLOT_HURT ?i_NUMBERS_USED_UP ?i_LAST_NUMBER ?i_MOST_HEARD ?i_LAY ?i_RECORD ?i_CUT ?i_FLIP ?i_RESTART ?i_READ ?i_SLOT ?i_DUMP ?i_HEAR ?i_LISTEN ?i_NEXT_NUMBER ?a_q0 ?l_q0 ?c_q0 ?k_q0 ?a_q1 ?l_q1 ?c_q1 ?k_q1 ?a_q2 ?l_q2 ?c_q2 ?k_q2 ?a_q3 ?l_q3 ?c_q3 ?k_q3 ?a_q4 ?l_q4 ?c_q4 ?k_q4 ?a_q5 ?l_q5 ?c_q5 ?k_q5 ?a_q6 ?l_q6 ?c_q6 ?k_q6 ?a_q7 ?l_q7 ?c_q7 ?k_q7 ?a_q8 ?l_q8 ?c_q8 ?k_q8 ?a_q9 ?l_q9 ?c_q9 ?k_q9 ?a_q10 ?l_q10 ?c_q10 ?k_q10 ?a_q11 ?l_q11 ?c_q11 ?k_q11 ?a_q12 ?l_q12 ?c_q12 ?k_q12 ?a_q13 ?l_q13 ?c_q13 ?k_q13 ?a_q14 ?l_q14 ?c_q14 ?k_q14 ?a_q15 ?l_q15 ?c_q15 ?k_q15 ?a_q16 ?l_q16 ?c_q16 ?k_q16 ?a_q17 ?l_q17 ?c_q17 ?k_q17 ?a_q18 ?l_q18 ?c_q18 ?k_q18 ?a_q19 ?l_q19 ?c_q19 ?k_q19 ?a_q20 ?l_q20 ?c_q20 ?k_q20 ?a_q21 ?l_q21 ?c_q21 ?k_q21 ?a_q22 ?l_q22 ?c_q22 ?k_q22 ?a_q23 ?l_q23 ?c_q23 ?k_q23 ?a_answers ?l_answers ?c_answers ?k_answers ?a_Ear ?a_q24 ?i_q24 ?l_q24 ?c_q24 ?k_q24 ?mk_Ear ?kc_Ear ?a_q25 ?i_q25 ?l_q25 ?c_q25 ?k_q25 ?a_q26 ?i_q26 ?l_q26 ?c_q26 ?k_q26 ?a_q27 ?i_q27 ?l_q27 ?c_q27 ?k_q27 ?a_q28 ?i_q28 ?l_q28 ?c_q28 ?k_q28 ?a_q29 ?i_q29 ?l_q29 ?c_q29 ?k_q29 ?pg_Ear ?hd_Ear ?po_Ear ?sa_Ear ?n_Ear_length ?n_Ear_heard ?n_Ear_begun ?n_Ear_waits ?a_Parameter ?a_q30 ?i_q30 ?l_q30 ?c_q30 ?k_q30 ?mk_Parameter ?kc_Parameter ?a_q31 ?i_q31 ?l_q31 ?c_q31 ?k_q31 ?pg_Parameter ?hd_Parameter ?po_Parameter ?sa_Parameter ?n_Parameter_width ?n_Parameter_period ?n_Parameter_phase ?a_Ring ?a_q32 ?i_q32 ?l_q32 ?c_q32 ?k_q32 ?mk_Ring ?kc_Ring ?a_q33 ?i_q33 ?l_q33 ?c_q33 ?k_q33 ?a_q34 ?i_q34 ?l_q34 ?c_q34 ?k_q34 ?a_q35 ?i_q35 ?l_q35 ?c_q35 ?k_q35 ?a_q36 ?i_q36 ?l_q36 ?c_q36 ?k_q36 ?a_q37 ?i_q37 ?l_q37 ?c_q37 ?k_q37 ?pg_Ring ?hd_Ring ?po_Ring ?sa_Ring ?n_Ring_size ?n_Ring_length ?n_Ring_slots ?n_Ring_hurt ?a_Recorder ?a_q38 ?i_q38 ?l_q38 ?c_q38 ?k_q38 ?mk_Recorder ?kc_Recorder ?a_q39 ?i_q39 ?l_q39 ?c_q39 ?k_q39 ?a_q40 ?i_q40 ?l_q40 ?c_q40 ?k_q40 ?a_q41 ?i_q41 ?l_q41 ?c_q41 ?k_q41 ?a_q42 ?i_q42 ?l_q42 ?c_q42 ?k_q42 ?a_q43 ?i_q43 ?l_q43 ?c_q43 ?k_q43 ?a_q44 ?i_q44 ?l_q44 ?c_q44 ?k_q44 ?a_q45 ?i_q45 ?l_q45 ?c_q45 ?k_q45 ?a_q46 ?i_q46 ?l_q46 ?c_q46 ?k_q46 ?a_q47 ?i_q47 ?l_q47 ?c_q47 ?k_q47 ?a_q48 ?i_q48 ?l_q48 ?c_q48 ?k_q48 ?a_q49 ?i_q49 ?l_q49 ?c_q49 ?k_q49 ?a_q50 ?i_q50 ?l_q50 ?c_q50 ?k_q50 ?a_q51 ?i_q51 ?l_q51 ?c_q51 ?k_q51 ?a_q52 ?i_q52 ?l_q52 ?c_q52 ?k_q52 ?pg_Recorder ?hd_Recorder ?po_Recorder ?sa_Recorder ?n_Recorder_ring ?n_Recorder_length ?n_Recorder_first ?n_Recorder_parameters ?n_Recorder_upcoming ?n_Recorder_cut_after ?n_Recorder_frames_recorded ?n_Recorder_powers_lost ?n_Recorder_bits_flipped ?a_CallLine ?a_q53 ?i_q53 ?l_q53 ?c_q53 ?k_q53 ?mk_CallLine ?kc_CallLine ?a_q54 ?i_q54 ?l_q54 ?c_q54 ?k_q54 ?a_q55 ?i_q55 ?l_q55 ?c_q55 ?k_q55 ?pg_CallLine ?hd_CallLine ?po_CallLine ?sa_CallLine ?n_CallLine_recorder ?a_PERIODS ?l_PERIODS ?a_NUMBER_COUNTS ?l_NUMBER_COUNTS ?a_HAS_ROW ?l_HAS_ROW
    (case z_sum => k_is)
    (case z_len => k_is)
    (case z_zip => k_is)
    (case z_all => k_is)
    (case z_range => k_is)
    (case z_max => k_is)
    (case z_list => k_is)
    (case z_enumerate => k_is)
    (case z_sorted => k_is)
    (case i_HEAD => k_is)
    (case i_TAIL => k_is)
    (case i_MOST_PARAMETERS => k_is)
    (case i_WIDEST => k_is)
    (case i_LONGEST_PERIOD => k_is)
    (case i_DONE => k_is)
    (case i_BEGIN => k_is)
    (case i_END => k_is)
    (case i_ESCAPE => k_is)
    (case i_LOST => k_is)
    (case i_DOUBLED => k_is)
    (case i_FLIPPED => k_is)
    (case i_OUT_OF_RANGE => k_is)
    (case i_NOTHING_LAID => k_is)
    (case i_FRAME_TOO_WIDE => k_is)
    (case i_WRONG_VALUES => k_is)
    (case i_SLOT_HURT => k_is)
    (case i_NUMBERS_USED_UP => k_is)
    (case i_LAST_NUMBER => k_is)
    (case i_MOST_HEARD => k_is)
    (case i_LAY => k_is)
    (case i_RECORD => k_is)
    (case i_CUT => k_is)
    (case i_FLIP => k_is)
    (case i_RESTART => k_is)
    (case i_READ => k_is)
    (case i_SLOT => k_is)
    (case i_DUMP => k_is)
    (case i_HEAR => k_is)
    (case i_LISTEN => k_is)
    (case i_NEXT_NUMBER => k_is)
    (case a_q0 => k_is)
    (case l_q0 => k_is)
    (case c_q0 => k_is)
    (case k_q0 => k_is)
    (case a_q1 => k_is)
    (case l_q1 => k_is)
    (case c_q1 => k_is)
    (case k_q1 => k_is)
    (case a_q2 => k_is)
    (case l_q2 => k_is)
    (case c_q2 => k_is)
    (case k_q2 => k_is)
    (case a_q3 => k_is)
    (case l_q3 => k_is)
    (case c_q3 => k_is)
    (case k_q3 => k_is)
    (case a_q4 => k_is)
    (case l_q4 => k_is)
    (case c_q4 => k_is)
    (case k_q4 => k_is)
    (case a_q5 => k_is)
    (case l_q5 => k_is)
    (case c_q5 => k_is)
    (case k_q5 => k_is)
    (case a_q6 => k_is)
    (case l_q6 => k_is)
    (case c_q6 => k_is)
    (case k_q6 => k_is)
    (case a_q7 => k_is)
    (case l_q7 => k_is)
    (case c_q7 => k_is)
    (case k_q7 => k_is)
    (case a_q8 => k_is)
    (case l_q8 => k_is)
    (case c_q8 => k_is)
    (case k_q8 => k_is)
    (case a_q9 => k_is)
    (case l_q9 => k_is)
    (case c_q9 => k_is)
    (case k_q9 => k_is)
    (case a_q10 => k_is)
    (case l_q10 => k_is)
    (case c_q10 => k_is)
    (case k_q10 => k_is)
    (case a_q11 => k_is)
    (case l_q11 => k_is)
    (case c_q11 => k_is)
    (case k_q11 => k_is)
    (case a_q12 => k_is)
    (case l_q12 => k_is)
    (case c_q12 => k_is)
    (case k_q12 => k_is)
    (case a_q13 => k_is)
    (case l_q13 => k_is)
    (case c_q13 => k_is)
    (case k_q13 => k_is)
    (case a_q14 => k_is)
    (case l_q14 => k_is)
    (case c_q14 => k_is)
    (case k_q14 => k_is)
    (case a_q15 => k_is)
    (case l_q15 => k_is)
    (case c_q15 => k_is)
    (case k_q15 => k_is)
    (case a_q16 => k_is)
    (case l_q16 => k_is)
    (case c_q16 => k_is)
    (case k_q16 => k_is)
    (case a_q17 => k_is)
    (case l_q17 => k_is)
    (case c_q17 => k_is)
    (case k_q17 => k_is)
    (case a_q18 => k_is)
    (case l_q18 => k_is)
    (case c_q18 => k_is)
    (case k_q18 => k_is)
    (case a_q19 => k_is)
    (case l_q19 => k_is)
    (case c_q19 => k_is)
    (case k_q19 => k_is)
    (case a_q20 => k_is)
    (case l_q20 => k_is)
    (case c_q20 => k_is)
    (case k_q20 => k_is)
    (case a_q21 => k_is)
    (case l_q21 => k_is)
    (case c_q21 => k_is)
    (case k_q21 => k_is)
    (case a_q22 => k_is)
    (case l_q22 => k_is)
    (case c_q22 => k_is)
    (case k_q22 => k_is)
    (case a_q23 => k_is)
    (case l_q23 => k_is)
    (case c_q23 => k_is)
    (case k_q23 => k_is)
    (case a_answers => k_is)
    (case l_answers => k_is)
    (case c_answers => k_is)
    (case k_answers => k_is)
    (case a_Ear => k_is)
    (case a_q24 => k_is)
    (case i_q24 => k_is)
    (case l_q24 => k_is)
    (case c_q24 => k_is)
    (case k_q24 => k_is)
    (case mk_Ear => k_is)
    (case kc_Ear => k_is)
    (case a_q25 => k_is)
    (case i_q25 => k_is)
    (case l_q25 => k_is)
    (case c_q25 => k_is)
    (case k_q25 => k_is)
    (case a_q26 => k_is)
    (case i_q26 => k_is)
    (case l_q26 => k_is)
    (case c_q26 => k_is)
    (case k_q26 => k_is)
    (case a_q27 => k_is)
    (case i_q27 => k_is)
    (case l_q27 => k_is)
    (case c_q27 => k_is)
    (case k_q27 => k_is)
    (case a_q28 => k_is)
    (case i_q28 => k_is)
    (case l_q28 => k_is)
    (case c_q28 => k_is)
    (case k_q28 => k_is)
    (case a_q29 => k_is)
    (case i_q29 => k_is)
    (case l_q29 => k_is)
    (case c_q29 => k_is)
    (case k_q29 => k_is)
    (case pg_Ear => k_is)
    (case hd_Ear => k_is)
    (case po_Ear => k_is)
    (case sa_Ear => k_is)
    (case n_Ear_length => k_is)
    (case n_Ear_heard => k_is)
    (case n_Ear_begun => k_is)
    (case n_Ear_waits => k_is)
    (case a_Parameter => k_is)
    (case a_q30 => k_is)
    (case i_q30 => k_is)
    (case l_q30 => k_is)
    (case c_q30 => k_is)
    (case k_q30 => k_is)
    (case mk_Parameter => k_is)
    (case kc_Parameter => k_is)
    (case a_q31 => k_is)
    (case i_q31 => k_is)
    (case l_q31 => k_is)
    (case c_q31 => k_is)
    (case k_q31 => k_is)
    (case pg_Parameter => k_is)
    (case hd_Parameter => k_is)
    (case po_Parameter => k_is)
    (case sa_Parameter => k_is)
    (case n_Parameter_width => k_is)
    (case n_Parameter_period => k_is)
    (case n_Parameter_phase => k_is)
    (case a_Ring => k_is)
    (case a_q32 => k_is)
    (case i_q32 => k_is)
    (case l_q32 => k_is)
    (case c_q32 => k_is)
    (case k_q32 => k_is)
    (case mk_Ring => k_is)
    (case kc_Ring => k_is)
    (case a_q33 => k_is)
    (case i_q33 => k_is)
    (case l_q33 => k_is)
    (case c_q33 => k_is)
    (case k_q33 => k_is)
    (case a_q34 => k_is)
    (case i_q34 => k_is)
    (case l_q34 => k_is)
    (case c_q34 => k_is)
    (case k_q34 => k_is)
    (case a_q35 => k_is)
    (case i_q35 => k_is)
    (case l_q35 => k_is)
    (case c_q35 => k_is)
    (case k_q35 => k_is)
    (case a_q36 => k_is)
    (case i_q36 => k_is)
    (case l_q36 => k_is)
    (case c_q36 => k_is)
    (case k_q36 => k_is)
    (case a_q37 => k_is)
    (case i_q37 => k_is)
    (case l_q37 => k_is)
    (case c_q37 => k_is)
    (case k_q37 => k_is)
    (case pg_Ring => k_is)
    (case hd_Ring => k_is)
    (case po_Ring => k_is)
    (case sa_Ring => k_is)
    (case n_Ring_size => k_is)
    (case n_Ring_length => k_is)
    (case n_Ring_slots => k_is)
    (case n_Ring_hurt => k_is)
    (case a_Recorder => k_is)
    (case a_q38 => k_is)
    (case i_q38 => k_is)
    (case l_q38 => k_is)
    (case c_q38 => k_is)
    (case k_q38 => k_is)
    (case mk_Recorder => k_is)
    (case kc_Recorder => k_is)
    (case a_q39 => k_is)
    (case i_q39 => k_is)
    (case l_q39 => k_is)
    (case c_q39 => k_is)
    (case k_q39 => k_is)
    (case a_q40 => k_is)
    (case i_q40 => k_is)
    (case l_q40 => k_is)
    (case c_q40 => k_is)
    (case k_q40 => k_is)
    (case a_q41 => k_is)
    (case i_q41 => k_is)
    (case l_q41 => k_is)
    (case c_q41 => k_is)
    (case k_q41 => k_is)
    (case a_q42 => k_is)
    (case i_q42 => k_is)
    (case l_q42 => k_is)
    (case c_q42 => k_is)
    (case k_q42 => k_is)
    (case a_q43 => k_is)
    (case i_q43 => k_is)
    (case l_q43 => k_is)
    (case c_q43 => k_is)
    (case k_q43 => k_is)
    (case a_q44 => k_is)
    (case i_q44 => k_is)
    (case l_q44 => k_is)
    (case c_q44 => k_is)
    (case k_q44 => k_is)
    (case a_q45 => k_is)
    (case i_q45 => k_is)
    (case l_q45 => k_is)
    (case c_q45 => k_is)
    (case k_q45 => k_is)
    (case a_q46 => k_is)
    (case i_q46 => k_is)
    (case l_q46 => k_is)
    (case c_q46 => k_is)
    (case k_q46 => k_is)
    (case a_q47 => k_is)
    (case i_q47 => k_is)
    (case l_q47 => k_is)
    (case c_q47 => k_is)
    (case k_q47 => k_is)
    (case a_q48 => k_is)
    (case i_q48 => k_is)
    (case l_q48 => k_is)
    (case c_q48 => k_is)
    (case k_q48 => k_is)
    (case a_q49 => k_is)
    (case i_q49 => k_is)
    (case l_q49 => k_is)
    (case c_q49 => k_is)
    (case k_q49 => k_is)
    (case a_q50 => k_is)
    (case i_q50 => k_is)
    (case l_q50 => k_is)
    (case c_q50 => k_is)
    (case k_q50 => k_is)
    (case a_q51 => k_is)
    (case i_q51 => k_is)
    (case l_q51 => k_is)
    (case c_q51 => k_is)
    (case k_q51 => k_is)
    (case a_q52 => k_is)
    (case i_q52 => k_is)
    (case l_q52 => k_is)
    (case c_q52 => k_is)
    (case k_q52 => k_is)
    (case pg_Recorder => k_is)
    (case hd_Recorder => k_is)
    (case po_Recorder => k_is)
    (case sa_Recorder => k_is)
    (case n_Recorder_ring => k_is)
    (case n_Recorder_length => k_is)
    (case n_Recorder_first => k_is)
    (case n_Recorder_parameters => k_is)
    (case n_Recorder_upcoming => k_is)
    (case n_Recorder_cut_after => k_is)
    (case n_Recorder_frames_recorded => k_is)
    (case n_Recorder_powers_lost => k_is)
    (case n_Recorder_bits_flipped => k_is)
    (case a_CallLine => k_is)
    (case a_q53 => k_is)
    (case i_q53 => k_is)
    (case l_q53 => k_is)
    (case c_q53 => k_is)
    (case k_q53 => k_is)
    (case mk_CallLine => k_is)
    (case kc_CallLine => k_is)
    (case a_q54 => k_is)
    (case i_q54 => k_is)
    (case l_q54 => k_is)
    (case c_q54 => k_is)
    (case k_q54 => k_is)
    (case a_q55 => k_is)
    (case i_q55 => k_is)
    (case l_q55 => k_is)
    (case c_q55 => k_is)
    (case k_q55 => k_is)
    (case pg_CallLine => k_is)
    (case hd_CallLine => k_is)
    (case po_CallLine => k_is)
    (case sa_CallLine => k_is)
    (case n_CallLine_recorder => k_is)
    (case a_PERIODS => k_is)
    (case l_PERIODS => k_is)
    (case a_NUMBER_COUNTS => k_is)
    (case l_NUMBER_COUNTS => k_is)
    (case a_HAS_ROW => k_is)
    (case l_HAS_ROW => k_is)
  case S =>
    intro K H xs a hO hwi hask hx
    cases hx with
    | cons h1 h2 =>
      cases h2
      cases h1 with
      | lst hs ha =>
        have e := L2.ints_dw a.1 _ ha
        subst e
        have q : ((Codec.inLen 0 17000 a.1 && a.1.all (Codec.inInt (-1000000000000000000) 1000000000000000000)) && true) = true := hwi
        rw [Bool.and_eq_true, Bool.and_eq_true] at q
        exact ⟨_, a.1, rfl, hs, (Codec.inNat_iff.mp q.1.1).2, hask, fun H' p hp => .lst (L2.SqL.of hp) (L2.dw_ints _)⟩
#print axioms PySem.Challenge.cw_framering_s01_answers_holds
